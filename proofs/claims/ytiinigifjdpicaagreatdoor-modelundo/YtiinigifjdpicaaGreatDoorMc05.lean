/- Texts of my own, laid together. -/
import Derived.Test.YtiinigifjdpicaaGreatDoorMc04
import Derived.Lib.AppendZeros
import Derived.Test.YtiinigifjdpicaaGreatDoorMc00
import Derived.Test.YtiinigifjdpicaaGreatDoorMc01
namespace Go.Proofs.YtiinigifjdpicaaGreatDoor.Se
open Go.RowKit
set_option linter.all false
structure ReqV where
 kind : Int
 acct : Int
 lane : Int
 asset : Int
 side : Int
 price : Int
 n : Int
 now : Bool
 key : KeyV
 dst : Int
def reqC (r : ReqV) : Array Value := #[.int .i64 r.kind, .int .i64 r.acct, .int .i64 r.lane, .int .i64 r.asset, .int .i64 r.side, .int .i64 r.price, .int .i64 r.n, .bool r.now, .int .i64 r.key.1, .int .i64 r.key.2, .int .i64 r.dst]
def formT : List (Int × Int) := [(0, 0), (37, 1), (37, 1), (123, 3), (35, 2), (2, 2), (2, 2), (1, 5), (1, 1), (384, 8)]
def formF (k : Int) : Int := (formT.getD k.toNat (0, 0)).1
def formK (k : Int) : Int := (formT.getD k.toNat (0, 0)).2
def Forms (w : World) : Prop := 0 < w.heap.size ∧ ∀ k : Int, 1 ≤ k → k ≤ 9 → w.cell? ⟨0, k.toNat * 2, none⟩ = some (.int .i64 (formF k)) ∧ w.cell? ⟨0, k.toNat * 2 + 1, none⟩ = some (.int .i64 (formK k))
theorem Forms.keep {w w' : World} (h : Forms w) (hb : Below w.heap.size w w') : Forms w' :=
 ⟨Nat.lt_of_lt_of_le h.1 hb.size, fun k h1 h2 => ⟨(hb.cell (p := ⟨0, k.toNat * 2, none⟩) h.1).trans (h.2 k h1 h2).1, (hb.cell (p := ⟨0, k.toNat * 2 + 1, none⟩) h.1).trans (h.2 k h1 h2).2⟩⟩
def fitsB (r : ReqV) : Bool :=
 wiB r.kind 1 9 && (fitB (bits .and .i64 (formF r.kind) 1) r.acct 1 8 && (fitB (bits .and .i64 (formF r.kind) 2) r.lane 1 3 && (fitB (bits .and .i64 (formF r.kind) 4) r.asset 0 3 && (fitB (bits .and .i64 (formF r.kind) 8) r.side 1 2 && (fitB (bits .and .i64 (formF r.kind) 16) r.price 1 1000000 && (fitB (bits .and .i64 (formF r.kind) 32) r.n 1 1000000 && ((bits .and .i64 (formF r.kind) 64 != 0 || !r.now) && (fitK (bits .and .i64 (formF r.kind) 128) r.key && fitB (bits .and .i64 (formF r.kind) 256) r.dst 0 3))))))))
set_option maxHeartbeats 8000000 in
set_option maxRecDepth 100000 in
theorem fits_is (r : ReqV) (w : World) (hF : Forms w) : Calls Tryz.prog 21 #[.agg (reqC r)] w fun e w' => e = .returned (.bool (fitsB r)) ∧ Below w.heap.size w w' := by
 obtain ⟨k, a, l, s, d, p, n, o, ⟨kk, kn⟩, t⟩ := r;unfold reqC;dsimp only;have X0 := hideIt (below1 w (.cells #[.int .i64 k, .int .i64 a, .int .i64 l, .int .i64 s, .int .i64 d, .int .i64 p, .int .i64 n, .bool o, .int .i64 kk, .int .i64 kn, .int .i64 t] 26));have H0 := hideIt (fun W => withinS_is k 1 9 W);unfold fitsB;dsimp only
 by_cases hk : 1 ≤ k ∧ k ≤ 9
 ·have hk1 := hk.1;have hk2 := hk.2;have hw : wiB k 1 9 = true := decide_eq_true hk;rw [hw] at H0 ⊢;rw [Bool.true_and];have c0 := (X0.out.cell (p := ⟨0, k.toNat * 2, none⟩) hF.1).trans (hF.2 k hk1 hk2).1;clear hF hk hw;generalize formF k = has at *;have F1 := hideIt (fun W => fitsN_is (bits .and .i64 has 1) a 1 8 W);have F2 := hideIt (fun W => fitsN_is (bits .and .i64 has 2) l 1 3 W);have F4 := hideIt (fun W => fitsN_is (bits .and .i64 has 4) s 0 3 W);have F8 := hideIt (fun W => fitsN_is (bits .and .i64 has 8) d 1 2 W);have F16 := hideIt (fun W => fitsN_is (bits .and .i64 has 16) p 1 1000000 W);have F32 := hideIt (fun W => fitsN_is (bits .and .i64 has 32) n 1 1000000 W);have F128 := hideIt (fun W => fitsKey_is (bits .and .i64 has 128) kk kn W);have F256 := hideIt (fun W => fitsN_is (bits .and .i64 has 256) t 0 3 W);have XC : Hid (∀ W, Below (w.alloc (.cells #[.int .i64 k, .int .i64 a, .int .i64 l, .int .i64 s, .int .i64 d, .int .i64 p, .int .i64 n, .bool o, .int .i64 kk, .int .i64 kn, .int .i64 t] 26)).heap.size (w.alloc (.cells #[.int .i64 k, .int .i64 a, .int .i64 l, .int .i64 s, .int .i64 d, .int .i64 p, .int .i64 n, .bool o, .int .i64 kk, .int .i64 kn, .int .i64 t] 26)) W → W.cell? ⟨w.heap.size, 10, none⟩ = some (.int .i64 t)) := fun W hb => box_cell hb 10
  generalize fitB (bits .and .i64 has 1) a 1 8 = b1 at *;generalize fitB (bits .and .i64 has 2) l 1 3 = b2 at *;generalize fitB (bits .and .i64 has 4) s 0 3 = b4 at *;generalize fitB (bits .and .i64 has 8) d 1 2 = b8 at *;generalize fitB (bits .and .i64 has 16) p 1 1000000 = b16 at *;generalize fitB (bits .and .i64 has 32) n 1 1000000 = b32 at *;generalize fitK (bits .and .i64 has 128) (kk, kn) = b128 at *;generalize fitB (bits .and .i64 has 256) t 0 3 = b256 at *
  go_enter Tryz.func21, Tryz.ntmps21
  go_wp2_with fail
  refine (H0.out _).mono ?_;rintro e w1 ⟨rfl, rfl⟩;dsimp only
  go_wp2_with fail
  refine (F1.out _).mono ?_;rintro e w1 ⟨rfl, rfl⟩;dsimp only;cases b1
  ·go_wp2
   all_goals go_ret
   all_goals exact ⟨by simp, X0.out⟩
  go_wp2_with fail
  refine (F2.out _).mono ?_;rintro e w1 ⟨rfl, rfl⟩;dsimp only;cases b2
  ·go_wp2
   all_goals go_ret
   all_goals exact ⟨by simp, X0.out⟩
  go_wp2_with fail
  refine (F4.out _).mono ?_;rintro e w1 ⟨rfl, rfl⟩;dsimp only;cases b4
  ·go_wp2
   all_goals go_ret
   all_goals exact ⟨by simp, X0.out⟩
  go_wp2_with fail
  refine (F8.out _).mono ?_;rintro e w1 ⟨rfl, rfl⟩;dsimp only;cases b8
  ·go_wp2
   all_goals go_ret
   all_goals exact ⟨by simp, X0.out⟩
  go_wp2_with fail
  refine (F16.out _).mono ?_;rintro e w1 ⟨rfl, rfl⟩;dsimp only;cases b16
  ·go_wp2
   all_goals go_ret
   all_goals exact ⟨by simp, X0.out⟩
  go_wp2_with fail
  refine (F32.out _).mono ?_;rintro e w1 ⟨rfl, rfl⟩;dsimp only;cases b32
  ·go_wp2
   all_goals go_ret
   all_goals exact ⟨by simp, X0.out⟩
  cases hb : (bits .and .i64 has 64 != 0)
  ·cases o
   ·go_wp2_with fail
    refine (F128.out _).mono ?_;rintro e w1 ⟨rfl, hb1⟩;dsimp only;have x10 := XC.out _ hb1;have HB := hideIt (below_via X0.out hb1);clear hb1;cases b128
    ·go_wp2;go_ret
     exact ⟨by rw [hb]; simp, HB.out⟩
    ·go_wp2_with fail
     refine (F256.out _).mono ?_;rintro e w1 ⟨rfl, rfl⟩;dsimp only;go_wp2;go_ret
     exact ⟨by rw [hb]; simp, HB.out⟩
   ·go_wp2;go_ret
    exact ⟨by rw [hb]; simp, X0.out⟩
  ·go_wp2_with fail
   refine (F128.out _).mono ?_;rintro e w1 ⟨rfl, hb1⟩;dsimp only;have x10 := XC.out _ hb1;have HB := hideIt (below_via X0.out hb1);clear hb1;cases b128
   ·go_wp2;go_ret
    exact ⟨by rw [hb]; simp, HB.out⟩
   ·go_wp2_with fail
    refine (F256.out _).mono ?_;rintro e w1 ⟨rfl, rfl⟩;dsimp only;go_wp2;go_ret
    exact ⟨by rw [hb]; simp, HB.out⟩
 ·have hw : wiB k 1 9 = false := decide_eq_false hk;rw [hw] at H0 ⊢;rw [Bool.false_and]
  go_enter Tryz.func21, Tryz.ntmps21
  go_wp2_with fail
  refine (H0.out _).mono ?_;rintro e w1 ⟨rfl, rfl⟩;dsimp only;go_wp2;go_ret
  exact ⟨rfl, X0.out⟩
def keyE (k : KeyV) : List Value := [.int .i64 k.1, .int .i64 k.2]
theorem keyK (k : KeyV) : (keyE k).length = 2 := rfl
theorem key1 (k : KeyV) : ∀ u ∈ keyE k, u.oneCell' = true := by
 intro u hu;simp only [keyE, List.mem_cons, List.not_mem_nil, or_false] at hu
 rcases hu with rfl | rfl <;> rfl
theorem info23 : (Tryz.prog.info? 24).map (fun i => (i.zero, i.size, i.bytes)) = some (some (.agg #[.int .i64 0, .int .i64 0]), 2, 16) := by kernel_rfl
def keyT (tk : Int) (r : ReqV) : List KeyV := if tk = 1 then [(1, r.acct)] else if tk = 2 then [(2, r.lane)] else if tk = 3 then [(1, r.acct), (2, r.lane)] else if tk = 5 then [(1, r.acct), (2, 1), (2, 2), (2, 3)] else [r.key]
def keysB (r : ReqV) : List KeyV := if fitsB r = true then keyT (formK r.kind) r else []
theorem fits_kind {r : ReqV} (h : fitsB r = true) : 1 ≤ r.kind ∧ r.kind ≤ 9 := by
 unfold fitsB at h;rw [Bool.and_eq_true] at h;exact of_decide_eq_true h.1
theorem formK_five {k : Int} (h1 : 1 ≤ k) (h9 : k ≤ 9) : formK k = 1 ∨ formK k = 2 ∨ formK k = 3 ∨ formK k = 5 ∨ formK k = 8 := by
 have : k = 1 ∨ k = 2 ∨ k = 3 ∨ k = 4 ∨ k = 5 ∨ k = 6 ∨ k = 7 ∨ k = 8 ∨ k = 9 := by omega
 rcases this with rfl | rfl | rfl | rfl | rfl | rfl | rfl | rfl | rfl
 ·exact .inl rfl
 ·exact .inl rfl
 ·exact .inr (.inr (.inl rfl))
 ·exact .inr (.inl rfl)
 ·exact .inr (.inl rfl)
 ·exact .inr (.inl rfl)
 ·exact .inr (.inr (.inr (.inl rfl)))
 ·exact .inl rfl
 ·exact .inr (.inr (.inr (.inr rfl)))
def KeyOn (w W : World) (v : Value) (l : List KeyV) : Prop := W.ownsRow w.heap.size 24 2 v l.length (celC keyE l) ∧ Below w.heap.size w W
theorem key_app {w W : World} {v : Value} {l : List KeyV} (h : KeyOn w W v l) (hl : l.length ≤ 100) (k n : Int) : ∃ a' c' w', (Builtin.append_ #[48, 48] 48 #[v, .slice (some ⟨W.heap.size, 0, none⟩) 1 1]).run Tryz.prog (W.alloc (.cells #[.int .i64 k, .int .i64 n] 24)) = .ok (.slice a' (l.length + 1) c') w' ∧ KeyOn w w' (.slice a' (l.length + 1) c') (l ++ [(k, n)]) ∧ (∀ (b : Nat) (cs : Array Value) (t : TypeId), W.heap[b]? = some (.cells cs t (0, 0)) → t ≠ 24 → w'.heap[b]? = some (.cells cs t (0, 0))) := by
 have hb := below1 W (.cells #[.int .i64 k, .int .i64 n] 24);obtain ⟨v', w', hrun, how, hgr⟩ := app1 (enc := keyE) (t := 48) keyK key1 Tryz.underlying48 info23 rfl (by omega) (W.alloc (.cells #[.int .i64 k, .int .i64 n] 24)) w.heap.size v l (k, n) W.heap.size 1 (Nat.le_trans h.2.size hb.size) (own_keep h.1 hb) (heap_alloc_new W _) (by omega) (by unfold maxLen; omega)
 obtain ⟨a', c', rfl⟩ := own_len how;have hlen : (l ++ [(k, n)]).length = l.length + 1 := by simp
 rw [hlen] at hrun how;refine ⟨a', c', w', hrun, ⟨by rw [hlen]; exact how, grown_own hgr (own_keep h.1 hb) (Nat.le_refl _) (below_via h.2 hb)⟩, fun b cs t hbx hne => ?_⟩
 exact box_type hgr (own_keep h.1 hb) ((hb.block _ (Array.getElem?_eq_some_iff.1 hbx).1).trans hbx) (Ne.symm hne)
def KeyBack (l : List KeyV) (w : World) (e : Ending) (w' : World) : Prop := ∃ a c, e = .returned (.slice a l.length c) ∧ KeyOn w w' (.slice a l.length c) l
theorem req_at {w : World} {p : Nat} {k a l s d pr n kk kn t : Int} {o : Bool} (h : w.heap[p]? = some (.cells #[.int .i64 k, .int .i64 a, .int .i64 l, .int .i64 s, .int .i64 d, .int .i64 pr, .int .i64 n, .bool o, .int .i64 kk, .int .i64 kn, .int .i64 t] 26 (0, 0))) : w.cell? ⟨p, 0, none⟩ = some (.int .i64 k) ∧ w.cell? ⟨p, 1, none⟩ = some (.int .i64 a) ∧ w.cell? ⟨p, 2, none⟩ = some (.int .i64 l) ∧ w.cell? ⟨p, 8, none⟩ = some (.int .i64 kk) ∧ w.cell? ⟨p, 9, none⟩ = some (.int .i64 kn) :=
 ⟨by rw [cell_at h]; rfl, by rw [cell_at h]; rfl, by rw [cell_at h]; rfl, by rw [cell_at h]; rfl, by rw [cell_at h]; rfl⟩
set_option maxHeartbeats 8000000 in
set_option maxRecDepth 100000 in
theorem keys_is (r : ReqV) (w : World) (hF : Forms w) : Calls Tryz.prog 49 #[.agg (reqC r)] w (KeyBack (keysB r) w) := by
 have H0 := hideIt (fun W (hW : Below w.heap.size w W) => fits_is r W (hF.keep hW));have X0 := hideIt (And.intro (heap_alloc_new w (.cells (reqC r) 26)) (below1 w (.cells (reqC r) 26)));unfold keysB;cases hf : fitsB r
 ·rw [hf] at H0;rw [if_neg (by simp)];obtain ⟨k, a, l, s, d, p, n, o, ⟨kk, kn⟩, t⟩ := r;simp only [reqC] at *
  go_enter Tryz.func49, Tryz.ntmps49
  go_wp2_with fail
  refine (H0.out _ X0.out.2).mono ?_;rintro e w1 ⟨rfl, hb⟩;dsimp only;have HB := hideIt (below_via X0.out.2 hb);go_wp2;go_ret
  exact ⟨none, 0, rfl, own_nil _ _, HB.out⟩
 ·rw [hf] at H0;rw [if_pos rfl];obtain ⟨hk1, hk2⟩ := fits_kind hf;clear hf;have h5 := formK_five hk1 hk2;obtain ⟨k, a, l, s, d, p, n, o, ⟨kk, kn⟩, t⟩ := r;simp only [reqC] at *
  rcases h5 with htk | htk | htk | htk | htk
  ·rw [htk];have HR : Hid (keyT 1 ⟨k, a, l, s, d, p, n, o, (kk, kn), t⟩ = [] ++ [(1, a)]) := rfl;generalize keyT 1 ⟨k, a, l, s, d, p, n, o, (kk, kn), t⟩ = RES at *;have f1 : (bits .and .i64 1 1 != 0) = true := by kernel_rfl
   have f2 : (bits .and .i64 1 2 != 0) = false := by kernel_rfl
   have f4 : (bits .and .i64 1 4 != 0) = false := by kernel_rfl
   have f8 : (bits .and .i64 1 8 != 0) = false := by kernel_rfl
   go_enter Tryz.func49, Tryz.ntmps49
   go_wp2_with fail
   refine (H0.out _ X0.out.2).mono ?_;rintro e w1 ⟨rfl, hb⟩;dsimp only;have HX := hideIt ((hb.block _ (Array.getElem?_eq_some_iff.1 X0.out.1).1).trans X0.out.1);have HB := hideIt (below_via X0.out.2 hb);obtain ⟨r0, r1, r2, r8, r9⟩ := req_at HX.out;have c1 := (HB.out.cell (p := ⟨0, k.toNat * 2 + 1, none⟩) hF.1).trans (hF.2 k hk1 hk2).2;rw [htk] at c1;clear hb H0 X0 hF;have K0 : Hid (KeyOn w w1 (.slice none 0 0) []) := ⟨own_nil _ _, HB.out⟩;obtain ⟨a', c', w', hrun, HO', hkp⟩ := key_app K0.out (by simp) 1 a;simp only [List.length_nil, List.length_append, List.length_cons, Nat.zero_add, Nat.reduceAdd] at hrun HO';have HRUN := hideIt hrun;have K1 := hideIt HO';have HXn := hideIt (hkp _ _ _ HX.out (by decide));clear hrun HO' hkp K0
   go_wp2_with (at_builtin; refine Lib.wpList_append_run _ rfl _ _ _ _ rfl _ _ rfl rfl _ _ HRUN.out ?_)
   clear HRUN HX r0 r1 r2 r8 r9;have HX := hideIt HXn.out;clear HXn;obtain ⟨r0, r1, r2, r8, r9⟩ := req_at HX.out;go_wp2;go_ret;rw [HR.out]
   exact ⟨_, _, rfl, K1.out⟩
  ·rw [htk];have HR : Hid (keyT 2 ⟨k, a, l, s, d, p, n, o, (kk, kn), t⟩ = [] ++ [(2, l)]) := rfl;generalize keyT 2 ⟨k, a, l, s, d, p, n, o, (kk, kn), t⟩ = RES at *;have f1 : (bits .and .i64 2 1 != 0) = false := by kernel_rfl
   have f2 : (bits .and .i64 2 2 != 0) = true := by kernel_rfl
   have f4 : (bits .and .i64 2 4 != 0) = false := by kernel_rfl
   have f8 : (bits .and .i64 2 8 != 0) = false := by kernel_rfl
   go_enter Tryz.func49, Tryz.ntmps49
   go_wp2_with fail
   refine (H0.out _ X0.out.2).mono ?_;rintro e w1 ⟨rfl, hb⟩;dsimp only;have HX := hideIt ((hb.block _ (Array.getElem?_eq_some_iff.1 X0.out.1).1).trans X0.out.1);have HB := hideIt (below_via X0.out.2 hb);obtain ⟨r0, r1, r2, r8, r9⟩ := req_at HX.out;have c1 := (HB.out.cell (p := ⟨0, k.toNat * 2 + 1, none⟩) hF.1).trans (hF.2 k hk1 hk2).2;rw [htk] at c1;clear hb H0 X0 hF;have K0 : Hid (KeyOn w w1 (.slice none 0 0) []) := ⟨own_nil _ _, HB.out⟩;obtain ⟨a', c', w', hrun, HO', hkp⟩ := key_app K0.out (by simp) 2 l;simp only [List.length_nil, List.length_append, List.length_cons, Nat.zero_add, Nat.reduceAdd] at hrun HO';have HRUN := hideIt hrun;have K1 := hideIt HO';have HXn := hideIt (hkp _ _ _ HX.out (by decide));clear hrun HO' hkp K0
   go_wp2_with (at_builtin; refine Lib.wpList_append_run _ rfl _ _ _ _ rfl _ _ rfl rfl _ _ HRUN.out ?_)
   clear HRUN HX r0 r1 r2 r8 r9;have HX := hideIt HXn.out;clear HXn;obtain ⟨r0, r1, r2, r8, r9⟩ := req_at HX.out;go_wp2;go_ret;rw [HR.out]
   exact ⟨_, _, rfl, K1.out⟩
  ·rw [htk];have HR : Hid (keyT 3 ⟨k, a, l, s, d, p, n, o, (kk, kn), t⟩ = [] ++ [(1, a)] ++ [(2, l)]) := rfl;generalize keyT 3 ⟨k, a, l, s, d, p, n, o, (kk, kn), t⟩ = RES at *;have f1 : (bits .and .i64 3 1 != 0) = true := by kernel_rfl
   have f2 : (bits .and .i64 3 2 != 0) = true := by kernel_rfl
   have f4 : (bits .and .i64 3 4 != 0) = false := by kernel_rfl
   have f8 : (bits .and .i64 3 8 != 0) = false := by kernel_rfl
   go_enter Tryz.func49, Tryz.ntmps49
   go_wp2_with fail
   refine (H0.out _ X0.out.2).mono ?_;rintro e w1 ⟨rfl, hb⟩;dsimp only;have HX := hideIt ((hb.block _ (Array.getElem?_eq_some_iff.1 X0.out.1).1).trans X0.out.1);have HB := hideIt (below_via X0.out.2 hb);obtain ⟨r0, r1, r2, r8, r9⟩ := req_at HX.out;have c1 := (HB.out.cell (p := ⟨0, k.toNat * 2 + 1, none⟩) hF.1).trans (hF.2 k hk1 hk2).2;rw [htk] at c1;clear hb H0 X0 hF;have K0 : Hid (KeyOn w w1 (.slice none 0 0) []) := ⟨own_nil _ _, HB.out⟩;obtain ⟨a', c', w', hrun, HO', hkp⟩ := key_app K0.out (by simp) 1 a;simp only [List.length_nil, List.length_append, List.length_cons, Nat.zero_add, Nat.reduceAdd] at hrun HO';have HRUN := hideIt hrun;have HXn := hideIt (hkp _ _ _ HX.out (by decide));obtain ⟨s0, s1, s2, s8, s9⟩ := req_at HXn.out;obtain ⟨a2, c2, w2, hrun2, HO2, hkp2⟩ := key_app HO' (by simp) 2 l;simp only [List.length_nil, List.length_append, List.length_cons, Nat.zero_add, Nat.reduceAdd] at hrun2 HO2;have HRUN2 := hideIt hrun2;have K2 := hideIt HO2;clear hrun HO' hkp hrun2 HO2 hkp2 K0 HXn HX
   go_wp2_with (at_builtin; first | (refine Lib.wpList_append_run _ rfl _ _ _ _ rfl _ _ rfl rfl _ _ HRUN.out ?_) | (refine Lib.wpList_append_run _ rfl _ _ _ _ rfl _ _ rfl rfl _ _ HRUN2.out ?_))
   go_wp2;go_ret;rw [HR.out]
   exact ⟨_, _, rfl, K2.out⟩
  ·rw [htk];have HR : Hid (keyT 5 ⟨k, a, l, s, d, p, n, o, (kk, kn), t⟩ = [] ++ [(1, a)] ++ ([(2, 1), (2, 2), (2, 3)] : List KeyV).take 3) := rfl;generalize keyT 5 ⟨k, a, l, s, d, p, n, o, (kk, kn), t⟩ = RES at *;have f1 : (bits .and .i64 5 1 != 0) = true := by kernel_rfl
   have f2 : (bits .and .i64 5 2 != 0) = false := by kernel_rfl
   have f4 : (bits .and .i64 5 4 != 0) = true := by kernel_rfl
   have f8 : (bits .and .i64 5 8 != 0) = false := by kernel_rfl
   go_enter Tryz.func49, Tryz.ntmps49
   go_wp2_with fail
   refine (H0.out _ X0.out.2).mono ?_;rintro e w1 ⟨rfl, hb⟩;dsimp only;have HX := hideIt ((hb.block _ (Array.getElem?_eq_some_iff.1 X0.out.1).1).trans X0.out.1);have HB := hideIt (below_via X0.out.2 hb);obtain ⟨r0, r1, r2, r8, r9⟩ := req_at HX.out;have c1 := (HB.out.cell (p := ⟨0, k.toNat * 2 + 1, none⟩) hF.1).trans (hF.2 k hk1 hk2).2;rw [htk] at c1;clear hb H0 X0 hF;have K0 : Hid (KeyOn w w1 (.slice none 0 0) []) := ⟨own_nil _ _, HB.out⟩;obtain ⟨a', c', w', hrun, HO', hkp⟩ := key_app K0.out (by simp) 1 a;simp only [List.length_nil, List.length_append, List.length_cons, Nat.zero_add, Nat.reduceAdd] at hrun HO';have HRUN := hideIt hrun;have K1 := hideIt HO';have HXn := hideIt (hkp _ _ _ HX.out (by decide));clear hrun HO' hkp K0
   go_wp2_with (at_builtin; refine Lib.wpList_append_run _ rfl _ _ _ _ rfl _ _ rfl rfl _ _ HRUN.out ?_)
   clear HRUN HX r0 r1 r2 r8 r9;have HX := hideIt HXn.out;clear HXn;obtain ⟨r0, r1, r2, r8, r9⟩ := req_at HX.out;go_wp2
   go_loopw [3, 35] (fun u x wr => ∃ t : Nat, ∃ ra rc, u = .slice ra (1 + t) rc ∧ x = .int .i64 t ∧ t ≤ 3 ∧ Hid (KeyOn w wr (.slice ra (1 + t) rc) ([] ++ [(1, a)] ++ ([(2, 1), (2, 2), (2, 3)] : List KeyV).take t))) (fun _ x _ => 3 - (intOf x).toNat)
   case atStart => exact ⟨0, _, _, rfl, rfl, by omega, K1⟩
   case round =>
    clear K1;obtain ⟨t, ra, rc, rfl, rfl, ht, HK⟩ := hrel
    by_cases hlt : t < 3
    ·have hltI : (t : Int) < 3 := by omega
     have ht0 : (0 : Int) ≤ (t : Int) := by omega
     have hw : IntKind.i64.wrap ((t : Int) + 1) = (t : Int) + 1 := by rw [IntKind.wrap_i64]; omega
     obtain ⟨a', c', w', hrun, HO', -⟩ := key_app HK.out (by simp; omega) 2 ((t : Int) + 1)
     have e1 : [] ++ [(1, a)] ++ ([(2, 1), (2, 2), (2, 3)] : List KeyV).take t ++ [(2, (t : Int) + 1)] = [] ++ [(1, a)] ++ ([(2, 1), (2, 2), (2, 3)] : List KeyV).take (t + 1) := by
      have : t = 0 ∨ t = 1 ∨ t = 2 := by omega
      rcases this with rfl | rfl | rfl <;> rfl
     have e2 : ([] ++ [(1, a)] ++ ([(2, 1), (2, 2), (2, 3)] : List KeyV).take t).length + 1 = 1 + (t + 1) := by
      simp
      omega
     rw [e1, e2] at HO';rw [e2] at hrun;have HRUN := hideIt hrun;have HN := hideIt HO';clear hrun HO' e1 e2 HK
     go_wp2_with (at_builtin; refine Lib.wpList_append_run _ rfl _ _ _ _ rfl _ _ rfl rfl _ _ HRUN.out ?_)
     clear HRUN;go_wp2
     go_roundw
     case rel => exact ⟨t + 1, _, _, rfl, by go_num, by omega, HN⟩
     case measure => simp [intOf]; omega
    ·have hltI : ¬ (t : Int) < 3 := by omega
     have h3 : t = 3 := by omega
     subst h3;go_wp2;go_ret;rw [HR.out]
     exact ⟨_, _, rfl, HK.out⟩
  ·rw [htk];have HR : Hid (keyT 8 ⟨k, a, l, s, d, p, n, o, (kk, kn), t⟩ = [] ++ [(kk, kn)]) := rfl;generalize keyT 8 ⟨k, a, l, s, d, p, n, o, (kk, kn), t⟩ = RES at *;have f1 : (bits .and .i64 8 1 != 0) = false := by kernel_rfl
   have f2 : (bits .and .i64 8 2 != 0) = false := by kernel_rfl
   have f4 : (bits .and .i64 8 4 != 0) = false := by kernel_rfl
   have f8 : (bits .and .i64 8 8 != 0) = true := by kernel_rfl
   go_enter Tryz.func49, Tryz.ntmps49
   go_wp2_with fail
   refine (H0.out _ X0.out.2).mono ?_;rintro e w1 ⟨rfl, hb⟩;dsimp only;have HX := hideIt ((hb.block _ (Array.getElem?_eq_some_iff.1 X0.out.1).1).trans X0.out.1);have HB := hideIt (below_via X0.out.2 hb);obtain ⟨r0, r1, r2, r8, r9⟩ := req_at HX.out;have c1 := (HB.out.cell (p := ⟨0, k.toNat * 2 + 1, none⟩) hF.1).trans (hF.2 k hk1 hk2).2;rw [htk] at c1;clear hb H0 X0 hF;have K0 : Hid (KeyOn w w1 (.slice none 0 0) []) := ⟨own_nil _ _, HB.out⟩;obtain ⟨a', c', w', hrun, HO', hkp⟩ := key_app K0.out (by simp) kk kn;simp only [List.length_nil, List.length_append, List.length_cons, Nat.zero_add, Nat.reduceAdd] at hrun HO';have HRUN := hideIt hrun;have K1 := hideIt HO';have HXn := hideIt (hkp _ _ _ HX.out (by decide));clear hrun HO' hkp K0
   go_wp2_with (at_builtin; refine Lib.wpList_append_run _ rfl _ _ _ _ rfl _ _ rfl rfl _ _ HRUN.out ?_)
   clear HRUN HX r0 r1 r2 r8 r9;have HX := hideIt HXn.out;clear HXn;obtain ⟨r0, r1, r2, r8, r9⟩ := req_at HX.out;go_wp2;go_ret;rw [HR.out]
   exact ⟨_, _, rfl, K1.out⟩
end Go.Proofs.YtiinigifjdpicaaGreatDoor.Se
namespace Go.Proofs.YtiinigifjdpicaaGreatDoor
open Go.RowKit
set_option linter.all false
abbrev AmtV := Lg.AmtV
abbrev AccV := Lg.AccV
def amtE (e : AmtV) : List Value := [.int .i64 e.k, .int .i64 e.n]
theorem amtK (x : AmtV) : (amtE x).length = 2 := rfl
theorem amt1 (x : AmtV) : ∀ u ∈ amtE x, u.oneCell' = true := by
 intro u hu;simp only [amtE, List.mem_cons, List.not_mem_nil, or_false] at hu
 rcases hu with rfl | rfl <;> rfl
abbrev Amts (w : World) (v : Value) (l : List AmtV) : Prop := SGot 2 16 amtE w v l
theorem infoAmt : (Tryz.prog.info? 53).map (fun i => (i.zero, i.size, i.bytes)) = some (some (.agg #[.int .i64 0, .int .i64 0]), 2, 16) := by kernel_rfl
theorem infoAcc : (Tryz.prog.info? 44).map (fun i => (i.zero, i.size, i.bytes)) = some (some (.agg #[.slice none 0 0, .int .i64 0]), 2, 32) := by kernel_rfl
theorem infoLan : (Tryz.prog.info? 59).map (fun i => (i.zero, i.size, i.bytes)) = some (some (.agg #[.bool false, .int .i64 0, .slice none 0 0, .slice none 0 0, .slice none 0 0]), 5, 88) := by kernel_rfl
structure AccX where
 v : AccV
 fa : Option Addr
 fc : Nat
def accE (c : AccX) : List Value := [.slice c.fa c.v.l.length c.fc, .int .i64 c.v.ct]
theorem accK (c : AccX) : (accE c).length = 2 := rfl
theorem acc1 (c : AccX) : ∀ u ∈ accE c, u.oneCell' = true := by
 intro u hu;simp only [accE, List.mem_cons, List.not_mem_nil, or_false] at hu
 rcases hu with rfl | rfl <;> rfl
def AccAt (w : World) (c : AccX) : Prop := Amts w (.slice c.fa c.v.l.length c.fc) c.v.l
theorem AccAt.keep {w w' : World} {c : AccX} (h : AccAt w c) (hb : Below w.heap.size w w') : AccAt w' c := SGot.keep h hb
structure AccOwn (B : Nat) (w : World) (c : AccX) : Prop where
 f : w.ownsRow B 53 2 (.slice c.fa c.v.l.length c.fc) c.v.l.length (celC amtE c.v.l)
 s : c.v.l.length * 16 ≤ 140737488355328
theorem AccOwn.at_ {B : Nat} {w : World} {c : AccX} (h : AccOwn B w c) : AccAt w c := own_sgot h.f h.s
theorem AccOwn.keep {B : Nat} {w w' : World} {c : AccX} (h : AccOwn B w c) (hb : Below w.heap.size w w') : AccOwn B w' c := ⟨own_keep h.f hb, h.s⟩
theorem AccOwn.base {B B' : Nat} {w : World} {c : AccX} (h : AccOwn B w c) (hb : B' ≤ B) : AccOwn B' w c := ⟨own_base h.f hb, h.s⟩
theorem AccOwn.kept {w w' : World} {B B2 : Nat} {e : TypeId} {z n : Nat} {v : Value} {xs : List Value} {x : AccX} (k : AccOwn B2 w x) (h : w.grownBy w' v.ownBlock) (ho : w.ownsRow B e z v n xs) (h1 : e ≠ 53) : AccOwn B2 w' x :=
 ⟨own_type h ho k.f h1, k.s⟩
theorem AccOwn.set {B D j : Nat} {w : World} {x : AccX} {cs : Array Value} {t : TypeId} {u : Value} (h : AccOwn B w x) (hd : w.heap[D]? = some (.cells cs t (0, 0))) (h1 : (53 : TypeId) ≠ t) : AccOwn B (w.setCell ⟨D, j, none⟩ u) x := ⟨own_cell h.f hd h1, h.s⟩
structure Accs (w : World) (v : Value) (l : List AccX) : Prop where
 row : SGot 2 32 accE w v l
 at_ : ∀ c ∈ l, AccAt w c
theorem Accs.keep {w w' : World} {v : Value} {l : List AccX} (h : Accs w v l) (hb : Below w.heap.size w w') : Accs w' v l := ⟨h.row.keep hb, fun c hc => (h.at_ c hc).keep hb⟩
structure AccsOwn (B : Nat) (w : World) (v : Value) (l : List AccX) : Prop where
 row : w.ownsRow B 44 2 v l.length (celC accE l)
 own : ∀ c ∈ l, AccOwn B w c
 siz : l.length * 32 ≤ 140737488355328
theorem AccsOwn.at_ {B : Nat} {w : World} {v : Value} {l : List AccX} (h : AccsOwn B w v l) : Accs w v l := ⟨own_sgot h.row h.siz, fun c hc => (h.own c hc).at_⟩
theorem AccsOwn.keep {B : Nat} {w w' : World} {v : Value} {l : List AccX} (h : AccsOwn B w v l) (hb : Below w.heap.size w w') : AccsOwn B w' v l := ⟨own_keep h.row hb, fun c hc => (h.own c hc).keep hb, h.siz⟩
theorem AccsOwn.base {B B' : Nat} {w : World} {v : Value} {l : List AccX} (h : AccsOwn B w v l) (hb : B' ≤ B) : AccsOwn B' w v l := ⟨own_base h.row hb, fun c hc => (h.own c hc).base hb, h.siz⟩
theorem AccsOwn.nil (B : Nat) (w : World) : AccsOwn B w (.slice none 0 0) [] := ⟨own_nil _ _, (fun _ h => by cases h), by simp⟩
theorem AccsOwn.kept {w w' : World} {B B2 : Nat} {e : TypeId} {z n : Nat} {v u : Value} {xs : List Value} {l : List AccX} (k : AccsOwn B2 w u l) (h : w.grownBy w' v.ownBlock) (ho : w.ownsRow B e z v n xs) (h1 : e ≠ 53) (h2 : e ≠ 44) : AccsOwn B2 w' u l :=
 ⟨own_type h ho k.row h2, fun c hc => (k.own c hc).kept h ho h1, k.siz⟩
theorem AccsOwn.set {B D j : Nat} {w : World} {v : Value} {l : List AccX} {cs : Array Value} {t : TypeId} {u : Value} (h : AccsOwn B w v l) (hd : w.heap[D]? = some (.cells cs t (0, 0))) (h1 : (53 : TypeId) ≠ t) (h2 : (44 : TypeId) ≠ t) : AccsOwn B (w.setCell ⟨D, j, none⟩ u) v l :=
 ⟨own_cell h.row hd h2, fun c hc => (h.own c hc).set hd h1, h.siz⟩
theorem AccsOwn.app {B : Nat} {W w' : World} {u v' : Value} {ys : List AccX} {y : AccX} (h : AccsOwn B W u ys) (hy : AccOwn B W y) (how : w'.ownsRow B 44 2 v' (ys ++ [y]).length (celC accE (ys ++ [y]))) (hgr : W.grownBy w' u.ownBlock) (hs : (ys.length + 1) * 32 ≤ 140737488355328) : AccsOwn B w' v' (ys ++ [y]) := by
 refine ⟨how, fun s hs => ?_, by simpa using hs⟩;rw [List.mem_append, List.mem_singleton] at hs
 rcases hs with hs | rfl
 ·exact (h.own s hs).kept hgr h.row (by decide)
 ·exact hy.kept hgr h.row (by decide)
structure LanX where
 v : LaneV
 ba : Option Addr
 bc : Nat
 aa : Option Addr
 ac : Nat
 oa : Option Addr
 oc : Nat
def lanE (c : LanX) : List Value := [.bool c.v.call, .int .i64 c.v.next, .slice c.ba c.v.bids.length c.bc, .slice c.aa c.v.asks.length c.ac, .slice c.oa c.v.owed.length c.oc]
theorem lanK (c : LanX) : (lanE c).length = 5 := rfl
theorem lan1 (c : LanX) : ∀ u ∈ lanE c, u.oneCell' = true := by
 intro u hu;simp only [lanE, List.mem_cons, List.not_mem_nil, or_false] at hu
 rcases hu with rfl | rfl | rfl | rfl | rfl <;> rfl
def LanAt (w : World) (c : LanX) : Prop := Lan w c.v (.slice c.ba c.v.bids.length c.bc) (.slice c.aa c.v.asks.length c.ac) (.slice c.oa c.v.owed.length c.oc)
theorem LanAt.keep {w w' : World} {c : LanX} (h : LanAt w c) (hb : Below w.heap.size w w') : LanAt w' c := Lan.keep h hb
structure LanOwn (B : Nat) (w : World) (c : LanX) : Prop where
 b : w.ownsRow B 115 4 (.slice c.ba c.v.bids.length c.bc) c.v.bids.length (celC ordE c.v.bids)
 a : w.ownsRow B 115 4 (.slice c.aa c.v.asks.length c.ac) c.v.asks.length (celC ordE c.v.asks)
 o : w.ownsRow B 61 3 (.slice c.oa c.v.owed.length c.oc) c.v.owed.length (celC oweE c.v.owed)
 sb : c.v.bids.length * 32 ≤ 140737488355328
 sa : c.v.asks.length * 32 ≤ 140737488355328
 so : c.v.owed.length * 24 ≤ 140737488355328
theorem LanOwn.at_ {B : Nat} {w : World} {c : LanX} (h : LanOwn B w c) : LanAt w c := ⟨own_sgot h.b h.sb, own_sgot h.a h.sa, own_sgot h.o h.so⟩
theorem LanOwn.keep {B : Nat} {w w' : World} {c : LanX} (h : LanOwn B w c) (hb : Below w.heap.size w w') : LanOwn B w' c := ⟨own_keep h.b hb, own_keep h.a hb, own_keep h.o hb, h.sb, h.sa, h.so⟩
theorem LanOwn.base {B B' : Nat} {w : World} {c : LanX} (h : LanOwn B w c) (hb : B' ≤ B) : LanOwn B' w c := ⟨own_base h.b hb, own_base h.a hb, own_base h.o hb, h.sb, h.sa, h.so⟩
theorem LanOwn.kept {w w' : World} {B B2 : Nat} {e : TypeId} {z n : Nat} {v : Value} {xs : List Value} {x : LanX} (k : LanOwn B2 w x) (h : w.grownBy w' v.ownBlock) (ho : w.ownsRow B e z v n xs) (h1 : e ≠ 115) (h2 : e ≠ 61) : LanOwn B2 w' x :=
 ⟨own_type h ho k.b h1, own_type h ho k.a h1, own_type h ho k.o h2, k.sb, k.sa, k.so⟩
theorem LanOwn.set {B D j : Nat} {w : World} {x : LanX} {cs : Array Value} {t : TypeId} {u : Value} (h : LanOwn B w x) (hd : w.heap[D]? = some (.cells cs t (0, 0))) (h1 : (115 : TypeId) ≠ t) (h2 : (61 : TypeId) ≠ t) : LanOwn B (w.setCell ⟨D, j, none⟩ u) x :=
 ⟨own_cell h.b hd h1, own_cell h.a hd h1, own_cell h.o hd h2, h.sb, h.sa, h.so⟩
structure Lns (w : World) (v : Value) (l : List LanX) : Prop where
 row : SGot 5 88 lanE w v l
 at_ : ∀ c ∈ l, LanAt w c
theorem Lns.keep {w w' : World} {v : Value} {l : List LanX} (h : Lns w v l) (hb : Below w.heap.size w w') : Lns w' v l := ⟨h.row.keep hb, fun c hc => (h.at_ c hc).keep hb⟩
structure LnsOwn (B : Nat) (w : World) (v : Value) (l : List LanX) : Prop where
 row : w.ownsRow B 59 5 v l.length (celC lanE l)
 own : ∀ c ∈ l, LanOwn B w c
 siz : l.length * 88 ≤ 140737488355328
theorem LnsOwn.at_ {B : Nat} {w : World} {v : Value} {l : List LanX} (h : LnsOwn B w v l) : Lns w v l := ⟨own_sgot h.row h.siz, fun c hc => (h.own c hc).at_⟩
theorem LnsOwn.keep {B : Nat} {w w' : World} {v : Value} {l : List LanX} (h : LnsOwn B w v l) (hb : Below w.heap.size w w') : LnsOwn B w' v l := ⟨own_keep h.row hb, fun c hc => (h.own c hc).keep hb, h.siz⟩
theorem LnsOwn.base {B B' : Nat} {w : World} {v : Value} {l : List LanX} (h : LnsOwn B w v l) (hb : B' ≤ B) : LnsOwn B' w v l := ⟨own_base h.row hb, fun c hc => (h.own c hc).base hb, h.siz⟩
theorem LnsOwn.nil (B : Nat) (w : World) : LnsOwn B w (.slice none 0 0) [] := ⟨own_nil _ _, (fun _ h => by cases h), by simp⟩
theorem LnsOwn.kept {w w' : World} {B B2 : Nat} {e : TypeId} {z n : Nat} {v u : Value} {xs : List Value} {l : List LanX} (k : LnsOwn B2 w u l) (h : w.grownBy w' v.ownBlock) (ho : w.ownsRow B e z v n xs) (h1 : e ≠ 115) (h2 : e ≠ 61) (h3 : e ≠ 59) : LnsOwn B2 w' u l :=
 ⟨own_type h ho k.row h3, fun c hc => (k.own c hc).kept h ho h1 h2, k.siz⟩
theorem LnsOwn.set {B D j : Nat} {w : World} {v : Value} {l : List LanX} {cs : Array Value} {t : TypeId} {u : Value} (h : LnsOwn B w v l) (hd : w.heap[D]? = some (.cells cs t (0, 0))) (h1 : (115 : TypeId) ≠ t) (h2 : (61 : TypeId) ≠ t) (h3 : (59 : TypeId) ≠ t) : LnsOwn B (w.setCell ⟨D, j, none⟩ u) v l :=
 ⟨own_cell h.row hd h3, fun c hc => (h.own c hc).set hd h1 h2, h.siz⟩
theorem LnsOwn.app {B : Nat} {W w' : World} {u v' : Value} {ys : List LanX} {y : LanX} (h : LnsOwn B W u ys) (hy : LanOwn B W y) (how : w'.ownsRow B 59 5 v' (ys ++ [y]).length (celC lanE (ys ++ [y]))) (hgr : W.grownBy w' u.ownBlock) (hs : (ys.length + 1) * 88 ≤ 140737488355328) : LnsOwn B w' v' (ys ++ [y]) := by
 refine ⟨how, fun s hs => ?_, by simpa using hs⟩;rw [List.mem_append, List.mem_singleton] at hs
 rcases hs with hs | rfl
 ·exact (h.own s hs).kept hgr h.row (by decide) (by decide)
 ·exact hy.kept hgr h.row (by decide) (by decide)
structure MdlV where
 a : List AccV
 l : List LaneV
structure Mdl (w : World) (va vl : Value) (M : MdlV) : Prop where
 acs : ∃ xs : List AccX, xs.map AccX.v = M.a ∧ Accs w va xs
 lns : ∃ ys : List LanX, ys.map LanX.v = M.l ∧ Lns w vl ys
theorem Mdl.keep {w w' : World} {va vl : Value} {M : MdlV} (h : Mdl w va vl M) (hb : Below w.heap.size w w') : Mdl w' va vl M := by
 obtain ⟨⟨xs, h1, h2⟩, ys, h3, h4⟩ := h
 exact ⟨⟨xs, h1, h2.keep hb⟩, ys, h3, h4.keep hb⟩
structure MdlOwn (B : Nat) (w : World) (va vl : Value) (M : MdlV) : Prop where
 acs : ∃ xs : List AccX, xs.map AccX.v = M.a ∧ AccsOwn B w va xs
 lns : ∃ ys : List LanX, ys.map LanX.v = M.l ∧ LnsOwn B w vl ys
theorem MdlOwn.at_ {B : Nat} {w : World} {va vl : Value} {M : MdlV} (h : MdlOwn B w va vl M) : Mdl w va vl M := by
 obtain ⟨⟨xs, h1, h2⟩, ys, h3, h4⟩ := h
 exact ⟨⟨xs, h1, h2.at_⟩, ys, h3, h4.at_⟩
theorem MdlOwn.keep {B : Nat} {w w' : World} {va vl : Value} {M : MdlV} (h : MdlOwn B w va vl M) (hb : Below w.heap.size w w') : MdlOwn B w' va vl M := by
 obtain ⟨⟨xs, h1, h2⟩, ys, h3, h4⟩ := h
 exact ⟨⟨xs, h1, h2.keep hb⟩, ys, h3, h4.keep hb⟩
theorem MdlOwn.base {B B' : Nat} {w : World} {va vl : Value} {M : MdlV} (h : MdlOwn B w va vl M) (hb : B' ≤ B) : MdlOwn B' w va vl M := by
 obtain ⟨⟨xs, h1, h2⟩, ys, h3, h4⟩ := h
 exact ⟨⟨xs, h1, h2.base hb⟩, ys, h3, h4.base hb⟩
theorem own_put {w : World} {B n k g cap : Nat} {e : TypeId} {xs : List Value} (ho : w.ownsRow B e k (.slice (some ⟨g, 0, none⟩) n cap) n xs) (j : Nat) (u : Value) (hj : j < n * k) (hu : u.oneCell' = true) :
  (w.setCell ⟨g, j, none⟩ u).ownsRow B e k (.slice (some ⟨g, 0, none⟩) n cap) n (xs.set j u) := by
 obtain ⟨h1, ⟨hv, _⟩ | ⟨g', cap', cur, hv, hb, hg, hnc, hcm, hs, ht⟩⟩ := ho
 ·cases hv
 ·simp only [Value.slice.injEq, Option.some.injEq, Addr.mk.injEq] at hv;obtain ⟨⟨rfl, _⟩, _, rfl⟩ := hv;refine ⟨by simpa using h1, .inr ⟨g, cap, cur.setIfInBounds j u, rfl, hb, heap_set hg j u, hnc, hcm, by simp [hs], ?_⟩⟩;rw [Array.toList_setIfInBounds, List.take_set, ht]
theorem celC_set {α : Type} {enc : α → List Value} {k : Nat} (hk : ∀ x, (enc x).length = k) : ∀ (l : List α) (i : Nat) (x : α), i < l.length → celC enc (l.set i x) = (celC enc l).take (i * k) ++ enc x ++ (celC enc l).drop ((i + 1) * k)
 | [], i, x, h => by simp at h
 | y :: l, 0, x, h => by
  rw [List.set_cons_zero, celC_cons, celC_cons, Nat.zero_mul, List.take_zero, List.nil_append, Nat.zero_add, Nat.one_mul, List.drop_append, List.drop_eq_nil_of_le (by rw [hk]; exact Nat.le_refl _), List.nil_append, hk, Nat.sub_self, List.drop_zero]
 | y :: l, i + 1, x, h => by
  have ih := celC_set hk l i x (by simpa using h);have e1 : (i + 1) * k = (enc y).length + i * k := by rw [hk, Nat.add_mul]; omega
  have e2 : (i + 1 + 1) * k = (enc y).length + (i + 1) * k := by rw [hk, Nat.add_mul (i + 1)]; omega
  rw [List.set_cons_succ, celC_cons, celC_cons, ih, e2, e1, List.take_length_add_append, List.drop_length_add_append, List.append_assoc, List.append_assoc, List.append_assoc]
theorem set_two {L : List Value} {i : Nat} (u v : Value) (h : (i + 1) * 2 ≤ L.length) : (L.set (i * 2) u).set (i * 2 + 1) v = L.take (i * 2) ++ [u, v] ++ L.drop ((i + 1) * 2) := by
 apply List.ext_getElem?
 intro n;have hl : (L.take (i * 2)).length = i * 2 := by simp; omega
 rcases Nat.lt_trichotomy n (i * 2) with h1 | h1 | h1
 ·rw [List.getElem?_set_ne (by omega), List.getElem?_set_ne (by omega), List.append_assoc, List.getElem?_append_left (by omega), List.getElem?_take, if_pos h1]
 ·subst h1;rw [List.getElem?_set_ne (by omega), List.getElem?_set_self (by omega), List.append_assoc, List.getElem?_append_right (by omega), hl]
  simp
 ·by_cases h2 : n = i * 2 + 1
  ·subst h2;rw [List.getElem?_set_self (by simp; omega), List.append_assoc, List.getElem?_append_right (by omega), hl]
   simp
  ·rw [List.getElem?_set_ne (by omega), List.getElem?_set_ne (by omega), List.getElem?_append_right (by simp; omega), List.getElem?_drop]
   congr 1
   simp
   omega
theorem set_five {L : List Value} {i : Nat} (u0 u1 u2 u3 u4 : Value) (h : (i + 1) * 5 ≤ L.length) : ((((L.set (i * 5) u0).set (i * 5 + 1) u1).set (i * 5 + 2) u2).set (i * 5 + 3) u3).set (i * 5 + 4) u4 = L.take (i * 5) ++ [u0, u1, u2, u3, u4] ++ L.drop ((i + 1) * 5) := by
 apply List.ext_getElem?
 intro n;have hl : (L.take (i * 5)).length = i * 5 := by simp; omega
 by_cases h0 : n < i * 5
 ·rw [List.getElem?_set_ne (by omega), List.getElem?_set_ne (by omega), List.getElem?_set_ne (by omega), List.getElem?_set_ne (by omega), List.getElem?_set_ne (by omega), List.append_assoc, List.getElem?_append_left (by omega), List.getElem?_take, if_pos h0]
 ·by_cases h1 : n < (i + 1) * 5
  ·rw [List.append_assoc, List.getElem?_append_right (by omega), hl];have : n = i * 5 ∨ n = i * 5 + 1 ∨ n = i * 5 + 2 ∨ n = i * 5 + 3 ∨ n = i * 5 + 4 := by omega
   rcases this with rfl | rfl | rfl | rfl | rfl
   ·rw [List.getElem?_set_ne (by omega), List.getElem?_set_ne (by omega), List.getElem?_set_ne (by omega), List.getElem?_set_ne (by omega), List.getElem?_set_self (by omega)]
    simp
   ·rw [List.getElem?_set_ne (by omega), List.getElem?_set_ne (by omega), List.getElem?_set_ne (by omega), List.getElem?_set_self (by simp; omega)]
    simp
   ·rw [List.getElem?_set_ne (by omega), List.getElem?_set_ne (by omega), List.getElem?_set_self (by simp; omega)]
    simp
   ·rw [List.getElem?_set_ne (by omega), List.getElem?_set_self (by simp; omega)]
    simp
   ·rw [List.getElem?_set_self (by simp; omega)]
    simp
  ·rw [List.getElem?_set_ne (by omega), List.getElem?_set_ne (by omega), List.getElem?_set_ne (by omega), List.getElem?_set_ne (by omega), List.getElem?_set_ne (by omega), List.getElem?_append_right (by simp; omega), List.getElem?_drop]
   congr 1
   simp
   omega
theorem AccsOwn.put {B g c i : Nat} {w : World} {l : List AccX} (h : AccsOwn B w (.slice (some ⟨g, 0, none⟩) l.length c) l) (hi : i < l.length) (x : AccX) (hx : AccOwn B w x) :
  AccsOwn B ((w.setCell ⟨g, i * 2, none⟩ (.slice x.fa x.v.l.length x.fc)).setCell ⟨g, i * 2 + 1, none⟩ (.int .i64 x.v.ct)) (.slice (some ⟨g, 0, none⟩) (l.set i x).length c) (l.set i x) := by
 have hg : ∃ cs, w.heap[g]? = some (.cells cs 44 (0, 0)) := by
  obtain ⟨h1, ⟨hv, _⟩ | ⟨g', cap', cur, hv, hb, hg, _⟩⟩ := h.row
  ·cases hv
  ·simp only [Value.slice.injEq, Option.some.injEq, Addr.mk.injEq] at hv;obtain ⟨⟨rfl, _⟩, _, rfl⟩ := hv
   exact ⟨_, hg⟩
 obtain ⟨cs, hg⟩ := hg;have r1 := own_put h.row (i * 2) (.slice x.fa x.v.l.length x.fc) (by omega) rfl;have hg1 := heap_set hg (i * 2) (.slice x.fa x.v.l.length x.fc);have r2 := own_put r1 (i * 2 + 1) (.int .i64 x.v.ct) (by omega) rfl;have hl : (celC accE l).length = l.length * 2 := celC_len accK l;rw [set_two _ _ (by omega), show [Value.slice x.fa x.v.l.length x.fc, .int .i64 x.v.ct] = accE x from rfl, ← celC_set accK l i x hi] at r2;rw [List.length_set];refine ⟨by rw [List.length_set]; exact r2, fun y hy => ?_, by rw [List.length_set]; exact h.siz⟩
 rcases List.mem_or_eq_of_mem_set hy with hy | rfl
 ·exact ((h.own y hy).set hg (by decide)).set hg1 (by decide)
 ·exact (hx.set hg (by decide)).set hg1 (by decide)
theorem LnsOwn.put {B g c i : Nat} {w : World} {l : List LanX} (h : LnsOwn B w (.slice (some ⟨g, 0, none⟩) l.length c) l) (hi : i < l.length) (x : LanX) (hx : LanOwn B w x) :
  LnsOwn B (((((w.setCell ⟨g, i * 5, none⟩ (.bool x.v.call)).setCell ⟨g, i * 5 + 1, none⟩ (.int .i64 x.v.next)).setCell ⟨g, i * 5 + 2, none⟩ (.slice x.ba x.v.bids.length x.bc)).setCell ⟨g, i * 5 + 3, none⟩ (.slice x.aa x.v.asks.length x.ac)).setCell ⟨g, i * 5 + 4, none⟩ (.slice x.oa x.v.owed.length x.oc)) (.slice (some ⟨g, 0, none⟩) (l.set i x).length c) (l.set i x) := by
 have hg : ∃ cs, w.heap[g]? = some (.cells cs 59 (0, 0)) := by
  obtain ⟨h1, ⟨hv, _⟩ | ⟨g', cap', cur, hv, hb, hg, _⟩⟩ := h.row
  ·cases hv
  ·simp only [Value.slice.injEq, Option.some.injEq, Addr.mk.injEq] at hv;obtain ⟨⟨rfl, _⟩, _, rfl⟩ := hv
   exact ⟨_, hg⟩
 obtain ⟨cs, hg⟩ := hg;have r1 := own_put h.row (i * 5) (.bool x.v.call) (by omega) rfl;have g1 := heap_set hg (i * 5) (.bool x.v.call);have r2 := own_put r1 (i * 5 + 1) (.int .i64 x.v.next) (by omega) rfl;have g2 := heap_set g1 (i * 5 + 1) (.int .i64 x.v.next);have r3 := own_put r2 (i * 5 + 2) (.slice x.ba x.v.bids.length x.bc) (by omega) rfl;have g3 := heap_set g2 (i * 5 + 2) (.slice x.ba x.v.bids.length x.bc);have r4 := own_put r3 (i * 5 + 3) (.slice x.aa x.v.asks.length x.ac) (by omega) rfl;have g4 := heap_set g3 (i * 5 + 3) (.slice x.aa x.v.asks.length x.ac);have r5 := own_put r4 (i * 5 + 4) (.slice x.oa x.v.owed.length x.oc) (by omega) rfl;have hl : (celC lanE l).length = l.length * 5 := celC_len lanK l;rw [set_five _ _ _ _ _ (by omega), show [Value.bool x.v.call, .int .i64 x.v.next, .slice x.ba x.v.bids.length x.bc, .slice x.aa x.v.asks.length x.ac, .slice x.oa x.v.owed.length x.oc] = lanE x from rfl, ← celC_set lanK l i x hi] at r5;rw [List.length_set];refine ⟨by rw [List.length_set]; exact r5, fun y hy => ?_, by rw [List.length_set]; exact h.siz⟩
 rcases List.mem_or_eq_of_mem_set hy with hy | rfl
 ·exact (((((h.own y hy).set hg (by decide) (by decide)).set g1 (by decide) (by decide)).set g2 (by decide) (by decide)).set g3 (by decide) (by decide)).set g4 (by decide) (by decide)
 ·exact ((((hx.set hg (by decide) (by decide)).set g1 (by decide) (by decide)).set g2 (by decide) (by decide)).set g3 (by decide) (by decide)).set g4 (by decide) (by decide)
theorem putS {wc w0 : World} {b : Nat} {ty : TypeId} {cs cs' : Array Value} (h : w0.heap[b]? = some (.cells cs ty (0, 0)) ∧ Out (fun k => k = b) wc w0) (j : Nat) (v : Value) (e : cs.setIfInBounds j v = cs') : (w0.setCell ⟨b, j, none⟩ v).heap[b]? = some (.cells cs' ty (0, 0)) ∧ Out (fun k => k = b) wc (w0.setCell ⟨b, j, none⟩ v) :=
 ⟨e ▸ heap_set h.1 j v, h.2.trans (Out.ofSet (F := fun k => k = b) w0 ⟨b, j, none⟩ v rfl) (fun _ _ h => h)⟩
theorem puts2 (wc : World) (b : Nat) (ty : TypeId) (v0 v1 : Value) {z0 z1 : Value} (h : wc.heap[b]? = some (.cells #[z0, z1] ty (0, 0))) : ((wc.setCell ⟨b, 0, none⟩ v0).setCell ⟨b, 1, none⟩ v1).heap[b]? = some (.cells #[v0, v1] ty (0, 0)) ∧ Out (fun k => k = b) wc ((wc.setCell ⟨b, 0, none⟩ v0).setCell ⟨b, 1, none⟩ v1) := by
 have h0 := And.intro h (Out.refl (fun k => k = b) wc);have h1 := putS h0 0 v0 (cs' := #[v0, z1]) rfl;have h2 := putS h1 1 v1 (cs' := #[v0, v1]) rfl;exact h2
theorem at2 {w : World} {p : Nat} {ty : TypeId} {z0 z1 : Value} (h : w.heap[p]? = some (.cells #[z0, z1] ty (0, 0))) : (w.cell? ⟨p, 0, none⟩ = some z0 ∧ w.cell? ⟨p, 1, none⟩ = some z1) ∧ (∀ j, w.frozen? ⟨p, j, none⟩ = false) ∧ p < w.heap.size :=
 ⟨⟨by rw [cell_at h]; rfl, by rw [cell_at h]; rfl⟩, fun j => free_at h j, (Array.getElem?_eq_some_iff.1 h).1⟩
theorem puts5 (wc : World) (b : Nat) (ty : TypeId) (v0 v1 v2 v3 v4 : Value) {z0 z1 z2 z3 z4 : Value} (h : wc.heap[b]? = some (.cells #[z0, z1, z2, z3, z4] ty (0, 0))) : (((((wc.setCell ⟨b, 0, none⟩ v0).setCell ⟨b, 1, none⟩ v1).setCell ⟨b, 2, none⟩ v2).setCell ⟨b, 3, none⟩ v3).setCell ⟨b, 4, none⟩ v4).heap[b]? = some (.cells #[v0, v1, v2, v3, v4] ty (0, 0)) ∧ Out (fun k => k = b) wc (((((wc.setCell ⟨b, 0, none⟩ v0).setCell ⟨b, 1, none⟩ v1).setCell ⟨b, 2, none⟩ v2).setCell ⟨b, 3, none⟩ v3).setCell ⟨b, 4, none⟩ v4) := by
 have h0 := And.intro h (Out.refl (fun k => k = b) wc);have h1 := putS h0 0 v0 (cs' := #[v0, z1, z2, z3, z4]) rfl;have h2 := putS h1 1 v1 (cs' := #[v0, v1, z2, z3, z4]) rfl;have h3 := putS h2 2 v2 (cs' := #[v0, v1, v2, z3, z4]) rfl;have h4 := putS h3 3 v3 (cs' := #[v0, v1, v2, v3, z4]) rfl;have h5 := putS h4 4 v4 (cs' := #[v0, v1, v2, v3, v4]) rfl;exact h5
theorem at5 {w : World} {p : Nat} {ty : TypeId} {z0 z1 z2 z3 z4 : Value} (h : w.heap[p]? = some (.cells #[z0, z1, z2, z3, z4] ty (0, 0))) : (w.cell? ⟨p, 0, none⟩ = some z0 ∧ w.cell? ⟨p, 1, none⟩ = some z1 ∧ w.cell? ⟨p, 2, none⟩ = some z2 ∧ w.cell? ⟨p, 3, none⟩ = some z3 ∧ w.cell? ⟨p, 4, none⟩ = some z4) ∧ (∀ j, w.frozen? ⟨p, j, none⟩ = false) ∧ p < w.heap.size :=
 ⟨⟨by rw [cell_at h]; rfl, by rw [cell_at h]; rfl, by rw [cell_at h]; rfl, by rw [cell_at h]; rfl, by rw [cell_at h]; rfl⟩, fun j => free_at h j, (Array.getElem?_eq_some_iff.1 h).1⟩
theorem at21 {w : World} {p : Nat} {ty : TypeId} {z0 z1 z2 z3 z4 z5 z6 z7 z8 z9 z10 z11 z12 z13 z14 z15 z16 z17 z18 z19 z20 : Value} (h : w.heap[p]? = some (.cells #[z0, z1, z2, z3, z4, z5, z6, z7, z8, z9, z10, z11, z12, z13, z14, z15, z16, z17, z18, z19, z20] ty (0, 0))) : (w.cell? ⟨p, 0, none⟩ = some z0 ∧ w.cell? ⟨p, 1, none⟩ = some z1 ∧ w.cell? ⟨p, 2, none⟩ = some z2 ∧ w.cell? ⟨p, 3, none⟩ = some z3 ∧ w.cell? ⟨p, 4, none⟩ = some z4 ∧ w.cell? ⟨p, 5, none⟩ = some z5 ∧ w.cell? ⟨p, 6, none⟩ = some z6 ∧ w.cell? ⟨p, 7, none⟩ = some z7 ∧ w.cell? ⟨p, 8, none⟩ = some z8 ∧ w.cell? ⟨p, 9, none⟩ = some z9 ∧ w.cell? ⟨p, 10, none⟩ = some z10 ∧ w.cell? ⟨p, 11, none⟩ = some z11 ∧ w.cell? ⟨p, 12, none⟩ = some z12 ∧ w.cell? ⟨p, 13, none⟩ = some z13 ∧ w.cell? ⟨p, 14, none⟩ = some z14 ∧ w.cell? ⟨p, 15, none⟩ = some z15 ∧ w.cell? ⟨p, 16, none⟩ = some z16 ∧ w.cell? ⟨p, 17, none⟩ = some z17 ∧ w.cell? ⟨p, 18, none⟩ = some z18 ∧ w.cell? ⟨p, 19, none⟩ = some z19 ∧ w.cell? ⟨p, 20, none⟩ = some z20) ∧ (∀ j, w.frozen? ⟨p, j, none⟩ = false) ∧ p < w.heap.size :=
 ⟨⟨by rw [cell_at h]; rfl, by rw [cell_at h]; rfl, by rw [cell_at h]; rfl, by rw [cell_at h]; rfl, by rw [cell_at h]; rfl, by rw [cell_at h]; rfl, by rw [cell_at h]; rfl, by rw [cell_at h]; rfl, by rw [cell_at h]; rfl, by rw [cell_at h]; rfl, by rw [cell_at h]; rfl, by rw [cell_at h]; rfl, by rw [cell_at h]; rfl, by rw [cell_at h]; rfl, by rw [cell_at h]; rfl, by rw [cell_at h]; rfl, by rw [cell_at h]; rfl, by rw [cell_at h]; rfl, by rw [cell_at h]; rfl, by rw [cell_at h]; rfl, by rw [cell_at h]; rfl⟩, fun j => free_at h j, (Array.getElem?_eq_some_iff.1 h).1⟩
end Go.Proofs.YtiinigifjdpicaaGreatDoor
