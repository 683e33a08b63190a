/- Texts of my own, laid together. -/
import Derived.Test.YtiinigifjdpicaaGreatDoorPx06
import Derived.Test.YtiinigifjdpicaaGreatDoorPx00
import Derived.Test.YtiinigifjdpicaaGreatDoorPx01
import Derived.BigQuiet
import Derived.Test.YtiinigifjdpicaaGreatDoorProg
import Derived.WalkKit
import Derived.WalkSpells
import Derived.WalkLawsBesides
import Derived.Deep.QuietTactic
import Derived.Lib.AppendStr
import Derived.Deep.RegionHeld3
import Derived.Deep.RegionLaw
import Derived.Deep.CutBlock
import Derived.StillTailTactics
import Derived.OwnWalk
import Derived.Deep.Slices
import Derived.ChangeSlices
namespace Go.Proofs.YtiinigifjdpicaaGreatDoor
open Go.RowKit
set_option linter.all false
structure AmV where
 asset : Int
 n : Int
def amE (x : AmV) : List Value := [.int .i64 x.asset, .int .i64 x.n]
theorem amK (x : AmV) : (amE x).length = 2 := rfl
theorem am1 (x : AmV) : ∀ u ∈ amE x, u.oneCell' = true := by
 intro u hu;simp only [amE, List.mem_cons, List.not_mem_nil, or_false] at hu
 rcases hu with rfl | rfl <;> rfl
theorem info52 : (Tryz.prog.info? 53).map (fun i => (i.zero, i.size, i.bytes)) = some (some (.agg #[.int .i64 0, .int .i64 0]), 2, 16) := by kernel_rfl
structure TL (w : World) (A : List AmV) (R : List OweV) (u v : Value) (W : World) : Prop where
 ra : W.ownsRow w.heap.size 53 2 u A.length (celC amE A)
 rl : W.ownsRow w.heap.size 61 3 v R.length (celC oweE R)
 bel : Below w.heap.size w W
theorem TL.keep {w W W' : World} {A : List AmV} {R : List OweV} {u v : Value} (h : TL w A R u v W) (hb : Below W.heap.size W W') : TL w A R u v W' := ⟨own_keep h.ra hb, own_keep h.rl hb, below_via h.bel hb⟩
theorem TL.appA {w W : World} {A : List AmV} {R : List OweV} {u v : Value} (h : TL w A R u v W) (x : AmV) (hl : A.length * 16 + 16 ≤ 140737488355328) : ∃ a' c' w', (Builtin.append_ #[33, 33] 33 #[u, .slice (some ⟨W.heap.size, 0, none⟩) 1 1]).run Tryz.prog (W.alloc (.cells (amE x).toArray 53)) = .ok (.slice a' (A.length + 1) c') w' ∧ TL w (A ++ [x]) R (.slice a' (A.length + 1) c') v w' := by
 have hb := below1 W (.cells (amE x).toArray 53);have h1 := h.keep hb;obtain ⟨v', w', hrun, how, hgr⟩ := app1 (enc := amE) (t := 33) amK am1 Tryz.underlying33 info52 rfl (by omega) (W.alloc (.cells (amE x).toArray 53)) w.heap.size u A x W.heap.size 1 h1.bel.size h1.ra (heap_alloc_new W _) (by omega) (by unfold maxLen; omega)
 obtain ⟨a', c', rfl⟩ := own_len how;have hlen : (A ++ [x]).length = A.length + 1 := by simp
 rw [hlen] at hrun how
 exact ⟨a', c', w', hrun, by rw [hlen]; exact how, own_type hgr h1.ra h1.rl (by decide), grown_own hgr h1.ra (Nat.le_refl _) h1.bel⟩
theorem TL.appR {w W : World} {A : List AmV} {R : List OweV} {u v : Value} (h : TL w A R u v W) (x : OweV) (hl : R.length * 24 + 24 ≤ 140737488355328) : ∃ a' c' w', (Builtin.append_ #[57, 57] 57 #[v, .slice (some ⟨W.heap.size, 0, none⟩) 1 1]).run Tryz.prog (W.alloc (.cells (oweE x).toArray 61)) = .ok (.slice a' (R.length + 1) c') w' ∧ TL w A (R ++ [x]) u (.slice a' (R.length + 1) c') w' := by
 have hb := below1 W (.cells (oweE x).toArray 61);have h1 := h.keep hb;obtain ⟨v', w', hrun, how, hgr⟩ := app1 (enc := oweE) (t := 57) oweK owe1 Tryz.underlying57 info63 rfl (by omega) (W.alloc (.cells (oweE x).toArray 61)) w.heap.size v R x W.heap.size 1 h1.bel.size h1.rl (heap_alloc_new W _) (by omega) (by unfold maxLen; omega)
 obtain ⟨a', c', rfl⟩ := own_len how;have hlen : (R ++ [x]).length = R.length + 1 := by simp
 rw [hlen] at hrun how
 exact ⟨a', c', w', hrun, own_type hgr h1.rl h1.ra (by decide), by rw [hlen]; exact how, grown_own hgr h1.rl (Nat.le_refl _) h1.bel⟩
def takA (acc : Int) (l : List OweV) : List AmV := (l.filter (fun o => decide (o.acc = acc))).map (fun o => ⟨o.asset, o.n⟩)
def lefA (acc : Int) (l : List OweV) : List OweV := l.filter (fun o => !decide (o.acc = acc))
theorem takA_len (acc : Int) (l : List OweV) : (takA acc l).length ≤ l.length := by
 unfold takA;rw [List.length_map];exact List.length_filter_le _ _
theorem lefA_len (acc : Int) (l : List OweV) : (lefA acc l).length ≤ l.length := List.length_filter_le _ _
set_option maxHeartbeats 8000000 in
set_option maxRecDepth 100000 in
theorem parted_is (v : Value) (l : List OweV) (acc : Int) (w : World) (h : Owes w v l) : Calls Tryz.prog 152 #[v, .int .i64 acc] w fun e w' => ∃ a c b d, e = .returned (.tuple #[.slice a (takA acc l).length c, .slice b (lefA acc l).length d]) ∧ TL w (takA acc l) (lefA acc l) (.slice a (takA acc l).length c) (.slice b (lefA acc l).length d) w' := by
 obtain ⟨a, c, rfl, h8, hr⟩ := h.owes;have HH := hideIt hr;clear hr h;have HS1 := hideIt (fun t (ht : t < l.length) => show takA acc (l.take (t + 1)) = takA acc (l.take t) ++ (if l[t].acc = acc then [⟨l[t].asset, l[t].n⟩] else []) by
  unfold takA;rw [List.take_succ_eq_append_getElem ht, List.filter_append, List.map_append]
  congr 1
  by_cases e : l[t].acc = acc <;> simp [e])
 have HS2 := hideIt (fun t (ht : t < l.length) => show lefA acc (l.take (t + 1)) = lefA acc (l.take t) ++ (if l[t].acc = acc then [] else [l[t]]) by
  unfold lefA;rw [List.take_succ_eq_append_getElem ht, List.filter_append]
  congr 1
  by_cases e : l[t].acc = acc <;> simp [e])
 have HL1 := hideIt (fun t => Nat.le_trans (takA_len acc (l.take t)) (List.length_take_le t l));have HL2 := hideIt (fun t => Nat.le_trans (lefA_len acc (l.take t)) (List.length_take_le t l));have HF1 : Hid (takA acc (l.take l.length) = takA acc l) := by show _ = _; rw [List.take_length]
 have HF2 : Hid (lefA acc (l.take l.length) = lefA acc l) := by show _ = _; rw [List.take_length]
 have HI : Hid (takA acc (l.take 0) = [] ∧ lefA acc (l.take 0) = []) := by constructor <;> simp [takA, lefA]
 generalize takA acc l = RA at *;generalize lefA acc l = RL at *;generalize hfu : (fun t : Nat => takA acc (l.take t)) = FA at *;generalize hfv : (fun t : Nat => lefA acc (l.take t)) = FL at *;have HT1 : Hid (∀ t, takA acc (l.take t) = FA t) := fun t => congrFun hfu t
 have HT2 : Hid (∀ t, lefA acc (l.take t) = FL t) := fun t => congrFun hfv t
 simp only [HT1.out, HT2.out] at HS1 HS2 HL1 HL2 HF1 HF2 HI;clear hfu hfv HT1 HT2;have X0 : Hid (TL w [] [] (.slice none 0 0) (.slice none 0 0) w) := ⟨own_nil _ _, own_nil _ _, Below.refl _ _⟩
 go_enter Tryz.func152, Tryz.ntmps152
 go_wp2
 go_loopw [4, 5, 10] (fun u v x wr => ∃ t : Nat, ∃ ua un uc va vn vc, ∃ A R, u = .slice ua un uc ∧ v = .slice va vn vc ∧ x = .int .i64 t ∧ t ≤ l.length ∧ un = A.length ∧ vn = R.length ∧ Hid (FA t = A ∧ FL t = R) ∧ Hid (TL w A R (.slice ua un uc) (.slice va vn vc) wr)) (fun _ _ x _ => l.length - (intOf x).toNat)
 case atStart => exact ⟨0, none, 0, 0, none, 0, 0, [], [], rfl, rfl, rfl, Nat.zero_le _, rfl, rfl, HI, X0⟩
 case round =>
  clear HI X0;obtain ⟨t, ua, un, uc, va, vn, vc, A, R, rfl, rfl, rfl, ht, hun, hvn, HE, HP⟩ := hrel;have hA := HL1.out t;have hR := HL2.out t;rw [HE.out.1] at hA;rw [HE.out.2] at hR;subst hun;subst hvn
  by_cases hlt : t < l.length
  ·have hltI : (t : Int) < (l.length : Int) := by omega
   have ht0 : (0 : Int) ≤ (t : Int) := by omega
   have hw : IntKind.i64.wrap ((t : Int) + 1) = ((t + 1 : Nat) : Int) := by rw [IntKind.wrap_i64]; omega
   obtain ⟨b, off, rfl, hbl, q0, q1, q2⟩ := HH.out t hlt;have hs1 := HS1.out t hlt;have hs2 := HS2.out t hlt;rw [HE.out.1] at hs1;rw [HE.out.2] at hs2;have hblr : b < wr.heap.size := Nat.lt_of_lt_of_le hbl HP.out.bel.size;have c0 := (HP.out.bel.cell (p := ⟨b, off + t * 3, none⟩) hbl).trans q0;have c1 := (HP.out.bel.cell (p := ⟨b, off + t * 3 + 1, none⟩) hbl).trans q1;have c2 := (HP.out.bel.cell (p := ⟨b, off + t * 3 + 2, none⟩) hbl).trans q2;clear q0 q1 q2 HH HS1 HS2 HF1 HF2 HL1 HL2 HE;generalize l[t] = y at *;obtain ⟨ya, ys, yn⟩ := y;dsimp only at c0 c1 c2 hs1 hs2;have Z := hideIt (HP.out.keep (below1 wr (.cells #[.int .i64 ya, .int .i64 ys, .int .i64 yn] 61)));have K1 := hideIt (heap_alloc_new wr (.cells #[.int .i64 ya, .int .i64 ys, .int .i64 yn] 61));have HS1 := hideIt hs1;have HS2 := hideIt hs2;clear HP hs1 hs2
   go_upto_region 4 with fail
   clear c0 c1 c2 hblr;generalize wr.alloc (.cells #[.int .i64 ya, .int .i64 ys, .int .i64 yn] 61) = W1 at *;generalize wr.heap.size = kb at *;have k0 : W1.cell? ⟨kb, 0, none⟩ = some (.int .i64 ya) := by rw [cell_at K1.out]; rfl
   have k1 : W1.cell? ⟨kb, 1, none⟩ = some (.int .i64 ys) := by rw [cell_at K1.out]; rfl
   have k2 : W1.cell? ⟨kb, 2, none⟩ = some (.int .i64 yn) := by rw [cell_at K1.out]; rfl
   have kz : kb < W1.heap.size := (Array.getElem?_eq_some_iff.1 K1.out).1;clear K1
   by_cases he : ya = acc
   ·subst he;obtain ⟨a', c', w', hrun, hO'⟩ := Z.out.appA ⟨ys, yn⟩ (by omega);have HRUN := hideIt hrun;simp only [amE] at HRUN;have Z2 := hideIt hO';have HN : Hid (FA (t + 1) = A ++ [⟨ys, yn⟩] ∧ FL (t + 1) = R) := ⟨by rw [HS1.out, if_pos rfl], by rw [HS2.out, if_pos rfl, List.append_nil]⟩;clear hrun hO' Z HS1 HS2
    go_wp2_with (at_builtin; refine Lib.wpList_append_run _ rfl _ _ _ _ rfl _ _ rfl rfl _ _ HRUN.out ?_)
    clear HRUN;go_wp2
    go_roundw
    case rel => first | exact ⟨t + 1, a', _, c', va, _, vc, _, _, rfl, rfl, by go_num, by omega, by simp, rfl, HN, Z2⟩ | ((repeat apply Exists.intro); exact ⟨⟨t + 1, a', _, c', va, _, vc, _, _, rfl, rfl, by go_num, by omega, by simp, rfl, HN, Z2⟩, rfl⟩)
    case measure => simp [intOf]; omega
   ·obtain ⟨a', c', w', hrun, hO'⟩ := Z.out.appR ⟨ya, ys, yn⟩ (by omega);have HRUN := hideIt hrun;simp only [oweE] at HRUN;have Z2 := hideIt hO';have HN : Hid (FA (t + 1) = A ∧ FL (t + 1) = R ++ [⟨ya, ys, yn⟩]) := ⟨by rw [HS1.out, if_neg he, List.append_nil], by rw [HS2.out, if_neg he]⟩;clear hrun hO' Z HS1 HS2
    go_wp2_with (at_builtin; refine Lib.wpList_append_run _ rfl _ _ _ _ rfl _ _ rfl rfl _ _ HRUN.out ?_)
    clear HRUN;go_wp2
    go_roundw
    case rel => first | exact ⟨t + 1, ua, _, uc, a', _, c', _, _, rfl, rfl, by go_num, by omega, rfl, by simp, HN, Z2⟩ | ((repeat apply Exists.intro); exact ⟨⟨t + 1, ua, _, uc, a', _, c', _, _, rfl, rfl, by go_num, by omega, rfl, by simp, HN, Z2⟩, rfl⟩)
    case measure => simp [intOf]; omega
  ·have hltI : ¬ (t : Int) < (l.length : Int) := by omega
   have het : t = l.length := by omega
   subst het;have HQ : Hid (A = RA ∧ R = RL) := ⟨HE.out.1.symm.trans HF1.out, HE.out.2.symm.trans HF2.out⟩;clear HH HS1 HS2 HF1 HF2 HL1 HL2 HE;go_wp2
   go_ret2
   obtain ⟨rfl, rfl⟩ := HQ.out
   exact ⟨_, _, _, _, rfl, HP.out⟩
theorem blkK {w w' : World} {k : Nat} {x : Obj} (h : w.heap[k]? = some x) (hb : Below w.heap.size w w') : w'.heap[k]? = some x := (hb.block _ (Array.getElem?_eq_some_iff.1 h).1).trans h
end Go.Proofs.YtiinigifjdpicaaGreatDoor
namespace Go.Proofs.YtiinigifjdpicaaGreatDoor.Lg
open Go.RowKit
theorem hideIt {p : Prop} (h : p) : Hid p := h
structure Out (F : Nat → Prop) (w w' : World) : Prop where
 os : w'.os = w.os
 tape : w'.tape = w.tape
 output : w'.output = w.output
 size : w.heap.size ≤ w'.heap.size
 block : ∀ k, k < w.heap.size → ¬ F k → w'.heap[k]? = w.heap[k]?
theorem Out.refl (F : Nat → Prop) (w : World) : Out F w w := ⟨rfl, rfl, rfl, Nat.le_refl _, fun _ _ _ => rfl⟩
theorem Out.trans {F G : Nat → Prop} {a b c : World} (h : Out F a b) (k : Out G b c) (hG : ∀ i, i < a.heap.size → G i → F i) : Out F a c :=
 ⟨k.os.trans h.os, k.tape.trans h.tape, k.output.trans h.output, Nat.le_trans h.size k.size, fun i hi hn => (k.block i (Nat.lt_of_lt_of_le hi h.size) (fun e => hn (hG i hi e))).trans (h.block i hi hn)⟩
theorem Out.mono {F G : Nat → Prop} {a b : World} (h : Out F a b) (hG : ∀ i, F i → G i) : Out G a b :=
 ⟨h.os, h.tape, h.output, h.size, fun i hi hn => h.block i hi (fun e => hn (hG i e))⟩
theorem Out.ofBelow {F : Nat → Prop} {w w' : World} (h : Below w.heap.size w w') : Out F w w' := ⟨h.os, h.tape, h.output, h.size, fun i hi _ => h.block i hi⟩
theorem Out.below {F : Nat → Prop} {w w' : World} (h : Out F w w') {B : Nat} (hB : B ≤ w.heap.size) (hF : ∀ k, F k → B ≤ k) : Below B w w' :=
 ⟨h.os, h.tape, h.output, h.size, fun i hi => h.block i (Nat.lt_of_lt_of_le hi hB) (fun e => by have := hF i e; omega)⟩
theorem Out.ofGrown {F : Nat → Prop} {w w' : World} {r : Option Nat} (h : w.grownBy w' r) (hF : ∀ k, r = some k → F k) : Out F w w' :=
 ⟨h.os, h.tape, h.output, h.size, fun i hi hn => h.block i hi (fun e => hn (hF i e.symm))⟩
theorem Out.ofSet {F : Nat → Prop} (w : World) (a : Addr) (v : Value) (hF : F a.block) : Out F w (w.setCell a v) :=
 ⟨rfl, rfl, rfl, by simp, fun i _ hn => RowKit.Below.heap_setCell _ _ _ _ (fun e => hn (e ▸ hF))⟩
theorem Out.ofAlloc {F : Nat → Prop} (w : World) (o : Obj) : Out F w (w.alloc o) := Out.ofBelow ((Below.refl _ w).alloc (Nat.le_refl _) o)
theorem Out.ofDrew {F : Nat → Prop} (w : World) : Out F w w.drew := Out.ofBelow (Below.refl _ w).drew
theorem cell_at {w : World} {p : Nat} {cs : Array Value} {t : TypeId} (h : w.heap[p]? = some (.cells cs t (0, 0))) (i : Nat) : w.cell? ⟨p, i, none⟩ = cs[i]? := by
 simp [World.cell?, h]
theorem free_at {w : World} {p : Nat} {cs : Array Value} {t : TypeId} (h : w.heap[p]? = some (.cells cs t (0, 0))) (i : Nat) : w.frozen? ⟨p, i, none⟩ = false := by
 simp [World.frozen?, h]
theorem heap_set {w : World} {p : Nat} {cs : Array Value} {t : TypeId} (h : w.heap[p]? = some (.cells cs t (0, 0))) (j : Nat) (v : Value) : (w.setCell ⟨p, j, none⟩ v).heap[p]? = some (.cells (cs.setIfInBounds j v) t (0, 0)) := by
 rw [setCell_eq_setRow _ p j cs t (0, 0) _ h];exact setRow_heap _ p cs _ t _ h
theorem heap_set_other (w : World) (p j k : Nat) (v : Value) (h : k ≠ p) : (w.setCell ⟨p, j, none⟩ v).heap[k]? = w.heap[k]? := RowKit.Below.heap_setCell _ _ _ _ (fun e => h e)
def wiB (x lo hi : Int) : Bool := decide (lo ≤ x ∧ x ≤ hi)
theorem below1 (w : World) (o : Obj) : Below w.heap.size w (w.alloc o) := (Below.refl _ w).alloc (Nat.le_refl _) o
theorem below2 (w : World) (o p : Obj) : Below w.heap.size w ((w.alloc o).alloc p) := (below1 w o).alloc (by simp) p
theorem own_len {w : World} {B : Nat} {e : TypeId} {z n : Nat} {v : Value} {xs : List Value} (h : w.ownsRow B e z v n xs) : ∃ a c, v = .slice a n c := by
 obtain ⟨_, ⟨rfl, rfl⟩ | ⟨g, cap, cur, rfl, _⟩⟩ := h
 ·exact ⟨_, _, rfl⟩
 ·exact ⟨_, _, rfl⟩
theorem own_keep {w w' : World} {B : Nat} {e : TypeId} {z n : Nat} {v : Value} {xs : List Value} (h : w.ownsRow B e z v n xs) (hb : Below w.heap.size w w') : w'.ownsRow B e z v n xs := by
 obtain ⟨h1, h2 | ⟨g, cap, cur, hv, hB, hg, r⟩⟩ := h
 ·exact ⟨h1, .inl h2⟩
 ·exact ⟨h1, .inr ⟨g, cap, cur, hv, hB, (hb.block g (Array.getElem?_eq_some_iff.1 hg).1).trans hg, r⟩⟩
theorem own_base {w : World} {B B' : Nat} {e : TypeId} {z n : Nat} {v : Value} {xs : List Value} (h : w.ownsRow B e z v n xs) (hb : B' ≤ B) : w.ownsRow B' e z v n xs := by
 obtain ⟨h1, h2 | ⟨g, cap, cur, hv, hB, r⟩⟩ := h
 ·exact ⟨h1, .inl h2⟩
 ·exact ⟨h1, .inr ⟨g, cap, cur, hv, by omega, r⟩⟩
theorem shape_at {w : World} {p : Nat} {cs : Array Value} {t : TypeId} (h : w.heap[p]? = some (.cells cs t (0, 0))) : w.shape? p = some (t, cs.size) := by
 simp [World.shape?, h]
theorem put4 (wc : World) (b : Nat) (ty : TypeId) (v0 v1 v2 v3 : Value) {z0 z1 z2 z3 : Value} (h : wc.heap[b]? = some (.cells #[z0, z1, z2, z3] ty (0, 0))) :
  ((((wc.setCell ⟨b, 0, none⟩ v0).setCell ⟨b, 1, none⟩ v1).setCell ⟨b, 2, none⟩ v2).setCell ⟨b, 3, none⟩ v3).heap[b]? = some (.cells #[v0, v1, v2, v3] ty (0, 0)) := by
 have h0 := heap_set h 0 v0;have h1 := heap_set h0 1 v1;have h2 := heap_set h1 2 v2;exact heap_set h2 3 v3
theorem setOther {w : World} {b k j : Nat} {o : Option Obj} (v : Value) (h : w.heap[k]? = o) (hk : k ≠ b) : (w.setCell ⟨b, j, none⟩ v).heap[k]? = o := (heap_set_other w b j k v hk).trans h
theorem belowSet {B b j : Nat} {w0 w : World} (v : Value) (h : Below B w0 w) (hb : B ≤ b) : Below B w0 (w.setCell ⟨b, j, none⟩ v) :=
 ⟨h.os, h.tape, h.output, by simpa using h.size, fun k hk => by rw [heap_set_other _ _ _ _ _ (by omega)]; exact h.block k hk⟩
theorem ownSet {B b j n : Nat} {e : TypeId} {z : Nat} {g : Value} {w : World} {xs : List Value} (v : Value) (h : w.ownsRow B e z g n xs) (hb : b < B) : (w.setCell ⟨b, j, none⟩ v).ownsRow B e z g n xs := by
 obtain ⟨h1, h2 | ⟨k, cap, cur, hv, hB, hg, r⟩⟩ := h
 ·exact ⟨h1, .inl h2⟩
 ·exact ⟨h1, .inr ⟨k, cap, cur, hv, hB, (heap_set_other _ _ _ _ _ (by omega)).trans hg, r⟩⟩
theorem two_heap (w : World) (o p : Obj) : ((w.alloc o).alloc p).heap[w.heap.size]? = some o ∧ ((w.alloc o).alloc p).heap[w.heap.size + 1]? = some p ∧ ((w.alloc o).alloc p).heap.size = w.heap.size + 2 := by
 refine ⟨?_, ?_, by simp⟩
 ·rw [heap_alloc_old _ _ (by simp)];exact heap_alloc_new w _
 ·have e : w.heap.size + 1 = (w.alloc o).heap.size := by simp
  rw [e];exact heap_alloc_new _ _
theorem below_out {W w w' : World} {F : Nat → Prop} (h : Below W.heap.size W w) (ho : Out F w w') (hF : ∀ k, F k → W.heap.size ≤ k) : Below W.heap.size W w' :=
 h.trans (ho.below h.size hF)
theorem own_out {F : Nat → Prop} {wa wb : World} {B : Nat} {e : TypeId} {z : Nat} {v : Value} {n : Nat} {xs : List Value} (h : wa.ownsRow B e z v n xs) (ho : Out F wa wb) (hF : ∀ k, F k → k < B) : wb.ownsRow B e z v n xs := by
 obtain ⟨h1, hn | ⟨g, cap, cur, hv, hb, hg, rest⟩⟩ := h
 ·exact ⟨h1, .inl hn⟩
 ·exact ⟨h1, .inr ⟨g, cap, cur, hv, hb, (ho.block g (Array.getElem?_eq_some_iff.1 hg).1 (fun hf => by have := hF g hf; omega)).trans hg, rest⟩⟩
theorem addN (b off j : Nat) : (⟨b, off, none⟩ : Addr).add j = ⟨b, off + j, none⟩ := by cases j <;> simp [Addr.add]
theorem grown_refl (w : World) (r : Option Nat) : w.grownBy w r := ⟨rfl, rfl, rfl, Nat.le_refl _, fun _ _ _ => rfl⟩
theorem below3 (w : World) (o p q : Obj) : Below w.heap.size w (((w.alloc o).alloc p).alloc q) := (below2 w o p).alloc (by simp; omega) q
theorem three_heap (w : World) (o p q : Obj) : (((w.alloc o).alloc p).alloc q).heap[w.heap.size]? = some o ∧ (((w.alloc o).alloc p).alloc q).heap[w.heap.size + 1]? = some p ∧ (((w.alloc o).alloc p).alloc q).heap[w.heap.size + 2]? = some q ∧ (((w.alloc o).alloc p).alloc q).heap.size = w.heap.size + 3 := by
 have ht := two_heap w o p;refine ⟨?_, ?_, ?_, by simp⟩
 ·rw [heap_alloc_old _ _ (by rw [ht.2.2]; omega)]
  exact ht.1
 ·rw [heap_alloc_old _ _ (by rw [ht.2.2]; omega)]
  exact ht.2.1
 ·have h := heap_alloc_new ((w.alloc o).alloc p) q
  rwa [ht.2.2] at h
theorem grown_none {w w' : World} (h : w.grownBy w' none) : Below w.heap.size w w' := (Out.ofGrown (F := fun _ => False) h (fun _ h => by cases h)).below (Nat.le_refl _) (fun _ h => h.elim)
theorem box_cell {w w1 : World} {cs : Array Value} {t : TypeId} (h : Below (w.alloc (.cells cs t)).heap.size (w.alloc (.cells cs t)) w1) (i : Nat) : w1.cell? ⟨w.heap.size, i, none⟩ = cs[i]? :=
 (h.cell (by simp)).trans (cell_at (heap_alloc_new w _) i)
theorem below_via {w w1 w2 : World} (h : Below w.heap.size w w1) (k : Below w1.heap.size w1 w2) : Below w.heap.size w w2 :=
 h.trans ⟨k.os, k.tape, k.output, k.size, fun i hi => k.block i (Nat.lt_of_lt_of_le hi h.size)⟩
structure AmtV where
 k : Int
 n : Int
def amC (l : List AmtV) : List Value := (l.map (fun e => [Value.int .i64 e.k, .int .i64 e.n])).flatten
theorem amC_app (l k : List AmtV) : amC (l ++ k) = amC l ++ amC k := by simp [amC]
theorem amC_len (l : List AmtV) : (amC l).length = l.length * 2 := by
 induction l with
 | nil => rfl
 | cons e l ih =>
  have e1 : amC (e :: l) = [Value.int .i64 e.k, .int .i64 e.n] ++ amC l := by simp [amC]
  rw [e1, List.length_append, ih]
  simp
  omega
theorem amC_one (l : List AmtV) : ∀ u ∈ amC l, u.oneCell' = true := by
 intro u hu;unfold amC at hu;rw [List.mem_flatten] at hu;obtain ⟨r, hr, hu⟩ := hu;obtain ⟨e, _, rfl⟩ := List.mem_map.1 hr;simp only [List.mem_cons, List.not_mem_nil, or_false] at hu
 rcases hu with rfl | rfl <;> rfl
theorem amC_get : ∀ (es : List AmtV) (i : Nat) (h : i < es.length), (amC es)[i * 2]? = some (.int .i64 (es[i]).k) ∧ (amC es)[i * 2 + 1]? = some (.int .i64 (es[i]).n)
 | [], i, h => by simp at h
 | e :: es, 0, h => by simp [amC]
 | e :: es, i + 1, h => by
  have ih := amC_get es i (by simpa using h);have e1 : amC (e :: es) = [Value.int .i64 e.k, .int .i64 e.n] ++ amC es := by simp [amC]
  rw [e1];have g : ∀ j, ([Value.int .i64 e.k, .int .i64 e.n] ++ amC es)[(i + 1) * 2 + j]? = (amC es)[i * 2 + j]? := by
   intro j;rw [List.getElem?_append_right (by simp; omega)]
   congr 1
   simp
   omega
  have g0 := g 0;rw [Nat.add_zero, Nat.add_zero] at g0;rw [g0, g 1]
  simpa using ih
def AGot (w : World) (v : Value) (l : List AmtV) : Prop :=
 l.length * 16 ≤ 140737488355328 ∧ ∃ a c, v = .slice a l.length c ∧ (l.length ≤ c ∧ c ≤ maxLen) ∧ (0 < l.length → ∃ b off, a = some ⟨b, off, none⟩ ∧ b < w.heap.size ∧ ∀ j, j < l.length * 2 → w.cell? ⟨b, off + j, none⟩ = (amC l)[j]?)
theorem AGot.nil (w : World) (a : Option Addr) (c : Nat) (hc : c ≤ maxLen) : AGot w (.slice a 0 c) [] := ⟨by simp, a, c, rfl, ⟨Nat.zero_le _, hc⟩, fun h => absurd h (by simp)⟩
theorem AGot.keep {w w' : World} {v : Value} {l : List AmtV} (h : AGot w v l) (hb : Below w.heap.size w w') : AGot w' v l := by
 obtain ⟨h8, a, c, rfl, hcc, hr⟩ := h;refine ⟨h8, a, c, rfl, hcc, fun hp => ?_⟩;obtain ⟨b, off, rfl, hlt, hc⟩ := hr hp
 exact ⟨b, off, rfl, Nat.lt_of_lt_of_le hlt hb.size, fun j hj => (hb.cell hlt).trans (hc j hj)⟩
theorem AGot.slice {w : World} {v : Value} {l : List AmtV} (h : AGot w v l) : ∃ a c, v = .slice a l.length c := by
 obtain ⟨_, a, c, rfl, _⟩ := h
 exact ⟨a, c, rfl⟩
theorem AGot.open {w : World} {v : Value} {l : List AmtV} (h : AGot w v l) : ∃ a c, v = .slice a l.length c ∧ l.length * 16 ≤ 140737488355328 ∧ ∀ i (h : i < l.length), ∃ b off, a = some ⟨b, off, none⟩ ∧ b < w.heap.size ∧ w.cell? ⟨b, off + i * 2, none⟩ = some (.int .i64 (l[i]).k) ∧ w.cell? ⟨b, off + i * 2 + 1, none⟩ = some (.int .i64 (l[i]).n) := by
 obtain ⟨h8, a, c, rfl, _, hr⟩ := h;refine ⟨a, c, rfl, h8, fun i hi => ?_⟩;obtain ⟨b, off, rfl, hlt, hc⟩ := hr (by omega);obtain ⟨e0, e1⟩ := amC_get l i hi
 exact ⟨b, off, rfl, hlt, (hc _ (by omega)).trans e0, (hc (i * 2 + 1) (by omega)).trans e1⟩
theorem own_nil (w : World) (B : Nat) : w.ownsRow B 53 2 (.slice none 0 0) 0 (amC []) := ⟨rfl, .inl ⟨rfl, rfl⟩⟩
theorem info35 : (Tryz.prog.info? 53).map (fun i => (i.zero, i.size, i.bytes)) = some (some (.agg #[.int .i64 0, .int .i64 0]), 2, 16) := by kernel_rfl
theorem run_app_none (w : World) (ty : TypeId) (B : Nat) (v : Value) (n : Nat) (xs : List Value) (hown : w.ownsRow B 53 2 v n xs) (c : Nat) : (Builtin.append_ #[33, 33] ty #[v, .slice none 0 c]).run Tryz.prog w = .ok v w := by
 obtain ⟨i, hi, hz0, hz1, hz2⟩ := info_parts info35;have ht : Tryz.prog.underlying 33 = some (.slice 53) := Tryz.underlying33
 rcases hown.2 with ⟨rfl, rfl⟩ | ⟨g, cap, cur, rfl, _, _, hnc, _⟩
 ·simp [Builtin.append_, run_underlying ht, sizeOf, typeInfo, hi, Builtin.lenOf, Builtin.firstCells]
 ·simp [Builtin.append_, run_underlying ht, sizeOf, typeInfo, hi, Builtin.lenOf, Builtin.firstCells, hnc, storeCells]
theorem run_app (w : World) (ty : TypeId) (B : Nat) (v : Value) (xs l : List AmtV) (g : Value) (hB : B ≤ w.heap.size) (ho : w.ownsRow B 53 2 v xs.length (amC xs)) (hg : AGot w g l) (hl : (xs.length + l.length) * 16 ≤ 140737488355328) :
  ∃ v' w', (Builtin.append_ #[33, 33] ty #[v, g]).run Tryz.prog w = .ok v' w' ∧ w'.ownsRow B 53 2 v' (xs ++ l).length (amC (xs ++ l)) ∧ w.grownBy w' v.ownBlock := by
 obtain ⟨i, hi, hz0, hz1, hz2⟩ := info_parts info35;have ht : Tryz.prog.underlying 33 = some (.slice 53) := Tryz.underlying33;have hm : xs.length + l.length ≤ maxLen := by unfold maxLen; omega
 obtain ⟨h8, a, c, rfl, _, hr⟩ := hg
 rcases Nat.eq_zero_or_pos l.length with h0 | hp
 ·rw [List.length_eq_zero_iff] at h0;subst h0;rw [List.append_nil];cases a with
  | none => exact ⟨v, w, run_app_none w ty B v xs.length (amC xs) ho c, ho, grown_refl w _⟩
  | some a =>
   obtain ⟨v', w', h1, h2, h3, _⟩ := run_append_own (P := Tryz.prog) w B 33 ty 53 i _ 2 16 ht hi hz0 hz1 hz2 rfl (by omega) v xs.length (amC xs) ho a 0 c [] rfl (fun j u hu => by simp at hu) (fun u hu => by simp at hu) (by simpa using hm) (by simpa using hl) hB;refine ⟨v', w', h1, ?_, h3⟩
   simpa using h2
 ·obtain ⟨b, off, rfl, hlt, hc⟩ := hr hp;obtain ⟨v', w', h1, h2, h3, _⟩ := run_append_own (P := Tryz.prog) w B 33 ty 53 i _ 2 16 ht hi hz0 hz1 hz2 rfl (by omega) v xs.length (amC xs) ho ⟨b, off, none⟩ l.length c (amC l) (amC_len l) (fun j u hu => by
    rw [addN];have hj : j < l.length * 2 := by
     have := (List.getElem?_eq_some_iff.1 hu).1
     rwa [amC_len] at this
    rw [hc j hj, hu]) (amC_one l) hm hl hB
  refine ⟨v', w', h1, ?_, h3⟩;rw [List.length_append, amC_app];exact h2
theorem wpList_append_run (w : World) {ops : Array Oper} {rest : List Oper} {o : Oper} {a : Act} {Q : Exit → Act → World → Prop} (hgd : o.guard = none) (sl x : Operand)
  (ho : o.op = .call { callee := .builtin .append, args := #[sl, x], argTypes := #[33, 33] }) {v1 v2 v' : Value} {w' : World} (hs : a.eval sl = v1) (hx : a.eval x = v2) (hty : o.type = 33)
  (hrun : (Builtin.append_ #[33, 33] 33 #[v1, v2]).run Tryz.prog w = .ok v' w') (h : wpList Tryz.prog ops Q rest (a.put o.dst v') w') : wpList Tryz.prog ops Q (o :: rest) a w := by
 refine wpList_plain hgd fun K hK => ?_
 unfold Oper.wp execOp;simp only [ho, resolve, invoke, builtin, Sem.run_bind, Sem.run_pure, Result.andThen_ok, List.map_toArray, List.map_cons, List.map_nil, hs, hx, hty, hrun];exact hK _ _ h
structure AccV where
 l : List AmtV
 ct : Int
def accA (A : AccV) (g : Value) : Array Value := #[g, .int .i64 A.ct]
def accV (A : AccV) (g : Value) : Value := .agg (accA A g)
def zA : AccV := ⟨[], 0⟩
theorem one_got (w : World) (x y : Int) : AGot (w.alloc (.cells #[.int .i64 x, .int .i64 y] 53)) (.slice (some ⟨w.heap.size, 0, none⟩) 1 1) [⟨x, y⟩] := by
 refine ⟨by simp, _, 1, rfl, ⟨by simp, by unfold maxLen; omega⟩, fun _ => ⟨w.heap.size, 0, rfl, by simp, fun j hj => ?_⟩⟩
 rw [cell_at (heap_alloc_new w _), Nat.zero_add];simp only [amC];rw [← List.getElem?_toArray]
 rfl
end Go.Proofs.YtiinigifjdpicaaGreatDoor.Lg
namespace Go.Proofs.YtiinigifjdpicaaGreatDoor.Lg
open Go.RowKit
def amtsB : List AmtV → Int → Bool
 | [], _ => true
 | e :: l, h => decide (h < e.k) && wiB e.k 0 3 && wiB e.n 1 9007199254740992 && amtsB l e.k
theorem amtsB_drop (l : List AmtV) (t : Nat) (x : Int) (h : t < l.length) : amtsB (l.drop t) x = (decide (x < (l[t]).k) && wiB (l[t]).k 0 3 && wiB (l[t]).n 1 9007199254740992 && amtsB (l.drop (t + 1)) (l[t]).k) := by
 rw [List.drop_eq_getElem_cons h]
 rfl
def balL : List AmtV → Int → Int
 | [], _ => 0
 | e :: l, a => if e.k = a then e.n else balL l a
theorem balL_drop (l : List AmtV) (t : Nat) (a : Int) (h : t < l.length) : balL (l.drop t) a = if (l[t]).k = a then (l[t]).n else balL (l.drop (t + 1)) a := by
 rw [List.drop_eq_getElem_cons h]
 rfl
def sumL : List AmtV → Int → Int
 | [], _ => 0
 | e :: l, a => (if e.k = a then e.n else 0) + sumL l a
def accB (A : AccV) : Bool := amtsB A.l (-1) && wiB A.ct 0 1000000000
def chkI (A : AccV) : Int := if accB A then 0 else 120
theorem sumL_app (l k : List AmtV) (a : Int) : sumL (l ++ k) a = sumL l a + sumL k a := by
 induction l with
 | nil => simp [sumL]
 | cons e l ih => simp [sumL, ih, Int.add_assoc]
theorem sumL_take (l : List AmtV) (t : Nat) (a : Int) (h : t < l.length) : sumL (l.take (t + 1)) a = sumL (l.take t) a + if (l[t]).k = a then (l[t]).n else 0 := by
 rw [List.take_succ_eq_append_getElem h, sumL_app]
 simp [sumL]
theorem amts_mem : ∀ (l : List AmtV) (x : Int), amtsB l x = true → ∀ e ∈ l, x < e.k ∧ (0 ≤ e.k ∧ e.k ≤ 3) ∧ (1 ≤ e.n ∧ e.n ≤ 9007199254740992)
 | [], _, _, e, he => by cases he
 | c :: l, x, h, e, he => by
  simp only [amtsB, wiB, Bool.and_eq_true, decide_eq_true_eq] at h;obtain ⟨⟨⟨h1, h2⟩, h3⟩, h4⟩ := h
  rcases List.mem_cons.1 he with rfl | he
  ·exact ⟨h1, h2, h3⟩
  ·have := amts_mem l c.k h4 e he
   exact ⟨by omega, this.2⟩
theorem sum_zero : ∀ (l : List AmtV) (x a : Int), amtsB l x = true → a ≤ x → sumL l a = 0
 | [], _, _, _, _ => rfl
 | c :: l, x, a, h, ha => by
  have hm := amts_mem _ _ h c (List.mem_cons_self ..);simp only [amtsB, Bool.and_eq_true] at h;rw [sumL, sum_zero l c.k a h.2 (by omega), if_neg (by omega)]
  rfl
theorem bal_zero : ∀ (l : List AmtV) (x a : Int), amtsB l x = true → a ≤ x → balL l a = 0
 | [], _, _, _, _ => rfl
 | c :: l, x, a, h, ha => by
  have hm := amts_mem _ _ h c (List.mem_cons_self ..);simp only [amtsB, Bool.and_eq_true] at h;rw [balL, bal_zero l c.k a h.2 (by omega), if_neg (by omega)]
theorem sum_bal : ∀ (l : List AmtV) (x a : Int), amtsB l x = true → sumL l a = balL l a
 | [], _, _, _ => rfl
 | c :: l, x, a, h => by
  simp only [amtsB, Bool.and_eq_true] at h;rw [sumL, balL]
  by_cases e : c.k = a
  ·rw [if_pos e, if_pos e, sum_zero l c.k a h.2 (by omega), Int.add_zero]
  ·rw [if_neg e, if_neg e, sum_bal l c.k a h.2, Int.zero_add]
theorem bal_in : ∀ (l : List AmtV) (x a : Int), amtsB l x = true → 0 ≤ balL l a ∧ balL l a ≤ 9007199254740992
 | [], _, _, _ => by simp [balL]
 | c :: l, x, a, h => by
  have hm := amts_mem _ _ h c (List.mem_cons_self ..);simp only [amtsB, Bool.and_eq_true] at h;rw [balL]
  split
  ·omega
  ·exact bal_in l c.k a h.2
theorem sum_pos (l : List AmtV) (a : Int) (h : ∀ e ∈ l, 1 ≤ e.n) : 0 ≤ sumL l a := by
 induction l with
 | nil => simp [sumL]
 | cons e l ih =>
  have := ih (fun x hx => h x (List.mem_cons_of_mem _ hx));have := h e (List.mem_cons_self ..);rw [sumL]
  split <;> omega
theorem take_in (l : List AmtV) (x a : Int) (t : Nat) (h : amtsB l x = true) : 0 ≤ sumL (l.take t) a ∧ sumL (l.take t) a ≤ 9007199254740992 := by
 have h1 : sumL l a = sumL (l.take t) a + sumL (l.drop t) a := by rw [← sumL_app, List.take_append_drop]
 have hm := amts_mem l x h;have h2 := sum_pos (l.take t) a (fun e he => (hm e (List.mem_of_mem_take he)).2.2.1);have h3 := sum_pos (l.drop t) a (fun e he => (hm e (List.mem_of_mem_drop he)).2.2.1);have h4 := bal_in l x a h;rw [sum_bal l x a h] at h1;omega
def one (s : Nat → Int) (t : Nat) : List AmtV := if 0 < s t then [⟨t, s t⟩] else []
def pre (s : Nat → Int) : Nat → List AmtV
 | 0 => []
 | t + 1 => pre s t ++ one s t
theorem pre_len (s : Nat → Int) (t : Nat) : (pre s t).length ≤ t := by
 induction t with
 | zero => exact Nat.le_refl _
 | succ t ih =>
  have : (one s t).length ≤ 1 := by unfold one; split <;> simp
  rw [pre, List.length_append];omega
theorem pre4 (s : Nat → Int) : pre s 4 = one s 0 ++ (one s 1 ++ (one s 2 ++ one s 3)) := by simp [pre]
theorem one_bal (s : Nat → Int) (t : Nat) (l : List AmtV) (a : Int) (h : 0 ≤ s t) (hl : (t : Int) = a → balL l a = 0) : balL (one s t ++ l) a = if (t : Int) = a then s t else balL l a := by
 unfold one
 split
 ·simp [balL]
 ·rw [List.nil_append]
  split
  ·rw [hl (by assumption)];omega
  ·rfl
theorem one_nil (s : Nat → Int) (t : Nat) : one s t = one s t ++ [] := by simp
theorem one_amts (s : Nat → Int) (t : Nat) (l : List AmtV) (x : Int) (hx : x < t) (h : 0 ≤ s t ∧ s t ≤ 9007199254740992) (ht : t ≤ 3) (hl : ∀ y : Int, y ≤ t → amtsB l y = true) : amtsB (one s t ++ l) x = true := by
 unfold one
 split
 ·simp only [List.cons_append, List.nil_append, amtsB, wiB, Bool.and_eq_true, decide_eq_true_eq]
  exact ⟨⟨⟨hx, by omega⟩, by omega⟩, hl t (Int.le_refl _)⟩
 ·exact hl x (by omega)
theorem pre_ok {s : Nat → Int} (h : ∀ k, k < 4 → 0 ≤ s k ∧ s k ≤ 9007199254740992) : amtsB (pre s 4) (-1) = true := by
 rw [pre4];refine one_amts s 0 _ _ (by decide) (h 0 (by omega)) (by omega) fun y hy => ?_
 refine one_amts s 1 _ _ (by omega) (h 1 (by omega)) (by omega) fun z hz => ?_
 refine one_amts s 2 _ _ (by omega) (h 2 (by omega)) (by omega) fun u hu => ?_
 rw [one_nil s 3];exact one_amts s 3 _ _ (by omega) (h 3 (by omega)) (by omega) fun _ _ => rfl
theorem pre_bal {s : Nat → Int} (h : ∀ k, k < 4 → 0 ≤ s k ∧ s k ≤ 9007199254740992) (k : Nat) (hk : k < 4) : balL (pre s 4) k = s k := by
 have b3 : amtsB (one s 3) 2 = true := by
  rw [one_nil s 3];exact one_amts s 3 _ _ (by omega) (h 3 (by omega)) (by omega) fun _ _ => rfl
 have b2 : amtsB (one s 2 ++ one s 3) 1 = true := by
  refine one_amts s 2 _ _ (by omega) (h 2 (by omega)) (by omega) fun u hu => ?_
  rw [one_nil s 3];exact one_amts s 3 _ _ (by omega) (h 3 (by omega)) (by omega) fun _ _ => rfl
 have b1 : amtsB (one s 1 ++ (one s 2 ++ one s 3)) 0 = true := by
  refine one_amts s 1 _ _ (by omega) (h 1 (by omega)) (by omega) fun z hz => ?_
  refine one_amts s 2 _ _ (by omega) (h 2 (by omega)) (by omega) fun u hu => ?_
  rw [one_nil s 3];exact one_amts s 3 _ _ (by omega) (h 3 (by omega)) (by omega) fun _ _ => rfl
 rw [pre4];rw [one_bal s 0 _ _ (h 0 (by omega)).1 (fun e => bal_zero _ 0 _ b1 (by omega))];rw [one_bal s 1 _ _ (h 1 (by omega)).1 (fun e => bal_zero _ 1 _ b2 (by omega))];rw [one_bal s 2 _ _ (h 2 (by omega)).1 (fun e => bal_zero _ 2 _ b3 (by omega))];rw [one_nil s 3, one_bal s 3 _ _ (h 3 (by omega)).1 (fun e => rfl)]
 rcases (by omega : k = 0 ∨ k = 1 ∨ k = 2 ∨ k = 3) with rfl | rfl | rfl | rfl <;> simp
def moreS (l : List AmtV) (a n : Int) : Nat → Int := fun k => balL l k + if (k : Int) = a then n else 0
def refI (A : AccV) (a n : Int) : Int := if accB A then (if wiB a 0 3 && wiB n 1 9007199254740992 then 0 else 1) else 120
def credL (A : AccV) (a n : Int) : AccV × Int :=
 if refI A a n = 0 then (if balL A.l a + n > 9007199254740992 ∨ A.ct = 1000000000 then (zA, 122) else (⟨pre (moreS A.l a n) 4, A.ct + 1⟩, 0)) else (zA, refI A a n)
def debL (A : AccV) (a n : Int) : AccV × Int :=
 if refI A a n = 0 then (if balL A.l a < n then (zA, 121) else if A.ct = 1000000000 then (zA, 122) else (⟨pre (moreS A.l a (-n)) 4, A.ct + 1⟩, 0)) else (zA, refI A a n)
theorem accB_in {A : AccV} (h : accB A = true) : amtsB A.l (-1) = true ∧ 0 ≤ A.ct ∧ A.ct ≤ 1000000000 := by
 simp only [accB, wiB, Bool.and_eq_true, decide_eq_true_eq] at h;exact h
theorem refI_in {A : AccV} {a n : Int} (h : refI A a n = 0) : accB A = true ∧ (0 ≤ a ∧ a ≤ 3) ∧ (1 ≤ n ∧ n ≤ 9007199254740992) := by
 unfold refI at h;cases h1 : accB A
 ·simp [h1] at h
 ·refine ⟨rfl, ?_⟩;cases h2 : (wiB a 0 3 && wiB n 1 9007199254740992)
  ·simp [h1, h2] at h
  ·simpa [wiB] using h2
def sumA : List AccV → Int → Int
 | [], _ => 0
 | A :: l, a => balL A.l a + sumA l a
theorem sumA_in (l : List AccV) (a : Int) (h : l.all accB = true) : 0 ≤ sumA l a ∧ sumA l a ≤ l.length * 9007199254740992 := by
 induction l with
 | nil => simp [sumA]
 | cons A l ih =>
  simp only [List.all_cons, Bool.and_eq_true] at h;have h1 := ih h.2;have h2 := bal_in A.l _ a (accB_in h.1).1;rw [sumA, List.length_cons];omega
end Go.Proofs.YtiinigifjdpicaaGreatDoor.Lg
namespace Go.Proofs.YtiinigifjdpicaaGreatDoor.Lg
open Go.RowKit
set_option maxHeartbeats 1000000 in
theorem within_is (x lo hi : Int) (w : World) : Calls Tryz.prog 63 #[.int .i64 x, .int .i64 lo, .int .i64 hi] w fun e w' => e = .returned (.bool (wiB x lo hi)) ∧ w' = w := by
 unfold wiB
 by_cases h : lo ≤ x
 ·go_enter Tryz.func63, Tryz.ntmps63
  go_wp2;go_ret
  exact ⟨by simp [h], rfl⟩
 ·go_enter Tryz.func63, Tryz.ntmps63
  go_wp2;go_ret
  exact ⟨by rw [decide_eq_false (by omega)]; rfl, rfl⟩
set_option maxHeartbeats 1000000 in
theorem isAsset_is (x : Int) (w : World) : Calls Tryz.prog 84 #[.int .i64 x] w fun e w' => e = .returned (.bool (wiB x 0 3)) ∧ w' = w := by
 have N1 := hideIt (fun W => within_is x 0 3 W)
 go_enter Tryz.func84, Tryz.ntmps84
 go_wp2_with fail
 refine (N1.out _).mono ?_;rintro e w1 ⟨rfl, rfl⟩;dsimp only;go_wp2;go_ret
 exact ⟨rfl, rfl⟩
set_option maxHeartbeats 1000000 in
theorem isBalance_is (x : Int) (w : World) : Calls Tryz.prog 85 #[.int .i64 x] w fun e w' => e = .returned (.bool (wiB x 1 9007199254740992)) ∧ w' = w := by
 have N1 := hideIt (fun W => within_is x 1 9007199254740992 W)
 go_enter Tryz.func85, Tryz.ntmps85
 go_wp2_with fail
 refine (N1.out _).mono ?_;rintro e w1 ⟨rfl, rfl⟩;dsimp only;go_wp2;go_ret
 exact ⟨rfl, rfl⟩
set_option maxHeartbeats 4000000 in
set_option maxRecDepth 100000 in
theorem areAmounts_is (g : Value) (l : List AmtV) (w : World) (h : AGot w g l) : Calls Tryz.prog 62 #[g] w fun e w' => e = .returned (.bool (amtsB l (-1))) ∧ Below w.heap.size w w' := by
 obtain ⟨a, c, rfl, h8, hr⟩ := h.open;have HH := hideIt hr;clear hr h
 go_enter Tryz.func62, Tryz.ntmps62
 go_wp2
 go_loopw [3, 8] (fun u v wr => ∃ (t : Nat) (y : Int), u = .int .i64 y ∧ v = .int .i64 t ∧ t ≤ l.length ∧ Hid (amtsB l (-1) = amtsB (l.drop t) y ∧ Below w.heap.size w wr)) (fun _ v _ => l.length - (intOf v).toNat)
 case atStart => exact ⟨0, -1, rfl, rfl, Nat.zero_le _, hideIt ⟨rfl, Below.refl _ _⟩⟩
 case round =>
  obtain ⟨t, y, rfl, rfl, ht, HR⟩ := hrel
  by_cases hlt : t < l.length
  ·have hltI : (t : Int) < (l.length : Int) := by omega
   have ht0 : (0 : Int) ≤ (t : Int) := by omega
   obtain ⟨b, off, rfl, hbl, q0, q1⟩ := HH.out t hlt;have hB := HR.out.2;have hBS := hB.size;have c0 := (hB.cell (p := ⟨b, off + t * 2, none⟩) hbl).trans q0;have c1 := (hB.cell (p := ⟨b, off + t * 2 + 1, none⟩) hbl).trans q1;have hblr : b < wr.heap.size := by omega
   have HRD := hideIt (amtsB_drop l t y hlt);generalize l[t] = en at *;obtain ⟨ek, ex⟩ := en;simp only at c0 c1 HRD;have HN1 := hideIt (fun W => isAsset_is ek W);have HN2 := hideIt (fun W => isBalance_is ex W);have HA := hideIt (hB.alloc (by omega) (.cells #[.int .i64 ek, .int .i64 ex] 53));clear q0 q1 hB
   by_cases h0 : y < ek
   ·have h0I : ¬ ek ≤ y := by omega
    cases h1 : wiB ek 0 3
    ·rw [h1] at HN1 HRD
     go_wp2_with fail
     refine (HN1.out _).mono ?_;rintro e w1 ⟨rfl, rfl⟩;dsimp only;go_wp2;go_ret
     exact ⟨by rw [HR.out.1, HRD.out]; simp, HA.out⟩
    ·rw [h1] at HN1 HRD;cases h2 : wiB ex 1 9007199254740992
     ·rw [h2] at HN2 HRD
      go_wp2_with fail
      refine (HN1.out _).mono ?_;rintro e w1 ⟨rfl, rfl⟩;dsimp only
      go_wp2_with fail
      refine (HN2.out _).mono ?_;rintro e w1 ⟨rfl, rfl⟩;dsimp only;go_wp2;go_ret
      exact ⟨by rw [HR.out.1, HRD.out]; simp, HA.out⟩
     ·rw [h2] at HN2 HRD
      go_wp2_with fail
      refine (HN1.out _).mono ?_;rintro e w1 ⟨rfl, rfl⟩;dsimp only
      go_wp2_with fail
      refine (HN2.out _).mono ?_;rintro e w1 ⟨rfl, rfl⟩;dsimp only;go_wp2
      go_roundw
      case rel => exact ⟨t + 1, ek, rfl, by go_num, by omega, hideIt ⟨by rw [HR.out.1, HRD.out]; simp [h0], HA.out⟩⟩
      case measure => simp [intOf]; omega
   ·have h0I : ek ≤ y := by omega
    clear h0;go_wp2;go_ret
    exact ⟨by rw [HR.out.1, HRD.out, decide_eq_false (p := y < ek) (by omega)]; rfl, HA.out⟩
  ·have hltI : ¬ (t : Int) < (l.length : Int) := by omega
   go_wp2;go_ret;have := HR.out.1;rw [List.drop_of_length_le (by omega)] at this
   exact ⟨by rw [this]; rfl, HR.out.2⟩
set_option maxHeartbeats 4000000 in
set_option maxRecDepth 100000 in
theorem check_is (A : AccV) (g : Value) (w : World) (h : AGot w g A.l) : Calls Tryz.prog 38 #[accV A g] w fun e w' => e = .returned (.int .i64 (chkI A)) ∧ Below w.heap.size w w' := by
 have HB := hideIt (below1 w (.cells (accA A g) 44));have H1 := hideIt (areAmounts_is g A.l _ (h.keep HB.out));have N1 := hideIt (fun W => within_is A.ct 0 1000000000 W);obtain ⟨a, c, rfl⟩ := h.slice;obtain ⟨l, ct⟩ := A;unfold chkI accB accV accA at *;simp only at H1 N1 HB ⊢;clear h;cases h1 : amtsB l (-1)
 ·rw [h1] at H1
  go_enter Tryz.func38, Tryz.ntmps38
  go_wp2_with fail
  refine H1.out.mono ?_;rintro e w1 ⟨rfl, hbl⟩;dsimp only;have HB2 := hideIt (below_via HB.out hbl);clear hbl;go_wp2;go_ret
  exact ⟨rfl, HB2.out⟩
 ·rw [h1] at H1;cases h2 : wiB ct 0 1000000000
  ·rw [h2] at N1
   go_enter Tryz.func38, Tryz.ntmps38
   go_wp2_with fail
   refine H1.out.mono ?_;rintro e w1 ⟨rfl, hbl⟩;dsimp only;have HB2 := hideIt (below_via HB.out hbl);have d0 := box_cell hbl 1;clear hbl
   go_wp2_with fail
   refine (N1.out _).mono ?_;rintro e w1 ⟨rfl, rfl⟩;dsimp only;go_wp2;go_ret
   exact ⟨rfl, HB2.out⟩
  ·rw [h2] at N1
   go_enter Tryz.func38, Tryz.ntmps38
   go_wp2_with fail
   refine H1.out.mono ?_;rintro e w1 ⟨rfl, hbl⟩;dsimp only;have HB2 := hideIt (below_via HB.out hbl);have d0 := box_cell hbl 1;clear hbl
   go_wp2_with fail
   refine (N1.out _).mono ?_;rintro e w1 ⟨rfl, rfl⟩;dsimp only;go_wp2;go_ret
   exact ⟨rfl, HB2.out⟩
set_option maxHeartbeats 4000000 in
set_option maxRecDepth 100000 in
theorem balance_is (A : AccV) (g : Value) (k : Int) (w : World) (h : AGot w g A.l) : Calls Tryz.prog 107 #[accV A g, .int .i64 k] w fun e w' => e = .returned (.int .i64 (balL A.l k)) ∧ Below w.heap.size w w' := by
 have HB := hideIt (below1 w (.cells (accA A g) 44));obtain ⟨a, c, rfl, h8, hr⟩ := (h.keep HB.out).open;have HH := hideIt hr;obtain ⟨l, ct⟩ := A;unfold accV accA at *;simp only at HH HB h8 ⊢;clear hr h
 go_enter Tryz.func107, Tryz.ntmps107
 go_wp2;generalize w.alloc (.cells #[.slice a l.length c, .int .i64 ct] 44) = X at *
 go_loopw [10] (fun v wr => ∃ (t : Nat), v = .int .i64 t ∧ t ≤ l.length ∧ Hid (balL l k = balL (l.drop t) k ∧ Below X.heap.size X wr)) (fun v _ => l.length - (intOf v).toNat)
 case atStart => exact ⟨0, rfl, Nat.zero_le _, hideIt ⟨rfl, Below.refl _ _⟩⟩
 case round =>
  obtain ⟨t, rfl, ht, HR⟩ := hrel
  by_cases hlt : t < l.length
  ·have hltI : (t : Int) < (l.length : Int) := by omega
   have ht0 : (0 : Int) ≤ (t : Int) := by omega
   obtain ⟨b, off, rfl, hbl, q0, q1⟩ := HH.out t hlt;have hB := HR.out.2;have hBS := hB.size;have c0 := (hB.cell (p := ⟨b, off + t * 2, none⟩) hbl).trans q0;have c1 := (hB.cell (p := ⟨b, off + t * 2 + 1, none⟩) hbl).trans q1;have hblr : b < wr.heap.size := by omega
   have HRD := hideIt (balL_drop l t k hlt);generalize l[t] = en at *;obtain ⟨ek, ex⟩ := en;simp only at c0 c1 HRD;have HA := hideIt (hB.alloc (by omega) (.cells #[.int .i64 ek, .int .i64 ex] 53));clear q0 q1 hB
   by_cases h0 : ek = k
   ·subst h0;go_wp2;go_ret
    exact ⟨by rw [HR.out.1, HRD.out]; simp, below_via HB.out HA.out⟩
   ·have hb0 : (ek == k) = false := beq_eq_false_iff_ne.2 h0;go_wp2
    go_roundw
    case rel => exact ⟨t + 1, by go_num, by omega, hideIt ⟨by rw [HR.out.1, HRD.out, if_neg h0], HA.out⟩⟩
    case measure => simp [intOf]; omega
  ·have hltI : ¬ (t : Int) < (l.length : Int) := by omega
   go_wp2;go_ret;have := HR.out.1;rw [List.drop_of_length_le (by omega)] at this
   exact ⟨by rw [this]; rfl, below_via HB.out HR.out.2⟩
end Go.Proofs.YtiinigifjdpicaaGreatDoor.Lg
namespace Go.Proofs.YtiinigifjdpicaaGreatDoor.Lg
open Go.RowKit
theorem bN {B : Nat} {a w : World} (h : Below B a w) (n : Nat) : Below B a (w.drewN n) := h.trans ⟨rfl, rfl, rfl, Nat.le_refl _, fun _ _ => rfl⟩
end Go.Proofs.YtiinigifjdpicaaGreatDoor.Lg
namespace Go.Proofs.YtiinigifjdpicaaGreatDoor.Lg
open Go.RowKit
theorem neq35r (a b : Int) (w : World) : (binOp .neq 53 (.agg #[.int .i64 a, .int .i64 b]) (.agg #[.int .i64 a, .int .i64 b])).run Tryz.prog w = .ok (.bool false) w := by
 simp [go_sem]
set_option maxHeartbeats 8000000 in
set_option maxRecDepth 100000 in
theorem sameAm_is (g k : Value) (l : List AmtV) (w : World) (hg : AGot w g l) (hk : AGot w k l) : Calls Tryz.prog 14 #[g, k] w fun e w' => e = .returned (.bool true) ∧ Below w.heap.size w w' := by
 obtain ⟨a, c, rfl, h8, ha⟩ := hg.open;obtain ⟨a', c', rfl, _, hb⟩ := hk.open;have HA := hideIt ha;have HK := hideIt hb;have hl : ((l.length : Int) != (l.length : Int)) = false := by simp
 clear hg hk ha hb
 go_enter Tryz.func14, Tryz.ntmps14
 go_wp2
 go_loopw [5] (fun i wr => ∃ j : Nat, j ≤ l.length ∧ i = .int .i64 j ∧ Hid (Below w.heap.size w wr)) (fun i _ => l.length - (intOf i).toNat)
 case atStart => exact ⟨0, Nat.zero_le _, rfl, hideIt (Below.refl _ _)⟩
 case round =>
  obtain ⟨j, hj, rfl, HW⟩ := hrel
  by_cases hlt : j < l.length
  ·obtain ⟨b1, o1, rfl, l1, p0, p1⟩ := HA.out j hlt;obtain ⟨b2, o2, rfl, l2, q0, q1⟩ := HK.out j hlt;have x0 := (HW.out.cell (p := ⟨b1, o1 + j * 2, none⟩) l1).trans p0;have x1 := (HW.out.cell (p := ⟨b1, o1 + j * 2 + 1, none⟩) l1).trans p1;have y0 := (HW.out.cell (p := ⟨b2, o2 + j * 2, none⟩) l2).trans q0;have y1 := (HW.out.cell (p := ⟨b2, o2 + j * 2 + 1, none⟩) l2).trans q1;have hlt' : (j : Int) < l.length := by omega
   have hj0 : (0 : Int) ≤ j := by omega
   clear p0 p1 q0 q1;generalize l[j] = en at *;obtain ⟨ek, ex⟩ := en;simp only at x0 x1 y0 y1;have n1 := neq35r ek ex
   go_upto_region 6 with fail
   refine wp_region_held_drew (S := fun w' => w'.cell? ⟨b1, o1 + j * 2, none⟩ = some (.int .i64 ek) ∧ w'.cell? ⟨b1, o1 + j * 2 + 1, none⟩ = some (.int .i64 ex) ∧ w'.cell? ⟨b2, o2 + j * 2, none⟩ = some (.int .i64 ek) ∧ w'.cell? ⟨b2, o2 + j * 2 + 1, none⟩ = some (.int .i64 ex)) (by kernel_rfl) ⟨x0, x1, y0, y1⟩ (fun hHeld => ?_);refine wpAnyH_take (i := 0) (oi := ⟨some 17, _, _, _, _, _⟩) (v := ?_) rfl (by kernel_rfl) (by kernel_rfl) (by kernel_rfl) (fun _ _ _ h => h) (Or.inl ⟨by rfl, ?_⟩) (by assumption) ?_
   rotate_left
   ·intro w5 hSw
    (try dsimp only at hSw)
    go_simp
    (try with_reducible rfl)
   try simp only [Act.put, List.setIfInBounds_toArray, List.set_cons_zero, List.set_cons_succ]
   refine wpAnyH_take (i := 1) (oi := ⟨some 18, _, _, _, _, _⟩) (v := ?_) rfl (by kernel_rfl) (by kernel_rfl) (by kernel_rfl) (fun _ _ _ h => h) (Or.inl ⟨by rfl, ?_⟩) (by assumption) ?_
   rotate_left
   ·intro w5 hSw
    (try dsimp only at hSw)
    go_simp
    (try with_reducible rfl)
   try simp only [Act.put, List.setIfInBounds_toArray, List.set_cons_zero, List.set_cons_succ]
   refine wpAnyH_take (i := 2) (oi := ⟨some 19, _, _, _, _, _⟩) (v := ?_) rfl (by kernel_rfl) (by kernel_rfl) (by kernel_rfl) (fun _ _ _ h => h) (Or.inl ⟨by rfl, ?_⟩) (by assumption) ?_
   rotate_left
   ·intro w5 hSw
    (try dsimp only at hSw)
    go_simp
    (try with_reducible rfl)
   try simp only [Act.put, List.setIfInBounds_toArray, List.set_cons_zero, List.set_cons_succ]
   refine wpAnyH_take (i := 3) (oi := ⟨some 20, _, _, _, _, _⟩) (v := ?_) rfl (by kernel_rfl) (by kernel_rfl) (by kernel_rfl) (fun _ _ _ h => h) (Or.inl ⟨by rfl, ?_⟩) (by assumption) ?_
   rotate_left
   ·intro w5 hSw
    (try dsimp only at hSw)
    go_simp
    (try with_reducible rfl)
   try simp only [Act.put, List.setIfInBounds_toArray, List.set_cons_zero, List.set_cons_succ]
   refine wpAnyH_take (i := 4) (oi := ⟨some 21, _, _, _, _, _⟩) (v := ?_) rfl (by kernel_rfl) (by kernel_rfl) (by kernel_rfl) (fun _ _ _ h => h) (Or.inl ⟨by rfl, ?_⟩) (by assumption) ?_
   rotate_left
   ·intro w5 hSw
    (try dsimp only at hSw)
    go_simp
    (try with_reducible rfl)
   try simp only [Act.put, List.setIfInBounds_toArray, List.set_cons_zero, List.set_cons_succ]
   refine wpAnyH_take (i := 5) (oi := ⟨some 22, _, _, _, _, _⟩) (v := ?_) rfl (by kernel_rfl) (by kernel_rfl) (by kernel_rfl) (fun _ _ _ h => h) (Or.inl ⟨by rfl, ?_⟩) (by assumption) ?_
   rotate_left
   ·intro w5 hSw
    (try dsimp only at hSw)
    go_simp
    (try with_reducible rfl)
   try simp only [Act.put, List.setIfInBounds_toArray, List.set_cons_zero, List.set_cons_succ]
   refine wpAnyH_take (i := 6) (oi := ⟨some 23, _, _, _, _, _⟩) (v := ?_) rfl (by kernel_rfl) (by kernel_rfl) (by kernel_rfl) (fun _ _ _ h => h) (Or.inl ⟨by rfl, ?_⟩) (by assumption) ?_
   rotate_left
   ·intro w5 hSw
    (try dsimp only at hSw)
    go_simp
    (try with_reducible rfl)
   try simp only [Act.put, List.setIfInBounds_toArray, List.set_cons_zero, List.set_cons_succ]
   refine wpAnyH_take (i := 7) (oi := ⟨some 24, _, _, _, _, _⟩) (v := ?_) rfl (by kernel_rfl) (by kernel_rfl) (by kernel_rfl) (fun _ _ _ h => h) (Or.inl ⟨by rfl, ?_⟩) (by assumption) ?_
   rotate_left
   ·intro w5 hSw
    (try dsimp only at hSw)
    go_simp
    (try with_reducible rfl)
   try simp only [Act.put, List.setIfInBounds_toArray, List.set_cons_zero, List.set_cons_succ]
   refine wpAnyH_take (i := 8) (oi := ⟨some 25, _, _, _, _, _⟩) (v := ?_) rfl (by kernel_rfl) (by kernel_rfl) (by kernel_rfl) (fun _ _ _ h => h) (Or.inl ⟨by rfl, ?_⟩) (by assumption) ?_
   rotate_left
   ·intro w5 hSw
    (try dsimp only at hSw)
    go_simp
    (try with_reducible rfl)
   try simp only [Act.put, List.setIfInBounds_toArray, List.set_cons_zero, List.set_cons_succ]
   refine wpAnyH_done (by kernel_rfl) ?_ _;clear n1 x0 x1 y0 y1 hHeld;go_wp2
   go_roundw
   case rel => exact ⟨j + 1, by omega, by go_num, hideIt HW.out.drew⟩
   case measure => simp [intOf]; omega
  ·have hlt' : ¬ (j : Int) < l.length := by omega
   go_wp2;go_ret
   exact ⟨rfl, HW.out⟩
set_option maxHeartbeats 8000000 in
set_option maxRecDepth 100000 in
theorem same_is (A : AccV) (g k : Value) (w : World) (hg : AGot w g A.l) (hk : AGot w k A.l) : Calls Tryz.prog 25 #[accV A g, accV A k] w fun e w' => e = .returned (.bool true) ∧ Below w.heap.size w w' := by
 obtain ⟨l, ct⟩ := A;simp only at hg hk;have HB := hideIt (below2 w (.cells #[g, .int .i64 ct] 44) (.cells #[k, .int .i64 ct] 44));have H1 := hideIt (sameAm_is g k l _ (hg.keep HB.out) (hk.keep HB.out));obtain ⟨a, c, rfl⟩ := hg.slice;obtain ⟨a', c', rfl⟩ := hk.slice;have hcc : (ct == ct) = true := by simp
 clear hg hk;unfold accV accA
 simp only
 go_enter Tryz.func25, Tryz.ntmps25
 go_wp2_with fail
 refine H1.out.mono ?_;rintro e w1 ⟨rfl, hbl⟩;dsimp only;have HB2 := hideIt (below_via HB.out hbl);clear hbl;go_wp2;go_ret
 exact ⟨rfl, HB2.out⟩
theorem put2 (wc : World) (b : Nat) (ty : TypeId) (v0 v1 : Value) {z0 z1 : Value} (h : wc.heap[b]? = some (.cells #[z0, z1] ty (0, 0))) :
  ((wc.setCell ⟨b, 0, none⟩ v0).setCell ⟨b, 1, none⟩ v1).heap[b]? = some (.cells #[v0, v1] ty (0, 0)) := by
 have h0 := heap_set h 0 v0;exact heap_set h0 1 v1
theorem fin2 {w wx : World} {R : Nat} {ty : TypeId} (v0 v1 : Value) {z0 z1 : Value} (hz : wx.heap[R]? = some (.cells #[z0, z1] ty (0, 0))) (hR : w.heap.size ≤ R) (hb : Below w.heap.size w wx) :
  Hid (((wx.setCell ⟨R, 0, none⟩ v0).setCell ⟨R, 1, none⟩ v1).heap[R]? = some (.cells #[v0, v1] ty (0, 0)) ∧ Below w.heap.size w ((wx.setCell ⟨R, 0, none⟩ v0).setCell ⟨R, 1, none⟩ v1)) :=
 ⟨put2 _ _ ty _ _ hz, belowSet _ (belowSet _ hb hR) hR⟩
theorem own2 {wx : World} {R B n : Nat} {e : TypeId} {z : Nat} {g : Value} {xs : List Value} (v0 v1 : Value) (ho : wx.ownsRow B e z g n xs) (hR : R < B) (B' : Nat) (hB : B' ≤ B) :
  Hid (((wx.setCell ⟨R, 0, none⟩ v0).setCell ⟨R, 1, none⟩ v1).ownsRow B' e z g n xs) :=
 own_base (ownSet _ (ownSet _ ho hR) hR) hB
def AccBack (A : AccV) (w : World) (e : Ending) (w' : World) : Prop := ∃ g, e = .returned (accV A g) ∧ w'.ownsRow w.heap.size 53 2 g A.l.length (amC A.l) ∧ Below w.heap.size w w'
end Go.Proofs.YtiinigifjdpicaaGreatDoor.Lg
