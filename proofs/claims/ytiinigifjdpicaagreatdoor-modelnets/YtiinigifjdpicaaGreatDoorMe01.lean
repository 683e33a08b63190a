/- Texts of my own, laid together. -/
import Derived.Test.YtiinigifjdpicaaGreatDoorMe00
namespace Go.Proofs.YtiinigifjdpicaaGreatDoor.Lg
open Go.RowKit
set_option maxHeartbeats 4000000 in
set_option maxRecDepth 100000 in
theorem rBalance_is (A : AccV) (g : Value) (k : Int) (w : World) (h : AGot w g A.l) : Calls Tryz.prog 19 #[accV A g, .int .i64 k] w fun e w' => e = .returned (.int .i64 (balL A.l k)) ∧ Below w.heap.size w w' := by
 have HB := hideIt (below1 w (.cells (accA A g) 44));have HX := hideIt (heap_alloc_new w (.cells (accA A g) 44));obtain ⟨a, c, rfl, h8, hr⟩ := (h.keep HB.out).open;have HH := hideIt hr;obtain ⟨l, ct⟩ := A;unfold accV accA at *;simp only at HH HB HX h8 ⊢;clear hr h
 go_enter Tryz.func19, Tryz.ntmps19
 go_wp2;generalize w.alloc (.cells #[.slice a l.length c, .int .i64 ct] 44) = X at *;have HL := hideIt (Array.getElem?_eq_some_iff.1 HX.out).1
 go_loopw [5] (fun v wr => ∃ (t : Nat), v = .int .i64 t ∧ t ≤ l.length ∧ Hid (balL l k = balL (l.drop t) k ∧ Below X.heap.size X wr)) (fun v _ => l.length - (intOf v).toNat)
 case atStart => exact ⟨0, rfl, Nat.zero_le _, hideIt ⟨rfl, Below.refl _ _⟩⟩
 case round =>
  obtain ⟨t, rfl, ht, HR⟩ := hrel;have hx : wr.cell? ⟨w.heap.size, 0, none⟩ = some (.slice a l.length c) := by
   rw [HR.out.2.cell HL.out, cell_at HX.out]
   rfl
  by_cases hlt : t < l.length
  ·have hltI : (t : Int) < (l.length : Int) := by omega
   have ht0 : (0 : Int) ≤ (t : Int) := by omega
   obtain ⟨b, off, rfl, hbl, q0, q1⟩ := HH.out t hlt;have hB := HR.out.2;have c0 := (hB.cell (p := ⟨b, off + t * 2, none⟩) hbl).trans q0;have c1 := (hB.cell (p := ⟨b, off + t * 2 + 1, none⟩) hbl).trans q1;have HRD := hideIt (balL_drop l t k hlt);generalize l[t] = en at *;obtain ⟨ek, ex⟩ := en;simp only at c0 c1 HRD;clear q0 q1 hB
   by_cases h0 : ek = k
   ·subst h0;go_wp2;go_ret
    exact ⟨by rw [HR.out.1, HRD.out]; simp, below_via HB.out HR.out.2⟩
   ·have hb0 : (ek == k) = false := beq_eq_false_iff_ne.2 h0;go_wp2
    go_roundw
    case rel => exact ⟨t + 1, by go_num, by omega, hideIt ⟨by rw [HR.out.1, HRD.out, if_neg h0], HR.out.2⟩⟩
    case measure => simp [intOf]; omega
  ·have hltI : ¬ (t : Int) < (l.length : Int) := by omega
   go_wp2;go_ret;have := HR.out.1;rw [List.drop_of_length_le (by omega)] at this
   exact ⟨by rw [this]; rfl, below_via HB.out HR.out.2⟩
theorem neq35r (a b : Int) (w : World) : (binOp .neq 53 (.agg #[.int .i64 a, .int .i64 b]) (.agg #[.int .i64 a, .int .i64 b])).run Tryz.prog w = .ok (.bool false) w := by
 simp [go_sem]
set_option maxHeartbeats 8000000 in
set_option maxRecDepth 100000 in
theorem sameAm_is (g k : Value) (l : List AmtV) (w : World) (hg : AGot w g l) (hk : AGot w k l) : Calls Tryz.prog 14 #[g, k] w fun e w' => e = .returned (.bool true) ∧ Below w.heap.size w w' := by
 obtain ⟨a, c, rfl, h8, ha⟩ := hg.open;obtain ⟨a', c', rfl, _, hb⟩ := hk.open;have HA := hideIt ha;have HK := hideIt hb;have hl : ((l.length : Int) != (l.length : Int)) = false := by simp
 clear hg hk ha hb
 go_enter Tryz.func14, Tryz.ntmps14
 go_wp2
 go_loopw [5] (fun i wr => ∃ j : Nat, j ≤ l.length ∧ i = .int .i64 j ∧ Hid (Below w.heap.size w wr)) (fun i _ => l.length - (intOf i).toNat)
 case atStart => exact ⟨0, Nat.zero_le _, rfl, hideIt (Below.refl _ _)⟩
 case round =>
  obtain ⟨j, hj, rfl, HW⟩ := hrel
  by_cases hlt : j < l.length
  ·obtain ⟨b1, o1, rfl, l1, p0, p1⟩ := HA.out j hlt;obtain ⟨b2, o2, rfl, l2, q0, q1⟩ := HK.out j hlt;have x0 := (HW.out.cell (p := ⟨b1, o1 + j * 2, none⟩) l1).trans p0;have x1 := (HW.out.cell (p := ⟨b1, o1 + j * 2 + 1, none⟩) l1).trans p1;have y0 := (HW.out.cell (p := ⟨b2, o2 + j * 2, none⟩) l2).trans q0;have y1 := (HW.out.cell (p := ⟨b2, o2 + j * 2 + 1, none⟩) l2).trans q1;have hlt' : (j : Int) < l.length := by omega
   have hj0 : (0 : Int) ≤ j := by omega
   clear p0 p1 q0 q1;generalize l[j] = en at *;obtain ⟨ek, ex⟩ := en;simp only at x0 x1 y0 y1;have n1 := neq35r ek ex
   go_upto_region 6 with fail
   refine wp_region_held_drew (S := fun w' => w'.cell? ⟨b1, o1 + j * 2, none⟩ = some (.int .i64 ek) ∧ w'.cell? ⟨b1, o1 + j * 2 + 1, none⟩ = some (.int .i64 ex) ∧ w'.cell? ⟨b2, o2 + j * 2, none⟩ = some (.int .i64 ek) ∧ w'.cell? ⟨b2, o2 + j * 2 + 1, none⟩ = some (.int .i64 ex)) (by kernel_rfl) ⟨x0, x1, y0, y1⟩ (fun hHeld => ?_);refine wpAnyH_take (i := 0) (oi := ⟨some 17, _, _, _, _, _⟩) (v := ?_) rfl (by kernel_rfl) (by kernel_rfl) (by kernel_rfl) (fun _ _ _ h => h) (Or.inl ⟨by rfl, ?_⟩) (by assumption) ?_
   rotate_left
   ·intro w5 hSw
    (try dsimp only at hSw)
    go_simp
    (try with_reducible rfl)
   try simp only [Act.put, List.setIfInBounds_toArray, List.set_cons_zero, List.set_cons_succ]
   refine wpAnyH_take (i := 1) (oi := ⟨some 18, _, _, _, _, _⟩) (v := ?_) rfl (by kernel_rfl) (by kernel_rfl) (by kernel_rfl) (fun _ _ _ h => h) (Or.inl ⟨by rfl, ?_⟩) (by assumption) ?_
   rotate_left
   ·intro w5 hSw
    (try dsimp only at hSw)
    go_simp
    (try with_reducible rfl)
   try simp only [Act.put, List.setIfInBounds_toArray, List.set_cons_zero, List.set_cons_succ]
   refine wpAnyH_take (i := 2) (oi := ⟨some 19, _, _, _, _, _⟩) (v := ?_) rfl (by kernel_rfl) (by kernel_rfl) (by kernel_rfl) (fun _ _ _ h => h) (Or.inl ⟨by rfl, ?_⟩) (by assumption) ?_
   rotate_left
   ·intro w5 hSw
    (try dsimp only at hSw)
    go_simp
    (try with_reducible rfl)
   try simp only [Act.put, List.setIfInBounds_toArray, List.set_cons_zero, List.set_cons_succ]
   refine wpAnyH_take (i := 3) (oi := ⟨some 20, _, _, _, _, _⟩) (v := ?_) rfl (by kernel_rfl) (by kernel_rfl) (by kernel_rfl) (fun _ _ _ h => h) (Or.inl ⟨by rfl, ?_⟩) (by assumption) ?_
   rotate_left
   ·intro w5 hSw
    (try dsimp only at hSw)
    go_simp
    (try with_reducible rfl)
   try simp only [Act.put, List.setIfInBounds_toArray, List.set_cons_zero, List.set_cons_succ]
   refine wpAnyH_take (i := 4) (oi := ⟨some 21, _, _, _, _, _⟩) (v := ?_) rfl (by kernel_rfl) (by kernel_rfl) (by kernel_rfl) (fun _ _ _ h => h) (Or.inl ⟨by rfl, ?_⟩) (by assumption) ?_
   rotate_left
   ·intro w5 hSw
    (try dsimp only at hSw)
    go_simp
    (try with_reducible rfl)
   try simp only [Act.put, List.setIfInBounds_toArray, List.set_cons_zero, List.set_cons_succ]
   refine wpAnyH_take (i := 5) (oi := ⟨some 22, _, _, _, _, _⟩) (v := ?_) rfl (by kernel_rfl) (by kernel_rfl) (by kernel_rfl) (fun _ _ _ h => h) (Or.inl ⟨by rfl, ?_⟩) (by assumption) ?_
   rotate_left
   ·intro w5 hSw
    (try dsimp only at hSw)
    go_simp
    (try with_reducible rfl)
   try simp only [Act.put, List.setIfInBounds_toArray, List.set_cons_zero, List.set_cons_succ]
   refine wpAnyH_take (i := 6) (oi := ⟨some 23, _, _, _, _, _⟩) (v := ?_) rfl (by kernel_rfl) (by kernel_rfl) (by kernel_rfl) (fun _ _ _ h => h) (Or.inl ⟨by rfl, ?_⟩) (by assumption) ?_
   rotate_left
   ·intro w5 hSw
    (try dsimp only at hSw)
    go_simp
    (try with_reducible rfl)
   try simp only [Act.put, List.setIfInBounds_toArray, List.set_cons_zero, List.set_cons_succ]
   refine wpAnyH_take (i := 7) (oi := ⟨some 24, _, _, _, _, _⟩) (v := ?_) rfl (by kernel_rfl) (by kernel_rfl) (by kernel_rfl) (fun _ _ _ h => h) (Or.inl ⟨by rfl, ?_⟩) (by assumption) ?_
   rotate_left
   ·intro w5 hSw
    (try dsimp only at hSw)
    go_simp
    (try with_reducible rfl)
   try simp only [Act.put, List.setIfInBounds_toArray, List.set_cons_zero, List.set_cons_succ]
   refine wpAnyH_take (i := 8) (oi := ⟨some 25, _, _, _, _, _⟩) (v := ?_) rfl (by kernel_rfl) (by kernel_rfl) (by kernel_rfl) (fun _ _ _ h => h) (Or.inl ⟨by rfl, ?_⟩) (by assumption) ?_
   rotate_left
   ·intro w5 hSw
    (try dsimp only at hSw)
    go_simp
    (try with_reducible rfl)
   try simp only [Act.put, List.setIfInBounds_toArray, List.set_cons_zero, List.set_cons_succ]
   refine wpAnyH_done (by kernel_rfl) ?_ _;clear n1 x0 x1 y0 y1 hHeld;go_wp2
   go_roundw
   case rel => exact ⟨j + 1, by omega, by go_num, hideIt HW.out.drew⟩
   case measure => simp [intOf]; omega
  ·have hlt' : ¬ (j : Int) < l.length := by omega
   go_wp2;go_ret
   exact ⟨rfl, HW.out⟩
set_option maxHeartbeats 8000000 in
set_option maxRecDepth 100000 in
theorem same_is (A : AccV) (g k : Value) (w : World) (hg : AGot w g A.l) (hk : AGot w k A.l) : Calls Tryz.prog 25 #[accV A g, accV A k] w fun e w' => e = .returned (.bool true) ∧ Below w.heap.size w w' := by
 obtain ⟨l, ct⟩ := A;simp only at hg hk;have HB := hideIt (below2 w (.cells #[g, .int .i64 ct] 44) (.cells #[k, .int .i64 ct] 44));have H1 := hideIt (sameAm_is g k l _ (hg.keep HB.out) (hk.keep HB.out));obtain ⟨a, c, rfl⟩ := hg.slice;obtain ⟨a', c', rfl⟩ := hk.slice;have hcc : (ct == ct) = true := by simp
 clear hg hk;unfold accV accA
 simp only
 go_enter Tryz.func25, Tryz.ntmps25
 go_wp2_with fail
 refine H1.out.mono ?_;rintro e w1 ⟨rfl, hbl⟩;dsimp only;have HB2 := hideIt (below_via HB.out hbl);clear hbl;go_wp2;go_ret
 exact ⟨rfl, HB2.out⟩
theorem put2 (wc : World) (b : Nat) (ty : TypeId) (v0 v1 : Value) {z0 z1 : Value} (h : wc.heap[b]? = some (.cells #[z0, z1] ty (0, 0))) :
  ((wc.setCell ⟨b, 0, none⟩ v0).setCell ⟨b, 1, none⟩ v1).heap[b]? = some (.cells #[v0, v1] ty (0, 0)) := by
 have h0 := heap_set h 0 v0;exact heap_set h0 1 v1
theorem fin2 {w wx : World} {R : Nat} {ty : TypeId} (v0 v1 : Value) {z0 z1 : Value} (hz : wx.heap[R]? = some (.cells #[z0, z1] ty (0, 0))) (hR : w.heap.size ≤ R) (hb : Below w.heap.size w wx) :
  Hid (((wx.setCell ⟨R, 0, none⟩ v0).setCell ⟨R, 1, none⟩ v1).heap[R]? = some (.cells #[v0, v1] ty (0, 0)) ∧ Below w.heap.size w ((wx.setCell ⟨R, 0, none⟩ v0).setCell ⟨R, 1, none⟩ v1)) :=
 ⟨put2 _ _ ty _ _ hz, belowSet _ (belowSet _ hb hR) hR⟩
theorem own2 {wx : World} {R B n : Nat} {e : TypeId} {z : Nat} {g : Value} {xs : List Value} (v0 v1 : Value) (ho : wx.ownsRow B e z g n xs) (hR : R < B) (B' : Nat) (hB : B' ≤ B) :
  Hid (((wx.setCell ⟨R, 0, none⟩ v0).setCell ⟨R, 1, none⟩ v1).ownsRow B' e z g n xs) :=
 own_base (ownSet _ (ownSet _ ho hR) hR) hB
def AccBack (A : AccV) (w : World) (e : Ending) (w' : World) : Prop := ∃ g, e = .returned (accV A g) ∧ w'.ownsRow w.heap.size 53 2 g A.l.length (amC A.l) ∧ Below w.heap.size w w'
end Go.Proofs.YtiinigifjdpicaaGreatDoor.Lg
namespace Go.Proofs.YtiinigifjdpicaaGreatDoor.Lg
open Go.RowKit
def shA (s : Nat → Int) : Array Value := #[.int .i64 (s 0), .int .i64 (s 1), .int .i64 (s 2), .int .i64 (s 3)]
theorem sh_cells {w : World} {p : Nat} {s : Nat → Int} (h : w.heap[p]? = some (.cells (shA s) 108 (0, 0))) : w.cell? ⟨p, 0, none⟩ = some (.int .i64 (s 0)) ∧ w.cell? ⟨p, 1, none⟩ = some (.int .i64 (s 1)) ∧ w.cell? ⟨p, 2, none⟩ = some (.int .i64 (s 2)) ∧ w.cell? ⟨p, 3, none⟩ = some (.int .i64 (s 3)) :=
 ⟨by rw [cell_at h]; rfl, by rw [cell_at h]; rfl, by rw [cell_at h]; rfl, by rw [cell_at h]; rfl⟩
theorem sh_cell {w : World} {p : Nat} {s : Nat → Int} (h : w.heap[p]? = some (.cells (shA s) 108 (0, 0))) (t : Nat) (ht : t < 4) : w.cell? ⟨p, t, none⟩ = some (.int .i64 (s t)) := by
 obtain ⟨h0, h1, h2, h3⟩ := sh_cells h
 rcases (by omega : t = 0 ∨ t = 1 ∨ t = 2 ∨ t = 3) with rfl | rfl | rfl | rfl
 ·exact h0
 ·exact h1
 ·exact h2
 ·exact h3
def upS (s : Nat → Int) (t : Nat) (n : Int) : Nat → Int := fun k => if k = t then n else s k
theorem sh_set {w : World} {p : Nat} {s : Nat → Int} (h : w.heap[p]? = some (.cells (shA s) 108 (0, 0))) (t : Nat) (ht : t < 4) (n : Int) : (w.setCell ⟨p, t, none⟩ (.int .i64 n)).heap[p]? = some (.cells (shA (upS s t n)) 108 (0, 0)) := by
 rw [heap_set h]
 rcases (by omega : t = 0 ∨ t = 1 ∨ t = 2 ∨ t = 3) with rfl | rfl | rfl | rfl <;> rfl
structure Mine (w : World) (v : Value) (xs : List AmtV) (wr : World) : Prop where
 own : wr.ownsRow w.heap.size 53 2 v xs.length (amC xs)
 bel : Below w.heap.size w wr
theorem Mine.grow {w wr : World} {v : Value} {xs : List AmtV} (h : Mine w v xs wr) (x y : Int) (hl : xs.length ≤ 1000) :
  ∃ v' w', (Builtin.append_ #[33, 33] 33 #[v, .slice (some ⟨wr.heap.size, 0, none⟩) 1 1]).run Tryz.prog (wr.alloc (.cells #[.int .i64 x, .int .i64 y] 53)) = .ok v' w' ∧ Mine w v' (xs ++ [⟨x, y⟩]) w' := by
 have hb := h.bel.size;obtain ⟨v', w', h1, h2, h3⟩ := run_app (wr.alloc (.cells #[.int .i64 x, .int .i64 y] 53)) 33 w.heap.size v xs [⟨x, y⟩] (.slice (some ⟨wr.heap.size, 0, none⟩) 1 1) (by simp; omega) (own_keep h.own (below1 wr _)) (one_got wr x y) (by rw [List.length_singleton]; omega)
 refine ⟨v', w', h1, h2, ?_⟩;have ho : Out (fun k => v.ownBlock = some k) (wr.alloc (.cells #[.int .i64 x, .int .i64 y] 53)) w' := Out.ofGrown h3 (fun k e => e);refine below_out (below_via h.bel (below1 wr _)) ho fun k hk => ?_
 obtain ⟨_, ⟨rfl, _⟩ | ⟨g, cap, cur, rfl, hB, _⟩⟩ := h.own
 ·cases hk
 ·simp only [Value.ownBlock, Option.some.injEq] at hk;omega
set_option maxHeartbeats 4000000 in
set_option maxRecDepth 100000 in
theorem amounts_is (p : Nat) (s : Nat → Int) (w : World) (hp : w.heap[p]? = some (.cells (shA s) 108 (0, 0))) : Calls Tryz.prog 57 #[.pointer (some ⟨p, 0, none⟩)] w fun e w' => ∃ g, e = .returned g ∧ Mine w g (pre s 4) w' := by
 have HP := hideIt hp;have hpl := (Array.getElem?_eq_some_iff.1 hp).1;clear hp
 go_enter Tryz.func57, Tryz.ntmps57
 go_wp2
 go_loopw [3, 7] (fun u v wr => ∃ (t : Nat), v = .int .i64 t ∧ t ≤ 4 ∧ Hid (Mine w u (pre s t) wr)) (fun _ v _ => 4 - (intOf v).toNat)
 case atStart => exact ⟨0, rfl, Nat.zero_le _, hideIt ⟨own_nil _ _, Below.refl _ _⟩⟩
 case round =>
  obtain ⟨t, rfl, ht, HR⟩ := hrel
  by_cases hlt : t < 4
  ·have hltI : (t : Int) < 4 := by omega
   have ht0 : (0 : Int) ≤ (t : Int) := by omega
   have c0 := (HR.out.bel.cell (p := ⟨p, t, none⟩) hpl).trans (sh_cell HP.out t hlt);have HE : Hid (pre s (t + 1) = pre s t ++ one s t) := rfl
   by_cases h0 : 0 < s t
   ·have HO : Hid (one s t = [⟨t, s t⟩]) := if_pos h0;have hpl4 := pre_len s t
    go_upto_region 4 with fail
    go_quiet (fail)
    have HM : Mine w u3 (pre s t) (wr.drewN nq) := ⟨HR.out.own, bN HR.out.bel _⟩;generalize wr.drewN nq = wq at *;obtain ⟨v', w', hrun, hm⟩ := HM.grow t (s t) (by omega);have HRUN := hideIt hrun;have HM2 := hideIt hm;clear hrun hm HM HR
    go_wp2_with (at_builtin; refine wpList_append_run _ rfl _ _ rfl rfl rfl rfl HRUN.out ?_)
    clear HRUN;go_wp2
    go_roundw
    case rel => exact ⟨t + 1, by go_num, by omega, hideIt (by rw [HE.out, HO.out]; exact HM2.out)⟩
    case measure => simp [intOf]; omega
   ·have HO : Hid (one s t = []) := if_neg h0;have h0I : s t ≤ 0 := by omega
    clear h0
    go_upto_region 4 with fail
    go_quiet (fail)
    go_wp2
    go_roundw
    case rel => exact ⟨t + 1, by go_num, by omega, hideIt (by rw [HE.out, HO.out, List.append_nil]; exact ⟨HR.out.own, bN HR.out.bel _⟩)⟩
    case measure => simp [intOf]; omega
  ·have hltI : ¬ (t : Int) < 4 := by omega
   obtain rfl : t = 4 := by omega
   go_wp2;go_ret
   exact ⟨_, rfl, HR.out⟩
theorem cell_of_block {w w' : World} {b : Nat} (h : w'.heap[b]? = w.heap[b]?) (i : Nat) : w'.cell? ⟨b, i, none⟩ = w.cell? ⟨b, i, none⟩ := by
 simp [World.cell?, h]
theorem Out1.set {w wr : World} {p : Nat} (h : Out (fun k => k = p) w wr) (j : Nat) (v : Value) : Out (fun k => k = p) w (wr.setCell ⟨p, j, none⟩ v) := h.trans (Out.ofSet (F := fun k => k = p) wr ⟨p, j, none⟩ v rfl) (fun _ _ e => e)
set_option maxHeartbeats 4000000 in
set_option maxRecDepth 100000 in
theorem add_is (p : Nat) (s : Nat → Int) (g : Value) (l : List AmtV) (w : World) (hp : w.heap[p]? = some (.cells (shA s) 108 (0, 0))) (h : AGot w g l) (hl : amtsB l (-1) = true) (hs : ∀ k, k < 4 → 0 ≤ s k ∧ s k ≤ 9200000000000000000) (hd : 0 < l.length → ∀ b off n c, g = .slice (some ⟨b, off, none⟩) n c → b ≠ p) : Calls Tryz.prog 56 #[.pointer (some ⟨p, 0, none⟩), g] w fun e w' => e = .returned (.tuple #[]) ∧ w'.heap[p]? = some (.cells (shA (fun k => s k + balL l k)) 108 (0, 0)) ∧ Out (fun k => k = p) w w' := by
 have HP := hideIt hp;have hpl := (Array.getElem?_eq_some_iff.1 hp).1;obtain ⟨a, c, rfl, h8, hr⟩ := h.open;have HH := hideIt hr;have HL := hideIt hl;have HS := hideIt hs;have HD := hideIt hd;clear hp hr h hl hs hd
 go_enter Tryz.func56, Tryz.ntmps56
 go_wp2
 go_loopw [8] (fun v wr => ∃ (t : Nat), v = .int .i64 t ∧ t ≤ l.length ∧ Hid (wr.heap[p]? = some (.cells (shA (fun k => s k + sumL (l.take t) k)) 108 (0, 0)) ∧ Out (fun k => k = p) w wr)) (fun v _ => l.length - (intOf v).toNat)
 case atStart => exact ⟨0, rfl, Nat.zero_le _, hideIt ⟨by simpa [sumL] using HP.out, Out.refl _ _⟩⟩
 case round =>
  obtain ⟨t, rfl, ht, HR⟩ := hrel
  by_cases hlt : t < l.length
  ·have hltI : (t : Int) < (l.length : Int) := by omega
   have ht0 : (0 : Int) ≤ (t : Int) := by omega
   obtain ⟨b, off, rfl, hbl, q0, q1⟩ := HH.out t hlt;have hbp := HD.out (by omega) b off _ _ rfl;have c0 : wr.cell? ⟨b, off + t * 2, none⟩ = some (.int .i64 (l[t]).k) := by
    rw [← q0];exact cell_of_block (HR.out.2.block b hbl hbp) _
   have c1 : wr.cell? ⟨b, off + t * 2 + 1, none⟩ = some (.int .i64 (l[t]).n) := by
    rw [← q1];exact cell_of_block (HR.out.2.block b hbl hbp) _
   have hm := amts_mem l _ HL.out l[t] (List.getElem_mem hlt);have HST := hideIt (fun a => sumL_take l t a hlt);have hT := fun a => take_in l _ a t HL.out
   clear q0 q1;generalize l[t] = en at *;obtain ⟨ek, ex⟩ := en;simp only at c0 c1 hm HST;obtain ⟨kk, rfl⟩ : ∃ kk : Nat, ek = kk := Int.eq_ofNat_of_zero_le hm.2.1.1;have hk4 : kk < 4 := by omega
   have hk4I : (kk : Int) < 4 := by omega
   have hk0 : (0 : Int) ≤ (kk : Int) := by omega
   obtain ⟨A, hA⟩ : ∃ A, A = s kk + sumL (l.take t) kk := ⟨_, rfl⟩;have hAr : 0 ≤ A ∧ A ≤ 9209007199254740992 := by
    have := HS.out kk hk4;have := hT kk;omega
   obtain ⟨A1, A2⟩ := hAr;obtain ⟨E1, E2⟩ := hm.2.2;have hsz := HR.out.2.size;have hpr : p < wr.heap.size := by omega
   have hpc : wr.cell? ⟨p, kk, none⟩ = some (.int .i64 A) := by
    rw [hA];exact sh_cell HR.out.1 kk hk4
   have hpf : wr.frozen? ⟨p, kk, none⟩ = false := free_at HR.out.1 kk;have HA := hideIt hA;have HN : Hid ((((wr.setCell ⟨p, kk, none⟩ (.int .i64 (A + ex))).alloc (.cells #[.int .i64 (kk : Int), .int .i64 ex] 53)).drew).heap[p]? = some (.cells (shA (fun k => s k + sumL (l.take (t + 1)) k)) 108 (0, 0)) ∧ Out (fun k => k = p) w (((wr.setCell ⟨p, kk, none⟩ (.int .i64 (A + ex))).alloc (.cells #[.int .i64 (kk : Int), .int .i64 ex] 53)).drew)) := by
    refine ⟨?_, (Out1.set HR.out.2 kk _).trans (Out.ofAlloc (F := fun k => k = p) _ _) (fun _ _ e => e) |>.trans (Out.ofDrew (F := fun k => k = p) _) (fun _ _ e => e)⟩
    show (((wr.setCell ⟨p, kk, none⟩ (.int .i64 (A + ex))).alloc (.cells #[.int .i64 (kk : Int), .int .i64 ex] 53))).heap[p]? = _
    rw [heap_alloc_old _ _ (by simpa using hpr), sh_set HR.out.1 kk hk4];have e : upS (fun k => s k + sumL (l.take t) k) kk (A + ex) = fun k : Nat => s k + sumL (l.take (t + 1)) k := by
     funext k
     rw [HST.out k, upS]
     by_cases c : k = kk
     ·subst c;rw [if_pos rfl, if_pos rfl, hA];omega
     ·rw [if_neg c, if_neg (by omega), Int.add_zero]
    rw [e]
   clear hm hT hA
   go_upto_region 3 with fail
   go_region
   clear hpc hpf c0 c1;go_wp2
   go_roundw
   case rel => exact ⟨t + 1, by go_num, by omega, HN⟩
   case measure => simp [intOf]; omega
  ·have hltI : ¬ (t : Int) < (l.length : Int) := by omega
   go_wp2
   go_end0
   refine ⟨rfl, ?_, HR.out.2⟩;rw [HR.out.1, List.take_of_length_le (by omega)];have e : (fun k : Nat => s k + sumL l k) = fun k : Nat => s k + balL l k := by
    funext k
    rw [sum_bal l _ _ HL.out]
   rw [e]
end Go.Proofs.YtiinigifjdpicaaGreatDoor.Lg
namespace Go.Proofs.YtiinigifjdpicaaGreatDoor.Lg
open Go.RowKit
theorem AGot.apart {w : World} {g : Value} {l : List AmtV} {p : Nat} (h : AGot w g l) (hp : w.heap.size ≤ p) : 0 < l.length → ∀ b off n c, g = .slice (some ⟨b, off, none⟩) n c → b ≠ p := by
 intro hl b off n c e;obtain ⟨_, a', c', rfl, _, hr⟩ := h;obtain ⟨b', off', rfl, hlt, _⟩ := hr hl;simp only [Value.slice.injEq, Option.some.injEq, Addr.mk.injEq] at e;omega
theorem wrap_ok {x : Int} (h : -9223372036854775808 ≤ x) (k : x ≤ 9223372036854775807) : IntKind.i64.wrap x = x := by
 rw [IntKind.wrap_i64];omega
structure Duo (w : World) (A : AccV) (g : Value) (wx : World) : Prop where
 box : wx.heap[w.heap.size]? = some (.cells (accA A g) 44 (0, 0))
 res : wx.heap[w.heap.size + 1]? = some (.cells #[.slice none 0 0, .int .i64 0] 44 (0, 0))
 bel : Below w.heap.size w wx
theorem Duo.first (w : World) (A : AccV) (g : Value) : Duo w A g ((w.alloc (.cells (accA A g) 44)).alloc (.cells #[.slice none 0 0, .int .i64 0] 44)) := by
 have ht := two_heap w (.cells (accA A g) 44) (.cells #[.slice none 0 0, .int .i64 0] 44)
 exact ⟨ht.1, ht.2.1, below2 w _ _⟩
theorem Duo.size {w wx : World} {A : AccV} {g : Value} (h : Duo w A g wx) : w.heap.size + 2 ≤ wx.heap.size := (Array.getElem?_eq_some_iff.1 h.res).1
theorem Duo.keep {w wx wy : World} {A : AccV} {g : Value} (h : Duo w A g wx) (hb : Below wx.heap.size wx wy) : Duo w A g wy := by
 have := h.size
 exact ⟨(hb.block _ (by omega)).trans h.box, (hb.block _ (by omega)).trans h.res, below_via h.bel hb⟩
theorem Duo.out {w wx wy : World} {A : AccV} {g : Value} {F : Nat → Prop} (h : Duo w A g wx) (ho : Out F wx wy) (hF : ∀ k, F k → w.heap.size + 2 ≤ k) : Duo w A g wy := by
 have := h.size
 exact ⟨(ho.block _ (by omega) (fun e => by have := hF _ e; omega)).trans h.box, (ho.block _ (by omega) (fun e => by have := hF _ e; omega)).trans h.res, below_out h.bel ho (fun k e => by have := hF k e; omega)⟩
theorem Duo.drew {w wx : World} {A : AccV} {g : Value} (h : Duo w A g wx) : Duo w A g wx.drew := ⟨h.box, h.res, h.bel.drew⟩
theorem Duo.cells {w wx : World} {A : AccV} {g : Value} (h : Duo w A g wx) : wx.cell? ⟨w.heap.size, 0, none⟩ = some g ∧ wx.cell? ⟨w.heap.size, 1, none⟩ = some (.int .i64 A.ct) :=
 ⟨by rw [cell_at h.box]; rfl, by rw [cell_at h.box]; rfl⟩
theorem Duo.zero {w wx : World} {A : AccV} {g : Value} (h : Duo w A g wx) : wx.cell? ⟨w.heap.size + 1, 0, none⟩ = some (.slice none 0 0) ∧ wx.cell? ⟨w.heap.size + 1, 1, none⟩ = some (.int .i64 0) ∧ ∀ j, wx.frozen? ⟨w.heap.size + 1, j, none⟩ = false :=
 ⟨by rw [cell_at h.res]; rfl, by rw [cell_at h.res]; rfl, fun j => free_at h.res j⟩
theorem Duo.put {w wx : World} {A : AccV} {g : Value} (h : Duo w A g wx) (v0 v1 : Value) : Hid (((wx.setCell ⟨w.heap.size + 1, 0, none⟩ v0).setCell ⟨w.heap.size + 1, 1, none⟩ v1).heap[w.heap.size + 1]? = some (.cells #[v0, v1] 44 (0, 0)) ∧ Below w.heap.size w ((wx.setCell ⟨w.heap.size + 1, 0, none⟩ v0).setCell ⟨w.heap.size + 1, 1, none⟩ v1)) :=
 fin2 v0 v1 h.res (by omega) h.bel
set_option maxHeartbeats 4000000 in
set_option maxRecDepth 100000 in
theorem refused_is (A : AccV) (g : Value) (a n : Int) (w : World) (h : AGot w g A.l) : Calls Tryz.prog 106 #[accV A g, .int .i64 a, .int .i64 n] w fun e w' => e = .returned (.int .i64 (refI A a n)) ∧ Below w.heap.size w w' := by
 have HB := hideIt (below1 w (.cells (accA A g) 44));have H1 := hideIt (check_is A g _ (h.keep HB.out));have N1 := hideIt (fun W => isAsset_is a W);have N2 := hideIt (fun W => isBalance_is n W);obtain ⟨ga, gc, rfl⟩ := h.slice;unfold refI;unfold chkI at H1;cases h1 : accB A
 ·rw [h1] at H1;obtain ⟨l, ct⟩ := A;unfold accV accA at *;simp only [Bool.false_eq_true, if_false] at H1 HB ⊢;clear h
  go_enter Tryz.func106, Tryz.ntmps106
  go_wp2_with fail
  refine H1.out.mono ?_;rintro e w1 ⟨rfl, hbl⟩;dsimp only;have HB2 := hideIt (below_via HB.out hbl);clear hbl;go_wp2;go_ret
  exact ⟨rfl, HB2.out⟩
 ·rw [h1] at H1;obtain ⟨l, ct⟩ := A;unfold accV accA at *;simp only [if_true] at H1 HB ⊢;clear h;cases h2 : wiB a 0 3
  ·rw [h2] at N1
   go_enter Tryz.func106, Tryz.ntmps106
   go_wp2_with fail
   refine H1.out.mono ?_;rintro e w1 ⟨rfl, hbl⟩;dsimp only;have HB2 := hideIt (below_via HB.out hbl);clear hbl
   go_wp2_with fail
   refine (N1.out _).mono ?_;rintro e w1 ⟨rfl, rfl⟩;dsimp only;go_wp2;go_ret
   exact ⟨rfl, HB2.out⟩
  ·rw [h2] at N1;cases h3 : wiB n 1 9007199254740992
   ·rw [h3] at N2
    go_enter Tryz.func106, Tryz.ntmps106
    go_wp2_with fail
    refine H1.out.mono ?_;rintro e w1 ⟨rfl, hbl⟩;dsimp only;have HB2 := hideIt (below_via HB.out hbl);clear hbl
    go_wp2_with fail
    refine (N1.out _).mono ?_;rintro e w1 ⟨rfl, rfl⟩;dsimp only
    go_wp2_with fail
    refine (N2.out _).mono ?_;rintro e w1 ⟨rfl, rfl⟩;dsimp only;go_wp2;go_ret
    exact ⟨rfl, HB2.out⟩
   ·rw [h3] at N2
    go_enter Tryz.func106, Tryz.ntmps106
    go_wp2_with fail
    refine H1.out.mono ?_;rintro e w1 ⟨rfl, hbl⟩;dsimp only;have HB2 := hideIt (below_via HB.out hbl);clear hbl
    go_wp2_with fail
    refine (N1.out _).mono ?_;rintro e w1 ⟨rfl, rfl⟩;dsimp only
    go_wp2_with fail
    refine (N2.out _).mono ?_;rintro e w1 ⟨rfl, rfl⟩;dsimp only;go_wp2;go_ret
    exact ⟨rfl, HB2.out⟩
set_option maxHeartbeats 8000000 in
set_option maxRecDepth 100000 in
theorem entered_is (A : AccV) (g : Value) (a n : Int) (w : World) (h : AGot w g A.l) (hA : accB A = true) (ha : 0 ≤ a ∧ a ≤ 3) (hn : -9007199254740992 ≤ n ∧ n ≤ 9007199254740992) : Calls Tryz.prog 108 #[accV A g, .int .i64 a, .int .i64 n] w (AccBack ⟨pre (moreS A.l a n) 4, A.ct + 1⟩ w) := by
 obtain ⟨hA1, hA2, hA3⟩ := accB_in hA;have T0 := Duo.first w A g;have T1 := hideIt (T0.keep (below1 _ (.cells #[.int .i64 0, .int .i64 0, .int .i64 0, .int .i64 0] 108)));have hs2 : ((w.alloc (.cells (accA A g) 44)).alloc (.cells #[.slice none 0 0, .int .i64 0] 44)).heap.size = w.heap.size + 2 := by simp
 have P1 := hideIt (heap_alloc_new ((w.alloc (.cells (accA A g) 44)).alloc (.cells #[.slice none 0 0, .int .i64 0] 44)) (.cells #[.int .i64 0, .int .i64 0, .int .i64 0, .int .i64 0] 108));rw [hs2] at P1;have HADD := hideIt (add_is (w.heap.size + 2) (fun _ => 0) g A.l _ P1.out (h.keep T1.out.bel) hA1 (fun k _ => ⟨Int.le_refl _, by decide⟩) (h.apart (by omega)));obtain ⟨kk, rfl⟩ : ∃ kk : Nat, a = kk := Int.eq_ofNat_of_zero_le ha.1;have hk4 : kk < 4 := by omega
 have hbi := bal_in A.l _ (kk : Int) hA1;have hUP : Hid (upS (fun k => 0 + balL A.l k) kk (balL A.l kk + n) = moreS A.l kk n) := by
  show _ = _
  funext k
  rw [upS, moreS]
  by_cases c : k = kk
  ·subst c;rw [if_pos rfl, if_pos rfl]
  ·rw [if_neg c, if_neg (by omega)];omega
 have hk4I : (kk : Int) < 4 := by omega
 have hk0 : (0 : Int) ≤ (kk : Int) := by omega
 obtain ⟨n1, n2⟩ := hn;obtain ⟨b1, b2⟩ := hbi;obtain ⟨ga, gc, rfl⟩ := h.slice;obtain ⟨l, ct⟩ := A;unfold AccBack;unfold accV accA at *;simp only at HADD T1 P1 hUP hA2 hA3 b1 b2 ⊢;have hwr : IntKind.i64.wrap (ct + 1) = ct + 1 := wrap_ok (by omega) (by omega);obtain ⟨D, hD⟩ : ∃ D, D = pre (moreS l kk n) 4 := ⟨_, rfl⟩;have HD := hideIt hD;rw [← hD];clear h hA T0 hs2 hD
 go_enter Tryz.func108, Tryz.ntmps108
 go_upto_region 2 with fail
 generalize ((w.alloc (.cells #[.slice ga l.length gc, .int .i64 ct] 44)).alloc (.cells #[.slice none 0 0, .int .i64 0] 44)).alloc (.cells #[.int .i64 0, .int .i64 0, .int .i64 0, .int .i64 0] 108) = X at *;obtain ⟨c0, c1⟩ := T1.out.cells;simp only at c0 c1;have hpe : w.heap.size + 1 + 1 = w.heap.size + 2 := rfl;rw [hpe]
 go_wp2_with fail
 refine HADD.out.mono ?_;rintro e w1 ⟨rfl, hsh, ho⟩;dsimp only;have T2 := hideIt (T1.out.out ho (fun k e => by omega));have P2 := hideIt hsh;clear hsh ho T1 P1 HADD c0 c1;obtain ⟨B, hB⟩ : ∃ B, B = balL l kk := ⟨_, rfl⟩;rw [← hB] at b1 b2 hUP;have hpc : w1.cell? ⟨w.heap.size + 2, kk, none⟩ = some (.int .i64 B) := by
  rw [sh_cell P2.out kk hk4, hB, Int.zero_add]
 have hpf : w1.frozen? ⟨w.heap.size + 2, kk, none⟩ = false := free_at P2.out kk;have T3 := hideIt (T2.out.out (Out.ofSet (F := fun k => k = w.heap.size + 2) w1 ⟨w.heap.size + 2, kk, none⟩ (.int .i64 (B + n)) rfl) (fun k e => by omega));have P3 := hideIt (sh_set P2.out kk hk4 (B + n));rw [hUP.out] at P3;clear hB T2 P2 hUP
 go_upto_region 4 with fail
 generalize w1.setCell ⟨w.heap.size + 2, kk, none⟩ (.int .i64 (B + n)) = w2 at *;clear hpc hpf;have T4 := hideIt T3.out.drew;have HAM := hideIt (amounts_is (w.heap.size + 2) (moreS l kk n) w2.drew P3.out);rw [← HD.out] at HAM;clear HD;refine wp_region_held_drew (S := fun w' => w'.cell? ⟨w.heap.size, 1, none⟩ = some (.int .i64 ct)) (by kernel_rfl) T4.out.cells.2 (fun hHeld => ?_);refine wpAnyH_take (i := 1) (oi := ⟨some 18, _, _, _, _, _⟩) (v := ?_) rfl (by kernel_rfl) (by kernel_rfl) (by kernel_rfl) (fun _ _ _ h => h) (Or.inl ⟨by rfl, ?_⟩) (by assumption) ?_
 rotate_left
 ·intro w5 hSw
  (try dsimp only at hSw)
  go_simp
  (try with_reducible rfl)
 try simp only [Act.put, List.setIfInBounds_toArray, List.set_cons_zero, List.set_cons_succ]
 refine wpAnyH_take (i := 2) (oi := ⟨some 19, _, _, _, _, _⟩) (v := ?_) rfl (by kernel_rfl) (by kernel_rfl) (by kernel_rfl) (fun _ _ _ h => h) (Or.inl ⟨by rfl, ?_⟩) (by assumption) ?_
 rotate_left
 ·intro w5 hSw
  (try dsimp only at hSw)
  go_simp
  (try with_reducible rfl)
 try simp only [Act.put, List.setIfInBounds_toArray, List.set_cons_zero, List.set_cons_succ]
 refine wpAnyH_take (i := 3) (oi := ⟨some 20, _, _, _, _, _⟩) (v := ?_) rfl (by kernel_rfl) (by kernel_rfl) (by kernel_rfl) (fun _ _ _ h => h) (Or.inl ⟨by rfl, ?_⟩) (by assumption) ?_
 rotate_left
 ·intro w5 hSw
  (try dsimp only at hSw)
  go_simp
  (try with_reducible rfl)
 try simp only [Act.put, List.setIfInBounds_toArray, List.set_cons_zero, List.set_cons_succ]
 refine wpAnyH_ready (rs := [0]) (by kernel_rfl) (by simp) ?_;refine AllReadyH.cons (o := ⟨some 17, _, _, _, _, _⟩) rfl (fun K hK => ?_) AllReadyH.nil;go_simp
 go_at_call 57
 refine HAM.out.mono ?_;rintro e w4 ⟨r, rfl, hm⟩;have T5 := hideIt (T4.out.keep hm.bel);refine hK.out _ _ T5.out.cells.2 (fun hHeld => ?_);obtain ⟨ra, rc, rfl⟩ := own_len hm.own;have HO := hideIt (own2 (R := w.heap.size + 1) (.slice ra D.length rc) (.int .i64 (ct + 1)) hm.own (by have := T4.out.size; omega) w.heap.size (by have := T4.out.size; omega)).out
 have HP := T5.out.put (.slice ra D.length rc) (.int .i64 (ct + 1));have HS : Hid (((w4.setCell ⟨w.heap.size + 1, 0, none⟩ (.slice ra D.length rc)).setCell ⟨w.heap.size + 1, 1, none⟩ (.int .i64 (ct + 1))).cell? ⟨w.heap.size, 1, none⟩ = some (.int .i64 ct)) := by
  show _ = _
  rw [cell_at (setOther _ (setOther _ T5.out.box (by omega)) (by omega))]
  rfl
 obtain ⟨z0, z1, zf⟩ := T5.out.zero;clear hK K hm HAM T3 P3 T4 T5
 try simp only [Act.put, List.setIfInBounds_toArray, List.set_cons_zero, List.set_cons_succ]
 refine wpAnyH_take (i := 4) (oi := ⟨some 21, _, _, _, _, _⟩) (v := ?_) rfl (by kernel_rfl) (by kernel_rfl) (by kernel_rfl) (fun _ _ _ h => h) (Or.inl ⟨by rfl, ?_⟩) (by assumption) ?_
 rotate_left
 ·intro w5 hSw
  (try dsimp only at hSw)
  go_simp
  (try with_reducible rfl)
 try simp only [Act.put, List.setIfInBounds_toArray, List.set_cons_zero, List.set_cons_succ]
 refine wpAnyH_ready (rs := [5]) (by kernel_rfl) (by simp) ?_;refine AllReadyH.cons (o := ⟨none, _, _, _, _, _⟩) rfl (fun K hK => ?_) AllReadyH.nil;go_simp;refine hK.out _ _ HS.out (fun hHeld => ?_);clear hK K;obtain ⟨e1, e2⟩ := HP.out;have e3 := HO.out;clear HP HO HS;generalize ((w4.setCell ⟨w.heap.size + 1, 0, none⟩ (.slice ra D.length rc)).setCell ⟨w.heap.size + 1, 1, none⟩ (.int .i64 (ct + 1))) = W at *
 try simp only [Act.put, List.setIfInBounds_toArray, List.set_cons_zero, List.set_cons_succ]
 refine wpAnyH_done (by kernel_rfl) ?_ _;go_wp2;exact bodyPost_ret (v := accV ⟨D, ct + 1⟩ (.slice ra D.length rc)) (by simp [results, Tryz.results108, go_sem, cell_at e1, accV, accA]) rfl ⟨_, rfl, e3, e2⟩
def AccErr (X : AccV × Int) (w : World) (e : Ending) (w' : World) : Prop := ∃ g, e = .returned (.tuple #[accV X.1 g, .int .i64 X.2]) ∧ w'.ownsRow w.heap.size 53 2 g X.1.l.length (amC X.1.l) ∧ Below w.heap.size w w'
set_option maxHeartbeats 8000000 in
set_option maxRecDepth 100000 in
theorem credit_is (A : AccV) (g : Value) (a n : Int) (w : World) (h : AGot w g A.l) : Calls Tryz.prog 75 #[accV A g, .int .i64 a, .int .i64 n] w (AccErr (credL A a n) w) := by
 have T0 := hideIt (Duo.first w A g);have H1 := hideIt (refused_is A g a n _ (h.keep T0.out.bel));unfold AccErr credL
 by_cases hr : refI A a n = 0
 ·rw [if_pos hr];rw [hr] at H1;obtain ⟨hA, ha, hn⟩ := refI_in hr;have HBA := hideIt (fun wx (hx : Below w.heap.size w wx) => balance_is A g a wx (h.keep hx));have HEN := hideIt (fun wx (hx : Below w.heap.size w wx) => entered_is A g a n wx (h.keep hx) hA ha ⟨by omega, hn.2⟩);unfold AccBack at HEN;have hb := bal_in A.l _ a (accB_in hA).1;obtain ⟨ga, gc, rfl⟩ := h.slice;obtain ⟨l, ct⟩ := A;unfold accV accA at *;simp only at H1 HBA HEN hb T0 ⊢;generalize pre (moreS l a n) 4 = D at *;generalize balL l a = B at *;obtain ⟨b1, b2⟩ := hb;obtain ⟨n1, n2⟩ := hn;clear h hA hr ha
  by_cases hov : 9007199254740992 < B + n
  ·rw [if_pos (.inl hov)];clear HEN
   go_enter Tryz.func75, Tryz.ntmps75
   go_wp2_with fail
   refine H1.out.mono ?_;rintro e w1 ⟨rfl, hbl⟩;dsimp only;have T1 := hideIt (T0.out.keep hbl);obtain ⟨c0, c1⟩ := T1.out.cells;simp only at c0 c1;clear T0 H1 hbl
   go_wp2_with fail
   refine (HBA.out _ T1.out.bel).mono ?_;rintro e w2 ⟨rfl, hbl⟩;dsimp only;have T2 := hideIt (T1.out.keep hbl);obtain ⟨z0, z1, zf⟩ := T2.out.zero;have HP := T2.out.put (.slice none 0 0) (.int .i64 0);clear T1 T2 hbl HBA c0 c1;obtain ⟨e1, e2⟩ := HP.out;clear HP;go_wp2
   revert e1 e2
   generalize (World.setCell _ ⟨w.heap.size + 1, 1, none⟩ _) = W;intro e1 e2;exact bodyPost_ret (v := .tuple #[accV zA (.slice none 0 0), .int .i64 122]) (by simp [results, Tryz.results75, go_sem, cell_at e1, accV, accA, zA]) rfl ⟨_, rfl, own_nil _ _, e2⟩
  ·have hovI : B + n ≤ 9007199254740992 := by omega
   by_cases hct : ct = 1000000000
   ·rw [if_pos (.inr hct)];subst hct;clear HEN
    go_enter Tryz.func75, Tryz.ntmps75
    go_wp2_with fail
    refine H1.out.mono ?_;rintro e w1 ⟨rfl, hbl⟩;dsimp only;have T1 := hideIt (T0.out.keep hbl);obtain ⟨c0, c1⟩ := T1.out.cells;simp only at c0 c1;clear T0 H1 hbl
    go_wp2_with fail
    refine (HBA.out _ T1.out.bel).mono ?_;rintro e w2 ⟨rfl, hbl⟩;dsimp only;have T2 := hideIt (T1.out.keep hbl);clear c0 c1;obtain ⟨c0, c1⟩ := T2.out.cells;simp only at c0 c1;obtain ⟨z0, z1, zf⟩ := T2.out.zero;have HP := T2.out.put (.slice none 0 0) (.int .i64 0);clear T1 T2 hbl HBA;obtain ⟨e1, e2⟩ := HP.out;clear HP;go_wp2
    revert e1 e2
    generalize (World.setCell _ ⟨w.heap.size + 1, 1, none⟩ _) = W;intro e1 e2;exact bodyPost_ret (v := .tuple #[accV zA (.slice none 0 0), .int .i64 122]) (by simp [results, Tryz.results75, go_sem, cell_at e1, accV, accA, zA]) rfl ⟨_, rfl, own_nil _ _, e2⟩
   ·have hctb : (ct == 1000000000) = false := beq_eq_false_iff_ne.2 hct;rw [if_neg (by omega)];clear hct
    go_enter Tryz.func75, Tryz.ntmps75
    go_wp2_with fail
    refine H1.out.mono ?_;rintro e w1 ⟨rfl, hbl⟩;dsimp only;have T1 := hideIt (T0.out.keep hbl);obtain ⟨c0, c1⟩ := T1.out.cells;simp only at c0 c1;clear T0 H1 hbl
    go_wp2_with fail
    refine (HBA.out _ T1.out.bel).mono ?_;rintro e w2 ⟨rfl, hbl⟩;dsimp only;have T2 := hideIt (T1.out.keep hbl);clear c0 c1;obtain ⟨c0, c1⟩ := T2.out.cells;simp only at c0 c1;clear T1 hbl HBA
    go_wp2_with fail
    refine (HEN.out _ T2.out.bel).mono ?_;rintro e w3 ⟨gx, rfl, ho, hbl⟩;dsimp only;have T3 := hideIt (T2.out.keep hbl);obtain ⟨xa, xc, rfl⟩ := own_len ho;have HO := hideIt (own2 (R := w.heap.size + 1) (.slice xa D.length xc) (.int .i64 (ct + 1)) ho (by have := T2.out.size; omega) w.heap.size (by have := T2.out.size; omega)).out
    have HP := T3.out.put (.slice xa D.length xc) (.int .i64 (ct + 1));obtain ⟨z0, z1, zf⟩ := T3.out.zero;clear ho hbl T3 T2 c0 c1 HEN;obtain ⟨e1, e2⟩ := HP.out;have e3 := HO.out;clear HP HO;go_wp2
    revert e1 e2 e3
    generalize (World.setCell _ ⟨w.heap.size + 1, 1, none⟩ _) = W;intro e1 e2 e3;exact bodyPost_ret (v := .tuple #[accV ⟨D, ct + 1⟩ (.slice xa D.length xc), .int .i64 0]) (by simp [results, Tryz.results75, go_sem, cell_at e1, accV, accA]) rfl ⟨_, rfl, e3, e2⟩
 ·rw [if_neg hr];generalize refI A a n = R at *;have hrb : (R != 0) = true := by simp [hr]
  obtain ⟨ga, gc, rfl⟩ := h.slice;obtain ⟨l, ct⟩ := A;unfold accV accA at *;simp only at H1 T0 ⊢;clear h hr
  go_enter Tryz.func75, Tryz.ntmps75
  go_wp2_with fail
  refine H1.out.mono ?_;rintro e w1 ⟨rfl, hbl⟩;dsimp only;have T1 := hideIt (T0.out.keep hbl);obtain ⟨z0, z1, zf⟩ := T1.out.zero;have HP := T1.out.put (.slice none 0 0) (.int .i64 0);clear T0 T1 H1 hbl;obtain ⟨e1, e2⟩ := HP.out;clear HP;go_wp2
  revert e1 e2
  generalize (World.setCell _ ⟨w.heap.size + 1, 1, none⟩ _) = W;intro e1 e2;exact bodyPost_ret (v := .tuple #[accV zA (.slice none 0 0), .int .i64 R]) (by simp [results, Tryz.results75, go_sem, cell_at e1, accV, accA, zA]) rfl ⟨_, rfl, own_nil _ _, e2⟩
set_option maxHeartbeats 8000000 in
set_option maxRecDepth 100000 in
theorem debit_is (A : AccV) (g : Value) (a n : Int) (w : World) (h : AGot w g A.l) : Calls Tryz.prog 77 #[accV A g, .int .i64 a, .int .i64 n] w (AccErr (debL A a n) w) := by
 have T0 := hideIt (Duo.first w A g);have H1 := hideIt (refused_is A g a n _ (h.keep T0.out.bel));unfold AccErr debL
 by_cases hr : refI A a n = 0
 ·rw [if_pos hr];rw [hr] at H1;obtain ⟨hA, ha, hn⟩ := refI_in hr;have HBA := hideIt (fun wx (hx : Below w.heap.size w wx) => balance_is A g a wx (h.keep hx));have HEN := hideIt (fun wx (hx : Below w.heap.size w wx) => entered_is A g a (-n) wx (h.keep hx) hA ha ⟨by omega, by omega⟩);unfold AccBack at HEN;have hb := bal_in A.l _ a (accB_in hA).1;obtain ⟨ga, gc, rfl⟩ := h.slice;obtain ⟨l, ct⟩ := A;unfold accV accA at *;simp only at H1 HBA HEN hb T0 ⊢;generalize pre (moreS l a (-n)) 4 = D at *;generalize balL l a = B at *;obtain ⟨b1, b2⟩ := hb;obtain ⟨n1, n2⟩ := hn;clear h hA hr ha
  by_cases hov : B < n
  ·rw [if_pos hov];clear HEN
   go_enter Tryz.func77, Tryz.ntmps77
   go_wp2_with fail
   refine H1.out.mono ?_;rintro e w1 ⟨rfl, hbl⟩;dsimp only;have T1 := hideIt (T0.out.keep hbl);obtain ⟨c0, c1⟩ := T1.out.cells;simp only at c0 c1;clear T0 H1 hbl
   go_wp2_with fail
   refine (HBA.out _ T1.out.bel).mono ?_;rintro e w2 ⟨rfl, hbl⟩;dsimp only;have T2 := hideIt (T1.out.keep hbl);obtain ⟨z0, z1, zf⟩ := T2.out.zero;have HP := T2.out.put (.slice none 0 0) (.int .i64 0);clear T1 T2 hbl HBA c0 c1;obtain ⟨e1, e2⟩ := HP.out;clear HP;go_wp2
   revert e1 e2
   generalize (World.setCell _ ⟨w.heap.size + 1, 1, none⟩ _) = W;intro e1 e2;exact bodyPost_ret (v := .tuple #[accV zA (.slice none 0 0), .int .i64 121]) (by simp [results, Tryz.results77, go_sem, cell_at e1, accV, accA, zA]) rfl ⟨_, rfl, own_nil _ _, e2⟩
  ·have hovI : n ≤ B := by omega
   rw [if_neg hov]
   by_cases hct : ct = 1000000000
   ·rw [if_pos hct];subst hct;clear HEN
    go_enter Tryz.func77, Tryz.ntmps77
    go_wp2_with fail
    refine H1.out.mono ?_;rintro e w1 ⟨rfl, hbl⟩;dsimp only;have T1 := hideIt (T0.out.keep hbl);obtain ⟨c0, c1⟩ := T1.out.cells;simp only at c0 c1;clear T0 H1 hbl
    go_wp2_with fail
    refine (HBA.out _ T1.out.bel).mono ?_;rintro e w2 ⟨rfl, hbl⟩;dsimp only;have T2 := hideIt (T1.out.keep hbl);clear c0 c1;obtain ⟨c0, c1⟩ := T2.out.cells;simp only at c0 c1;obtain ⟨z0, z1, zf⟩ := T2.out.zero;have HP := T2.out.put (.slice none 0 0) (.int .i64 0);clear T1 T2 hbl HBA;obtain ⟨e1, e2⟩ := HP.out;clear HP;go_wp2
    revert e1 e2
    generalize (World.setCell _ ⟨w.heap.size + 1, 1, none⟩ _) = W;intro e1 e2;exact bodyPost_ret (v := .tuple #[accV zA (.slice none 0 0), .int .i64 122]) (by simp [results, Tryz.results77, go_sem, cell_at e1, accV, accA, zA]) rfl ⟨_, rfl, own_nil _ _, e2⟩
   ·have hctb : (ct == 1000000000) = false := beq_eq_false_iff_ne.2 hct;rw [if_neg hct];have hng : IntKind.i64.wrap (-n) = -n := wrap_ok (by omega) (by omega);clear hct
    go_enter Tryz.func77, Tryz.ntmps77
    go_wp2_with fail
    refine H1.out.mono ?_;rintro e w1 ⟨rfl, hbl⟩;dsimp only;have T1 := hideIt (T0.out.keep hbl);obtain ⟨c0, c1⟩ := T1.out.cells;simp only at c0 c1;clear T0 H1 hbl
    go_wp2_with fail
    refine (HBA.out _ T1.out.bel).mono ?_;rintro e w2 ⟨rfl, hbl⟩;dsimp only;have T2 := hideIt (T1.out.keep hbl);clear c0 c1;obtain ⟨c0, c1⟩ := T2.out.cells;simp only at c0 c1;clear T1 hbl HBA
    go_wp2_with fail
    refine (HEN.out _ T2.out.bel).mono ?_;rintro e w3 ⟨gx, rfl, ho, hbl⟩;dsimp only;have T3 := hideIt (T2.out.keep hbl);obtain ⟨xa, xc, rfl⟩ := own_len ho;have HO := hideIt (own2 (R := w.heap.size + 1) (.slice xa D.length xc) (.int .i64 (ct + 1)) ho (by have := T2.out.size; omega) w.heap.size (by have := T2.out.size; omega)).out
    have HP := T3.out.put (.slice xa D.length xc) (.int .i64 (ct + 1));obtain ⟨z0, z1, zf⟩ := T3.out.zero;clear ho hbl T3 T2 c0 c1 HEN;obtain ⟨e1, e2⟩ := HP.out;have e3 := HO.out;clear HP HO;go_wp2
    revert e1 e2 e3
    generalize (World.setCell _ ⟨w.heap.size + 1, 1, none⟩ _) = W;intro e1 e2 e3;exact bodyPost_ret (v := .tuple #[accV ⟨D, ct + 1⟩ (.slice xa D.length xc), .int .i64 0]) (by simp [results, Tryz.results77, go_sem, cell_at e1, accV, accA]) rfl ⟨_, rfl, e3, e2⟩
 ·rw [if_neg hr];generalize refI A a n = R at *;have hrb : (R != 0) = true := by simp [hr]
  obtain ⟨ga, gc, rfl⟩ := h.slice;obtain ⟨l, ct⟩ := A;unfold accV accA at *;simp only at H1 T0 ⊢;clear h hr
  go_enter Tryz.func77, Tryz.ntmps77
  go_wp2_with fail
  refine H1.out.mono ?_;rintro e w1 ⟨rfl, hbl⟩;dsimp only;have T1 := hideIt (T0.out.keep hbl);obtain ⟨z0, z1, zf⟩ := T1.out.zero;have HP := T1.out.put (.slice none 0 0) (.int .i64 0);clear T0 T1 H1 hbl;obtain ⟨e1, e2⟩ := HP.out;clear HP;go_wp2
  revert e1 e2
  generalize (World.setCell _ ⟨w.heap.size + 1, 1, none⟩ _) = W;intro e1 e2;exact bodyPost_ret (v := .tuple #[accV zA (.slice none 0 0), .int .i64 R]) (by simp [results, Tryz.results77, go_sem, cell_at e1, accV, accA, zA]) rfl ⟨_, rfl, own_nil _ _, e2⟩
end Go.Proofs.YtiinigifjdpicaaGreatDoor.Lg
namespace Go.Proofs.YtiinigifjdpicaaGreatDoor.Lg
open Go.RowKit
def LGot (w : World) (v : Value) (L : List AccV) : Prop :=
 L.length * 32 ≤ 140737488355328 ∧ ∃ a c, v = .slice a L.length c ∧ ∀ i (h : i < L.length), ∃ b off g, a = some ⟨b, off, none⟩ ∧ b < w.heap.size ∧ w.cell? ⟨b, off + i * 2, none⟩ = some g ∧ w.cell? ⟨b, off + i * 2 + 1, none⟩ = some (.int .i64 (L[i]).ct) ∧ AGot w g (L[i]).l
theorem LGot.keep {w w' : World} {v : Value} {L : List AccV} (h : LGot w v L) (hb : Below w.heap.size w w') : LGot w' v L := by
 obtain ⟨h8, a, c, rfl, hr⟩ := h;refine ⟨h8, a, c, rfl, fun i hi => ?_⟩;obtain ⟨b, off, g, rfl, hlt, c0, c1, hg⟩ := hr i hi
 exact ⟨b, off, g, rfl, Nat.lt_of_lt_of_le hlt hb.size, (hb.cell hlt).trans c0, (hb.cell hlt).trans c1, hg.keep hb⟩
theorem Mine.base {w wx : World} {g : Value} {xs : List AmtV} {wy : World} (h : Mine wx g xs wy) (hb : Below w.heap.size w wx) : Mine w g xs wy := ⟨own_base h.own hb.size, below_via hb h.bel⟩
end Go.Proofs.YtiinigifjdpicaaGreatDoor.Lg
