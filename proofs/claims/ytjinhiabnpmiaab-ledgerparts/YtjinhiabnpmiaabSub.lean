/- Two lists of amounts that are the same; two cells that are written; an account that comes back. -/
import Derived.Test.YtjinhiabnpmiaabSmall
namespace Go.Proofs.Ytjinhiabnpmiaab
open Go.RowKit
theorem bN {B : Nat} {a w : World} (h : Below B a w) (n : Nat) : Below B a (w.drewN n) := h.trans ⟨rfl, rfl, rfl, Nat.le_refl _, fun _ _ => rfl⟩
theorem neq35r (a b : Int) (w : World) : (binOp .neq 32 (.agg #[.int .i64 a, .int .i64 b]) (.agg #[.int .i64 a, .int .i64 b])).run Try.prog w = .ok (.bool false) w := by
  simp [go_sem]
set_option maxHeartbeats 8000000 in
set_option maxRecDepth 100000 in
theorem sameAm_is (g k : Value) (l : List AmtV) (w : World) (hg : AGot w g l) (hk : AGot w k l) : Calls Try.prog 6 #[g, k] w fun e w' => e = .returned (.bool true) ∧ Below w.heap.size w w' := by
  obtain ⟨a, c, rfl, h8, ha⟩ := hg.open
  obtain ⟨a', c', rfl, _, hb⟩ := hk.open
  have HA := hideIt ha
  have HK := hideIt hb
  have hl : ((l.length : Int) != (l.length : Int)) = false := by simp
  clear hg hk ha hb
  go_enter Try.func6, Try.ntmps6
  go_wp2
  go_loopw [5] (fun i wr => ∃ j : Nat, j ≤ l.length ∧ i = .int .i64 j ∧ Hid (Below w.heap.size w wr)) (fun i _ => l.length - (intOf i).toNat)
  case atStart => exact ⟨0, Nat.zero_le _, rfl, hideIt (Below.refl _ _)⟩
  case round =>
    obtain ⟨j, hj, rfl, HW⟩ := hrel
    by_cases hlt : j < l.length
    · obtain ⟨b1, o1, rfl, l1, p0, p1⟩ := HA.out j hlt
      obtain ⟨b2, o2, rfl, l2, q0, q1⟩ := HK.out j hlt
      have x0 := (HW.out.cell (p := ⟨b1, o1 + j * 2, none⟩) l1).trans p0
      have x1 := (HW.out.cell (p := ⟨b1, o1 + j * 2 + 1, none⟩) l1).trans p1
      have y0 := (HW.out.cell (p := ⟨b2, o2 + j * 2, none⟩) l2).trans q0
      have y1 := (HW.out.cell (p := ⟨b2, o2 + j * 2 + 1, none⟩) l2).trans q1
      have hlt' : (j : Int) < l.length := by omega
      have hj0 : (0 : Int) ≤ j := by omega
      clear p0 p1 q0 q1
      generalize l[j] = en at *
      obtain ⟨ek, ex⟩ := en
      simp only at x0 x1 y0 y1
      have n1 := neq35r ek ex
      go_upto_region 6 with fail
      refine wp_region_held_drew (S := fun w' => w'.cell? ⟨b1, o1 + j * 2, none⟩ = some (.int .i64 ek) ∧ w'.cell? ⟨b1, o1 + j * 2 + 1, none⟩ = some (.int .i64 ex) ∧ w'.cell? ⟨b2, o2 + j * 2, none⟩ = some (.int .i64 ek) ∧ w'.cell? ⟨b2, o2 + j * 2 + 1, none⟩ = some (.int .i64 ex)) (by kernel_rfl) ⟨x0, x1, y0, y1⟩ (fun hHeld => ?_)
      refine wpAnyH_take (i := 0) (oi := ⟨some 17, _, _, _, _, _⟩) (v := ?_) rfl (by kernel_rfl) (by kernel_rfl) (by kernel_rfl) (fun _ _ _ h => h) (Or.inl ⟨by rfl, ?_⟩) (by assumption) ?_
      rotate_left
      · intro w5 hSw
        (try dsimp only at hSw)
        go_simp
        (try with_reducible rfl)
      try simp only [Act.put, List.setIfInBounds_toArray, List.set_cons_zero, List.set_cons_succ]
      refine wpAnyH_take (i := 1) (oi := ⟨some 18, _, _, _, _, _⟩) (v := ?_) rfl (by kernel_rfl) (by kernel_rfl) (by kernel_rfl) (fun _ _ _ h => h) (Or.inl ⟨by rfl, ?_⟩) (by assumption) ?_
      rotate_left
      · intro w5 hSw
        (try dsimp only at hSw)
        go_simp
        (try with_reducible rfl)
      try simp only [Act.put, List.setIfInBounds_toArray, List.set_cons_zero, List.set_cons_succ]
      refine wpAnyH_take (i := 2) (oi := ⟨some 19, _, _, _, _, _⟩) (v := ?_) rfl (by kernel_rfl) (by kernel_rfl) (by kernel_rfl) (fun _ _ _ h => h) (Or.inl ⟨by rfl, ?_⟩) (by assumption) ?_
      rotate_left
      · intro w5 hSw
        (try dsimp only at hSw)
        go_simp
        (try with_reducible rfl)
      try simp only [Act.put, List.setIfInBounds_toArray, List.set_cons_zero, List.set_cons_succ]
      refine wpAnyH_take (i := 3) (oi := ⟨some 20, _, _, _, _, _⟩) (v := ?_) rfl (by kernel_rfl) (by kernel_rfl) (by kernel_rfl) (fun _ _ _ h => h) (Or.inl ⟨by rfl, ?_⟩) (by assumption) ?_
      rotate_left
      · intro w5 hSw
        (try dsimp only at hSw)
        go_simp
        (try with_reducible rfl)
      try simp only [Act.put, List.setIfInBounds_toArray, List.set_cons_zero, List.set_cons_succ]
      refine wpAnyH_take (i := 4) (oi := ⟨some 21, _, _, _, _, _⟩) (v := ?_) rfl (by kernel_rfl) (by kernel_rfl) (by kernel_rfl) (fun _ _ _ h => h) (Or.inl ⟨by rfl, ?_⟩) (by assumption) ?_
      rotate_left
      · intro w5 hSw
        (try dsimp only at hSw)
        go_simp
        (try with_reducible rfl)
      try simp only [Act.put, List.setIfInBounds_toArray, List.set_cons_zero, List.set_cons_succ]
      refine wpAnyH_take (i := 5) (oi := ⟨some 22, _, _, _, _, _⟩) (v := ?_) rfl (by kernel_rfl) (by kernel_rfl) (by kernel_rfl) (fun _ _ _ h => h) (Or.inl ⟨by rfl, ?_⟩) (by assumption) ?_
      rotate_left
      · intro w5 hSw
        (try dsimp only at hSw)
        go_simp
        (try with_reducible rfl)
      try simp only [Act.put, List.setIfInBounds_toArray, List.set_cons_zero, List.set_cons_succ]
      refine wpAnyH_take (i := 6) (oi := ⟨some 23, _, _, _, _, _⟩) (v := ?_) rfl (by kernel_rfl) (by kernel_rfl) (by kernel_rfl) (fun _ _ _ h => h) (Or.inl ⟨by rfl, ?_⟩) (by assumption) ?_
      rotate_left
      · intro w5 hSw
        (try dsimp only at hSw)
        go_simp
        (try with_reducible rfl)
      try simp only [Act.put, List.setIfInBounds_toArray, List.set_cons_zero, List.set_cons_succ]
      refine wpAnyH_take (i := 7) (oi := ⟨some 24, _, _, _, _, _⟩) (v := ?_) rfl (by kernel_rfl) (by kernel_rfl) (by kernel_rfl) (fun _ _ _ h => h) (Or.inl ⟨by rfl, ?_⟩) (by assumption) ?_
      rotate_left
      · intro w5 hSw
        (try dsimp only at hSw)
        go_simp
        (try with_reducible rfl)
      try simp only [Act.put, List.setIfInBounds_toArray, List.set_cons_zero, List.set_cons_succ]
      refine wpAnyH_take (i := 8) (oi := ⟨some 25, _, _, _, _, _⟩) (v := ?_) rfl (by kernel_rfl) (by kernel_rfl) (by kernel_rfl) (fun _ _ _ h => h) (Or.inl ⟨by rfl, ?_⟩) (by assumption) ?_
      rotate_left
      · intro w5 hSw
        (try dsimp only at hSw)
        go_simp
        (try with_reducible rfl)
      try simp only [Act.put, List.setIfInBounds_toArray, List.set_cons_zero, List.set_cons_succ]
      refine wpAnyH_done (by kernel_rfl) ?_ _
      clear n1 x0 x1 y0 y1 hHeld
      go_wp2
      go_roundw
      case rel => exact ⟨j + 1, by omega, by go_num, hideIt HW.out.drew⟩
      case measure => simp [intOf]; omega
    · have hlt' : ¬ (j : Int) < l.length := by omega
      go_wp2
      go_ret
      exact ⟨rfl, HW.out⟩
/-- Two cells of a block are written. -/
theorem put2 (wc : World) (b : Nat) (ty : TypeId) (v0 v1 : Value) {z0 z1 : Value} (h : wc.heap[b]? = some (.cells #[z0, z1] ty (0, 0))) :
    ((wc.setCell ⟨b, 0, none⟩ v0).setCell ⟨b, 1, none⟩ v1).heap[b]? = some (.cells #[v0, v1] ty (0, 0)) := by
  have h0 := heap_set h 0 v0
  exact heap_set h0 1 v1
theorem fin2 {w wx : World} {R : Nat} {ty : TypeId} (v0 v1 : Value) {z0 z1 : Value} (hz : wx.heap[R]? = some (.cells #[z0, z1] ty (0, 0))) (hR : w.heap.size ≤ R) (hb : Below w.heap.size w wx) :
    Hid (((wx.setCell ⟨R, 0, none⟩ v0).setCell ⟨R, 1, none⟩ v1).heap[R]? = some (.cells #[v0, v1] ty (0, 0)) ∧ Below w.heap.size w ((wx.setCell ⟨R, 0, none⟩ v0).setCell ⟨R, 1, none⟩ v1)) :=
  ⟨put2 _ _ ty _ _ hz, belowSet _ (belowSet _ hb hR) hR⟩
theorem own2 {wx : World} {R B n : Nat} {e : TypeId} {z : Nat} {g : Value} {xs : List Value} (v0 v1 : Value) (ho : wx.ownsRow B e z g n xs) (hR : R < B) (B' : Nat) (hB : B' ≤ B) :
    Hid (((wx.setCell ⟨R, 0, none⟩ v0).setCell ⟨R, 1, none⟩ v1).ownsRow B' e z g n xs) :=
  own_base (ownSet _ (ownSet _ ho hR) hR) hB
/-- An account comes back. -/
def AccBack (A : AccV) (w : World) (e : Ending) (w' : World) : Prop := ∃ g, e = .returned (accV A g) ∧ w'.ownsRow w.heap.size 32 2 g A.l.length (amC A.l) ∧ Below w.heap.size w w'
end Go.Proofs.Ytjinhiabnpmiaab
