/- What snap's calls answer: the closure that cuts off, whether a mark is one, Compact. -/
import Derived.Test.YtofbikalfpmdpabFrom
namespace Go.Proofs.Ytofbikalfpmdpab
open Go.RowKit
theorem hmf (fn : Fn) (first cap : Array Value) (w : World) : (Instr.makeFunc fn first cap).run Try.prog w = .ok (.func fn first cap) w := rfl
set_option maxHeartbeats 2000000 in
theorem cut_is (L : LogV) (g : Value) (w : World) (h : EGot w g L.l) : Calls Try.prog 30 #[logV L g] w fun e w' => e = .returned (.func (.func 46) #[] #[.pointer (some ⟨w.heap.size, 0, none⟩)]) ∧ w' = w.alloc (.cells (logA L g) 26) := by
  obtain ⟨a, c, rfl⟩ := h.slice
  obtain ⟨bi, bt, l, cm⟩ := L
  unfold logV logA
  simp only
  have hm := hmf
  go_enter Try.func30, Try.ntmps30
  go_wp2
  go_ret
  exact ⟨rfl, rfl⟩
set_option maxHeartbeats 2000000 in
theorem cutf_is (k : Nat) (L : LogV) (g : Value) (i : Int) (w0 w : World) (hbx : Box w0 k L g w) (h : EGot w g L.l) (hi : 0 ≤ i ∧ i ≤ 2000000) : Calls Try.prog 46 #[.int .i64 i, .pointer (some ⟨k, 0, none⟩)] w (EntsBack (fromL L (i + 1) 400) w) := by
  have H1 := hideIt (from_is L g (i + 1) 400 w h ⟨⟨by omega, by omega⟩, by unfold i64B; omega⟩)
  obtain ⟨c0, c1, c2, c3⟩ := hbx.cells
  obtain ⟨a, c, rfl⟩ := h.slice
  unfold EntsBack at *
  generalize fromL L (i + 1) 400 = F at *
  obtain ⟨bi, bt, l, cm⟩ := L
  unfold logV logA at *
  simp only at c0 c1 c2 c3 H1
  obtain ⟨hi1, hi2⟩ := hi
  clear hbx h
  go_enter Try.func46, Try.ntmps46
  go_wp2_with fail
  refine H1.out.mono ?_
  rintro e w1 ⟨r, rfl, ho, hbl⟩
  dsimp only
  have HO := hideIt (And.intro ho hbl)
  clear ho hbl
  go_wp2
  go_ret
  exact ⟨_, rfl, HO.out.1, HO.out.2⟩
/-- A log of a mark alone may be, if the mark is one. -/
theorem may_mark (i t : Int) : mayB ⟨i, t, [], i⟩ = mkB i t := by
  unfold mayB
  cases h : mkB i t
  · rfl
  · have := mkB_in h
    simp only [rowsB, List.length_nil, lasI, wiB, Bool.true_and, Bool.and_true]
    rw [Bool.and_eq_true, Bool.and_eq_true]
    refine ⟨⟨by simp, ?_⟩, ?_⟩
    · exact decide_eq_true (by simp only [Int.natCast_zero]; omega)
    · exact decide_eq_true ⟨Int.le_refl _, by simp⟩
set_option maxHeartbeats 2000000 in
theorem sIsMark_is (i t : Int) (w : World) : Calls Try.prog 34 #[.agg #[.int .i64 i, .int .i64 t]] w fun e w' => e = .returned (.bool (mkB i t)) ∧ Below w.heap.size w w' := by
  have HB := hideIt (below1 w (.cells #[.int .i64 i, .int .i64 t] 23))
  have H1 := hideIt (check_is ⟨i, t, [], i⟩ (.slice none 0 0) (w.alloc (.cells #[.int .i64 i, .int .i64 t] 23)) (EGot.nil _ _ _ (Nat.zero_le _)))
  unfold chkI at H1
  rw [may_mark] at H1
  unfold logV logA at H1
  simp only at H1
  cases h : mkB i t
  · rw [h] at H1
    simp only [Bool.false_eq_true, if_false] at H1
    go_enter Try.func34, Try.ntmps34
    go_wp2_with fail
    refine H1.out.mono ?_
    rintro e w1 ⟨rfl, hbl⟩
    dsimp only
    have HB2 := hideIt (below_via HB.out hbl)
    clear hbl
    go_wp2
    go_ret
    exact ⟨rfl, HB2.out⟩
  · rw [h] at H1
    simp only [if_true] at H1
    go_enter Try.func34, Try.ntmps34
    go_wp2_with fail
    refine H1.out.mono ?_
    rintro e w1 ⟨rfl, hbl⟩
    dsimp only
    have HB2 := hideIt (below_via HB.out hbl)
    clear hbl
    go_wp2
    go_ret
    exact ⟨rfl, HB2.out⟩
end Go.Proofs.Ytofbikalfpmdpab
