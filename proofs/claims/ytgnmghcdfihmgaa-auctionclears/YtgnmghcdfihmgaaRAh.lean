/- The document's small calls on orders. -/
import Derived.Test.YtgnmghcdfihmgaaSmall
namespace Go.Proofs.Ytgnmghcdfihmgaa
open Go.RowKit
set_option linter.all false
set_option maxHeartbeats 1000000 in
theorem rWithin_is (x lo hi : Int) (w : World) : Calls Try.prog 64 #[.int .i64 x, .int .i64 lo, .int .i64 hi] w fun e w' => e = .returned (.bool (wiB x lo hi)) ∧ w' = w := by
  unfold wiB
  go_enter Try.func64, Try.ntmps64
  by_cases h1 : lo ≤ x
  · by_cases h2 : x ≤ hi
    · go_wp2
      go_ret
      exact ⟨by simp [h1, h2], rfl⟩
    · go_wp2
      go_ret
      exact ⟨by simp [h2], rfl⟩
  · go_wp2
    go_ret
    exact ⟨by simp; omega, rfl⟩
theorem eq4 (x y : Bool) (w : World) : (binOp .eql 4 (.bool x) (.bool y)).run Try.prog w = .ok (.bool (x == y)) w := by
  cases x <;> cases y <;> simp [go_sem]
set_option maxHeartbeats 2000000 in
theorem rAhead_is (s : Int) (a b : OrdV) (w : World) : Calls Try.prog 77 #[.int .i64 s, .agg (ordE a).toArray, .agg (ordE b).toArray] w fun e w' => e = .returned (.bool (ahB s a b)) ∧ Below w.heap.size w w' := by
  have HB := hideIt (below2 w (.cells (ordE a).toArray 38) (.cells (ordE b).toArray 38))
  obtain ⟨ai, aa, ap, al⟩ := a
  obtain ⟨bi, ba, bp, bl⟩ := b
  unfold ahB ordE at *
  simp only at *
  go_enter Try.func77, Try.ntmps77
  by_cases h : ap = bp
  · subst h
    go_wp2
    go_ret
    exact ⟨by simp, HB.out⟩
  · by_cases h1 : bp < ap
    · by_cases h2 : s = 1
      · go_wp2
        go_ret
        exact ⟨by simp [h, h1, h2], HB.out⟩
      · go_wp2
        go_ret
        exact ⟨by simp [h, h1, h2], HB.out⟩
    · by_cases h2 : s = 1
      · go_wp2
        go_ret
        exact ⟨by simp [h, h1, h2], HB.out⟩
      · go_wp2
        go_ret
        exact ⟨by simp [h]; rw [decide_eq_false (show ¬ bp < ap by omega)]; simp [h2], HB.out⟩
end Go.Proofs.Ytgnmghcdfihmgaa
