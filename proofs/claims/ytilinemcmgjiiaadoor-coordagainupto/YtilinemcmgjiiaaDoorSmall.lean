/- The small calls of the locks: bounds, keys, names, who is older. -/
import Derived.Test.YtilinemcmgjiiaaDoorKit
namespace Go.Proofs.YtilinemcmgjiiaaDoor
open Go.RowKit
set_option linter.all false
set_option maxHeartbeats 1000000 in
theorem within_is (x lo hi : Int) (w : World) : Calls Tryd.prog 92 #[.int .i64 x, .int .i64 lo, .int .i64 hi] w fun e w' => e = .returned (.bool (wiB x lo hi)) ∧ w' = w := by
  unfold wiB
  by_cases h : lo ≤ x
  · go_enter Tryd.func92, Tryd.ntmps92
    go_wp2
    go_ret
    exact ⟨by simp [h], rfl⟩
  · go_enter Tryd.func92, Tryd.ntmps92
    go_wp2
    go_ret
    exact ⟨by rw [decide_eq_false (by omega)]; rfl, rfl⟩
def keyB (k : KeyV) : Bool := if k.1 = 1 then wiB k.2 1 8 else if k.1 = 2 then wiB k.2 1 3 else false
def namB (t : TxnV) : Bool := wiB t.1 1 6 && wiB t.2 1 100000
def oldB (a b : TxnV) : Bool := decide (a.2 < b.2) || (decide (a.2 = b.2) && decide (a.1 < b.1))
set_option maxHeartbeats 2000000 in
theorem isKey_is (k n : Int) (w : World) : Calls Tryd.prog 86 #[.agg #[.int .i64 k, .int .i64 n]] w fun e w' => e = .returned (.bool (keyB (k, n))) ∧ Below w.heap.size w w' := by
  have N1 := hideIt (fun W => within_is n 1 8 W)
  have N2 := hideIt (fun W => within_is n 1 3 W)
  have HB := hideIt (below1 w (.cells #[.int .i64 k, .int .i64 n] 37))
  simp only [keyB]
  by_cases h1 : k = 1
  · subst h1
    rw [if_pos rfl]
    go_enter Tryd.func86, Tryd.ntmps86
    go_wp2_with fail
    refine (N1.out _).mono ?_
    rintro e w1 ⟨rfl, rfl⟩
    dsimp only
    go_wp2
    go_ret
    exact ⟨rfl, HB.out⟩
  · by_cases h2 : k = 2
    · subst h2
      rw [if_neg h1, if_pos rfl]
      go_enter Tryd.func86, Tryd.ntmps86
      go_wp2_with fail
      refine (N2.out _).mono ?_
      rintro e w1 ⟨rfl, rfl⟩
      dsimp only
      go_wp2
      go_ret
      exact ⟨rfl, HB.out⟩
    · rw [if_neg h1, if_neg h2]
      go_enter Tryd.func86, Tryd.ntmps86
      go_wp2
      go_ret
      exact ⟨rfl, HB.out⟩
set_option maxHeartbeats 2000000 in
theorem isName_is (c q : Int) (w : World) : Calls Tryd.prog 87 #[.agg #[.int .i64 c, .int .i64 q]] w fun e w' => e = .returned (.bool (namB (c, q))) ∧ Below w.heap.size w w' := by
  have N1 := hideIt (fun W => within_is c 1 6 W)
  have N2 := hideIt (fun W => within_is q 1 100000 W)
  have HB := hideIt (below1 w (.cells #[.int .i64 c, .int .i64 q] 35))
  simp only [namB]
  cases h1 : wiB c 1 6
  · rw [h1] at N1
    go_enter Tryd.func87, Tryd.ntmps87
    go_wp2_with fail
    refine (N1.out _).mono ?_
    rintro e w1 ⟨rfl, rfl⟩
    dsimp only
    go_wp2
    go_ret
    exact ⟨rfl, HB.out⟩
  · rw [h1] at N1
    go_enter Tryd.func87, Tryd.ntmps87
    go_wp2_with fail
    refine (N1.out _).mono ?_
    rintro e w1 ⟨rfl, rfl⟩
    dsimp only
    go_wp2_with fail
    refine (N2.out _).mono ?_
    rintro e w1 ⟨rfl, rfl⟩
    dsimp only
    go_wp2
    go_ret
    exact ⟨by simp, HB.out⟩
def zT : TxnV := (0, 0)
set_option maxHeartbeats 2000000 in
theorem isNobody_is (c q : Int) (w : World) : Calls Tryd.prog 82 #[.agg #[.int .i64 c, .int .i64 q]] w fun e w' => e = .returned (.bool ((c, q) == zT)) ∧ Below w.heap.size w w' := by
  have HB := hideIt (below1 w (.cells #[.int .i64 c, .int .i64 q] 35))
  have q1 := eq28
  unfold zT
  go_enter Tryd.func82, Tryd.ntmps82
  go_wp2
  go_ret
  exact ⟨rfl, HB.out⟩
set_option maxHeartbeats 2000000 in
theorem size_is (T : TabV) (h v : Value) (w : World) (k : Tab w T h v) : Calls Tryd.prog 81 #[.agg #[h, v]] w fun e w' => e = .returned (.int .i64 ((T.held.length : Int) + (T.wait.length : Int))) ∧ Below w.heap.size w w' := by
  have a8 := k.held.1
  have b8 := k.wait.1
  obtain ⟨ha, hc, rfl⟩ := k.held.slice
  obtain ⟨va, vc, rfl⟩ := k.wait.slice
  clear k
  have HB := hideIt (below1 w (.cells #[.slice ha T.held.length hc, .slice va T.wait.length vc] 140))
  have hw : IntKind.i64.wrap ((T.held.length : Int) + (T.wait.length : Int)) = (T.held.length : Int) + (T.wait.length : Int) := by rw [IntKind.wrap_i64]; omega
  clear a8 b8
  go_enter Tryd.func81, Tryd.ntmps81
  go_wp2
  go_ret
  exact ⟨rfl, HB.out⟩
theorem namF1 {c q : Int} (h : ¬ 1 ≤ c) : namB (c, q) = false := by
  simp only [namB, wiB]
  rw [decide_eq_false (p := 1 ≤ c ∧ c ≤ 6) (by omega), Bool.false_and]
theorem namF2 {c q : Int} (h : ¬ c ≤ 6) : namB (c, q) = false := by
  simp only [namB, wiB]
  rw [decide_eq_false (p := 1 ≤ c ∧ c ≤ 6) (by omega), Bool.false_and]
theorem namF3 {c q : Int} (h : ¬ 1 ≤ q) : namB (c, q) = false := by
  simp only [namB, wiB]
  rw [decide_eq_false (p := 1 ≤ q ∧ q ≤ 100000) (by omega), Bool.and_false]
theorem namT {c q : Int} (h1 : 1 ≤ c) (h2 : c ≤ 6) (h3 : 1 ≤ q) : namB (c, q) = decide (q ≤ 100000) := by
  simp [namB, wiB, h1, h2, h3]
end Go.Proofs.YtilinemcmgjiiaaDoor
