/- Requests: whether one fits. -/
import Derived.Test.YtilinemcmgjiiaaDoorAskW
namespace Go.Proofs.YtilinemcmgjiiaaDoor
open Go.RowKit
set_option linter.all false
theorem nilTab (w : World) : Tab w zTab (.slice none 0 0) (.slice none 0 0) := ⟨SGot.nil _ _ _ _ _ _ (Nat.zero_le _), SGot.nil _ _ _ _ _ _ (Nat.zero_le _)⟩
theorem ask_zero (k : KeyV) (t : TxnV) : (askL zTab k t).2.2 = if (keyB k && namB t) = true then 0 else 1 := by
  have hc : chkB zTab = true := rfl
  have hr : refE zTab k t = if (keyB k && namB t) = true then 0 else 1 := by
    unfold refE
    rw [if_pos hc]
  unfold askL
  rw [hr]
  by_cases h : (keyB k && namB t) = true
  · rw [if_pos h, if_pos rfl]
    have e1 : zTab.held = [] := rfl
    have e2 : zTab.wait = [] := rfl
    rw [e1, e2]
    split
    · rfl
    · rw [if_neg (by simp [qL])]
      split <;> rfl
  · rw [if_neg h, if_neg (by omega)]
/-- Asking where nothing is held. -/
theorem ask0_is (k n c q r : Int) (hr : (if (keyB (k, n) && namB (c, q)) = true then (0 : Int) else 1) = r) (w : World) : Calls Tryd.prog 68 #[.agg #[.slice none 0 0, .slice none 0 0], .agg #[.int .i64 k, .int .i64 n], .agg #[.int .i64 c, .int .i64 q]] w fun e w' => ∃ a l c' b m d y, e = .returned (.tuple #[.agg #[.slice a l c', .slice b m d], .bool y, .int .i64 r]) ∧ Below w.heap.size w w' := by
  refine (ask_is zTab _ _ k n c q w (nilTab w)).mono ?_
  rintro e w' ⟨h, v, rfl, ho, hb⟩
  obtain ⟨a, c', rfl⟩ := own_len ho.oh
  obtain ⟨b, d, rfl⟩ := own_len ho.ov
  rw [ask_zero, hr]
  exact ⟨_, _, _, _, _, _, _, rfl, hb⟩
set_option maxHeartbeats 4000000 in
theorem nameS_is (c q : Int) (w : World) : Calls Tryd.prog 75 #[.agg #[.int .i64 c, .int .i64 q]] w fun e w' => e = .returned (.bool (namB (c, q))) ∧ Below w.heap.size w w' := by
  have X0 := hideIt (below1 w (.cells #[.int .i64 c, .int .i64 q] 35))
  cases hn : namB (c, q)
  · have H := hideIt (fun W => ask0_is 1 1 c q 1 (by rw [hn]; rfl) W)
    go_enter Tryd.func75, Tryd.ntmps75
    go_wp2_with fail
    refine (H.out _).mono ?_
    rintro e w1 ⟨a, l, c', b, m, d, y, rfl, hb⟩
    dsimp only
    have HB := hideIt (below_via X0.out (below_via hb (below1 w1 (.cells #[.slice a l c', .slice b m d] 140))))
    clear hb X0
    go_wp2
    go_ret
    exact ⟨rfl, HB.out⟩
  · have H := hideIt (fun W => ask0_is 1 1 c q 0 (by rw [hn]; rfl) W)
    go_enter Tryd.func75, Tryd.ntmps75
    go_wp2_with fail
    refine (H.out _).mono ?_
    rintro e w1 ⟨a, l, c', b, m, d, y, rfl, hb⟩
    dsimp only
    have HB := hideIt (below_via X0.out (below_via hb (below1 w1 (.cells #[.slice a l c', .slice b m d] 140))))
    clear hb X0
    go_wp2
    go_ret
    exact ⟨rfl, HB.out⟩
set_option maxHeartbeats 1000000 in
theorem withinS_is (x lo hi : Int) (w : World) : Calls Tryd.prog 48 #[.int .i64 x, .int .i64 lo, .int .i64 hi] w fun e w' => e = .returned (.bool (wiB x lo hi)) ∧ w' = w := by
  unfold wiB
  by_cases h : lo ≤ x
  · go_enter Tryd.func48, Tryd.ntmps48
    go_wp2
    go_ret
    exact ⟨by simp [h], rfl⟩
  · go_enter Tryd.func48, Tryd.ntmps48
    go_wp2
    go_ret
    exact ⟨by rw [decide_eq_false (by omega)]; rfl, rfl⟩
def fitB (has n lo hi : Int) : Bool := if has = 0 then n == 0 else wiB n lo hi
set_option maxHeartbeats 1000000 in
theorem fitsN_is (has n lo hi : Int) (w : World) : Calls Tryd.prog 49 #[.int .i64 has, .int .i64 n, .int .i64 lo, .int .i64 hi] w fun e w' => e = .returned (.bool (fitB has n lo hi)) ∧ w' = w := by
  have H := hideIt (fun W => withinS_is n lo hi W)
  unfold fitB
  by_cases h : has = 0
  · subst h
    rw [if_pos rfl]
    go_enter Tryd.func49, Tryd.ntmps49
    go_wp2
    go_ret
    exact ⟨rfl, rfl⟩
  · rw [if_neg h]
    go_enter Tryd.func49, Tryd.ntmps49
    go_wp2_with fail
    refine (H.out _).mono ?_
    rintro e w ⟨rfl, rfl⟩
    dsimp only
    go_wp2
    go_ret
    exact ⟨rfl, rfl⟩
def fitK (has : Int) (k : KeyV) : Bool := if has = 0 then k == (0, 0) else keyB k
set_option maxHeartbeats 4000000 in
theorem fitsKey_is (has k n : Int) (w : World) : Calls Tryd.prog 50 #[.int .i64 has, .agg #[.int .i64 k, .int .i64 n]] w fun e w' => e = .returned (.bool (fitK has (k, n))) ∧ Below w.heap.size w w' := by
  have X0 := hideIt (below1 w (.cells #[.int .i64 k, .int .i64 n] 37))
  have q1 := eq26
  unfold fitK
  by_cases h : has = 0
  · subst h
    rw [if_pos rfl]
    go_enter Tryd.func50, Tryd.ntmps50
    go_wp2
    go_ret
    exact ⟨rfl, X0.out⟩
  · rw [if_neg h]
    clear q1
    cases hn : keyB (k, n)
    · have H := hideIt (fun W => ask0_is k n 1 1 1 (by rw [hn]; rfl) W)
      go_enter Tryd.func50, Tryd.ntmps50
      go_wp2_with fail
      refine (H.out _).mono ?_
      rintro e w1 ⟨a, l, c', b, m, d, y, rfl, hb⟩
      dsimp only
      have HB := hideIt (below_via X0.out (below_via hb (below1 w1 (.cells #[.slice a l c', .slice b m d] 140))))
      clear hb X0
      go_wp2
      go_ret
      exact ⟨rfl, HB.out⟩
    · have H := hideIt (fun W => ask0_is k n 1 1 0 (by rw [hn]; rfl) W)
      go_enter Tryd.func50, Tryd.ntmps50
      go_wp2_with fail
      refine (H.out _).mono ?_
      rintro e w1 ⟨a, l, c', b, m, d, y, rfl, hb⟩
      dsimp only
      have HB := hideIt (below_via X0.out (below_via hb (below1 w1 (.cells #[.slice a l c', .slice b m d] 140))))
      clear hb X0
      go_wp2
      go_ret
      exact ⟨rfl, HB.out⟩
end Go.Proofs.YtilinemcmgjiiaaDoor
