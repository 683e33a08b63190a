/- The small questions of term and of the document: bounds, marks, which of two marks is less. -/
import Derived.Test.YtkoecdcbopkkbaaIns
namespace Go.Proofs.Ytkoecdcbopkkbaa
open Go.RowKit
def i64B (x : Int) : Prop := -9223372036854775808 ≤ x ∧ x ≤ 9223372036854775807
def wiB (x lo hi : Int) : Bool := decide (lo ≤ x ∧ x ≤ hi)
def mkB (i t : Int) : Bool := wiB i 0 1000000 && wiB t 0 1000000 && (t == 0) == (i == 0)
def lessB (ai aT bi bt : Int) : Bool := decide (aT < bt) || (aT == bt && decide (ai < bi))
theorem below1 (w : World) (o : Obj) : Below w.heap.size w (w.alloc o) := (Below.refl _ w).alloc (Nat.le_refl _) o
theorem below2 (w : World) (o p : Obj) : Below w.heap.size w ((w.alloc o).alloc p) := (below1 w o).alloc (by simp) p
set_option maxHeartbeats 1000000 in
theorem within_is (x lo hi : Int) (w : World) : Calls Try.prog 38 #[.int .i64 x, .int .i64 lo, .int .i64 hi] w fun e w' => e = .returned (.bool (wiB x lo hi)) ∧ w' = w := by
  unfold wiB
  by_cases h : lo ≤ x
  · go_enter Try.func38, Try.ntmps38
    go_wp2
    go_ret
    exact ⟨by simp [h], rfl⟩
  · go_enter Try.func38, Try.ntmps38
    go_wp2
    go_ret
    exact ⟨by rw [decide_eq_false (by omega)]; rfl, rfl⟩
set_option maxHeartbeats 1000000 in
theorem rwithin_is (x lo hi : Int) (w : World) : Calls Try.prog 28 #[.int .i64 x, .int .i64 lo, .int .i64 hi] w fun e w' => e = .returned (.bool (wiB x lo hi)) ∧ w' = w := by
  unfold wiB
  by_cases h : lo ≤ x
  · go_enter Try.func28, Try.ntmps28
    go_wp2
    go_ret
    exact ⟨by simp [h], rfl⟩
  · go_enter Try.func28, Try.ntmps28
    go_wp2
    go_ret
    exact ⟨by rw [decide_eq_false (by omega)]; rfl, rfl⟩
theorem isNode_is (x : Int) (w : World) : Calls Try.prog 32 #[.int .i64 x] w fun e w' => e = .returned (.bool (wiB x 1 7)) ∧ w' = w := by
  have H := hideIt (within_is x 1 7 w)
  go_enter Try.func32, Try.ntmps32
  go_wp2_with fail
  refine H.out.mono ?_
  rintro e w1 ⟨rfl, rfl⟩
  dsimp only
  go_wp2
  go_ret
  exact ⟨rfl, rfl⟩
theorem isTerm_is (x : Int) (w : World) : Calls Try.prog 29 #[.int .i64 x] w fun e w' => e = .returned (.bool (wiB x 1 1000000)) ∧ w' = w := by
  have H := hideIt (within_is x 1 1000000 w)
  go_enter Try.func29, Try.ntmps29
  go_wp2_with fail
  refine H.out.mono ?_
  rintro e w1 ⟨rfl, rfl⟩
  dsimp only
  go_wp2
  go_ret
  exact ⟨rfl, rfl⟩
def oneB (x n : Int) : Bool := wiB n 1 7 && wiB x 1 n
theorem isOneOf_is (x n : Int) (w : World) : Calls Try.prog 25 #[.int .i64 x, .int .i64 n] w fun e w' => e = .returned (.bool (oneB x n)) ∧ w' = w := by
  have H1 := hideIt (isNode_is n w)
  have H2 := hideIt (within_is x 1 n w)
  unfold oneB
  cases h : wiB n 1 7
  · rw [h] at H1
    go_enter Try.func25, Try.ntmps25
    go_wp2_with fail
    refine H1.out.mono ?_
    rintro e w1 ⟨rfl, rfl⟩
    dsimp only
    go_wp2
    go_ret
    exact ⟨rfl, rfl⟩
  · rw [h] at H1
    go_enter Try.func25, Try.ntmps25
    go_wp2_with fail
    refine H1.out.mono ?_
    rintro e w1 ⟨rfl, rfl⟩
    dsimp only
    go_wp2_with fail
    refine H2.out.mono ?_
    rintro e w1 ⟨rfl, rfl⟩
    dsimp only
    go_wp2
    go_ret
    exact ⟨by simp, rfl⟩
set_option maxHeartbeats 2000000 in
theorem isMark_is (i t : Int) (w : World) : Calls Try.prog 33 #[.agg #[.int .i64 i, .int .i64 t]] w fun e w' => e = .returned (.bool (mkB i t)) ∧ Below w.heap.size w w' := by
  have N1 := hideIt (fun W => within_is i 0 1000000 W)
  have N2 := hideIt (fun W => within_is t 0 1000000 W)
  unfold mkB
  have HB := hideIt (below1 w (.cells #[.int .i64 i, .int .i64 t] 37))
  cases h1 : wiB i 0 1000000
  · rw [h1] at N1
    go_enter Try.func33, Try.ntmps33
    go_wp2_with fail
    refine (N1.out _).mono ?_
    rintro e w1 ⟨rfl, rfl⟩
    dsimp only
    go_wp2
    go_ret
    exact ⟨rfl, HB.out⟩
  · rw [h1] at N1
    cases h2 : wiB t 0 1000000
    · rw [h2] at N2
      go_enter Try.func33, Try.ntmps33
      go_wp2_with fail
      refine (N1.out _).mono ?_
      rintro e w1 ⟨rfl, rfl⟩
      dsimp only
      go_wp2_with fail
      refine (N2.out _).mono ?_
      rintro e w1 ⟨rfl, rfl⟩
      dsimp only
      go_wp2
      go_ret
      exact ⟨rfl, HB.out⟩
    · rw [h2] at N2
      by_cases h3 : i = 0
      · subst h3
        go_enter Try.func33, Try.ntmps33
        go_wp2_with fail
        refine (N1.out _).mono ?_
        rintro e w1 ⟨rfl, rfl⟩
        dsimp only
        go_wp2_with fail
        refine (N2.out _).mono ?_
        rintro e w1 ⟨rfl, rfl⟩
        dsimp only
        go_wp2
        go_ret
        exact ⟨by cases h : (t == 0) <;> simp_all, HB.out⟩
      · have h3b : (i == 0) = false := beq_eq_false_iff_ne.2 h3
        go_enter Try.func33, Try.ntmps33
        go_wp2_with fail
        refine (N1.out _).mono ?_
        rintro e w1 ⟨rfl, rfl⟩
        dsimp only
        go_wp2_with fail
        refine (N2.out _).mono ?_
        rintro e w1 ⟨rfl, rfl⟩
        dsimp only
        go_wp2
        go_ret
        exact ⟨by cases h : (t == 0) <;> simp_all, HB.out⟩
set_option maxHeartbeats 2000000 in
theorem rMark_is (i t : Int) (w : World) : Calls Try.prog 35 #[.agg #[.int .i64 i, .int .i64 t]] w fun e w' => e = .returned (.bool (mkB i t)) ∧ Below w.heap.size w w' := by
  have N1 := hideIt (fun W => rwithin_is i 0 1000000 W)
  have N2 := hideIt (fun W => rwithin_is t 0 1000000 W)
  unfold mkB
  have HB := hideIt (below1 w (.cells #[.int .i64 i, .int .i64 t] 37))
  cases h1 : wiB i 0 1000000
  · rw [h1] at N1
    go_enter Try.func35, Try.ntmps35
    go_wp2_with fail
    refine (N1.out _).mono ?_
    rintro e w1 ⟨rfl, rfl⟩
    dsimp only
    go_wp2
    go_ret
    exact ⟨rfl, HB.out⟩
  · rw [h1] at N1
    cases h2 : wiB t 0 1000000
    · rw [h2] at N2
      go_enter Try.func35, Try.ntmps35
      go_wp2_with fail
      refine (N1.out _).mono ?_
      rintro e w1 ⟨rfl, rfl⟩
      dsimp only
      go_wp2_with fail
      refine (N2.out _).mono ?_
      rintro e w1 ⟨rfl, rfl⟩
      dsimp only
      go_wp2
      go_ret
      exact ⟨rfl, HB.out⟩
    · rw [h2] at N2
      by_cases h3 : i = 0
      · subst h3
        go_enter Try.func35, Try.ntmps35
        go_wp2_with fail
        refine (N1.out _).mono ?_
        rintro e w1 ⟨rfl, rfl⟩
        dsimp only
        go_wp2_with fail
        refine (N2.out _).mono ?_
        rintro e w1 ⟨rfl, rfl⟩
        dsimp only
        go_wp2
        go_ret
        exact ⟨by cases h : (t == 0) <;> simp_all, HB.out⟩
      · have h3b : (i == 0) = false := beq_eq_false_iff_ne.2 h3
        go_enter Try.func35, Try.ntmps35
        go_wp2_with fail
        refine (N1.out _).mono ?_
        rintro e w1 ⟨rfl, rfl⟩
        dsimp only
        go_wp2_with fail
        refine (N2.out _).mono ?_
        rintro e w1 ⟨rfl, rfl⟩
        dsimp only
        go_wp2
        go_ret
        exact ⟨by cases h : (t == 0) <;> simp_all, HB.out⟩
set_option maxHeartbeats 2000000 in
theorem less_is (ai aT bi bt : Int) (w : World) : Calls Try.prog 19 #[.agg #[.int .i64 ai, .int .i64 aT], .agg #[.int .i64 bi, .int .i64 bt]] w fun e w' => e = .returned (.bool (lessB ai aT bi bt)) ∧ Below w.heap.size w w' := by
  have HB := hideIt (below2 w (.cells #[.int .i64 ai, .int .i64 aT] 37) (.cells #[.int .i64 bi, .int .i64 bt] 37))
  unfold lessB
  by_cases h1 : aT < bt
  · go_enter Try.func19, Try.ntmps19
    go_wp2
    go_ret
    exact ⟨by simp [h1], HB.out⟩
  · by_cases h2 : aT = bt
    · subst h2
      go_enter Try.func19, Try.ntmps19
      go_wp2
      go_ret
      exact ⟨by simp, HB.out⟩
    · have h2b : (aT == bt) = false := beq_eq_false_iff_ne.2 h2
      go_enter Try.func19, Try.ntmps19
      go_wp2
      go_ret
      exact ⟨by simp [h1], HB.out⟩
set_option maxHeartbeats 2000000 in
theorem rless_is (ai aT bi bt : Int) (w : World) : Calls Try.prog 20 #[.agg #[.int .i64 ai, .int .i64 aT], .agg #[.int .i64 bi, .int .i64 bt]] w fun e w' => e = .returned (.bool (lessB ai aT bi bt)) ∧ Below w.heap.size w w' := by
  have HB := hideIt (below2 w (.cells #[.int .i64 ai, .int .i64 aT] 37) (.cells #[.int .i64 bi, .int .i64 bt] 37))
  unfold lessB
  by_cases h1 : aT < bt
  · go_enter Try.func20, Try.ntmps20
    go_wp2
    go_ret
    exact ⟨by simp [h1], HB.out⟩
  · by_cases h2 : aT = bt
    · subst h2
      go_enter Try.func20, Try.ntmps20
      go_wp2
      go_ret
      exact ⟨by simp, HB.out⟩
    · have h2b : (aT == bt) = false := beq_eq_false_iff_ne.2 h2
      go_enter Try.func20, Try.ntmps20
      go_wp2
      go_ret
      exact ⟨by simp [h1], HB.out⟩
set_option maxHeartbeats 2000000 in
theorem stands_is (t v r : Int) (g : Value) (x : Int) (w : World) : Calls Try.prog 36 #[.agg #[.int .i64 t, .int .i64 v, .int .i64 r, g], .int .i64 x] w fun e w' => e = .returned (.bool (t == x && r == 2)) ∧ Below w.heap.size w w' := by
  have HB := hideIt (below1 w (.cells #[.int .i64 t, .int .i64 v, .int .i64 r, g] 60))
  by_cases h : t = x
  · subst h
    go_enter Try.func36, Try.ntmps36
    go_wp2
    go_ret
    exact ⟨by simp, HB.out⟩
  · have hb : (t == x) = false := beq_eq_false_iff_ne.2 h
    go_enter Try.func36, Try.ntmps36
    go_wp2
    go_ret
    exact ⟨by simp [hb], HB.out⟩
def freeB (t v r qf qt : Int) : Bool := t == qt && r == 1 && (v == 0 || v == qf)
set_option maxHeartbeats 2000000 in
theorem free_is (t v r : Int) (g : Value) (qf qt qi qm : Int) (w : World) : Calls Try.prog 34 #[.agg #[.int .i64 t, .int .i64 v, .int .i64 r, g], .agg #[.int .i64 qf, .int .i64 qt, .int .i64 qi, .int .i64 qm]] w fun e w' => e = .returned (.bool (freeB t v r qf qt)) ∧ Below w.heap.size w w' := by
  have HB := hideIt (below2 w (.cells #[.int .i64 t, .int .i64 v, .int .i64 r, g] 60) (.cells #[.int .i64 qf, .int .i64 qt, .int .i64 qi, .int .i64 qm] 39))
  unfold freeB
  by_cases h : t = qt
  · subst h
    by_cases h1 : r = 1
    · subst h1
      by_cases h2 : v = 0
      · subst h2
        go_enter Try.func34, Try.ntmps34
        go_wp2
        go_ret
        exact ⟨by simp, HB.out⟩
      · have h2b : (v == 0) = false := beq_eq_false_iff_ne.2 h2
        go_enter Try.func34, Try.ntmps34
        go_wp2
        go_ret
        exact ⟨by simp [h2b], HB.out⟩
    · have h1b : (r == 1) = false := beq_eq_false_iff_ne.2 h1
      go_enter Try.func34, Try.ntmps34
      go_wp2
      go_ret
      exact ⟨by simp [h1b], HB.out⟩
  · have hb : (t == qt) = false := beq_eq_false_iff_ne.2 h
    go_enter Try.func34, Try.ntmps34
    go_wp2
    go_ret
    exact ⟨by simp [hb], HB.out⟩
end Go.Proofs.Ytkoecdcbopkkbaa
