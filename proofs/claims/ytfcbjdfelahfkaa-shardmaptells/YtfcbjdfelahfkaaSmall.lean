/- The small calls of the map: bounds, keys, which is ahead, at home. -/
import Derived.Test.YtfcbjdfelahfkaaKit
namespace Go.Proofs.Ytfcbjdfelahfkaa
open Go.RowKit
set_option linter.all false
set_option maxHeartbeats 1000000 in
theorem within_is (x lo hi : Int) (w : World) : Calls Try.prog 24 #[.int .i64 x, .int .i64 lo, .int .i64 hi] w fun e w' => e = .returned (.bool (wiB x lo hi)) ∧ w' = w := by
  unfold wiB
  by_cases h : lo ≤ x
  · go_enter Try.func24, Try.ntmps24
    go_wp2
    go_ret
    exact ⟨by simp [h], rfl⟩
  · go_enter Try.func24, Try.ntmps24
    go_wp2
    go_ret
    exact ⟨by rw [decide_eq_false (by omega)]; rfl, rfl⟩
def keyB (k : KeyV) : Bool := if k.1 = 1 then wiB k.2 1 8 else if k.1 = 2 then wiB k.2 1 3 else false
def ahdB (a b : KeyV) : Bool := decide (a.1 < b.1) || (decide (a.1 = b.1) && decide (a.2 < b.2))
set_option maxHeartbeats 2000000 in
theorem isKey_is (k n : Int) (w : World) : Calls Try.prog 23 #[.agg #[.int .i64 k, .int .i64 n]] w fun e w' => e = .returned (.bool (keyB (k, n))) ∧ Below w.heap.size w w' := by
  have N1 := hideIt (fun W => within_is n 1 8 W)
  have N2 := hideIt (fun W => within_is n 1 3 W)
  have HB := hideIt (below1 w (.cells #[.int .i64 k, .int .i64 n] 24))
  simp only [keyB]
  by_cases h1 : k = 1
  · subst h1
    rw [if_pos rfl]
    go_enter Try.func23, Try.ntmps23
    go_wp2_with fail
    refine (N1.out _).mono ?_
    rintro e w1 ⟨rfl, rfl⟩
    dsimp only
    go_wp2
    go_ret
    exact ⟨rfl, HB.out⟩
  · by_cases h2 : k = 2
    · subst h2
      rw [if_neg h1, if_pos rfl]
      go_enter Try.func23, Try.ntmps23
      go_wp2_with fail
      refine (N2.out _).mono ?_
      rintro e w1 ⟨rfl, rfl⟩
      dsimp only
      go_wp2
      go_ret
      exact ⟨rfl, HB.out⟩
    · rw [if_neg h1, if_neg h2]
      go_enter Try.func23, Try.ntmps23
      go_wp2
      go_ret
      exact ⟨rfl, HB.out⟩
set_option maxHeartbeats 2000000 in
theorem rKey_is (k n : Int) (w : World) : Calls Try.prog 25 #[.agg #[.int .i64 k, .int .i64 n]] w fun e w' => e = .returned (.bool (keyB (k, n))) ∧ Below w.heap.size w w' := by
  have HB := hideIt (below1 w (.cells #[.int .i64 k, .int .i64 n] 24))
  simp only [keyB, wiB]
  by_cases h1 : k = 1
  · subst h1
    rw [if_pos rfl]
    by_cases h2 : 1 ≤ n
    · go_enter Try.func25, Try.ntmps25
      go_wp2
      go_ret
      exact ⟨by simp [h2], HB.out⟩
    · go_enter Try.func25, Try.ntmps25
      go_wp2
      go_ret
      exact ⟨by rw [decide_eq_false (by omega)]; rfl, HB.out⟩
  · by_cases h2 : k = 2
    · subst h2
      rw [if_neg h1, if_pos rfl]
      by_cases h2 : 1 ≤ n
      · go_enter Try.func25, Try.ntmps25
        go_wp2
        go_ret
        exact ⟨by simp [h2], HB.out⟩
      · go_enter Try.func25, Try.ntmps25
        go_wp2
        go_ret
        exact ⟨by rw [decide_eq_false (by omega)]; rfl, HB.out⟩
    · rw [if_neg h1, if_neg h2]
      go_enter Try.func25, Try.ntmps25
      go_wp2
      go_ret
      exact ⟨rfl, HB.out⟩
set_option maxHeartbeats 4000000 in
theorem isAhead_is (a b c d : Int) (w : World) : Calls Try.prog 26 #[.agg #[.int .i64 a, .int .i64 b], .agg #[.int .i64 c, .int .i64 d]] w fun e w' => e = .returned (.bool (ahdB (a, b) (c, d))) ∧ Below w.heap.size w w' := by
  have HB := hideIt (below2 w (.cells #[.int .i64 a, .int .i64 b] 24) (.cells #[.int .i64 c, .int .i64 d] 24))
  simp only [ahdB]
  by_cases h : a < c
  · go_enter Try.func26, Try.ntmps26
    go_wp2
    go_ret
    exact ⟨by simp [h], HB.out⟩
  · by_cases h2 : a = c
    · subst h2
      go_enter Try.func26, Try.ntmps26
      go_wp2
      go_ret
      exact ⟨by simp, HB.out⟩
    · go_enter Try.func26, Try.ntmps26
      go_wp2
      go_ret
      exact ⟨by simp [h, h2], HB.out⟩
set_option maxHeartbeats 4000000 in
theorem rLess_is (a b c d : Int) (w : World) : Calls Try.prog 22 #[.agg #[.int .i64 a, .int .i64 b], .agg #[.int .i64 c, .int .i64 d]] w fun e w' => e = .returned (.bool (ahdB (a, b) (c, d))) ∧ Below w.heap.size w w' := by
  have HB := hideIt (below2 w (.cells #[.int .i64 a, .int .i64 b] 24) (.cells #[.int .i64 c, .int .i64 d] 24))
  simp only [ahdB]
  by_cases h : a < c
  · go_enter Try.func22, Try.ntmps22
    go_wp2
    go_ret
    exact ⟨by simp [h], HB.out⟩
  · by_cases h2 : a = c
    · subst h2
      go_enter Try.func22, Try.ntmps22
      go_wp2
      go_ret
      exact ⟨by simp, HB.out⟩
    · go_enter Try.func22, Try.ntmps22
      go_wp2
      go_ret
      exact ⟨by simp [h, h2], HB.out⟩
/-- Where a key is at first. -/
def homI (k : KeyV) (g : Int) : Int := if keyB k && wiB g 1 4 then k.2 % g else 0
def homE (k : KeyV) (g : Int) : Int := if keyB k && wiB g 1 4 then 0 else 1
theorem key_pos {k n : Int} (h : keyB (k, n) = true) : 1 ≤ n ∧ n ≤ 8 := by
  simp only [keyB, wiB] at h
  split at h
  · simpa using h
  · split at h
    · have := of_decide_eq_true h
      omega
    · cases h
set_option maxHeartbeats 4000000 in
theorem home_is (k n g : Int) (w : World) : Calls Try.prog 14 #[.agg #[.int .i64 k, .int .i64 n], .int .i64 g] w fun e w' => e = .returned (.tuple #[.int .i64 (homI (k, n) g), .int .i64 (homE (k, n) g)]) ∧ Below w.heap.size w w' := by
  have N1 := hideIt (fun W => isKey_is k n W)
  have N2 := hideIt (fun W => within_is g 1 4 W)
  have HB := hideIt (below1 w (.cells #[.int .i64 k, .int .i64 n] 24))
  simp only [homI, homE]
  cases h1 : keyB (k, n)
  · rw [h1] at N1
    simp only [Bool.false_and, Bool.false_eq_true, if_false]
    go_enter Try.func14, Try.ntmps14
    go_wp2_with fail
    refine (N1.out _).mono ?_
    rintro e w1 ⟨rfl, hb⟩
    dsimp only
    go_wp2
    go_ret2
    exact ⟨rfl, below_via HB.out hb⟩
  · rw [h1] at N1
    have hn := key_pos h1
    cases h2 : wiB g 1 4
    · rw [h2] at N2
      simp only [Bool.and_false, Bool.false_eq_true, if_false]
      go_enter Try.func14, Try.ntmps14
      go_wp2_with fail
      refine (N1.out _).mono ?_
      rintro e w1 ⟨rfl, hb⟩
      dsimp only
      go_wp2_with fail
      refine (N2.out _).mono ?_
      rintro e w1 ⟨rfl, rfl⟩
      dsimp only
      go_wp2
      go_ret2
      exact ⟨rfl, below_via HB.out hb⟩
    · rw [h2] at N2
      have hg : 1 ≤ g ∧ g ≤ 4 := by simpa [wiB] using h2
      simp only [Bool.and_self, if_true]
      have hx : ∀ w1, Below (w.alloc (.cells #[.int .i64 k, .int .i64 n] 24)).heap.size (w.alloc (.cells #[.int .i64 k, .int .i64 n] 24)) w1 → w1.cell? ⟨w.heap.size, 1, none⟩ = some (.int .i64 n) := fun w1 h => box_cell h 1
      have HX := hideIt hx
      clear hx
      go_enter Try.func14, Try.ntmps14
      go_wp2_with fail
      refine (N1.out _).mono ?_
      rintro e w1 ⟨rfl, hb⟩
      dsimp only
      have hc := HX.out _ hb
      have HB2 := hideIt (below_via HB.out hb)
      clear hb
      go_wp2_with fail
      refine (N2.out _).mono ?_
      rintro e w1 ⟨rfl, rfl⟩
      dsimp only
      obtain ⟨hg1, hg2⟩ := hg
      obtain ⟨hn1, hn2⟩ := hn
      go_wp2
      go_ret2
      exact ⟨rfl, HB2.out⟩
set_option maxHeartbeats 4000000 in
theorem rHome_is (k n g : Int) (w : World) : Calls Try.prog 15 #[.agg #[.int .i64 k, .int .i64 n], .int .i64 g] w fun e w' => e = .returned (.tuple #[.int .i64 (homI (k, n) g), .int .i64 (homE (k, n) g)]) ∧ Below w.heap.size w w' := by
  have N1 := hideIt (fun W => rKey_is k n W)
  have HB := hideIt (below1 w (.cells #[.int .i64 k, .int .i64 n] 24))
  simp only [homI, homE]
  cases h1 : keyB (k, n)
  · rw [h1] at N1
    simp only [Bool.false_and, Bool.false_eq_true, if_false]
    go_enter Try.func15, Try.ntmps15
    go_wp2_with fail
    refine (N1.out _).mono ?_
    rintro e w1 ⟨rfl, hb⟩
    dsimp only
    go_wp2
    go_ret2
    exact ⟨rfl, below_via HB.out hb⟩
  · rw [h1] at N1
    have hn := key_pos h1
    by_cases h2 : g < 1
    · rw [show wiB g 1 4 = false by simp [wiB]; omega]
      simp only [Bool.and_false, Bool.false_eq_true, if_false]
      go_enter Try.func15, Try.ntmps15
      go_wp2_with fail
      refine (N1.out _).mono ?_
      rintro e w1 ⟨rfl, hb⟩
      dsimp only
      go_wp2
      go_ret2
      exact ⟨rfl, below_via HB.out hb⟩
    · by_cases h3 : 4 < g
      · rw [show wiB g 1 4 = false by simp [wiB]; omega]
        simp only [Bool.and_false, Bool.false_eq_true, if_false]
        go_enter Try.func15, Try.ntmps15
        go_wp2_with fail
        refine (N1.out _).mono ?_
        rintro e w1 ⟨rfl, hb⟩
        dsimp only
        go_wp2
        go_ret2
        exact ⟨rfl, below_via HB.out hb⟩
      · rw [show wiB g 1 4 = true by simp [wiB]; omega]
        have hg1 : 1 ≤ g := by omega
        have hg2 : g ≤ 4 := by omega
        simp only [Bool.and_self, if_true]
        have HX := hideIt (fun w1 (h : Below (w.alloc (.cells #[.int .i64 k, .int .i64 n] 24)).heap.size (w.alloc (.cells #[.int .i64 k, .int .i64 n] 24)) w1) => box_cell h 1)
        go_enter Try.func15, Try.ntmps15
        go_wp2_with fail
        refine (N1.out _).mono ?_
        rintro e w1 ⟨rfl, hb⟩
        dsimp only
        have hc : w1.cell? ⟨w.heap.size, 1, none⟩ = some (.int .i64 n) := HX.out _ hb
        have HB2 := hideIt (below_via HB.out hb)
        clear hb
        obtain ⟨hn1, hn2⟩ := hn
        go_wp2
        go_ret2
        exact ⟨rfl, HB2.out⟩
end Go.Proofs.Ytfcbjdfelahfkaa
