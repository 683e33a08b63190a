/- live, walked. -/
import Derived.Test.YtfcbjdfelahfkaaMapP
namespace Go.Proofs.Ytfcbjdfelahfkaa
open Go.RowKit
set_option linter.all false
theorem lv1 : lrnR [] ((1, 5), (0, 1)) = [((1, 5), (0, 1))] ∧ lrnE [] ((1, 5), (0, 1)) = 0 := by decide
theorem lv2 : lrnR [((1, 5), (0, 1))] ((1, 5), (2, 0)) = [((1, 5), (0, 1))] ∧ lrnE [((1, 5), (0, 1))] ((1, 5), (2, 0)) = 0 := by decide
theorem lv3 : owrP [((1, 5), (0, 1))] (1, 5) 3 = ((1, 5), (0, 1)) ∧ owrE [((1, 5), (0, 1))] (1, 5) 3 = 0 := by decide
theorem lv4 : homI (1, 5) 3 = 2 ∧ homE (1, 5) 3 = 0 := by decide
set_option maxHeartbeats 8000000 in
set_option maxRecDepth 100000 in
theorem live_is (w : World) : Calls Try.prog 9 #[] w fun e w' => e = .returned (.bool true) ∧ Below w.heap.size w w' := by
  have H1 : Hid (∀ W, Calls Try.prog 14 #[.agg #[.int .i64 1, .int .i64 5], .int .i64 3] W fun e w' => e = .returned (.tuple #[.int .i64 2, .int .i64 0]) ∧ Below W.heap.size W w') := fun W => by
    have := home_is 1 5 3 W
    rw [lv4.1, lv4.2] at this
    exact this
  have H2 : Hid (∀ W, Calls Try.prog 8 #[.slice none 0 0, .agg #[.int .i64 1, .int .i64 5, .int .i64 0, .int .i64 1]] W (LrnBack [((1, 5), (0, 1))] 0 W)) := fun W => by
    have := learn_is (.slice none 0 0) [] 1 5 0 1 W (SGot.nil _ _ _ _ _ _ (Nat.zero_le _))
    rw [lv1.1, lv1.2] at this
    exact this
  have H3 : Hid (∀ v W, Plas W v [((1, 5), (0, 1))] → Calls Try.prog 8 #[v, .agg #[.int .i64 1, .int .i64 5, .int .i64 2, .int .i64 0]] W (LrnBack [((1, 5), (0, 1))] 0 W)) := fun v W h => by
    have := learn_is v [((1, 5), (0, 1))] 1 5 2 0 W h
    rw [lv2.1, lv2.2] at this
    exact this
  have H4 : Hid (∀ v W, Plas W v [((1, 5), (0, 1))] → Calls Try.prog 11 #[v, .agg #[.int .i64 1, .int .i64 5], .int .i64 3] W (PlaBack ((1, 5), (0, 1)) 0 W)) := fun v W h => by
    have := owner_is v [((1, 5), (0, 1))] 1 5 3 W h
    rw [lv3.1, lv3.2] at this
    exact this
  have HB0 := hideIt (below1 w (.cells #[.int .i64 1, .int .i64 5] 24))
  have HX0 := hideIt (heap_alloc_new w (.cells #[.int .i64 1, .int .i64 5] 24))
  have q1 := fun W => eq26 1 5 0 1 1 5 0 1 W
  go_enter Try.func9, Try.ntmps9
  go_wp2_with fail
  refine (H1.out _).mono ?_
  rintro e w1 ⟨rfl, hb⟩
  dsimp only
  have HB1 := hideIt (below_via HB0.out hb)
  have hX1 := (hb.block _ (by simp)).trans HX0.out
  have HX1 := hideIt hX1
  obtain ⟨k0, k1, kl⟩ := two_at hX1
  clear hb hX1 HX0 HB0 H1
  go_wp2_with fail
  refine (H2.out _).mono ?_
  rintro e w2 ⟨a2, c2, rfl, ho, hb⟩
  dsimp only
  have G2 := hideIt (own_sgot (bytes := 32) ho (by simp))
  have HB2 := hideIt (below_via HB1.out hb)
  have hX2 := (hb.block _ kl).trans HX1.out
  have HX2 := hideIt hX2
  clear k0 k1 kl
  obtain ⟨k0, k1, kl⟩ := two_at hX2
  clear hb ho hX2 HX1 HB1 H2
  go_wp2_with fail
  refine (H3.out _ _ G2.out).mono ?_
  rintro e w3 ⟨a3, c3, rfl, ho, hb⟩
  dsimp only
  have G3 := hideIt (own_sgot (bytes := 32) ho (by simp))
  have HB3 := hideIt (below_via HB2.out hb)
  have hX3 := (hb.block _ kl).trans HX2.out
  have HX3 := hideIt hX3
  clear k0 k1 kl
  obtain ⟨k0, k1, kl⟩ := two_at hX3
  clear hb ho hX3 HX2 HB2 H3 G2
  go_wp2_with fail
  refine (H4.out _ _ G3.out).mono ?_
  rintro e w4 ⟨rfl, hb⟩
  dsimp only
  have HB4 := hideIt (below_via HB3.out hb)
  have hX4 := (hb.block _ kl).trans HX3.out
  clear k0 k1 kl
  obtain ⟨k0, k1, kl⟩ := two_at hX4
  have HB5 := hideIt (below_via HB4.out (below1 w4 (.cells #[.int .i64 1, .int .i64 5, .int .i64 0, .int .i64 1] 26)))
  clear hb hX4 HX3 HB3 H4 G3
  go_wp2
  go_ret
  exact ⟨rfl, HB5.out⟩
end Go.Proofs.Ytfcbjdfelahfkaa
