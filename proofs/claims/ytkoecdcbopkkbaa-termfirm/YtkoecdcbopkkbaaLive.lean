/- What live answers: true. -/
import Derived.Test.YtkoecdcbopkkbaaGrant
namespace Go.Proofs.Ytkoecdcbopkkbaa
open Go.RowKit
theorem iteB (c : Prop) [Decidable c] (b : Bool) (w : World) : (if c then Result.ok (Value.bool b) w else Result.ok (Value.bool false) w) = Result.ok (Value.bool (decide c && b)) w := by
  by_cases h : c <;> simp [h]
set_option maxHeartbeats 1000000 in
theorem eq23 (a b c d : Int) (w : World) : (binOp .eql 23 (.agg #[.int .i64 a, .int .i64 b]) (.agg #[.int .i64 c, .int .i64 d])).run Try.prog w = .ok (.bool (a == c && b == d)) w := by
  simp [go_sem]
  simp only [iteB]
  congr 2
  rw [Bool.eq_iff_iff]
  simp
set_option maxHeartbeats 1000000 in
theorem neq23 (a b c d : Int) (w : World) : (binOp .neq 23 (.agg #[.int .i64 a, .int .i64 b]) (.agg #[.int .i64 c, .int .i64 d])).run Try.prog w = .ok (.bool (!(a == c && b == d))) w := by
  simp [go_sem]
  by_cases h : a = c <;> by_cases k : b = d <;> simp [h, k]
set_option maxHeartbeats 1000000 in
theorem neq37 (a b c d : Int) (w : World) : (binOp .neq 37 (.agg #[.int .i64 a, .int .i64 b]) (.agg #[.int .i64 c, .int .i64 d])).run Try.prog w = .ok (.bool (!(a == c && b == d))) w := by
  simp [go_sem]
  by_cases h : a = c <;> by_cases k : b = d <;> simp [h, k]
set_option maxHeartbeats 8000000 in
set_option maxRecDepth 100000 in
theorem live_is (w : World) : Calls Try.prog 16 #[] w fun e w' => e = .returned (.bool true) ∧ Below w.heap.size w w' := by
  have H1 := hideIt (begin_is ⟨0, 0, 1, []⟩ (.slice none 0 0) 2 3 w (GotAt.nil _ _ _))
  have H2 := hideIt (fun W g hg => count_is ⟨1, 2, 2, [2]⟩ g 3 1 true 3 W hg)
  have H3 := hideIt (fun W => grant_is ⟨1, 3, 1, []⟩ (.slice none 0 0) 1 2 0 0 0 0 W (GotAt.nil _ _ _))
  rw [show beginL ⟨0, 0, 1, []⟩ 2 3 = (⟨1, 2, 2, [2]⟩, 0) by kernel_rfl] at H1
  rw [show countL ⟨1, 2, 2, [2]⟩ 3 1 true 3 = (⟨1, 2, 3, [2, 3]⟩, 0) by kernel_rfl] at H2
  rw [show grantL ⟨1, 3, 1, []⟩ 1 2 0 0 0 0 = (⟨2, 1, 1, []⟩, true, 0) by kernel_rfl] at H3
  unfold balV at H1 H2 H3
  simp only at H1 H2 H3
  have HQ := fun W => eq23 2 1 2 1 W
  go_enter Try.func16, Try.ntmps16
  go_wp2_with fail
  refine H1.out.mono ?_
  rintro e w1 ⟨g1, rfl, h1, h2⟩
  dsimp only
  obtain ⟨a1, c1, rfl⟩ := own_len h1
  simp only [List.length_cons, List.length_nil, Nat.zero_add] at h1 ⊢
  unfold balV
  simp only
  have G1 := hideIt ((own_got (l := [2]) h1 (by simp)).keep (below1 w1 (.cells #[.int .i64 1, .int .i64 2, .int .i64 2, .slice a1 1 c1] 26)))
  have B1 := hideIt (below_via h2 (below1 w1 (.cells #[.int .i64 1, .int .i64 2, .int .i64 2, .slice a1 1 c1] 26)))
  clear h1 h2 H1
  go_wp2_with fail
  refine (H2.out _ _ G1.out).mono ?_
  rintro e w2 ⟨g2, rfl, h1, h2⟩
  dsimp only
  obtain ⟨a2, c2, rfl⟩ := own_len h1
  simp only [List.length_cons, List.length_nil, Nat.zero_add] at h1 ⊢
  unfold balV
  simp only
  have E1 := hideIt ((h2.block w1.heap.size (by simp)).trans (heap_alloc_new w1 _))
  have B2 := hideIt (below_via (below_via B1.out h2) (below1 w2 (.cells #[.int .i64 1, .int .i64 2, .int .i64 3, .slice a2 2 c2] 26)))
  have s1 : Hid (w1.heap.size < w2.heap.size) := (Array.getElem?_eq_some_iff.1 E1.out).1
  clear h1 h2 H2 G1 B1
  go_wp2_with fail
  refine (H3.out _).mono ?_
  rintro e w3 ⟨g3, rfl, h1, h2⟩
  dsimp only
  obtain ⟨a3, c3, rfl⟩ := own_len h1
  simp only [List.length_nil] at h1 ⊢
  unfold balV
  simp only
  have E2 := hideIt ((h2.block w2.heap.size (by simp)).trans (heap_alloc_new w2 _))
  have E3 := hideIt (((h2.block w1.heap.size (by have := s1.out; simp; omega)).trans (heap_alloc_old w2 _ s1.out)).trans E1.out)
  have B3 := hideIt (below_via (below_via B2.out h2) (below1 w3 (.cells #[.int .i64 2, .int .i64 1, .int .i64 1, .slice a3 0 c3] 26)))
  have l1 : w1.heap.size < w3.heap.size := (Array.getElem?_eq_some_iff.1 E3.out).1
  have l2 : w2.heap.size < w3.heap.size := (Array.getElem?_eq_some_iff.1 E2.out).1
  have k1 : ∀ o, (w3.alloc o).cell? ⟨w1.heap.size, 2, none⟩ = some (.int .i64 2) := fun o => by rw [cell_at ((heap_alloc_old w3 o l1).trans E3.out)]; rfl
  have k2 : ∀ o, (w3.alloc o).cell? ⟨w2.heap.size, 2, none⟩ = some (.int .i64 3) := fun o => by rw [cell_at ((heap_alloc_old w3 o l2).trans E2.out)]; rfl
  have k3 : ∀ o, (w3.alloc o).cell? ⟨w2.heap.size, 3, none⟩ = some (.slice a2 2 c2) := fun o => by rw [cell_at ((heap_alloc_old w3 o l2).trans E2.out)]; rfl
  clear h1 h2 H3 B2 E1 E2 E3 s1 l1 l2
  go_wp2
  go_ret
  exact ⟨rfl, B3.out⟩
end Go.Proofs.Ytkoecdcbopkkbaa
