/- A new wheel. -/
import Derived.Test.YtebinckkghmkhaaWheel
namespace Go.Proofs.Ytebinckkghmkhaa
open Go.RowKit
/-- The cells of a wheel that nobody has written. -/
def zer : Array Value := (List.replicate 2 (Value.int .i64 0) ++ List.replicate 1000 (Value.slice none 0 0) ++ List.replicate 100 (Value.int .i64 0)).toArray
set_option maxRecDepth 1000000 in
theorem zero48 (w : World) : (zeroValue 48).run Try.prog w = .ok (.agg zer) w := by
  kernel_rfl
theorem zer_size : zer.size = 1102 := by
  unfold zer
  rw [List.size_toArray, List.length_append, List.length_append, List.length_replicate, List.length_replicate, List.length_replicate]
theorem zer_ne : zer ≠ #[] := fun e => by have := zer_size; rw [e] at this; cases this
theorem at3 (a b c : Value) (l m n i : Nat) (h : i < l + m + n) : (List.replicate l a ++ List.replicate m b ++ List.replicate n c)[i]? = some (if i < l then a else if i < l + m then b else c) := by
  by_cases h1 : i < l
  · rw [if_pos h1, List.getElem?_append_left (by simp; omega), List.getElem?_append_left (by simpa using h1), List.getElem?_replicate, if_pos h1]
  · rw [if_neg h1]
    by_cases h2 : i < l + m
    · rw [if_pos h2, List.getElem?_append_left (by simp; omega), List.getElem?_append_right (by simp; omega), List.getElem?_replicate, if_pos (by simp; omega)]
    · rw [if_neg h2, List.getElem?_append_right (by simp; omega), List.getElem?_replicate, if_pos (by simp; omega)]
theorem zer_at (i : Nat) (h : i < 1102) : zer[i]? = some (if 2 ≤ i ∧ i < 1002 then .slice none 0 0 else .int .i64 0) := by
  unfold zer
  rw [List.getElem?_toArray, at3 _ _ _ _ _ _ _ (by omega)]
  by_cases h1 : i < 2
  · rw [if_pos h1, if_neg (by omega)]
  · by_cases h2 : i < 2 + 1000
    · rw [if_neg h1, if_pos h2, if_pos (by omega)]
    · rw [if_neg h1, if_neg h2, if_neg (by omega)]
set_option maxHeartbeats 1000000 in
theorem new_good (x : Nat) (w : World) (h1 : 1 ≤ x) (h2 : x ≤ 100) :
    Calls Try.prog 6 #[.int .i64 (x : Int)] w fun e w' => ∃ p, e = .returned (.tuple #[.pointer (some ⟨p, 0, none⟩), .int .i64 0]) ∧ WheelAt w' (fun k => k = p) p ⟨x, 0, fun _ => 0⟩ ∧ Below w.heap.size w w' ∧ w.heap.size ≤ p := by
  have hz := zero48
  have hzn := zer_ne
  have hzs := zer_size
  have HZ := hideIt zer_at
  generalize zer = z at *
  go_enter Try.func6, Try.ntmps6
  go_wp2
  go_ret2
  refine ⟨w.heap.size, rfl, ⟨fun _ => [], fun _ => none, z.setIfInBounds 0 (.int .i64 (x : Int)), ⟨?_, by simpa using hzs, ?_, ?_, fun a ha => ?_, fun k hk => ?_, fun _ _ => rfl, fun _ _ _ _ e => (by cases e), fun _ _ _ _ _ _ _ _ _ e => (by cases e), rfl, fun k hk => (by simp [hk])⟩, ⟨h1, h2, fun _ => (by simp), fun _ e => absurd rfl e, fun _ _ => (by simp), fun _ _ _ => (by simp)⟩⟩, (Below.refl _ _).alloc (Nat.le_refl _) _, Nat.le_refl _⟩
  · exact heap_alloc_new w _
  · rw [Array.getElem?_setIfInBounds_self_of_lt (by omega)]
  · rw [Array.getElem?_setIfInBounds_ne (by omega), HZ.out 1 (by omega), if_neg (by omega)]; rfl
  · rw [Array.getElem?_setIfInBounds_ne (by omega), HZ.out _ (by omega), if_pos (by omega)]; rfl
  · rw [Array.getElem?_setIfInBounds_ne (by omega), HZ.out _ (by omega), if_neg (by omega)]; rfl
end Go.Proofs.Ytebinckkghmkhaa
