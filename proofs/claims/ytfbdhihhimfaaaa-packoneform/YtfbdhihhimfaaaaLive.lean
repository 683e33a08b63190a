/- What the statements' anchor 'live' answers: true. -/
import Derived.Test.YtfbdhihhimfaaaaFold
namespace Go.Proofs.Ytfbdhihhimfaaaa
open Go.RowKit

theorem live1 : tkU [172, 2] 0 = (300, 2, 0) := by decide +kernel
theorem live2 : tkI [127] 0 = (-64, 1, 0) := by decide +kernel
theorem live3 : uintL 300 = [172, 2] := by decide +kernel
theorem live4 : uintL (foldN (-64)) = [127] := by decide +kernel
theorem sz2 : (⟨#[172, 2]⟩ : ByteArray).size ≤ maxLen := by decide +kernel
theorem sz1 : (⟨#[127]⟩ : ByteArray).size ≤ maxLen := by decide +kernel
theorem live_t1 (w : World) : Calls Try.prog 18 #[.string ⟨#[172, 2]⟩, .int .i64 0] w fun e w' => e = .returned (.tuple #[.int .u64 300, .int .i64 2, .int .i64 0]) ∧ w' = w := by
  refine (take_any ⟨#[172, 2]⟩ 0 w sz2).mono ?_
  rintro e w' ⟨rfl, rfl⟩
  exact ⟨by show tup (tkU [172, 2] 0) = _; rw [live1]; rfl, rfl⟩
theorem live_t2 (w : World) : Calls Try.prog 20 #[.string ⟨#[127]⟩, .int .i64 0] w fun e w' => e = .returned (.tuple #[.int .i64 (-64), .int .i64 1, .int .i64 0]) ∧ w' = w := by
  refine (takeInt_any ⟨#[127]⟩ 0 w sz1).mono ?_
  rintro e w' ⟨rfl, rfl⟩
  exact ⟨by show tupI (tkI [127] 0) = _; rw [live2]; rfl, rfl⟩
theorem live_u (w : World) : Calls Try.prog 13 #[.int .u64 300] w fun e w' => e = .returned (.string ⟨#[172, 2]⟩) ∧ Below w.heap.size w w' := by
  refine (uint_any 300 w (by decide)).mono ?_
  rintro e w' ⟨rfl, hb⟩
  exact ⟨by rw [live3], hb⟩
theorem live_i (w : World) : Calls Try.prog 15 #[.int .i64 (-64)] w fun e w' => e = .returned (.string ⟨#[127]⟩) ∧ Below w.heap.size w w' := by
  refine (int_any (-64) w (by decide) (by decide)).mono ?_
  rintro e w' ⟨rfl, hb⟩
  exact ⟨by rw [live4], hb⟩
set_option maxHeartbeats 1000000 in
theorem live_any (w : World) : Calls Try.prog 12 #[] w fun e w' => e = .returned (.bool true) ∧ Below w.heap.size w w' := by
  go_enter Try.func12, Try.ntmps12
  go_wp2_with fail
  refine (live_t1 _).mono ?_
  rintro e w' ⟨rfl, rfl⟩
  go_wp2_with fail
  refine (live_t2 _).mono ?_
  rintro e w' ⟨rfl, rfl⟩
  go_wp2_with fail
  refine (live_u _).mono ?_
  rintro e w1 ⟨rfl, hb1⟩
  go_wp2_with fail
  refine (live_i _).mono ?_
  rintro e w2 ⟨rfl, hb2⟩
  go_wp2
  go_ret
  exact ⟨rfl, hb1.trans (hb2.mono hb1.size)⟩
end Go.Proofs.Ytfbdhihhimfaaaa
