/- What seal.Frame answers: the frame of a text. -/
import Derived.Test.YtagfolckodpioaaSeWord
import Derived.Test.YtagfolckodpioaaPkText
namespace Go.Proofs.Ytagfolckodpioaa
open Go.RowKit

/-- The frame of a text: its length, the sum of both, the text. -/
def frameL (l : List UInt8) : List UInt8 := wordL l.length ++ wordL (sumN (wordL l.length ++ l)) ++ l
theorem wordL_len (n : Nat) : (wordL n).length = 4 := rfl
theorem frameL_len (l : List UInt8) : (frameL l).length = 8 + l.length := by simp [frameL, wordL_len]; omega
theorem sumN_lt' (l : List UInt8) : sumN l < 4294967296 := sumN_lt l
set_option maxHeartbeats 1000000 in
set_option maxRecDepth 100000 in
theorem frame_in (s : ByteArray) (w : World) (hs : s.size ≤ 70000) :
    Calls Try.prog 34 #[.string s] w fun e w' => e = .returned (.tuple #[.string ⟨(frameL s.data.toList).toArray⟩, .int .i64 0]) ∧ Below w.heap.size w w' := by
  have h' : ¬ ((70000 : Int) < s.size) := by omega
  have hw := wordL_len s.size
  have hw2 := wordL_len (sumN (wordL s.size ++ s.data.toList))
  have hcat : ¬ 9223372036854775807 < 4 + 4 + s.size := by omega
  have hcat2 : ¬ 9223372036854775807 < 8 + s.size := by omega
  have hsum := sumN_lt' ((⟨(wordL s.size).toArray⟩ : ByteArray).data.toList ++ s.data.toList)
  go_enter Try.func34, Try.ntmps34
  go_wp2_with fail
  refine (word_any s.size _ (by omega)).mono ?_
  rintro e w1 ⟨rfl, hb⟩
  dsimp only
  go_wp2_with fail
  refine (sum2_any w1.heap.size ⟨(wordL s.size).toArray⟩ s _ (by decide +kernel : (4:Nat) ≤ 9223372036854775807) (by omega) (by simp) (by simp)).mono ?_
  rintro e w2 ⟨rfl, rfl⟩
  dsimp only
  go_wp2_with fail
  refine (word_any _ _ hsum).mono ?_
  rintro e w2 ⟨rfl, hb2⟩
  dsimp only
  go_wp2
  go_ret2
  refine ⟨?_, hb.trans (((Below.refl _ _).alloc hb.size _).trans (hb2.mono (by have := hb.size; simp; omega)))⟩
  rw [cat_eq, cat_eq]
  simp [frameL]
end Go.Proofs.Ytagfolckodpioaa
