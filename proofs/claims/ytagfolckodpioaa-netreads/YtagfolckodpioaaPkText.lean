/- What Text answers, of package pack and of the document: the form of a text. -/
import Derived.Test.YtagfolckodpioaaPkUint
namespace Go.Proofs.Ytagfolckodpioaa
open Go.RowKit

set_option maxHeartbeats 1000000 in
theorem cat_eq (l : List UInt8) (s : ByteArray) : (⟨l.toArray⟩ : ByteArray) ++ s = ⟨(l ++ s.data.toList).toArray⟩ := by
  apply ByteArray.ext
  simp
set_option maxHeartbeats 1000000 in
theorem text_in (s : ByteArray) (w : World) (hs : s.size ≤ 60000) :
    Calls Try.prog 86 #[.string s] w fun e w' => e = .returned (.tuple #[.string ⟨(uintL s.size ++ s.data.toList).toArray⟩, .int .i64 0]) ∧ Below w.heap.size w w' := by
  have h' : ¬ ((60000 : Int) < s.size) := by omega
  have hcat : ¬ 9223372036854775807 < (uintL s.size).length + s.size := by have := uintL_len s.size; omega
  go_enter Try.func86, Try.ntmps86
  go_wp2_with fail
  refine (uint_any s.size _ (by omega)).mono ?_
  rintro e w1 ⟨rfl, hb⟩
  go_wp2
  go_ret2
  rw [cat_eq]
  exact ⟨rfl, hb⟩
set_option maxHeartbeats 1000000 in
theorem text_out (s : ByteArray) (w : World) (hs : 60000 < s.size) (_hm : s.size ≤ 9223372036854775807) :
    Calls Try.prog 86 #[.string s] w fun e w' => e = .returned (.tuple #[.string ⟨#[]⟩, .int .i64 2]) ∧ Below w.heap.size w w' := by
  have h' : (60000 : Int) < s.size := by omega
  go_enter Try.func86, Try.ntmps86
  go_wp2
  go_ret2
  exact ⟨rfl, Below.refl _ _⟩
/-- The form of a text, and the error beside it. -/
def textL (l : List UInt8) : List UInt8 := if l.length ≤ 60000 then uintL l.length ++ l else []
def textE (l : List UInt8) : Nat := if l.length ≤ 60000 then 0 else 2
theorem text_any (s : ByteArray) (w : World) (hm : s.size ≤ maxLen) :
    Calls Try.prog 86 #[.string s] w fun e w' => e = .returned (.tuple #[.string ⟨(textL s.data.toList).toArray⟩, .int .i64 (textE s.data.toList : Int)]) ∧ Below w.heap.size w w' := by
  unfold maxLen at hm
  have hl : s.data.toList.length = s.size := by simp
  by_cases h : s.size ≤ 60000
  · have := text_in s w h
    simpa [textL, textE, hl, h] using this
  · have := text_out s w (by omega) (by omega)
    simpa [textL, textE, hl, h] using this
end Go.Proofs.Ytagfolckodpioaa
