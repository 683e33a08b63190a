/- What strings.Clone answers at this program: the same text; nothing that was in memory is changed: by the library's contract of what it calls. -/
import Derived.Test.YtagfolckodpioaaPkBuild
namespace Go.Proofs.Ytagfolckodpioaa
open Go.RowKit

theorem clone_any (s : ByteArray) (w : World) (hlim : s.size ≤ 60000) :
    Calls Try.prog 51 #[.string s] w fun e w' => e = .returned (.string s) ∧ Below w.heap.size w w' := by
  go_enter Try.func51, Try.ntmps51
  go_wp2_with fail
  refine (Any.stringslite_Clone layClone s _ (by omega)).mono ?_
  rintro e w1 ⟨rfl, hb⟩
  go_wp2
  go_ret
  exact ⟨rfl, hb⟩
end Go.Proofs.Ytagfolckodpioaa
