/- What strings.Clone answers at this program: the same text; nothing that was in memory is changed: by the library's contract of what it calls. -/
import Derived.Test.YtfbdhihhimfaaaaBuild
namespace Go.Proofs.Ytfbdhihhimfaaaa
open Go.RowKit

theorem clone_any (s : ByteArray) (w : World) (hlim : s.size ≤ 60000) :
    Calls Try.prog 33 #[.string s] w fun e w' => e = .returned (.string s) ∧ Below w.heap.size w w' := by
  go_enter Try.func33, Try.ntmps33
  go_wp2_with fail
  refine (Any.stringslite_Clone layClone s _ (by omega)).mono ?_
  rintro e w1 ⟨rfl, hb⟩
  go_wp2
  go_ret
  exact ⟨rfl, hb⟩
end Go.Proofs.Ytfbdhihhimfaaaa
