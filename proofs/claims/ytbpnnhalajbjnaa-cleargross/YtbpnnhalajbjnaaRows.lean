/-
  No cell of these rows narrows 'for every input' (looked for: loops, veiled, ifaces, maps, wideKeys, modest, calm, conditions, laid).
  DERIVED. THE GIVEN ROWS OF THIS SEAT. 6 by the template 'for every input the law returns true; each argument reads behind the call as it read before'; 0 by the template 'total and deterministic' (their statements: YtbpnnhalajbjnaaTotals.lean).
  GIVEN WITH THE SEED: the statements are not yours to turn. If you find one false, say at which input.
  Laid BY PROGRAM, IN A SANDBOX (cutbox-rows.mjs): the forced cells as the released guide's own fill.sh prints them over the translation 11007fbece8b42e8… (all of the seat's roots in one cut). By AI agents, Wed Nov 11 2026. No macro, syntax, notation, axiom, sorry.
-/
import Derived.Test.YtbpnnhalajbjnaaChecked
import GoSem.Claim
import GoSem.ClaimJoined
import GoSem.ClaimMapViews
import Derived.JoinedTies
import Derived.KernelRfl
namespace Go.Proofs.Ytbpnnhalajbjnaa
/- THE CELL 'sum', in the pinned program and in every row, IS THE sha256 OF THE DUMP (.gsa) THAT YtbpnnhalajbjnaaProg.lean LOADS. Nothing in Lean hashes anything: it is a label: what it is worth is what the hold of that sum in a sandbox is worth. -/
noncomputable def Try.pinned : Pinned := { name := "ytbpnnhalajbjnaa", sum := "11007fbece8b42e884df68dc18dd34bf2d8155a7432cf38a8146a066e27260c5", checked := Try.checked }
namespace Rows
def none {H : Type} : Left H := { results := [], args := [] }

/-- 'rialtolaw15.ClearNets': WHATEVER THE INPUT: true; the input reads as it did. -/
def clearNetsSpec : ChangeSpec := { name := "clearNets", fn := fun _ => fun
  | [d] => { results := [.lit (.bool true)], args := [d] }
  | _ => none }
def clearNetsRow : OpenClaim := { program := "ytbpnnhalajbjnaa", sum := "11007fbece8b42e884df68dc18dd34bf2d8155a7432cf38a8146a066e27260c5", func := "rialto/rialtolaw15.ClearNets", spec := "clearNets", unfollowed := true, recurses := true, apart := false }
def ClearNetsSaid : Prop := clearNetsRow.holds Try.pinned (OpenSpec.ofChange clearNetsSpec)

/-- ITS FALSE NEIGHBOUR: 'it returns false'. Refute it at one input. -/
def clearNetsWrong : ChangeSpec := { name := "clearNets", fn := fun _ => fun
  | [d] => { results := [.lit (.bool false)], args := [d] }
  | _ => none }
def ClearNetsWrongFalsely : Prop := clearNetsRow.holds Try.pinned (OpenSpec.ofChange clearNetsWrong)

/-- 'rialtolaw15.ClearZero': WHATEVER THE INPUT: true; the input reads as it did. -/
def clearZeroSpec : ChangeSpec := { name := "clearZero", fn := fun _ => fun
  | [d] => { results := [.lit (.bool true)], args := [d] }
  | _ => none }
def clearZeroRow : OpenClaim := { program := "ytbpnnhalajbjnaa", sum := "11007fbece8b42e884df68dc18dd34bf2d8155a7432cf38a8146a066e27260c5", func := "rialto/rialtolaw15.ClearZero", spec := "clearZero", unfollowed := true, recurses := true, apart := false }
def ClearZeroSaid : Prop := clearZeroRow.holds Try.pinned (OpenSpec.ofChange clearZeroSpec)

/-- ITS FALSE NEIGHBOUR: 'it returns false'. Refute it at one input. -/
def clearZeroWrong : ChangeSpec := { name := "clearZero", fn := fun _ => fun
  | [d] => { results := [.lit (.bool false)], args := [d] }
  | _ => none }
def ClearZeroWrongFalsely : Prop := clearZeroRow.holds Try.pinned (OpenSpec.ofChange clearZeroWrong)

/-- 'rialtolaw15.ClearParts': WHATEVER THE INPUT: true; the input reads as it did. -/
def clearPartsSpec : ChangeSpec := { name := "clearParts", fn := fun _ => fun
  | [d1, d2] => { results := [.lit (.bool true)], args := [d1, d2] }
  | _ => none }
def clearPartsRow : OpenClaim := { program := "ytbpnnhalajbjnaa", sum := "11007fbece8b42e884df68dc18dd34bf2d8155a7432cf38a8146a066e27260c5", func := "rialto/rialtolaw15.ClearParts", spec := "clearParts", unfollowed := true, recurses := true, apart := false }
def ClearPartsSaid : Prop := clearPartsRow.holds Try.pinned (OpenSpec.ofChange clearPartsSpec)

/-- ITS FALSE NEIGHBOUR: 'it returns false'. Refute it at one input. -/
def clearPartsWrong : ChangeSpec := { name := "clearParts", fn := fun _ => fun
  | [d1, d2] => { results := [.lit (.bool false)], args := [d1, d2] }
  | _ => none }
def ClearPartsWrongFalsely : Prop := clearPartsRow.holds Try.pinned (OpenSpec.ofChange clearPartsWrong)

/-- 'rialtolaw15.ClearTakes': WHATEVER THE INPUT: true; the input reads as it did. -/
def clearTakesSpec : ChangeSpec := { name := "clearTakes", fn := fun _ => fun
  | [d1, d2] => { results := [.lit (.bool true)], args := [d1, d2] }
  | _ => none }
def clearTakesRow : OpenClaim := { program := "ytbpnnhalajbjnaa", sum := "11007fbece8b42e884df68dc18dd34bf2d8155a7432cf38a8146a066e27260c5", func := "rialto/rialtolaw15.ClearTakes", spec := "clearTakes", unfollowed := true, recurses := true, apart := false }
def ClearTakesSaid : Prop := clearTakesRow.holds Try.pinned (OpenSpec.ofChange clearTakesSpec)

/-- ITS FALSE NEIGHBOUR: 'it returns false'. Refute it at one input. -/
def clearTakesWrong : ChangeSpec := { name := "clearTakes", fn := fun _ => fun
  | [d1, d2] => { results := [.lit (.bool false)], args := [d1, d2] }
  | _ => none }
def ClearTakesWrongFalsely : Prop := clearTakesRow.holds Try.pinned (OpenSpec.ofChange clearTakesWrong)

/-- 'rialtolaw15.ClearAll': WHATEVER THE INPUT: true; the input reads as it did. -/
def clearAllSpec : ChangeSpec := { name := "clearAll", fn := fun _ => fun
  | [d] => { results := [.lit (.bool true)], args := [d] }
  | _ => none }
def clearAllRow : OpenClaim := { program := "ytbpnnhalajbjnaa", sum := "11007fbece8b42e884df68dc18dd34bf2d8155a7432cf38a8146a066e27260c5", func := "rialto/rialtolaw15.ClearAll", spec := "clearAll", unfollowed := true, recurses := true, apart := false }
def ClearAllSaid : Prop := clearAllRow.holds Try.pinned (OpenSpec.ofChange clearAllSpec)

/-- ITS FALSE NEIGHBOUR: 'it returns false'. Refute it at one input. -/
def clearAllWrong : ChangeSpec := { name := "clearAll", fn := fun _ => fun
  | [d] => { results := [.lit (.bool false)], args := [d] }
  | _ => none }
def ClearAllWrongFalsely : Prop := clearAllRow.holds Try.pinned (OpenSpec.ofChange clearAllWrong)

/-- 'rialtolaw15.ClearGross': WHATEVER THE INPUT: true; the input reads as it did. -/
def clearGrossSpec : ChangeSpec := { name := "clearGross", fn := fun _ => fun
  | [d] => { results := [.lit (.bool true)], args := [d] }
  | _ => none }
def clearGrossRow : OpenClaim := { program := "ytbpnnhalajbjnaa", sum := "11007fbece8b42e884df68dc18dd34bf2d8155a7432cf38a8146a066e27260c5", func := "rialto/rialtolaw15.ClearGross", spec := "clearGross", inPlace := ["slices.overlaps[rialto/api.Owed]", "slices.overlaps[rialto/api.Order]"], unfollowed := true, recurses := true, apart := false }
def ClearGrossSaid : Prop := clearGrossRow.holds Try.pinned (OpenSpec.ofChange clearGrossSpec)

/-- ITS FALSE NEIGHBOUR: 'it returns false'. Refute it at one input. -/
def clearGrossWrong : ChangeSpec := { name := "clearGross", fn := fun _ => fun
  | [d] => { results := [.lit (.bool false)], args := [d] }
  | _ => none }
def ClearGrossWrongFalsely : Prop := clearGrossRow.holds Try.pinned (OpenSpec.ofChange clearGrossWrong)

/- THE SECOND FORM. 'bulk': how many values and letters a reading holds, each counted each time it is reached (what is shared counts as often as it is met; a slice's spare places count too). A statement '..UptoSaid' is the law's where the arguments, and the package variables that the reading takes, are together of bulk at most 1048576: NARROWER than '..Said'. Prove '..Said' where nothing that the law and all that it calls make is longer than what came in: it says more and counts as full. Else prove '..UptoSaid'. A law counts once. -/
mutual
def uptoBulk {H : Type} : DataW H → Nat
  | .lit (.string bytes) => bytes.length + 1
  | .lit _ => 1
  | .nil => 1
  | .ptr d => uptoBulk d + 1
  | .slice elems spare => uptoBulkAll elems + uptoBulkAll spare + 1
  | .agg parts => uptoBulkAll parts + 1
  | .iface _ d => uptoBulk d + 1
  | .map entries => uptoBulkEntries entries + 1
  | .held _ => 1
def uptoBulkAll {H : Type} : List (DataW H) → Nat
  | [] => 0
  | d :: r => uptoBulk d + uptoBulkAll r
def uptoBulkEntries {H : Type} : List (Lit × DataW H) → Nat
  | [] => 0
  | x :: r => uptoBulkEntry x + uptoBulkEntries r
def uptoBulkEntry {H : Type} : Lit × DataW H → Nat
  | (.string bytes, d) => bytes.length + uptoBulk d + 1
  | (_, d) => uptoBulk d + 1
 end
def uptoSmall : (H : Type) → List (DataW H) → Bool := fun _ ds => decide (uptoBulkAll ds ≤ 1048576)
def OpenSpec.upto (s : _root_.Go.ChangeSpec) : _root_.Go.OpenSpec := { _root_.Go.OpenSpec.ofChange s with cond := some uptoSmall }

/-- 'rialtolaw15.ClearNets', WHERE WHAT IT READS IS OF BULK AT MOST 1048576: true; the input reads as it did. -/
def clearNetsUptoRow : OpenClaim := { program := "ytbpnnhalajbjnaa", sum := "11007fbece8b42e884df68dc18dd34bf2d8155a7432cf38a8146a066e27260c5", func := "rialto/rialtolaw15.ClearNets", spec := "clearNets", unfollowed := true, recurses := true, apart := false, narrowed := true }
def ClearNetsUptoSaid : Prop := clearNetsUptoRow.holds Try.pinned (OpenSpec.upto clearNetsSpec)

/-- 'rialtolaw15.ClearZero', WHERE WHAT IT READS IS OF BULK AT MOST 1048576: true; the input reads as it did. -/
def clearZeroUptoRow : OpenClaim := { program := "ytbpnnhalajbjnaa", sum := "11007fbece8b42e884df68dc18dd34bf2d8155a7432cf38a8146a066e27260c5", func := "rialto/rialtolaw15.ClearZero", spec := "clearZero", unfollowed := true, recurses := true, apart := false, narrowed := true }
def ClearZeroUptoSaid : Prop := clearZeroUptoRow.holds Try.pinned (OpenSpec.upto clearZeroSpec)

/-- 'rialtolaw15.ClearParts', WHERE WHAT IT READS IS OF BULK AT MOST 1048576: true; the input reads as it did. -/
def clearPartsUptoRow : OpenClaim := { program := "ytbpnnhalajbjnaa", sum := "11007fbece8b42e884df68dc18dd34bf2d8155a7432cf38a8146a066e27260c5", func := "rialto/rialtolaw15.ClearParts", spec := "clearParts", unfollowed := true, recurses := true, apart := false, narrowed := true }
def ClearPartsUptoSaid : Prop := clearPartsUptoRow.holds Try.pinned (OpenSpec.upto clearPartsSpec)

/-- 'rialtolaw15.ClearTakes', WHERE WHAT IT READS IS OF BULK AT MOST 1048576: true; the input reads as it did. -/
def clearTakesUptoRow : OpenClaim := { program := "ytbpnnhalajbjnaa", sum := "11007fbece8b42e884df68dc18dd34bf2d8155a7432cf38a8146a066e27260c5", func := "rialto/rialtolaw15.ClearTakes", spec := "clearTakes", unfollowed := true, recurses := true, apart := false, narrowed := true }
def ClearTakesUptoSaid : Prop := clearTakesUptoRow.holds Try.pinned (OpenSpec.upto clearTakesSpec)

/-- 'rialtolaw15.ClearAll', WHERE WHAT IT READS IS OF BULK AT MOST 1048576: true; the input reads as it did. -/
def clearAllUptoRow : OpenClaim := { program := "ytbpnnhalajbjnaa", sum := "11007fbece8b42e884df68dc18dd34bf2d8155a7432cf38a8146a066e27260c5", func := "rialto/rialtolaw15.ClearAll", spec := "clearAll", unfollowed := true, recurses := true, apart := false, narrowed := true }
def ClearAllUptoSaid : Prop := clearAllUptoRow.holds Try.pinned (OpenSpec.upto clearAllSpec)

/-- 'rialtolaw15.ClearGross', WHERE WHAT IT READS IS OF BULK AT MOST 1048576: true; the input reads as it did. -/
def clearGrossUptoRow : OpenClaim := { program := "ytbpnnhalajbjnaa", sum := "11007fbece8b42e884df68dc18dd34bf2d8155a7432cf38a8146a066e27260c5", func := "rialto/rialtolaw15.ClearGross", spec := "clearGross", inPlace := ["slices.overlaps[rialto/api.Owed]", "slices.overlaps[rialto/api.Order]"], unfollowed := true, recurses := true, apart := false, narrowed := true }
def ClearGrossUptoSaid : Prop := clearGrossUptoRow.holds Try.pinned (OpenSpec.upto clearGrossSpec)

end Rows
end Go.Proofs.Ytbpnnhalajbjnaa
