/-
  No cell of these rows narrows 'for every input' (looked for: loops, veiled, ifaces, maps, wideKeys, modest, calm, conditions, laid).
  DERIVED. THE GIVEN ROWS OF THIS SEAT. 6 by the template 'for every input the law returns true; each argument reads behind the call as it read before'; 0 by the template 'total and deterministic' (their statements: YtcaehfkfohianaaGreatTotals.lean).
  GIVEN WITH THE SEED: the statements are not yours to turn. If you find one false, say at which input.
  Laid BY PROGRAM, IN A SANDBOX (cutbox-rows.mjs): the forced cells as the released guide's own fill.sh prints them over the translation 232764929c52548f… (all of the seat's roots in one cut). By AI agents, Wed Nov 11 2026. No macro, syntax, notation, axiom, sorry.
-/
import Derived.Test.YtcaehfkfohianaaGreatChecked
import GoSem.Claim
import GoSem.ClaimJoined
import GoSem.ClaimMapViews
import Derived.JoinedTies
import Derived.KernelRfl
namespace Go.Proofs.YtcaehfkfohianaaGreat
/- THE CELL 'sum', in the pinned program and in every row, IS THE sha256 OF THE DUMP (.gsa) THAT YtcaehfkfohianaaGreatProg.lean LOADS. Nothing in Lean hashes anything: it is a label: what it is worth is what the hold of that sum in a sandbox is worth. -/
noncomputable def Tryz.pinned : Pinned := { name := "ytcaehfkfohianaagreat", sum := "232764929c52548fa9da9f366ac5881b2a3e0c98b707d8de195dcadb087353c4", checked := Tryz.checked }
namespace Rows
def none {H : Type} : Left H := { results := [], args := [] }

/-- 'rialtolaw10.RaftFirm': WHATEVER THE INPUT: true; the input reads as it did. -/
def raftFirmSpec : ChangeSpec := { name := "raftFirm", fn := fun _ => fun
  | [d1, d2] => { results := [.lit (.bool true)], args := [d1, d2] }
  | _ => none }
def raftFirmRow : OpenClaim := { program := "ytcaehfkfohianaagreat", sum := "232764929c52548fa9da9f366ac5881b2a3e0c98b707d8de195dcadb087353c4", func := "rialto/rialtolaw10.RaftFirm", spec := "raftFirm", inPlace := ["slices.overlaps[int]", "internal/abi.NoEscape", "slices.overlaps[rialto/api.Record]"], unfollowed := true, recurses := true, apart := false }
def RaftFirmSaid : Prop := raftFirmRow.holds Tryz.pinned (OpenSpec.ofChange raftFirmSpec)

/-- ITS FALSE NEIGHBOUR: 'it returns false'. Refute it at one input. -/
def raftFirmWrong : ChangeSpec := { name := "raftFirm", fn := fun _ => fun
  | [d1, d2] => { results := [.lit (.bool false)], args := [d1, d2] }
  | _ => none }
def RaftFirmWrongFalsely : Prop := raftFirmRow.holds Tryz.pinned (OpenSpec.ofChange raftFirmWrong)

/-- 'rialtolaw10.RaftSays': WHATEVER THE INPUT: true; the input reads as it did. -/
def raftSaysSpec : ChangeSpec := { name := "raftSays", fn := fun _ => fun
  | [d1, d2] => { results := [.lit (.bool true)], args := [d1, d2] }
  | _ => none }
def raftSaysRow : OpenClaim := { program := "ytcaehfkfohianaagreat", sum := "232764929c52548fa9da9f366ac5881b2a3e0c98b707d8de195dcadb087353c4", func := "rialto/rialtolaw10.RaftSays", spec := "raftSays", inPlace := ["slices.overlaps[int]", "internal/abi.NoEscape", "slices.overlaps[rialto/api.Record]"], unfollowed := true, recurses := true, apart := false }
def RaftSaysSaid : Prop := raftSaysRow.holds Tryz.pinned (OpenSpec.ofChange raftSaysSpec)

/-- ITS FALSE NEIGHBOUR: 'it returns false'. Refute it at one input. -/
def raftSaysWrong : ChangeSpec := { name := "raftSays", fn := fun _ => fun
  | [d1, d2] => { results := [.lit (.bool false)], args := [d1, d2] }
  | _ => none }
def RaftSaysWrongFalsely : Prop := raftSaysRow.holds Tryz.pinned (OpenSpec.ofChange raftSaysWrong)

/-- 'rialtolaw10.RaftKeeps': WHATEVER THE INPUT: true; the input reads as it did. -/
def raftKeepsSpec : ChangeSpec := { name := "raftKeeps", fn := fun _ => fun
  | [d1, d2] => { results := [.lit (.bool true)], args := [d1, d2] }
  | _ => none }
def raftKeepsRow : OpenClaim := { program := "ytcaehfkfohianaagreat", sum := "232764929c52548fa9da9f366ac5881b2a3e0c98b707d8de195dcadb087353c4", func := "rialto/rialtolaw10.RaftKeeps", spec := "raftKeeps", inPlace := ["slices.overlaps[int]", "internal/abi.NoEscape", "slices.overlaps[rialto/api.Record]"], unfollowed := true, recurses := true, apart := false }
def RaftKeepsSaid : Prop := raftKeepsRow.holds Tryz.pinned (OpenSpec.ofChange raftKeepsSpec)

/-- ITS FALSE NEIGHBOUR: 'it returns false'. Refute it at one input. -/
def raftKeepsWrong : ChangeSpec := { name := "raftKeeps", fn := fun _ => fun
  | [d1, d2] => { results := [.lit (.bool false)], args := [d1, d2] }
  | _ => none }
def RaftKeepsWrongFalsely : Prop := raftKeepsRow.holds Tryz.pinned (OpenSpec.ofChange raftKeepsWrong)

/-- 'rialtolaw10.RaftAgain': WHATEVER THE INPUT: true; the input reads as it did. -/
def raftAgainSpec : ChangeSpec := { name := "raftAgain", fn := fun _ => fun
  | [d1, d2] => { results := [.lit (.bool true)], args := [d1, d2] }
  | _ => none }
def raftAgainRow : OpenClaim := { program := "ytcaehfkfohianaagreat", sum := "232764929c52548fa9da9f366ac5881b2a3e0c98b707d8de195dcadb087353c4", func := "rialto/rialtolaw10.RaftAgain", spec := "raftAgain", inPlace := ["slices.overlaps[int]", "internal/abi.NoEscape", "slices.overlaps[rialto/api.Record]"], unfollowed := true, recurses := true, apart := false }
def RaftAgainSaid : Prop := raftAgainRow.holds Tryz.pinned (OpenSpec.ofChange raftAgainSpec)

/-- ITS FALSE NEIGHBOUR: 'it returns false'. Refute it at one input. -/
def raftAgainWrong : ChangeSpec := { name := "raftAgain", fn := fun _ => fun
  | [d1, d2] => { results := [.lit (.bool false)], args := [d1, d2] }
  | _ => none }
def RaftAgainWrongFalsely : Prop := raftAgainRow.holds Tryz.pinned (OpenSpec.ofChange raftAgainWrong)

/-- 'rialtolaw10.RaftSteps': WHATEVER THE INPUT: true; the input reads as it did. -/
def raftStepsSpec : ChangeSpec := { name := "raftSteps", fn := fun _ => fun
  | [d1, d2] => { results := [.lit (.bool true)], args := [d1, d2] }
  | _ => none }
def raftStepsRow : OpenClaim := { program := "ytcaehfkfohianaagreat", sum := "232764929c52548fa9da9f366ac5881b2a3e0c98b707d8de195dcadb087353c4", func := "rialto/rialtolaw10.RaftSteps", spec := "raftSteps", inPlace := ["slices.overlaps[int]", "internal/abi.NoEscape", "slices.overlaps[rialto/api.Record]"], unfollowed := true, recurses := true, apart := false }
def RaftStepsSaid : Prop := raftStepsRow.holds Tryz.pinned (OpenSpec.ofChange raftStepsSpec)

/-- ITS FALSE NEIGHBOUR: 'it returns false'. Refute it at one input. -/
def raftStepsWrong : ChangeSpec := { name := "raftSteps", fn := fun _ => fun
  | [d1, d2] => { results := [.lit (.bool false)], args := [d1, d2] }
  | _ => none }
def RaftStepsWrongFalsely : Prop := raftStepsRow.holds Tryz.pinned (OpenSpec.ofChange raftStepsWrong)

/-- 'rialtolaw10.RaftAny': WHATEVER THE INPUT: true; the input reads as it did. -/
def raftAnySpec : ChangeSpec := { name := "raftAny", fn := fun _ => fun
  | [d1, d2] => { results := [.lit (.bool true)], args := [d1, d2] }
  | _ => none }
def raftAnyRow : OpenClaim := { program := "ytcaehfkfohianaagreat", sum := "232764929c52548fa9da9f366ac5881b2a3e0c98b707d8de195dcadb087353c4", func := "rialto/rialtolaw10.RaftAny", spec := "raftAny", inPlace := ["slices.overlaps[int]", "internal/abi.NoEscape", "slices.overlaps[rialto/api.Record]"], unfollowed := true, recurses := true, apart := false }
def RaftAnySaid : Prop := raftAnyRow.holds Tryz.pinned (OpenSpec.ofChange raftAnySpec)

/-- ITS FALSE NEIGHBOUR: 'it returns false'. Refute it at one input. -/
def raftAnyWrong : ChangeSpec := { name := "raftAny", fn := fun _ => fun
  | [d1, d2] => { results := [.lit (.bool false)], args := [d1, d2] }
  | _ => none }
def RaftAnyWrongFalsely : Prop := raftAnyRow.holds Tryz.pinned (OpenSpec.ofChange raftAnyWrong)

/- THE SECOND FORM. 'bulk': how many values and letters a reading holds, each counted each time it is reached (what is shared counts as often as it is met; a slice's spare places count too). A statement '..UptoSaid' is the law's where the arguments, and the package variables that the reading takes, are together of bulk at most 1048576: NARROWER than '..Said'. Prove '..Said' where nothing that the law and all that it calls make is longer than what came in: it says more and counts as full. Else prove '..UptoSaid'. A law counts once. -/
mutual
def uptoBulk {H : Type} : DataW H → Nat
  | .lit (.string bytes) => bytes.length + 1
  | .lit _ => 1
  | .nil => 1
  | .ptr d => uptoBulk d + 1
  | .slice elems spare => uptoBulkAll elems + uptoBulkAll spare + 1
  | .agg parts => uptoBulkAll parts + 1
  | .iface _ d => uptoBulk d + 1
  | .map entries => uptoBulkEntries entries + 1
  | .held _ => 1
def uptoBulkAll {H : Type} : List (DataW H) → Nat
  | [] => 0
  | d :: r => uptoBulk d + uptoBulkAll r
def uptoBulkEntries {H : Type} : List (Lit × DataW H) → Nat
  | [] => 0
  | x :: r => uptoBulkEntry x + uptoBulkEntries r
def uptoBulkEntry {H : Type} : Lit × DataW H → Nat
  | (.string bytes, d) => bytes.length + uptoBulk d + 1
  | (_, d) => uptoBulk d + 1
 end
def uptoSmall : (H : Type) → List (DataW H) → Bool := fun _ ds => decide (uptoBulkAll ds ≤ 1048576)
def OpenSpec.upto (s : _root_.Go.ChangeSpec) : _root_.Go.OpenSpec := { _root_.Go.OpenSpec.ofChange s with cond := some uptoSmall }

/-- 'rialtolaw10.RaftFirm', WHERE WHAT IT READS IS OF BULK AT MOST 1048576: true; the input reads as it did. -/
def raftFirmUptoRow : OpenClaim := { program := "ytcaehfkfohianaagreat", sum := "232764929c52548fa9da9f366ac5881b2a3e0c98b707d8de195dcadb087353c4", func := "rialto/rialtolaw10.RaftFirm", spec := "raftFirm", inPlace := ["slices.overlaps[int]", "internal/abi.NoEscape", "slices.overlaps[rialto/api.Record]"], unfollowed := true, recurses := true, apart := false, narrowed := true }
def RaftFirmUptoSaid : Prop := raftFirmUptoRow.holds Tryz.pinned (OpenSpec.upto raftFirmSpec)

/-- 'rialtolaw10.RaftSays', WHERE WHAT IT READS IS OF BULK AT MOST 1048576: true; the input reads as it did. -/
def raftSaysUptoRow : OpenClaim := { program := "ytcaehfkfohianaagreat", sum := "232764929c52548fa9da9f366ac5881b2a3e0c98b707d8de195dcadb087353c4", func := "rialto/rialtolaw10.RaftSays", spec := "raftSays", inPlace := ["slices.overlaps[int]", "internal/abi.NoEscape", "slices.overlaps[rialto/api.Record]"], unfollowed := true, recurses := true, apart := false, narrowed := true }
def RaftSaysUptoSaid : Prop := raftSaysUptoRow.holds Tryz.pinned (OpenSpec.upto raftSaysSpec)

/-- 'rialtolaw10.RaftKeeps', WHERE WHAT IT READS IS OF BULK AT MOST 1048576: true; the input reads as it did. -/
def raftKeepsUptoRow : OpenClaim := { program := "ytcaehfkfohianaagreat", sum := "232764929c52548fa9da9f366ac5881b2a3e0c98b707d8de195dcadb087353c4", func := "rialto/rialtolaw10.RaftKeeps", spec := "raftKeeps", inPlace := ["slices.overlaps[int]", "internal/abi.NoEscape", "slices.overlaps[rialto/api.Record]"], unfollowed := true, recurses := true, apart := false, narrowed := true }
def RaftKeepsUptoSaid : Prop := raftKeepsUptoRow.holds Tryz.pinned (OpenSpec.upto raftKeepsSpec)

/-- 'rialtolaw10.RaftAgain', WHERE WHAT IT READS IS OF BULK AT MOST 1048576: true; the input reads as it did. -/
def raftAgainUptoRow : OpenClaim := { program := "ytcaehfkfohianaagreat", sum := "232764929c52548fa9da9f366ac5881b2a3e0c98b707d8de195dcadb087353c4", func := "rialto/rialtolaw10.RaftAgain", spec := "raftAgain", inPlace := ["slices.overlaps[int]", "internal/abi.NoEscape", "slices.overlaps[rialto/api.Record]"], unfollowed := true, recurses := true, apart := false, narrowed := true }
def RaftAgainUptoSaid : Prop := raftAgainUptoRow.holds Tryz.pinned (OpenSpec.upto raftAgainSpec)

/-- 'rialtolaw10.RaftSteps', WHERE WHAT IT READS IS OF BULK AT MOST 1048576: true; the input reads as it did. -/
def raftStepsUptoRow : OpenClaim := { program := "ytcaehfkfohianaagreat", sum := "232764929c52548fa9da9f366ac5881b2a3e0c98b707d8de195dcadb087353c4", func := "rialto/rialtolaw10.RaftSteps", spec := "raftSteps", inPlace := ["slices.overlaps[int]", "internal/abi.NoEscape", "slices.overlaps[rialto/api.Record]"], unfollowed := true, recurses := true, apart := false, narrowed := true }
def RaftStepsUptoSaid : Prop := raftStepsUptoRow.holds Tryz.pinned (OpenSpec.upto raftStepsSpec)

/-- 'rialtolaw10.RaftAny', WHERE WHAT IT READS IS OF BULK AT MOST 1048576: true; the input reads as it did. -/
def raftAnyUptoRow : OpenClaim := { program := "ytcaehfkfohianaagreat", sum := "232764929c52548fa9da9f366ac5881b2a3e0c98b707d8de195dcadb087353c4", func := "rialto/rialtolaw10.RaftAny", spec := "raftAny", inPlace := ["slices.overlaps[int]", "internal/abi.NoEscape", "slices.overlaps[rialto/api.Record]"], unfollowed := true, recurses := true, apart := false, narrowed := true }
def RaftAnyUptoSaid : Prop := raftAnyUptoRow.holds Tryz.pinned (OpenSpec.upto raftAnySpec)

end Rows
end Go.Proofs.YtcaehfkfohianaaGreat
