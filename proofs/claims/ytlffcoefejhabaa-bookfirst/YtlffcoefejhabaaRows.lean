/-
  No cell of these rows narrows 'for every input' (looked for: loops, veiled, ifaces, maps, wideKeys, modest, calm, conditions, laid).
  DERIVED. THE GIVEN ROWS OF THIS SEAT. 6 by the template 'for every input the law returns true; each argument reads behind the call as it read before'; 0 by the template 'total and deterministic' (their statements: YtlffcoefejhabaaTotals.lean).
  GIVEN WITH THE SEED: the statements are not yours to turn. If you find one false, say at which input.
  Laid BY PROGRAM, IN A SANDBOX (cutbox-rows.mjs): the forced cells as the released guide's own fill.sh prints them over the translation 81a975d7bd9e6c8a… (all of the seat's roots in one cut). By AI agents, Wed Nov 11 2026. No macro, syntax, notation, axiom, sorry.
-/
import Derived.Test.YtlffcoefejhabaaChecked
import GoSem.Claim
import GoSem.ClaimJoined
import GoSem.ClaimMapViews
import Derived.JoinedTies
import Derived.KernelRfl
namespace Go.Proofs.Ytlffcoefejhabaa
/- THE CELL 'sum', in the pinned program and in every row, IS THE sha256 OF THE DUMP (.gsa) THAT YtlffcoefejhabaaProg.lean LOADS. Nothing in Lean hashes anything: it is a label: what it is worth is what the hold of that sum in a sandbox is worth. -/
noncomputable def Try.pinned : Pinned := { name := "ytlffcoefejhabaa", sum := "81a975d7bd9e6c8a257effa6c87cffc400c70e03b943cc86021b560a3438dabc", checked := Try.checked }
namespace Rows
def none {H : Type} : Left H := { results := [], args := [] }

/-- 'rialtolaw13.BookNow': WHATEVER THE INPUT: true; the input reads as it did. -/
def bookNowSpec : ChangeSpec := { name := "bookNow", fn := fun _ => fun
  | [d1, d2] => { results := [.lit (.bool true)], args := [d1, d2] }
  | _ => none }
def bookNowRow : OpenClaim := { program := "ytlffcoefejhabaa", sum := "81a975d7bd9e6c8a257effa6c87cffc400c70e03b943cc86021b560a3438dabc", func := "rialto/rialtolaw13.BookNow", spec := "bookNow", inPlace := ["slices.overlaps[rialto/api.Owed]", "slices.overlaps[rialto/api.Order]"], unfollowed := true, recurses := true, apart := false }
def BookNowSaid : Prop := bookNowRow.holds Try.pinned (OpenSpec.ofChange bookNowSpec)

/-- ITS FALSE NEIGHBOUR: 'it returns false'. Refute it at one input. -/
def bookNowWrong : ChangeSpec := { name := "bookNow", fn := fun _ => fun
  | [d1, d2] => { results := [.lit (.bool false)], args := [d1, d2] }
  | _ => none }
def BookNowWrongFalsely : Prop := bookNowRow.holds Try.pinned (OpenSpec.ofChange bookNowWrong)

/-- 'rialtolaw13.BookSplit': WHATEVER THE INPUT: true; the input reads as it did. -/
def bookSplitSpec : ChangeSpec := { name := "bookSplit", fn := fun _ => fun
  | [d1, d2, d3] => { results := [.lit (.bool true)], args := [d1, d2, d3] }
  | _ => none }
def bookSplitRow : OpenClaim := { program := "ytlffcoefejhabaa", sum := "81a975d7bd9e6c8a257effa6c87cffc400c70e03b943cc86021b560a3438dabc", func := "rialto/rialtolaw13.BookSplit", spec := "bookSplit", inPlace := ["slices.overlaps[rialto/api.Owed]", "slices.overlaps[rialto/api.Order]"], unfollowed := true, recurses := true, apart := false }
def BookSplitSaid : Prop := bookSplitRow.holds Try.pinned (OpenSpec.ofChange bookSplitSpec)

/-- ITS FALSE NEIGHBOUR: 'it returns false'. Refute it at one input. -/
def bookSplitWrong : ChangeSpec := { name := "bookSplit", fn := fun _ => fun
  | [d1, d2, d3] => { results := [.lit (.bool false)], args := [d1, d2, d3] }
  | _ => none }
def BookSplitWrongFalsely : Prop := bookSplitRow.holds Try.pinned (OpenSpec.ofChange bookSplitWrong)

/-- 'rialtolaw13.BookFirst': WHATEVER THE INPUT: true; the input reads as it did. -/
def bookFirstSpec : ChangeSpec := { name := "bookFirst", fn := fun _ => fun
  | [d1, d2, d3] => { results := [.lit (.bool true)], args := [d1, d2, d3] }
  | _ => none }
def bookFirstRow : OpenClaim := { program := "ytlffcoefejhabaa", sum := "81a975d7bd9e6c8a257effa6c87cffc400c70e03b943cc86021b560a3438dabc", func := "rialto/rialtolaw13.BookFirst", spec := "bookFirst", inPlace := ["slices.overlaps[rialto/api.Owed]", "slices.overlaps[rialto/api.Order]"], unfollowed := true, recurses := true, apart := false }
def BookFirstSaid : Prop := bookFirstRow.holds Try.pinned (OpenSpec.ofChange bookFirstSpec)

/-- ITS FALSE NEIGHBOUR: 'it returns false'. Refute it at one input. -/
def bookFirstWrong : ChangeSpec := { name := "bookFirst", fn := fun _ => fun
  | [d1, d2, d3] => { results := [.lit (.bool false)], args := [d1, d2, d3] }
  | _ => none }
def BookFirstWrongFalsely : Prop := bookFirstRow.holds Try.pinned (OpenSpec.ofChange bookFirstWrong)

/-- 'rialtolaw13.BookMirror': WHATEVER THE INPUT: true; the input reads as it did. -/
def bookMirrorSpec : ChangeSpec := { name := "bookMirror", fn := fun _ => fun
  | [d] => { results := [.lit (.bool true)], args := [d] }
  | _ => none }
def bookMirrorRow : OpenClaim := { program := "ytlffcoefejhabaa", sum := "81a975d7bd9e6c8a257effa6c87cffc400c70e03b943cc86021b560a3438dabc", func := "rialto/rialtolaw13.BookMirror", spec := "bookMirror", inPlace := ["slices.overlaps[rialto/api.Owed]", "slices.overlaps[rialto/api.Order]"], unfollowed := true, recurses := true, apart := false }
def BookMirrorSaid : Prop := bookMirrorRow.holds Try.pinned (OpenSpec.ofChange bookMirrorSpec)

/-- ITS FALSE NEIGHBOUR: 'it returns false'. Refute it at one input. -/
def bookMirrorWrong : ChangeSpec := { name := "bookMirror", fn := fun _ => fun
  | [d] => { results := [.lit (.bool false)], args := [d] }
  | _ => none }
def BookMirrorWrongFalsely : Prop := bookMirrorRow.holds Try.pinned (OpenSpec.ofChange bookMirrorWrong)

/-- 'rialtolaw13.BookHolds': WHATEVER THE INPUT: true; the input reads as it did. -/
def bookHoldsSpec : ChangeSpec := { name := "bookHolds", fn := fun _ => fun
  | [d1, d2] => { results := [.lit (.bool true)], args := [d1, d2] }
  | _ => none }
def bookHoldsRow : OpenClaim := { program := "ytlffcoefejhabaa", sum := "81a975d7bd9e6c8a257effa6c87cffc400c70e03b943cc86021b560a3438dabc", func := "rialto/rialtolaw13.BookHolds", spec := "bookHolds", inPlace := ["slices.overlaps[rialto/api.Owed]", "slices.overlaps[rialto/api.Order]"], unfollowed := true, recurses := true, apart := false }
def BookHoldsSaid : Prop := bookHoldsRow.holds Try.pinned (OpenSpec.ofChange bookHoldsSpec)

/-- ITS FALSE NEIGHBOUR: 'it returns false'. Refute it at one input. -/
def bookHoldsWrong : ChangeSpec := { name := "bookHolds", fn := fun _ => fun
  | [d1, d2] => { results := [.lit (.bool false)], args := [d1, d2] }
  | _ => none }
def BookHoldsWrongFalsely : Prop := bookHoldsRow.holds Try.pinned (OpenSpec.ofChange bookHoldsWrong)

/-- 'rialtolaw13.BookSound': WHATEVER THE INPUT: true; the input reads as it did. -/
def bookSoundSpec : ChangeSpec := { name := "bookSound", fn := fun _ => fun
  | [d] => { results := [.lit (.bool true)], args := [d] }
  | _ => none }
def bookSoundRow : OpenClaim := { program := "ytlffcoefejhabaa", sum := "81a975d7bd9e6c8a257effa6c87cffc400c70e03b943cc86021b560a3438dabc", func := "rialto/rialtolaw13.BookSound", spec := "bookSound", inPlace := ["slices.overlaps[rialto/api.Owed]", "slices.overlaps[rialto/api.Order]"], unfollowed := true, recurses := true, apart := false }
def BookSoundSaid : Prop := bookSoundRow.holds Try.pinned (OpenSpec.ofChange bookSoundSpec)

/-- ITS FALSE NEIGHBOUR: 'it returns false'. Refute it at one input. -/
def bookSoundWrong : ChangeSpec := { name := "bookSound", fn := fun _ => fun
  | [d] => { results := [.lit (.bool false)], args := [d] }
  | _ => none }
def BookSoundWrongFalsely : Prop := bookSoundRow.holds Try.pinned (OpenSpec.ofChange bookSoundWrong)

/- THE SECOND FORM. 'bulk': how many values and letters a reading holds, each counted each time it is reached (what is shared counts as often as it is met; a slice's spare places count too). A statement '..UptoSaid' is the law's where the arguments, and the package variables that the reading takes, are together of bulk at most 1048576: NARROWER than '..Said'. Prove '..Said' where nothing that the law and all that it calls make is longer than what came in: it says more and counts as full. Else prove '..UptoSaid'. A law counts once. -/
mutual
def uptoBulk {H : Type} : DataW H → Nat
  | .lit (.string bytes) => bytes.length + 1
  | .lit _ => 1
  | .nil => 1
  | .ptr d => uptoBulk d + 1
  | .slice elems spare => uptoBulkAll elems + uptoBulkAll spare + 1
  | .agg parts => uptoBulkAll parts + 1
  | .iface _ d => uptoBulk d + 1
  | .map entries => uptoBulkEntries entries + 1
  | .held _ => 1
def uptoBulkAll {H : Type} : List (DataW H) → Nat
  | [] => 0
  | d :: r => uptoBulk d + uptoBulkAll r
def uptoBulkEntries {H : Type} : List (Lit × DataW H) → Nat
  | [] => 0
  | x :: r => uptoBulkEntry x + uptoBulkEntries r
def uptoBulkEntry {H : Type} : Lit × DataW H → Nat
  | (.string bytes, d) => bytes.length + uptoBulk d + 1
  | (_, d) => uptoBulk d + 1
 end
def uptoSmall : (H : Type) → List (DataW H) → Bool := fun _ ds => decide (uptoBulkAll ds ≤ 1048576)
def OpenSpec.upto (s : _root_.Go.ChangeSpec) : _root_.Go.OpenSpec := { _root_.Go.OpenSpec.ofChange s with cond := some uptoSmall }

/-- 'rialtolaw13.BookNow', WHERE WHAT IT READS IS OF BULK AT MOST 1048576: true; the input reads as it did. -/
def bookNowUptoRow : OpenClaim := { program := "ytlffcoefejhabaa", sum := "81a975d7bd9e6c8a257effa6c87cffc400c70e03b943cc86021b560a3438dabc", func := "rialto/rialtolaw13.BookNow", spec := "bookNow", inPlace := ["slices.overlaps[rialto/api.Owed]", "slices.overlaps[rialto/api.Order]"], unfollowed := true, recurses := true, apart := false, narrowed := true }
def BookNowUptoSaid : Prop := bookNowUptoRow.holds Try.pinned (OpenSpec.upto bookNowSpec)

/-- 'rialtolaw13.BookSplit', WHERE WHAT IT READS IS OF BULK AT MOST 1048576: true; the input reads as it did. -/
def bookSplitUptoRow : OpenClaim := { program := "ytlffcoefejhabaa", sum := "81a975d7bd9e6c8a257effa6c87cffc400c70e03b943cc86021b560a3438dabc", func := "rialto/rialtolaw13.BookSplit", spec := "bookSplit", inPlace := ["slices.overlaps[rialto/api.Owed]", "slices.overlaps[rialto/api.Order]"], unfollowed := true, recurses := true, apart := false, narrowed := true }
def BookSplitUptoSaid : Prop := bookSplitUptoRow.holds Try.pinned (OpenSpec.upto bookSplitSpec)

/-- 'rialtolaw13.BookFirst', WHERE WHAT IT READS IS OF BULK AT MOST 1048576: true; the input reads as it did. -/
def bookFirstUptoRow : OpenClaim := { program := "ytlffcoefejhabaa", sum := "81a975d7bd9e6c8a257effa6c87cffc400c70e03b943cc86021b560a3438dabc", func := "rialto/rialtolaw13.BookFirst", spec := "bookFirst", inPlace := ["slices.overlaps[rialto/api.Owed]", "slices.overlaps[rialto/api.Order]"], unfollowed := true, recurses := true, apart := false, narrowed := true }
def BookFirstUptoSaid : Prop := bookFirstUptoRow.holds Try.pinned (OpenSpec.upto bookFirstSpec)

/-- 'rialtolaw13.BookMirror', WHERE WHAT IT READS IS OF BULK AT MOST 1048576: true; the input reads as it did. -/
def bookMirrorUptoRow : OpenClaim := { program := "ytlffcoefejhabaa", sum := "81a975d7bd9e6c8a257effa6c87cffc400c70e03b943cc86021b560a3438dabc", func := "rialto/rialtolaw13.BookMirror", spec := "bookMirror", inPlace := ["slices.overlaps[rialto/api.Owed]", "slices.overlaps[rialto/api.Order]"], unfollowed := true, recurses := true, apart := false, narrowed := true }
def BookMirrorUptoSaid : Prop := bookMirrorUptoRow.holds Try.pinned (OpenSpec.upto bookMirrorSpec)

/-- 'rialtolaw13.BookHolds', WHERE WHAT IT READS IS OF BULK AT MOST 1048576: true; the input reads as it did. -/
def bookHoldsUptoRow : OpenClaim := { program := "ytlffcoefejhabaa", sum := "81a975d7bd9e6c8a257effa6c87cffc400c70e03b943cc86021b560a3438dabc", func := "rialto/rialtolaw13.BookHolds", spec := "bookHolds", inPlace := ["slices.overlaps[rialto/api.Owed]", "slices.overlaps[rialto/api.Order]"], unfollowed := true, recurses := true, apart := false, narrowed := true }
def BookHoldsUptoSaid : Prop := bookHoldsUptoRow.holds Try.pinned (OpenSpec.upto bookHoldsSpec)

/-- 'rialtolaw13.BookSound', WHERE WHAT IT READS IS OF BULK AT MOST 1048576: true; the input reads as it did. -/
def bookSoundUptoRow : OpenClaim := { program := "ytlffcoefejhabaa", sum := "81a975d7bd9e6c8a257effa6c87cffc400c70e03b943cc86021b560a3438dabc", func := "rialto/rialtolaw13.BookSound", spec := "bookSound", inPlace := ["slices.overlaps[rialto/api.Owed]", "slices.overlaps[rialto/api.Order]"], unfollowed := true, recurses := true, apart := false, narrowed := true }
def BookSoundUptoSaid : Prop := bookSoundUptoRow.holds Try.pinned (OpenSpec.upto bookSoundSpec)

end Rows
end Go.Proofs.Ytlffcoefejhabaa
