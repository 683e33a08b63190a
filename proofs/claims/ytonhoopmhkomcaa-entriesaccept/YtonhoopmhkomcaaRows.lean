/-
  No cell of these rows narrows 'for every input' (looked for: loops, veiled, ifaces, maps, wideKeys, modest, calm, conditions, laid).
  DERIVED. THE GIVEN ROWS OF THIS SEAT. 6 by the template 'for every input the law returns true; each argument reads behind the call as it read before'; 0 by the template 'total and deterministic' (their statements: YtonhoopmhkomcaaTotals.lean).
  GIVEN WITH THE SEED: the statements are not yours to turn. If you find one false, say at which input.
  Laid BY PROGRAM, IN A SANDBOX (cutbox-rows.mjs): the forced cells as the released guide's own fill.sh prints them over the translation 16e186dbe8b1747a… (all of the seat's roots in one cut). By AI agents, Wed Nov 11 2026. No macro, syntax, notation, axiom, sorry.
-/
import Derived.Test.YtonhoopmhkomcaaChecked
import GoSem.Claim
import GoSem.ClaimJoined
import GoSem.ClaimMapViews
import Derived.JoinedTies
import Derived.KernelRfl
namespace Go.Proofs.Ytonhoopmhkomcaa
/- THE CELL 'sum', in the pinned program and in every row, IS THE sha256 OF THE DUMP (.gsa) THAT YtonhoopmhkomcaaProg.lean LOADS. Nothing in Lean hashes anything: it is a label: what it is worth is what the hold of that sum in a sandbox is worth. -/
noncomputable def Try.pinned : Pinned := { name := "ytonhoopmhkomcaa", sum := "16e186dbe8b1747a76fe35747c70829a17984c2f465809fa35cdd70d3a4422bb", checked := Try.checked }
namespace Rows
def none {H : Type} : Left H := { results := [], args := [] }

/-- 'rialtolaw08.EntriesTell': WHATEVER THE INPUT: true; the input reads as it did. -/
def entriesTellSpec : ChangeSpec := { name := "entriesTell", fn := fun _ => fun
  | [d1, d2, d3] => { results := [.lit (.bool true)], args := [d1, d2, d3] }
  | _ => none }
def entriesTellRow : OpenClaim := { program := "ytonhoopmhkomcaa", sum := "16e186dbe8b1747a76fe35747c70829a17984c2f465809fa35cdd70d3a4422bb", func := "rialto/rialtolaw08.EntriesTell", spec := "entriesTell", recurses := true, apart := false }
def EntriesTellSaid : Prop := entriesTellRow.holds Try.pinned (OpenSpec.ofChange entriesTellSpec)

/-- ITS FALSE NEIGHBOUR: 'it returns false'. Refute it at one input. -/
def entriesTellWrong : ChangeSpec := { name := "entriesTell", fn := fun _ => fun
  | [d1, d2, d3] => { results := [.lit (.bool false)], args := [d1, d2, d3] }
  | _ => none }
def EntriesTellWrongFalsely : Prop := entriesTellRow.holds Try.pinned (OpenSpec.ofChange entriesTellWrong)

/-- 'rialtolaw08.EntriesAdd': WHATEVER THE INPUT: true; the input reads as it did. -/
def entriesAddSpec : ChangeSpec := { name := "entriesAdd", fn := fun _ => fun
  | [d1, d2] => { results := [.lit (.bool true)], args := [d1, d2] }
  | _ => none }
def entriesAddRow : OpenClaim := { program := "ytonhoopmhkomcaa", sum := "16e186dbe8b1747a76fe35747c70829a17984c2f465809fa35cdd70d3a4422bb", func := "rialto/rialtolaw08.EntriesAdd", spec := "entriesAdd", recurses := true, apart := false }
def EntriesAddSaid : Prop := entriesAddRow.holds Try.pinned (OpenSpec.ofChange entriesAddSpec)

/-- ITS FALSE NEIGHBOUR: 'it returns false'. Refute it at one input. -/
def entriesAddWrong : ChangeSpec := { name := "entriesAdd", fn := fun _ => fun
  | [d1, d2] => { results := [.lit (.bool false)], args := [d1, d2] }
  | _ => none }
def EntriesAddWrongFalsely : Prop := entriesAddRow.holds Try.pinned (OpenSpec.ofChange entriesAddWrong)

/-- 'rialtolaw08.EntriesAccept': WHATEVER THE INPUT: true; the input reads as it did. -/
def entriesAcceptSpec : ChangeSpec := { name := "entriesAccept", fn := fun _ => fun
  | [d1, d2] => { results := [.lit (.bool true)], args := [d1, d2] }
  | _ => none }
def entriesAcceptRow : OpenClaim := { program := "ytonhoopmhkomcaa", sum := "16e186dbe8b1747a76fe35747c70829a17984c2f465809fa35cdd70d3a4422bb", func := "rialto/rialtolaw08.EntriesAccept", spec := "entriesAccept", recurses := true, apart := false }
def EntriesAcceptSaid : Prop := entriesAcceptRow.holds Try.pinned (OpenSpec.ofChange entriesAcceptSpec)

/-- ITS FALSE NEIGHBOUR: 'it returns false'. Refute it at one input. -/
def entriesAcceptWrong : ChangeSpec := { name := "entriesAccept", fn := fun _ => fun
  | [d1, d2] => { results := [.lit (.bool false)], args := [d1, d2] }
  | _ => none }
def EntriesAcceptWrongFalsely : Prop := entriesAcceptRow.holds Try.pinned (OpenSpec.ofChange entriesAcceptWrong)

/-- 'rialtolaw08.EntriesAdvance': WHATEVER THE INPUT: true; the input reads as it did. -/
def entriesAdvanceSpec : ChangeSpec := { name := "entriesAdvance", fn := fun _ => fun
  | [d1, d2, d3] => { results := [.lit (.bool true)], args := [d1, d2, d3] }
  | _ => none }
def entriesAdvanceRow : OpenClaim := { program := "ytonhoopmhkomcaa", sum := "16e186dbe8b1747a76fe35747c70829a17984c2f465809fa35cdd70d3a4422bb", func := "rialto/rialtolaw08.EntriesAdvance", spec := "entriesAdvance", recurses := true, apart := false }
def EntriesAdvanceSaid : Prop := entriesAdvanceRow.holds Try.pinned (OpenSpec.ofChange entriesAdvanceSpec)

/-- ITS FALSE NEIGHBOUR: 'it returns false'. Refute it at one input. -/
def entriesAdvanceWrong : ChangeSpec := { name := "entriesAdvance", fn := fun _ => fun
  | [d1, d2, d3] => { results := [.lit (.bool false)], args := [d1, d2, d3] }
  | _ => none }
def EntriesAdvanceWrongFalsely : Prop := entriesAdvanceRow.holds Try.pinned (OpenSpec.ofChange entriesAdvanceWrong)

/-- 'rialtolaw08.EntriesKeep': WHATEVER THE INPUT: true; the input reads as it did. -/
def entriesKeepSpec : ChangeSpec := { name := "entriesKeep", fn := fun _ => fun
  | [d1, d2] => { results := [.lit (.bool true)], args := [d1, d2] }
  | _ => none }
def entriesKeepRow : OpenClaim := { program := "ytonhoopmhkomcaa", sum := "16e186dbe8b1747a76fe35747c70829a17984c2f465809fa35cdd70d3a4422bb", func := "rialto/rialtolaw08.EntriesKeep", spec := "entriesKeep", recurses := true, apart := false }
def EntriesKeepSaid : Prop := entriesKeepRow.holds Try.pinned (OpenSpec.ofChange entriesKeepSpec)

/-- ITS FALSE NEIGHBOUR: 'it returns false'. Refute it at one input. -/
def entriesKeepWrong : ChangeSpec := { name := "entriesKeep", fn := fun _ => fun
  | [d1, d2] => { results := [.lit (.bool false)], args := [d1, d2] }
  | _ => none }
def EntriesKeepWrongFalsely : Prop := entriesKeepRow.holds Try.pinned (OpenSpec.ofChange entriesKeepWrong)

/-- 'rialtolaw08.EntriesCopy': WHATEVER THE INPUT: true; the input reads as it did. -/
def entriesCopySpec : ChangeSpec := { name := "entriesCopy", fn := fun _ => fun
  | [d1, d2, d3] => { results := [.lit (.bool true)], args := [d1, d2, d3] }
  | _ => none }
def entriesCopyRow : OpenClaim := { program := "ytonhoopmhkomcaa", sum := "16e186dbe8b1747a76fe35747c70829a17984c2f465809fa35cdd70d3a4422bb", func := "rialto/rialtolaw08.EntriesCopy", spec := "entriesCopy", recurses := true, apart := false }
def EntriesCopySaid : Prop := entriesCopyRow.holds Try.pinned (OpenSpec.ofChange entriesCopySpec)

/-- ITS FALSE NEIGHBOUR: 'it returns false'. Refute it at one input. -/
def entriesCopyWrong : ChangeSpec := { name := "entriesCopy", fn := fun _ => fun
  | [d1, d2, d3] => { results := [.lit (.bool false)], args := [d1, d2, d3] }
  | _ => none }
def EntriesCopyWrongFalsely : Prop := entriesCopyRow.holds Try.pinned (OpenSpec.ofChange entriesCopyWrong)

/- THE SECOND FORM. 'bulk': how many values and letters a reading holds, each counted each time it is reached (what is shared counts as often as it is met; a slice's spare places count too). A statement '..UptoSaid' is the law's where the arguments, and the package variables that the reading takes, are together of bulk at most 1048576: NARROWER than '..Said'. Prove '..Said' where nothing that the law and all that it calls make is longer than what came in: it says more and counts as full. Else prove '..UptoSaid'. A law counts once. -/
mutual
def uptoBulk {H : Type} : DataW H → Nat
  | .lit (.string bytes) => bytes.length + 1
  | .lit _ => 1
  | .nil => 1
  | .ptr d => uptoBulk d + 1
  | .slice elems spare => uptoBulkAll elems + uptoBulkAll spare + 1
  | .agg parts => uptoBulkAll parts + 1
  | .iface _ d => uptoBulk d + 1
  | .map entries => uptoBulkEntries entries + 1
  | .held _ => 1
def uptoBulkAll {H : Type} : List (DataW H) → Nat
  | [] => 0
  | d :: r => uptoBulk d + uptoBulkAll r
def uptoBulkEntries {H : Type} : List (Lit × DataW H) → Nat
  | [] => 0
  | x :: r => uptoBulkEntry x + uptoBulkEntries r
def uptoBulkEntry {H : Type} : Lit × DataW H → Nat
  | (.string bytes, d) => bytes.length + uptoBulk d + 1
  | (_, d) => uptoBulk d + 1
 end
def uptoSmall : (H : Type) → List (DataW H) → Bool := fun _ ds => decide (uptoBulkAll ds ≤ 1048576)
def OpenSpec.upto (s : _root_.Go.ChangeSpec) : _root_.Go.OpenSpec := { _root_.Go.OpenSpec.ofChange s with cond := some uptoSmall }

/-- 'rialtolaw08.EntriesTell', WHERE WHAT IT READS IS OF BULK AT MOST 1048576: true; the input reads as it did. -/
def entriesTellUptoRow : OpenClaim := { program := "ytonhoopmhkomcaa", sum := "16e186dbe8b1747a76fe35747c70829a17984c2f465809fa35cdd70d3a4422bb", func := "rialto/rialtolaw08.EntriesTell", spec := "entriesTell", recurses := true, apart := false, narrowed := true }
def EntriesTellUptoSaid : Prop := entriesTellUptoRow.holds Try.pinned (OpenSpec.upto entriesTellSpec)

/-- 'rialtolaw08.EntriesAdd', WHERE WHAT IT READS IS OF BULK AT MOST 1048576: true; the input reads as it did. -/
def entriesAddUptoRow : OpenClaim := { program := "ytonhoopmhkomcaa", sum := "16e186dbe8b1747a76fe35747c70829a17984c2f465809fa35cdd70d3a4422bb", func := "rialto/rialtolaw08.EntriesAdd", spec := "entriesAdd", recurses := true, apart := false, narrowed := true }
def EntriesAddUptoSaid : Prop := entriesAddUptoRow.holds Try.pinned (OpenSpec.upto entriesAddSpec)

/-- 'rialtolaw08.EntriesAccept', WHERE WHAT IT READS IS OF BULK AT MOST 1048576: true; the input reads as it did. -/
def entriesAcceptUptoRow : OpenClaim := { program := "ytonhoopmhkomcaa", sum := "16e186dbe8b1747a76fe35747c70829a17984c2f465809fa35cdd70d3a4422bb", func := "rialto/rialtolaw08.EntriesAccept", spec := "entriesAccept", recurses := true, apart := false, narrowed := true }
def EntriesAcceptUptoSaid : Prop := entriesAcceptUptoRow.holds Try.pinned (OpenSpec.upto entriesAcceptSpec)

/-- 'rialtolaw08.EntriesAdvance', WHERE WHAT IT READS IS OF BULK AT MOST 1048576: true; the input reads as it did. -/
def entriesAdvanceUptoRow : OpenClaim := { program := "ytonhoopmhkomcaa", sum := "16e186dbe8b1747a76fe35747c70829a17984c2f465809fa35cdd70d3a4422bb", func := "rialto/rialtolaw08.EntriesAdvance", spec := "entriesAdvance", recurses := true, apart := false, narrowed := true }
def EntriesAdvanceUptoSaid : Prop := entriesAdvanceUptoRow.holds Try.pinned (OpenSpec.upto entriesAdvanceSpec)

/-- 'rialtolaw08.EntriesKeep', WHERE WHAT IT READS IS OF BULK AT MOST 1048576: true; the input reads as it did. -/
def entriesKeepUptoRow : OpenClaim := { program := "ytonhoopmhkomcaa", sum := "16e186dbe8b1747a76fe35747c70829a17984c2f465809fa35cdd70d3a4422bb", func := "rialto/rialtolaw08.EntriesKeep", spec := "entriesKeep", recurses := true, apart := false, narrowed := true }
def EntriesKeepUptoSaid : Prop := entriesKeepUptoRow.holds Try.pinned (OpenSpec.upto entriesKeepSpec)

/-- 'rialtolaw08.EntriesCopy', WHERE WHAT IT READS IS OF BULK AT MOST 1048576: true; the input reads as it did. -/
def entriesCopyUptoRow : OpenClaim := { program := "ytonhoopmhkomcaa", sum := "16e186dbe8b1747a76fe35747c70829a17984c2f465809fa35cdd70d3a4422bb", func := "rialto/rialtolaw08.EntriesCopy", spec := "entriesCopy", recurses := true, apart := false, narrowed := true }
def EntriesCopyUptoSaid : Prop := entriesCopyUptoRow.holds Try.pinned (OpenSpec.upto entriesCopySpec)

end Rows
end Go.Proofs.Ytonhoopmhkomcaa
