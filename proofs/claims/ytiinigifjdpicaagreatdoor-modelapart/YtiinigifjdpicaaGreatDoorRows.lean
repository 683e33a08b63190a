/-
  NARROWER THAN 'FOR EVERY INPUT', by the rows' own cells (each row's printed sentence says how): ModelRejects: laid · ModelBack: laid · ModelUndo: laid · ModelApart: laid · ModelTotals: laid · ModelNets: laid.
  DERIVED. THE GIVEN ROWS OF THIS SEAT. 6 by the template 'for every input the law returns true; each argument reads behind the call as it read before'; 0 by the template 'total and deterministic' (their statements: YtiinigifjdpicaaGreatDoorTotals.lean).
  GIVEN WITH THE SEED: the statements are not yours to turn. If you find one false, say at which input.
  Laid BY PROGRAM, IN A SANDBOX (cutbox-rows.mjs): the forced cells as the released guide's own fill.sh prints them over the translation 8a35de3d58b5b0c8… (all of the seat's roots in one cut). By AI agents, Wed Nov 11 2026. No macro, syntax, notation, axiom, sorry.
-/
import Derived.Test.YtiinigifjdpicaaGreatDoorChecked
import GoSem.Claim
import GoSem.ClaimJoined
import GoSem.ClaimMapViews
import Derived.JoinedTies
import Derived.KernelRfl
namespace Go.Proofs.YtiinigifjdpicaaGreatDoor
/- THE CELL 'sum', in the pinned program and in every row, IS THE sha256 OF THE DUMP (.gsa) THAT YtiinigifjdpicaaGreatDoorProg.lean LOADS. Nothing in Lean hashes anything: it is a label: what it is worth is what the hold of that sum in a sandbox is worth. -/
noncomputable def Tryz.pinned : Pinned := { name := "ytiinigifjdpicaagreatdoor", sum := "8a35de3d58b5b0c80706a3489f9d35cda8ab96bc3b5ecd308eb9ba166d6e2abe", checked := Tryz.checked }
namespace Rows
def none {H : Type} : Left H := { results := [], args := [] }

/- WHAT THE LISTED PACKAGE-LEVEL VARIABLES READ AS WHEN THE CALL BEGINS. Each datum BY PROGRAM (the guide's laid-datum.mjs) off the statement by which the dump's own 'gosem.cut.vars' lays the variable. In a bare row this is a premise. The card (YtiinigifjdpicaaGreatDoorCards.lean) ties it to the program's text. -/
def laid_rialto_session_forms {H : Type} : DataW H := .agg [.agg [.lit (.int .i64 0), .lit (.int .i64 0)], .agg [.lit (.int .i64 37), .lit (.int .i64 1)], .agg [.lit (.int .i64 37), .lit (.int .i64 1)], .agg [.lit (.int .i64 123), .lit (.int .i64 3)], .agg [.lit (.int .i64 35), .lit (.int .i64 2)], .agg [.lit (.int .i64 2), .lit (.int .i64 2)], .agg [.lit (.int .i64 2), .lit (.int .i64 2)], .agg [.lit (.int .i64 1), .lit (.int .i64 5)], .agg [.lit (.int .i64 1), .lit (.int .i64 1)], .agg [.lit (.int .i64 384), .lit (.int .i64 8)]]

/-- 'rialtolaw22.ModelRejects': WHATEVER THE INPUT: true; the input reads as it did. -/
def modelRejectsSpec : ChangeSpec := { name := "modelRejects", fn := fun _ => fun
  | [d1, d2] => { results := [.lit (.bool true)], args := [d1, d2] }
  | _ => none }
def modelRejectsRow : OpenClaim := { program := "ytiinigifjdpicaagreatdoor", sum := "8a35de3d58b5b0c80706a3489f9d35cda8ab96bc3b5ecd308eb9ba166d6e2abe", func := "rialto/rialtolaw22.ModelRejects", spec := "modelRejects", inPlace := ["slices.overlaps[rialto/api.Owed]", "slices.overlaps[rialto/api.Order]"], unfollowed := true, recurses := true, named := ["rialto/session.forms"], plainKeys := false, apart := false, laid := [("rialto/session.forms", laid_rialto_session_forms)] }
def ModelRejectsSaid : Prop := modelRejectsRow.holds Tryz.pinned (OpenSpec.ofChange modelRejectsSpec)

/-- ITS FALSE NEIGHBOUR: 'it returns false'. Refute it at one input. -/
def modelRejectsWrong : ChangeSpec := { name := "modelRejects", fn := fun _ => fun
  | [d1, d2] => { results := [.lit (.bool false)], args := [d1, d2] }
  | _ => none }
def ModelRejectsWrongFalsely : Prop := modelRejectsRow.holds Tryz.pinned (OpenSpec.ofChange modelRejectsWrong)

/-- 'rialtolaw22.ModelBack': WHATEVER THE INPUT: true; the input reads as it did. -/
def modelBackSpec : ChangeSpec := { name := "modelBack", fn := fun _ => fun
  | [d1, d2] => { results := [.lit (.bool true)], args := [d1, d2] }
  | _ => none }
def modelBackRow : OpenClaim := { program := "ytiinigifjdpicaagreatdoor", sum := "8a35de3d58b5b0c80706a3489f9d35cda8ab96bc3b5ecd308eb9ba166d6e2abe", func := "rialto/rialtolaw22.ModelBack", spec := "modelBack", inPlace := ["slices.overlaps[rialto/api.Owed]", "slices.overlaps[rialto/api.Order]"], unfollowed := true, recurses := true, named := ["rialto/session.forms"], plainKeys := false, apart := false, laid := [("rialto/session.forms", laid_rialto_session_forms)] }
def ModelBackSaid : Prop := modelBackRow.holds Tryz.pinned (OpenSpec.ofChange modelBackSpec)

/-- ITS FALSE NEIGHBOUR: 'it returns false'. Refute it at one input. -/
def modelBackWrong : ChangeSpec := { name := "modelBack", fn := fun _ => fun
  | [d1, d2] => { results := [.lit (.bool false)], args := [d1, d2] }
  | _ => none }
def ModelBackWrongFalsely : Prop := modelBackRow.holds Tryz.pinned (OpenSpec.ofChange modelBackWrong)

/-- 'rialtolaw22.ModelUndo': WHATEVER THE INPUT: true; the input reads as it did. -/
def modelUndoSpec : ChangeSpec := { name := "modelUndo", fn := fun _ => fun
  | [d1, d2] => { results := [.lit (.bool true)], args := [d1, d2] }
  | _ => none }
def modelUndoRow : OpenClaim := { program := "ytiinigifjdpicaagreatdoor", sum := "8a35de3d58b5b0c80706a3489f9d35cda8ab96bc3b5ecd308eb9ba166d6e2abe", func := "rialto/rialtolaw22.ModelUndo", spec := "modelUndo", inPlace := ["slices.overlaps[rialto/api.Owed]", "slices.overlaps[rialto/api.Order]"], unfollowed := true, recurses := true, named := ["rialto/session.forms"], plainKeys := false, apart := false, laid := [("rialto/session.forms", laid_rialto_session_forms)] }
def ModelUndoSaid : Prop := modelUndoRow.holds Tryz.pinned (OpenSpec.ofChange modelUndoSpec)

/-- ITS FALSE NEIGHBOUR: 'it returns false'. Refute it at one input. -/
def modelUndoWrong : ChangeSpec := { name := "modelUndo", fn := fun _ => fun
  | [d1, d2] => { results := [.lit (.bool false)], args := [d1, d2] }
  | _ => none }
def ModelUndoWrongFalsely : Prop := modelUndoRow.holds Tryz.pinned (OpenSpec.ofChange modelUndoWrong)

/-- 'rialtolaw22.ModelApart': WHATEVER THE INPUT: true; the input reads as it did. -/
def modelApartSpec : ChangeSpec := { name := "modelApart", fn := fun _ => fun
  | [d1, d2, d3] => { results := [.lit (.bool true)], args := [d1, d2, d3] }
  | _ => none }
def modelApartRow : OpenClaim := { program := "ytiinigifjdpicaagreatdoor", sum := "8a35de3d58b5b0c80706a3489f9d35cda8ab96bc3b5ecd308eb9ba166d6e2abe", func := "rialto/rialtolaw22.ModelApart", spec := "modelApart", inPlace := ["slices.overlaps[rialto/api.Owed]", "slices.overlaps[rialto/api.Order]"], unfollowed := true, recurses := true, named := ["rialto/session.forms"], plainKeys := false, apart := false, laid := [("rialto/session.forms", laid_rialto_session_forms)] }
def ModelApartSaid : Prop := modelApartRow.holds Tryz.pinned (OpenSpec.ofChange modelApartSpec)

/-- ITS FALSE NEIGHBOUR: 'it returns false'. Refute it at one input. -/
def modelApartWrong : ChangeSpec := { name := "modelApart", fn := fun _ => fun
  | [d1, d2, d3] => { results := [.lit (.bool false)], args := [d1, d2, d3] }
  | _ => none }
def ModelApartWrongFalsely : Prop := modelApartRow.holds Tryz.pinned (OpenSpec.ofChange modelApartWrong)

/-- 'rialtolaw22.ModelTotals': WHATEVER THE INPUT: true; the input reads as it did. -/
def modelTotalsSpec : ChangeSpec := { name := "modelTotals", fn := fun _ => fun
  | [d] => { results := [.lit (.bool true)], args := [d] }
  | _ => none }
def modelTotalsRow : OpenClaim := { program := "ytiinigifjdpicaagreatdoor", sum := "8a35de3d58b5b0c80706a3489f9d35cda8ab96bc3b5ecd308eb9ba166d6e2abe", func := "rialto/rialtolaw22.ModelTotals", spec := "modelTotals", inPlace := ["slices.overlaps[rialto/api.Owed]", "slices.overlaps[rialto/api.Order]"], unfollowed := true, recurses := true, named := ["rialto/session.forms"], plainKeys := false, apart := false, laid := [("rialto/session.forms", laid_rialto_session_forms)] }
def ModelTotalsSaid : Prop := modelTotalsRow.holds Tryz.pinned (OpenSpec.ofChange modelTotalsSpec)

/-- ITS FALSE NEIGHBOUR: 'it returns false'. Refute it at one input. -/
def modelTotalsWrong : ChangeSpec := { name := "modelTotals", fn := fun _ => fun
  | [d] => { results := [.lit (.bool false)], args := [d] }
  | _ => none }
def ModelTotalsWrongFalsely : Prop := modelTotalsRow.holds Tryz.pinned (OpenSpec.ofChange modelTotalsWrong)

/-- 'rialtolaw22.ModelNets': WHATEVER THE INPUT: true; the input reads as it did. -/
def modelNetsSpec : ChangeSpec := { name := "modelNets", fn := fun _ => fun
  | [d1, d2] => { results := [.lit (.bool true)], args := [d1, d2] }
  | _ => none }
def modelNetsRow : OpenClaim := { program := "ytiinigifjdpicaagreatdoor", sum := "8a35de3d58b5b0c80706a3489f9d35cda8ab96bc3b5ecd308eb9ba166d6e2abe", func := "rialto/rialtolaw22.ModelNets", spec := "modelNets", inPlace := ["slices.overlaps[rialto/api.Owed]", "slices.overlaps[rialto/api.Order]"], unfollowed := true, recurses := true, named := ["rialto/session.forms"], plainKeys := false, apart := false, laid := [("rialto/session.forms", laid_rialto_session_forms)] }
def ModelNetsSaid : Prop := modelNetsRow.holds Tryz.pinned (OpenSpec.ofChange modelNetsSpec)

/-- ITS FALSE NEIGHBOUR: 'it returns false'. Refute it at one input. -/
def modelNetsWrong : ChangeSpec := { name := "modelNets", fn := fun _ => fun
  | [d1, d2] => { results := [.lit (.bool false)], args := [d1, d2] }
  | _ => none }
def ModelNetsWrongFalsely : Prop := modelNetsRow.holds Tryz.pinned (OpenSpec.ofChange modelNetsWrong)

/- THE SECOND FORM. 'bulk': how many values and letters a reading holds, each counted each time it is reached (what is shared counts as often as it is met; a slice's spare places count too). A statement '..UptoSaid' is the law's where the arguments, and the package variables that the reading takes, are together of bulk at most 1048576: NARROWER than '..Said'. Prove '..Said' where nothing that the law and all that it calls make is longer than what came in: it says more and counts as full. Else prove '..UptoSaid'. A law counts once. -/
mutual
def uptoBulk {H : Type} : DataW H → Nat
  | .lit (.string bytes) => bytes.length + 1
  | .lit _ => 1
  | .nil => 1
  | .ptr d => uptoBulk d + 1
  | .slice elems spare => uptoBulkAll elems + uptoBulkAll spare + 1
  | .agg parts => uptoBulkAll parts + 1
  | .iface _ d => uptoBulk d + 1
  | .map entries => uptoBulkEntries entries + 1
  | .held _ => 1
def uptoBulkAll {H : Type} : List (DataW H) → Nat
  | [] => 0
  | d :: r => uptoBulk d + uptoBulkAll r
def uptoBulkEntries {H : Type} : List (Lit × DataW H) → Nat
  | [] => 0
  | x :: r => uptoBulkEntry x + uptoBulkEntries r
def uptoBulkEntry {H : Type} : Lit × DataW H → Nat
  | (.string bytes, d) => bytes.length + uptoBulk d + 1
  | (_, d) => uptoBulk d + 1
 end
def uptoSmall : (H : Type) → List (DataW H) → Bool := fun _ ds => decide (uptoBulkAll ds ≤ 1048576)
def OpenSpec.upto (s : _root_.Go.ChangeSpec) : _root_.Go.OpenSpec := { _root_.Go.OpenSpec.ofChange s with cond := some uptoSmall }

/-- 'rialtolaw22.ModelRejects', WHERE WHAT IT READS IS OF BULK AT MOST 1048576: true; the input reads as it did. -/
def modelRejectsUptoRow : OpenClaim := { program := "ytiinigifjdpicaagreatdoor", sum := "8a35de3d58b5b0c80706a3489f9d35cda8ab96bc3b5ecd308eb9ba166d6e2abe", func := "rialto/rialtolaw22.ModelRejects", spec := "modelRejects", inPlace := ["slices.overlaps[rialto/api.Owed]", "slices.overlaps[rialto/api.Order]"], unfollowed := true, recurses := true, named := ["rialto/session.forms"], plainKeys := false, apart := false, laid := [("rialto/session.forms", laid_rialto_session_forms)], narrowed := true }
def ModelRejectsUptoSaid : Prop := modelRejectsUptoRow.holds Tryz.pinned (OpenSpec.upto modelRejectsSpec)

/-- 'rialtolaw22.ModelBack', WHERE WHAT IT READS IS OF BULK AT MOST 1048576: true; the input reads as it did. -/
def modelBackUptoRow : OpenClaim := { program := "ytiinigifjdpicaagreatdoor", sum := "8a35de3d58b5b0c80706a3489f9d35cda8ab96bc3b5ecd308eb9ba166d6e2abe", func := "rialto/rialtolaw22.ModelBack", spec := "modelBack", inPlace := ["slices.overlaps[rialto/api.Owed]", "slices.overlaps[rialto/api.Order]"], unfollowed := true, recurses := true, named := ["rialto/session.forms"], plainKeys := false, apart := false, laid := [("rialto/session.forms", laid_rialto_session_forms)], narrowed := true }
def ModelBackUptoSaid : Prop := modelBackUptoRow.holds Tryz.pinned (OpenSpec.upto modelBackSpec)

/-- 'rialtolaw22.ModelUndo', WHERE WHAT IT READS IS OF BULK AT MOST 1048576: true; the input reads as it did. -/
def modelUndoUptoRow : OpenClaim := { program := "ytiinigifjdpicaagreatdoor", sum := "8a35de3d58b5b0c80706a3489f9d35cda8ab96bc3b5ecd308eb9ba166d6e2abe", func := "rialto/rialtolaw22.ModelUndo", spec := "modelUndo", inPlace := ["slices.overlaps[rialto/api.Owed]", "slices.overlaps[rialto/api.Order]"], unfollowed := true, recurses := true, named := ["rialto/session.forms"], plainKeys := false, apart := false, laid := [("rialto/session.forms", laid_rialto_session_forms)], narrowed := true }
def ModelUndoUptoSaid : Prop := modelUndoUptoRow.holds Tryz.pinned (OpenSpec.upto modelUndoSpec)

/-- 'rialtolaw22.ModelApart', WHERE WHAT IT READS IS OF BULK AT MOST 1048576: true; the input reads as it did. -/
def modelApartUptoRow : OpenClaim := { program := "ytiinigifjdpicaagreatdoor", sum := "8a35de3d58b5b0c80706a3489f9d35cda8ab96bc3b5ecd308eb9ba166d6e2abe", func := "rialto/rialtolaw22.ModelApart", spec := "modelApart", inPlace := ["slices.overlaps[rialto/api.Owed]", "slices.overlaps[rialto/api.Order]"], unfollowed := true, recurses := true, named := ["rialto/session.forms"], plainKeys := false, apart := false, laid := [("rialto/session.forms", laid_rialto_session_forms)], narrowed := true }
def ModelApartUptoSaid : Prop := modelApartUptoRow.holds Tryz.pinned (OpenSpec.upto modelApartSpec)

/-- 'rialtolaw22.ModelTotals', WHERE WHAT IT READS IS OF BULK AT MOST 1048576: true; the input reads as it did. -/
def modelTotalsUptoRow : OpenClaim := { program := "ytiinigifjdpicaagreatdoor", sum := "8a35de3d58b5b0c80706a3489f9d35cda8ab96bc3b5ecd308eb9ba166d6e2abe", func := "rialto/rialtolaw22.ModelTotals", spec := "modelTotals", inPlace := ["slices.overlaps[rialto/api.Owed]", "slices.overlaps[rialto/api.Order]"], unfollowed := true, recurses := true, named := ["rialto/session.forms"], plainKeys := false, apart := false, laid := [("rialto/session.forms", laid_rialto_session_forms)], narrowed := true }
def ModelTotalsUptoSaid : Prop := modelTotalsUptoRow.holds Tryz.pinned (OpenSpec.upto modelTotalsSpec)

/-- 'rialtolaw22.ModelNets', WHERE WHAT IT READS IS OF BULK AT MOST 1048576: true; the input reads as it did. -/
def modelNetsUptoRow : OpenClaim := { program := "ytiinigifjdpicaagreatdoor", sum := "8a35de3d58b5b0c80706a3489f9d35cda8ab96bc3b5ecd308eb9ba166d6e2abe", func := "rialto/rialtolaw22.ModelNets", spec := "modelNets", inPlace := ["slices.overlaps[rialto/api.Owed]", "slices.overlaps[rialto/api.Order]"], unfollowed := true, recurses := true, named := ["rialto/session.forms"], plainKeys := false, apart := false, laid := [("rialto/session.forms", laid_rialto_session_forms)], narrowed := true }
def ModelNetsUptoSaid : Prop := modelNetsUptoRow.holds Tryz.pinned (OpenSpec.upto modelNetsSpec)

end Rows
end Go.Proofs.YtiinigifjdpicaaGreatDoor
