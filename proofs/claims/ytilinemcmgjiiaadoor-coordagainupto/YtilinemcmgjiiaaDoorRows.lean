/-
  NARROWER THAN 'FOR EVERY INPUT', by the rows' own cells (each row's printed sentence says how): CoordFirm: laid · CoordMarks: laid · CoordAll: laid · CoordAgain: laid.
  DERIVED. THE GIVEN ROWS OF THIS SEAT. 4 by the template 'for every input the law returns true; each argument reads behind the call as it read before'; 0 by the template 'total and deterministic' (their statements: YtilinemcmgjiiaaDoorTotals.lean).
  GIVEN WITH THE SEED: the statements are not yours to turn. If you find one false, say at which input.
  Laid BY PROGRAM, IN A SANDBOX (cutbox-rows.mjs): the forced cells as the released guide's own fill.sh prints them over the translation 44a7e9a55a915cad… (all of the seat's roots in one cut). By AI agents, Wed Nov 11 2026. No macro, syntax, notation, axiom, sorry.
-/
import Derived.Test.YtilinemcmgjiiaaDoorChecked
import GoSem.Claim
import GoSem.ClaimJoined
import GoSem.ClaimMapViews
import Derived.JoinedTies
import Derived.KernelRfl
namespace Go.Proofs.YtilinemcmgjiiaaDoor
/- THE CELL 'sum', in the pinned program and in every row, IS THE sha256 OF THE DUMP (.gsa) THAT YtilinemcmgjiiaaDoorProg.lean LOADS. Nothing in Lean hashes anything: it is a label: what it is worth is what the hold of that sum in a sandbox is worth. -/
noncomputable def Tryd.pinned : Pinned := { name := "ytilinemcmgjiiaadoor", sum := "44a7e9a55a915cadf7cc75d3d20b1ede38f751fefb66094cd7b345e3940d2bcf", checked := Tryd.checked }
namespace Rows
def none {H : Type} : Left H := { results := [], args := [] }

/- WHAT THE LISTED PACKAGE-LEVEL VARIABLES READ AS WHEN THE CALL BEGINS. Each datum BY PROGRAM (the guide's laid-datum.mjs) off the statement by which the dump's own 'gosem.cut.vars' lays the variable. In a bare row this is a premise. The card (YtilinemcmgjiiaaDoorCards.lean) ties it to the program's text. -/
def laid_rialto_session_forms {H : Type} : DataW H := .agg [.agg [.lit (.int .i64 0), .lit (.int .i64 0)], .agg [.lit (.int .i64 37), .lit (.int .i64 1)], .agg [.lit (.int .i64 37), .lit (.int .i64 1)], .agg [.lit (.int .i64 123), .lit (.int .i64 3)], .agg [.lit (.int .i64 35), .lit (.int .i64 2)], .agg [.lit (.int .i64 2), .lit (.int .i64 2)], .agg [.lit (.int .i64 2), .lit (.int .i64 2)], .agg [.lit (.int .i64 1), .lit (.int .i64 5)], .agg [.lit (.int .i64 1), .lit (.int .i64 1)], .agg [.lit (.int .i64 384), .lit (.int .i64 8)]]

/-- 'rialtolaw19.CoordFirm': WHATEVER THE INPUT: true; the input reads as it did. -/
def coordFirmSpec : ChangeSpec := { name := "coordFirm", fn := fun _ => fun
  | [d1, d2] => { results := [.lit (.bool true)], args := [d1, d2] }
  | _ => none }
def coordFirmRow : OpenClaim := { program := "ytilinemcmgjiiaadoor", sum := "44a7e9a55a915cadf7cc75d3d20b1ede38f751fefb66094cd7b345e3940d2bcf", func := "rialto/rialtolaw19.CoordFirm", spec := "coordFirm", unfollowed := true, recurses := true, named := ["rialto/session.forms"], apart := false, laid := [("rialto/session.forms", laid_rialto_session_forms)] }
def CoordFirmSaid : Prop := coordFirmRow.holds Tryd.pinned (OpenSpec.ofChange coordFirmSpec)

/-- ITS FALSE NEIGHBOUR: 'it returns false'. Refute it at one input. -/
def coordFirmWrong : ChangeSpec := { name := "coordFirm", fn := fun _ => fun
  | [d1, d2] => { results := [.lit (.bool false)], args := [d1, d2] }
  | _ => none }
def CoordFirmWrongFalsely : Prop := coordFirmRow.holds Tryd.pinned (OpenSpec.ofChange coordFirmWrong)

/-- 'rialtolaw19.CoordMarks': WHATEVER THE INPUT: true; the input reads as it did. -/
def coordMarksSpec : ChangeSpec := { name := "coordMarks", fn := fun _ => fun
  | [d1, d2] => { results := [.lit (.bool true)], args := [d1, d2] }
  | _ => none }
def coordMarksRow : OpenClaim := { program := "ytilinemcmgjiiaadoor", sum := "44a7e9a55a915cadf7cc75d3d20b1ede38f751fefb66094cd7b345e3940d2bcf", func := "rialto/rialtolaw19.CoordMarks", spec := "coordMarks", unfollowed := true, recurses := true, named := ["rialto/session.forms"], apart := false, laid := [("rialto/session.forms", laid_rialto_session_forms)] }
def CoordMarksSaid : Prop := coordMarksRow.holds Tryd.pinned (OpenSpec.ofChange coordMarksSpec)

/-- ITS FALSE NEIGHBOUR: 'it returns false'. Refute it at one input. -/
def coordMarksWrong : ChangeSpec := { name := "coordMarks", fn := fun _ => fun
  | [d1, d2] => { results := [.lit (.bool false)], args := [d1, d2] }
  | _ => none }
def CoordMarksWrongFalsely : Prop := coordMarksRow.holds Tryd.pinned (OpenSpec.ofChange coordMarksWrong)

/-- 'rialtolaw19.CoordAll': WHATEVER THE INPUT: true; the input reads as it did. -/
def coordAllSpec : ChangeSpec := { name := "coordAll", fn := fun _ => fun
  | [d1, d2] => { results := [.lit (.bool true)], args := [d1, d2] }
  | _ => none }
def coordAllRow : OpenClaim := { program := "ytilinemcmgjiiaadoor", sum := "44a7e9a55a915cadf7cc75d3d20b1ede38f751fefb66094cd7b345e3940d2bcf", func := "rialto/rialtolaw19.CoordAll", spec := "coordAll", unfollowed := true, recurses := true, named := ["rialto/session.forms"], apart := false, laid := [("rialto/session.forms", laid_rialto_session_forms)] }
def CoordAllSaid : Prop := coordAllRow.holds Tryd.pinned (OpenSpec.ofChange coordAllSpec)

/-- ITS FALSE NEIGHBOUR: 'it returns false'. Refute it at one input. -/
def coordAllWrong : ChangeSpec := { name := "coordAll", fn := fun _ => fun
  | [d1, d2] => { results := [.lit (.bool false)], args := [d1, d2] }
  | _ => none }
def CoordAllWrongFalsely : Prop := coordAllRow.holds Tryd.pinned (OpenSpec.ofChange coordAllWrong)

/-- 'rialtolaw19.CoordAgain': WHATEVER THE INPUT: true; the input reads as it did. -/
def coordAgainSpec : ChangeSpec := { name := "coordAgain", fn := fun _ => fun
  | [d1, d2] => { results := [.lit (.bool true)], args := [d1, d2] }
  | _ => none }
def coordAgainRow : OpenClaim := { program := "ytilinemcmgjiiaadoor", sum := "44a7e9a55a915cadf7cc75d3d20b1ede38f751fefb66094cd7b345e3940d2bcf", func := "rialto/rialtolaw19.CoordAgain", spec := "coordAgain", unfollowed := true, recurses := true, named := ["rialto/session.forms"], apart := false, laid := [("rialto/session.forms", laid_rialto_session_forms)] }
def CoordAgainSaid : Prop := coordAgainRow.holds Tryd.pinned (OpenSpec.ofChange coordAgainSpec)

/-- ITS FALSE NEIGHBOUR: 'it returns false'. Refute it at one input. -/
def coordAgainWrong : ChangeSpec := { name := "coordAgain", fn := fun _ => fun
  | [d1, d2] => { results := [.lit (.bool false)], args := [d1, d2] }
  | _ => none }
def CoordAgainWrongFalsely : Prop := coordAgainRow.holds Tryd.pinned (OpenSpec.ofChange coordAgainWrong)

/- THE SECOND FORM. 'bulk': how many values and letters a reading holds, each counted each time it is reached (what is shared counts as often as it is met; a slice's spare places count too). A statement '..UptoSaid' is the law's where the arguments, and the package variables that the reading takes, are together of bulk at most 1048576: NARROWER than '..Said'. Prove '..Said' where nothing that the law and all that it calls make is longer than what came in: it says more and counts as full. Else prove '..UptoSaid'. A law counts once. -/
mutual
def uptoBulk {H : Type} : DataW H → Nat
  | .lit (.string bytes) => bytes.length + 1
  | .lit _ => 1
  | .nil => 1
  | .ptr d => uptoBulk d + 1
  | .slice elems spare => uptoBulkAll elems + uptoBulkAll spare + 1
  | .agg parts => uptoBulkAll parts + 1
  | .iface _ d => uptoBulk d + 1
  | .map entries => uptoBulkEntries entries + 1
  | .held _ => 1
def uptoBulkAll {H : Type} : List (DataW H) → Nat
  | [] => 0
  | d :: r => uptoBulk d + uptoBulkAll r
def uptoBulkEntries {H : Type} : List (Lit × DataW H) → Nat
  | [] => 0
  | x :: r => uptoBulkEntry x + uptoBulkEntries r
def uptoBulkEntry {H : Type} : Lit × DataW H → Nat
  | (.string bytes, d) => bytes.length + uptoBulk d + 1
  | (_, d) => uptoBulk d + 1
 end
def uptoSmall : (H : Type) → List (DataW H) → Bool := fun _ ds => decide (uptoBulkAll ds ≤ 1048576)
def OpenSpec.upto (s : _root_.Go.ChangeSpec) : _root_.Go.OpenSpec := { _root_.Go.OpenSpec.ofChange s with cond := some uptoSmall }

/-- 'rialtolaw19.CoordFirm', WHERE WHAT IT READS IS OF BULK AT MOST 1048576: true; the input reads as it did. -/
def coordFirmUptoRow : OpenClaim := { program := "ytilinemcmgjiiaadoor", sum := "44a7e9a55a915cadf7cc75d3d20b1ede38f751fefb66094cd7b345e3940d2bcf", func := "rialto/rialtolaw19.CoordFirm", spec := "coordFirm", unfollowed := true, recurses := true, named := ["rialto/session.forms"], apart := false, laid := [("rialto/session.forms", laid_rialto_session_forms)], narrowed := true }
def CoordFirmUptoSaid : Prop := coordFirmUptoRow.holds Tryd.pinned (OpenSpec.upto coordFirmSpec)

/-- 'rialtolaw19.CoordMarks', WHERE WHAT IT READS IS OF BULK AT MOST 1048576: true; the input reads as it did. -/
def coordMarksUptoRow : OpenClaim := { program := "ytilinemcmgjiiaadoor", sum := "44a7e9a55a915cadf7cc75d3d20b1ede38f751fefb66094cd7b345e3940d2bcf", func := "rialto/rialtolaw19.CoordMarks", spec := "coordMarks", unfollowed := true, recurses := true, named := ["rialto/session.forms"], apart := false, laid := [("rialto/session.forms", laid_rialto_session_forms)], narrowed := true }
def CoordMarksUptoSaid : Prop := coordMarksUptoRow.holds Tryd.pinned (OpenSpec.upto coordMarksSpec)

/-- 'rialtolaw19.CoordAll', WHERE WHAT IT READS IS OF BULK AT MOST 1048576: true; the input reads as it did. -/
def coordAllUptoRow : OpenClaim := { program := "ytilinemcmgjiiaadoor", sum := "44a7e9a55a915cadf7cc75d3d20b1ede38f751fefb66094cd7b345e3940d2bcf", func := "rialto/rialtolaw19.CoordAll", spec := "coordAll", unfollowed := true, recurses := true, named := ["rialto/session.forms"], apart := false, laid := [("rialto/session.forms", laid_rialto_session_forms)], narrowed := true }
def CoordAllUptoSaid : Prop := coordAllUptoRow.holds Tryd.pinned (OpenSpec.upto coordAllSpec)

/-- 'rialtolaw19.CoordAgain', WHERE WHAT IT READS IS OF BULK AT MOST 1048576: true; the input reads as it did. -/
def coordAgainUptoRow : OpenClaim := { program := "ytilinemcmgjiiaadoor", sum := "44a7e9a55a915cadf7cc75d3d20b1ede38f751fefb66094cd7b345e3940d2bcf", func := "rialto/rialtolaw19.CoordAgain", spec := "coordAgain", unfollowed := true, recurses := true, named := ["rialto/session.forms"], apart := false, laid := [("rialto/session.forms", laid_rialto_session_forms)], narrowed := true }
def CoordAgainUptoSaid : Prop := coordAgainUptoRow.holds Tryd.pinned (OpenSpec.upto coordAgainSpec)

end Rows
end Go.Proofs.YtilinemcmgjiiaaDoor
