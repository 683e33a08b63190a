/-
  NARROWER THAN 'FOR EVERY INPUT', by the rows' own cells (each row's printed sentence says how): SessionKeys: laid · SessionFits: laid · SessionOnce: laid · SessionApart: laid · SessionBegins: laid · SessionEnds: laid.
  DERIVED. THE GIVEN ROWS OF THIS SEAT. 6 by the template 'for every input the law returns true; each argument reads behind the call as it read before'; 0 by the template 'total and deterministic' (their statements: YtgdgpcheammbpaaDoorTotals.lean).
  GIVEN WITH THE SEED: the statements are not yours to turn. If you find one false, say at which input.
  Laid BY PROGRAM, IN A SANDBOX (cutbox-rows.mjs): the forced cells as the released guide's own fill.sh prints them over the translation 112bedd7ac8057b7… (all of the seat's roots in one cut). By AI agents, Wed Nov 11 2026. No macro, syntax, notation, axiom, sorry.
-/
import Derived.Test.YtgdgpcheammbpaaDoorChecked
import GoSem.Claim
import GoSem.ClaimJoined
import GoSem.ClaimMapViews
import Derived.JoinedTies
import Derived.KernelRfl
namespace Go.Proofs.YtgdgpcheammbpaaDoor
/- THE CELL 'sum', in the pinned program and in every row, IS THE sha256 OF THE DUMP (.gsa) THAT YtgdgpcheammbpaaDoorProg.lean LOADS. Nothing in Lean hashes anything: it is a label: what it is worth is what the hold of that sum in a sandbox is worth. -/
noncomputable def Tryd.pinned : Pinned := { name := "ytgdgpcheammbpaadoor", sum := "112bedd7ac8057b7a234b967b126d6a7a174a8786b33b05da4b6444f58d786f7", checked := Tryd.checked }
namespace Rows
def none {H : Type} : Left H := { results := [], args := [] }

/- WHAT THE LISTED PACKAGE-LEVEL VARIABLES READ AS WHEN THE CALL BEGINS. Each datum BY PROGRAM (the guide's laid-datum.mjs) off the statement by which the dump's own 'gosem.cut.vars' lays the variable. In a bare row this is a premise. The card (YtgdgpcheammbpaaDoorCards.lean) ties it to the program's text. -/
def laid_rialto_session_forms {H : Type} : DataW H := .agg [.agg [.lit (.int .i64 0), .lit (.int .i64 0)], .agg [.lit (.int .i64 37), .lit (.int .i64 1)], .agg [.lit (.int .i64 37), .lit (.int .i64 1)], .agg [.lit (.int .i64 123), .lit (.int .i64 3)], .agg [.lit (.int .i64 35), .lit (.int .i64 2)], .agg [.lit (.int .i64 2), .lit (.int .i64 2)], .agg [.lit (.int .i64 2), .lit (.int .i64 2)], .agg [.lit (.int .i64 1), .lit (.int .i64 5)], .agg [.lit (.int .i64 1), .lit (.int .i64 1)], .agg [.lit (.int .i64 384), .lit (.int .i64 8)]]

/-- 'rialtolaw17.SessionKeys': WHATEVER THE INPUT: true; the input reads as it did. -/
def sessionKeysSpec : ChangeSpec := { name := "sessionKeys", fn := fun _ => fun
  | [d] => { results := [.lit (.bool true)], args := [d] }
  | _ => none }
def sessionKeysRow : OpenClaim := { program := "ytgdgpcheammbpaadoor", sum := "112bedd7ac8057b7a234b967b126d6a7a174a8786b33b05da4b6444f58d786f7", func := "rialto/rialtolaw17.SessionKeys", spec := "sessionKeys", unfollowed := true, recurses := true, named := ["rialto/session.forms"], apart := false, laid := [("rialto/session.forms", laid_rialto_session_forms)] }
def SessionKeysSaid : Prop := sessionKeysRow.holds Tryd.pinned (OpenSpec.ofChange sessionKeysSpec)

/-- ITS FALSE NEIGHBOUR: 'it returns false'. Refute it at one input. -/
def sessionKeysWrong : ChangeSpec := { name := "sessionKeys", fn := fun _ => fun
  | [d] => { results := [.lit (.bool false)], args := [d] }
  | _ => none }
def SessionKeysWrongFalsely : Prop := sessionKeysRow.holds Tryd.pinned (OpenSpec.ofChange sessionKeysWrong)

/-- 'rialtolaw17.SessionFits': WHATEVER THE INPUT: true; the input reads as it did. -/
def sessionFitsSpec : ChangeSpec := { name := "sessionFits", fn := fun _ => fun
  | [d] => { results := [.lit (.bool true)], args := [d] }
  | _ => none }
def sessionFitsRow : OpenClaim := { program := "ytgdgpcheammbpaadoor", sum := "112bedd7ac8057b7a234b967b126d6a7a174a8786b33b05da4b6444f58d786f7", func := "rialto/rialtolaw17.SessionFits", spec := "sessionFits", unfollowed := true, recurses := true, named := ["rialto/session.forms"], apart := false, laid := [("rialto/session.forms", laid_rialto_session_forms)] }
def SessionFitsSaid : Prop := sessionFitsRow.holds Tryd.pinned (OpenSpec.ofChange sessionFitsSpec)

/-- ITS FALSE NEIGHBOUR: 'it returns false'. Refute it at one input. -/
def sessionFitsWrong : ChangeSpec := { name := "sessionFits", fn := fun _ => fun
  | [d] => { results := [.lit (.bool false)], args := [d] }
  | _ => none }
def SessionFitsWrongFalsely : Prop := sessionFitsRow.holds Tryd.pinned (OpenSpec.ofChange sessionFitsWrong)

/-- 'rialtolaw17.SessionOnce': WHATEVER THE INPUT: true; the input reads as it did. -/
def sessionOnceSpec : ChangeSpec := { name := "sessionOnce", fn := fun _ => fun
  | [d] => { results := [.lit (.bool true)], args := [d] }
  | _ => none }
def sessionOnceRow : OpenClaim := { program := "ytgdgpcheammbpaadoor", sum := "112bedd7ac8057b7a234b967b126d6a7a174a8786b33b05da4b6444f58d786f7", func := "rialto/rialtolaw17.SessionOnce", spec := "sessionOnce", unfollowed := true, recurses := true, named := ["rialto/session.forms"], apart := false, laid := [("rialto/session.forms", laid_rialto_session_forms)] }
def SessionOnceSaid : Prop := sessionOnceRow.holds Tryd.pinned (OpenSpec.ofChange sessionOnceSpec)

/-- ITS FALSE NEIGHBOUR: 'it returns false'. Refute it at one input. -/
def sessionOnceWrong : ChangeSpec := { name := "sessionOnce", fn := fun _ => fun
  | [d] => { results := [.lit (.bool false)], args := [d] }
  | _ => none }
def SessionOnceWrongFalsely : Prop := sessionOnceRow.holds Tryd.pinned (OpenSpec.ofChange sessionOnceWrong)

/-- 'rialtolaw17.SessionApart': WHATEVER THE INPUT: true; the input reads as it did. -/
def sessionApartSpec : ChangeSpec := { name := "sessionApart", fn := fun _ => fun
  | [d1, d2, d3] => { results := [.lit (.bool true)], args := [d1, d2, d3] }
  | _ => none }
def sessionApartRow : OpenClaim := { program := "ytgdgpcheammbpaadoor", sum := "112bedd7ac8057b7a234b967b126d6a7a174a8786b33b05da4b6444f58d786f7", func := "rialto/rialtolaw17.SessionApart", spec := "sessionApart", unfollowed := true, recurses := true, named := ["rialto/session.forms"], apart := false, laid := [("rialto/session.forms", laid_rialto_session_forms)] }
def SessionApartSaid : Prop := sessionApartRow.holds Tryd.pinned (OpenSpec.ofChange sessionApartSpec)

/-- ITS FALSE NEIGHBOUR: 'it returns false'. Refute it at one input. -/
def sessionApartWrong : ChangeSpec := { name := "sessionApart", fn := fun _ => fun
  | [d1, d2, d3] => { results := [.lit (.bool false)], args := [d1, d2, d3] }
  | _ => none }
def SessionApartWrongFalsely : Prop := sessionApartRow.holds Tryd.pinned (OpenSpec.ofChange sessionApartWrong)

/-- 'rialtolaw17.SessionBegins': WHATEVER THE INPUT: true; the input reads as it did. -/
def sessionBeginsSpec : ChangeSpec := { name := "sessionBegins", fn := fun _ => fun
  | [d1, d2] => { results := [.lit (.bool true)], args := [d1, d2] }
  | _ => none }
def sessionBeginsRow : OpenClaim := { program := "ytgdgpcheammbpaadoor", sum := "112bedd7ac8057b7a234b967b126d6a7a174a8786b33b05da4b6444f58d786f7", func := "rialto/rialtolaw17.SessionBegins", spec := "sessionBegins", unfollowed := true, recurses := true, named := ["rialto/session.forms"], apart := false, laid := [("rialto/session.forms", laid_rialto_session_forms)] }
def SessionBeginsSaid : Prop := sessionBeginsRow.holds Tryd.pinned (OpenSpec.ofChange sessionBeginsSpec)

/-- ITS FALSE NEIGHBOUR: 'it returns false'. Refute it at one input. -/
def sessionBeginsWrong : ChangeSpec := { name := "sessionBegins", fn := fun _ => fun
  | [d1, d2] => { results := [.lit (.bool false)], args := [d1, d2] }
  | _ => none }
def SessionBeginsWrongFalsely : Prop := sessionBeginsRow.holds Tryd.pinned (OpenSpec.ofChange sessionBeginsWrong)

/-- 'rialtolaw17.SessionEnds': WHATEVER THE INPUT: true; the input reads as it did. -/
def sessionEndsSpec : ChangeSpec := { name := "sessionEnds", fn := fun _ => fun
  | [d1, d2, d3] => { results := [.lit (.bool true)], args := [d1, d2, d3] }
  | _ => none }
def sessionEndsRow : OpenClaim := { program := "ytgdgpcheammbpaadoor", sum := "112bedd7ac8057b7a234b967b126d6a7a174a8786b33b05da4b6444f58d786f7", func := "rialto/rialtolaw17.SessionEnds", spec := "sessionEnds", unfollowed := true, recurses := true, named := ["rialto/session.forms"], apart := false, laid := [("rialto/session.forms", laid_rialto_session_forms)] }
def SessionEndsSaid : Prop := sessionEndsRow.holds Tryd.pinned (OpenSpec.ofChange sessionEndsSpec)

/-- ITS FALSE NEIGHBOUR: 'it returns false'. Refute it at one input. -/
def sessionEndsWrong : ChangeSpec := { name := "sessionEnds", fn := fun _ => fun
  | [d1, d2, d3] => { results := [.lit (.bool false)], args := [d1, d2, d3] }
  | _ => none }
def SessionEndsWrongFalsely : Prop := sessionEndsRow.holds Tryd.pinned (OpenSpec.ofChange sessionEndsWrong)

/- THE SECOND FORM. 'bulk': how many values and letters a reading holds, each counted each time it is reached (what is shared counts as often as it is met; a slice's spare places count too). A statement '..UptoSaid' is the law's where the arguments, and the package variables that the reading takes, are together of bulk at most 1048576: NARROWER than '..Said'. Prove '..Said' where nothing that the law and all that it calls make is longer than what came in: it says more and counts as full. Else prove '..UptoSaid'. A law counts once. -/
mutual
def uptoBulk {H : Type} : DataW H → Nat
  | .lit (.string bytes) => bytes.length + 1
  | .lit _ => 1
  | .nil => 1
  | .ptr d => uptoBulk d + 1
  | .slice elems spare => uptoBulkAll elems + uptoBulkAll spare + 1
  | .agg parts => uptoBulkAll parts + 1
  | .iface _ d => uptoBulk d + 1
  | .map entries => uptoBulkEntries entries + 1
  | .held _ => 1
def uptoBulkAll {H : Type} : List (DataW H) → Nat
  | [] => 0
  | d :: r => uptoBulk d + uptoBulkAll r
def uptoBulkEntries {H : Type} : List (Lit × DataW H) → Nat
  | [] => 0
  | x :: r => uptoBulkEntry x + uptoBulkEntries r
def uptoBulkEntry {H : Type} : Lit × DataW H → Nat
  | (.string bytes, d) => bytes.length + uptoBulk d + 1
  | (_, d) => uptoBulk d + 1
 end
def uptoSmall : (H : Type) → List (DataW H) → Bool := fun _ ds => decide (uptoBulkAll ds ≤ 1048576)
def OpenSpec.upto (s : _root_.Go.ChangeSpec) : _root_.Go.OpenSpec := { _root_.Go.OpenSpec.ofChange s with cond := some uptoSmall }

/-- 'rialtolaw17.SessionKeys', WHERE WHAT IT READS IS OF BULK AT MOST 1048576: true; the input reads as it did. -/
def sessionKeysUptoRow : OpenClaim := { program := "ytgdgpcheammbpaadoor", sum := "112bedd7ac8057b7a234b967b126d6a7a174a8786b33b05da4b6444f58d786f7", func := "rialto/rialtolaw17.SessionKeys", spec := "sessionKeys", unfollowed := true, recurses := true, named := ["rialto/session.forms"], apart := false, laid := [("rialto/session.forms", laid_rialto_session_forms)], narrowed := true }
def SessionKeysUptoSaid : Prop := sessionKeysUptoRow.holds Tryd.pinned (OpenSpec.upto sessionKeysSpec)

/-- 'rialtolaw17.SessionFits', WHERE WHAT IT READS IS OF BULK AT MOST 1048576: true; the input reads as it did. -/
def sessionFitsUptoRow : OpenClaim := { program := "ytgdgpcheammbpaadoor", sum := "112bedd7ac8057b7a234b967b126d6a7a174a8786b33b05da4b6444f58d786f7", func := "rialto/rialtolaw17.SessionFits", spec := "sessionFits", unfollowed := true, recurses := true, named := ["rialto/session.forms"], apart := false, laid := [("rialto/session.forms", laid_rialto_session_forms)], narrowed := true }
def SessionFitsUptoSaid : Prop := sessionFitsUptoRow.holds Tryd.pinned (OpenSpec.upto sessionFitsSpec)

/-- 'rialtolaw17.SessionOnce', WHERE WHAT IT READS IS OF BULK AT MOST 1048576: true; the input reads as it did. -/
def sessionOnceUptoRow : OpenClaim := { program := "ytgdgpcheammbpaadoor", sum := "112bedd7ac8057b7a234b967b126d6a7a174a8786b33b05da4b6444f58d786f7", func := "rialto/rialtolaw17.SessionOnce", spec := "sessionOnce", unfollowed := true, recurses := true, named := ["rialto/session.forms"], apart := false, laid := [("rialto/session.forms", laid_rialto_session_forms)], narrowed := true }
def SessionOnceUptoSaid : Prop := sessionOnceUptoRow.holds Tryd.pinned (OpenSpec.upto sessionOnceSpec)

/-- 'rialtolaw17.SessionApart', WHERE WHAT IT READS IS OF BULK AT MOST 1048576: true; the input reads as it did. -/
def sessionApartUptoRow : OpenClaim := { program := "ytgdgpcheammbpaadoor", sum := "112bedd7ac8057b7a234b967b126d6a7a174a8786b33b05da4b6444f58d786f7", func := "rialto/rialtolaw17.SessionApart", spec := "sessionApart", unfollowed := true, recurses := true, named := ["rialto/session.forms"], apart := false, laid := [("rialto/session.forms", laid_rialto_session_forms)], narrowed := true }
def SessionApartUptoSaid : Prop := sessionApartUptoRow.holds Tryd.pinned (OpenSpec.upto sessionApartSpec)

/-- 'rialtolaw17.SessionBegins', WHERE WHAT IT READS IS OF BULK AT MOST 1048576: true; the input reads as it did. -/
def sessionBeginsUptoRow : OpenClaim := { program := "ytgdgpcheammbpaadoor", sum := "112bedd7ac8057b7a234b967b126d6a7a174a8786b33b05da4b6444f58d786f7", func := "rialto/rialtolaw17.SessionBegins", spec := "sessionBegins", unfollowed := true, recurses := true, named := ["rialto/session.forms"], apart := false, laid := [("rialto/session.forms", laid_rialto_session_forms)], narrowed := true }
def SessionBeginsUptoSaid : Prop := sessionBeginsUptoRow.holds Tryd.pinned (OpenSpec.upto sessionBeginsSpec)

/-- 'rialtolaw17.SessionEnds', WHERE WHAT IT READS IS OF BULK AT MOST 1048576: true; the input reads as it did. -/
def sessionEndsUptoRow : OpenClaim := { program := "ytgdgpcheammbpaadoor", sum := "112bedd7ac8057b7a234b967b126d6a7a174a8786b33b05da4b6444f58d786f7", func := "rialto/rialtolaw17.SessionEnds", spec := "sessionEnds", unfollowed := true, recurses := true, named := ["rialto/session.forms"], apart := false, laid := [("rialto/session.forms", laid_rialto_session_forms)], narrowed := true }
def SessionEndsUptoSaid : Prop := sessionEndsUptoRow.holds Tryd.pinned (OpenSpec.upto sessionEndsSpec)

end Rows
end Go.Proofs.YtgdgpcheammbpaaDoor
