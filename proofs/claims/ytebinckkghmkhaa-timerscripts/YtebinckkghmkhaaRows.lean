/-
  No cell of these rows narrows 'for every input' (looked for: loops, veiled, ifaces, maps, wideKeys, modest, calm, conditions, laid).
  DERIVED. THE GIVEN ROWS OF THIS SEAT. 3 by the template 'for every input the law returns true; each argument reads behind the call as it read before'; 0 by the template 'total and deterministic' (their statements: YtebinckkghmkhaaTotals.lean).
  GIVEN WITH THE SEED: the statements are not yours to turn. If you find one false, say at which input.
  Laid BY PROGRAM, IN A SANDBOX (cutbox-rows.mjs): the forced cells as the released guide's own fill.sh prints them over the translation f7f41133af14ff88… (all of the seat's roots in one cut). By AI agents, Wed Nov 11 2026. No macro, syntax, notation, axiom, sorry.
-/
import Derived.Test.YtebinckkghmkhaaChecked
import GoSem.Claim
import GoSem.ClaimJoined
import GoSem.ClaimMapViews
import Derived.JoinedTies
import Derived.KernelRfl
namespace Go.Proofs.Ytebinckkghmkhaa
/- THE CELL 'sum', in the pinned program and in every row, IS THE sha256 OF THE DUMP (.gsa) THAT YtebinckkghmkhaaProg.lean LOADS. Nothing in Lean hashes anything: it is a label: what it is worth is what the hold of that sum in a sandbox is worth. -/
noncomputable def Try.pinned : Pinned := { name := "ytebinckkghmkhaa", sum := "f7f41133af14ff885e8a093276674cafdeac7a58bf1d99995c109ca46531762a", checked := Try.checked }
namespace Rows
def none {H : Type} : Left H := { results := [], args := [] }

/-- 'rialtolaw06.TimerScripts': WHATEVER THE INPUT: true; the input reads as it did. -/
def timerScriptsSpec : ChangeSpec := { name := "timerScripts", fn := fun _ => fun
  | [d1, d2] => { results := [.lit (.bool true)], args := [d1, d2] }
  | _ => none }
def timerScriptsRow : OpenClaim := { program := "ytebinckkghmkhaa", sum := "f7f41133af14ff885e8a093276674cafdeac7a58bf1d99995c109ca46531762a", func := "rialto/rialtolaw06.TimerScripts", spec := "timerScripts", unfollowed := true, recurses := true, apart := false }
def TimerScriptsSaid : Prop := timerScriptsRow.holds Try.pinned (OpenSpec.ofChange timerScriptsSpec)

/-- ITS FALSE NEIGHBOUR: 'it returns false'. Refute it at one input. -/
def timerScriptsWrong : ChangeSpec := { name := "timerScripts", fn := fun _ => fun
  | [d1, d2] => { results := [.lit (.bool false)], args := [d1, d2] }
  | _ => none }
def TimerScriptsWrongFalsely : Prop := timerScriptsRow.holds Try.pinned (OpenSpec.ofChange timerScriptsWrong)

/-- 'rialtolaw06.TimerInTime': WHATEVER THE INPUT: true; the input reads as it did. -/
def timerInTimeSpec : ChangeSpec := { name := "timerInTime", fn := fun _ => fun
  | [d1, d2, d3] => { results := [.lit (.bool true)], args := [d1, d2, d3] }
  | _ => none }
def timerInTimeRow : OpenClaim := { program := "ytebinckkghmkhaa", sum := "f7f41133af14ff885e8a093276674cafdeac7a58bf1d99995c109ca46531762a", func := "rialto/rialtolaw06.TimerInTime", spec := "timerInTime", unfollowed := true, recurses := true, apart := false }
def TimerInTimeSaid : Prop := timerInTimeRow.holds Try.pinned (OpenSpec.ofChange timerInTimeSpec)

/-- ITS FALSE NEIGHBOUR: 'it returns false'. Refute it at one input. -/
def timerInTimeWrong : ChangeSpec := { name := "timerInTime", fn := fun _ => fun
  | [d1, d2, d3] => { results := [.lit (.bool false)], args := [d1, d2, d3] }
  | _ => none }
def TimerInTimeWrongFalsely : Prop := timerInTimeRow.holds Try.pinned (OpenSpec.ofChange timerInTimeWrong)

/-- 'rialtolaw06.TimerOrder': WHATEVER THE INPUT: true; the input reads as it did. -/
def timerOrderSpec : ChangeSpec := { name := "timerOrder", fn := fun _ => fun
  | [d1, d2] => { results := [.lit (.bool true)], args := [d1, d2] }
  | _ => none }
def timerOrderRow : OpenClaim := { program := "ytebinckkghmkhaa", sum := "f7f41133af14ff885e8a093276674cafdeac7a58bf1d99995c109ca46531762a", func := "rialto/rialtolaw06.TimerOrder", spec := "timerOrder", unfollowed := true, recurses := true, apart := false }
def TimerOrderSaid : Prop := timerOrderRow.holds Try.pinned (OpenSpec.ofChange timerOrderSpec)

/-- ITS FALSE NEIGHBOUR: 'it returns false'. Refute it at one input. -/
def timerOrderWrong : ChangeSpec := { name := "timerOrder", fn := fun _ => fun
  | [d1, d2] => { results := [.lit (.bool false)], args := [d1, d2] }
  | _ => none }
def TimerOrderWrongFalsely : Prop := timerOrderRow.holds Try.pinned (OpenSpec.ofChange timerOrderWrong)

/- THE SECOND FORM. 'bulk': how many values and letters a reading holds, each counted each time it is reached (what is shared counts as often as it is met; a slice's spare places count too). A statement '..UptoSaid' is the law's where the arguments, and the package variables that the reading takes, are together of bulk at most 1048576: NARROWER than '..Said'. Prove '..Said' where nothing that the law and all that it calls make is longer than what came in: it says more and counts as full. Else prove '..UptoSaid'. A law counts once. -/
mutual
def uptoBulk {H : Type} : DataW H → Nat
  | .lit (.string bytes) => bytes.length + 1
  | .lit _ => 1
  | .nil => 1
  | .ptr d => uptoBulk d + 1
  | .slice elems spare => uptoBulkAll elems + uptoBulkAll spare + 1
  | .agg parts => uptoBulkAll parts + 1
  | .iface _ d => uptoBulk d + 1
  | .map entries => uptoBulkEntries entries + 1
  | .held _ => 1
def uptoBulkAll {H : Type} : List (DataW H) → Nat
  | [] => 0
  | d :: r => uptoBulk d + uptoBulkAll r
def uptoBulkEntries {H : Type} : List (Lit × DataW H) → Nat
  | [] => 0
  | x :: r => uptoBulkEntry x + uptoBulkEntries r
def uptoBulkEntry {H : Type} : Lit × DataW H → Nat
  | (.string bytes, d) => bytes.length + uptoBulk d + 1
  | (_, d) => uptoBulk d + 1
 end
def uptoSmall : (H : Type) → List (DataW H) → Bool := fun _ ds => decide (uptoBulkAll ds ≤ 1048576)
def OpenSpec.upto (s : _root_.Go.ChangeSpec) : _root_.Go.OpenSpec := { _root_.Go.OpenSpec.ofChange s with cond := some uptoSmall }

/-- 'rialtolaw06.TimerScripts', WHERE WHAT IT READS IS OF BULK AT MOST 1048576: true; the input reads as it did. -/
def timerScriptsUptoRow : OpenClaim := { program := "ytebinckkghmkhaa", sum := "f7f41133af14ff885e8a093276674cafdeac7a58bf1d99995c109ca46531762a", func := "rialto/rialtolaw06.TimerScripts", spec := "timerScripts", unfollowed := true, recurses := true, apart := false, narrowed := true }
def TimerScriptsUptoSaid : Prop := timerScriptsUptoRow.holds Try.pinned (OpenSpec.upto timerScriptsSpec)

/-- 'rialtolaw06.TimerInTime', WHERE WHAT IT READS IS OF BULK AT MOST 1048576: true; the input reads as it did. -/
def timerInTimeUptoRow : OpenClaim := { program := "ytebinckkghmkhaa", sum := "f7f41133af14ff885e8a093276674cafdeac7a58bf1d99995c109ca46531762a", func := "rialto/rialtolaw06.TimerInTime", spec := "timerInTime", unfollowed := true, recurses := true, apart := false, narrowed := true }
def TimerInTimeUptoSaid : Prop := timerInTimeUptoRow.holds Try.pinned (OpenSpec.upto timerInTimeSpec)

/-- 'rialtolaw06.TimerOrder', WHERE WHAT IT READS IS OF BULK AT MOST 1048576: true; the input reads as it did. -/
def timerOrderUptoRow : OpenClaim := { program := "ytebinckkghmkhaa", sum := "f7f41133af14ff885e8a093276674cafdeac7a58bf1d99995c109ca46531762a", func := "rialto/rialtolaw06.TimerOrder", spec := "timerOrder", unfollowed := true, recurses := true, apart := false, narrowed := true }
def TimerOrderUptoSaid : Prop := timerOrderUptoRow.holds Try.pinned (OpenSpec.upto timerOrderSpec)

end Rows
end Go.Proofs.Ytebinckkghmkhaa
