/-
  No cell of these rows narrows 'for every input' (looked for: loops, veiled, ifaces, maps, wideKeys, modest, calm, conditions, laid).
  DERIVED. THE GIVEN ROWS OF THIS SEAT. 6 by the template 'for every input the law returns true; each argument reads behind the call as it read before'; 0 by the template 'total and deterministic' (their statements: YtgfpeknhabbkbaaTotals.lean).
  GIVEN WITH THE SEED: the statements are not yours to turn. If you find one false, say at which input.
  Laid BY PROGRAM, IN A SANDBOX (cutbox-rows.mjs): the forced cells as the released guide's own fill.sh prints them over the translation 33b8bfc6f2244cc4… (all of the seat's roots in one cut). By AI agents, Wed Nov 11 2026. No macro, syntax, notation, axiom, sorry.
-/
import Derived.Test.YtgfpeknhabbkbaaChecked
import GoSem.Claim
import GoSem.ClaimJoined
import GoSem.ClaimMapViews
import Derived.JoinedTies
import Derived.KernelRfl
namespace Go.Proofs.Ytgfpeknhabbkbaa
/- THE CELL 'sum', in the pinned program and in every row, IS THE sha256 OF THE DUMP (.gsa) THAT YtgfpeknhabbkbaaProg.lean LOADS. Nothing in Lean hashes anything: it is a label: what it is worth is what the hold of that sum in a sandbox is worth. -/
noncomputable def Try.pinned : Pinned := { name := "ytgfpeknhabbkbaa", sum := "33b8bfc6f2244cc4b74696befd3cdfc819ed47e48d650aa9df0ff038b3f3e0c7", checked := Try.checked }
namespace Rows
def none {H : Type} : Left H := { results := [], args := [] }

/-- 'rialtolaw16.LocksAgain': WHATEVER THE INPUT: true; the input reads as it did. -/
def locksAgainSpec : ChangeSpec := { name := "locksAgain", fn := fun _ => fun
  | [d1, d2, d3] => { results := [.lit (.bool true)], args := [d1, d2, d3] }
  | _ => none }
def locksAgainRow : OpenClaim := { program := "ytgfpeknhabbkbaa", sum := "33b8bfc6f2244cc4b74696befd3cdfc819ed47e48d650aa9df0ff038b3f3e0c7", func := "rialto/rialtolaw16.LocksAgain", spec := "locksAgain", unfollowed := true, recurses := true, apart := false }
def LocksAgainSaid : Prop := locksAgainRow.holds Try.pinned (OpenSpec.ofChange locksAgainSpec)

/-- ITS FALSE NEIGHBOUR: 'it returns false'. Refute it at one input. -/
def locksAgainWrong : ChangeSpec := { name := "locksAgain", fn := fun _ => fun
  | [d1, d2, d3] => { results := [.lit (.bool false)], args := [d1, d2, d3] }
  | _ => none }
def LocksAgainWrongFalsely : Prop := locksAgainRow.holds Try.pinned (OpenSpec.ofChange locksAgainWrong)

/-- 'rialtolaw16.LocksAsk': WHATEVER THE INPUT: true; the input reads as it did. -/
def locksAskSpec : ChangeSpec := { name := "locksAsk", fn := fun _ => fun
  | [d1, d2, d3] => { results := [.lit (.bool true)], args := [d1, d2, d3] }
  | _ => none }
def locksAskRow : OpenClaim := { program := "ytgfpeknhabbkbaa", sum := "33b8bfc6f2244cc4b74696befd3cdfc819ed47e48d650aa9df0ff038b3f3e0c7", func := "rialto/rialtolaw16.LocksAsk", spec := "locksAsk", unfollowed := true, recurses := true, apart := false }
def LocksAskSaid : Prop := locksAskRow.holds Try.pinned (OpenSpec.ofChange locksAskSpec)

/-- ITS FALSE NEIGHBOUR: 'it returns false'. Refute it at one input. -/
def locksAskWrong : ChangeSpec := { name := "locksAsk", fn := fun _ => fun
  | [d1, d2, d3] => { results := [.lit (.bool false)], args := [d1, d2, d3] }
  | _ => none }
def LocksAskWrongFalsely : Prop := locksAskRow.holds Try.pinned (OpenSpec.ofChange locksAskWrong)

/-- 'rialtolaw16.LocksFree': WHATEVER THE INPUT: true; the input reads as it did. -/
def locksFreeSpec : ChangeSpec := { name := "locksFree", fn := fun _ => fun
  | [d1, d2, d3] => { results := [.lit (.bool true)], args := [d1, d2, d3] }
  | _ => none }
def locksFreeRow : OpenClaim := { program := "ytgfpeknhabbkbaa", sum := "33b8bfc6f2244cc4b74696befd3cdfc819ed47e48d650aa9df0ff038b3f3e0c7", func := "rialto/rialtolaw16.LocksFree", spec := "locksFree", unfollowed := true, recurses := true, apart := false }
def LocksFreeSaid : Prop := locksFreeRow.holds Try.pinned (OpenSpec.ofChange locksFreeSpec)

/-- ITS FALSE NEIGHBOUR: 'it returns false'. Refute it at one input. -/
def locksFreeWrong : ChangeSpec := { name := "locksFree", fn := fun _ => fun
  | [d1, d2, d3] => { results := [.lit (.bool false)], args := [d1, d2, d3] }
  | _ => none }
def LocksFreeWrongFalsely : Prop := locksFreeRow.holds Try.pinned (OpenSpec.ofChange locksFreeWrong)

/-- 'rialtolaw16.LocksTell': WHATEVER THE INPUT: true; the input reads as it did. -/
def locksTellSpec : ChangeSpec := { name := "locksTell", fn := fun _ => fun
  | [d1, d2, d3] => { results := [.lit (.bool true)], args := [d1, d2, d3] }
  | _ => none }
def locksTellRow : OpenClaim := { program := "ytgfpeknhabbkbaa", sum := "33b8bfc6f2244cc4b74696befd3cdfc819ed47e48d650aa9df0ff038b3f3e0c7", func := "rialto/rialtolaw16.LocksTell", spec := "locksTell", unfollowed := true, recurses := true, apart := false }
def LocksTellSaid : Prop := locksTellRow.holds Try.pinned (OpenSpec.ofChange locksTellSpec)

/-- ITS FALSE NEIGHBOUR: 'it returns false'. Refute it at one input. -/
def locksTellWrong : ChangeSpec := { name := "locksTell", fn := fun _ => fun
  | [d1, d2, d3] => { results := [.lit (.bool false)], args := [d1, d2, d3] }
  | _ => none }
def LocksTellWrongFalsely : Prop := locksTellRow.holds Try.pinned (OpenSpec.ofChange locksTellWrong)

/-- 'rialtolaw16.LocksSound': WHATEVER THE INPUT: true; the input reads as it did. -/
def locksSoundSpec : ChangeSpec := { name := "locksSound", fn := fun _ => fun
  | [d] => { results := [.lit (.bool true)], args := [d] }
  | _ => none }
def locksSoundRow : OpenClaim := { program := "ytgfpeknhabbkbaa", sum := "33b8bfc6f2244cc4b74696befd3cdfc819ed47e48d650aa9df0ff038b3f3e0c7", func := "rialto/rialtolaw16.LocksSound", spec := "locksSound", unfollowed := true, recurses := true, apart := false }
def LocksSoundSaid : Prop := locksSoundRow.holds Try.pinned (OpenSpec.ofChange locksSoundSpec)

/-- ITS FALSE NEIGHBOUR: 'it returns false'. Refute it at one input. -/
def locksSoundWrong : ChangeSpec := { name := "locksSound", fn := fun _ => fun
  | [d] => { results := [.lit (.bool false)], args := [d] }
  | _ => none }
def LocksSoundWrongFalsely : Prop := locksSoundRow.holds Try.pinned (OpenSpec.ofChange locksSoundWrong)

/-- 'rialtolaw16.LocksNext': WHATEVER THE INPUT: true; the input reads as it did. -/
def locksNextSpec : ChangeSpec := { name := "locksNext", fn := fun _ => fun
  | [d1, d2] => { results := [.lit (.bool true)], args := [d1, d2] }
  | _ => none }
def locksNextRow : OpenClaim := { program := "ytgfpeknhabbkbaa", sum := "33b8bfc6f2244cc4b74696befd3cdfc819ed47e48d650aa9df0ff038b3f3e0c7", func := "rialto/rialtolaw16.LocksNext", spec := "locksNext", unfollowed := true, recurses := true, apart := false }
def LocksNextSaid : Prop := locksNextRow.holds Try.pinned (OpenSpec.ofChange locksNextSpec)

/-- ITS FALSE NEIGHBOUR: 'it returns false'. Refute it at one input. -/
def locksNextWrong : ChangeSpec := { name := "locksNext", fn := fun _ => fun
  | [d1, d2] => { results := [.lit (.bool false)], args := [d1, d2] }
  | _ => none }
def LocksNextWrongFalsely : Prop := locksNextRow.holds Try.pinned (OpenSpec.ofChange locksNextWrong)

/- THE SECOND FORM. 'bulk': how many values and letters a reading holds, each counted each time it is reached (what is shared counts as often as it is met; a slice's spare places count too). A statement '..UptoSaid' is the law's where the arguments, and the package variables that the reading takes, are together of bulk at most 1048576: NARROWER than '..Said'. Prove '..Said' where nothing that the law and all that it calls make is longer than what came in: it says more and counts as full. Else prove '..UptoSaid'. A law counts once. -/
mutual
def uptoBulk {H : Type} : DataW H → Nat
  | .lit (.string bytes) => bytes.length + 1
  | .lit _ => 1
  | .nil => 1
  | .ptr d => uptoBulk d + 1
  | .slice elems spare => uptoBulkAll elems + uptoBulkAll spare + 1
  | .agg parts => uptoBulkAll parts + 1
  | .iface _ d => uptoBulk d + 1
  | .map entries => uptoBulkEntries entries + 1
  | .held _ => 1
def uptoBulkAll {H : Type} : List (DataW H) → Nat
  | [] => 0
  | d :: r => uptoBulk d + uptoBulkAll r
def uptoBulkEntries {H : Type} : List (Lit × DataW H) → Nat
  | [] => 0
  | x :: r => uptoBulkEntry x + uptoBulkEntries r
def uptoBulkEntry {H : Type} : Lit × DataW H → Nat
  | (.string bytes, d) => bytes.length + uptoBulk d + 1
  | (_, d) => uptoBulk d + 1
 end
def uptoSmall : (H : Type) → List (DataW H) → Bool := fun _ ds => decide (uptoBulkAll ds ≤ 1048576)
def OpenSpec.upto (s : _root_.Go.ChangeSpec) : _root_.Go.OpenSpec := { _root_.Go.OpenSpec.ofChange s with cond := some uptoSmall }

/-- 'rialtolaw16.LocksAgain', WHERE WHAT IT READS IS OF BULK AT MOST 1048576: true; the input reads as it did. -/
def locksAgainUptoRow : OpenClaim := { program := "ytgfpeknhabbkbaa", sum := "33b8bfc6f2244cc4b74696befd3cdfc819ed47e48d650aa9df0ff038b3f3e0c7", func := "rialto/rialtolaw16.LocksAgain", spec := "locksAgain", unfollowed := true, recurses := true, apart := false, narrowed := true }
def LocksAgainUptoSaid : Prop := locksAgainUptoRow.holds Try.pinned (OpenSpec.upto locksAgainSpec)

/-- 'rialtolaw16.LocksAsk', WHERE WHAT IT READS IS OF BULK AT MOST 1048576: true; the input reads as it did. -/
def locksAskUptoRow : OpenClaim := { program := "ytgfpeknhabbkbaa", sum := "33b8bfc6f2244cc4b74696befd3cdfc819ed47e48d650aa9df0ff038b3f3e0c7", func := "rialto/rialtolaw16.LocksAsk", spec := "locksAsk", unfollowed := true, recurses := true, apart := false, narrowed := true }
def LocksAskUptoSaid : Prop := locksAskUptoRow.holds Try.pinned (OpenSpec.upto locksAskSpec)

/-- 'rialtolaw16.LocksFree', WHERE WHAT IT READS IS OF BULK AT MOST 1048576: true; the input reads as it did. -/
def locksFreeUptoRow : OpenClaim := { program := "ytgfpeknhabbkbaa", sum := "33b8bfc6f2244cc4b74696befd3cdfc819ed47e48d650aa9df0ff038b3f3e0c7", func := "rialto/rialtolaw16.LocksFree", spec := "locksFree", unfollowed := true, recurses := true, apart := false, narrowed := true }
def LocksFreeUptoSaid : Prop := locksFreeUptoRow.holds Try.pinned (OpenSpec.upto locksFreeSpec)

/-- 'rialtolaw16.LocksTell', WHERE WHAT IT READS IS OF BULK AT MOST 1048576: true; the input reads as it did. -/
def locksTellUptoRow : OpenClaim := { program := "ytgfpeknhabbkbaa", sum := "33b8bfc6f2244cc4b74696befd3cdfc819ed47e48d650aa9df0ff038b3f3e0c7", func := "rialto/rialtolaw16.LocksTell", spec := "locksTell", unfollowed := true, recurses := true, apart := false, narrowed := true }
def LocksTellUptoSaid : Prop := locksTellUptoRow.holds Try.pinned (OpenSpec.upto locksTellSpec)

/-- 'rialtolaw16.LocksSound', WHERE WHAT IT READS IS OF BULK AT MOST 1048576: true; the input reads as it did. -/
def locksSoundUptoRow : OpenClaim := { program := "ytgfpeknhabbkbaa", sum := "33b8bfc6f2244cc4b74696befd3cdfc819ed47e48d650aa9df0ff038b3f3e0c7", func := "rialto/rialtolaw16.LocksSound", spec := "locksSound", unfollowed := true, recurses := true, apart := false, narrowed := true }
def LocksSoundUptoSaid : Prop := locksSoundUptoRow.holds Try.pinned (OpenSpec.upto locksSoundSpec)

/-- 'rialtolaw16.LocksNext', WHERE WHAT IT READS IS OF BULK AT MOST 1048576: true; the input reads as it did. -/
def locksNextUptoRow : OpenClaim := { program := "ytgfpeknhabbkbaa", sum := "33b8bfc6f2244cc4b74696befd3cdfc819ed47e48d650aa9df0ff038b3f3e0c7", func := "rialto/rialtolaw16.LocksNext", spec := "locksNext", unfollowed := true, recurses := true, apart := false, narrowed := true }
def LocksNextUptoSaid : Prop := locksNextUptoRow.holds Try.pinned (OpenSpec.upto locksNextSpec)

end Rows
end Go.Proofs.Ytgfpeknhabbkbaa
