/-
  No cell of these rows narrows 'for every input' (looked for: loops, veiled, ifaces, maps, wideKeys, modest, calm, conditions, laid).
  DERIVED. THE GIVEN ROWS OF THIS SEAT. 5 by the template 'for every input the law returns true; each argument reads behind the call as it read before'; 0 by the template 'total and deterministic' (their statements: YtiajjlapjnjobaaTotals.lean).
  GIVEN WITH THE SEED: the statements are not yours to turn. If you find one false, say at which input.
  Laid BY PROGRAM, IN A SANDBOX (cutbox-rows.mjs): the forced cells as the released guide's own fill.sh prints them over the translation 87d90314db838e0b… (all of the seat's roots in one cut). By AI agents, Wed Nov 11 2026. No macro, syntax, notation, axiom, sorry.
-/
import Derived.Test.YtiajjlapjnjobaaChecked
import GoSem.Claim
import GoSem.ClaimJoined
import GoSem.ClaimMapViews
import Derived.JoinedTies
import Derived.KernelRfl
namespace Go.Proofs.Ytiajjlapjnjobaa
/- THE CELL 'sum', in the pinned program and in every row, IS THE sha256 OF THE DUMP (.gsa) THAT YtiajjlapjnjobaaProg.lean LOADS. Nothing in Lean hashes anything: it is a label: what it is worth is what the hold of that sum in a sandbox is worth. -/
noncomputable def Try.pinned : Pinned := { name := "ytiajjlapjnjobaa", sum := "87d90314db838e0b82f228f7ab69186ba621f51efe8917559930194d98787989", checked := Try.checked }
namespace Rows
def none {H : Type} : Left H := { results := [], args := [] }

/-- 'rialtolaw08.EntriesAgain': WHATEVER THE INPUT: true; the input reads as it did. -/
def entriesAgainSpec : ChangeSpec := { name := "entriesAgain", fn := fun _ => fun
  | [d1, d2] => { results := [.lit (.bool true)], args := [d1, d2] }
  | _ => none }
def entriesAgainRow : OpenClaim := { program := "ytiajjlapjnjobaa", sum := "87d90314db838e0b82f228f7ab69186ba621f51efe8917559930194d98787989", func := "rialto/rialtolaw08.EntriesAgain", spec := "entriesAgain", recurses := true, apart := false }
def EntriesAgainSaid : Prop := entriesAgainRow.holds Try.pinned (OpenSpec.ofChange entriesAgainSpec)

/-- ITS FALSE NEIGHBOUR: 'it returns false'. Refute it at one input. -/
def entriesAgainWrong : ChangeSpec := { name := "entriesAgain", fn := fun _ => fun
  | [d1, d2] => { results := [.lit (.bool false)], args := [d1, d2] }
  | _ => none }
def EntriesAgainWrongFalsely : Prop := entriesAgainRow.holds Try.pinned (OpenSpec.ofChange entriesAgainWrong)

/-- 'rialtolaw09.SnapCompacts': WHATEVER THE INPUT: true; the input reads as it did. -/
def snapCompactsSpec : ChangeSpec := { name := "snapCompacts", fn := fun _ => fun
  | [d1, d2] => { results := [.lit (.bool true)], args := [d1, d2] }
  | _ => none }
def snapCompactsRow : OpenClaim := { program := "ytiajjlapjnjobaa", sum := "87d90314db838e0b82f228f7ab69186ba621f51efe8917559930194d98787989", func := "rialto/rialtolaw09.SnapCompacts", spec := "snapCompacts", unfollowed := true, recurses := true, apart := false }
def SnapCompactsSaid : Prop := snapCompactsRow.holds Try.pinned (OpenSpec.ofChange snapCompactsSpec)

/-- ITS FALSE NEIGHBOUR: 'it returns false'. Refute it at one input. -/
def snapCompactsWrong : ChangeSpec := { name := "snapCompacts", fn := fun _ => fun
  | [d1, d2] => { results := [.lit (.bool false)], args := [d1, d2] }
  | _ => none }
def SnapCompactsWrongFalsely : Prop := snapCompactsRow.holds Try.pinned (OpenSpec.ofChange snapCompactsWrong)

/-- 'rialtolaw09.SnapInstalls': WHATEVER THE INPUT: true; the input reads as it did. -/
def snapInstallsSpec : ChangeSpec := { name := "snapInstalls", fn := fun _ => fun
  | [d1, d2] => { results := [.lit (.bool true)], args := [d1, d2] }
  | _ => none }
def snapInstallsRow : OpenClaim := { program := "ytiajjlapjnjobaa", sum := "87d90314db838e0b82f228f7ab69186ba621f51efe8917559930194d98787989", func := "rialto/rialtolaw09.SnapInstalls", spec := "snapInstalls", unfollowed := true, recurses := true, apart := false }
def SnapInstallsSaid : Prop := snapInstallsRow.holds Try.pinned (OpenSpec.ofChange snapInstallsSpec)

/-- ITS FALSE NEIGHBOUR: 'it returns false'. Refute it at one input. -/
def snapInstallsWrong : ChangeSpec := { name := "snapInstalls", fn := fun _ => fun
  | [d1, d2] => { results := [.lit (.bool false)], args := [d1, d2] }
  | _ => none }
def SnapInstallsWrongFalsely : Prop := snapInstallsRow.holds Try.pinned (OpenSpec.ofChange snapInstallsWrong)

/-- 'rialtolaw09.SnapKeeps': WHATEVER THE INPUT: true; the input reads as it did. -/
def snapKeepsSpec : ChangeSpec := { name := "snapKeeps", fn := fun _ => fun
  | [d1, d2, d3] => { results := [.lit (.bool true)], args := [d1, d2, d3] }
  | _ => none }
def snapKeepsRow : OpenClaim := { program := "ytiajjlapjnjobaa", sum := "87d90314db838e0b82f228f7ab69186ba621f51efe8917559930194d98787989", func := "rialto/rialtolaw09.SnapKeeps", spec := "snapKeeps", unfollowed := true, recurses := true, apart := false }
def SnapKeepsSaid : Prop := snapKeepsRow.holds Try.pinned (OpenSpec.ofChange snapKeepsSpec)

/-- ITS FALSE NEIGHBOUR: 'it returns false'. Refute it at one input. -/
def snapKeepsWrong : ChangeSpec := { name := "snapKeeps", fn := fun _ => fun
  | [d1, d2, d3] => { results := [.lit (.bool false)], args := [d1, d2, d3] }
  | _ => none }
def SnapKeepsWrongFalsely : Prop := snapKeepsRow.holds Try.pinned (OpenSpec.ofChange snapKeepsWrong)

/-- 'rialtolaw09.SnapTwice': WHATEVER THE INPUT: true; the input reads as it did. -/
def snapTwiceSpec : ChangeSpec := { name := "snapTwice", fn := fun _ => fun
  | [d1, d2, d3] => { results := [.lit (.bool true)], args := [d1, d2, d3] }
  | _ => none }
def snapTwiceRow : OpenClaim := { program := "ytiajjlapjnjobaa", sum := "87d90314db838e0b82f228f7ab69186ba621f51efe8917559930194d98787989", func := "rialto/rialtolaw09.SnapTwice", spec := "snapTwice", unfollowed := true, recurses := true, apart := false }
def SnapTwiceSaid : Prop := snapTwiceRow.holds Try.pinned (OpenSpec.ofChange snapTwiceSpec)

/-- ITS FALSE NEIGHBOUR: 'it returns false'. Refute it at one input. -/
def snapTwiceWrong : ChangeSpec := { name := "snapTwice", fn := fun _ => fun
  | [d1, d2, d3] => { results := [.lit (.bool false)], args := [d1, d2, d3] }
  | _ => none }
def SnapTwiceWrongFalsely : Prop := snapTwiceRow.holds Try.pinned (OpenSpec.ofChange snapTwiceWrong)

/- THE SECOND FORM. 'bulk': how many values and letters a reading holds, each counted each time it is reached (what is shared counts as often as it is met; a slice's spare places count too). A statement '..UptoSaid' is the law's where the arguments, and the package variables that the reading takes, are together of bulk at most 1048576: NARROWER than '..Said'. Prove '..Said' where nothing that the law and all that it calls make is longer than what came in: it says more and counts as full. Else prove '..UptoSaid'. A law counts once. -/
mutual
def uptoBulk {H : Type} : DataW H → Nat
  | .lit (.string bytes) => bytes.length + 1
  | .lit _ => 1
  | .nil => 1
  | .ptr d => uptoBulk d + 1
  | .slice elems spare => uptoBulkAll elems + uptoBulkAll spare + 1
  | .agg parts => uptoBulkAll parts + 1
  | .iface _ d => uptoBulk d + 1
  | .map entries => uptoBulkEntries entries + 1
  | .held _ => 1
def uptoBulkAll {H : Type} : List (DataW H) → Nat
  | [] => 0
  | d :: r => uptoBulk d + uptoBulkAll r
def uptoBulkEntries {H : Type} : List (Lit × DataW H) → Nat
  | [] => 0
  | x :: r => uptoBulkEntry x + uptoBulkEntries r
def uptoBulkEntry {H : Type} : Lit × DataW H → Nat
  | (.string bytes, d) => bytes.length + uptoBulk d + 1
  | (_, d) => uptoBulk d + 1
 end
def uptoSmall : (H : Type) → List (DataW H) → Bool := fun _ ds => decide (uptoBulkAll ds ≤ 1048576)
def OpenSpec.upto (s : _root_.Go.ChangeSpec) : _root_.Go.OpenSpec := { _root_.Go.OpenSpec.ofChange s with cond := some uptoSmall }

/-- 'rialtolaw08.EntriesAgain', WHERE WHAT IT READS IS OF BULK AT MOST 1048576: true; the input reads as it did. -/
def entriesAgainUptoRow : OpenClaim := { program := "ytiajjlapjnjobaa", sum := "87d90314db838e0b82f228f7ab69186ba621f51efe8917559930194d98787989", func := "rialto/rialtolaw08.EntriesAgain", spec := "entriesAgain", recurses := true, apart := false, narrowed := true }
def EntriesAgainUptoSaid : Prop := entriesAgainUptoRow.holds Try.pinned (OpenSpec.upto entriesAgainSpec)

/-- 'rialtolaw09.SnapCompacts', WHERE WHAT IT READS IS OF BULK AT MOST 1048576: true; the input reads as it did. -/
def snapCompactsUptoRow : OpenClaim := { program := "ytiajjlapjnjobaa", sum := "87d90314db838e0b82f228f7ab69186ba621f51efe8917559930194d98787989", func := "rialto/rialtolaw09.SnapCompacts", spec := "snapCompacts", unfollowed := true, recurses := true, apart := false, narrowed := true }
def SnapCompactsUptoSaid : Prop := snapCompactsUptoRow.holds Try.pinned (OpenSpec.upto snapCompactsSpec)

/-- 'rialtolaw09.SnapInstalls', WHERE WHAT IT READS IS OF BULK AT MOST 1048576: true; the input reads as it did. -/
def snapInstallsUptoRow : OpenClaim := { program := "ytiajjlapjnjobaa", sum := "87d90314db838e0b82f228f7ab69186ba621f51efe8917559930194d98787989", func := "rialto/rialtolaw09.SnapInstalls", spec := "snapInstalls", unfollowed := true, recurses := true, apart := false, narrowed := true }
def SnapInstallsUptoSaid : Prop := snapInstallsUptoRow.holds Try.pinned (OpenSpec.upto snapInstallsSpec)

/-- 'rialtolaw09.SnapKeeps', WHERE WHAT IT READS IS OF BULK AT MOST 1048576: true; the input reads as it did. -/
def snapKeepsUptoRow : OpenClaim := { program := "ytiajjlapjnjobaa", sum := "87d90314db838e0b82f228f7ab69186ba621f51efe8917559930194d98787989", func := "rialto/rialtolaw09.SnapKeeps", spec := "snapKeeps", unfollowed := true, recurses := true, apart := false, narrowed := true }
def SnapKeepsUptoSaid : Prop := snapKeepsUptoRow.holds Try.pinned (OpenSpec.upto snapKeepsSpec)

/-- 'rialtolaw09.SnapTwice', WHERE WHAT IT READS IS OF BULK AT MOST 1048576: true; the input reads as it did. -/
def snapTwiceUptoRow : OpenClaim := { program := "ytiajjlapjnjobaa", sum := "87d90314db838e0b82f228f7ab69186ba621f51efe8917559930194d98787989", func := "rialto/rialtolaw09.SnapTwice", spec := "snapTwice", unfollowed := true, recurses := true, apart := false, narrowed := true }
def SnapTwiceUptoSaid : Prop := snapTwiceUptoRow.holds Try.pinned (OpenSpec.upto snapTwiceSpec)

end Rows
end Go.Proofs.Ytiajjlapjnjobaa
