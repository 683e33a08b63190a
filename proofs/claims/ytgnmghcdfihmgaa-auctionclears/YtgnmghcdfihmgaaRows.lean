/-
  No cell of these rows narrows 'for every input' (looked for: loops, veiled, ifaces, maps, wideKeys, modest, calm, conditions, laid).
  DERIVED. THE GIVEN ROWS OF THIS SEAT. 6 by the template 'for every input the law returns true; each argument reads behind the call as it read before'; 0 by the template 'total and deterministic' (their statements: YtgnmghcdfihmgaaTotals.lean).
  GIVEN WITH THE SEED: the statements are not yours to turn. If you find one false, say at which input.
  Laid BY PROGRAM, IN A SANDBOX (cutbox-rows.mjs): the forced cells as the released guide's own fill.sh prints them over the translation aea752210d5bb3b7… (all of the seat's roots in one cut). By AI agents, Wed Nov 11 2026. No macro, syntax, notation, axiom, sorry.
-/
import Derived.Test.YtgnmghcdfihmgaaChecked
import GoSem.Claim
import GoSem.ClaimJoined
import GoSem.ClaimMapViews
import Derived.JoinedTies
import Derived.KernelRfl
namespace Go.Proofs.Ytgnmghcdfihmgaa
/- THE CELL 'sum', in the pinned program and in every row, IS THE sha256 OF THE DUMP (.gsa) THAT YtgnmghcdfihmgaaProg.lean LOADS. Nothing in Lean hashes anything: it is a label: what it is worth is what the hold of that sum in a sandbox is worth. -/
noncomputable def Try.pinned : Pinned := { name := "ytgnmghcdfihmgaa", sum := "aea752210d5bb3b7eae81462bb27fad349c634f5aa9cde2120e1c3126201a15d", checked := Try.checked }
namespace Rows
def none {H : Type} : Left H := { results := [], args := [] }

/-- 'rialtolaw14.AuctionQuiet': WHATEVER THE INPUT: true; the input reads as it did. -/
def auctionQuietSpec : ChangeSpec := { name := "auctionQuiet", fn := fun _ => fun
  | [d] => { results := [.lit (.bool true)], args := [d] }
  | _ => none }
def auctionQuietRow : OpenClaim := { program := "ytgnmghcdfihmgaa", sum := "aea752210d5bb3b7eae81462bb27fad349c634f5aa9cde2120e1c3126201a15d", func := "rialto/rialtolaw14.AuctionQuiet", spec := "auctionQuiet", unfollowed := true, recurses := true, plainKeys := false, apart := false }
def AuctionQuietSaid : Prop := auctionQuietRow.holds Try.pinned (OpenSpec.ofChange auctionQuietSpec)

/-- ITS FALSE NEIGHBOUR: 'it returns false'. Refute it at one input. -/
def auctionQuietWrong : ChangeSpec := { name := "auctionQuiet", fn := fun _ => fun
  | [d] => { results := [.lit (.bool false)], args := [d] }
  | _ => none }
def AuctionQuietWrongFalsely : Prop := auctionQuietRow.holds Try.pinned (OpenSpec.ofChange auctionQuietWrong)

/-- 'rialtolaw14.AuctionMost': WHATEVER THE INPUT: true; the input reads as it did. -/
def auctionMostSpec : ChangeSpec := { name := "auctionMost", fn := fun _ => fun
  | [d1, d2] => { results := [.lit (.bool true)], args := [d1, d2] }
  | _ => none }
def auctionMostRow : OpenClaim := { program := "ytgnmghcdfihmgaa", sum := "aea752210d5bb3b7eae81462bb27fad349c634f5aa9cde2120e1c3126201a15d", func := "rialto/rialtolaw14.AuctionMost", spec := "auctionMost", unfollowed := true, recurses := true, plainKeys := false, apart := false }
def AuctionMostSaid : Prop := auctionMostRow.holds Try.pinned (OpenSpec.ofChange auctionMostSpec)

/-- ITS FALSE NEIGHBOUR: 'it returns false'. Refute it at one input. -/
def auctionMostWrong : ChangeSpec := { name := "auctionMost", fn := fun _ => fun
  | [d1, d2] => { results := [.lit (.bool false)], args := [d1, d2] }
  | _ => none }
def AuctionMostWrongFalsely : Prop := auctionMostRow.holds Try.pinned (OpenSpec.ofChange auctionMostWrong)

/-- 'rialtolaw14.AuctionSums': WHATEVER THE INPUT: true; the input reads as it did. -/
def auctionSumsSpec : ChangeSpec := { name := "auctionSums", fn := fun _ => fun
  | [d] => { results := [.lit (.bool true)], args := [d] }
  | _ => none }
def auctionSumsRow : OpenClaim := { program := "ytgnmghcdfihmgaa", sum := "aea752210d5bb3b7eae81462bb27fad349c634f5aa9cde2120e1c3126201a15d", func := "rialto/rialtolaw14.AuctionSums", spec := "auctionSums", unfollowed := true, recurses := true, plainKeys := false, apart := false }
def AuctionSumsSaid : Prop := auctionSumsRow.holds Try.pinned (OpenSpec.ofChange auctionSumsSpec)

/-- ITS FALSE NEIGHBOUR: 'it returns false'. Refute it at one input. -/
def auctionSumsWrong : ChangeSpec := { name := "auctionSums", fn := fun _ => fun
  | [d] => { results := [.lit (.bool false)], args := [d] }
  | _ => none }
def AuctionSumsWrongFalsely : Prop := auctionSumsRow.holds Try.pinned (OpenSpec.ofChange auctionSumsWrong)

/-- 'rialtolaw14.AuctionFair': WHATEVER THE INPUT: true; the input reads as it did. -/
def auctionFairSpec : ChangeSpec := { name := "auctionFair", fn := fun _ => fun
  | [d] => { results := [.lit (.bool true)], args := [d] }
  | _ => none }
def auctionFairRow : OpenClaim := { program := "ytgnmghcdfihmgaa", sum := "aea752210d5bb3b7eae81462bb27fad349c634f5aa9cde2120e1c3126201a15d", func := "rialto/rialtolaw14.AuctionFair", spec := "auctionFair", unfollowed := true, recurses := true, plainKeys := false, apart := false }
def AuctionFairSaid : Prop := auctionFairRow.holds Try.pinned (OpenSpec.ofChange auctionFairSpec)

/-- ITS FALSE NEIGHBOUR: 'it returns false'. Refute it at one input. -/
def auctionFairWrong : ChangeSpec := { name := "auctionFair", fn := fun _ => fun
  | [d] => { results := [.lit (.bool false)], args := [d] }
  | _ => none }
def AuctionFairWrongFalsely : Prop := auctionFairRow.holds Try.pinned (OpenSpec.ofChange auctionFairWrong)

/-- 'rialtolaw14.AuctionCalls': WHATEVER THE INPUT: true; the input reads as it did. -/
def auctionCallsSpec : ChangeSpec := { name := "auctionCalls", fn := fun _ => fun
  | [d] => { results := [.lit (.bool true)], args := [d] }
  | _ => none }
def auctionCallsRow : OpenClaim := { program := "ytgnmghcdfihmgaa", sum := "aea752210d5bb3b7eae81462bb27fad349c634f5aa9cde2120e1c3126201a15d", func := "rialto/rialtolaw14.AuctionCalls", spec := "auctionCalls", unfollowed := true, recurses := true, plainKeys := false, apart := false }
def AuctionCallsSaid : Prop := auctionCallsRow.holds Try.pinned (OpenSpec.ofChange auctionCallsSpec)

/-- ITS FALSE NEIGHBOUR: 'it returns false'. Refute it at one input. -/
def auctionCallsWrong : ChangeSpec := { name := "auctionCalls", fn := fun _ => fun
  | [d] => { results := [.lit (.bool false)], args := [d] }
  | _ => none }
def AuctionCallsWrongFalsely : Prop := auctionCallsRow.holds Try.pinned (OpenSpec.ofChange auctionCallsWrong)

/-- 'rialtolaw14.AuctionClears': WHATEVER THE INPUT: true; the input reads as it did. -/
def auctionClearsSpec : ChangeSpec := { name := "auctionClears", fn := fun _ => fun
  | [d] => { results := [.lit (.bool true)], args := [d] }
  | _ => none }
def auctionClearsRow : OpenClaim := { program := "ytgnmghcdfihmgaa", sum := "aea752210d5bb3b7eae81462bb27fad349c634f5aa9cde2120e1c3126201a15d", func := "rialto/rialtolaw14.AuctionClears", spec := "auctionClears", unfollowed := true, recurses := true, plainKeys := false, apart := false }
def AuctionClearsSaid : Prop := auctionClearsRow.holds Try.pinned (OpenSpec.ofChange auctionClearsSpec)

/-- ITS FALSE NEIGHBOUR: 'it returns false'. Refute it at one input. -/
def auctionClearsWrong : ChangeSpec := { name := "auctionClears", fn := fun _ => fun
  | [d] => { results := [.lit (.bool false)], args := [d] }
  | _ => none }
def AuctionClearsWrongFalsely : Prop := auctionClearsRow.holds Try.pinned (OpenSpec.ofChange auctionClearsWrong)

/- THE SECOND FORM. 'bulk': how many values and letters a reading holds, each counted each time it is reached (what is shared counts as often as it is met; a slice's spare places count too). A statement '..UptoSaid' is the law's where the arguments, and the package variables that the reading takes, are together of bulk at most 1048576: NARROWER than '..Said'. Prove '..Said' where nothing that the law and all that it calls make is longer than what came in: it says more and counts as full. Else prove '..UptoSaid'. A law counts once. -/
mutual
def uptoBulk {H : Type} : DataW H → Nat
  | .lit (.string bytes) => bytes.length + 1
  | .lit _ => 1
  | .nil => 1
  | .ptr d => uptoBulk d + 1
  | .slice elems spare => uptoBulkAll elems + uptoBulkAll spare + 1
  | .agg parts => uptoBulkAll parts + 1
  | .iface _ d => uptoBulk d + 1
  | .map entries => uptoBulkEntries entries + 1
  | .held _ => 1
def uptoBulkAll {H : Type} : List (DataW H) → Nat
  | [] => 0
  | d :: r => uptoBulk d + uptoBulkAll r
def uptoBulkEntries {H : Type} : List (Lit × DataW H) → Nat
  | [] => 0
  | x :: r => uptoBulkEntry x + uptoBulkEntries r
def uptoBulkEntry {H : Type} : Lit × DataW H → Nat
  | (.string bytes, d) => bytes.length + uptoBulk d + 1
  | (_, d) => uptoBulk d + 1
 end
def uptoSmall : (H : Type) → List (DataW H) → Bool := fun _ ds => decide (uptoBulkAll ds ≤ 1048576)
def OpenSpec.upto (s : _root_.Go.ChangeSpec) : _root_.Go.OpenSpec := { _root_.Go.OpenSpec.ofChange s with cond := some uptoSmall }

/-- 'rialtolaw14.AuctionQuiet', WHERE WHAT IT READS IS OF BULK AT MOST 1048576: true; the input reads as it did. -/
def auctionQuietUptoRow : OpenClaim := { program := "ytgnmghcdfihmgaa", sum := "aea752210d5bb3b7eae81462bb27fad349c634f5aa9cde2120e1c3126201a15d", func := "rialto/rialtolaw14.AuctionQuiet", spec := "auctionQuiet", unfollowed := true, recurses := true, plainKeys := false, apart := false, narrowed := true }
def AuctionQuietUptoSaid : Prop := auctionQuietUptoRow.holds Try.pinned (OpenSpec.upto auctionQuietSpec)

/-- 'rialtolaw14.AuctionMost', WHERE WHAT IT READS IS OF BULK AT MOST 1048576: true; the input reads as it did. -/
def auctionMostUptoRow : OpenClaim := { program := "ytgnmghcdfihmgaa", sum := "aea752210d5bb3b7eae81462bb27fad349c634f5aa9cde2120e1c3126201a15d", func := "rialto/rialtolaw14.AuctionMost", spec := "auctionMost", unfollowed := true, recurses := true, plainKeys := false, apart := false, narrowed := true }
def AuctionMostUptoSaid : Prop := auctionMostUptoRow.holds Try.pinned (OpenSpec.upto auctionMostSpec)

/-- 'rialtolaw14.AuctionSums', WHERE WHAT IT READS IS OF BULK AT MOST 1048576: true; the input reads as it did. -/
def auctionSumsUptoRow : OpenClaim := { program := "ytgnmghcdfihmgaa", sum := "aea752210d5bb3b7eae81462bb27fad349c634f5aa9cde2120e1c3126201a15d", func := "rialto/rialtolaw14.AuctionSums", spec := "auctionSums", unfollowed := true, recurses := true, plainKeys := false, apart := false, narrowed := true }
def AuctionSumsUptoSaid : Prop := auctionSumsUptoRow.holds Try.pinned (OpenSpec.upto auctionSumsSpec)

/-- 'rialtolaw14.AuctionFair', WHERE WHAT IT READS IS OF BULK AT MOST 1048576: true; the input reads as it did. -/
def auctionFairUptoRow : OpenClaim := { program := "ytgnmghcdfihmgaa", sum := "aea752210d5bb3b7eae81462bb27fad349c634f5aa9cde2120e1c3126201a15d", func := "rialto/rialtolaw14.AuctionFair", spec := "auctionFair", unfollowed := true, recurses := true, plainKeys := false, apart := false, narrowed := true }
def AuctionFairUptoSaid : Prop := auctionFairUptoRow.holds Try.pinned (OpenSpec.upto auctionFairSpec)

/-- 'rialtolaw14.AuctionCalls', WHERE WHAT IT READS IS OF BULK AT MOST 1048576: true; the input reads as it did. -/
def auctionCallsUptoRow : OpenClaim := { program := "ytgnmghcdfihmgaa", sum := "aea752210d5bb3b7eae81462bb27fad349c634f5aa9cde2120e1c3126201a15d", func := "rialto/rialtolaw14.AuctionCalls", spec := "auctionCalls", unfollowed := true, recurses := true, plainKeys := false, apart := false, narrowed := true }
def AuctionCallsUptoSaid : Prop := auctionCallsUptoRow.holds Try.pinned (OpenSpec.upto auctionCallsSpec)

/-- 'rialtolaw14.AuctionClears', WHERE WHAT IT READS IS OF BULK AT MOST 1048576: true; the input reads as it did. -/
def auctionClearsUptoRow : OpenClaim := { program := "ytgnmghcdfihmgaa", sum := "aea752210d5bb3b7eae81462bb27fad349c634f5aa9cde2120e1c3126201a15d", func := "rialto/rialtolaw14.AuctionClears", spec := "auctionClears", unfollowed := true, recurses := true, plainKeys := false, apart := false, narrowed := true }
def AuctionClearsUptoSaid : Prop := auctionClearsUptoRow.holds Try.pinned (OpenSpec.upto auctionClearsSpec)

end Rows
end Go.Proofs.Ytgnmghcdfihmgaa
