/- An order that is taken out: plain data. -/
import Derived.Test.YtgnmghcdfihmgaaDl
namespace Go.Proofs.Ytgnmghcdfihmgaa
open Go.RowKit
set_option linter.all false
/-- An order is taken out of a side. -/
def outP (acc id : Int) (o : OrdV) : Bool := decide (o.id = id) && decide (o.acc = acc)
def canF (L : LaneV) (acc id : Int) : Option (LaneV × OrdV) := match L.bids.findIdx? (outP acc id) with
  | some i => some (⟨L.call, L.next, L.bids.eraseIdx i, L.asks, oweL (L.bids.getD i ⟨0, 0, 0, 0⟩).acc 0 (brN 1 (L.bids.getD i ⟨0, 0, 0, 0⟩)) L.owed⟩, L.bids.getD i ⟨0, 0, 0, 0⟩)
  | none => match L.asks.findIdx? (outP acc id) with
    | some i => some (⟨L.call, L.next, L.bids, L.asks.eraseIdx i, oweL (L.asks.getD i ⟨0, 0, 0, 0⟩).acc 1 (brN 2 (L.asks.getD i ⟨0, 0, 0, 0⟩)) L.owed⟩, L.asks.getD i ⟨0, 0, 0, 0⟩)
    | none => none
end Go.Proofs.Ytgnmghcdfihmgaa
