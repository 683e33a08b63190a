/- The error of an order that is not even begun. -/
import Derived.Test.YtgnmghcdfihmgaaCheck
import Derived.Test.YtgnmghcdfihmgaaCop
namespace Go.Proofs.Ytgnmghcdfihmgaa
open Go.RowKit
set_option linter.all false
def sideL (L : LaneV) (s : Int) : List OrdV := if s = 1 then L.bids else L.asks
def argB (acc s price n : Int) : Bool := wiB acc 1 8 && ((decide (s = 1) || decide (s = 2)) && (wiB price 1 1000000 && wiB n 1 1000000))
def refE (L : LaneV) (acc s price n : Int) (now : Bool) : Int :=
  if chkB L = false then 130 else if argB acc s price n = false then 1 else if (now && L.call) = true then 133 else if (sideL L s).length = 40 ∨ 1000000 < L.next then 131 else 0
end Go.Proofs.Ytgnmghcdfihmgaa
