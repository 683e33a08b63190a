/- slices.Insert at orders and at what is owed. -/
import Derived.Test.YtgnmghcdfihmgaaRow
namespace Go.Proofs.Ytgnmghcdfihmgaa
open Go.RowKit
set_option linter.all false
end Go.Proofs.Ytgnmghcdfihmgaa

