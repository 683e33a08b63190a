/- Short names. -/
import Derived.Test.YtcaehfkfohianaaGreatProg
import Derived.ProofKit
set_option linter.all false
namespace Go.Proofs.YtcaehfkfohianaaGreat
open Go.RowKit
theorem aA : type_of% @List.setIfInBounds_toArray := @List.setIfInBounds_toArray
theorem aB : type_of% @List.set_cons_zero := @List.set_cons_zero
theorem aC : type_of% @List.set_cons_succ := @List.set_cons_succ
theorem aP : type_of% @Act.put.eq_1 := @Act.put.eq_1
theorem aQ : type_of% @Act.put.eq_2 := @Act.put.eq_2
end Go.Proofs.YtcaehfkfohianaaGreat
