/- A new order meets those of the other side: walked. -/
import Derived.Test.YtgnmghcdfihmgaaTrD
namespace Go.Proofs.Ytgnmghcdfihmgaa
open Go.RowKit
set_option linter.all false

/-- What comes back. -/
def TrBack1 (D B : Nat) (L : LaneV) (b a : Value) (R : List OrdV × Int × List OweV × List FillV) (w : World) (e : Ending) (w' : World) : Prop := ∃ tv o' f', e = .returned (.int .i64 R.2.1) ∧ Deal D B ⟨L.call, L.next, L.bids, R.1, R.2.2.1⟩ R.2.2.2 b tv o' f' w' ∧ tv.ownBlock = a.ownBlock ∧ Tcr D B a.ownBlock w w'
/-- What comes back. -/
def TrBack2 (D B : Nat) (L : LaneV) (b a : Value) (R : List OrdV × Int × List OweV × List FillV) (w : World) (e : Ending) (w' : World) : Prop := ∃ tv o' f', e = .returned (.int .i64 R.2.1) ∧ Deal D B ⟨L.call, L.next, R.1, L.asks, R.2.2.1⟩ R.2.2.2 tv a o' f' w' ∧ tv.ownBlock = b.ownBlock ∧ Tcr D B b.ownBlock w w'
end Go.Proofs.Ytgnmghcdfihmgaa
