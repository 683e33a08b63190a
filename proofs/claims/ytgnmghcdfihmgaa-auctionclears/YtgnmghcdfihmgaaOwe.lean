/- So much more is owed. -/
import Derived.Test.YtgnmghcdfihmgaaDeal
namespace Go.Proofs.Ytgnmghcdfihmgaa
open Go.RowKit
set_option linter.all false
theorem celC_modify (l : List OweV) (i : Nat) (h : i < l.length) (n : Int) : (celC oweE l).set (i * 3 + 2) (.int .i64 (l[i].n + n)) = celC oweE (l.modify i (fun y => ⟨y.acc, y.asset, y.n + n⟩)) := by
  induction l generalizing i with
  | nil => simp at h
  | cons y l ih =>
    cases i with
    | zero =>
      rw [List.modify_zero_cons, celC_cons, celC_cons]
      rfl
    | succ i =>
      rw [List.modify_succ_cons, celC_cons, celC_cons, ← ih i (by simpa using h), List.set_append, if_neg (by rw [oweK]; omega), oweK, show (i + 1) * 3 + 2 - 3 = i * 3 + 2 by omega]
      rfl
/-- What the deal is when so much more is owed. -/
def dealO (L : LaneV) (acc asset n : Int) : LaneV := ⟨L.call, L.next, L.bids, L.asks, oweL acc asset n L.owed⟩
def DealBack (D B : Nat) (L : LaneV) (F : List FillV) (b a : Value) (w : World) : Ending → World → Prop := fun e w' => e = .returned (.tuple #[]) ∧ ∃ o f, Deal D B L F b a o f w' ∧ Tch D B w w'
end Go.Proofs.Ytgnmghcdfihmgaa
