/- Cancel, walked. -/
import Derived.Test.YtgnmghcdfihmgaaTkO
import Derived.Test.YtgnmghcdfihmgaaPlT
namespace Go.Proofs.Ytgnmghcdfihmgaa
open Go.RowKit
set_option linter.all false
def canR (L : LaneV) (acc id : Int) : LaneV × Int × Int :=
  if chkB L = true then (match canF L acc id with
    | none => (zLane, 0, 132)
    | some Mx => if overB Mx.1.owed then (zLane, 0, 131) else (Mx.1, Mx.2.left, 0))
  else (zLane, 0, 130)
def CnBack (X : LaneV × Int × Int) (w : World) (e : Ending) (w' : World) : Prop := ∃ b a o, e = .returned (.tuple #[laneV X.1 b a o, .int .i64 X.2.1, .int .i64 X.2.2]) ∧ w'.ownsRow w.heap.size 38 4 b X.1.bids.length (celC ordE X.1.bids) ∧ w'.ownsRow w.heap.size 38 4 a X.1.asks.length (celC ordE X.1.asks) ∧ w'.ownsRow w.heap.size 48 3 o X.1.owed.length (celC oweE X.1.owed) ∧ Below w.heap.size w w'
theorem five5_at {w : World} {p : Nat} {t : TypeId} {a b c d e : Value} (h : w.heap[p]? = some (.cells #[a, b, c, d, e] t (0, 0))) : (w.cell? ⟨p, 0, none⟩ = some a ∧ w.cell? ⟨p, 1, none⟩ = some b ∧ w.cell? ⟨p, 2, none⟩ = some c ∧ w.cell? ⟨p, 3, none⟩ = some d ∧ w.cell? ⟨p, 4, none⟩ = some e) ∧ (∀ j, w.frozen? ⟨p, j, none⟩ = false) ∧ p < w.heap.size :=
  ⟨⟨by rw [cell_at h]; rfl, by rw [cell_at h]; rfl, by rw [cell_at h]; rfl, by rw [cell_at h]; rfl, by rw [cell_at h]; rfl⟩, fun j => free_at h j, (Array.getElem?_eq_some_iff.1 h).1⟩
theorem can_owed {L M : LaneV} {acc id : Int} {x : OrdV} (h : canF L acc id = some (M, x)) : M.owed.length ≤ L.owed.length + 1 := by
  have hl : ∀ a s n, (oweL a s n L.owed).length ≤ L.owed.length + 1 := fun a s n => by
    unfold oweL
    split
    · rw [List.length_modify]; omega
    · unfold laidL
      have := congrArg List.length (List.takeWhile_append_dropWhile (p := (owB · ⟨a, s, n⟩)) (l := L.owed))
      rw [List.length_append] at this ⊢
      rw [List.length_cons]
      omega
  unfold canF at h
  split at h
  · simp only [Option.some.injEq, Prod.mk.injEq] at h
    obtain ⟨rfl, -⟩ := h
    exact hl _ _ _
  · split at h
    · simp only [Option.some.injEq, Prod.mk.injEq] at h
      obtain ⟨rfl, -⟩ := h
      exact hl _ _ _
    · cases h
end Go.Proofs.Ytgnmghcdfihmgaa
