/- The deal's small calls, and the copy of a book. -/
import Derived.Test.YtgnmghcdfihmgaaOwe
namespace Go.Proofs.Ytgnmghcdfihmgaa
open Go.RowKit
set_option linter.all false
/-- What is owed has grown by so many calls. -/
def OkO (c : Nat) (l : List OweV) : Prop := l.length ≤ 16 + c ∧ ∀ y ∈ l, 0 ≤ y.n ∧ y.n ≤ 9007199254740992 + (c : Int) * 1000000000000
theorem okO_owe {c : Nat} {l : List OweV} {acc asset n : Int} (h : OkO c l) (hn : 0 ≤ n ∧ n ≤ 1000000000000) : OkO (c + 1) (oweL acc asset n l) := by
  obtain ⟨h1, h2⟩ := h
  unfold oweL
  split
  · rename_i i hi
    refine ⟨by rw [List.length_modify]; omega, fun y hy => ?_⟩
    rw [List.mem_iff_getElem?] at hy
    obtain ⟨j, hj⟩ := hy
    rw [List.getElem?_modify] at hj
    cases hjl : l[j]? with
    | none => rw [hjl] at hj; simp at hj
    | some z =>
      have hz := h2 z (List.mem_of_getElem? hjl)
      rw [hjl] at hj
      simp only [Option.map_eq_map, Option.map_some, Option.some.injEq] at hj
      rw [← hj]
      split
      · simp only
        omega
      · first | omega | (simp only [id]; omega)
  · unfold laidL
    refine ⟨?_, fun y hy => ?_⟩
    · have := congrArg List.length (List.takeWhile_append_dropWhile (p := (owB · ⟨acc, asset, n⟩)) (l := l))
      rw [List.length_append] at this ⊢
      rw [List.length_cons]
      omega
    · rw [List.mem_append, List.mem_cons] at hy
      rcases hy with hy | rfl | hy
      · have := h2 y (List.takeWhile_subset _ hy)
        omega
      · simp only
        omega
      · have := h2 y (List.dropWhile_subset _ hy)
        omega
theorem okO_fits {c : Nat} {l : List OweV} (h : OkO c l) (hc : c ≤ 1000) {n : Int} (hn : 0 ≤ n ∧ n ≤ 1000000000000) : l.length ≤ 100000 ∧ ∀ y ∈ l, 0 ≤ y.n + n ∧ y.n + n ≤ 9000000000000000000 :=
  ⟨by have := h.1; omega, fun y hy => by have := h.2 y hy; omega⟩
def overB (l : List OweV) : Bool := l.any (fun o => decide (9007199254740992 < o.n))
end Go.Proofs.Ytgnmghcdfihmgaa
