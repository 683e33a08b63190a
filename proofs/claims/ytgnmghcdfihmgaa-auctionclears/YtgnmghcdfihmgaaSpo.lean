/- A book is spoiled: nothing below it turns. -/
import Derived.Test.YtgnmghcdfihmgaaCop
import Derived.Test.YtgnmghcdfihmgaaRCo
namespace Go.Proofs.Ytgnmghcdfihmgaa
open Go.RowKit
set_option linter.all false
theorem row_setG {w : World} {B n g j z : Nat} {e : TypeId} {v u : Value} {xs : List Value} {cur : Array Value} (ho : w.ownsRow B e z v n xs) (hg : w.heap[g]? = some (.cells cur e (0, 0))) : ∃ ys, (w.setCell ⟨g, j, none⟩ u).ownsRow B e z v n ys := by
  obtain ⟨h1, hn | ⟨g', cap, cur', hv, hb, hg', hnc, hcm, hs, ht⟩⟩ := ho
  · exact ⟨xs, h1, .inl hn⟩
  · by_cases e1 : g' = g
    · subst e1
      refine ⟨(cur'.setIfInBounds j u).toList.take (n * z), ?_, .inr ⟨g', cap, cur'.setIfInBounds j u, hv, hb, heap_set hg' j u, hnc, hcm, by simp [hs], rfl⟩⟩
      rw [List.length_take]
      simp [hs]
      rw [Nat.min_eq_left hnc]
    · exact ⟨xs, h1, .inr ⟨g', cap, cur', hv, hb, (heap_set_other _ _ _ _ _ e1).trans hg', hnc, hcm, hs, ht⟩⟩
theorem row_atG {w : World} {B n z : Nat} {e : TypeId} {v : Value} {xs : List Value} (ho : w.ownsRow B e z v n xs) (q : Nat) (hq : q < z) : ∃ a c, v = .slice a n c ∧ ∀ i, i < n → ∃ g off cur u, a = some ⟨g, off, none⟩ ∧ B ≤ g ∧ w.heap[g]? = some (.cells cur e (0, 0)) ∧ g < w.heap.size ∧ w.cell? ⟨g, off + i * z + q, none⟩ = some u ∧ w.frozen? ⟨g, off + i * z + q, none⟩ = false := by
  obtain ⟨h1, ⟨rfl, rfl⟩ | ⟨g, cap, cur, rfl, hb, hg, hnc, hcm, hs, ht⟩⟩ := ho
  · exact ⟨_, _, rfl, fun i hi => by omega⟩
  · refine ⟨_, _, rfl, fun i hi => ?_⟩
    have hlt : 0 + i * z + q < cur.size := by
      rw [hs]
      have : (i + 1) * z ≤ cap * z := Nat.mul_le_mul_right _ (by omega)
      rw [Nat.add_mul, Nat.one_mul] at this
      omega
    exact ⟨g, 0, cur, cur[0 + i * z + q], rfl, hb, hg, (Array.getElem?_eq_some_iff.1 hg).1, by rw [cell_at hg, Array.getElem?_eq_getElem hlt], free_at hg _⟩
theorem ty_set {W : World} {b j k : Nat} {u : Value} {cs cur : Array Value} {t e : TypeId} (h : W.heap[b]? = some (.cells cs t (0, 0))) (hg : W.heap[k]? = some (.cells cur e (0, 0))) (hne : t ≠ e) : (W.setCell ⟨k, j, none⟩ u).heap[b]? = some (.cells cs t (0, 0)) :=
  setOther _ h (fun e1 => by rw [e1, hg] at h; simp at h; exact hne h.2.symm)
/-- A book while it is spoiled. -/
structure SP (w : World) (B K : Nat) (cs : Array Value) (b a o : Value) (nb na no : Nat) (W : World) : Prop where
  bx : W.heap[K]? = some (.cells cs 25 (0, 0))
  ob : ∃ xs, W.ownsRow B 38 4 b nb xs
  oa : ∃ xs, W.ownsRow B 38 4 a na xs
  oo : ∃ xs, W.ownsRow B 48 3 o no xs
  bel : Below B w W
theorem SP.s49 {w W : World} {B K : Nat} {cs : Array Value} {b a o u : Value} {nb na no g j : Nat} {cur : Array Value} (h : SP w B K cs b a o nb na no W) (hg : W.heap[g]? = some (.cells cur 38 (0, 0))) (hB : B ≤ g) : SP w B K cs b a o nb na no (W.setCell ⟨g, j, none⟩ u) := by
  obtain ⟨xb, hb⟩ := h.ob
  obtain ⟨xa, ha⟩ := h.oa
  obtain ⟨xo, ho⟩ := h.oo
  exact ⟨ty_set h.bx hg (by decide), row_setG hb hg, row_setG ha hg, ⟨xo, own_cell ho hg (by decide)⟩, belowSet _ h.bel hB⟩
theorem SP.s66 {w W : World} {B K : Nat} {cs : Array Value} {b a o u : Value} {nb na no g j : Nat} {cur : Array Value} (h : SP w B K cs b a o nb na no W) (hg : W.heap[g]? = some (.cells cur 48 (0, 0))) (hB : B ≤ g) : SP w B K cs b a o nb na no (W.setCell ⟨g, j, none⟩ u) := by
  obtain ⟨xb, hb⟩ := h.ob
  obtain ⟨xa, ha⟩ := h.oa
  obtain ⟨xo, ho⟩ := h.oo
  exact ⟨ty_set h.bx hg (by decide), ⟨xb, own_cell hb hg (by decide)⟩, ⟨xa, own_cell ha hg (by decide)⟩, row_setG ho hg, belowSet _ h.bel hB⟩
end Go.Proofs.Ytgnmghcdfihmgaa
