/- What most have reached, by counting: plain mathematics. -/
import Derived.Test.YtonhoopmhkomcaaAdv
import Derived.Test.YtonhoopmhkomcaaAgP
namespace Go.Proofs.Ytonhoopmhkomcaa
open Go.RowKit
/-- How many are not below one. -/
def cntL (m : List Int) (y : Int) : Nat := (m.filter (fun z => decide (y ≤ z))).length
theorem cnt_app (l k : List Int) (y : Int) : cntL (l ++ k) y = cntL l y + cntL k y := by simp [cntL]
theorem cnt_le (l : List Int) (y : Int) : cntL l y ≤ l.length := List.length_filter_le _ _
theorem cnt_all {l : List Int} {y : Int} (h : ∀ z ∈ l, y ≤ z) : cntL l y = l.length := by
  unfold cntL
  rw [List.filter_eq_self.2 (fun z hz => by simpa using h z hz)]
theorem cnt_none {l : List Int} {y : Int} (h : ∀ z ∈ l, z < y) : cntL l y = 0 := by
  unfold cntL
  rw [List.filter_eq_nil_iff.2 (fun z hz => by have := h z hz; simpa using this)]
  rfl
theorem cnt_perm {l k : List Int} (h : l.Perm k) (y : Int) : cntL l y = cntL k y := (h.filter _).length_eq
theorem sort_perm (m : List Int) : (sortL m).Perm m := List.mergeSort_perm m _
theorem sort_pair (m : List Int) : (sortL m).Pairwise (fun x y => x ≤ y) := by
  have := List.pairwise_mergeSort (le := fun x y : Int => decide (x ≤ y)) (fun a b c h1 h2 => by simp at *; omega) (fun a b => by simp; omega) m
  exact this.imp (fun h => by simpa using h)
/-- The greatest so far that most are not below. -/
def bstL (m : List Int) : Nat → Int
  | 0 => -1
  | t + 1 => if m.length < 2 * cntL m (m.getD t 0) then max (bstL m t) (m.getD t 0) else bstL m t
theorem mid_mem {m : List Int} (h : 1 ≤ m.length) : midL m ∈ m := by
  have hl := sortL_len m
  have : midL m = (sortL m)[(m.length - 1) / 2]'(by omega) := by
    unfold midL
    rw [List.getD, List.getElem?_eq_getElem (by omega)]
    rfl
  rw [this]
  exact (sort_perm m).subset (List.getElem_mem _)
theorem mid_many {m : List Int} (h : 1 ≤ m.length) : m.length < 2 * cntL m (midL m) := by
  have hl := sortL_len m
  obtain ⟨ix, hix⟩ : ∃ ix, ix = (m.length - 1) / 2 := ⟨_, rfl⟩
  have e : midL m = (sortL m)[ix]'(by omega) := by
    unfold midL
    rw [← hix, List.getD, List.getElem?_eq_getElem (by omega)]
    rfl
  have hp := sort_pair m
  rw [← cnt_perm (sort_perm m)]
  have h2 : cntL (sortL m) (midL m) = cntL ((sortL m).take ix) (midL m) + cntL ((sortL m).drop ix) (midL m) := by rw [← cnt_app, List.take_append_drop]
  have h3 : cntL ((sortL m).drop ix) (midL m) = m.length - ix := by
    rw [cnt_all, List.length_drop, hl]
    intro z hz
    obtain ⟨j, hj, rfl⟩ := List.mem_iff_getElem.1 hz
    rw [List.length_drop] at hj
    rw [List.getElem_drop, e]
    by_cases hj0 : j = 0
    · subst hj0
      exact Int.le_refl _
    · exact List.pairwise_iff_getElem.1 hp ix (ix + j) (by omega) (by omega) (by omega)
  omega
theorem mid_top {m : List Int} (h : 1 ≤ m.length) (y : Int) (hy : m.length < 2 * cntL m y) : y ≤ midL m := by
  have hl := sortL_len m
  obtain ⟨ix, hix⟩ : ∃ ix, ix = (m.length - 1) / 2 := ⟨_, rfl⟩
  have e : midL m = (sortL m)[ix]'(by omega) := by
    unfold midL
    rw [← hix, List.getD, List.getElem?_eq_getElem (by omega)]
    rfl
  have hp := sort_pair m
  rcases Int.lt_or_le (midL m) y with hlt | hle
  · exfalso
    rw [← cnt_perm (sort_perm m)] at hy
    have h2 : cntL (sortL m) y = cntL ((sortL m).take (ix + 1)) y + cntL ((sortL m).drop (ix + 1)) y := by rw [← cnt_app, List.take_append_drop]
    have h3 : cntL ((sortL m).take (ix + 1)) y = 0 := cnt_none (fun z hz => by
      obtain ⟨j, hj, rfl⟩ := List.mem_iff_getElem.1 hz
      rw [List.length_take] at hj
      rw [List.getElem_take]
      by_cases hji : j = ix
      · subst hji
        omega
      · have := List.pairwise_iff_getElem.1 hp j ix (by omega) (by omega) (by omega)
        omega)
    have h4 := cnt_le ((sortL m).drop (ix + 1)) y
    rw [List.length_drop, hl] at h4
    omega
  · exact hle
theorem bst_le {m : List Int} (h : 1 ≤ m.length) (hp : 0 ≤ midL m) : ∀ t, t ≤ m.length → bstL m t ≤ midL m
  | 0, _ => by
    simp only [bstL]
    omega
  | t + 1, ht => by
    have := bst_le h hp t (by omega)
    rw [bstL]
    split
    · have h2 := mid_top h (m.getD t 0) (by assumption)
      omega
    · exact this
theorem bst_ge {m : List Int} : ∀ t, t ≤ m.length → ∀ i, i < t → m.length < 2 * cntL m (m.getD i 0) → m.getD i 0 ≤ bstL m t
  | 0, _, i, hi, _ => by omega
  | t + 1, ht, i, hi, hc => by
    rw [bstL]
    by_cases e : i = t
    · subst e
      rw [if_pos hc]
      omega
    · have := bst_ge t (by omega) i (by omega) hc
      split <;> omega
theorem bst_mid {m : List Int} (h : 1 ≤ m.length) (hp : 0 ≤ midL m) : bstL m m.length = midL m := by
  obtain ⟨i, hi, e⟩ := List.mem_iff_getElem.1 (mid_mem h)
  have h1 := bst_le h hp m.length (Nat.le_refl _)
  have hg : m.getD i 0 = midL m := by rw [List.getD, List.getElem?_eq_getElem hi]; exact e
  have h2 := bst_ge m.length (Nat.le_refl _) i hi (by rw [hg]; exact mid_many h)
  rw [hg] at h2
  omega
theorem min_foldl (l : List Int) : ∀ x, l.foldl min x ≤ x ∧ (∀ z ∈ l, l.foldl min x ≤ z) ∧ (l.foldl min x = x ∨ l.foldl min x ∈ l) := by
  induction l with
  | nil => intro x; simp
  | cons a l ih =>
    intro x
    obtain ⟨h1, h2, h3⟩ := ih (min x a)
    simp only [List.foldl_cons]
    refine ⟨by omega, fun z hz => ?_, ?_⟩
    · rcases List.mem_cons.1 hz with rfl | hz
      · omega
      · exact h2 z hz
    · rcases h3 with h3 | h3
      · rw [h3]
        rcases Int.le_total x a with hxa | hxa
        · left; omega
        · right
          rw [show min x a = a by omega]
          exact List.mem_cons_self ..
      · exact .inr (List.mem_cons_of_mem _ h3)
theorem min_neg {m : List Int} (h : 1 ≤ m.length) : 0 ≤ Lib.minOf m ↔ ∀ z ∈ m, 0 ≤ z := by
  unfold Lib.minOf
  cases m with
  | nil => simp at h
  | cons a l =>
    obtain ⟨h1, h2, h3⟩ := min_foldl (a :: l) ((a :: l).headD 0)
    simp only [List.headD_cons] at h1 h2 h3 ⊢
    constructor
    · intro h0 z hz
      have := h2 z hz
      omega
    · intro h0
      rcases h3 with h3 | h3
      · rw [h3]
        exact h0 a (List.mem_cons_self ..)
      · exact h0 _ h3
theorem hasM_term {L : LogV} (hm : mayB L = true) (x t : Int) : hasM L x t = ((termL L x).2 && ((termL L x).1 == t)) := by
  unfold hasM termL markL
  rw [hm]
  simp only [if_true]
  by_cases c : x = L.bi
  · rw [if_pos c]
    simp [c]
  · rw [if_neg c]
    cases hb : hasB L x <;> simp
end Go.Proofs.Ytonhoopmhkomcaa
