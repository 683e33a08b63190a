/- Compacted twice is compacted once: plain mathematics. -/
import Derived.Test.YtofbikalfpmdpabComp
namespace Go.Proofs.Ytofbikalfpmdpab
open Go.RowKit
theorem rows_drop (l : List EntV) : ∀ (x : Int) (k : Nat) (h : k < l.length), rowsB l x = true → rowsB (l.drop (k + 1)) (l[k]).term = true := by
  induction l with
  | nil => intro _ _ h; simp at h
  | cons a l ih =>
    intro x k h hr
    simp only [rowsB, Bool.and_eq_true] at hr
    cases k with
    | zero => exact hr.2
    | succ k => exact ih a.term k (by simpa using h) hr.2
theorem rows_term (l : List EntV) : ∀ (x : Int), rowsB l x = true → ∀ e ∈ l, 1 ≤ e.term ∧ e.term ≤ 1000000 := by
  intro x h e he
  have := rowsB_all l x h e he
  simp only [entB, wiB, Bool.and_eq_true, decide_eq_true_eq] at this
  exact this.1
/-- The term of an index behind the base. -/
theorem term_at {L : LogV} (h : mayB L = true) (i : Int) (k : Nat) (hk : k < L.l.length) (hi : i = L.bi + 1 + k) : termL L i = ((L.l[k]).term, true) := by
  rw [termL, if_pos h]
  have hb : hasB L i = true := decide_eq_true (by unfold lasI; omega)
  simp only [markL]
  rw [if_neg (by omega), hb]
  simp only [if_true]
  rw [show i - L.bi - 1 = (k : Int) by omega, Int.toNat_natCast]
  simp [List.getD, List.getElem?_eq_getElem hk]
/-- What is compacted may be. -/
theorem comp_may {L : LogV} (h : mayB L = true) (i : Int) (h1 : L.bi < i) (h2 : i ≤ L.cm) : mayB (compL L i).1 = true := by
  have hin := mayB_in h
  unfold lasI at hin
  obtain ⟨k, hk⟩ : ∃ k : Nat, i = L.bi + 1 + k := ⟨(i - L.bi - 1).toNat, by omega⟩
  have hkl : k < L.l.length := by omega
  rw [compL, if_pos h, if_pos ⟨h1, h2⟩, term_at h i k hkl hk]
  rw [show (i - L.bi).toNat = k + 1 by omega]
  have ht := rows_term L.l L.bt hin.2.2.2.1 _ (List.getElem_mem hkl)
  have hr := rows_drop L.l L.bt k hkl hin.2.2.2.1
  generalize (L.l[k]).term = tt at *
  simp only [mayB, lasI, List.length_drop, hr, mkB, wiB]
  simp only [Bool.and_eq_true, decide_eq_true_eq, beq_iff_eq]
  refine ⟨⟨⟨⟨⟨⟨by omega, by omega⟩, ?_⟩, by omega⟩, trivial⟩, by omega⟩, by omega, by omega⟩
  rw [show (i == 0) = false from beq_eq_false_iff_ne.2 (by omega), show (tt == 0) = false from beq_eq_false_iff_ne.2 (by omega)]
/-- Compacted twice is compacted once, at the later index. -/
theorem comp_twice {L : LogV} (i j : Int) (h0 : (compL L i).2 = 0) : ((compL (compL L i).1 j).2 = 0 → (compL (compL L i).1 j).1 = (compL L j).1 ∧ (compL L j).2 = 0) ∧ ((compL (compL L i).1 j).2 ≠ 0 → (compL (compL L i).1 j).2 = 91 ∧ (j ≤ i ∨ (compL L j).2 ≠ 0)) := by
  have hm : mayB L = true := by
    cases h : mayB L
    · rw [compL, h] at h0
      simp at h0
    · rfl
  have hij : L.bi < i ∧ i ≤ L.cm := by
    rw [compL, if_pos hm] at h0
    by_cases hc : L.bi < i ∧ i ≤ L.cm
    · exact hc
    · rw [if_neg hc] at h0
      simp at h0
  have hm2 := comp_may hm i hij.1 hij.2
  have hin := mayB_in hm
  unfold lasI at hin
  obtain ⟨k, hk⟩ : ∃ k : Nat, i = L.bi + 1 + k := ⟨(i - L.bi - 1).toNat, by omega⟩
  have hkl : k < L.l.length := by omega
  have ec : compL L i = (⟨i, (L.l[k]).term, L.l.drop (k + 1), L.cm⟩, 0) := by
    rw [compL, if_pos hm, if_pos hij, term_at hm i k hkl hk, show (i - L.bi).toNat = k + 1 by omega]
  rw [ec] at hm2 ⊢
  simp only at hm2 ⊢
  by_cases hj : i < j ∧ j ≤ L.cm
  · obtain ⟨q, hq⟩ : ∃ q : Nat, j = i + 1 + q := ⟨(j - i - 1).toNat, by omega⟩
    have hq1 : q < (L.l.drop (k + 1)).length := by
      rw [List.length_drop]
      omega
    have hq2 : k + 1 + q < L.l.length := by omega
    have t1 := term_at hm2 j q hq1 (by simp only; omega)
    have t2 := term_at hm j (k + 1 + q) hq2 (by omega)
    simp only at t1
    have e1 : compL ⟨i, (L.l[k]).term, L.l.drop (k + 1), L.cm⟩ j = (⟨j, (L.l[k + 1 + q]).term, L.l.drop (k + 1 + (q + 1)), L.cm⟩, 0) := by
      rw [compL, if_pos hm2, if_pos hj, t1]
      simp only
      rw [List.getElem_drop, show (j - i).toNat = q + 1 by omega, List.drop_drop]
    have e2 : compL L j = (⟨j, (L.l[k + 1 + q]).term, L.l.drop (k + 1 + (q + 1)), L.cm⟩, 0) := by
      rw [compL, if_pos hm, if_pos ⟨by omega, by omega⟩, t2]
      rw [show (j - L.bi).toNat = k + 1 + (q + 1) by omega]
    rw [e1, e2]
    exact ⟨fun _ => ⟨rfl, rfl⟩, fun h => absurd rfl h⟩
  · have e1 : compL ⟨i, (L.l[k]).term, L.l.drop (k + 1), L.cm⟩ j = (zL, 91) := by
      rw [compL, if_pos hm2, if_neg hj]
    rw [e1]
    refine ⟨fun h => by simp at h, fun _ => ⟨rfl, ?_⟩⟩
    by_cases hji : j ≤ i
    · exact .inl hji
    · right
      rw [compL, if_pos hm, if_neg (by omega)]
      simp
theorem comp_len {L : LogV} (i : Int) : (compL L i).1.l.length ≤ L.l.length := by
  unfold compL
  split
  · split
    · simp only [List.length_drop]
      omega
    · exact Nat.zero_le _
  · exact Nat.zero_le _
end Go.Proofs.Ytofbikalfpmdpab
