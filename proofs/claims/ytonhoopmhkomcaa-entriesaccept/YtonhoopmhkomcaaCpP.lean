/- A log that is sent all of another one from a mark on: plain mathematics. -/
import Derived.Test.YtonhoopmhkomcaaKpW
namespace Go.Proofs.Ytonhoopmhkomcaa
open Go.RowKit
theorem term_at {L : LogV} (hm : mayB L = true) (i : Int) : (termL L i).2 = true ↔ ∃ j : Nat, j ≤ L.l.length ∧ i = L.bi + j ∧ (termL L i).1 = tmN L.bt L.l j := by
  unfold termL
  rw [hm]
  simp only [if_true]
  constructor
  · intro h
    have hh : hasM L i (markL L i).1.2 = true := by
      unfold hasM
      rw [h]
      rcases markL_fst h with ⟨h1, _, _⟩ | h1
      · simp [h1]
      · simp [markL, h1]
    obtain ⟨j, h1, h2, h3⟩ := (hasM_iff L _ _).1 hh
    exact ⟨j, h1, h2, h3.symm⟩
  · rintro ⟨j, h1, h2, h3⟩
    have hh : hasM L i (tmN L.bt L.l j) = true := (hasM_iff L _ _).2 ⟨j, h1, h2, rfl⟩
    unfold hasM at hh
    simp only [Bool.and_eq_true] at hh
    exact hh.1
theorem term_of {L : LogV} (hm : mayB L = true) {i t : Int} (h : hasM L i t = true) : termL L i = (t, true) := by
  unfold hasM at h
  simp only [Bool.and_eq_true, beq_iff_eq] at h
  unfold termL
  rw [hm, if_pos rfl, h.1, h.2.2]
/-- A mark of a log that may be is a mark. -/
theorem mark_ok {L : LogV} (hm : mayB L = true) (j : Nat) (hj : j ≤ L.l.length) : mkB (L.bi + j) (tmN L.bt L.l j) = true := by
  have hin := mayB_in hm
  cases j with
  | zero => simpa [tmN] using mayB_mkB hm
  | succ j =>
    have h1 := ((rowsB_iff _ _).1 hin.2.2.2.1 j (by omega)).1
    have h2 : (L.l.getD j noE).term = (L.l[j]'(by omega)).term := by simp [List.getD, List.getElem?_eq_getElem (show j < L.l.length by omega)]
    have h3 : 1 ≤ (L.l[j]'(by omega)).term ∧ (L.l[j]'(by omega)).term ≤ 1000000 := by
      simp only [entB, wiB, Bool.and_eq_true, decide_eq_true_eq] at h1
      exact h1.1
    rw [show tmN L.bt L.l (j + 1) = (L.l[j]'(by omega)).term from h2]
    generalize (L.l[j]'(by omega)).term = tt at *
    simp only [mkB, wiB, Bool.and_eq_true, decide_eq_true_eq, beq_iff_eq]
    unfold lasI at hin
    refine ⟨⟨by omega, by omega⟩, ?_⟩
    rw [beq_eq_false_iff_ne.2 (show ¬ L.bi + ((j + 1 : Nat) : Int) = 0 by omega), beq_eq_false_iff_ne.2 (show ¬ tt = 0 by omega)]
theorem rows_drop {l : List EntV} {x : Int} (h : rowsB l x = true) (j : Nat) (hj : j ≤ l.length) : rowsB (l.drop j) (tmN x l j) = true := by
  rw [rowsB_iff] at h ⊢
  intro i hi
  rw [List.length_drop] at hi
  have h1 := h (j + i) (by omega)
  rw [List.getElem_drop]
  refine ⟨h1.1, ?_⟩
  cases i with
  | zero => simpa [tmN] using h1.2
  | succ i =>
    have e : tmN (tmN x l j) (l.drop j) (i + 1) = tmN x l (j + (i + 1)) := by
      rw [show j + (i + 1) = (j + i) + 1 by omega]
      simp only [tmN, List.getD, List.getElem?_drop]
    rw [e]
    exact h1.2
/-- What is sent cannot be refused but for its length. -/
theorem copy_plain {L M : LogV} (hL : mayB L = true) (hM : mayB M = true) (hbi : L.bi = M.bi) (hcm : L.cm = L.bi) (j : Nat) (hj : j ≤ M.l.length) (hh : hasM L (M.bi + j) (tmN M.bt M.l j) = true) :
    (accL L (M.bi + j) (tmN M.bt M.l j) (M.l.drop j) 0).2.2.2 = 2 ∨ ((accL L (M.bi + j) (tmN M.bt M.l j) (M.l.drop j) 0).2.2.2 = 0 ∧ (accL L (M.bi + j) (tmN M.bt M.l j) (M.l.drop j) 0).2.2.1 = true ∧ (accL L (M.bi + j) (tmN M.bt M.l j) (M.l.drop j) 0).2.1 = lasI M ∧ ∀ i : Int, M.bi + j ≤ i → i ≤ lasI M → (termL (accL L (M.bi + j) (tmN M.bt M.l j) (M.l.drop j) 0).1 i).1 = (termL M i).1) := by
  have hin := mayB_in hL
  have hiM := mayB_in hM
  have ha : argB (M.bi + j) (tmN M.bt M.l j) (M.l.drop j) 0 = true := by
    unfold argB
    rw [mark_ok hM j hj, rows_drop hiM.2.2.2.1 j hj]
    rfl
  have hpl := (hasM_in hh).2
  have hc : ¬ (L.bi ≤ M.bi + j ∧ hasM L (M.bi + j) (tmN M.bt M.l j) = false) := fun hx => by
    rw [hh] at hx
    cases hx.2
  have hlen : (M.l.drop j).length = M.l.length - j := List.length_drop
  have hacc : accL L (M.bi + j) (tmN M.bt M.l j) (M.l.drop j) 0 = if (putL L (M.bi + j) (M.l.drop j)).2 ≠ 0 then (zL, 0, false, (putL L (M.bi + j) (M.l.drop j)).2) else (⟨(putL L (M.bi + j) (M.l.drop j)).1.bi, (putL L (M.bi + j) (M.l.drop j)).1.bt, (putL L (M.bi + j) (M.l.drop j)).1.l, max L.cm (min 0 (M.bi + j + ((M.l.drop j).length : Int)))⟩, max (M.bi + j + ((M.l.drop j).length : Int)) L.bi, true, 0) := by
    unfold accL
    rw [hL, ha, if_neg (by simp), if_neg (by simp), if_neg hc]
  by_cases h0 : (putL L (M.bi + j) (M.l.drop j)).2 = 0
  · right
    have T := took hL ha hpl h0
    rw [hacc, if_neg (by simpa using h0)]
    simp only
    generalize (⟨(putL L (M.bi + j) (M.l.drop j)).1.bi, (putL L (M.bi + j) (M.l.drop j)).1.bt, (putL L (M.bi + j) (M.l.drop j)).1.l, max L.cm (min 0 (M.bi + j + ((M.l.drop j).length : Int)))⟩ : LogV) = A at *
    refine ⟨trivial, trivial, by unfold lasI; omega, fun i h1 h2 => ?_⟩
    unfold lasI at h2
    obtain ⟨q, rfl⟩ : ∃ q : Nat, i = M.bi + q := ⟨(i - M.bi).toNat, by omega⟩
    have eM : termL M (M.bi + q) = (tmN M.bt M.l q, true) := term_of hM ((hasM_iff _ _ _).2 ⟨q, by omega, rfl, rfl⟩)
    rw [eM]
    by_cases e : q = j
    · subst e
      rw [term_of T.may (T.mark _ (by omega) hh)]
    · obtain ⟨u, rfl⟩ : ∃ u, q = j + u + 1 := ⟨q - j - 1, by omega⟩
      obtain ⟨v, hv1, hv2, hv3⟩ := T.term u (by omega) (by omega)
      have : hasM A (M.bi + ((j + u + 1 : Nat) : Int)) (tmN M.bt M.l (j + u + 1)) = true := by
        refine (hasM_iff _ _ _).2 ⟨v + 1, by omega, by rw [T.bi]; omega, ?_⟩
        show (A.l.getD v noE).term = (M.l.getD (j + u) noE).term
        rw [hv3, List.getElem_drop]
        simp [List.getD, List.getElem?_eq_getElem (show j + u < M.l.length by omega)]
      rw [term_of T.may this]
  · left
    rw [hacc, if_pos h0]
    simp only
    have hle := passR_le L (M.l.drop j) (M.bi + j)
    have hpre := passR_pre L (M.l.drop j) (M.bi + j)
    have hpi := passR_in L (M.l.drop j) (M.bi + j) hpl
    unfold putL at h0 ⊢
    generalize passR L (M.bi + j) (M.l.drop j) = k at *
    by_cases c1 : k = (M.l.drop j).length
    · rw [if_pos c1] at h0
      exact absurd rfl h0
    · rw [if_neg c1] at h0 ⊢
      rw [if_neg (show ¬ (M.bi + j + k < L.cm) by omega)] at h0 ⊢
      have hkl : j + k < M.l.length := by omega
      have hcut : cutL L (M.bi + j + k) = ⟨L.bi, L.bt, L.l.take (j + k), L.cm⟩ := by
        unfold cutL
        rw [show (M.bi + j + k - L.bi).toNat = j + k by omega]
      have hjk : j + k ≤ L.l.length := by unfold lasI at hpi; omega
      have hlt : (L.l.take (j + k)).length = j + k := by rw [List.length_take]; omega
      have ht : tmN L.bt (L.l.take (j + k)) (j + k) = tmN L.bt L.l (j + k) := by
        have := tm_glue L.bt L.l [] (j + k) 0 hjk (j + k)
        simpa using this
      have hlast : tmN L.bt L.l (j + k) = tmN M.bt M.l (j + k) := by
        cases k with
        | zero =>
          obtain ⟨v, h1, h2, h3⟩ := (hasM_iff _ _ _).1 hh
          have : v = j := by omega
          subst this
          simpa using h3
        | succ k =>
          have hx : k < (M.l.drop j).length := by omega
          rcases hpre k hx (by omega) with h1 | h1
          · omega
          · obtain ⟨v, h2, h3, h4⟩ := (hasM_iff _ _ _).1 h1
            have : v = j + (k + 1) := by omega
            subst this
            rw [h4, List.getElem_drop]
            rw [show j + (k + 1) = (j + k) + 1 by omega]
            simp only [tmN]
            simp [List.getD, List.getElem?_eq_getElem (show j + k < M.l.length by omega)]
      have hge : ¬ (((M.l.drop j).getD k noE).term < (lasM (cutL L (M.bi + j + k))).2) := by
        rw [hcut, lasM_tm]
        simp only
        rw [hlt, ht, hlast]
        have h5 := ((rowsB_iff _ _).1 hiM.2.2.2.1 (j + k) hkl).2
        have h6 : ((M.l.drop j).getD k noE).term = (M.l[j + k]).term := by
          simp [List.getD, List.getElem?_drop, List.getElem?_eq_getElem hkl]
        omega
      rw [if_neg hge] at h0 ⊢
      split
      · rfl
      · rename_i hx
        rw [if_neg hx] at h0
        exact absurd rfl h0
end Go.Proofs.Ytonhoopmhkomcaa
