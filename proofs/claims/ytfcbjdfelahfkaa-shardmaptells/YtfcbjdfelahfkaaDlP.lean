/- The document's Learn in plain data. -/
import Derived.Test.YtfcbjdfelahfkaaOwn
namespace Go.Proofs.Ytfcbjdfelahfkaa
open Go.RowKit
set_option linter.all false
def dStep (p : PlaV) (s : List PlaV × Bool) (q : PlaV) : List PlaV × Bool :=
  let s1 := if (!s.2 && ahdB p.1 q.1) = true then (s.1 ++ [p], true) else s
  if (q.1 == p.1) = true then (if q.2.2 < p.2.2 then (s1.1 ++ [p], true) else (s1.1 ++ [q], true)) else (s1.1 ++ [q], s1.2)
def docS (p : PlaV) (l : List PlaV) : List PlaV × Bool := l.foldl (dStep p) ([], false)
def docL (l : List PlaV) (p : PlaV) : List PlaV := if (docS p l).2 then (docS p l).1 else (docS p l).1 ++ [p]
theorem fold_pre (p : PlaV) : ∀ (l out : List PlaV), (∀ q ∈ l, ahdB q.1 p.1 = true) → l.foldl (dStep p) (out, false) = (out ++ l, false)
  | [], out, _ => by simp
  | q :: r, out, h => by
    have hq := h q (by simp)
    have h1 : ahdB p.1 q.1 = false := by
      cases hx : ahdB p.1 q.1
      · rfl
      · have := ahd_trans hq hx
        rw [ahd_irr] at this
        cases this
    have h2 : (q.1 == p.1) = false := by
      rw [beq_eq_false_iff_ne]
      intro e
      rw [e, ahd_irr] at hq
      cases hq
    rw [List.foldl_cons, show dStep p (out, false) q = (out ++ [q], false) by simp only [dStep, h1, h2]; simp, fold_pre p r _ (fun x hx => h x (by simp [hx]))]
    simp
theorem fold_post (p : PlaV) : ∀ (l out : List PlaV), (∀ q ∈ l, q.1 ≠ p.1) → l.foldl (dStep p) (out, true) = (out ++ l, true)
  | [], out, _ => by simp
  | q :: r, out, h => by
    have h2 : (q.1 == p.1) = false := beq_eq_false_iff_ne.2 (h q (by simp))
    rw [List.foldl_cons, show dStep p (out, true) q = (out ++ [q], true) by simp only [dStep, h2]; simp, fold_post p r _ (fun x hx => h x (by simp [hx]))]
    simp
theorem take_pre {l : List PlaV} (k : KeyV) (q : PlaV) (h : q ∈ l.take (sekN l k)) : ahdB q.1 k = true := by
  have e : l.take (sekN l k) = l.takeWhile (fun p => ahdB p.1 k) := by
    unfold sekN
    conv => lhs; arg 2; rw [← List.takeWhile_append_dropWhile (p := fun p => ahdB p.1 k) (l := l)]
    rw [List.take_left']
    rfl
  rw [e] at h
  have := List.all_takeWhile (p := fun p => ahdB p.1 k) (l := l)
  exact List.all_eq_true.1 this q h
theorem set_split {α : Type} (l : List α) (N : Nat) (x : α) (h : N < l.length) : l.set N x = l.take N ++ x :: l.drop (N + 1) := by
  apply List.ext_getElem?
  intro j
  rcases Nat.lt_trichotomy j N with hj | rfl | hj
  · rw [List.getElem?_set_ne (by omega), List.getElem?_append_left (by rw [List.length_take]; omega), List.getElem?_take, if_pos hj]
  · rw [List.getElem?_set_self h, List.getElem?_append_right (by rw [List.length_take]; omega), List.length_take, Nat.min_eq_left (by omega), Nat.sub_self]
    rfl
  · rw [List.getElem?_set_ne (by omega), List.getElem?_append_right (by rw [List.length_take]; omega), List.length_take, Nat.min_eq_left (by omega), show j - N = (j - N - 1) + 1 by omega, List.getElem?_cons_succ, List.getElem?_drop, show N + 1 + (j - N - 1) = j by omega]
theorem doc_is {l : List PlaV} (p : PlaV) (hp : l.Pairwise (fun a b => ahdB a.1 b.1 = true)) : docL l p = lrnL l p := by
  have hle := sek_le l p.1
  have e0 : docS p l = (l.drop (sekN l p.1)).foldl (dStep p) (l.take (sekN l p.1), false) := by
    unfold docS
    conv => lhs; rw [← List.take_append_drop (sekN l p.1) l]
    rw [List.foldl_append, fold_pre p _ _ (fun q hq => take_pre p.1 q hq)]
    rw [List.nil_append]
  rcases Nat.lt_or_ge (sekN l p.1) l.length with hN | hN
  · have ha := sek_at hp p.1 (sekN l p.1) hN
    simp only [Nat.le_refl, decide_true, Bool.not_eq_true'] at ha
    have hbeh : ∀ q ∈ l.drop (sekN l p.1 + 1), ahdB l[sekN l p.1].1 q.1 = true := fun q hq => by
      obtain ⟨i, hi, rfl⟩ := List.mem_iff_getElem.1 hq
      rw [List.getElem_drop]
      exact List.pairwise_iff_getElem.1 hp _ _ hN (by rw [List.length_drop] at hi; omega) (by omega)
    cases hk : (l[sekN l p.1].1 == p.1)
    · have hkn : knoB l p.1 = false := by
        unfold knoB
        rw [List.getElem?_eq_getElem hN]
        exact hk
      have hah : ahdB p.1 l[sekN l p.1].1 = true := by
        cases hx : ahdB p.1 l[sekN l p.1].1
        · exact absurd (ahd_tri _ _ ha hx) (beq_eq_false_iff_ne.1 hk)
        · rfl
      have e1 : docS p l = (l.take (sekN l p.1) ++ p :: l.drop (sekN l p.1), true) := by
        rw [e0, List.drop_eq_getElem_cons hN, List.foldl_cons, show dStep p (l.take (sekN l p.1), false) l[sekN l p.1] = (l.take (sekN l p.1) ++ [p] ++ [l[sekN l p.1]], true) by simp only [dStep, hah, hk]; simp, fold_post p _ _ (fun q hq e => by
          have := ahd_trans hah (hbeh q hq)
          rw [e, ahd_irr] at this
          cases this)]
        simp
      unfold docL lrnL
      rw [e1, hkn]
      simp
    · have hkn : knoB l p.1 = true := by
        unfold knoB
        rw [List.getElem?_eq_getElem hN]
        exact hk
      have he : l[sekN l p.1].1 = p.1 := by simpa using hk
      have hpost : ∀ q ∈ l.drop (sekN l p.1 + 1), q.1 ≠ p.1 := fun q hq e => by
        have := hbeh q hq
        rw [he, e, ahd_irr] at this
        cases this
      have hg : l.getD (sekN l p.1) p = l[sekN l p.1] := by simp [List.getD_eq_getElem?_getD, List.getElem?_eq_getElem hN]
      unfold docL lrnL
      rw [hkn, hg]
      by_cases hv : l[sekN l p.1].2.2 < p.2.2
      · have e1 : docS p l = (l.take (sekN l p.1) ++ p :: l.drop (sekN l p.1 + 1), true) := by
          rw [e0, List.drop_eq_getElem_cons hN, List.foldl_cons, show dStep p (l.take (sekN l p.1), false) l[sekN l p.1] = (l.take (sekN l p.1) ++ [p], true) by simp only [dStep, he, hv, ahd_irr]; simp, fold_post p _ _ hpost]
          simp
        rw [e1]
        simp [hv, set_split l _ p hN]
      · have e1 : docS p l = (l, true) := by
          rw [e0, List.drop_eq_getElem_cons hN, List.foldl_cons, show dStep p (l.take (sekN l p.1), false) l[sekN l p.1] = (l.take (sekN l p.1) ++ [l[sekN l p.1]], true) by simp only [dStep, he, hv, ahd_irr]; simp, fold_post p _ _ hpost]
          simp
        rw [e1]
        simp [hv]
  · have hkn : knoB l p.1 = false := by
      unfold knoB
      rw [List.getElem?_eq_none hN]
    have e1 : docS p l = (l, false) := by
      rw [e0, List.drop_of_length_le hN, List.take_of_length_le hN]
      rfl
    unfold docL lrnL
    rw [e1, hkn, List.drop_of_length_le hN, List.take_of_length_le hN]
    simp
/-- What was gathered so far is little. -/
theorem doc_len (p : PlaV) : ∀ (l : List PlaV) (s : List PlaV × Bool), (l.foldl (dStep p) s).1.length ≤ s.1.length + 2 * l.length
  | [], s => by simp
  | q :: r, s => by
    have h := doc_len p r (dStep p s q)
    have h2 : (dStep p s q).1.length ≤ s.1.length + 2 := by
      obtain ⟨o, b⟩ := s
      cases b <;> cases h1 : ahdB p.1 q.1 <;> cases h2 : (q.1 == p.1) <;> by_cases h3 : q.2.2 < p.2.2 <;> simp [dStep, h1, h2, h3]
    simp only [List.foldl_cons, List.length_cons]
    omega
theorem docS_take (p : PlaV) {l : List PlaV} {t : Nat} (h : t < l.length) : docS p (l.take (t + 1)) = dStep p (docS p (l.take t)) l[t] := by
  unfold docS
  rw [List.take_succ_eq_append_getElem h, List.foldl_append]
  rfl
end Go.Proofs.Ytfcbjdfelahfkaa
