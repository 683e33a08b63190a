/- A map as what it knows of each key: plain data. -/
import Derived.Test.YtfcbjdfelahfkaaOwn
namespace Go.Proofs.Ytfcbjdfelahfkaa
open Go.RowKit
set_option linter.all false
abbrev Rises (l : List PlaV) : Prop := l.Pairwise (fun a b => ahdB a.1 b.1 = true)
def insR (p : PlaV) : List PlaV → List PlaV
  | [] => [p]
  | q :: r => if ahdB q.1 p.1 = true then q :: insR p r else if q.1 = p.1 then (if q.2.2 < p.2.2 then p :: r else q :: r) else p :: q :: r
theorem sek_cons (q : PlaV) (r : List PlaV) (k : KeyV) : sekN (q :: r) k = if ahdB q.1 k = true then sekN r k + 1 else 0 := by
  unfold sekN
  rw [List.takeWhile_cons]
  split <;> simp
theorem lrn_ins (p : PlaV) : ∀ l : List PlaV, lrnL l p = insR p l
  | [] => by simp [lrnL, insR, sekN, knoB]
  | q :: r => by
    have ih := lrn_ins p r
    unfold insR
    by_cases h : ahdB q.1 p.1 = true
    · rw [if_pos h, ← ih]
      unfold lrnL knoB
      rw [sek_cons, if_pos h]
      simp only [List.getElem?_cons_succ, List.getD_cons_succ, List.set_cons_succ, List.take_succ_cons, List.drop_succ_cons]
      split
      · split
        · split <;> rfl
        · rfl
      · rfl
    · rw [if_neg h]
      unfold lrnL knoB
      rw [sek_cons, if_neg h]
      simp only [List.getElem?_cons_zero, List.getD_cons_zero, List.set_cons_zero, List.take_zero, List.drop_zero, List.nil_append]
      by_cases h2 : q.1 = p.1
      · simp [h2]
      · simp [h2]
theorem ins_mem (p : PlaV) : ∀ (l : List PlaV) (x : PlaV), x ∈ insR p l → x = p ∨ x ∈ l
  | [], x, h => by
    simp only [insR, List.mem_singleton] at h
    exact .inl h
  | q :: r, x, h => by
    unfold insR at h
    split at h
    · rcases List.mem_cons.1 h with rfl | h
      · exact .inr (by simp)
      · rcases ins_mem p r x h with h | h
        · exact .inl h
        · exact .inr (by simp [h])
    · split at h
      · split at h
        · rcases List.mem_cons.1 h with rfl | h
          · exact .inl rfl
          · exact .inr (by simp [h])
        · exact .inr h
      · rcases List.mem_cons.1 h with rfl | h
        · exact .inl rfl
        · exact .inr h
theorem ins_rises (p : PlaV) : ∀ {l : List PlaV}, Rises l → Rises (insR p l)
  | [], _ => List.pairwise_cons.2 ⟨fun x h => absurd h (by simp), List.Pairwise.nil⟩
  | q :: r, h => by
    have h0 := h
    rw [Rises, List.pairwise_cons] at h
    unfold insR
    by_cases h1 : ahdB q.1 p.1 = true
    · rw [if_pos h1]
      refine List.pairwise_cons.2 ⟨fun x hx => ?_, ins_rises p h.2⟩
      rcases ins_mem p r x hx with rfl | hx
      · exact h1
      · exact h.1 x hx
    · rw [if_neg h1]
      by_cases h2 : q.1 = p.1
      · rw [if_pos h2]
        split
        · refine List.pairwise_cons.2 ⟨fun x hx => ?_, h.2⟩
          rw [← h2]
          exact h.1 x hx
        · exact h0
      · rw [if_neg h2]
        have h3 : ahdB p.1 q.1 = true := by
          cases hx : ahdB p.1 q.1
          · exact absurd (ahd_tri _ _ (by simpa using h1) hx) h2
          · rfl
        refine List.pairwise_cons.2 ⟨fun x hx => ?_, h0⟩
        rcases List.mem_cons.1 hx with rfl | hx
        · exact h3
        · exact ahd_trans h3 (h.1 x hx)
theorem ins_may {p : PlaV} {l : List PlaV} (h : mayB l = true) (hp : mayB [p] = true) : mayB (insR p l) = true := by
  rw [mayB_iff] at *
  refine ⟨fun x hx => ?_, ins_rises p h.2⟩
  rcases ins_mem p l x hx with rfl | hx
  · exact hp.1 _ (by simp)
  · exact h.1 x hx
def fnd (l : List PlaV) (k : KeyV) : Option PlaV := l.find? (fun q => q.1 == k)
def newer (o : Option PlaV) (p : PlaV) : PlaV := match o with
  | none => p
  | some q => if q.2.2 < p.2.2 then p else q
theorem fnd_cons (q : PlaV) (r : List PlaV) (k : KeyV) : fnd (q :: r) k = if q.1 = k then some q else fnd r k := by
  unfold fnd
  rw [List.find?_cons]
  by_cases h : q.1 = k
  · simp [h]
  · rw [beq_eq_false_iff_ne.2 h, if_neg h]
theorem fnd_none {l : List PlaV} {k : KeyV} (h : ∀ x ∈ l, ahdB k x.1 = true) : fnd l k = none := by
  unfold fnd
  rw [List.find?_eq_none]
  intro x hx e
  have := h x hx
  rw [eq_of_beq e, ahd_irr] at this
  cases this
theorem fnd_key {l : List PlaV} {k : KeyV} {q : PlaV} (h : fnd l k = some q) : q.1 = k ∧ q ∈ l := by
  unfold fnd at h
  have h1 := List.find?_some h
  exact ⟨eq_of_beq h1, List.mem_of_find?_eq_some h⟩
theorem fnd_ins (p : PlaV) : ∀ {l : List PlaV}, Rises l → ∀ k, fnd (insR p l) k = if p.1 = k then some (newer (fnd l k) p) else fnd l k
  | [], _, k => by
    unfold insR
    rw [fnd_cons]
    rfl
  | q :: r, h, k => by
    have h0 := h
    rw [Rises, List.pairwise_cons] at h
    unfold insR
    by_cases h1 : ahdB q.1 p.1 = true
    · rw [if_pos h1, fnd_cons, fnd_cons, fnd_ins p h.2 k]
      by_cases hk : q.1 = k
      · rw [if_pos hk, if_pos hk, if_neg]
        intro e
        rw [e, hk, ahd_irr] at h1
        cases h1
      · rw [if_neg hk, if_neg hk]
    · rw [if_neg h1]
      by_cases h2 : q.1 = p.1
      · rw [if_pos h2]
        by_cases hk : p.1 = k
        · rw [if_pos hk, fnd_cons, h2, if_pos hk]
          by_cases hv : q.2.2 < p.2.2
          · rw [if_pos hv, fnd_cons, if_pos hk]
            simp [newer, hv]
          · rw [if_neg hv, fnd_cons, h2, if_pos hk]
            simp [newer, hv]
        · rw [if_neg hk, fnd_cons, h2, if_neg hk]
          split
          · rw [fnd_cons, if_neg hk]
          · rw [fnd_cons, h2, if_neg hk]
      · rw [if_neg h2, fnd_cons]
        have h3 : ahdB p.1 q.1 = true := by
          cases hx : ahdB p.1 q.1
          · exact absurd (ahd_tri _ _ (by simpa using h1) hx) h2
          · rfl
        by_cases hk : p.1 = k
        · rw [if_pos hk, if_pos hk, fnd_none (l := q :: r) (fun x hx => ?_)]
          · rfl
          · rw [← hk]
            rcases List.mem_cons.1 hx with rfl | hx
            · exact h3
            · exact ahd_trans h3 (h.1 x hx)
        · rw [if_neg hk, if_neg hk]
theorem fnd_ext : ∀ {l m : List PlaV}, Rises l → Rises m → (∀ k, fnd l k = fnd m k) → l = m
  | [], [], _, _, _ => rfl
  | [], q :: r, _, _, h => by
    have := h q.1
    rw [fnd_cons, if_pos rfl] at this
    cases this
  | q :: r, [], _, _, h => by
    have := h q.1
    rw [fnd_cons, if_pos rfl] at this
    cases this
  | q :: r, s :: t, hl, hm, h => by
    have hl0 := hl
    have hm0 := hm
    rw [Rises, List.pairwise_cons] at hl hm
    have far : ∀ {a b : PlaV} {c d : List PlaV}, Rises (a :: c) → Rises (b :: d) → (∀ k, fnd (a :: c) k = fnd (b :: d) k) → ahdB a.1 b.1 = false := by
      intro a b c d h1 h2 hf
      rw [Rises, List.pairwise_cons] at h2
      cases hx : ahdB a.1 b.1
      · rfl
      · have e := hf a.1
        rw [fnd_cons, if_pos rfl, fnd_none (l := b :: d) (fun x hx' => ?_)] at e
        · cases e
        · rcases List.mem_cons.1 hx' with rfl | hx'
          · exact hx
          · exact ahd_trans hx (h2.1 x hx')
    have hk : q.1 = s.1 := ahd_tri _ _ (far hl0 hm0 h) (far hm0 hl0 (fun k => (h k).symm))
    have hqs : q = s := by
      have := h q.1
      rw [fnd_cons, if_pos rfl, fnd_cons, if_pos hk.symm] at this
      exact Option.some.inj this
    subst hqs
    congr 1
    refine fnd_ext hl.2 hm.2 (fun k => ?_)
    by_cases e : q.1 = k
    · subst e
      rw [fnd_none hl.1, fnd_none hm.1]
    · have := h k
      rw [fnd_cons, if_neg e, fnd_cons, if_neg e] at this
      exact this
theorem own_fnd (l : List PlaV) (h : Rises l) (k : KeyV) (g : Int) : ownP l k g = (fnd l k).getD (k, (homI k g, 0)) := by
  cases hf : fnd l k with
  | none =>
    have : knoB l k = false := sek_miss (fun i hi e => by
      unfold fnd at hf
      rw [List.find?_eq_none] at hf
      exact hf _ (List.getElem_mem hi) (by simp [e]))
    simp [ownP, this]
  | some q =>
    obtain ⟨h1, h2⟩ := fnd_key hf
    obtain ⟨i, hi, rfl⟩ := List.mem_iff_getElem.1 h2
    obtain ⟨e1, e2⟩ := sek_hit h i hi h1
    simp [ownP, e1, e2, List.getD_eq_getElem?_getD, List.getElem?_eq_getElem hi]
theorem ins_again {p : PlaV} {l : List PlaV} (h : Rises l) : insR p (insR p l) = insR p l := by
  refine fnd_ext (ins_rises p (ins_rises p h)) (ins_rises p h) (fun k => ?_)
  rw [fnd_ins p (ins_rises p h), fnd_ins p h]
  by_cases hk : p.1 = k
  · rw [if_pos hk, if_pos hk]
    congr 1
    unfold newer
    cases fnd l k with
    | none => simp
    | some q =>
      dsimp only
      by_cases hv : q.2.2 < p.2.2
      · simp [hv]
      · simp [hv]
  · rw [if_neg hk, if_neg hk]
theorem ins_order {p q : PlaV} {l : List PlaV} (h : Rises l) (hne : ¬ (p.1 = q.1 ∧ p.2.2 = q.2.2)) : insR q (insR p l) = insR p (insR q l) := by
  refine fnd_ext (ins_rises q (ins_rises p h)) (ins_rises p (ins_rises q h)) (fun k => ?_)
  rw [fnd_ins q (ins_rises p h), fnd_ins p h, fnd_ins p (ins_rises q h), fnd_ins q h]
  by_cases hp : p.1 = k
  · by_cases hq : q.1 = k
    · rw [if_pos hp, if_pos hq, if_pos hq, if_pos hp]
      have hv : p.2.2 ≠ q.2.2 := fun e => hne ⟨hp.trans hq.symm, e⟩
      congr 1
      unfold newer
      cases fnd l k with
      | none =>
        dsimp only
        by_cases h1 : p.2.2 < q.2.2
        · simp only [h1, if_true]
          rw [if_neg (by omega)]
        · simp only [h1, if_false]
          rw [if_pos (by omega)]
      | some r =>
        dsimp only
        by_cases h1 : r.2.2 < p.2.2 <;> by_cases h2 : r.2.2 < q.2.2 <;> simp only [h1, h2, if_true, if_false]
        · by_cases h3 : p.2.2 < q.2.2
          · simp only [h3, if_true]
            rw [if_neg (by omega)]
          · simp only [h3, if_false]
            rw [if_pos (by omega)]
        · rw [if_neg (by omega)]
        · rw [if_neg (by omega)]
    · rw [if_pos hp, if_neg hq, if_neg hq, if_pos hp]
  · by_cases hq : q.1 = k
    · rw [if_neg hp, if_pos hq, if_neg hp]
    · rw [if_neg hp, if_neg hq, if_neg hp]
theorem own_newer {p : PlaV} {l : List PlaV} (h : Rises l) (hp : okB p = true) (k : KeyV) (g : Int) : (ownP l k g).2.2 ≤ (ownP (insR p l) k g).2.2 ∧ (ownP (insR p l) k g).1 = k ∧ (p.1 = k → p.2.2 ≤ (ownP (insR p l) k g).2.2) := by
  rw [own_fnd l h, own_fnd _ (ins_rises p h), fnd_ins p h]
  have h0 : 0 ≤ p.2.2 := by
    simp only [okB, wiB, Bool.and_eq_true, decide_eq_true_eq] at hp
    omega
  by_cases hk : p.1 = k
  · rw [if_pos hk]
    cases hf : fnd l k with
    | none =>
      simp only [newer, Option.getD_some, Option.getD_none]
      exact ⟨h0, hk, fun _ => Int.le_refl _⟩
    | some q =>
      have hq := (fnd_key hf).1
      simp only [newer, Option.getD_some]
      split
      · exact ⟨by omega, hk, fun _ => Int.le_refl _⟩
      · exact ⟨Int.le_refl _, hq, fun _ => by omega⟩
  · rw [if_neg hk]
    refine ⟨Int.le_refl _, ?_, fun e => absurd e hk⟩
    cases hf : fnd l k with
    | none => rfl
    | some q => exact (fnd_key hf).1
end Go.Proofs.Ytfcbjdfelahfkaa
