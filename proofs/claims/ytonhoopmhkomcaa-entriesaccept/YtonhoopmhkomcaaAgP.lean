/- What is sent again changes nothing more; what was committed stays: plain mathematics. -/
import Derived.Test.YtonhoopmhkomcaaAccP
namespace Go.Proofs.Ytonhoopmhkomcaa
open Go.RowKit
/-- The term so many places behind the base. -/
def tmN (x : Int) (l : List EntV) : Nat → Int
  | 0 => x
  | j + 1 => (l.getD j noE).term
theorem rowsB_iff : ∀ (l : List EntV) (x : Int), rowsB l x = true ↔ ∀ j (h : j < l.length), entB l[j] = true ∧ tmN x l j ≤ (l[j]).term
  | [], x => by simp [rowsB]
  | e :: l, x => by
    rw [rowsB]
    simp only [Bool.and_eq_true, decide_eq_true_eq]
    rw [rowsB_iff l e.term]
    constructor
    · rintro ⟨⟨h1, h2⟩, h3⟩ j hj
      cases j with
      | zero => exact ⟨h1, h2⟩
      | succ j =>
        have h4 := h3 j (by simpa using hj)
        refine ⟨by simpa using h4.1, ?_⟩
        cases j with
        | zero => simpa [tmN] using h4.2
        | succ j => simpa [tmN] using h4.2
    · intro h
      have h0 := h 0 (by simp)
      refine ⟨⟨h0.1, h0.2⟩, fun j hj => ?_⟩
      have h4 := h (j + 1) (by simpa using hj)
      refine ⟨by simpa using h4.1, ?_⟩
      cases j with
      | zero => simpa [tmN] using h4.2
      | succ j => simpa [tmN] using h4.2
theorem hasM_iff (L : LogV) (i t : Int) : hasM L i t = true ↔ ∃ j : Nat, j ≤ L.l.length ∧ i = L.bi + j ∧ tmN L.bt L.l j = t := by
  unfold hasM markL
  by_cases c : i = L.bi
  · rw [if_pos c]
    simp only [Bool.true_and, Bool.and_eq_true, beq_iff_eq]
    constructor
    · rintro ⟨_, h⟩
      exact ⟨0, Nat.zero_le _, by omega, h⟩
    · rintro ⟨j, _, h1, h2⟩
      have : j = 0 := by omega
      subst this
      exact ⟨c.symm, h2⟩
  · rw [if_neg c]
    cases hb : hasB L i
    · simp only [Bool.false_eq_true, if_false, Bool.false_and, false_iff]
      rintro ⟨j, h0, h1, _⟩
      have hn : ¬ (L.bi + 1 ≤ i ∧ i ≤ lasI L) := of_decide_eq_false hb
      unfold lasI at hn
      omega
    · have hn : L.bi + 1 ≤ i ∧ i ≤ lasI L := of_decide_eq_true hb
      unfold lasI at hn
      simp only [if_true, Bool.true_and, Bool.and_eq_true, beq_iff_eq, true_and]
      constructor
      · intro h
        refine ⟨(i - L.bi - 1).toNat + 1, by omega, by omega, h⟩
      · rintro ⟨j, h0, h1, h2⟩
        obtain ⟨j, rfl⟩ : ∃ k, j = k + 1 := ⟨j - 1, by omega⟩
        rw [show (i - L.bi - 1).toNat = j by omega]
        exact h2
theorem passR_all (L : LogV) : ∀ (es : List EntV) (p : Int), (∀ i (h : i < es.length), p + i + 1 ≤ L.bi ∨ hasM L (p + i + 1) (es[i]).term = true) → passR L p es = es.length
  | [], _, _ => rfl
  | e :: es, p, h => by
    have h0 := h 0 (by simp)
    simp only [Int.natCast_zero, Int.add_zero, List.getElem_cons_zero] at h0
    rw [passR, if_pos h0, passR_all L es (p + 1) (fun i hi => by
      have := h (i + 1) (by simpa using hi)
      simp only [List.getElem_cons_succ] at this
      rwa [show p + ((i + 1 : Nat) : Int) + 1 = p + 1 + i + 1 by omega] at this)]
    rfl
theorem passR_pre (L : LogV) : ∀ (es : List EntV) (p : Int) (i : Nat) (h : i < es.length), i < passR L p es → p + i + 1 ≤ L.bi ∨ hasM L (p + i + 1) (es[i]).term = true
  | [], _, _, h, _ => by simp at h
  | e :: es, p, i, h, hi => by
    rw [passR] at hi
    split at hi
    · rename_i hc
      cases i with
      | zero => simpa using hc
      | succ i =>
        have := passR_pre L es (p + 1) i (by simpa using h) (by omega)
        rw [show p + ((i + 1 : Nat) : Int) + 1 = p + 1 + i + 1 by omega]
        simpa using this
    · omega
/-- Two lists, one up to a place and the other behind another one. -/
theorem tm_glue (x : Int) (l es : List EntV) (q k : Nat) (hq : q ≤ l.length) (j : Nat) : tmN x (l.take q ++ es.drop k) j = if j ≤ q then tmN x l j else (es.getD (k + (j - 1 - q)) noE).term := by
  have hl : (l.take q).length = q := by rw [List.length_take]; omega
  cases j with
  | zero => rfl
  | succ j =>
    simp only [tmN, List.getD]
    by_cases c : j < q
    · rw [if_pos (by omega), List.getElem?_append_left (by omega), List.getElem?_take, if_pos c]
    · rw [if_neg (by omega), List.getElem?_append_right (by omega), hl, List.getElem?_drop, show j + 1 - 1 - q = j - q by omega]
theorem rows_glue {x pt : Int} {l es : List EntV} {q k : Nat} (hq : q ≤ l.length) (hk : k < es.length) (h1 : rowsB l x = true) (h2 : rowsB es pt = true) (h3 : tmN x l q ≤ (es.getD k noE).term) : rowsB (l.take q ++ es.drop k) x = true := by
  rw [rowsB_iff] at h1 h2 ⊢
  have hl : (l.take q).length = q := by rw [List.length_take]; omega
  intro j hj
  rw [List.length_append, hl, List.length_drop] at hj
  rw [tm_glue x l es q k hq j]
  by_cases c : j < q
  · rw [if_pos (by omega), List.getElem_append_left (by omega)]
    simp only [List.getElem_take]
    exact h1 j (by omega)
  · rw [List.getElem_append_right (by omega)]
    simp only [List.getElem_drop, hl]
    have h4 := h2 (k + (j - q)) (by omega)
    refine ⟨h4.1, ?_⟩
    by_cases c2 : j ≤ q
    · have : j = q := by omega
      subst this
      rw [if_pos (Nat.le_refl _)]
      simp only [Nat.sub_self, Nat.add_zero]
      simpa [List.getD, List.getElem?_eq_getElem hk] using h3
    · rw [if_neg c2]
      have h5 := h4.2
      obtain ⟨u, hu⟩ : ∃ u, k + (j - q) = u + 1 := ⟨k + (j - q) - 1, by omega⟩
      simp only [hu, tmN] at h5 ⊢
      rwa [show k + (j - 1 - q) = u by omega]
theorem mayB_mk {L : LogV} (h1 : mkB L.bi L.bt = true) (h2 : L.l.length ≤ 400) (h3 : rowsB L.l L.bt = true) (h4 : lasI L ≤ 1000000) (h5 : L.bi ≤ L.cm ∧ L.cm ≤ lasI L) : mayB L = true := by
  simp only [mayB, wiB, Bool.and_eq_true, decide_eq_true_eq]
  exact ⟨⟨⟨⟨h1, h2⟩, h3⟩, h4⟩, h5⟩
theorem mayB_mkB {L : LogV} (h : mayB L = true) : mkB L.bi L.bt = true := by
  simp only [mayB, Bool.and_eq_true] at h
  exact h.1.1.1.1
theorem lasM_tm {L : LogV} : (lasM L).2 = tmN L.bt L.l L.l.length := by
  unfold lasM markL
  by_cases c : lasI L = L.bi
  · rw [if_pos c]
    have : L.l.length = 0 := by unfold lasI at c; omega
    rw [this]
    rfl
  · rw [if_neg c]
    have hp : 0 < L.l.length := by
      rcases Nat.eq_zero_or_pos L.l.length with h | h
      · exact absurd (by unfold lasI; omega) c
      · exact h
    have hb : hasB L (lasI L) = true := decide_eq_true (by unfold lasI; omega)
    rw [hb]
    simp only [if_true]
    obtain ⟨n, hn⟩ : ∃ n, L.l.length = n + 1 := ⟨L.l.length - 1, by omega⟩
    rw [hn, tmN, show (lasI L - L.bi - 1).toNat = n by unfold lasI; omega]
/-- A log that took entries in: what it is. -/
structure Took (L A : LogV) (pi : Int) (es : List EntV) (cc : Int) : Prop where
  bi : A.bi = L.bi
  bt : A.bt = L.bt
  may : mayB A = true
  all : passR A pi es = es.length
  cm : A.cm = max L.cm (min cc (pi + es.length))
  end_ : pi + es.length ≤ lasI A
  mark : ∀ t, L.bi ≤ pi → hasM L pi t = true → hasM A pi t = true
  keep : ∀ n : Nat, L.bi + n ≤ L.cm → A.l.take n = L.l.take n
  term : ∀ i (h : i < es.length), L.bi < pi + i + 1 → ∃ j : Nat, j < A.l.length ∧ pi + i + 1 = L.bi + j + 1 ∧ (A.l.getD j noE).term = (es[i]).term
theorem took {L : LogV} {pi pt : Int} {es : List EntV} {cc : Int} (hm : mayB L = true) (ha : argB pi pt es cc = true) (hpl : pi ≤ lasI L) (h : (putL L pi es).2 = 0) :
    Took L ⟨(putL L pi es).1.bi, (putL L pi es).1.bt, (putL L pi es).1.l, max L.cm (min cc (pi + (es.length : Int)))⟩ pi es cc := by
  have hin := mayB_in hm
  simp only [argB, Bool.and_eq_true] at ha
  obtain ⟨⟨ha1, ha2⟩, ha3⟩ := ha
  have hp := mkB_in ha1
  have hle := passR_le L es pi
  have hpi := passR_in L es pi hpl
  have hpre := passR_pre L es pi
  have hpb := passR_base L es pi
  unfold putL at h ⊢
  generalize passR L pi es = k at *
  by_cases c1 : k = es.length
  · rw [if_pos c1]
    simp only
    have hend : pi + es.length ≤ lasI L := by omega
    have hH : ∀ M i t, hasM ⟨L.bi, L.bt, L.l, M⟩ i t = hasM L i t := fun _ _ _ => rfl
    refine ⟨rfl, rfl, ?_, ?_, rfl, hend, fun t _ ht => ht, fun n _ => rfl, fun i hi hb => ?_⟩
    · exact mayB_mk (show mkB L.bi L.bt = true from mayB_mkB hm) hin.2.2.1 hin.2.2.2.1 hin.2.2.2.2.1 ⟨by simp only; omega, by simp only; unfold lasI at *; simp only; omega⟩
    · exact passR_all _ es pi (fun i hi => hpre i hi (by omega))
    · rcases hpre i hi (by omega) with h1 | h1
      · omega
      · obtain ⟨j, h2, h3, h4⟩ := (hasM_iff L _ _).1 h1
        obtain ⟨j, rfl⟩ : ∃ u, j = u + 1 := ⟨j - 1, by omega⟩
        exact ⟨j, by simp only; omega, by omega, h4⟩
  · rw [if_neg c1] at h ⊢
    by_cases c2 : pi + k < L.cm
    · rw [if_pos c2] at h
      cases h
    · rw [if_neg c2] at h ⊢
      by_cases c3 : (es.getD k noE).term < (lasM (cutL L (pi + k))).2
      · rw [if_pos c3] at h
        cases h
      · rw [if_neg c3] at h ⊢
        by_cases c4 : 400 < (cutL L (pi + k)).l.length + (es.length - k) ∨ 1000000 < lasI (cutL L (pi + k)) + ((es.length - k : Nat) : Int)
        · rw [if_pos c4] at h
          cases h
        · rw [if_neg c4]
          have hkl : k < es.length := by omega
          have hbk := hpb hkl (by omega)
          obtain ⟨q, hq⟩ : ∃ q : Nat, pi + k - L.bi = (q : Int) := Int.eq_ofNat_of_zero_le (by omega)
          have hql : q ≤ L.l.length := by unfold lasI at hpi; omega
          have ecut : cutL L (pi + k) = ⟨L.bi, L.bt, L.l.take q, L.cm⟩ := by
            unfold cutL
            rw [hq, Int.toNat_natCast]
          have hlt : (L.l.take q).length = q := by rw [List.length_take]; omega
          rw [ecut] at c3 c4 ⊢
          rw [lasM_tm] at c3
          simp only at c3 c4 ⊢
          unfold lasI at c4
          rw [hlt] at c3 c4
          simp only at c4
          have ht3 : tmN L.bt (L.l.take q) q = tmN L.bt L.l q := by
            have := tm_glue L.bt L.l [] q 0 hql q
            simpa using this
          rw [ht3] at c3
          have hglue := tm_glue L.bt L.l es q k hql
          have hA : ∀ M, (⟨L.bi, L.bt, L.l.take q ++ es.drop k, M⟩ : LogV).l.length = q + (es.length - k) := fun M => by
            simp only [List.length_append, List.length_drop, hlt]
          have hHM : ∀ M i t, hasM ⟨L.bi, L.bt, L.l.take q ++ es.drop k, M⟩ i t = true ↔ ∃ j : Nat, j ≤ q + (es.length - k) ∧ i = L.bi + j ∧ tmN L.bt (L.l.take q ++ es.drop k) j = t := fun M i t => by
            rw [hasM_iff, hA]
          refine ⟨rfl, rfl, ?_, ?_, rfl, ?_, ?_, ?_, ?_⟩
          · refine mayB_mk (show mkB L.bi L.bt = true from mayB_mkB hm) (by rw [hA]; omega) (show rowsB (L.l.take q ++ es.drop k) L.bt = true from rows_glue hql hkl hin.2.2.2.1 ha3 (by omega)) ?_ ?_
            · unfold lasI
              rw [hA]
              simp only
              omega
            · unfold lasI
              rw [hA]
              simp only
              omega
          · refine passR_all _ es pi (fun i hi => ?_)
            by_cases ci : i < k
            · rcases hpre i hi ci with h1 | h1
              · exact .inl h1
              · obtain ⟨j, h2, h3, h4⟩ := (hasM_iff L _ _).1 h1
                exact .inr ((hHM _ _ _).2 ⟨j, by omega, h3, by rw [hglue, if_pos (by omega)]; exact h4⟩)
            · refine .inr ((hHM _ _ _).2 ⟨q + (i - k) + 1, by omega, by omega, ?_⟩)
              rw [hglue, if_neg (by omega), show k + (q + (i - k) + 1 - 1 - q) = i by omega]
              simp [List.getD, List.getElem?_eq_getElem hi]
          · unfold lasI
            rw [hA]
            simp only
            omega
          · intro t hb ht
            obtain ⟨j, h2, h3, h4⟩ := (hasM_iff L _ _).1 ht
            exact (hHM _ _ _).2 ⟨j, by omega, h3, by rw [hglue, if_pos (by omega)]; exact h4⟩
          · intro n hn
            simp only
            rw [List.take_append_of_le_length (by omega), List.take_take, Nat.min_eq_left (by omega)]
          · intro i hi hb
            by_cases ci : i < k
            · rcases hpre i hi ci with h1 | h1
              · omega
              · obtain ⟨j, h2, h3, h4⟩ := (hasM_iff L _ _).1 h1
                obtain ⟨j, rfl⟩ : ∃ u, j = u + 1 := ⟨j - 1, by omega⟩
                refine ⟨j, by rw [hA]; omega, by omega, ?_⟩
                have := hglue (j + 1)
                rw [if_pos (by omega)] at this
                simp only [tmN] at this h4
                simp only
                rw [this, h4]
            · refine ⟨q + (i - k), by rw [hA]; omega, by omega, ?_⟩
              have := hglue (q + (i - k) + 1)
              rw [if_neg (by omega)] at this
              simp only [tmN] at this
              simp only
              rw [this, show k + (q + (i - k) + 1 - 1 - q) = i by omega]
              simp [List.getD, List.getElem?_eq_getElem hi]
/-- What is sent again changes nothing more. -/
theorem acc_again {L : LogV} {pi pt : Int} {es : List EntV} {cc : Int} (h : (accL L pi pt es cc).2.2.2 = 0) : accL (accL L pi pt es cc).1 pi pt es cc = accL L pi pt es cc := by
  unfold accL at h
  cases hm : mayB L
  · rw [hm, if_pos rfl] at h
    cases h
  · cases ha : argB pi pt es cc
    · rw [hm, ha, if_neg (by simp), if_pos rfl] at h
      cases h
    · rw [hm, ha, if_neg (by simp), if_neg (by simp)] at h
      by_cases c : L.bi ≤ pi ∧ hasM L pi pt = false
      · have e : accL L pi pt es cc = (L, 0, false, 0) := by
          unfold accL
          rw [hm, ha, if_neg (by simp), if_neg (by simp), if_pos c]
        rw [e]
        exact e
      · rw [if_neg c] at h
        by_cases c2 : (putL L pi es).2 = 0
        · have e : accL L pi pt es cc = (⟨(putL L pi es).1.bi, (putL L pi es).1.bt, (putL L pi es).1.l, max L.cm (min cc (pi + (es.length : Int)))⟩, max (pi + (es.length : Int)) L.bi, true, 0) := by
            conv => lhs; unfold accL
            rw [hm, ha, if_neg (by simp), if_neg (by simp), if_neg c, if_neg (by simpa using c2)]
          have hpl : pi ≤ lasI L := by
            by_cases hb : L.bi ≤ pi
            · have : hasM L pi pt = true := by
                cases hh : hasM L pi pt
                · exact absurd ⟨hb, hh⟩ c
                · rfl
              exact (hasM_in this).2
            · have := mayB_in hm
              unfold lasI
              omega
          have T := took hm ha hpl c2
          rw [e]
          generalize (⟨(putL L pi es).1.bi, (putL L pi es).1.bt, (putL L pi es).1.l, max L.cm (min cc (pi + (es.length : Int)))⟩ : LogV) = A at *
          have hc : ¬ (A.bi ≤ pi ∧ hasM A pi pt = false) := fun hx => by
            rw [T.bi] at hx
            have : hasM L pi pt = true := by
              cases hh : hasM L pi pt
              · exact absurd ⟨hx.1, hh⟩ c
              · rfl
            rw [T.mark pt hx.1 this] at hx
            cases hx.2
          have hput : putL A pi es = (A, 0) := by
            unfold putL
            rw [if_pos T.all]
          unfold accL
          rw [T.may, ha, if_neg (by simp), if_neg (by simp), if_neg hc, hput]
          simp only [ne_eq, not_true_eq_false, if_false]
          have hcm : max A.cm (min cc (pi + (es.length : Int))) = A.cm := by
            rw [T.cm]
            omega
          rw [hcm, show max (pi + (es.length : Int)) A.bi = max (pi + (es.length : Int)) L.bi by rw [T.bi]]
        · rw [if_pos c2] at h
          exact absurd h c2
theorem acc_len (L : LogV) (pi pt : Int) (es : List EntV) (cc : Int) : (accL L pi pt es cc).1.l.length ≤ 400 ∨ (accL L pi pt es cc).1.l.length = L.l.length := by
  unfold accL
  cases hm : mayB L
  · rw [if_pos rfl]
    exact .inl (Nat.zero_le _)
  · rw [if_neg (by simp)]
    split
    · exact .inl (Nat.zero_le _)
    · split
      · exact .inr rfl
      · split
        · exact .inl (Nat.zero_le _)
        · exact .inl (put_len L pi es (mayB_in hm).2.2.1)
end Go.Proofs.Ytonhoopmhkomcaa
