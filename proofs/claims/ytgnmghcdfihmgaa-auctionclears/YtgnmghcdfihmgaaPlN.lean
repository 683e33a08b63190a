/- What is placed leaves a book that may be. -/
import Derived.Test.YtgnmghcdfihmgaaPlM
namespace Go.Proofs.Ytgnmghcdfihmgaa
open Go.RowKit
set_option linter.all false
theorem srt_lt_pair : ∀ {l : List Int}, srtB ltB l = true → l.Pairwise (· < ·)
  | [], _ => List.Pairwise.nil
  | [x], _ => by simp
  | x :: y :: l, h => by
    have ih := srt_lt_pair (srt_tail h)
    have h1 : x < y := of_decide_eq_true (srt_head h)
    refine List.pairwise_cons.2 ⟨fun z hz => ?_, ih⟩
    rcases List.mem_cons.1 hz with rfl | hz
    · exact h1
    · exact Int.lt_trans h1 ((List.pairwise_cons.1 ih).1 z hz)
theorem pair_srt_lt : ∀ {l : List Int}, l.Pairwise (· ≤ ·) → l.Nodup → srtB ltB l = true
  | [], _, _ => rfl
  | x :: l, h, hn => by
    refine srt_cons (pair_srt_lt (List.pairwise_cons.1 h).2 (List.nodup_cons.1 hn).2) (fun y hy => ?_)
    have hm : y ∈ l := List.mem_of_mem_head? hy
    have h1 := (List.pairwise_cons.1 h).1 y hm
    have h2 : x ≠ y := fun e => (List.nodup_cons.1 hn).1 (e ▸ hm)
    exact decide_eq_true (by omega)
theorem sort_perm (m : List Int) : (sortL m).Perm m := List.mergeSort_perm m _
theorem sort_pair (m : List Int) : (sortL m).Pairwise (· ≤ ·) := by
  have h := List.pairwise_mergeSort (le := fun x y : Int => decide (x ≤ y)) (fun a b c h1 h2 => by simp only [decide_eq_true_eq] at *; omega) (fun a b => by simp only [Bool.or_eq_true, decide_eq_true_eq]; omega) m
  exact h.imp (fun h => of_decide_eq_true h)
theorem unl_iff (L : LaneV) : unlB L = true ↔ (idsL L.bids ++ idsL L.asks).Nodup := by
  unfold unlB
  constructor
  · intro h
    exact (sort_perm _).nodup_iff.1 ((srt_lt_pair h).imp (fun h => by omega))
  · intro h
    exact pair_srt_lt (sort_pair _) ((sort_perm _).nodup_iff.2 h)
theorem suf_ids {T R : List OrdV} (h : Suf T R) : (idsL R).Sublist (idsL T) := by
  refine Suf.ind (P := fun T R => (idsL R).Sublist (idsL T)) ?_ ?_ ?_ h
  · exact fun T => List.Sublist.refl _
  · exact fun r rs m hm => List.Sublist.refl _
  · exact fun r rs R h ih => ih.trans (List.sublist_cons_self _ _)
/-- Is the one worse than the other, or as good? -/
def worse (s p q : Int) : Prop := if s = 1 then p ≤ q else q ≤ p
theorem ah_worse {s : Int} (hs : s = 1 ∨ s = 2) {a b : OrdV} (h : ahB s a b = true) : worse s b.price a.price := by
  unfold ahB at h
  unfold worse
  rcases hs with rfl | rfl
  · split at h
    · simp; omega
    · simp at h; simp; omega
  · split at h
    · simp; omega
    · simp at h; simp; omega
theorem worse_trans {s p q r : Int} (h : worse s p q) (k : worse s q r) : worse s p r := by
  unfold worse at *
  split at h <;> simp_all <;> omega
theorem suf_head {s : Int} (hs : s = 1 ∨ s = 2) {T R : List OrdV} (h : Suf T R) : srtB (ahB s) T = true → ∀ r, R.head? = some r → ∃ t, T.head? = some t ∧ worse s r.price t.price := by
  refine Suf.ind (P := fun T R => srtB (ahB s) T = true → ∀ r, R.head? = some r → ∃ t, T.head? = some t ∧ worse s r.price t.price) ?_ ?_ ?_ h
  · exact fun T _ r hr => ⟨r, hr, by unfold worse; split <;> omega⟩
  · intro q rs m hm _ r hr
    simp only [List.head?_cons, Option.some.injEq] at hr
    subst hr
    exact ⟨q, rfl, by unfold worse; split <;> simp⟩
  · intro q rs R' h ih hsr r hr
    obtain ⟨t, ht, hw⟩ := ih (srt_tail hsr) r hr
    refine ⟨q, rfl, ?_⟩
    cases rs with
    | nil => simp at ht
    | cons z rs =>
      simp only [List.head?_cons, Option.some.injEq] at ht
      subst ht
      exact worse_trans hw (ah_worse hs (srt_head hsr))
theorem cross_iff (L : LaneV) : crossB L = false ↔ ∀ x y, L.bids.head? = some x → L.asks.head? = some y → x.price < y.price := by
  unfold crossB
  constructor
  · intro h x y hx hy
    cases hb : L.bids with
    | nil => rw [hb] at hx; simp at hx
    | cons p ps =>
      cases ha : L.asks with
      | nil => rw [ha] at hy; simp at hy
      | cons q qs =>
        rw [hb] at hx h
        rw [ha] at hy h
        simp at hx hy h
        subst hx hy
        omega
  · intro h
    split
    · rename_i p ps q qs hb ha
      have := h p q (by rw [hb]; rfl) (by rw [ha]; rfl)
      simp; omega
    · rfl
structure BOk (L : LaneV) : Prop where
  next : 1 ≤ L.next ∧ L.next ≤ 1000001
  sb : sideB 1 L.next L.bids = true
  sa : sideB 2 L.next L.asks = true
  nd : (idsL L.bids ++ idsL L.asks).Nodup
  cr : L.call = true ∨ ∀ x y, L.bids.head? = some x → L.asks.head? = some y → x.price < y.price
  ow : owedB L.owed = true
theorem chk_bok (L : LaneV) : chkB L = true ↔ BOk L := by
  unfold chkB
  simp only [Bool.and_eq_true, Bool.or_eq_true, Bool.not_eq_true', unl_iff, cross_iff]
  constructor
  · rintro ⟨h1, h2, h3, h4, h5, h6⟩
    exact ⟨wiB_in h1, h2, h3, h4, h5, h6⟩
  · rintro ⟨h1, h2, h3, h4, h5, h6⟩
    exact ⟨decide_eq_true h1, h2, h3, h4, h5, h6⟩
theorem side_acc {s nx : Int} {l : List OrdV} (h : sideB s nx l = true) : AccT l ∧ (∀ r ∈ l, 1 ≤ r.id ∧ r.id ≤ nx - 1) ∧ srtB (ahB s) l = true := by
  unfold sideB at h
  simp only [Bool.and_eq_true, decide_eq_true_eq, Bool.not_eq_true', List.any_eq_false] at h
  refine ⟨fun r hr => ?_, fun r hr => ?_, h.2.2⟩ <;>
  · have h2 := h.2.1 r hr
    unfold strB at h2
    simp only [Bool.or_eq_true, not_or, Bool.not_eq_true', Bool.not_eq_false] at h2
    first | exact wiB_in h2.1.1.1 | exact wiB_in h2.2
theorem side_laid {s nx : Int} {l : List OrdV} {acc price left : Int} (h : sideB s nx l = true) (hl : l.length < 40) (ha : 1 ≤ acc ∧ acc ≤ 8) (hp : 1 ≤ price ∧ price ≤ 1000000) (hm : 1 ≤ left ∧ left ≤ 1000000) (hn : 1 ≤ nx) : sideB s (nx + 1) (laidL (ahB s) ⟨nx, acc, price, left⟩ l) = true := by
  have hx := side_acc h
  have h' := side_suf (s := s) (ny := nx + 1) (by omega) (Suf.all l) h
  unfold sideB at h' ⊢
  simp only [Bool.and_eq_true, decide_eq_true_eq, Bool.not_eq_true', List.any_eq_false, Bool.not_eq_true] at h' ⊢
  refine ⟨by rw [laid_len]; omega, fun q hq => ?_, srt_laid h'.2.2 (fun y hy hf => ?_)⟩
  · rcases laid_mem.1 hq with rfl | hq
    · unfold strB wiB
      simp only [Bool.or_eq_false_iff, Bool.not_eq_false', decide_eq_true_eq]
      omega
    · exact h'.2.1 q hq
  · have hi := hx.2.1 y hy
    unfold ahB at hf ⊢
    simp only at hf ⊢
    by_cases hpe : y.price = price
    · rw [if_pos hpe] at hf
      simp at hf
      omega
    · rw [if_neg hpe] at hf
      rw [if_neg (fun e => hpe e.symm)]
      by_cases h1 : price < y.price
      · rw [decide_eq_true h1] at hf
        rw [decide_eq_false (by omega)]
        revert hf
        cases decide (s = 1) <;> simp
      · rw [decide_eq_false h1] at hf
        rw [decide_eq_true (by omega)]
        revert hf
        cases decide (s = 1) <;> simp
/-- The trades, as far as the book goes. -/
theorem plT_is {L : LaneV} {s acc price n : Int} (h : BOk L) (hs : s = 1 ∨ s = 2) (ha : 1 ≤ acc ∧ acc ≤ 8) (hn : 1 ≤ n ∧ n ≤ 1000000) : Suf (sideL L (if s = 1 then 2 else 1)) (plT L s ⟨L.next, acc, price, n⟩).1 ∧ OwOk (plT L s ⟨L.next, acc, price, n⟩).2.2.1 ∧ (L.call = false → 0 < (plT L s ⟨L.next, acc, price, n⟩).2.1 → ∀ r, (plT L s ⟨L.next, acc, price, n⟩).1.head? = some r → meetB s price r.price = false) ∧ (0 ≤ (plT L s ⟨L.next, acc, price, n⟩).2.1 ∧ (plT L s ⟨L.next, acc, price, n⟩).2.1 ≤ n) := by
  have ho := owed_owok h.ow
  unfold plT
  cases hc : L.call
  · have hside : OkT (sideL L (if s = 1 then 2 else 1)) ∧ AccT (sideL L (if s = 1 then 2 else 1)) := by
      rcases hs with rfl | rfl
      · exact ⟨(side_ok h.sa).2, (side_acc h.sa).1⟩
      · exact ⟨(side_ok h.sb).2, (side_acc h.sb).1⟩
    have ht := trL_suf s ⟨L.next, acc, price, n⟩ ha (sideL L (if s = 1 then 2 else 1)) n L.owed [] hside.1 hside.2 (by omega) ho
    simp only [Bool.false_eq_true, if_false]
    exact ⟨ht.1, ht.2.1, fun _ => ht.2.2.1, ht.2.2.2⟩
  · simp only [if_true]
    exact ⟨Suf.all _, ho, fun h => absurd h (by simp), by omega⟩
theorem nodup_laid {α : Type} {r : α → α → Bool} {x : α} {f : α → Int} {l : List α} {m : List Int} (h : (l.map f ++ m).Nodup) (h1 : ∀ y ∈ l, f y ≠ f x) (h2 : f x ∉ m) : ((laidL r x l).map f ++ m).Nodup := by
  have hp : ((laidL r x l).map f ++ m).Perm (f x :: (l.map f ++ m)) := (laid_perm.map f).append_right m
  rw [hp.nodup_iff, List.nodup_cons]
  refine ⟨fun hx => ?_, h⟩
  rw [List.mem_append, List.mem_map] at hx
  rcases hx with ⟨y, hy, e⟩ | hx
  · exact h1 y hy e
  · exact h2 hx
theorem ids_in {s nx : Int} {l : List OrdV} (h : sideB s nx l = true) : nx ∉ idsL l := by
  intro hx
  unfold idsL at hx
  rw [List.mem_map] at hx
  obtain ⟨y, hy, e⟩ := hx
  have := (side_acc h).2.1 y hy
  omega
theorem suf_nx {s nx : Int} {T R : List OrdV} (h : sideB s nx T = true) (hs : Suf T R) : nx ∉ idsL R := fun hx => ids_in h ((suf_ids hs).subset hx)
/-- What is placed may be. -/
theorem place_may {L : LaneV} {acc s price n : Int} {now : Bool} (hr : refE L acc s price n now = 0) (ho : overB (plR (plL L s (plT L s ⟨L.next, acc, price, n⟩).1 (plT L s ⟨L.next, acc, price, n⟩).2.2.1) s ⟨L.next, acc, price, (plT L s ⟨L.next, acc, price, n⟩).2.1⟩ now).owed = false) : BOk (plR (plL L s (plT L s ⟨L.next, acc, price, n⟩).1 (plT L s ⟨L.next, acc, price, n⟩).2.2.1) s ⟨L.next, acc, price, (plT L s ⟨L.next, acc, price, n⟩).2.1⟩ now) := by
  obtain ⟨hc, hs, hp, hn, hnc, hl, hnx, ha⟩ := refE_ok hr
  have hB := (chk_bok L).1 hc
  obtain ⟨ht1, ht2, ht3, ht4⟩ := plT_is (price := price) hB hs ha hn
  revert ho ht1 ht2 ht3 ht4
  generalize (plT L s ⟨L.next, acc, price, n⟩).1 = T
  generalize (plT L s ⟨L.next, acc, price, n⟩).2.1 = left
  generalize (plT L s ⟨L.next, acc, price, n⟩).2.2.1 = ow
  intro ho hT hO hM hL
  clear hr hc
  obtain ⟨cl, nx, bids, asks, owed⟩ := L
  obtain ⟨b1, b2, b3, b4, b5, b6⟩ := hB
  simp only at *
  have hb := side_suf (ny := nx + 1) (by omega) (Suf.all bids) b2
  have hak := side_suf (ny := nx + 1) (by omega) (Suf.all asks) b3
  rcases hs with rfl | rfl
  · simp only [sideL, if_true, show ¬ ((2 : Int) = 1) by decide, if_false] at hT hl
    have hTs := side_suf (s := 2) (ny := nx + 1) (by omega) hT b3
    have hnd : (idsL bids ++ idsL T).Nodup := b4.sublist ((List.Sublist.refl _).append (suf_ids hT))
    have hcr : cl = true ∨ ∀ x y, bids.head? = some x → T.head? = some y → x.price < y.price := by
      rcases b5 with h | h
      · exact .inl h
      · refine .inr (fun x y hx hy => ?_)
        obtain ⟨t, htt, hw⟩ := suf_head (.inr rfl) hT (side_acc b3).2.2 y hy
        have := h x t hx htt
        unfold worse at hw
        simp at hw
        omega
    unfold plR plL at ho ⊢
    simp only [if_true] at ho ⊢
    by_cases h0 : 0 < left
    · rw [if_pos h0] at ho ⊢
      cases now
      · simp only [Bool.false_eq_true, if_false] at ho ⊢
        refine ⟨by simp only; omega, side_laid b2 hl ha hp (by omega) (by omega), hTs, nodup_laid (f := OrdV.id) hnd (fun y hy => ?_) (suf_nx b3 hT), ?_, owok_owed hO ho⟩
        · have := (side_acc b2).2.1 y hy
          simp only
          omega
        · cases hcl : cl
          · refine .inr (fun x y hx hy => ?_)
            have hm := hM hcl h0 y hy
            rcases laid_head hx with rfl | hx
            · unfold meetB at hm
              simp at hm
              exact hm
            · exact (hcr.resolve_left (by simp [hcl])) x y hx hy
          · exact .inl rfl
      · simp only [if_true] at ho ⊢
        refine ⟨by simp only; omega, hb, hTs, hnd, hcr, owok_owed (owok_owe hO ha (by unfold brA; simp) ?_) ho⟩
        unfold brN
        simp only [if_true]
        exact mul_pos1 hp.1 (by omega)
    · rw [if_neg h0] at ho ⊢
      exact ⟨by simp only; omega, hb, hTs, hnd, hcr, owok_owed hO ho⟩
  · simp only [sideL, if_true, show ¬ ((2 : Int) = 1) by decide, if_false] at hT hl
    have hTs := side_suf (s := 1) (ny := nx + 1) (by omega) hT b2
    have hnd : (idsL T ++ idsL asks).Nodup := b4.sublist ((suf_ids hT).append (List.Sublist.refl _))
    have hcr : cl = true ∨ ∀ x y, T.head? = some x → asks.head? = some y → x.price < y.price := by
      rcases b5 with h | h
      · exact .inl h
      · refine .inr (fun x y hx hy => ?_)
        obtain ⟨t, htt, hw⟩ := suf_head (.inl rfl) hT (side_acc b2).2.2 x hx
        have := h t y htt hy
        unfold worse at hw
        simp at hw
        omega
    unfold plR plL at ho ⊢
    simp only [show ¬ ((2 : Int) = 1) by decide, if_false] at ho ⊢
    by_cases h0 : 0 < left
    · rw [if_pos h0] at ho ⊢
      cases now
      · simp only [Bool.false_eq_true, if_false] at ho ⊢
        refine ⟨by simp only; omega, hTs, side_laid b3 hl ha hp (by omega) (by omega), ?_, ?_, owok_owed hO ho⟩
        · refine List.perm_append_comm.nodup_iff.1 (nodup_laid (f := OrdV.id) (List.perm_append_comm.nodup_iff.1 hnd) (fun y hy => ?_) (suf_nx b2 hT))
          have := (side_acc b3).2.1 y hy
          simp only
          omega
        · cases hcl : cl
          · refine .inr (fun x y hx hy => ?_)
            have hm := hM hcl h0 x hx
            rcases laid_head hy with rfl | hy
            · unfold meetB at hm
              simp at hm
              exact hm
            · exact (hcr.resolve_left (by simp [hcl])) x y hx hy
          · exact .inl rfl
      · simp only [if_true] at ho ⊢
        refine ⟨by simp only; omega, hTs, hak, hnd, hcr, owok_owed (owok_owe hO ha (by unfold brA; simp) ?_) ho⟩
        unfold brN
        simp
        omega
    · rw [if_neg h0] at ho ⊢
      exact ⟨by simp only; omega, hTs, hak, hnd, hcr, owok_owed hO ho⟩
theorem placeL_may {L : LaneV} {acc s price n : Int} {now : Bool} (h : (placeL L acc s price n now).2.2.2 = 0) : chkB (placeL L acc s price n now).1 = true := by
  unfold placeL at h ⊢
  by_cases hr : refE L acc s price n now ≠ 0
  · rw [if_pos hr] at h
    exact absurd h hr
  · rw [if_neg hr] at h ⊢
    unfold plX at h ⊢
    cases ho : overB (plR (plL L s (plT L s ⟨L.next, acc, price, n⟩).1 (plT L s ⟨L.next, acc, price, n⟩).2.2.1) s ⟨L.next, acc, price, (plT L s ⟨L.next, acc, price, n⟩).2.1⟩ now).owed
    · simp only [Bool.false_eq_true, if_false]
      exact (chk_bok _).2 (place_may (by simpa using hr) ho)
    · rw [ho] at h
      simp at h
end Go.Proofs.Ytgnmghcdfihmgaa
