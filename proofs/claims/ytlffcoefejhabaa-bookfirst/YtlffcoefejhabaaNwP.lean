/- What is placed, and taken out again: plain data. -/
import Derived.Test.YtlffcoefejhabaaHld
namespace Go.Proofs.Ytlffcoefejhabaa
open Go.RowKit
set_option linter.all false
theorem place_ok {L : LaneV} {acc s price n : Int} {now : Bool} (h : (placeL L acc s price n now).2.2.2 = 0) : refE L acc s price n now = 0 ∧ placeL L acc s price n now = plX L acc s price n now ∧ overB (plR (plL L s (plT L s ⟨L.next, acc, price, n⟩).1 (plT L s ⟨L.next, acc, price, n⟩).2.2.1) s ⟨L.next, acc, price, (plT L s ⟨L.next, acc, price, n⟩).2.1⟩ now).owed = false := by
  unfold placeL at h ⊢
  by_cases hr : refE L acc s price n now ≠ 0
  · rw [if_pos hr] at h
    exact absurd h hr
  · have hr0 : refE L acc s price n now = 0 := by simpa using hr
    rw [if_neg hr] at h ⊢
    refine ⟨hr0, rfl, ?_⟩
    unfold plX at h
    split at h
    · simp at h
    · rename_i ho
      simpa using ho
theorem place_bad {L : LaneV} {acc s price n : Int} {now : Bool} (h : (placeL L acc s price n now).2.2.2 ≠ 0) : (placeL L acc s price n now).1 = zLane ∧ (placeL L acc s price n now).2.1 = [] ∧ (placeL L acc s price n now).2.2.1 = 0 := by
  unfold placeL at h ⊢
  by_cases hr : refE L acc s price n now ≠ 0
  · rw [if_pos hr]
    exact ⟨rfl, rfl, rfl⟩
  · rw [if_neg hr] at h ⊢
    unfold plX at h ⊢
    split
    · exact ⟨rfl, rfl, rfl⟩
    · rename_i ho
      rw [if_neg ho] at h
      exact absurd rfl h
theorem placeL_eq {L : LaneV} {acc s price n : Int} {now : Bool} (h : (placeL L acc s price n now).2.2.2 = 0) : placeL L acc s price n now = (plR (plL L s (plT L s ⟨L.next, acc, price, n⟩).1 (plT L s ⟨L.next, acc, price, n⟩).2.2.1) s ⟨L.next, acc, price, (plT L s ⟨L.next, acc, price, n⟩).2.1⟩ now, (plT L s ⟨L.next, acc, price, n⟩).2.2.2, L.next, 0) := by
  obtain ⟨h1, h2, h3⟩ := place_ok h
  rw [h2]
  unfold plX
  rw [h3]
  rfl
/-- The trades of an order: what stays. -/
theorem plT_suf {L : LaneV} {acc s price n : Int} {now : Bool} (hr : refE L acc s price n now = 0) : Suf (sideL L (if s = 1 then 2 else 1)) (plT L s ⟨L.next, acc, price, n⟩).1 ∧ 0 ≤ (plT L s ⟨L.next, acc, price, n⟩).2.1 ∧ (plT L s ⟨L.next, acc, price, n⟩).2.1 ≤ n := by
  obtain ⟨h1, h2, h3, h4, h5, h6, h7, h8⟩ := refE_ok hr
  have hb := (chk_bok L).1 h1
  have hm := chk_may h1
  unfold plT
  cases L.call
  · have hT : OkT (sideL L (if s = 1 then 2 else 1)) ∧ AccT (sideL L (if s = 1 then 2 else 1)) := by
      rcases h2 with rfl | rfl
      · exact ⟨hm.ta, (side_acc hb.sa).1⟩
      · exact ⟨hm.tb, (side_acc hb.sb).1⟩
    have := trL_suf s ⟨L.next, acc, price, n⟩ h8 _ n L.owed [] hT.1 hT.2 (by omega) (owed_owok hb.ow)
    exact ⟨this.1, this.2.2.2⟩
  · exact ⟨Suf.all _, by simp only [if_true]; omega, by simp only [if_true]; omega⟩
theorem hold_placed {L : LaneV} {acc s price n : Int} {now : Bool} (h : (placeL L acc s price n now).2.2.2 = 0) : holM (placeL L acc s price n now).1 = holM L + (if s = 1 then price * n else 0) ∧ holG (placeL L acc s price n now).1 = holG L + (if s = 1 then 0 else n) := by
  obtain ⟨h1, _, _⟩ := place_ok h
  have hs := (refE_ok h1).2.1
  rw [placeL_eq h]
  exact hold_place L s acc price n now hs (plT_suf h1).2.1
/-- Cancelled, what a book holds is the same. -/
theorem can_cases (L : LaneV) (acc id : Int) (hk : chkB L = true) : (canR L acc id).2.2 = 132 ∨ (canR L acc id).2.2 = 131 ∨ ((canR L acc id).2.2 = 0 ∧ holM (canR L acc id).1 = holM L ∧ holG (canR L acc id).1 = holG L) := by
  unfold canR
  rw [if_pos hk]
  split
  · exact .inl rfl
  · rename_i Mx hMx
    split
    · exact .inr (.inl rfl)
    · exact .inr (.inr ⟨rfl, hold_can (M := Mx.1) (o := Mx.2) hMx⟩)
theorem side_erase {s nx : Int} (hs : s = 1 ∨ s = 2) {l : List OrdV} (h : sideB s nx l = true) (i : Nat) : sideB s nx (l.eraseIdx i) = true := by
  unfold sideB at *
  simp only [Bool.and_eq_true, decide_eq_true_eq, Bool.not_eq_true', List.any_eq_false, Bool.not_eq_true] at *
  refine ⟨Nat.le_trans (List.Sublist.length_le (List.eraseIdx_sublist l i)) h.1, fun q hq => h.2.1 q ((List.eraseIdx_sublist l i).subset hq), ?_⟩
  have hp : ∀ {l : List OrdV}, srtB (ahB s) l = true → l.Pairwise (fun a b => ahB s a b = true) := by
    intro l
    induction l with
    | nil => exact fun _ => List.Pairwise.nil
    | cons x l ih =>
      intro h
      have i2 := ih (srt_tail h)
      refine List.pairwise_cons.2 ⟨fun z hz => ?_, i2⟩
      cases l with
      | nil => simp at hz
      | cons y l =>
        rcases List.mem_cons.1 hz with rfl | hz
        · exact srt_head h
        · exact ah_trans hs (srt_head h) ((List.pairwise_cons.1 i2).1 z hz)
  have hq : ∀ {l : List OrdV}, l.Pairwise (fun a b => ahB s a b = true) → srtB (ahB s) l = true := by
    intro l
    induction l with
    | nil => exact fun _ => rfl
    | cons x l ih =>
      intro h
      rw [List.pairwise_cons] at h
      exact srt_cons (ih h.2) (fun y hy => h.1 y (List.mem_of_mem_head? hy))
  exact hq ((hp h.2.2).sublist (List.eraseIdx_sublist l i))
theorem erase_head {s : Int} (hs : s = 1 ∨ s = 2) {l : List OrdV} (h : srtB (ahB s) l = true) (i : Nat) {r : OrdV} (hr : (l.eraseIdx i).head? = some r) : ∃ t, l.head? = some t ∧ worse s r.price t.price := by
  cases l with
  | nil => simp at hr
  | cons q rs =>
    refine ⟨q, rfl, ?_⟩
    cases i with
    | zero =>
      cases rs with
      | nil => simp at hr
      | cons z rs =>
        simp only [List.eraseIdx_cons_zero, List.head?_cons, Option.some.injEq] at hr
        subst hr
        exact ah_worse hs (srt_head h)
    | succ i =>
      simp only [List.eraseIdx_cons_succ, List.head?_cons, Option.some.injEq] at hr
      subst hr
      unfold worse; split <;> omega
theorem ids_erase (l : List OrdV) (i : Nat) : (idsL (l.eraseIdx i)).Sublist (idsL l) := (List.eraseIdx_sublist l i).map _
theorem can_may {L M : LaneV} {acc id : Int} {x : OrdV} (hk : chkB L = true) (h : canF L acc id = some (M, x)) (ho : overB M.owed = false) : chkB M = true := by
  have hB := (chk_bok L).1 hk
  have hm := chk_may hk
  rw [chk_bok]
  unfold canF at h
  split at h
  · rename_i i hi
    rw [List.findIdx?_eq_some_iff_getElem] at hi
    obtain ⟨h1, _, _⟩ := hi
    have e : L.bids.getD i ⟨0, 0, 0, 0⟩ = L.bids[i] := by simp [List.getD_eq_getElem?_getD, List.getElem?_eq_getElem h1]
    rw [e] at h
    simp only [Option.some.injEq, Prod.mk.injEq] at h
    obtain ⟨rfl, rfl⟩ := h
    have ha := (side_acc hB.sb).1 _ (List.getElem_mem h1)
    have ht := hm.tb _ (List.getElem_mem h1)
    refine ⟨hB.next, side_erase (.inl rfl) hB.sb i, hB.sa, hB.nd.sublist ((ids_erase _ _).append (List.Sublist.refl _)), ?_, owok_owed (owok_owe (owed_owok hB.ow) ha (by omega) (by unfold brN; rw [if_pos rfl]; exact mul_pos1 ht.1.1 ht.2.1)) ho⟩
    rcases hB.cr with h | h
    · exact .inl h
    · refine .inr (fun p q hp hq => ?_)
      obtain ⟨t, htt, hw⟩ := erase_head (.inl rfl) (side_acc hB.sb).2.2 i hp
      have := h t q htt hq
      unfold worse at hw
      simp at hw
      omega
  · split at h
    · rename_i i hi
      rw [List.findIdx?_eq_some_iff_getElem] at hi
      obtain ⟨h1, _, _⟩ := hi
      have e : L.asks.getD i ⟨0, 0, 0, 0⟩ = L.asks[i] := by simp [List.getD_eq_getElem?_getD, List.getElem?_eq_getElem h1]
      rw [e] at h
      simp only [Option.some.injEq, Prod.mk.injEq] at h
      obtain ⟨rfl, rfl⟩ := h
      have ha := (side_acc hB.sa).1 _ (List.getElem_mem h1)
      have ht := hm.ta _ (List.getElem_mem h1)
      refine ⟨hB.next, hB.sb, side_erase (.inr rfl) hB.sa i, hB.nd.sublist ((List.Sublist.refl _).append (ids_erase _ _)), ?_, owok_owed (owok_owe (owed_owok hB.ow) ha (by omega) (by unfold brN; rw [if_neg (by omega)]; exact ht.2.1)) ho⟩
      rcases hB.cr with h | h
      · exact .inl h
      · refine .inr (fun p q hp hq => ?_)
        obtain ⟨t, htt, hw⟩ := erase_head (.inr rfl) (side_acc hB.sa).2.2 i hq
        have := h p t hp htt
        unfold worse at hw
        simp at hw
        omega
    · cases h
theorem canR_may {L : LaneV} {acc id : Int} (h : (canR L acc id).2.2 = 0) : chkB (canR L acc id).1 = true := by
  unfold canR at h ⊢
  by_cases hk : chkB L = true
  · rw [if_pos hk] at h ⊢
    split
    · rename_i hc
      rw [hc] at h
      simp at h
    · rename_i Mx hc
      rw [hc] at h
      simp only at h
      split
      · rename_i ho
        rw [if_pos ho] at h
        simp at h
      · rename_i ho
        exact can_may (M := Mx.1) (x := Mx.2) hk hc (by simpa using ho)
  · rw [if_neg hk] at h
    simp at h
/-- An order that is for now alone does not rest. -/
theorem out_none {acc id : Int} {l : List OrdV} (h : id ∉ idsL l) : l.findIdx? (outP acc id) = none := by
  rw [List.findIdx?_eq_none_iff]
  intro q hq
  unfold outP
  have : q.id ≠ id := fun e => h (by unfold idsL; rw [List.mem_map]; exact ⟨q, hq, e⟩)
  simp [this]
theorem can_none {M : LaneV} {acc id : Int} (h1 : id ∉ idsL M.bids) (h2 : id ∉ idsL M.asks) : canF M acc id = none := by
  unfold canF
  rw [out_none h1, out_none h2]
theorem now_out {L : LaneV} {acc s price n : Int} (h : (placeL L acc s price n true).2.2.2 = 0) : (placeL L acc s price n true).2.2.1 = L.next ∧ (canR (placeL L acc s price n true).1 acc L.next).2.2 = 132 ∧ (s = 1 ∧ (placeL L acc s price n true).1.bids = L.bids ∨ s = 2 ∧ (placeL L acc s price n true).1.asks = L.asks) := by
  have hk := placeL_may h
  obtain ⟨hr, _, _⟩ := place_ok h
  obtain ⟨g1, hs, _⟩ := refE_ok hr
  have hB := (chk_bok L).1 g1
  have hT := (plT_suf hr).1
  have e := placeL_eq h
  refine ⟨by rw [e], ?_, ?_⟩
  · have hn : canF (placeL L acc s price n true).1 acc L.next = none := by
      rw [e]
      unfold plR plL
      rcases hs with rfl | rfl
      · simp only [if_true, show ¬ (2 : Int) = 1 by omega, if_false, sideL] at hT ⊢
        by_cases h0 : 0 < (plT L 1 ⟨L.next, acc, price, n⟩).2.1
        · rw [if_pos h0]; exact can_none (ids_in hB.sb) (suf_nx hB.sa hT)
        · rw [if_neg h0]; exact can_none (ids_in hB.sb) (suf_nx hB.sa hT)
      · simp only [if_true, show ¬ (2 : Int) = 1 by omega, if_false, sideL] at hT ⊢
        by_cases h0 : 0 < (plT L 2 ⟨L.next, acc, price, n⟩).2.1
        · rw [if_pos h0]; exact can_none (suf_nx hB.sb hT) (ids_in hB.sa)
        · rw [if_neg h0]; exact can_none (suf_nx hB.sb hT) (ids_in hB.sa)
    unfold canR
    rw [if_pos hk, hn]
  · rw [e]
    unfold plR plL
    rcases hs with rfl | rfl
    · refine .inl ⟨rfl, ?_⟩
      simp only [if_true]
      split <;> rfl
    · refine .inr ⟨rfl, ?_⟩
      simp only [show ¬ (2 : Int) = 1 by omega, if_false, if_true]
      split <;> rfl
theorem now_bad {L : LaneV} {acc s price n : Int} {now : Bool} (h : (placeL L acc s price n now).2.2.2 ≠ 0) : (placeL L acc s price n now).2.2.1 = 0 := (place_bad h).2.2
theorem hol_bd {L : LaneV} (hk : chkB L = true) : (0 ≤ holM L ∧ holM L ≤ 184115188075855872) ∧ (0 ≤ holG L ∧ holG L ≤ 144115188115855872) := by
  have hm := chk_may hk
  have h1 := sumP_b40 hm.tb hm.lb L.bids.length
  have h2 := sumQ_b40 hm.ta hm.la L.asks.length
  have h3 := sumA_b16 (a := 0) hm.ow L.owed.length
  have h4 := sumA_b16 (a := 1) hm.ow L.owed.length
  rw [List.take_of_length_le (Nat.le_refl _)] at h1 h2 h3 h4
  unfold holM holG
  omega
end Go.Proofs.Ytlffcoefejhabaa
