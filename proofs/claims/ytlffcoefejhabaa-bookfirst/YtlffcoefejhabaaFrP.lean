/- The older of two orders comes first: plain data. -/
import Derived.Test.YtlffcoefejhabaaNwP
namespace Go.Proofs.Ytlffcoefejhabaa
open Go.RowKit
set_option linter.all false
theorem nd_inj : ∀ {l : List OrdV}, (idsL l).Nodup → ∀ {x y : OrdV}, x ∈ l → y ∈ l → x.id = y.id → x = y
  | [], _, x, y, hx, _, _ => absurd hx (by simp)
  | r :: l, h, x, y, hx, hy, e => by
    have h' : r.id ∉ idsL l ∧ (idsL l).Nodup := by simpa [idsL] using h
    have hn : ∀ z ∈ l, z.id ≠ r.id := fun z hz he => h'.1 (by unfold idsL; rw [List.mem_map]; exact ⟨z, hz, he⟩)
    rcases List.mem_cons.1 hx with hx1 | hx1
    · rcases List.mem_cons.1 hy with hy1 | hy1
      · rw [hx1, hy1]
      · exact absurd (by rw [← e, hx1]) (hn y hy1)
    · rcases List.mem_cons.1 hy with hy1 | hy1
      · exact absurd (by rw [e, hy1]) (hn x hx1)
      · exact nd_inj h'.2 hx1 hy1 e
theorem ids_both (L : LaneV) : idsL L.bids ++ idsL L.asks = idsL (L.bids ++ L.asks) := by unfold idsL; rw [List.map_append]
theorem can_mem {L M : LaneV} {acc id : Int} {x : OrdV} (h : canF L acc id = some (M, x)) : x ∈ L.bids ++ L.asks ∧ x.id = id := by
  unfold canF at h
  split at h
  · rename_i i hi
    rw [List.findIdx?_eq_some_iff_getElem] at hi
    obtain ⟨h1, h2, _⟩ := hi
    have e : L.bids.getD i ⟨0, 0, 0, 0⟩ = L.bids[i] := by simp [List.getD_eq_getElem?_getD, List.getElem?_eq_getElem h1]
    rw [e] at h
    simp only [Option.some.injEq, Prod.mk.injEq] at h
    obtain ⟨_, rfl⟩ := h
    unfold outP at h2
    simp only [Bool.and_eq_true, decide_eq_true_eq] at h2
    exact ⟨List.mem_append_left _ (List.getElem_mem h1), h2.1⟩
  · split at h
    · rename_i i hi
      rw [List.findIdx?_eq_some_iff_getElem] at hi
      obtain ⟨h1, h2, _⟩ := hi
      have e : L.asks.getD i ⟨0, 0, 0, 0⟩ = L.asks[i] := by simp [List.getD_eq_getElem?_getD, List.getElem?_eq_getElem h1]
      rw [e] at h
      simp only [Option.some.injEq, Prod.mk.injEq] at h
      obtain ⟨_, rfl⟩ := h
      unfold outP at h2
      simp only [Bool.and_eq_true, decide_eq_true_eq] at h2
      exact ⟨List.mem_append_right _ (List.getElem_mem h1), h2.1⟩
    · cases h
theorem can_find {L : LaneV} {x : OrdV} (hk : chkB L = true) (hx : x ∈ L.bids ++ L.asks) : ∃ M, canF L x.acc x.id = some (M, x) := by
  have hnd := ((chk_bok L).1 hk).nd
  rw [ids_both] at hnd
  cases hc : canF L x.acc x.id with
  | some Mx =>
    have h := can_mem (M := Mx.1) (x := Mx.2) hc
    have := nd_inj hnd h.1 hx h.2
    exact ⟨Mx.1, by rw [← this]⟩
  | none =>
    unfold canF at hc
    split at hc
    · cases hc
    · split at hc
      · cases hc
      · rename_i _ h1 _ h2
        rw [List.findIdx?_eq_none_iff] at h1 h2
        rcases List.mem_append.1 hx with h | h
        · have := h1 x h
          simp [outP] at this
        · have := h2 x h
          simp [outP] at this
theorem canR_find {L : LaneV} {x : OrdV} (hk : chkB L = true) (hx : x ∈ L.bids ++ L.asks) : (canR L x.acc x.id).2.2 = 131 ∨ ((canR L x.acc x.id).2.2 = 0 ∧ (canR L x.acc x.id).2.1 = x.left) := by
  obtain ⟨M, hM⟩ := can_find hk hx
  unfold canR
  rw [if_pos hk, hM]
  simp only
  split
  · exact .inl rfl
  · exact .inr ⟨rfl, rfl⟩
theorem canR_mem {L : LaneV} {acc id : Int} (h : (canR L acc id).2.2 = 0) : ∃ x ∈ L.bids ++ L.asks, x.id = id ∧ (canR L acc id).2.1 = x.left := by
  unfold canR at h ⊢
  by_cases hk : chkB L = true
  · rw [if_pos hk] at h ⊢
    cases hc : canF L acc id with
    | none => rw [hc] at h; simp at h
    | some Mx =>
      rw [hc] at h
      simp only at h ⊢
      have hm := can_mem (M := Mx.1) (x := Mx.2) hc
      by_cases ho : overB Mx.1.owed = true
      · rw [if_pos ho] at h; simp at h
      · rw [if_neg ho]
        exact ⟨Mx.2, hm.1, hm.2, rfl⟩
  · rw [if_neg hk] at h
    simp at h
theorem suf_from {T R : List OrdV} (h : Suf T R) : ∀ y ∈ R, ∃ r ∈ T, r.id = y.id ∧ y.left ≤ r.left := by
  refine Suf.ind (P := fun T R => ∀ y ∈ R, ∃ r ∈ T, r.id = y.id ∧ y.left ≤ r.left) ?_ ?_ ?_ h
  · exact fun T y hy => ⟨y, hy, rfl, Int.le_refl _⟩
  · intro r rs m hm y hy
    rcases List.mem_cons.1 hy with rfl | hy
    · exact ⟨r, by simp, rfl, by simp only; omega⟩
    · exact ⟨y, by simp [hy], rfl, Int.le_refl _⟩
  · intro r rs R h ih y hy
    obtain ⟨q, hq, e⟩ := ih y hy
    exact ⟨q, by simp [hq], e⟩
/-- An order that is not filled rests. -/
theorem place_rests {L : LaneV} {acc s price n : Int} (h : (placeL L acc s price n false).2.2.2 = 0) (hc : L.call = false) (hF : (placeL L acc s price n false).2.1 = []) :
    (placeL L acc s price n false).2.2.1 = L.next ∧ (placeL L acc s price n false).1.call = false ∧ (placeL L acc s price n false).1.next = L.next + 1 ∧ sideL (placeL L acc s price n false).1 s = laidL (ahB s) ⟨L.next, acc, price, n⟩ (sideL L s) := by
  obtain ⟨hr, _, _⟩ := place_ok h
  obtain ⟨_, hs, _, hn, _⟩ := refE_ok hr
  have hT : plT L s ⟨L.next, acc, price, n⟩ = trL s ⟨L.next, acc, price, n⟩ (sideL L (if s = 1 then 2 else 1)) n L.owed [] := by
    unfold plT
    rw [hc]
    rfl
  rw [placeL_eq h, hT] at hF ⊢
  simp only at hF
  rw [tr_quiet hF]
  simp only
  refine ⟨trivial, ?_⟩
  have h0 : 0 < n := by omega
  unfold plR plL
  simp only [if_pos h0, Bool.false_eq_true, if_false]
  rcases hs with rfl | rfl
  · simp [sideL, hc]
  · simp [sideL, hc]
theorem first_plain {L : LaneV} {acc s price n k : Int} (hc : L.call = false) (hk : 1 ≤ k ∧ k ≤ n) (h1 : (placeL L acc s price n false).2.2.2 = 0) (f1 : (placeL L acc s price n false).2.1 = []) (h2 : (placeL (placeL L acc s price n false).1 acc s price n false).2.2.2 = 0) (f2 : (placeL (placeL L acc s price n false).1 acc s price n false).2.1 = [])
    (h3 : (placeL (placeL (placeL L acc s price n false).1 acc s price n false).1 acc (3 - s) price k true).2.2.2 = 0) :
    ((canR (placeL (placeL (placeL L acc s price n false).1 acc s price n false).1 acc (3 - s) price k true).1 acc (placeL (placeL L acc s price n false).1 acc s price n false).2.2.1).2.2 = 131 ∨ ((canR (placeL (placeL (placeL L acc s price n false).1 acc s price n false).1 acc (3 - s) price k true).1 acc (placeL (placeL L acc s price n false).1 acc s price n false).2.2.1).2.2 = 0 ∧ (canR (placeL (placeL (placeL L acc s price n false).1 acc s price n false).1 acc (3 - s) price k true).1 acc (placeL (placeL L acc s price n false).1 acc s price n false).2.2.1).2.1 = n)) ∧
    ((canR (placeL (placeL (placeL L acc s price n false).1 acc s price n false).1 acc (3 - s) price k true).1 acc (placeL L acc s price n false).2.2.1).2.2 = 0 → (canR (placeL (placeL (placeL L acc s price n false).1 acc s price n false).1 acc (3 - s) price k true).1 acc (placeL L acc s price n false).2.2.1).2.1 ≤ n) := by
  obtain ⟨i1, c1, n1, s1⟩ := place_rests h1 hc f1
  obtain ⟨i2, c2, n2, s2⟩ := place_rests h2 c1 f2
  have hs := (refE_ok (place_ok h1).1).2.1
  have hk2 := placeL_may h2
  have hk3 := placeL_may h3
  have hr3 := (place_ok h3).1
  have hT3 := (plT_suf hr3).1
  have e3 := placeL_eq h3
  rw [i1, i2]
  rw [n1] at s2
  rw [n1]
  generalize placeL (placeL (placeL L acc s price n false).1 acc s price n false).1 acc (3 - s) price k true = C at *
  generalize placeL (placeL L acc s price n false).1 acc s price n false = B at *
  generalize placeL L acc s price n false = A at *
  have hm2 := chk_may hk2
  have hnd2 := ((chk_bok _).1 hk2).nd
  rw [ids_both] at hnd2
  -- the side of both
  obtain ⟨P, Q, eP, hP⟩ := laid_ahead (s := s) (x := ⟨L.next, acc, price, n⟩) (sideL L s)
  rw [eP] at s1
  rw [s1] at s2
  have hah : ahB s ⟨L.next, acc, price, n⟩ ⟨L.next + 1, acc, price, n⟩ = true := by
    unfold ahB
    simp only [if_true, decide_eq_true_eq]
    omega
  obtain ⟨B1, B2, eB⟩ := laid_split hs hah P Q hP
  rw [eB] at s2
  have hopp : sideL B.1 (if (3 - s) = 1 then 2 else 1) = sideL B.1 s := by rcases hs with rfl | rfl <;> simp
  have hside : ∀ y, y ∈ sideL B.1 s → y ∈ B.1.bids ++ B.1.asks := fun y hy => by
    unfold sideL at hy
    split at hy
    · exact List.mem_append_left _ hy
    · exact List.mem_append_right _ hy
  have hOk : OkT (sideL B.1 s) := by
    unfold sideL
    split
    · exact hm2.tb
    · exact hm2.ta
  have hx1 : (⟨L.next, acc, price, n⟩ : OrdV) ∈ B.1.bids ++ B.1.asks := hside _ (by rw [s2]; simp)
  have hplT : plT B.1 (3 - s) ⟨B.1.next, acc, price, k⟩ = trL (3 - s) ⟨B.1.next, acc, price, k⟩ (sideL B.1 s) k B.1.owed [] := by
    unfold plT
    rw [c2, hopp]
    rfl
  rw [hopp] at hT3
  rw [hplT] at hT3 e3
  obtain ⟨R, hR⟩ := tr_keep (3 - s) ⟨B.1.next, acc, price, k⟩ ⟨L.next, acc, price, n⟩ (B1 ++ ⟨L.next + 1, acc, price, n⟩ :: B2) P k B.1.owed [] (fun r hr => (hOk r (by rw [s2]; simp [hr])).2.1) (by simp only; omega) (by simp only; omega)
  rw [← s2] at hR
  generalize trL (3 - s) ⟨B.1.next, acc, price, k⟩ (sideL B.1 s) k B.1.owed [] = X at *
  obtain ⟨T3, l3, o3, F3⟩ := X
  simp only at hT3 hR e3
  have hC : C.1.bids ++ C.1.asks = if s = 1 then T3 ++ B.1.asks else B.1.bids ++ T3 := by
    rw [e3]
    unfold plR plL
    simp only
    rcases hs with rfl | rfl
    · by_cases h0 : 0 < l3
      · simp [h0]
      · simp [h0]
    · by_cases h0 : 0 < l3
      · simp [h0]
      · simp [h0]
  have hx2 : (⟨L.next + 1, acc, price, n⟩ : OrdV) ∈ C.1.bids ++ C.1.asks := by
    rw [hC, hR]
    split
    · exact List.mem_append_left _ (by simp)
    · exact List.mem_append_right _ (by simp)
  refine ⟨canR_find hk3 hx2, fun he => ?_⟩
  obtain ⟨y, hy, hyi, hyl⟩ := canR_mem he
  rw [hyl]
  have hfrom : ∃ r ∈ B.1.bids ++ B.1.asks, r.id = y.id ∧ y.left ≤ r.left := by
    rw [hC] at hy
    have hsf := suf_from hT3
    rcases hs with rfl | rfl
    · simp only [if_true] at hy
      rcases List.mem_append.1 hy with h | h
      · obtain ⟨r, hr, e⟩ := hsf y h
        exact ⟨r, hside r hr, e⟩
      · exact ⟨y, List.mem_append_right _ h, rfl, Int.le_refl _⟩
    · simp only [show ¬ (2 : Int) = 1 by omega, if_false] at hy
      rcases List.mem_append.1 hy with h | h
      · exact ⟨y, List.mem_append_left _ h, rfl, Int.le_refl _⟩
      · obtain ⟨r, hr, e⟩ := hsf y h
        exact ⟨r, hside r hr, e⟩
  obtain ⟨r, hr, hri, hrl⟩ := hfrom
  have := nd_inj hnd2 hr hx1 (by rw [hri, hyi])
  rw [this] at hrl
  exact hrl
end Go.Proofs.Ytlffcoefejhabaa
