/- An order in two parts: plain data. -/
import Derived.Test.YtlffcoefejhabaaSpP
import Derived.Test.YtlffcoefejhabaaNwP
namespace Go.Proofs.Ytlffcoefejhabaa
open Go.RowKit
set_option linter.all false
theorem trF_end (s : Int) (x : OrdV) : ∀ (T : List OrdV) (a : Int) (f : OKey → Option Int), 0 < (trF s x T a f).2.1 → ∀ b g, trF s x (trF s x T a f).1 b g = ((trF s x T a f).1, b, g)
  | [], a, f, _, b, g => rfl
  | r :: rs, a, f, h, b, g => by
    by_cases hm : 0 < a ∧ meetB s x.price r.price = true
    · by_cases h0 : r.left - min a r.left = 0
      · have e1 : trF s x (r :: rs) a f = trF s x rs (a - min a r.left) (setU s x r (min a r.left) f) := by
          rw [trF_cons, if_pos hm, if_pos h0]
        rw [e1] at h ⊢
        exact trF_end s x rs _ _ h b g
      · rw [trF_cons, if_pos hm, if_neg h0] at h
        simp only at h
        omega
    · have e1 : trF s x (r :: rs) a f = (r :: rs, a, f) := by rw [trF_cons, if_neg hm]
      rw [e1] at h ⊢
      simp only at h ⊢
      rw [trF_cons, if_neg (fun hc => hm ⟨h, hc.2⟩)]
theorem place_nowF {L : LaneV} {acc s price n : Int} (h : (placeL L acc s price n true).2.2.2 = 0) (hc : L.call = false) :
    ∃ T1 l1 f1, trF s ⟨0, acc, price, 0⟩ (sideL L (if s = 1 then 2 else 1)) n (lookO L.owed) = (T1, l1, f1) ∧ (placeL L acc s price n true).1 = ⟨false, L.next + 1, if s = 1 then L.bids else T1, if s = 1 then T1 else L.asks, (placeL L acc s price n true).1.owed⟩ ∧ lookO (placeL L acc s price n true).1.owed = (if 0 < l1 then upd (acc, brA s) (brN s ⟨0, acc, price, l1⟩) f1 else f1) ∧ sumG (placeL L acc s price n true).2.1 + l1 = n ∧ 0 ≤ l1 := by
  obtain ⟨hr, _, _⟩ := place_ok h
  have hl := (plT_suf hr).2.1
  have hsum := sum_tr s ⟨L.next, acc, price, n⟩ (sideL L (if s = 1 then 2 else 1)) n L.owed []
  have hF := trF_is s ⟨L.next, acc, price, n⟩ (sideL L (if s = 1 then 2 else 1)) n L.owed []
  rw [trF_x s ⟨L.next, acc, price, n⟩ ⟨0, acc, price, 0⟩ rfl rfl] at hF
  have hT : plT L s ⟨L.next, acc, price, n⟩ = trL s ⟨L.next, acc, price, n⟩ (sideL L (if s = 1 then 2 else 1)) n L.owed [] := by
    unfold plT
    rw [hc]
    rfl
  rw [placeL_eq h, hT]
  rw [hT] at hl
  generalize trL s ⟨L.next, acc, price, n⟩ (sideL L (if s = 1 then 2 else 1)) n L.owed [] = X at *
  obtain ⟨T1, l1, ow, F⟩ := X
  simp only at *
  refine ⟨T1, l1, lookO ow, hF, ?_, ?_, by rw [hsum]; simp [sumG], hl⟩
  · unfold plR plL
    by_cases h0 : 0 < l1
    · rw [if_pos h0, if_pos rfl]
      by_cases hs : s = 1
      · simp only [if_pos hs, hc]
      · simp only [if_neg hs, hc]
    · rw [if_neg h0]
      by_cases hs : s = 1
      · simp only [if_pos hs, hc]
      · simp only [if_neg hs, hc]
  · unfold plR plL
    by_cases h0 : 0 < l1
    · rw [if_pos h0, if_pos rfl, if_pos h0]
      simp only
      rw [look_owe]
      have : brN s ⟨L.next, acc, price, l1⟩ = brN s ⟨0, acc, price, l1⟩ := rfl
      rw [this]
      split <;> rfl
    · rw [if_neg h0, if_neg h0]
      split <;> rfl
theorem place_sorted {L : LaneV} {acc s price n : Int} {now : Bool} (h : (placeL L acc s price n now).2.2.2 = 0) : srtB owB (placeL L acc s price n now).1.owed = true := (owed_owok ((chk_bok _).1 (placeL_may h)).ow).1
theorem split_same {L : LaneV} {acc s price n k : Int} (hc : L.call = false) (hk : 1 ≤ k ∧ k < n) (h1 : (placeL L acc s price n true).2.2.2 = 0) (h2 : (placeL L acc s price k true).2.2.2 = 0) (h3 : (placeL (placeL L acc s price k true).1 acc s price (n - k) true).2.2.2 = 0) :
    sumG (placeL L acc s price n true).2.1 = sumG (placeL L acc s price k true).2.1 + sumG (placeL (placeL L acc s price k true).1 acc s price (n - k) true).2.1 ∧ (⟨(placeL L acc s price n true).1.call, (placeL (placeL L acc s price k true).1 acc s price (n - k) true).1.next, (placeL L acc s price n true).1.bids, (placeL L acc s price n true).1.asks, (placeL L acc s price n true).1.owed⟩ : LaneV) = (placeL (placeL L acc s price k true).1 acc s price (n - k) true).1 := by
  have s1 := place_sorted h1
  have s3 := place_sorted h3
  obtain ⟨hkL, hs, _⟩ := refE_ok (place_ok h1).1
  have hm := chk_may hkL
  have hO : OkT (sideL L (if s = 1 then 2 else 1)) := by
    unfold sideL
    split
    · simpa using hm.ta
    · simpa using hm.tb
  obtain ⟨T1, l1, f1, e1, p1, o1, u1, z1⟩ := place_nowF h1 hc
  obtain ⟨T2, l2, f2, e2, p2, o2, u2, z2⟩ := place_nowF h2 hc
  generalize placeL L acc s price n true = A at *
  generalize placeL L acc s price k true = B at *
  obtain ⟨T3, l3, f3, e3, p3, o3, u3, z3⟩ := place_nowF h3 (by rw [p2])
  generalize placeL B.1 acc s price (n - k) true = C at *
  have hopp : sideL B.1 (if s = 1 then 2 else 1) = T2 := by
    rw [p2]
    unfold sideL
    rcases hs with rfl | rfl <;> simp
  rw [hopp, o2] at e3
  obtain ⟨g1, g2⟩ := trF_two s ⟨0, acc, price, 0⟩ (sideL L (if s = 1 then 2 else 1)) k (n - k) (lookO L.owed) hO (by omega) (by omega)
  have g3 := trF_end s ⟨0, acc, price, 0⟩ (sideL L (if s = 1 then 2 else 1)) k (lookO L.owed)
  rw [e2] at g1 g2 g3
  simp only [show k + (n - k) = n by omega] at g1 g2 g3
  rw [e1] at g1 g2
  have key : T1 = T3 ∧ l1 - l2 = l3 - (if 0 < l2 then 0 else 0) ∧ lookO A.1.owed = lookO C.1.owed := by
    rw [o1, o3]
    by_cases h0 : 0 < l2
    · obtain ⟨_, ga⟩ := g1 h0
      rw [g3 h0] at e3
      simp only [Prod.mk.injEq] at ga e3
      obtain ⟨rfl, rfl, rfl⟩ := ga
      obtain ⟨rfl, rfl, rfl⟩ := e3
      refine ⟨rfl, by simp; omega, ?_⟩
      rw [if_pos (by omega), if_pos (by omega), if_pos h0, upd_two]
      congr 1
      unfold brN
      split
      · simp only [Int.mul_add]
      · rfl
    · obtain ⟨ga, gb⟩ := g2 h0
      rw [if_neg h0, gb] at e3
      simp only [Prod.mk.injEq] at e3
      obtain ⟨rfl, rfl, rfl⟩ := e3
      exact ⟨rfl, by simp; omega, rfl⟩
  obtain ⟨rfl, kl, ko⟩ := key
  have howe := look_ext s1 s3 ko
  refine ⟨by simp at kl; omega, ?_⟩
  rw [p1, p3]
  simp only
  rw [howe, p2]
  rcases hs with rfl | rfl <;> simp
end Go.Proofs.Ytlffcoefejhabaa
