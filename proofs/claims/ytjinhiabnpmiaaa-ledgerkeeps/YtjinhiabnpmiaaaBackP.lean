/- Giving and taking, in plain words: what comes of it. -/
import Derived.Test.YtjinhiabnpmiaaaPlain
namespace Go.Proofs.Ytjinhiabnpmiaaa
open Go.RowKit
theorem accB_mk {A : AccV} (h : amtsB A.l (-1) = true) (hc : 0 ≤ A.ct ∧ A.ct ≤ 1000000000) : accB A = true := by
  unfold accB wiB
  rw [h, decide_eq_true hc]
  rfl
theorem refI_mk {A : AccV} {a n : Int} (h : accB A = true) (ha : 0 ≤ a ∧ a ≤ 3) (hn : 1 ≤ n ∧ n ≤ 9007199254740992) : refI A a n = 0 := by
  unfold refI
  rw [if_pos h, if_pos (by unfold wiB; rw [decide_eq_true ha, decide_eq_true hn]; rfl)]
theorem cred_zero {A : AccV} {a n : Int} (h : (credL A a n).2 ≠ 0) : (credL A a n).1 = zA := by
  unfold credL at h ⊢
  split at h
  · split at h
    · rw [if_pos (by assumption), if_pos (by assumption)]
    · exact absurd rfl h
  · rw [if_neg (by assumption)]
/-- What a credit that is not refused comes to. -/
theorem cred_ok {A : AccV} {a n : Int} (h : (credL A a n).2 = 0) : refI A a n = 0 ∧ balL A.l a + n ≤ 9007199254740992 ∧ A.ct ≠ 1000000000 ∧ credL A a n = (⟨pre (moreS A.l a n) 4, A.ct + 1⟩, 0) := by
  unfold credL at h ⊢
  split at h
  · rename_i hr
    split at h
    · cases h
    · rename_i hn
      rw [if_pos hr, if_neg hn]
      exact ⟨hr, by omega, by omega, rfl⟩
  · rename_i hr
    exact absurd h hr
theorem deb_ok {A : AccV} {a n : Int} (h : (debL A a n).2 = 0) : refI A a n = 0 ∧ n ≤ balL A.l a ∧ A.ct ≠ 1000000000 ∧ debL A a n = (⟨pre (moreS A.l a (-n)) 4, A.ct + 1⟩, 0) := by
  unfold debL at h ⊢
  split at h
  · rename_i hr
    split at h
    · cases h
    · rename_i hn
      split at h
      · cases h
      · rename_i hc
        rw [if_pos hr, if_neg hn, if_neg hc]
        exact ⟨hr, by omega, hc, rfl⟩
  · rename_i hr
    exact absurd h hr
theorem more_in {l : List AmtV} {a n : Int} (h : amtsB l (-1) = true) (hn : 0 ≤ balL l a + n ∧ balL l a + n ≤ 9007199254740992) : ∀ k, k < 4 → 0 ≤ moreS l a n k ∧ moreS l a n k ≤ 9007199254740992 := by
  intro k _
  have hb := bal_in l _ (k : Int) h
  unfold moreS
  by_cases c : (k : Int) = a
  · rw [if_pos c, c]
    exact hn
  · rw [if_neg c]
    omega
/-- What an account has behind an entry. -/
theorem more_bal {l : List AmtV} {a n : Int} (h : amtsB l (-1) = true) (hn : 0 ≤ balL l a + n ∧ balL l a + n ≤ 9007199254740992) (k : Nat) (hk : k < 4) : balL (pre (moreS l a n) 4) k = moreS l a n k := pre_bal (more_in h hn) k hk
theorem more_ok {l : List AmtV} {a n : Int} (h : amtsB l (-1) = true) (hn : 0 ≤ balL l a + n ∧ balL l a + n ≤ 9007199254740992) : amtsB (pre (moreS l a n) 4) (-1) = true := pre_ok (more_in h hn)
theorem more_at {l : List AmtV} {a n : Int} (h : amtsB l (-1) = true) (hn : 0 ≤ balL l a + n ∧ balL l a + n ≤ 9007199254740992) (b : Int) (hb : 0 ≤ b ∧ b ≤ 3) : balL (pre (moreS l a n) 4) b = balL l b + if b = a then n else 0 := by
  obtain ⟨k, rfl⟩ : ∃ k : Nat, b = k := Int.eq_ofNat_of_zero_le hb.1
  rw [more_bal h hn k (by omega)]
  rfl
/-- A credit and a debit of the same. -/
theorem cred_deb {A : AccV} {a n : Int} (h : (credL A a n).2 = 0) : (debL (credL A a n).1 a n).2 = 122 ∧ (credL A a n).1.ct = 1000000000 ∨ (debL (credL A a n).1 a n).2 = 0 ∧ (debL (credL A a n).1 a n).1 = ⟨A.l, A.ct + 2⟩ := by
  obtain ⟨hr, hb, hc, e⟩ := cred_ok h
  obtain ⟨hA, ha, hn⟩ := refI_in hr
  obtain ⟨hA1, hA2, hA3⟩ := accB_in hA
  have hb0 := bal_in A.l _ a hA1
  have hM : 0 ≤ balL A.l a + n ∧ balL A.l a + n ≤ 9007199254740992 := by omega
  rw [e]
  simp only
  have hbal := more_at hA1 hM a ha
  rw [if_pos rfl] at hbal
  have hX := more_ok hA1 hM
  have hr2 : refI ⟨pre (moreS A.l a n) 4, A.ct + 1⟩ a n = 0 := by
    exact refI_mk (accB_mk hX (by simp only; omega)) ha hn
  unfold debL
  rw [if_pos hr2]
  simp only
  rw [if_neg (by rw [hbal]; omega)]
  by_cases hct : A.ct + 1 = 1000000000
  · rw [if_pos hct]
    exact .inl ⟨rfl, hct⟩
  · rw [if_neg hct]
    refine .inr ⟨rfl, ?_⟩
    have e2 : pre (moreS (pre (moreS A.l a n) 4) a (-n)) 4 = A.l := canon hA1 fun k hk => by
      unfold moreS
      rw [show balL (pre (fun k : Nat => balL A.l k + if (k : Int) = a then n else 0) 4) k = _ from more_bal hA1 hM k hk]
      unfold moreS
      split <;> omega
    rw [e2]
    simp only [AccV.mk.injEq, true_and]
    omega
theorem cred_bal {A : AccV} {a n : Int} (h : (credL A a n).2 = 0) : balL (credL A a n).1.l a = balL A.l a + n ∧ (0 ≤ balL A.l a ∧ balL A.l a ≤ 9007199254740992) ∧ (1 ≤ n ∧ n ≤ 9007199254740992) ∧ 0 ≤ A.ct ∧ A.ct ≤ 1000000000 := by
  obtain ⟨hr, hb, hc, e⟩ := cred_ok h
  obtain ⟨hA, ha, hn⟩ := refI_in hr
  obtain ⟨hA1, hA2, hA3⟩ := accB_in hA
  have hb0 := bal_in A.l _ a hA1
  rw [e]
  refine ⟨?_, hb0, hn, hA2, hA3⟩
  have := more_at hA1 (by omega : 0 ≤ balL A.l a + n ∧ balL A.l a + n ≤ 9007199254740992) a ha
  rwa [if_pos rfl] at this
theorem cred_len (A : AccV) (a n : Int) : (credL A a n).1.l.length * 16 ≤ 140737488355328 := by
  by_cases h : (credL A a n).2 = 0
  · rw [(cred_ok h).2.2.2]
    have := pre_len (moreS A.l a n) 4
    simp only
    omega
  · rw [cred_zero h]
    simp [zA]
theorem deb_zero {A : AccV} {a n : Int} (h : (debL A a n).2 ≠ 0) : (debL A a n).1 = zA := by
  unfold debL at h ⊢
  split at h
  · rename_i hr
    rw [if_pos hr]
    split at h
    · rename_i hb
      rw [if_pos hb]
    · rename_i hb
      rw [if_neg hb]
      split at h
      · rename_i hc
        rw [if_pos hc]
      · exact absurd rfl h
  · rename_i hr
    rw [if_neg hr]
theorem deb_len (A : AccV) (a n : Int) : (debL A a n).1.l.length * 16 ≤ 140737488355328 := by
  by_cases h : (debL A a n).2 = 0
  · rw [(deb_ok h).2.2.2]
    have := pre_len (moreS A.l a (-n)) 4
    simp only
    omega
  · rw [deb_zero h]
    simp [zA]
end Go.Proofs.Ytjinhiabnpmiaaa
