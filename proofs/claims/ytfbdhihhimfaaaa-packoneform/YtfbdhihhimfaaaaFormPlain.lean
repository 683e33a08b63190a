/- The plain mathematics of P1.2: what is read, written again, is just the bytes that were read; without the last of them it is cut off. -/
import Derived.Test.YtfbdhihhimfaaaaBackPlain
namespace Go.Proofs.Ytfbdhihhimfaaaa
open Go.RowKit

theorem endB_pos (i b : Nat) (h : endB i b = true) : i = 0 ∨ b ≠ 0 := by
  by_cases h0 : i = 0
  · exact .inl h0
  · right
    intro hb
    rw [endB_no i b (by omega) hb] at h
    cases h
theorem rd_form (f i acc : Nat) (l : List UInt8) (n c : Nat) (hf : f + i = 9) (h : rd (f + 1) i acc l = (n, c, 0)) :
    ∃ m, n = acc + m * 128 ^ i ∧ l.take (c - i) = uform f m ∧ (i = 0 ∨ m ≠ 0) := by
  induction f generalizing i acc l with
  | zero =>
    cases l with
    | nil => simp [rd] at h
    | cons b r =>
      by_cases hb : b.toNat < 128
      · cases he : endB i b.toNat with
        | true =>
          rw [rd_yes _ _ _ _ _ hb he] at h
          simp only [Prod.mk.injEq] at h
          obtain ⟨h1, h2, _⟩ := h
          refine ⟨b.toNat, h1.symm, ?_, endB_pos i _ he⟩
          rw [← h2, show i + 1 - i = 1 by omega, uform_small 0 _ hb]
          simp
        | false => rw [rd_no _ _ _ _ _ hb he] at h; simp at h
      · rw [rd_more _ _ _ _ _ hb, rd_zero] at h; simp at h
  | succ f ih =>
    cases l with
    | nil => simp [rd] at h
    | cons b r =>
      by_cases hb : b.toNat < 128
      · cases he : endB i b.toNat with
        | true =>
          rw [rd_yes _ _ _ _ _ hb he] at h
          simp only [Prod.mk.injEq] at h
          obtain ⟨h1, h2, _⟩ := h
          refine ⟨b.toNat, h1.symm, ?_, endB_pos i _ he⟩
          rw [← h2, show i + 1 - i = 1 by omega, uform_small _ _ hb]
          simp
        | false => rw [rd_no _ _ _ _ _ hb he] at h; simp at h
      · rw [rd_more _ _ _ _ _ hb] at h
        obtain ⟨m, h1, h2, h3⟩ := ih (i + 1) _ r (by omega) h
        have hc := rd_count (f + 1) (i + 1) _ r (by rw [h])
        rw [h] at hc
        simp only at hc
        have hb2 := UInt8.toNat_lt b
        refine ⟨b.toNat % 128 + 128 * m, ?_, ?_, .inr (by omega)⟩
        · rw [h1, Nat.pow_succ, Nat.add_assoc, Nat.add_mul]
          congr 2
          rw [Nat.mul_comm (128 ^ i) 128, ← Nat.mul_assoc, Nat.mul_comm m 128]
        · rw [uform_big f _ (by omega), show c - i = (c - (i + 1)) + 1 by omega, List.take_succ_cons, h2]
          have e1 : 128 + (b.toNat % 128 + 128 * m) % 128 = b.toNat := by omega
          have e2 : (b.toNat % 128 + 128 * m) / 128 = m := by omega
          rw [e1, e2]
          simp
theorem rd_cut (f i acc : Nat) (l : List UInt8) (n c : Nat) (h : rd f i acc l = (n, c, 0)) : rd f i acc (l.take (c - 1 - i)) = (0, 0, 10) := by
  induction f generalizing i acc l with
  | zero => simp [rd] at h
  | succ f ih =>
    cases l with
    | nil => simp [rd] at h
    | cons b r =>
      by_cases hb : b.toNat < 128
      · cases he : endB i b.toNat with
        | true =>
          rw [rd_yes _ _ _ _ _ hb he] at h
          simp only [Prod.mk.injEq] at h
          rw [← h.2.1, show i + 1 - 1 - i = 0 by omega, List.take_zero, rd_nil]
        | false => rw [rd_no _ _ _ _ _ hb he] at h; simp at h
      · rw [rd_more _ _ _ _ _ hb] at h
        have hc := rd_count f (i + 1) _ r (by rw [h])
        rw [h] at hc
        simp only at hc
        rw [show c - 1 - i = (c - 1 - (i + 1)) + 1 by omega, List.take_succ_cons, rd_more _ _ _ _ _ hb]
        exact ih (i + 1) _ r h
theorem rd_stable (f i acc : Nat) (l : List UInt8) (n c k : Nat) (h : rd f i acc l = (n, c, 0)) (hk : c - i ≤ k) : rd f i acc (l.take k) = (n, c, 0) := by
  induction f generalizing i acc l k with
  | zero => simp [rd] at h
  | succ f ih =>
    cases l with
    | nil => simp [rd] at h
    | cons b r =>
      have hc := rd_count (f + 1) i acc (b :: r) (by rw [h])
      rw [h] at hc
      simp only at hc
      obtain ⟨k', rfl⟩ : ∃ k', k = k' + 1 := ⟨k - 1, by omega⟩
      rw [List.take_succ_cons]
      by_cases hb : b.toNat < 128
      · cases he : endB i b.toNat with
        | true => rw [rd_yes _ _ _ _ _ hb he] at h ⊢; exact h
        | false => rw [rd_no _ _ _ _ _ hb he] at h; simp at h
      · rw [rd_more _ _ _ _ _ hb] at h ⊢
        exact ih (i + 1) _ r k' h (by omega)
/-- What a reading tells: a place, and how many bytes. -/
theorem tkU_inv (l : List UInt8) (a : Int) (n nx : Nat) (h : tkU l a = (n, nx, 0)) : ∃ p c : Nat, a = (p : Int) ∧ p ≤ l.length ∧ nx = p + c ∧ 0 < c ∧ nx ≤ l.length ∧ rd 10 0 0 (l.drop p) = (n, c, 0) := by
  have hh := tkU_next l a (by rw [h])
  rw [h] at hh
  simp only at hh
  obtain ⟨p, rfl⟩ := Int.eq_ofNat_of_zero_le hh.1
  rw [tkU_in l p (by omega)] at h
  unfold fin at h
  split at h
  · rename_i hz
    simp only [Prod.mk.injEq] at h
    have hc := rd_count 10 0 0 _ hz
    refine ⟨p, (rd 10 0 0 (l.drop p)).2.1, rfl, by omega, h.2.1.symm, by omega, by omega, Prod.ext h.1 (Prod.ext rfl hz)⟩
  · rename_i hz
    simp only [Prod.mk.injEq] at h
    exact absurd h.2.2 hz
theorem drop_take (l : List UInt8) (p k : Nat) : (l.take k).drop p = (l.drop p).take (k - p) := by rw [List.drop_take]
theorem tkU_form (l : List UInt8) (p n nx : Nat) (h : tkU l (p : Int) = (n, nx, 0)) : uintL n = (l.drop p).take (nx - p) := by
  obtain ⟨p', c, e, hp, h1, hc, hle, hr⟩ := tkU_inv l _ n nx h
  have e' : p = p' := by omega
  subst e'
  obtain ⟨m, hm, ht, _⟩ := rd_form 9 0 0 _ n c (by omega) hr
  have e2 : n = m := by simpa using hm
  subst e2
  rw [h1, show p + c - p = c - 0 by omega, ht]
  rfl
theorem tkU_cut (l : List UInt8) (p n nx : Nat) (h : tkU l (p : Int) = (n, nx, 0)) : tkU (l.take (nx - 1)) (p : Int) = (0, 0, 10) := by
  obtain ⟨p', c, e, hp, h1, hc, hle, hr⟩ := tkU_inv l _ n nx h
  have e' : p = p' := by omega
  subst e'
  rw [tkU_in _ _ (by rw [List.length_take]; omega), drop_take, show nx - 1 - p = c - 1 - 0 by omega, rd_cut 10 0 0 _ n c hr]
  rfl
theorem tkU_stable (l : List UInt8) (p n nx k : Nat) (h : tkU l (p : Int) = (n, nx, 0)) (hk : nx ≤ k) : tkU (l.take k) (p : Int) = (n, nx, 0) := by
  obtain ⟨p', c, e, hp, h1, hc, hle, hr⟩ := tkU_inv l _ n nx h
  have e' : p = p' := by omega
  subst e'
  rw [tkU_in _ _ (by rw [List.length_take]; omega), drop_take, rd_stable 10 0 0 _ n c _ hr (by omega)]
  simp [fin, h1]
theorem fold_unfold (n : Nat) : foldN (unfoldN n) = n := by
  unfold foldN unfoldN
  by_cases h : n % 2 = 0
  · rw [if_pos h]; split <;> omega
  · rw [if_neg h]; split <;> omega
theorem unfold_range (n : Nat) (h : n < 18446744073709551616) : -9223372036854775808 ≤ unfoldN n ∧ unfoldN n < 9223372036854775808 := by
  unfold unfoldN; split <;> omega
theorem tkT_inv (l : List UInt8) (p : Nat) (t : List UInt8) (nx : Nat) (h : tkT l (p : Int) = (t, nx, 0)) :
    ∃ n q : Nat, tkU l (p : Int) = (n, q, 0) ∧ p < q ∧ n ≤ 60000 ∧ nx = q + n ∧ nx ≤ l.length ∧ t = (l.drop q).take n ∧ t.length = n := by
  obtain ⟨n, q, er, hr⟩ := tup_split l (p : Int)
  by_cases her : er = 0
  · subst her
    have hq := tkU_next l (p : Int) (by rw [hr])
    rw [hr] at hq
    simp only at hq
    by_cases hlong : 60000 < n
    · rw [tkT_long _ _ hr hlong] at h; simp at h
    · by_cases hcut : l.length < q + n
      · rw [tkT_cut _ _ hr hlong hcut] at h; simp at h
      · rw [tkT_yes _ _ hr hlong hcut] at h
        simp only [Prod.mk.injEq] at h
        refine ⟨n, q, hr, by omega, by omega, h.2.1.symm, by omega, h.1.symm, ?_⟩
        rw [← h.1, List.length_take, List.length_drop]
        omega
  · rw [tkT_err _ _ hr her] at h
    simp only [Prod.mk.injEq] at h
    exact absurd h.2.2 her
theorem take_two (l : List UInt8) (p q r : Nat) (h1 : p ≤ q) (h2 : q ≤ r) : (l.drop p).take (r - p) = (l.drop p).take (q - p) ++ (l.drop q).take (r - q) := by
  rw [show r - p = (q - p) + (r - q) by omega, List.take_add, List.drop_drop, show p + (q - p) = q by omega]
theorem tkT_form (l : List UInt8) (p : Nat) (t : List UInt8) (nx : Nat) (h : tkT l (p : Int) = (t, nx, 0)) : textL t = (l.drop p).take (nx - p) ∧ t.length ≤ 60000 ∧ p < nx ∧ nx ≤ l.length := by
  obtain ⟨n, q, hu, hpq, hn, hnx, hle, ht, hl⟩ := tkT_inv l p t nx h
  refine ⟨?_, by omega, by omega, hle⟩
  unfold textL
  rw [if_pos (by omega), hl, tkU_form l p n q hu, take_two l p q nx (by omega) (by omega), ht, hnx, show q + n - q = n by omega]
theorem tkT_cutLast (l : List UInt8) (p : Nat) (t : List UInt8) (nx : Nat) (h : tkT l (p : Int) = (t, nx, 0)) : tkT (l.take (nx - 1)) (p : Int) = ([], 0, 10) := by
  obtain ⟨n, q, hu, hpq, hn, hnx, hle, ht, hl⟩ := tkT_inv l p t nx h
  by_cases h0 : n = 0
  · subst h0
    have hc := tkU_cut l p 0 q hu
    rw [show nx - 1 = q - 1 by omega]
    exact tkT_err _ _ hc (by decide)
  · have hs := tkU_stable l p n q (nx - 1) hu (by omega)
    exact tkT_cut _ _ hs (by omega) (by rw [List.length_take]; omega)
theorem tkT_stable (l : List UInt8) (p : Nat) (t : List UInt8) (nx k : Nat) (h : tkT l (p : Int) = (t, nx, 0)) (hk : nx ≤ k) : tkT (l.take k) (p : Int) = (t, nx, 0) := by
  obtain ⟨n, q, hu, hpq, hn, hnx, hle, ht, hl⟩ := tkT_inv l p t nx h
  have hs := tkU_stable l p n q k hu (by omega)
  rw [tkT_yes _ _ hs (by omega) (by rw [List.length_take]; omega), drop_take, List.take_take, show min n (k - q) = n by omega, ← ht, hnx]
theorem rdA_form (l : List UInt8) (k : Nat) : ∀ (acc : List (List UInt8)) (p : Nat) (ls : List (List UInt8)) (nx : Nat), p ≤ l.length → rdA l k acc p = (ls, nx, 0) →
    ∃ ls', ls = acc ++ ls' ∧ flatT ls' = (l.drop p).take (nx - p) ∧ ls'.length = k ∧ (∀ t ∈ ls', t.length ≤ 60000) ∧ p + k ≤ nx ∧ nx ≤ l.length := by
  induction k with
  | zero =>
    intro acc p ls nx hp h
    rw [rdA_zero] at h
    simp only [Prod.mk.injEq] at h
    exact ⟨[], by rw [← h.1]; simp, by rw [← h.2.1]; simp [flatT], rfl, by simp, by omega, by omega⟩
  | succ k ih =>
    intro acc p ls nx hp h
    by_cases he : (tkT l (p : Int)).2.2 = 0
    · obtain ⟨t, q, er, hT⟩ : ∃ t q er, tkT l (p : Int) = (t, q, er) := ⟨_, _, _, rfl⟩
      rw [hT] at he
      simp only at he
      subst he
      rw [rdA_yes _ _ _ _ (by rw [hT]), hT] at h
      obtain ⟨hf, ht, hpq, hql⟩ := tkT_form l p t q hT
      obtain ⟨ls', h1, h2, h3, h4, h5, h6⟩ := ih (acc ++ [t]) q ls nx hql h
      refine ⟨t :: ls', by rw [h1]; simp, ?_, by simp [h3], ?_, by omega, h6⟩
      · have e : flatT (t :: ls') = textL t ++ flatT ls' := by simp [flatT]
        rw [e, hf, h2, ← take_two l p q nx (by omega) (by omega)]
      · intro x hx
        rcases List.mem_cons.1 hx with rfl | hx
        · exact ht
        · exact h4 x hx
    · rw [rdA_no _ _ _ _ he] at h
      simp only [Prod.mk.injEq] at h
      exact absurd h.2.2 he
theorem rdA_cut (l : List UInt8) (k : Nat) : ∀ (acc : List (List UInt8)) (p : Nat) (ls : List (List UInt8)) (nx : Nat), p ≤ l.length → rdA l (k + 1) acc p = (ls, nx, 0) → rdA (l.take (nx - 1)) (k + 1) acc p = ([], 0, 10) := by
  induction k with
  | zero =>
    intro acc p ls nx hp h
    by_cases he : (tkT l (p : Int)).2.2 = 0
    · obtain ⟨t, q, er, hT⟩ : ∃ t q er, tkT l (p : Int) = (t, q, er) := ⟨_, _, _, rfl⟩
      rw [hT] at he
      simp only at he
      subst he
      rw [rdA_yes _ _ _ _ (by rw [hT]), hT, rdA_zero] at h
      simp only [Prod.mk.injEq] at h
      have hc := tkT_cutLast l p t q hT
      rw [← h.2.1, rdA_no _ _ _ _ (by rw [hc]; decide), hc]
    · rw [rdA_no _ _ _ _ he] at h
      simp only [Prod.mk.injEq] at h
      exact absurd h.2.2 he
  | succ k ih =>
    intro acc p ls nx hp h
    by_cases he : (tkT l (p : Int)).2.2 = 0
    · obtain ⟨t, q, er, hT⟩ : ∃ t q er, tkT l (p : Int) = (t, q, er) := ⟨_, _, _, rfl⟩
      rw [hT] at he
      simp only at he
      subst he
      rw [rdA_yes _ _ _ _ (by rw [hT]), hT] at h
      obtain ⟨hf, ht, hpq, hql⟩ := tkT_form l p t q hT
      obtain ⟨_, _, _, _, _, h5, _⟩ := rdA_form l (k + 1) _ q ls nx hql h
      have hs := tkT_stable l p t q (nx - 1) hT (by omega)
      rw [rdA_yes _ _ _ _ (by rw [hs]), hs]
      exact ih _ q ls nx hql h
    · rw [rdA_no _ _ _ _ he] at h
      simp only [Prod.mk.injEq] at h
      exact absurd h.2.2 he
theorem tkL_inv (l : List UInt8) (a : Int) (ls : List (List UInt8)) (nx : Nat) (h : tkL l a = (ls, nx, 0)) :
    ∃ n q : Nat, tkU l a = (n, q, 0) ∧ n ≤ 4000 ∧ rdA l n [] q = (ls, nx, 0) := by
  obtain ⟨n, q, er, hr⟩ := tup_split l a
  by_cases her : er = 0
  · subst her
    by_cases hlong : 4000 < n
    · rw [tkL_long _ _ hr hlong] at h; simp at h
    · rw [tkL_yes _ _ hr hlong] at h
      exact ⟨n, q, hr, by omega, h⟩
  · rw [tkL_err _ _ hr her] at h
    simp only [Prod.mk.injEq] at h
    exact absurd h.2.2 her
theorem tkL_form (l : List UInt8) (p : Nat) (ls : List (List UInt8)) (nx : Nat) (h : tkL l (p : Int) = (ls, nx, 0)) :
    listL ls = (l.drop p).take (nx - p) ∧ badL ls = false ∧ p < nx ∧ nx ≤ l.length := by
  obtain ⟨n, q, hu, hn, hA⟩ := tkL_inv l _ ls nx h
  have hq := tkU_next l (p : Int) (by rw [hu])
  rw [hu] at hq
  simp only at hq
  obtain ⟨ls', h1, h2, h3, h4, h5, h6⟩ := rdA_form l n [] q ls nx (by omega) hA
  have e : ls = ls' := by simpa using h1
  subst e
  refine ⟨?_, ?_, by omega, h6⟩
  · unfold listL
    rw [h3, tkU_form l p n q hu, h2, ← take_two l p q nx (by omega) (by omega)]
  · unfold badL
    rw [Bool.or_eq_false_iff, List.any_eq_false]
    refine ⟨by simp; omega, fun t ht => ?_⟩
    have := h4 t ht
    simp; omega
theorem tkL_cut (l : List UInt8) (p : Nat) (ls : List (List UInt8)) (nx : Nat) (h : tkL l (p : Int) = (ls, nx, 0)) : tkL (l.take (nx - 1)) (p : Int) = ([], 0, 10) := by
  obtain ⟨n, q, hu, hn, hA⟩ := tkL_inv l _ ls nx h
  have hq := tkU_next l (p : Int) (by rw [hu])
  rw [hu] at hq
  simp only at hq
  cases n with
  | zero =>
    rw [rdA_zero] at hA
    simp only [Prod.mk.injEq] at hA
    rw [← hA.2.1]
    exact tkL_err _ _ (tkU_cut l p 0 q hu) (by decide)
  | succ n =>
    obtain ⟨_, _, _, _, _, h5, _⟩ := rdA_form l (n + 1) [] q ls nx (by omega) hA
    rw [tkL_yes _ _ (tkU_stable l p (n + 1) q (nx - 1) hu (by omega)) (by omega)]
    exact rdA_cut l n [] q ls nx (by omega) hA
end Go.Proofs.Ytfbdhihhimfaaaa
