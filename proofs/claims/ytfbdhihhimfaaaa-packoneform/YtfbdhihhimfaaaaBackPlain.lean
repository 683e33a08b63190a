/- The plain mathematics of P1.1 and P1.2: what is written is read again; what is read, written again, is what was read. -/
import Derived.Test.YtfbdhihhimfaaaaReads
namespace Go.Proofs.Ytfbdhihhimfaaaa
open Go.RowKit

theorem ofNat_toNat (n : Nat) (h : n < 256) : (UInt8.ofNat n).toNat = n := UInt8.toNat_ofNat_of_lt' (by simpa using h)
theorem room_top (m : Nat) (h : room 9 m) : m ≤ 1 := by
  unfold room at h
  have e : (128 : Nat) ^ 9 = 9223372036854775808 := by decide
  rw [e] at h
  omega
theorem rd_uform (f i acc m : Nat) (rest : List UInt8) (hf : f + i = 9) (hr : room i m) (h0 : i = 0 ∨ m ≠ 0) :
    rd (f + 1) i acc (uform f m ++ rest) = (acc + m * 128 ^ i, i + (uform f m).length, 0) := by
  induction f generalizing i acc m with
  | zero =>
    have e : i = 9 := by omega
    subst e
    have h1 := room_top m hr
    rw [uform_small 0 m (by omega)]
    rw [List.cons_append, rd_yes _ _ _ _ _ (by rw [ofNat_toNat _ (by omega)]; omega) (by rw [ofNat_toNat _ (by omega)]; exact endB_yes 9 m (.inr ⟨by omega, .inr h1⟩)), ofNat_toNat _ (by omega)]
    rfl
  | succ f ih =>
    by_cases hm : m < 128
    · rw [uform_small _ m hm]
      rw [List.cons_append, rd_yes _ _ _ _ _ (by rw [ofNat_toNat _ (by omega)]; omega) (by rw [ofNat_toNat _ (by omega)]; exact endB_yes i m (by omega)), ofNat_toNat _ (by omega)]
      rfl
    · rw [uform_big f m (by omega), List.cons_append, rd_more _ _ _ _ _ (by rw [ofNat_toNat _ (by omega)]; omega), ofNat_toNat _ (by omega)]
      rw [ih (i + 1) _ (m / 128) (by omega) (room_step i m hr) (.inr (by omega))]
      have e1 : (128 + m % 128) % 128 = m % 128 := by omega
      have e2 : acc + m % 128 * 128 ^ i + m / 128 * 128 ^ (i + 1) = acc + m * 128 ^ i := by
        rw [Nat.pow_succ, Nat.mul_comm (128 ^ i) 128, ← Nat.mul_assoc, Nat.add_assoc, ← Nat.add_mul]
        congr 2
        omega
      rw [e1, e2]
      simp
      omega
theorem rd_back (n : Nat) (rest : List UInt8) (h : n < 18446744073709551616) : rd 10 0 0 (uintL n ++ rest) = (n, (uintL n).length, 0) := by
  have := rd_uform 9 0 0 n rest (by omega) (room_zero n h) (.inl rfl)
  simpa [uintL] using this
theorem tkU_back (pre rest : List UInt8) (n : Nat) (h : n < 18446744073709551616) : tkU (pre ++ (uintL n ++ rest)) (pre.length : Int) = (n, pre.length + (uintL n).length, 0) := by
  rw [tkU_in _ _ (by simp), List.drop_left, rd_back n rest h]
  rfl
theorem unfold_fold (i : Int) : unfoldN (foldN i) = i := by
  unfold unfoldN foldN
  by_cases h : 0 ≤ i
  · rw [if_pos h]
    split <;> omega
  · rw [if_neg h]
    split <;> omega
theorem tkI_back (pre rest : List UInt8) (i : Int) (h0 : -9223372036854775808 ≤ i) (h1 : i < 9223372036854775808) : tkI (pre ++ (uintL (foldN i) ++ rest)) (pre.length : Int) = (i, pre.length + (uintL (foldN i)).length, 0) := by
  unfold tkI
  rw [tkU_back pre rest _ (foldN_lt i h0 h1), unfold_fold]
theorem tkT_back (pre rest t : List UInt8) (h : t.length ≤ 60000) : tkT (pre ++ (textL t ++ rest)) (pre.length : Int) = (t, pre.length + (textL t).length, 0) := by
  have e : textL t = uintL t.length ++ t := by unfold textL; rw [if_pos h]
  rw [e, List.append_assoc]
  have hu := tkU_back pre (t ++ rest) t.length (by omega)
  rw [tkT_yes _ _ hu (by omega) (by simp; omega)]
  have e1 : (pre ++ (uintL t.length ++ (t ++ rest))).drop (pre.length + (uintL t.length).length) = t ++ rest := by
    rw [← List.append_assoc, show pre.length + (uintL t.length).length = (pre ++ uintL t.length).length by simp, List.drop_left]
  rw [e1, List.take_left]
  simp
  omega
theorem rdA_back (ls : List (List UInt8)) : ∀ (pre rest : List UInt8) (acc : List (List UInt8)), (∀ t ∈ ls, t.length ≤ 60000) →
    rdA (pre ++ (flatT ls ++ rest)) ls.length acc pre.length = (acc ++ ls, pre.length + (flatT ls).length, 0) := by
  induction ls with
  | nil => intro pre rest acc _; simp [rdA, flatT]
  | cons t ls ih =>
    intro pre rest acc h
    have e : flatT (t :: ls) = textL t ++ flatT ls := by simp [flatT]
    have ht := tkT_back pre (flatT ls ++ rest) t (h t (by simp))
    rw [e, List.append_assoc, List.length_cons, rdA_yes _ _ _ _ (by rw [ht]), ht]
    have := ih (pre ++ textL t) rest (acc ++ [t]) (fun x hx => h x (by simp [hx]))
    rw [List.append_assoc, List.length_append] at this
    rw [this]
    simp
    omega
theorem good_all (ls : List (List UInt8)) (h : badL ls = false) : ls.length ≤ 4000 ∧ ∀ t ∈ ls, t.length ≤ 60000 := by
  unfold badL at h
  rw [Bool.or_eq_false_iff, List.any_eq_false] at h
  refine ⟨by have := h.1; simp at this; omega, fun t ht => ?_⟩
  have := h.2 t ht
  simp at this
  omega
theorem tkL_back (pre rest : List UInt8) (ls : List (List UInt8)) (h : badL ls = false) : tkL (pre ++ (listL ls ++ rest)) (pre.length : Int) = (ls, pre.length + (listL ls).length, 0) := by
  obtain ⟨hl, ht⟩ := good_all ls h
  unfold listL
  rw [List.append_assoc]
  have hu := tkU_back pre (flatT ls ++ rest) ls.length (by omega)
  rw [tkL_yes _ _ hu (by omega)]
  have := rdA_back ls (pre ++ uintL ls.length) rest [] ht
  rw [List.append_assoc, List.length_append] at this
  rw [this]
  simp
  omega
end Go.Proofs.Ytfbdhihhimfaaaa
