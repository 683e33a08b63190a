/- Frames: what is framed is unframed; cut, or with more behind it, it is no message. -/
import Derived.Test.YtagfolckodpioaaTrip
namespace Go.Proofs.Ytagfolckodpioaa
open Go.RowKit

theorem numL_word (n : Nat) (h : n < 4294967296) : numL (wordL n) = n := by
  unfold numL wordL
  simp only [List.foldl_cons, List.foldl_nil]
  rw [ofNat_toNat _ (by omega), ofNat_toNat _ (by omega), ofNat_toNat _ (by omega), ofNat_toNat _ (by omega)]
  omega
theorem frame_take4 (t more : List UInt8) : ((frameL t ++ more).drop 0).take 4 = wordL t.length := by
  unfold frameL
  rw [List.drop_zero]
  simp [wordL]
theorem frame_sum (t more : List UInt8) : (((frameL t ++ more).drop 0).drop 4).take 4 = wordL (sumN (wordL t.length ++ t)) := by
  unfold frameL
  rw [List.drop_zero]
  simp [wordL]
theorem frame_text (t more : List UInt8) : (frameL t ++ more).drop (0 + 8) = t ++ more := by
  unfold frameL
  simp [wordL]
theorem unf_frame (t more : List UInt8) (h : t.length ≤ 70000) : unf (frameL t ++ more) 0 = (t, (frameL t).length, 0) := by
  unfold unf
  have hl := frameL_len t
  rw [frame_take4, frame_sum, frame_text, numL_word _ (by omega), numL_word _ (sumN_lt' _)]
  rw [if_neg (by rw [List.length_append]; omega), if_neg (by omega), if_neg (by rw [List.length_append]; omega)]
  rw [List.take_left]
  simp [hl]
theorem may_with (m : MsgV) (l : List EntV) (hn : m.en = l.length) : mayB (withE (withE m none 0 0) none l.length 0) l = mayB m l := by
  obtain ⟨kind, frm, dst, term, pi, pt, ea, en, ec, commit, ok, mtch, si, st, text⟩ := m
  simp only at hn
  subst hn
  rfl
/-- P5.1: what is written is read. -/
theorem dec_enc (m : MsgV) (l : List EntV) (hn : m.en = l.length) (h : mayB m l = true) : decL (frameL (bodyL m l)) = some (withE m none 0 0, l) := by
  have hb := (mayB_ok m l hn h).2
  have hu := unf_frame (bodyL m l) [] hb
  rw [List.append_nil] at hu
  unfold decL
  rw [hu]
  rw [if_pos ⟨rfl, Nat.le_refl _⟩]
  unfold msgIn
  rw [trip m l hn h]
  rw [if_pos ⟨rfl, Nat.le_refl _⟩]
  simp only [Option.bind_some, may_with m l hn, h, if_true]
/-- P5.2: with more behind it, it is none. -/
theorem dec_more (t more : List UInt8) (h : t.length ≤ 70000) (hm : more ≠ []) : decL (frameL t ++ more) = none := by
  unfold decL
  rw [unf_frame t more h]
  have : 0 < more.length := List.length_pos_iff.2 hm
  rw [if_neg (by simp only [List.length_append]; omega)]
/-- P5.2: cut, it is none. -/
theorem dec_cut (t : List UInt8) (a : Nat) (h : t.length ≤ 70000) (ha : a < (frameL t).length) : decL ((frameL t).take a) = none := by
  have hl := frameL_len t
  have hla : ((frameL t).take a).length = a := by rw [List.length_take]; omega
  have : (unf ((frameL t).take a) 0).2.2 ≠ 0 := by
    unfold unf
    rw [hla]
    by_cases h8 : a < 0 + 8
    · rw [if_pos h8]; simp
    · rw [if_neg h8]
      have h4 : (((frameL t).take a).drop 0).take 4 = wordL t.length := by
        have := frame_take4 t []
        rw [List.append_nil, List.drop_zero] at this
        rw [List.drop_zero, List.take_take, Nat.min_eq_left (by omega), this]
      rw [h4, numL_word _ (by omega), if_neg (by omega), if_pos (by omega)]
      simp
  unfold decL
  rw [if_neg (fun hh => this hh.1)]
theorem numL_inj (l k : List UInt8) (hl : l.length = 4) (hk : k.length = 4) (h : numL l = numL k) : l = k := by
  match l, k, hl, hk with
  | [a, b, c, d], [a', b', c', d'], _, _ =>
    have := UInt8.toNat_lt a; have := UInt8.toNat_lt b; have := UInt8.toNat_lt c; have := UInt8.toNat_lt d
    have := UInt8.toNat_lt a'; have := UInt8.toNat_lt b'; have := UInt8.toNat_lt c'; have := UInt8.toNat_lt d'
    simp only [numL, List.foldl_cons, List.foldl_nil] at h
    have e1 : a = a' := UInt8.toNat_inj.1 (by omega)
    have e2 : b = b' := UInt8.toNat_inj.1 (by omega)
    have e3 : c = c' := UInt8.toNat_inj.1 (by omega)
    have e4 : d = d' := UInt8.toNat_inj.1 (by omega)
    rw [e1, e2, e3, e4]
theorem set_ne (l : List UInt8) (i : Nat) (v : UInt8) (h : i < l.length) (hv : v ≠ l[i]) : l.set i v ≠ l := by
  intro e
  have : (l.set i v)[i]? = l[i]? := by rw [e]
  rw [List.getElem?_set_self h, List.getElem?_eq_getElem h] at this
  exact hv (Option.some.inj this)
theorem num_set (l : List UInt8) (j : Nat) (v : UInt8) (h : j < l.length) : num (l.set j v) = num l ^^^ (((l[j]).toNat ^^^ v.toNat) * 2 ^ (8 * j)) := by
  induction l generalizing j with
  | nil => simp at h
  | cons b l ih =>
    cases j with
    | zero =>
      simp only [List.set_cons_zero, num, List.getElem_cons_zero]
      rw [low_xor _ _ (UInt8.toNat_lt v), low_xor _ _ (UInt8.toNat_lt b), Nat.mul_zero, Nat.pow_zero, Nat.mul_one]
      rw [Nat.xor_comm b.toNat (num l * 2 ^ 8), Nat.xor_assoc, ← Nat.xor_assoc b.toNat, Nat.xor_self, Nat.zero_xor, Nat.xor_comm]
    | succ j =>
      have i1 := ih j (by simpa using h)
      simp only [List.set_cons_succ, num, List.getElem_cons_succ]
      rw [i1, low_xor _ _ (UInt8.toNat_lt b), low_xor _ _ (UInt8.toNat_lt b), Nat.xor_assoc]
      congr 1
      rw [← Nat.shiftLeft_eq, Nat.shiftLeft_xor_distrib, Nat.shiftLeft_eq, Nat.shiftLeft_eq, Nat.mul_assoc, ← Nat.pow_add]
      rfl
theorem sum_set (pre t : List UInt8) (j : Nat) (v : UInt8) (h : j < t.length) (hv : v ≠ t[j]) : sumN (pre ++ t) ≠ sumN (pre ++ t.set j v) := by
  refine sum_turned pre t (t.set j v) (8 * j) ((t[j]).toNat ^^^ v.toNat) (by simp) ?_ ?_ (by omega) (num_set t j v h)
  · exact Nat.xor_lt_two_pow (by have := UInt8.toNat_lt t[j]; omega) (by have := UInt8.toNat_lt v; omega)
  · intro e
    have := xor_eq_zero' _ _ e
    exact hv (UInt8.toNat_inj.1 this.symm)
theorem unf_parts (A S T : List UInt8) (hA : A.length = 4) (hS : S.length = 4) : unf (A ++ S ++ T) 0 =
    if 70000 < numL A then ([], 0, 22) else if T.length < numL A then ([], 0, 20) else if numL S ≠ sumN (A ++ T.take (numL A)) then ([], 0, 21) else (T.take (numL A), 8 + numL A, 0) := by
  have e1 : ((A ++ S ++ T).drop 0).take 4 = A := by rw [List.drop_zero, List.append_assoc, ← hA, List.take_left]
  have e2 : (((A ++ S ++ T).drop 0).drop 4).take 4 = S := by rw [List.drop_zero, List.append_assoc, ← hA, List.drop_left, hA, ← hS, List.take_left]
  have e3 : (A ++ S ++ T).drop (0 + 8) = T := by rw [show 0 + 8 = (A ++ S).length by simp [hA, hS], List.drop_left]
  unfold unf
  rw [e1, e2, e3]
  have hl : (A ++ S ++ T).length = 8 + T.length := by simp [hA, hS]; omega
  rw [hl, if_neg (by omega)]
  by_cases h1 : 70000 < numL A
  · rw [if_pos h1, if_pos h1]
  rw [if_neg h1, if_neg h1]
  by_cases h2 : T.length < numL A
  · rw [if_pos h2, if_pos (by omega)]
  rw [if_neg h2, if_neg (by omega)]
/-- P5.2: turned in one byte, it is none. -/
theorem dec_turned (t : List UInt8) (a : Nat) (v : UInt8) (h : t.length ≤ 70000) (ha : a < (frameL t).length) (hv : v ≠ (frameL t)[a]) : decL ((frameL t).set a v) = none := by
  have hl := frameL_len t
  have hlen : ((frameL t).set a v).length = 8 + t.length := by simp [hl]
  have key : ¬ ((unf ((frameL t).set a v) 0).2.2 = 0 ∧ ((frameL t).set a v).length ≤ (unf ((frameL t).set a v) 0).2.1) := by
    rw [hlen]
    have hw := wordL_len t.length
    have hw2 := wordL_len (sumN (wordL t.length ++ t))
    by_cases h4 : a < 4
    · have e : (frameL t).set a v = (wordL t.length).set a v ++ wordL (sumN (wordL t.length ++ t)) ++ t := by
        unfold frameL
        rw [List.append_assoc, List.set_append_left _ _ (by omega), ← List.append_assoc]
      have hv2 : v ≠ (wordL t.length)[a]'(by omega) := by
        intro hh
        apply hv
        rw [hh]
        simp only [frameL]
        rw [List.getElem_append_left (by simp [hw]; omega), List.getElem_append_left (by omega)]
      have hne : numL ((wordL t.length).set a v) ≠ t.length := by
        intro hh
        have := numL_inj ((wordL t.length).set a v) (wordL t.length) (by simp [hw]) hw (by rw [hh, numL_word _ (by omega)])
        exact set_ne _ _ _ (by omega) hv2 this
      rw [e, unf_parts _ _ _ (by simp [hw]) hw2]
      generalize numL ((wordL t.length).set a v) = n at *
      intro hh
      by_cases h1 : 70000 < n
      · rw [if_pos h1] at hh; simp at hh
      rw [if_neg h1] at hh
      by_cases h2 : t.length < n
      · rw [if_pos h2] at hh; simp at hh
      rw [if_neg h2] at hh
      split at hh
      · simp at hh
      · simp only at hh
        omega
    · by_cases h8 : a < 8
      · have e : (frameL t).set a v = wordL t.length ++ (wordL (sumN (wordL t.length ++ t))).set (a - 4) v ++ t := by
          unfold frameL
          rw [List.append_assoc, List.set_append_right _ _ (by omega), List.set_append_left _ _ (by omega), ← List.append_assoc, hw]
        have hv2 : v ≠ (wordL (sumN (wordL t.length ++ t)))[a - 4]'(by omega) := by
          intro hh
          apply hv
          rw [hh]
          simp only [frameL]
          rw [List.getElem_append_left (by simp [hw, hw2]; omega), List.getElem_append_right (by omega)]
          simp only [hw]
        have hne : numL ((wordL (sumN (wordL t.length ++ t))).set (a - 4) v) ≠ sumN (wordL t.length ++ t) := by
          intro hh
          have := numL_inj ((wordL (sumN (wordL t.length ++ t))).set (a - 4) v) _ (by simp [hw2]) hw2 (by rw [hh, numL_word _ (sumN_lt' _)])
          exact set_ne _ _ _ (by omega) hv2 this
        rw [e, unf_parts _ _ _ hw (by simp [hw2]), numL_word _ (by omega), if_neg (by omega), if_neg (by omega), List.take_of_length_le (Nat.le_refl _), if_pos hne]
        simp
      · have e : (frameL t).set a v = wordL t.length ++ wordL (sumN (wordL t.length ++ t)) ++ t.set (a - 8) v := by
          unfold frameL
          rw [List.set_append_right _ _ (by simp [hw, hw2]; omega)]
          simp [hw, hw2]
        have hv2 : v ≠ t[a - 8]'(by omega) := by
          intro hh
          apply hv
          rw [hh]
          simp only [frameL]
          rw [List.getElem_append_right (by simp [hw, hw2]; omega)]
          simp [hw, hw2]
        have hne := sum_set (wordL t.length) t (a - 8) v (by omega) hv2
        rw [e, unf_parts _ _ _ hw hw2, numL_word _ (by omega), numL_word _ (sumN_lt' _), if_neg (by omega), if_neg (by simp), List.take_of_length_le (by simp), if_pos hne]
        simp
  unfold decL
  rw [if_neg key]
end Go.Proofs.Ytagfolckodpioaa
