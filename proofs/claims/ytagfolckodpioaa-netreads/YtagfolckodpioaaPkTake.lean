import Derived.Test.YtagfolckodpioaaKit
import Derived.Test.YtagfolckodpioaaPkPlain
import Derived.WalkKit
import Derived.WalkSpells
import Derived.WalkLawsBesides
namespace Go.Proofs.Ytagfolckodpioaa
open Go.RowKit

set_option maxHeartbeats 400000 in
theorem ends_any (i b : Nat) (w : World) (hi : i ≤ 9) (hb : b < 256) :
    Calls Try.prog 97 #[.int .i64 (i : Int), .int .u8 (b : Int)] w fun e w' => e = .returned (.bool (endB i b)) ∧ w' = w := by
  by_cases h0 : i = 0
  · subst h0
    go_enter Try.func97, Try.ntmps97
    go_wp2
    go_ret
    exact ⟨rfl, rfl⟩
  · have h0' : ((i : Int) == 0) = false := by simp; omega
    by_cases hb0 : b = 0
    · subst hb0
      have e : endB i 0 = false := by simp [endB, h0]
      rw [e]
      go_enter Try.func97, Try.ntmps97
      go_wp2
      go_ret
      exact ⟨rfl, rfl⟩
    · have hb0' : ((b : Int) != 0) = true := by simp; omega
      by_cases h9 : i < 9
      · have e : endB i b = true := by simp [endB, hb0, h9]
        rw [e]
        have h9' : (i : Int) < 9 := by omega
        go_enter Try.func97, Try.ntmps97
        go_wp2
        go_ret
        exact ⟨rfl, rfl⟩
      · have h9' : ¬ (i : Int) < 9 := by omega
        have e : endB i b = decide (b ≤ 1) := by
          have h1 : (i == 0) = false := by simp; omega
          have h2 : (b != 0) = true := by simp; omega
          have h3 : decide (i < 9) = false := by simp; omega
          simp only [endB, h1, h2, h3, Bool.false_or, Bool.true_and]
        rw [e]
        by_cases h1 : b ≤ 1
        · have h1' : (b : Int) ≤ 1 := by omega
          go_enter Try.func97, Try.ntmps97
          go_wp2
          go_ret
          exact ⟨by simp, rfl⟩
        · have h1' : ¬ (b : Int) ≤ 1 := by omega
          go_enter Try.func97, Try.ntmps97
          go_wp2
          go_ret
          exact ⟨by simp, rfl⟩
theorem or64 (i acc b : Nat) (hi : i ≤ 9) (h : acc < 128 ^ i) (hb : i < 9 ∨ b ≤ 1) (hb2 : b < 128) :
    bits BinOp.or IntKind.u64 (acc : Int) (IntKind.u64.wrap ((b : Int) % 128 * 2 ^ (7 * i))) = ((acc + b * 128 ^ i : Nat) : Int) := by
  have h1 := sum_lt i acc b hi h hb hb2
  have h2 : b * 128 ^ i < 18446744073709551616 := by omega
  have e0 : ((b : Int) % 128 * 2 ^ (7 * i)) = ((b * 128 ^ i : Nat) : Int) := by
    rw [p128, Int.emod_eq_of_lt (by omega) (by omega)]
    push_cast
    rfl
  have e1 : IntKind.u64.wrap ((b * 128 ^ i : Nat) : Int) = ((b * 128 ^ i : Nat) : Int) := by
    rw [IntKind.wrap_u64]; omega
  rw [e0, e1, u64_or_nat acc (b * 128 ^ i) (by omega) h2, or_add i acc b h]
theorem or64b (i acc b : Nat) (hi : i < 9) (h : acc < 128 ^ i) :
    bits BinOp.or IntKind.u64 (acc : Int) (IntKind.u64.wrap ((b : Int) % 128 * 2 ^ (7 * i))) = ((acc + b % 128 * 128 ^ i : Nat) : Int) := by
  have h1 := or64 i acc (b % 128) (by omega) h (.inl hi) (by omega)
  have e : (((b % 128 : Nat) : Int) % 128) = (b : Int) % 128 := by omega
  rw [e] at h1
  exact h1
theorem end_or (i b : Nat) (hi : i ≤ 9) (h : endB i b = true) : i < 9 ∨ b ≤ 1 := by
  by_cases h9 : i < 9
  · exact .inl h9
  · have e : i = 9 := by omega
    subst e
    exact .inr (endB_top b h)
theorem drop_at (s : ByteArray) (k : Nat) (h : k < s.size) : s.data.toList.drop k = s[k] :: s.data.toList.drop (k + 1) := by
  rw [List.drop_eq_getElem_cons (by simpa using h)]
  rfl
def tup (r : Nat × Nat × Nat) : Ending := .returned (.tuple #[.int .u64 (r.1 : Int), .int .i64 (r.2.1 : Int), .int .i64 (r.2.2 : Int)])
theorem tup_eq (n a i : Nat) (x : Int) (hx : x = (a : Int) + i + 1) : Ending.returned (.tuple #[.int .u64 (n : Int), .int .i64 x, .int .i64 0]) = tup (fin a (n, i + 1, 0)) := by
  subst hx
  simp [tup, fin]
  omega
set_option maxHeartbeats 1000000 in
set_option maxRecDepth 100000 in
theorem take_in (s : ByteArray) (at0 : Nat) (w : World) (hs : s.size ≤ maxLen) (ha : at0 ≤ s.size) :
    Calls Try.prog 94 #[.string s, .int .i64 (at0 : Int)] w fun e w' => e = tup (tkU s.data.toList (at0 : Int)) ∧ w' = w := by
  unfold maxLen at hs
  rw [tkU_in _ _ (by simpa using ha)]
  have ha' : ¬ ((s.size : Int) < at0) := by omega
  go_enter Try.func94, Try.ntmps94
  go_wp2
  go_loop [1, 7, 18] (fun a x c => ∃ (i acc : Nat) (v : Int), i ≤ 10 ∧ at0 + i ≤ s.size ∧ a = .int .i64 ((at0 + i : Nat) : Int) ∧ x = .int .u64 v ∧ c = .int .i64 (i : Int) ∧ Hid (i ≤ 9 → v = acc ∧ acc < 128 ^ i) ∧ Hid (rd 10 0 0 (s.data.toList.drop at0) = rd (10 - i) i acc (s.data.toList.drop (at0 + i)))) (fun _ _ c => 10 - (Go.RowKit.intOf c).toNat)
  case atStart => exact ⟨0, 0, 0, by omega, by omega, rfl, rfl, rfl, fun _ => ⟨rfl, by simp⟩, rfl⟩
  case round =>
    obtain ⟨i, acc, v, hi, hai, rfl, rfl, rfl, Hv, Hq⟩ := hrel
    by_cases h10 : i < 10
    · have h10' : (i : Int) < 10 := by omega
      obtain ⟨rfl, hacc⟩ := Hv.out (by omega)
      clear Hv
      by_cases hend : at0 + i = s.size
      · have Hf : Hid (rd 10 0 0 (s.data.toList.drop at0) = (0, 0, 10)) := by
          show _ = _
          rw [Hq.out, show 10 - i = (9 - i) + 1 by omega, hend, List.drop_of_length_le (by simp), rd_nil]
        have hend' : (((at0 + i : Nat) : Int) == (s.size : Int)) = true := by simp; omega
        clear hend
        go_wp2
        go_ret3
        rw [Hf.out]
        exact ⟨rfl, rfl⟩
      · have hend' : (((at0 + i : Nat) : Int) == (s.size : Int)) = false := by simp; omega
        have hlt : at0 + i < s.size := by omega
        have Hq2 : Hid (rd 10 0 0 (s.data.toList.drop at0) = rd (9 - i + 1) i acc (s[at0 + i] :: s.data.toList.drop (at0 + i + 1))) := by
          show _ = _
          rw [Hq.out, ← drop_at s _ hlt, show 10 - i = 9 - i + 1 by omega]
        clear Hq
        go_wp2_with (go_at_call 97; refine (ends_any i s[at0 + i].toNat _ (by omega) (UInt8.toNat_lt _)).mono ?_; rintro e w' ⟨rfl, rfl⟩)
        · have hb : s[at0 + i].toNat < 128 := by have h : (s[at0 + i].toNat : Int) < 128 := by assumption
                                                 omega
          have he : (!endB i s[at0 + i].toNat) = true := by assumption
          go_ret3
          rw [Hq2.out, rd_no _ _ _ _ _ hb (by simpa using he)]
          exact ⟨rfl, rfl⟩
        · have hb : s[at0 + i].toNat < 128 := by have h : (s[at0 + i].toNat : Int) < 128 := by assumption
                                                 omega
          have he : (!endB i s[at0 + i].toNat) = false := by assumption
          have he2 : endB i s[at0 + i].toNat = true := by simpa using he
          go_ret3
          rw [Hq2.out, rd_yes _ _ _ _ _ hb he2, or64 i acc _ (by omega) hacc (end_or i _ (by omega) he2) hb]
          exact ⟨tup_eq _ _ _ _ (by omega), rfl⟩
        · have hb : ¬ s[at0 + i].toNat < 128 := by have h : 128 ≤ (s[at0 + i].toNat : Int) := by assumption
                                                   omega
          refine ⟨⟨i + 1, acc + s[at0 + i].toNat % 128 * 128 ^ i, _, by omega, by omega, by go_num, rfl, by go_num, ?_, ?_⟩, by simp [Go.RowKit.intOf]; omega⟩
          · intro h9
            refine ⟨?_, acc_step i acc _ hacc⟩
            exact or64b i acc _ (by omega) hacc
          · show _ = _
            rw [Hq2.out, rd_more _ _ _ _ _ hb, show 10 - (i + 1) = 9 - i by omega]
            rfl
    · have Hf : Hid (rd 10 0 0 (s.data.toList.drop at0) = (0, 0, 11)) := by
        show _ = _
        rw [Hq.out, show 10 - i = 0 by omega, rd_zero]
      have h10' : ¬ (i : Int) < 10 := by omega
      go_wp2
      go_ret3
      rw [Hf.out]
      exact ⟨rfl, rfl⟩
end Go.Proofs.Ytagfolckodpioaa
