import Derived.Test.YtfbdhihhimfaaaaTake
import Derived.Test.YtfbdhihhimfaaaaUint
namespace Go.Proofs.Ytfbdhihhimfaaaa
open Go.RowKit

set_option maxHeartbeats 400000 in
theorem take_out (s : ByteArray) (a : Int) (w : World) (_hs : s.size ≤ maxLen) (h : a < 0 ∨ (s.size : Int) < a) :
    Calls Try.prog 18 #[.string s, .int .i64 a] w fun e w' => e = tup (tkU s.data.toList a) ∧ w' = w := by
  unfold maxLen at _hs
  rw [tkU_out _ _ (by simpa using h)]
  by_cases h0 : a < 0
  · clear h
    go_enter Try.func18, Try.ntmps18
    go_wp2
    go_ret3
    exact ⟨rfl, rfl⟩
  · have h1 : (s.size : Int) < a := by omega
    clear h
    go_enter Try.func18, Try.ntmps18
    go_wp2
    go_ret3
    exact ⟨rfl, rfl⟩
theorem take_any (s : ByteArray) (a : Int) (w : World) (hs : s.size ≤ maxLen) :
    Calls Try.prog 18 #[.string s, .int .i64 a] w fun e w' => e = tup (tkU s.data.toList a) ∧ w' = w := by
  by_cases h : a < 0 ∨ (s.size : Int) < a
  · exact take_out s a w hs h
  · obtain ⟨k, rfl⟩ := Int.eq_ofNat_of_zero_le (show 0 ≤ a by omega)
    exact take_in s k w hs (by omega)
def foldN (n : Int) : Nat := if 0 ≤ n then (2 * n).toNat else (-2 * n - 1).toNat
def unfoldN (n : Nat) : Int := if n % 2 = 0 then ((n / 2 : Nat) : Int) else -((n / 2 : Nat) : Int) - 1
theorem foldN_lt (n : Int) (h0 : -9223372036854775808 ≤ n) (h1 : n < 9223372036854775808) : foldN n < 18446744073709551616 := by
  unfold foldN; split <;> omega
theorem ones64 : BitVec.ofInt 64 18446744073709551615 = BitVec.allOnes 64 := by decide
theorem ones64' : BitVec.ofInt 64 (-1) = BitVec.allOnes 64 := by decide
theorem zero64 : BitVec.ofInt 64 0 = 0#64 := by decide
theorem xor_u64_ones (a : Int) (h0 : 0 ≤ a) (h1 : a < 18446744073709551616) : bits BinOp.xor IntKind.u64 a 18446744073709551615 = 18446744073709551615 - a := by
  show IntKind.u64.wrap ((BitVec.ofInt 64 a ^^^ BitVec.ofInt 64 18446744073709551615).toNat : Nat) = _
  rw [ones64, BitVec.xor_allOnes, BitVec.toNat_not, BitVec.toNat_ofInt, IntKind.wrap_u64]
  omega
theorem xor_i64_ones (a : Int) (h0 : 0 ≤ a) (h1 : a < 9223372036854775808) : bits BinOp.xor IntKind.i64 a (-1) = -a - 1 := by
  show IntKind.i64.wrap ((BitVec.ofInt 64 a ^^^ BitVec.ofInt 64 (-1)).toNat : Nat) = _
  rw [ones64', BitVec.xor_allOnes, BitVec.toNat_not, BitVec.toNat_ofInt, IntKind.wrap_i64]
  omega
theorem xor_i64_zero (a : Int) (h0 : 0 ≤ a) (h1 : a < 9223372036854775808) : bits BinOp.xor IntKind.i64 a 0 = a := by
  show IntKind.i64.wrap ((BitVec.ofInt 64 a ^^^ BitVec.ofInt 64 0).toNat : Nat) = _
  rw [zero64, BitVec.xor_zero, BitVec.toNat_ofInt, IntKind.wrap_i64]
  omega
theorem xor_u64_zero (a : Int) (h0 : 0 ≤ a) (h1 : a < 18446744073709551616) : bits BinOp.xor IntKind.u64 a 0 = a := by
  show IntKind.u64.wrap ((BitVec.ofInt 64 a ^^^ BitVec.ofInt 64 0).toNat : Nat) = _
  rw [zero64, BitVec.xor_zero, BitVec.toNat_ofInt, IntKind.wrap_u64]
  omega
theorem fold_val (n : Int) (h0 : -9223372036854775808 ≤ n) (h1 : n < 9223372036854775808) :
    bits BinOp.xor IntKind.u64 (IntKind.u64.wrap (IntKind.u64.wrap n * 2)) (IntKind.u64.wrap (n / 9223372036854775808)) = (foldN n : Int) := by
  simp only [IntKind.wrap_u64]
  by_cases hn : 0 ≤ n
  · have e1 : n / 9223372036854775808 % 18446744073709551616 = 0 := by omega
    have e2 : n % 18446744073709551616 * 2 % 18446744073709551616 = 2 * n := by omega
    rw [e1, e2, xor_u64_zero _ (by omega) (by omega)]
    unfold foldN; rw [if_pos hn]; omega
  · have e1 : n / 9223372036854775808 % 18446744073709551616 = 18446744073709551615 := by omega
    have e2 : n % 18446744073709551616 * 2 % 18446744073709551616 = 2 * n + 18446744073709551616 := by omega
    rw [e1, e2, xor_u64_ones _ (by omega) (by omega)]
    unfold foldN; rw [if_neg hn]; omega
theorem and_one (n : Nat) (h1 : n < 18446744073709551616) : bits BinOp.and IntKind.u64 (n : Int) 1 = ((n % 2 : Nat) : Int) := by
  have := u64_and_nat n 1 h1 (by decide)
  rw [Nat.and_one_is_mod] at this
  exact this
theorem unfold_val (n : Nat) (h1 : n < 18446744073709551616) :
    bits BinOp.xor IntKind.i64 ((n : Int) / 2) (wrap64 (-wrap64 (bits BinOp.and IntKind.u64 (n : Int) 1))) = unfoldN n := by
  rw [and_one n h1]
  unfold unfoldN
  rcases Nat.mod_two_eq_zero_or_one n with h | h
  · rw [h, if_pos rfl]
    have e : wrap64 (-wrap64 ((0 : Nat) : Int)) = 0 := by decide +kernel
    rw [e, xor_i64_zero _ (by omega) (by omega)]
    omega
  · rw [h, if_neg (by decide)]
    have e : wrap64 (-wrap64 ((1 : Nat) : Int)) = -1 := by decide +kernel
    rw [e, xor_i64_ones _ (by omega) (by omega)]
    omega
set_option maxHeartbeats 400000 in
theorem fold_any (n : Int) (w : World) (h0 : -9223372036854775808 ≤ n) (h1 : n < 9223372036854775808) :
    Calls Try.prog 28 #[.int .i64 n] w fun e w' => e = .returned (.int .u64 (foldN n : Int)) ∧ w' = w := by
  have Hf : Hid (_ = _) := fold_val n h0 h1
  go_enter Try.func28, Try.ntmps28
  go_wp2
  go_ret
  rw [Hf.out]
  exact ⟨rfl, rfl⟩
set_option maxHeartbeats 400000 in
theorem unfold_any (n : Nat) (w : World) (h1 : n < 18446744073709551616) :
    Calls Try.prog 30 #[.int .u64 (n : Int)] w fun e w' => e = .returned (.int .i64 (unfoldN n)) ∧ w' = w := by
  have Hf : Hid (_ = _) := unfold_val n h1
  go_enter Try.func30, Try.ntmps30
  go_wp2
  go_ret
  rw [Hf.out]
  exact ⟨rfl, rfl⟩
set_option maxHeartbeats 400000 in
theorem int_any (n : Int) (w : World) (h0 : -9223372036854775808 ≤ n) (h1 : n < 9223372036854775808) :
    Calls Try.prog 15 #[.int .i64 n] w fun e w' => e = .returned (.string ⟨(uintL (foldN n)).toArray⟩) ∧ Below w.heap.size w w' := by
  have hl := foldN_lt n h0 h1
  go_enter Try.func15, Try.ntmps15
  go_wp2_with fail
  refine (fold_any n _ h0 h1).mono ?_
  rintro e w' ⟨rfl, rfl⟩
  go_wp2_with fail
  refine (uint_any _ _ hl).mono ?_
  rintro e w1 ⟨rfl, hb⟩
  go_wp2
  go_ret
  exact ⟨rfl, hb⟩
def tkI (l : List UInt8) (a : Int) : Int × Nat × Nat := (unfoldN (tkU l a).1, (tkU l a).2.1, (tkU l a).2.2)
def tupI (r : Int × Nat × Nat) : Ending := .returned (.tuple #[.int .i64 r.1, .int .i64 (r.2.1 : Int), .int .i64 (r.2.2 : Int)])
theorem rd_lt (f i acc : Nat) (l : List UInt8) (hf : f + i = 10) (ha : i ≤ 9 → acc < 128 ^ i) : (rd f i acc l).1 < 18446744073709551616 := by
  induction f generalizing i acc l with
  | zero => simp [rd]
  | succ f ih =>
    cases l with
    | nil => simp [rd]
    | cons b r =>
      unfold rd
      split
      · rename_i hb
        split
        · rename_i he
          exact sum_lt i acc _ (by omega) (ha (by omega)) (end_or i _ (by omega) he) hb
        · simp
      · refine ih (i + 1) _ r (by omega) fun h9 => acc_step i acc _ (ha (by omega))
theorem tkU_lt (l : List UInt8) (a : Int) : (tkU l a).1 < 18446744073709551616 := by
  unfold tkU
  split
  · simp
  · unfold fin
    split
    · exact rd_lt 10 0 0 _ rfl (by simp)
    · simp
set_option maxHeartbeats 400000 in
theorem takeInt_any (s : ByteArray) (a : Int) (w : World) (hs : s.size ≤ maxLen) :
    Calls Try.prog 20 #[.string s, .int .i64 a] w fun e w' => e = tupI (tkI s.data.toList a) ∧ w' = w := by
  have hl := tkU_lt s.data.toList a
  go_enter Try.func20, Try.ntmps20
  go_wp2_with fail
  refine (take_any s a _ hs).mono ?_
  rintro e w' ⟨rfl, rfl⟩
  unfold tup
  go_wp2_with fail
  refine (unfold_any _ _ hl).mono ?_
  rintro e w1 ⟨rfl, rfl⟩
  go_wp2
  go_ret3
  exact ⟨rfl, rfl⟩
end Go.Proofs.Ytfbdhihhimfaaaa
