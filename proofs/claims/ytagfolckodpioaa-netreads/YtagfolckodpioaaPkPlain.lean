/- The plain mathematics of package pack: the form of a number, what reading one gives, and how the two fit; nothing here names the program. -/
namespace Go.Proofs.Ytagfolckodpioaa

/-- The form of a number, with fuel: at most 'fuel + 1' groups. -/
def uform : Nat → Nat → List UInt8
  | 0, n => [UInt8.ofNat n]
  | f + 1, n => if n < 128 then [UInt8.ofNat n] else UInt8.ofNat (128 + n % 128) :: uform f (n / 128)
def uintL (n : Nat) : List UInt8 := uform 9 n

theorem uform_small (f n : Nat) (h : n < 128) : uform f n = [UInt8.ofNat n] := by
  cases f with
  | zero => rfl
  | succ f => simp [uform, h]
theorem uform_big (f n : Nat) (h : 128 ≤ n) : uform (f + 1) n = UInt8.ofNat (128 + n % 128) :: uform f (n / 128) := by
  simp [uform, Nat.not_lt.2 h]
theorem uform_len (f n : Nat) : (uform f n).length ≤ f + 1 ∧ 1 ≤ (uform f n).length := by
  induction f generalizing n with
  | zero => simp [uform]
  | succ f ih =>
    unfold uform
    split
    · simp
    · have := ih (n / 128); simp; omega
theorem uintL_len (n : Nat) : (uintL n).length ≤ 10 ∧ 1 ≤ (uintL n).length := uform_len 9 n

/-- The bound that the loop carries: behind k groups less than 2^64 / 128^k is left. -/
def room (k m : Nat) : Prop := m * 128 ^ k < 18446744073709551616
theorem room_zero (n : Nat) (h : n < 18446744073709551616) : room 0 n := by simpa [room] using h
theorem room_step (k m : Nat) (h : room k m) : room (k + 1) (m / 128) := by
  unfold room at *
  have h1 : m / 128 * 128 ≤ m := Nat.div_mul_le_self m 128
  have h2 : m / 128 * 128 * 128 ^ k ≤ m * 128 ^ k := Nat.mul_le_mul_right _ h1
  have h3 : m / 128 * 128 ^ (k + 1) = m / 128 * 128 * 128 ^ k := by rw [Nat.pow_succ, Nat.mul_comm (128 ^ k), Nat.mul_assoc]
  omega
theorem room_nine (k m : Nat) (h : room k m) (hm : 128 ≤ m) : k < 9 := by
  unfold room at h
  refine Nat.lt_of_not_le fun hk => ?_
  have h1 : 128 ^ 9 ≤ 128 ^ k := Nat.pow_le_pow_right (by decide) hk
  have h2 : 128 * 128 ^ 9 ≤ m * 128 ^ k := Nat.mul_le_mul hm h1
  have h3 : (128 : Nat) * 128 ^ 9 = 1180591620717411303424 := by decide
  omega
theorem room_le (k m : Nat) (h : room k m) : m < 18446744073709551616 := by
  unfold room at h
  have h1 : 1 ≤ 128 ^ k := Nat.pos_of_ne_zero (by simp)
  have h2 : m * 1 ≤ m * 128 ^ k := Nat.mul_le_mul_left m h1
  omega

/-- Whether a group may be a number's last one: it is the only one, or it is not 0 and, if it is the tenth, at most 1. -/
def endB (i : Nat) (b : Nat) : Bool := i == 0 || (b != 0 && (decide (i < 9) || decide (b ≤ 1)))
/-- Reading a number's groups: what it is, how many bytes, the error (0: none, 10: cut off, 11: no form). -/
def rd : Nat → Nat → Nat → List UInt8 → Nat × Nat × Nat
  | 0, _, _, _ => (0, 0, 11)
  | _ + 1, _, _, [] => (0, 0, 10)
  | f + 1, i, acc, b :: r => if b.toNat < 128 then (if endB i b.toNat = true then (acc + b.toNat * 128 ^ i, i + 1, 0) else (0, 0, 11)) else rd f (i + 1) (acc + b.toNat % 128 * 128 ^ i) r
def fin (a : Nat) (r : Nat × Nat × Nat) : Nat × Nat × Nat := if r.2.2 = 0 then (r.1, a + r.2.1, 0) else (0, 0, r.2.2)
/-- TakeUint. -/
def tkU (l : List UInt8) (a : Int) : Nat × Nat × Nat := if a < 0 ∨ (l.length : Int) < a then (0, 0, 1) else fin a.toNat (rd 10 0 0 (l.drop a.toNat))

theorem tkU_out (l : List UInt8) (a : Int) (h : a < 0 ∨ (l.length : Int) < a) : tkU l a = (0, 0, 1) := by simp [tkU, h]
theorem tkU_in (l : List UInt8) (a : Nat) (h : a ≤ l.length) : tkU l (a : Int) = fin a (rd 10 0 0 (l.drop a)) := by
  unfold tkU
  rw [if_neg (by omega)]
  simp
theorem rd_zero (i acc : Nat) (l : List UInt8) : rd 0 i acc l = (0, 0, 11) := rfl
theorem rd_nil (f i acc : Nat) : rd (f + 1) i acc [] = (0, 0, 10) := rfl
theorem rd_yes (f i acc : Nat) (b : UInt8) (r : List UInt8) (h : b.toNat < 128) (he : endB i b.toNat = true) : rd (f + 1) i acc (b :: r) = (acc + b.toNat * 128 ^ i, i + 1, 0) := by simp [rd, h, he]
theorem rd_no (f i acc : Nat) (b : UInt8) (r : List UInt8) (h : b.toNat < 128) (he : endB i b.toNat = false) : rd (f + 1) i acc (b :: r) = (0, 0, 11) := by simp [rd, h, he]
theorem rd_more (f i acc : Nat) (b : UInt8) (r : List UInt8) (h : ¬ b.toNat < 128) : rd (f + 1) i acc (b :: r) = rd f (i + 1) (acc + b.toNat % 128 * 128 ^ i) r := by simp [rd, h]

theorem p128 (i : Nat) : (128 : Nat) ^ i = 2 ^ (7 * i) := by rw [Nat.pow_mul]
theorem p128_le (i : Nat) (h : i ≤ 9) : (128 : Nat) ^ i ≤ 9223372036854775808 := by
  have := Nat.pow_le_pow_right (by decide : 0 < 128) h
  have e : (128 : Nat) ^ 9 = 9223372036854775808 := by decide
  omega
theorem acc_step (i acc b : Nat) (h : acc < 128 ^ i) : acc + b % 128 * 128 ^ i < 128 ^ (i + 1) := by
  have h1 : b % 128 ≤ 127 := by omega
  have h2 : b % 128 * 128 ^ i ≤ 127 * 128 ^ i := Nat.mul_le_mul_right _ h1
  have h3 : 128 ^ (i + 1) = 128 * 128 ^ i := by rw [Nat.pow_succ, Nat.mul_comm]
  omega
theorem or_add (i acc b : Nat) (h : acc < 128 ^ i) : acc ||| b * 128 ^ i = acc + b * 128 ^ i := by
  rw [p128] at *
  rw [Nat.mul_comm b, Nat.or_comm, ← Nat.two_pow_add_eq_or_of_lt h, Nat.add_comm]
/-- The sum at a step, below 2^64 where it is read. -/
theorem sum_lt (i acc b : Nat) (hi : i ≤ 9) (h : acc < 128 ^ i) (hb : i < 9 ∨ b ≤ 1) (hb2 : b < 128) : acc + b * 128 ^ i < 18446744073709551616 := by
  have h9 := p128_le i hi
  rcases hb with hb | hb
  · have h1 := acc_step i acc b h
    rw [Nat.mod_eq_of_lt hb2] at h1
    have h2 := p128_le (i + 1) (by omega)
    omega
  · have : b * 128 ^ i ≤ 1 * 128 ^ i := Nat.mul_le_mul_right _ hb
    omega
theorem endB_top (b : Nat) (h : endB 9 b = true) : b ≤ 1 := by
  simp [endB] at h; omega
end Go.Proofs.Ytagfolckodpioaa
