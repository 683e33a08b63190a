/- The plain mathematics of package seal: the sum of a text as a linear map on numbers taken bit by bit; nothing here names the program. -/
namespace Go.Proofs.Ytagfolckodpioaa

def poly : Nat := 3988292384
def ones : Nat := 4294967295
/-- One step of the register: a bit falls out, and the register is taken against the polynomial if it was 1. -/
def stp (r : Nat) : Nat := (r / 2) ^^^ (if r % 2 = 1 then poly else 0)
def stps : Nat → Nat → Nat
  | 0, r => r
  | k + 1, r => stps k (stp r)

theorem poly_lt : poly < 2 ^ 32 := by decide
theorem xor_mod2 (a b : Nat) : (a ^^^ b) % 2 = (a % 2 + b % 2) % 2 := by
  have h := Nat.testBit_xor a b 0
  rw [Nat.testBit_zero, Nat.testBit_zero, Nat.testBit_zero] at h
  have hm := Nat.mod_lt (a ^^^ b) (show 2 > 0 by decide)
  generalize (a ^^^ b) % 2 = m at h hm ⊢
  have hm2 : m = 0 ∨ m = 1 := by omega
  rcases Nat.mod_two_eq_zero_or_one a with ha | ha <;> rcases Nat.mod_two_eq_zero_or_one b with hb | hb <;> rw [ha, hb] at h ⊢ <;> rcases hm2 with rfl | rfl <;> revert h <;> decide
theorem xor_div2 (a b : Nat) : (a ^^^ b) / 2 = a / 2 ^^^ b / 2 := Nat.xor_div_two
theorem xor4 (a b c d : Nat) : (a ^^^ b) ^^^ (c ^^^ d) = (a ^^^ c) ^^^ (b ^^^ d) := by
  rw [Nat.xor_assoc, Nat.xor_assoc, ← Nat.xor_assoc b, Nat.xor_comm b c, Nat.xor_assoc c]
theorem stp_xor (a b : Nat) : stp (a ^^^ b) = stp a ^^^ stp b := by
  unfold stp
  rw [xor_div2, xor4]
  congr 1
  have h := xor_mod2 a b
  rcases Nat.mod_two_eq_zero_or_one a with ha | ha <;> rcases Nat.mod_two_eq_zero_or_one b with hb | hb <;> rw [h, ha, hb] <;> simp
theorem stp_zero : stp 0 = 0 := rfl
theorem stps_zero (k : Nat) : stps k 0 = 0 := by
  induction k with
  | zero => rfl
  | succ k ih => unfold stps; rw [stp_zero, ih]
theorem stps_xor (k a b : Nat) : stps k (a ^^^ b) = stps k a ^^^ stps k b := by
  induction k generalizing a b with
  | zero => rfl
  | succ k ih => unfold stps; rw [stp_xor, ih]
theorem stps_add (j k a : Nat) : stps (j + k) a = stps k (stps j a) := by
  induction j generalizing a with
  | zero => rw [Nat.zero_add]; rfl
  | succ j ih => rw [Nat.succ_add]; show stps (j + k) (stp a) = _; rw [ih]; rfl
/-- A number shifted up by k falls back to itself in k steps. -/
theorem stp_two (a : Nat) : stp (a * 2) = a := by
  unfold stp
  rw [Nat.mul_div_cancel _ (by decide), if_neg (by omega)]
  simp
theorem stps_shift (k a : Nat) : stps k (a * 2 ^ k) = a := by
  induction k with
  | zero => simp [stps]
  | succ k ih => unfold stps; rw [Nat.pow_succ, ← Nat.mul_assoc, stp_two, ih]
theorem stp_lt (a : Nat) (h : a < 2 ^ 32) : stp a < 2 ^ 32 := by
  unfold stp
  refine Nat.xor_lt_two_pow (by omega) ?_
  split
  · exact poly_lt
  · decide
theorem stps_lt (k a : Nat) (h : a < 2 ^ 32) : stps k a < 2 ^ 32 := by
  induction k generalizing a with
  | zero => exact h
  | succ k ih => exact ih _ (stp_lt a h)
theorem xor_eq_zero' (a b : Nat) (h : a ^^^ b = 0) : a = b := by
  have := congrArg (· ^^^ b) h
  simpa [Nat.xor_assoc] using this
theorem stp_ne (a : Nat) (h : a < 2 ^ 32) (h0 : a ≠ 0) : stp a ≠ 0 := by
  intro hz
  unfold stp at hz
  split at hz
  · have := xor_eq_zero' _ _ hz
    have hp : poly = 3988292384 := rfl
    omega
  · rw [Nat.xor_zero] at hz
    omega
theorem stps_ne (k a : Nat) (h : a < 2 ^ 32) (h0 : a ≠ 0) : stps k a ≠ 0 := by
  induction k generalizing a with
  | zero => exact h0
  | succ k ih => exact ih _ (stp_lt a h) (stp_ne a h h0)

/-- A byte goes into the register. -/
def feed (r : Nat) (b : UInt8) : Nat := stps 8 (r ^^^ b.toNat)
def crc (r : Nat) (l : List UInt8) : Nat := l.foldl feed r
/-- The sum of a text. -/
def sumN (l : List UInt8) : Nat := crc ones l ^^^ ones
theorem ones_lt : ones < 2 ^ 32 := by decide
theorem byte_lt (b : UInt8) : b.toNat < 2 ^ 32 := by have := UInt8.toNat_lt b; omega
theorem feed_lt (r : Nat) (b : UInt8) (h : r < 2 ^ 32) : feed r b < 2 ^ 32 := stps_lt 8 _ (Nat.xor_lt_two_pow h (byte_lt b))
theorem crc_lt (l : List UInt8) (r : Nat) (h : r < 2 ^ 32) : crc r l < 2 ^ 32 := by
  induction l generalizing r with
  | nil => exact h
  | cons b l ih => exact ih _ (feed_lt r b h)
theorem sumN_lt (l : List UInt8) : sumN l < 2 ^ 32 := Nat.xor_lt_two_pow (crc_lt l _ ones_lt) ones_lt
theorem crc_cons (r : Nat) (b : UInt8) (l : List UInt8) : crc r (b :: l) = crc (feed r b) l := rfl
theorem crc_append (r : Nat) (l m : List UInt8) : crc r (l ++ m) = crc (crc r l) m := by simp [crc]
theorem crc_snoc (r : Nat) (l : List UInt8) (b : UInt8) : crc r (l ++ [b]) = feed (crc r l) b := by rw [crc_append]; rfl

/-- A text as one number, its first byte the lowest. -/
def num : List UInt8 → Nat
  | [] => 0
  | b :: l => b.toNat + 256 * num l
theorem low_xor (a b : Nat) (h : a < 256) : a + 256 * b = a ^^^ (b * 2 ^ 8) := by
  have h1 := Nat.two_pow_add_eq_or_of_lt (i := 8) h b
  have h2 : 2 ^ 8 * b ^^^ a = 2 ^ 8 * b ||| a := by
    apply Nat.eq_of_testBit_eq
    intro i
    rw [Nat.testBit_xor, Nat.testBit_or]
    by_cases hi : i < 8
    · have : (2 ^ 8 * b).testBit i = false := by rw [Nat.testBit_two_pow_mul]; simp; omega
      rw [this]; simp
    · have h8 : 2 ^ 8 ≤ 2 ^ i := Nat.pow_le_pow_right (by decide) (by omega)
      have : a.testBit i = false := Nat.testBit_lt_two_pow (Nat.lt_of_lt_of_le h h8)
      rw [this]; simp
  rw [Nat.mul_comm b, Nat.xor_comm, h2, ← h1]
  omega
/-- A text of m bytes goes into the register as its number in 8 m steps. -/
theorem crc_num (l : List UInt8) (r : Nat) : crc r l = stps (8 * l.length) (r ^^^ num l) := by
  induction l generalizing r with
  | nil => simp [crc, num, stps]
  | cons b l ih =>
    rw [crc_cons, ih, List.length_cons, show 8 * (l.length + 1) = 8 + 8 * l.length by omega, stps_add]
    congr 1
    show stps 8 (r ^^^ b.toNat) ^^^ num l = stps 8 (r ^^^ (b.toNat + 256 * num l))
    rw [low_xor _ _ (UInt8.toNat_lt b), ← Nat.xor_assoc, stps_xor 8 (r ^^^ b.toNat), stps_shift]
/-- Whatever is turned within 32 bits side by side changes the register. -/
theorem crc_turned (r : Nat) (s t : List UInt8) (a P : Nat) (hl : s.length = t.length) (hP : P < 2 ^ 32) (h0 : P ≠ 0) (ha : a ≤ 8 * s.length)
    (hx : num t = num s ^^^ (P * 2 ^ a)) : crc r s ≠ crc r t := by
  intro h
  have h1 : crc r s ^^^ crc r t = 0 := by rw [h, Nat.xor_self]
  rw [crc_num s, crc_num t, ← hl, hx, ← stps_xor, xor4, Nat.xor_self, Nat.zero_xor, ← Nat.xor_assoc, Nat.xor_self, Nat.zero_xor] at h1
  rw [show 8 * s.length = a + (8 * s.length - a) by omega, stps_add, stps_shift] at h1
  exact stps_ne _ P hP h0 h1
theorem xor_cancel (a b c : Nat) (h : a ^^^ c = b ^^^ c) : a = b := by
  have := congrArg (· ^^^ c) h
  simpa [Nat.xor_assoc] using this
theorem sum_turned (pre s t : List UInt8) (a P : Nat) (hl : s.length = t.length) (hP : P < 2 ^ 32) (h0 : P ≠ 0) (ha : a ≤ 8 * s.length)
    (hx : num t = num s ^^^ (P * 2 ^ a)) : sumN (pre ++ s) ≠ sumN (pre ++ t) := by
  intro h
  unfold sumN at h
  rw [crc_append, crc_append] at h
  exact crc_turned _ s t a P hl hP h0 ha hx (xor_cancel _ _ _ h)
/-- P2.4: the sums of three texts of one length. -/
theorem crc_three (a b c x : List UInt8) (r1 r2 r3 : Nat) (h1 : a.length = x.length) (h2 : b.length = x.length) (h3 : c.length = x.length)
    (h : num x = num a ^^^ num b ^^^ num c) : crc (r1 ^^^ r2 ^^^ r3) x = crc r1 a ^^^ crc r2 b ^^^ crc r3 c := by
  rw [crc_num, crc_num, crc_num, crc_num, h1, h2, h3, ← stps_xor, ← stps_xor, h]
  congr 1
  rw [xor4 r1 (num a) r2 (num b), xor4 (r1 ^^^ r2) (num a ^^^ num b) r3 (num c)]
theorem sum_three (a b c x : List UInt8) (h1 : a.length = x.length) (h2 : b.length = x.length) (h3 : c.length = x.length)
    (h : num x = num a ^^^ num b ^^^ num c) : sumN x = sumN a ^^^ sumN b ^^^ sumN c := by
  have hc := crc_three a b c x ones ones ones h1 h2 h3 h
  have e : ones ^^^ ones ^^^ ones = ones := by decide
  rw [e] at hc
  unfold sumN
  rw [hc, xor4 (crc ones a) ones (crc ones b) ones, xor4 (crc ones a ^^^ crc ones b) (ones ^^^ ones) (crc ones c) ones]
  congr 1
end Go.Proofs.Ytagfolckodpioaa
