/- What the document's own Sum, four and Frame answer: the same as package seal's. -/
import Derived.Test.YtagfolckodpioaaSeFrame
namespace Go.Proofs.Ytagfolckodpioaa
open Go.RowKit

theorem bit_step (q c : Nat) : (stp (q ^^^ c)) = (q / 2 ^^^ (if q % 2 = c % 2 then 0 else poly)) ^^^ (c / 2) := by
  unfold stp
  rw [xor_div2, xor_mod2]
  have h1 := Nat.mod_two_eq_zero_or_one q
  have h2 := Nat.mod_two_eq_zero_or_one c
  have e : (q / 2 ^^^ c / 2) ^^^ poly = (q / 2 ^^^ poly) ^^^ c / 2 := by rw [Nat.xor_assoc, Nat.xor_comm (c / 2) poly, ← Nat.xor_assoc]
  rcases h1 with h1 | h1 <;> rcases h2 with h2 | h2 <;> rw [h1, h2] <;> simp [e]
theorem stps_snoc (k a : Nat) : stps (k + 1) a = stp (stps k a) := stps_add k 1 a
theorem half_lt (q : Nat) (h : q < 4294967296) : q / 2 ^^^ poly < 4294967296 := Nat.xor_lt_two_pow (n := 32) (by omega) (by decide)
set_option maxHeartbeats 4000000 in
set_option maxRecDepth 100000 in
theorem refSum_any (s : ByteArray) (w : World) (hs : s.size ≤ 9223372036854775807) :
    Calls Try.prog 41 #[.string s] w fun e w' => e = .returned (.int .u32 (sumN s.data.toList : Nat)) ∧ w' = w := by
  go_enter Try.func41, Try.ntmps41
  go_wp2
  go_loopw [3, 4] (fun x i wr => ∃ (n m : Nat), i = .int .i64 (n : Int) ∧ x = .int .u32 (m : Int) ∧ n ≤ s.size ∧ m < 4294967296 ∧ Hid (m = crc ones (s.data.toList.take n)) ∧ wr = w) (fun _ i _ => (s.size - Go.RowKit.intOf i).toNat)
  case atStart => exact ⟨0, 4294967295, rfl, rfl, by omega, by omega, by simp [Hid, crc, ones], rfl⟩
  case round =>
    obtain ⟨n, m, rfl, rfl, hn, hm, Hm, rfl⟩ := hrel
    by_cases hlt : n < s.size
    · have hlt' : (n : Int) < s.size := by omega
      have hbl := UInt8.toNat_lt s[n]
      have Hn : Hid (stps 8 (m ^^^ s[n].toNat) = crc ones (s.data.toList.take (n + 1))) := by
        show _ = _
        rw [crc_take ones s n hlt, ← Hm.out]; rfl
      have hfl : stps 8 (m ^^^ s[n].toNat) < 4294967296 := feed_lt' m s[n] hm
      have Hfl := hideIt hfl
      have hb1 : (s[n].toNat : Int) % 4294967296 = (s[n].toNat : Int) := by omega
      clear hfl
      go_wp2
      go_loop [3, 5, 6] (fun x b k => ∃ (j q c : Nat), k = .int .i64 (j : Int) ∧ x = .int .u32 (q : Int) ∧ b = .int .u32 (c : Int) ∧ j ≤ 8 ∧ q < 4294967296 ∧ c < 256 ∧ Hid (q ^^^ c = stps j (m ^^^ s[n].toNat) ∧ c < 2 ^ (8 - j))) (fun _ _ k => (8 - Go.RowKit.intOf k).toNat)
      case atStart => exact ⟨0, m, s[n].toNat, rfl, rfl, by simp, by omega, hm, by omega, rfl, by omega⟩
      case round =>
        obtain ⟨j, q, c, rfl, rfl, rfl, hj, hq, hc, Hq⟩ := hrel
        by_cases hj8 : j < 8
        · have hj8' : (j : Int) < 8 := by omega
          have hst := bit_step q c
          have hx := xorp_u32 (q / 2) (by omega)
          have hql := half_lt q hq
          have hc2 : c / 2 < 2 ^ (8 - (j + 1)) := by
            have := Hq.out.2
            rw [show 8 - j = (8 - (j + 1)) + 1 by omega, Nat.pow_succ] at this
            omega
          have HC2 := hideIt hc2
          clear hc2
          by_cases hu : q % 2 = c % 2
          · have hu' : (((q : Int) % 2) != ((c : Int) % 2)) = false := by simp; omega
            rw [if_pos hu, Nat.xor_zero] at hst
            have Hst := hideIt hst
            clear hst hu
            go_wp2
            refine ⟨⟨j + 1, q / 2, c / 2, by go_num, by go_num, by go_num, by omega, by omega, by omega, ?_, HC2.out⟩, by simp [Go.RowKit.intOf]; omega⟩
            rw [stps_snoc, ← Hq.out.1, Hst.out]
          · have hu' : (((q : Int) % 2) != ((c : Int) % 2)) = true := by simp; omega
            rw [if_neg hu] at hst
            have Hst := hideIt hst
            clear hst hu
            go_wp2
            refine ⟨⟨j + 1, q / 2 ^^^ poly, c / 2, by go_num, by simp_all, by go_num, by omega, by omega, by omega, ?_, HC2.out⟩, by simp [Go.RowKit.intOf]; omega⟩
            rw [stps_snoc, ← Hq.out.1, Hst.out]
        · have hj8' : ¬ (j : Int) < 8 := by omega
          obtain rfl : j = 8 := by omega
          have h8 := Hq.out
          have hc0 : c = 0 := by have := h8.2; simp at this; omega
          rw [hc0, Nat.xor_zero] at h8
          have H8 := hideIt h8.1
          clear h8 hc0 Hq
          go_wp2
          go_roundw
          case rel => exact ⟨n + 1, q, by go_num, rfl, by omega, hq, by show _ = _; rw [H8.out, Hn.out], trivial⟩
          case measure => simp [Go.RowKit.intOf]; omega
    · have hlt' : ¬ (n : Int) < s.size := by omega
      have Hn : Hid (m = crc ones s.data.toList) := by
        show _ = _
        rw [Hm.out, List.take_of_length_le (by simp; omega)]
      have hxo : bits BinOp.xor IntKind.u32 (m : Int) 4294967295 = ((m ^^^ ones : Nat) : Int) := u32_xor_nat m 4294967295 hm (by decide)
      clear Hm
      go_wp2
      go_ret
      exact ⟨by unfold sumN; rw [← Hn.out]; rfl, rfl⟩
set_option maxHeartbeats 1000000 in
set_option maxRecDepth 100000 in
theorem four_any (n : Nat) (w : World) (h : n < 4294967296) :
    Calls Try.prog 40 #[.int .u32 n] w fun e w' => e = .returned (.string ⟨(wordL n).toArray⟩) ∧ Below w.heap.size w w' := by
  have hc := conv_fresh w (wordL n) _ 4 rfl (word_cells n h)
  go_enter Try.func40, Try.ntmps40
  go_wp2
  go_ret
  exact ⟨rfl, (Below.refl _ _).alloc (Nat.le_refl _) _⟩
theorem frame_max (l : List UInt8) (h : l.length ≤ 70000) : (frameL l).length ≤ 70008 := by rw [frameL_len]; omega
/-- What the document's Frame answers. -/
def frmL (l : List UInt8) : List UInt8 := if l.length ≤ 70000 then frameL l else []
def frmE (l : List UInt8) : Nat := if l.length ≤ 70000 then 0 else 2
set_option maxHeartbeats 1000000 in
set_option maxRecDepth 100000 in
theorem refFrame_any (s : ByteArray) (w : World) :
    Calls Try.prog 13 #[.string s] w fun e w' => e = .returned (.tuple #[.string ⟨(frmL s.data.toList).toArray⟩, .int .i64 (frmE s.data.toList : Nat)]) ∧ Below w.heap.size w w' := by
  have hsl : s.data.toList.length = s.size := by simp
  unfold frmL frmE
  rw [hsl]
  by_cases hs : s.size ≤ 70000
  · rw [if_pos hs, if_pos hs]
    have h' : ¬ ((70000 : Int) < s.size) := by omega
    have hw := wordL_len s.size
    have hcat0 : ¬ 9223372036854775807 < 4 + s.size := by omega
    have hcat : ¬ 9223372036854775807 < 4 + 4 + s.size := by omega
    have hcat2 : ¬ 9223372036854775807 < 8 + s.size := by omega
    have hw2 := wordL_len (sumN (wordL s.size ++ s.data.toList))
    have e0 : (⟨(wordL s.size).toArray⟩ : ByteArray) ++ s = ⟨(wordL s.size ++ s.data.toList).toArray⟩ := cat_eq _ s
    have hm : (⟨(wordL s.size ++ s.data.toList).toArray⟩ : ByteArray).size ≤ 9223372036854775807 := by
      show (wordL s.size ++ s.data.toList).toArray.size ≤ _
      simp [wordL_len]; omega
    have HS := hideIt (fun W => refSum_any ⟨(wordL s.size ++ s.data.toList).toArray⟩ W hm)
    have hsum := sumN_lt' (wordL s.size ++ s.data.toList)
    have HF := hideIt (fun W => four_any _ W hsum)
    have Hx : Hid (frameL s.data.toList = wordL s.size ++ wordL (sumN (wordL s.size ++ s.data.toList)) ++ s.data.toList) := by show _ = _; unfold frameL; rw [hsl]
    rw [Hx.out]
    clear Hx hm hsum
    simp only at HS
    go_enter Try.func13, Try.ntmps13
    go_wp2_with fail
    refine (four_any s.size _ (by omega)).mono ?_
    rintro e w1 ⟨rfl, hb⟩
    dsimp only
    go_wp2_with fail
    refine (HS.out _).mono ?_
    rintro e w2 ⟨rfl, rfl⟩
    dsimp only
    go_wp2_with fail
    refine (HF.out _).mono ?_
    rintro e w3 ⟨rfl, hb3⟩
    dsimp only
    go_wp2
    go_ret2
    refine ⟨?_, hb.trans (hb3.mono hb.size)⟩
    rw [cat_eq, cat_eq]
    simp
  · have h' : (70000 : Int) < s.size := by omega
    rw [if_neg hs, if_neg hs]
    go_enter Try.func13, Try.ntmps13
    go_wp2
    go_ret2
    exact ⟨rfl, Below.refl _ _⟩
end Go.Proofs.Ytagfolckodpioaa
