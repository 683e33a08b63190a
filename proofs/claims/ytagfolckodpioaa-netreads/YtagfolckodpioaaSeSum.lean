/- What seal.eightSteps and seal.sumOf answer: eight steps of the register, and the sum of texts one behind the other. -/
import Derived.Test.YtagfolckodpioaaKit
import Derived.Test.YtagfolckodpioaaSePlain
namespace Go.Proofs.Ytagfolckodpioaa
open Go.RowKit

theorem and1_u32 (r : Nat) (h : r < 4294967296) : bits BinOp.and IntKind.u32 (r : Int) 1 = ((r % 2 : Nat) : Int) := by
  have := u32_and_nat r 1 h (by decide)
  rw [Nat.and_one_is_mod] at this
  exact this
theorem xorp_u32 (r : Nat) (h : r < 4294967296) : bits BinOp.xor IntKind.u32 (r : Int) 3988292384 = ((r ^^^ poly : Nat) : Int) :=
  u32_xor_nat r 3988292384 h (by decide)
set_option maxHeartbeats 1000000 in
theorem steps_any (r : Nat) (w : World) (h : r < 4294967296) :
    Calls Try.prog 82 #[.int .u32 r] w fun e w' => e = .returned (.int .u32 (stps 8 r : Nat)) ∧ w' = w := by
  go_enter Try.func82, Try.ntmps82
  go_wp2
  go_loopw [0, 4] (fun x i wr => ∃ (k m : Nat), i = .int .i64 (k : Int) ∧ x = .int .u32 (m : Int) ∧ k ≤ 8 ∧ m < 4294967296 ∧ stps 8 r = stps (8 - k) m ∧ wr = w) (fun _ i _ => (8 - Go.RowKit.intOf i).toNat)
  case atStart => exact ⟨0, r, rfl, rfl, by omega, h, rfl, rfl⟩
  case round =>
    obtain ⟨k, m, rfl, rfl, hk, hm, hq, rfl⟩ := hrel
    have Hq := hideIt hq
    clear hq
    have ha := and1_u32 m hm
    by_cases hlt : k < 8
    · have hlt' : (k : Int) < 8 := by omega
      rcases Nat.mod_two_eq_zero_or_one m with h2 | h2
      · rw [h2] at ha
        have Hs := hideIt (show stp m = m / 2 by unfold stp; rw [h2]; simp)
        clear h2
        go_wp2
        go_roundw
        case rel =>
          refine ⟨k + 1, m / 2, by simp, by go_num, by omega, by omega, ?_, trivial⟩
          rw [Hq.out, show 8 - k = (8 - (k + 1)) + 1 by omega, ← Hs.out]; rfl
        case measure => simp [Go.RowKit.intOf]; omega
      · rw [h2] at ha
        have hx := xorp_u32 (m / 2) (by omega)
        have Hs := hideIt (show stp m = m / 2 ^^^ poly by unfold stp; rw [h2]; simp)
        have Hl := hideIt (stp_lt m (by omega))
        clear h2
        go_wp2
        go_roundw
        case rel =>
          refine ⟨k + 1, stp m, by simp, ?_, by omega, by have := Hl.out; omega, ?_, trivial⟩
          · rw [Hs.out]; simp_all
          · rw [Hq.out, show 8 - k = (8 - (k + 1)) + 1 by omega]; rfl
        case measure => simp [Go.RowKit.intOf]; omega
    · have hlt' : ¬ (k : Int) < 8 := by omega
      go_wp2
      go_ret
      rw [Hq.out, show 8 - k = 0 by omega]
      exact ⟨rfl, rfl⟩
theorem xorb_u32 (r : Nat) (b : UInt8) (h : r < 4294967296) : bits BinOp.xor IntKind.u32 (r : Int) (b.toNat : Int) = ((r ^^^ b.toNat : Nat) : Int) :=
  u32_xor_nat r b.toNat h (by have := UInt8.toNat_lt b; omega)
theorem xoro_u32 (r : Nat) (h : r < 4294967296) : bits BinOp.xor IntKind.u32 IntKind.u32.max (r : Int) = ((r ^^^ ones : Nat) : Int) := by
  rw [Nat.xor_comm]
  exact u32_xor_nat 4294967295 r (by decide) h
theorem crc_take (r : Nat) (s : ByteArray) (j : Nat) (h : j < s.size) : crc r (s.data.toList.take (j + 1)) = feed (crc r (s.data.toList.take j)) s[j] := by
  rw [List.take_succ_eq_append_getElem (by simpa using h), crc_snoc]
  rfl
theorem feed_lt' (r : Nat) (b : UInt8) (h : r < 4294967296) : feed r b < 4294967296 := feed_lt r b h
theorem xorb_lt (r : Nat) (b : UInt8) (h : r < 4294967296) : r ^^^ b.toNat < 4294967296 := Nat.xor_lt_two_pow (n := 32) h (by have := UInt8.toNat_lt b; omega)
theorem crc_lt' (l : List UInt8) (r : Nat) (h : r < 4294967296) : crc r l < 4294967296 := crc_lt l r h
set_option maxHeartbeats 4000000 in
set_option maxRecDepth 100000 in
theorem sum2_any (g : Nat) (a b : ByteArray) (w : World) (ha : a.size ≤ 9223372036854775807) (hb : b.size ≤ 9223372036854775807) (hc0 : w.cell? ⟨g, 0, none⟩ = some (.string a)) (hc1 : w.cell? ⟨g, 1, none⟩ = some (.string b)) :
    Calls Try.prog 63 #[.slice (some ⟨g, 0, none⟩) 2 2] w fun e w' => e = .returned (.int .u32 (sumN (a.data.toList ++ b.data.toList) : Nat)) ∧ w' = w := by
  go_enter Try.func63, Try.ntmps63
  go_wp2
  go_loopw [3, 9] (fun x i wr => ∃ (k m : Nat) (pre : List UInt8) (t : ByteArray) (post : List UInt8), i = .int .i64 (k : Int) ∧ x = .int .u32 (m : Int) ∧ k ≤ 2 ∧ m < 4294967296 ∧ Hid (m = crc ones pre) ∧ Hid (k < 2 → w.cell? ⟨g, k, none⟩ = some (.string t) ∧ t.size ≤ 9223372036854775807) ∧ Hid ((k = 0 ∧ pre = [] ∧ t = a) ∨ (k = 1 ∧ pre = a.data.toList ∧ t = b) ∨ (k = 2 ∧ pre = a.data.toList ++ b.data.toList)) ∧ wr = w) (fun _ i _ => (2 - Go.RowKit.intOf i).toNat)
  case atStart => exact ⟨0, 4294967295, [], a, [], rfl, rfl, by omega, by omega, rfl, fun _ => ⟨hc0, ha⟩, Or.inl ⟨rfl, rfl, rfl⟩, rfl⟩
  case round =>
    obtain ⟨k, m, pre, t, post, rfl, rfl, hk, hm, Hm, Ht, Hk, rfl⟩ := hrel
    by_cases hlt : k < 2
    · have hlt' : (k : Int) < 2 := by omega
      obtain ⟨hct, hts⟩ := Ht.out hlt
      clear Ht
      go_wp2
      go_loop [3, 15] (fun x j => ∃ (n q : Nat), j = .int .i64 (n : Int) ∧ x = .int .u32 (q : Int) ∧ n ≤ t.size ∧ q < 4294967296 ∧ Hid (q = crc m (t.data.toList.take n))) (fun _ j => (t.size - Go.RowKit.intOf j).toNat)
      case atStart => exact ⟨0, m, rfl, rfl, by omega, hm, by simp [Hid, crc]⟩
      case round =>
        obtain ⟨n, q, rfl, rfl, hn, hq, Hq⟩ := hrel
        by_cases hnl : n < t.size
        · have hnl' : (n : Int) < t.size := by omega
          have hx : bits BinOp.xor IntKind.u32 (q : Int) ((t[n].toNat : Int) % 4294967296) = ((q ^^^ t[n].toNat : Nat) : Int) := by
            rw [show (t[n].toNat : Int) % 4294967296 = (t[n].toNat : Int) by have := UInt8.toNat_lt t[n]; omega]
            exact xorb_u32 q t[n] hq
          have hxl := xorb_lt q t[n] hq
          have Hn : Hid (stps 8 (q ^^^ t[n].toNat) = crc m (t.data.toList.take (n + 1))) := by
            show _ = _
            rw [crc_take m t n hnl, ← Hq.out]; rfl
          have hfl : stps 8 (q ^^^ t[n].toNat) < 4294967296 := feed_lt' q t[n] hq
          go_wp2_with fail
          refine (steps_any _ _ hxl).mono ?_
          rintro e w1 ⟨rfl, rfl⟩
          dsimp only
          go_wp2
          refine ⟨⟨n + 1, stps 8 (q ^^^ t[n].toNat), by go_num, rfl, by omega, hfl, Hn⟩, by simp [Go.RowKit.intOf]; omega⟩
        · have hnl' : ¬ (n : Int) < t.size := by omega
          have Hn : Hid (q = crc m t.data.toList) := by
            show _ = _
            rw [Hq.out, List.take_of_length_le (by simp; omega)]
          clear Hq
          go_wp2
          go_roundw
          case rel =>
            rcases Hk.out with ⟨rfl, rfl, rfl⟩ | ⟨rfl, rfl, rfl⟩ | ⟨rfl, _⟩
            · exact ⟨1, q, t.data.toList, b, [], by go_num, rfl, by omega, hq, by show _ = _; rw [Hn.out, Hm.out]; rfl, fun _ => ⟨hc1, hb⟩, Or.inr (Or.inl ⟨rfl, rfl, rfl⟩), trivial⟩
            · exact ⟨2, q, _, t, [], by go_num, rfl, by omega, hq, by show _ = _; rw [Hn.out, Hm.out]; exact (crc_append _ _ _).symm, fun h => absurd h (by omega), Or.inr (Or.inr ⟨rfl, rfl⟩), trivial⟩
            · omega
          case measure => simp [Go.RowKit.intOf]; omega
    · have hlt' : ¬ (k : Int) < 2 := by omega
      have hxo := xoro_u32 m hm
      go_wp2
      go_ret
      rcases Hk.out with ⟨rfl, _⟩ | ⟨rfl, _⟩ | ⟨rfl, rfl⟩
      · omega
      · omega
      · exact ⟨by unfold sumN; rw [← Hm.out]; rfl, rfl⟩
end Go.Proofs.Ytagfolckodpioaa
