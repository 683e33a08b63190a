/- What the document's TakeUint answers: the same as package pack's. -/
import Derived.Test.YtagfolckodpioaaR1
namespace Go.Proofs.Ytagfolckodpioaa
open Go.RowKit

theorem sum64 (i acc b P : Nat) (hP : P = 128 ^ i) (hi : i ≤ 9) (h : acc < 128 ^ i) (hb : i < 9 ∨ b ≤ 1) (hb2 : b < 128) :
    IntKind.u64.wrap ((acc : Int) + IntKind.u64.wrap ((b : Int) % 128 * (P : Int))) = ((acc + b * 128 ^ i : Nat) : Int) := by
  subst hP
  have h1 := sum_lt i acc b hi h hb hb2
  have e0 : ((b : Int) % 128 * ((128 ^ i : Nat) : Int)) = ((b * 128 ^ i : Nat) : Int) := by
    rw [Int.emod_eq_of_lt (by omega) (by omega)]
    push_cast
    rfl
  rw [e0, IntKind.wrap_u64, IntKind.wrap_u64]
  omega
theorem wrapB (b : UInt8) : IntKind.u64.wrap (b.toNat : Int) = (b.toNat : Int) := by
  have := UInt8.toNat_lt b
  rw [IntKind.wrap_u64]; omega
theorem sumB (i acc P : Nat) (b : UInt8) (hP : P = 128 ^ i) (hi : i ≤ 9) (h : acc < 128 ^ i) (hb : i < 9 ∨ b.toNat % 128 ≤ 1) :
    IntKind.u64.wrap ((acc : Int) + IntKind.u64.wrap ((IntKind.u64.wrap (b.toNat : Int)).tmod 128 * (P : Int))) = ((acc + b.toNat % 128 * 128 ^ i : Nat) : Int) := by
  have h1 := sum64 i acc (b.toNat % 128) P hP hi h hb (by omega)
  rw [wrapB, Int.tmod_eq_emod_of_nonneg (by omega)]
  have e : (((b.toNat % 128 : Nat) : Int) % 128) = (b.toNat : Int) % 128 := by omega
  rw [e] at h1
  exact h1
theorem partB (i P : Nat) (hP : P = 128 ^ i) (hi : i < 9) : IntKind.u64.wrap ((P : Int) * 128) = ((128 ^ (i + 1) : Nat) : Int) := by
  subst hP
  have h := p128_le (i + 1) (by omega)
  have e : ((128 ^ i : Nat) : Int) * 128 = ((128 ^ (i + 1) : Nat) : Int) := by rw [Nat.pow_succ]; push_cast; rfl
  rw [e, IntKind.wrap_u64]
  clear e
  generalize 128 ^ (i + 1) = Q at h ⊢
  omega
theorem zeroB (acc i b : Nat) (h : acc < 18446744073709551616) (hb : b = 0) : IntKind.u64.wrap ((acc : Int) + IntKind.u64.wrap 0) = ((acc + b % 128 * 128 ^ i : Nat) : Int) := by
  subst hb
  rw [IntKind.wrap_u64, IntKind.wrap_u64]
  simp
  omega
theorem tup_eq2 (n a i : Nat) (v x : Int) (hv : v = (n : Int)) (hx : x = (a : Int) + i + 1) : Ending.returned (.tuple #[.int .u64 v, .int .i64 x, .int .i64 0]) = tup (fin a (n, i + 1, 0)) := by
  subst hv
  exact tup_eq n a i x hx
theorem endB_no (i b : Nat) (hi : 0 < i) (hb : b = 0) : endB i b = false := by
  subst hb
  simp [endB]; omega
theorem endR_yes (i b : Nat) (h : i = 0 ∨ (b ≠ 0 ∧ (i < 9 ∨ b ≤ 1))) : endB i b = true := by
  rcases h with rfl | ⟨h1, h2⟩
  · rfl
  · have e : (b != 0) = true := by simp; omega
    unfold endB
    rw [e]
    rcases h2 with h2 | h2 <;> simp [h2]
theorem rd_top (acc : Nat) (b : UInt8) (r : List UInt8) (h : 1 < b.toNat) : rd 1 9 acc (b :: r) = (0, 0, 11) := by
  by_cases hb : b.toNat < 128
  · exact rd_no 0 9 acc b r hb (by simp [endB]; omega)
  · rw [rd_more 0 9 acc b r hb, rd_zero]
theorem rd_yesM (f i acc : Nat) (b : UInt8) (r : List UInt8) (h : b.toNat < 128) (he : endB i b.toNat = true) : rd (f + 1) i acc (b :: r) = (acc + b.toNat % 128 * 128 ^ i, i + 1, 0) := by
  rw [rd_yes f i acc b r h he, Nat.mod_eq_of_lt h]
set_option maxHeartbeats 2000000 in
set_option maxRecDepth 100000 in
theorem refTake_in (s : ByteArray) (at0 : Nat) (w : World) (hs : s.size ≤ maxLen) (ha : at0 ≤ s.size) :
    Calls Try.prog 74 #[.string s, .int .i64 (at0 : Int)] w fun e w' => e = tup (tkU s.data.toList (at0 : Int)) ∧ w' = w := by
  unfold maxLen at hs
  rw [tkU_in _ _ (by simpa using ha)]
  have ha' : ¬ ((s.size : Int) < at0) := by omega
  go_enter Try.func74, Try.ntmps74
  go_wp2
  go_loop [7, 8, 9] (fun x p c => ∃ (i acc P : Nat), i ≤ 9 ∧ at0 + i ≤ s.size ∧ x = .int .u64 (acc : Int) ∧ p = .int .u64 (P : Int) ∧ c = .int .i64 (i : Int) ∧ Hid (P = 128 ^ i ∧ acc < 128 ^ i) ∧ Hid (rd 10 0 0 (s.data.toList.drop at0) = rd (10 - i) i acc (s.data.toList.drop (at0 + i)))) (fun _ _ c => 10 - (intOf c).toNat)
  case atStart => exact ⟨0, 0, 1, by omega, by omega, rfl, rfl, rfl, ⟨rfl, by simp⟩, rfl⟩
  case round =>
    obtain ⟨i, acc, P, hi, hai, rfl, rfl, rfl, HP, Hq⟩ := hrel
    have h10' : (i : Int) < 10 := by omega
    by_cases hend : at0 + i = s.size
    · have Hf : Hid (rd 10 0 0 (s.data.toList.drop at0) = (0, 0, 10)) := by
        show _ = _
        rw [Hq.out, show 10 - i = (9 - i) + 1 by omega, hend, List.drop_of_length_le (by simp), rd_nil]
      have hend' : (s.size : Int) ≤ (at0 : Int) + i := by omega
      clear hend
      go_wp2
      go_ret3
      rw [Hf.out]
      exact ⟨rfl, rfl⟩
    · have hend' : ¬ (s.size : Int) ≤ (at0 : Int) + i := by omega
      have hlt : at0 + i < s.size := by omega
      have Hq2 : Hid (rd 10 0 0 (s.data.toList.drop at0) = rd (9 - i + 1) i acc (s[at0 + i] :: s.data.toList.drop (at0 + i + 1))) := by
        show _ = _
        rw [Hq.out, ← drop_at s _ hlt, show 10 - i = 9 - i + 1 by omega]
      clear Hq
      by_cases h9 : i = 9
      · subst h9
        obtain ⟨hP, hacc⟩ := HP.out
        have HPe := hideIt hP
        clear hP HP
        go_wp2
        · have hb : 1 < s[at0 + 9].toNat := by
            have h : 1 < IntKind.u64.wrap (s[at0 + 9].toNat : Int) := by assumption
            rw [wrapB] at h; omega
          go_ret3
          rw [Hq2.out, rd_top _ _ _ hb]
          exact ⟨rfl, rfl⟩
        · have hb : s[at0 + 9].toNat = 0 := by
            have h : IntKind.u64.wrap (s[at0 + 9].toNat : Int) = 0 := by assumption
            rw [wrapB] at h; omega
          go_ret3
          rw [Hq2.out, rd_no _ _ _ _ _ (by omega) (endB_no 9 _ (by omega) hb)]
          exact ⟨rfl, rfl⟩
        · have hb : s[at0 + 9].toNat ≤ 1 := by
            have h : IntKind.u64.wrap (s[at0 + 9].toNat : Int) ≤ 1 := by assumption
            rw [wrapB] at h; omega
          have hb0 : s[at0 + 9].toNat ≠ 0 := by
            have h : ¬ IntKind.u64.wrap (s[at0 + 9].toNat : Int) = 0 := by assumption
            rw [wrapB] at h; omega
          go_ret3
          rw [Hq2.out, rd_yesM _ _ _ _ _ (by omega) (endR_yes 9 _ (.inr ⟨hb0, .inr hb⟩))]
          exact ⟨tup_eq2 _ _ _ _ _ (sumB 9 acc P _ HPe.out (by omega) hacc (.inr (by omega))) (by omega), rfl⟩
      · have h9' : ((i : Int) == 9) = false := by simp; omega
        have hi8 : i < 9 := by omega
        obtain ⟨hP, hacc⟩ := HP.out
        have HPe := hideIt hP
        clear hP HP
        go_wp2
        · have hb : s[at0 + i].toNat = 0 := by
            have h : IntKind.u64.wrap (s[at0 + i].toNat : Int) = 0 := by assumption
            rw [wrapB] at h; omega
          have hi0 : 0 < i := by assumption
          go_ret3
          rw [Hq2.out, rd_no _ _ _ _ _ (by omega) (endB_no i _ hi0 hb)]
          exact ⟨rfl, rfl⟩
        · have hb : s[at0 + i].toNat = 0 := by
            have h : IntKind.u64.wrap (s[at0 + i].toNat : Int) = 0 := by assumption
            rw [wrapB] at h; omega
          have hi0 : ¬ 0 < i := by assumption
          go_ret3
          rw [Hq2.out, rd_yesM _ _ _ _ _ (by omega) (endR_yes i _ (.inl (by omega)))]
          exact ⟨tup_eq2 _ _ _ _ _ (zeroB acc i _ (by have := p128_le i hi; omega) hb) (by omega), rfl⟩
        · have hb : s[at0 + i].toNat < 128 := by
            have h : IntKind.u64.wrap (s[at0 + i].toNat : Int) < 128 := by assumption
            rw [wrapB] at h; omega
          have hb0 : s[at0 + i].toNat ≠ 0 := by
            have h : ¬ IntKind.u64.wrap (s[at0 + i].toNat : Int) = 0 := by assumption
            rw [wrapB] at h; omega
          go_ret3
          rw [Hq2.out, rd_yesM _ _ _ _ _ hb (endR_yes i _ (.inr ⟨hb0, .inl hi8⟩))]
          exact ⟨tup_eq2 _ _ _ _ _ (sumB i acc P _ HPe.out hi hacc (.inl hi8)) (by omega), rfl⟩
        · have hb : ¬ s[at0 + i].toNat < 128 := by
            have h : 128 ≤ IntKind.u64.wrap (s[at0 + i].toNat : Int) := by assumption
            rw [wrapB] at h; omega
          refine ⟨⟨i + 1, acc + s[at0 + i].toNat % 128 * 128 ^ i, 128 ^ (i + 1), by omega, by omega, by rw [sumB i acc P _ HPe.out hi hacc (.inl hi8)], by rw [partB i P HPe.out hi8], by go_num, ⟨rfl, acc_step i acc _ hacc⟩, ?_⟩, by simp [intOf]; omega⟩
          show _ = _
          rw [Hq2.out, rd_more _ _ _ _ _ hb, show 10 - (i + 1) = 9 - i by omega]
          rfl
set_option maxHeartbeats 400000 in
theorem refTake_out (s : ByteArray) (a : Int) (w : World) (_hs : s.size ≤ maxLen) (h : a < 0 ∨ (s.size : Int) < a) :
    Calls Try.prog 74 #[.string s, .int .i64 a] w fun e w' => e = tup (tkU s.data.toList a) ∧ w' = w := by
  unfold maxLen at _hs
  rw [tkU_out _ _ (by simpa using h)]
  by_cases h0 : a < 0
  · clear h
    go_enter Try.func74, Try.ntmps74
    go_wp2
    go_ret3
    exact ⟨rfl, rfl⟩
  · have h1 : (s.size : Int) < a := by omega
    clear h
    go_enter Try.func74, Try.ntmps74
    go_wp2
    go_ret3
    exact ⟨rfl, rfl⟩
theorem refTake_any (s : ByteArray) (a : Int) (w : World) (hs : s.size ≤ maxLen) :
    Calls Try.prog 74 #[.string s, .int .i64 a] w fun e w' => e = tup (tkU s.data.toList a) ∧ w' = w := by
  by_cases h : a < 0 ∨ (s.size : Int) < a
  · exact refTake_out s a w hs h
  · obtain ⟨k, rfl⟩ := Int.eq_ofNat_of_zero_le (show 0 ≤ a by omega)
    exact refTake_in s k w hs (by omega)
set_option maxHeartbeats 1000000 in
theorem refTakeText_any (s : ByteArray) (a : Int) (w : World) (hs : s.size ≤ maxLen) :
    Calls Try.prog 75 #[.string s, .int .i64 a] w fun e w' => e = tupT (tkT s.data.toList a) ∧ w' = w := by
  obtain ⟨n, nx, er, hr⟩ := tup_split s.data.toList a
  have hn := tkU_lt s.data.toList a
  rw [hr] at hn
  have ht := refTake_any s a w hs
  rw [hr] at ht
  unfold tup at ht
  have Ht := hideIt ht
  clear ht
  have hsl : s.data.toList.length = s.size := by simp
  have hs2 := hs
  unfold maxLen at hs2
  simp only at hn
  by_cases her : er = 0
  · have hnx := (tkU_next s.data.toList a (by rw [hr]; exact her)).2.2
    rw [hr, hsl] at hnx
    simp only at hnx
    subst her
    by_cases hlong : 60000 < n
    · have He := hideIt (tkT_long _ _ hr hlong)
      have hlong' : (60000 : Int) < n := by omega
      clear hr
      go_enter Try.func75, Try.ntmps75
      go_wp2_with fail
      refine Ht.out.mono ?_
      rintro e w' ⟨rfl, rfl⟩
      go_wp2
      go_ret3
      rw [He.out]
      exact ⟨rfl, rfl⟩
    · have hlong' : ¬ (60000 : Int) < n := by omega
      by_cases hcut : s.size < nx + n
      · have He := hideIt (tkT_cut _ _ hr hlong (by omega))
        have hcut' : (s.size : Int) - nx < n := by omega
        clear hr
        go_enter Try.func75, Try.ntmps75
        go_wp2_with fail
        refine Ht.out.mono ?_
        rintro e w' ⟨rfl, rfl⟩
        go_wp2
        go_ret3
        rw [He.out]
        exact ⟨rfl, rfl⟩
      · have He := hideIt (tkT_yes _ _ hr hlong (by omega))
        have hcut' : ¬ (s.size : Int) - nx < n := by omega
        have hcut2 : (nx : Int) + n ≤ s.size := by omega
        clear hr
        go_enter Try.func75, Try.ntmps75
        go_wp2_with fail
        refine Ht.out.mono ?_
        rintro e w' ⟨rfl, rfl⟩
        go_wp2
        go_ret3
        rw [He.out, extract_eq]
        exact ⟨by simp [tupT], rfl⟩
  · have He := hideIt (tkT_err _ _ hr her)
    have her' : ((er : Int) != 0) = true := by simp; omega
    clear hr
    go_enter Try.func75, Try.ntmps75
    go_wp2_with fail
    refine Ht.out.mono ?_
    rintro e w' ⟨rfl, rfl⟩
    go_wp2
    go_ret3
    rw [He.out]
    exact ⟨rfl, rfl⟩
end Go.Proofs.Ytagfolckodpioaa
