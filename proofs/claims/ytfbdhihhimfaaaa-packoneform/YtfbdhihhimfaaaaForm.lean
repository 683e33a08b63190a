/- The walk of rialtolaw01.PackOneForm: it answers true, from any place of any bytes. -/
import Derived.Test.YtfbdhihhimfaaaaFormPlain
import Derived.Deep.RegionHeld3
import Derived.Deep.CutRange
namespace Go.Proofs.Ytfbdhihhimfaaaa
open Go.RowKit

theorem intBack (n : Nat) (w : World) (hn : n < 18446744073709551616) :
    Calls Try.prog 15 #[.int .i64 (unfoldN n)] w fun e w' => e = .returned (.string ⟨(uintL n).toArray⟩) ∧ Below w.heap.size w w' := by
  obtain ⟨h0, h1⟩ := unfold_range n hn
  refine (int_any (unfoldN n) w h0 h1).mono ?_
  rintro e w' ⟨rfl, hb⟩
  rw [fold_unfold]
  exact ⟨rfl, hb⟩
theorem extract_form (s : ByteArray) (p nx : Nat) (h : p ≤ nx) : s.extract p nx = ⟨((s.data.toList.drop p).take (nx - p)).toArray⟩ := by
  have := extract_eq s p (nx - p)
  rw [show p + (nx - p) = nx by omega] at this
  exact this
theorem extract_head (s : ByteArray) (k : Nat) : (s.extract 0 k).data.toList = s.data.toList.take k := by
  rw [Lib.extract_data]; simp
set_option maxHeartbeats 4000000 in
set_option maxRecDepth 100000 in
theorem form_err (s : ByteArray) (a : Int) (w : World) (hs : s.size ≤ maxLen) (n nx er : Nat) (hU : tkU s.data.toList a = (n, nx, er)) (her : er ≠ 0) :
    Calls Try.prog 6 #[.string s, .int .i64 a] w fun e w' => e = .returned (.bool true) ∧ Below w.heap.size w w' := by
  have c18 := fun w => take_any s a w hs
  have c25 := fun w => takeList_any s a w hs
  rw [hU] at c18
  rw [tkL_err _ _ hU her] at c25
  unfold tup at c18
  have H18 := hideIt c18
  have H25 := hideIt c25
  have her' : ((er : Int) == 0) = false := by simp; omega
  have her2 : ((er : Int) != 0) = true := by simp; omega
  clear c18 c25 hU
  go_enter Try.func6, Try.ntmps6
  go_wp2_with fail
  refine (H18.out _).mono ?_
  rintro e w1 ⟨rfl, rfl⟩
  go_wp2_with fail
  refine (H25.out _).mono ?_
  rintro e w2 ⟨al, ls, capl, rfl, hown, hby, hok, hl, hb2⟩
  have e0 : ls.length = 0 := by rw [← byt_len, hby]; rfl
  rw [e0]
  clear hown hby hok hl e0
  go_wp2_with fail
  refine (live_any _).mono ?_
  rintro e w3 ⟨rfl, hb3⟩
  go_wp2
  go_ret
  exact ⟨rfl, hb2.trans (hb3.mono hb2.size)⟩
theorem head_size (s : ByteArray) (k : Nat) (hs : s.size ≤ maxLen) : (s.extract 0 k).size ≤ maxLen := by
  rw [ByteArray.size_extract]; unfold maxLen at *; omega
theorem cut18 (s : ByteArray) (p n nx : Nat) (hs : s.size ≤ maxLen) (hU : tkU s.data.toList (p : Int) = (n, nx, 0)) (w : World) :
    Calls Try.prog 18 #[.string (s.extract 0 (nx - 1)), .int .i64 (p : Int)] w fun e w' => e = .returned (.tuple #[.int .u64 0, .int .i64 0, .int .i64 10]) ∧ w' = w := by
  refine (take_any _ _ w (head_size s _ hs)).mono ?_
  rintro e w' ⟨rfl, rfl⟩
  rw [extract_head, tkU_cut _ p n nx hU]
  exact ⟨rfl, rfl⟩
theorem c20 (s : ByteArray) (p n nx : Nat) (hs : s.size ≤ maxLen) (hU : tkU s.data.toList (p : Int) = (n, nx, 0)) (w : World) :
    Calls Try.prog 20 #[.string s, .int .i64 (p : Int)] w fun e w' => e = .returned (.tuple #[.int .i64 (unfoldN n), .int .i64 (nx : Int), .int .i64 0]) ∧ w' = w := by
  refine (takeInt_any s _ w hs).mono ?_
  rintro e w' ⟨rfl, rfl⟩
  unfold tkI
  rw [hU]
  exact ⟨rfl, rfl⟩
theorem cut25 (s : ByteArray) (p : Nat) (ls : List (List UInt8)) (nx : Nat) (hs : s.size ≤ maxLen) (hL : tkL s.data.toList (p : Int) = (ls, nx, 0)) (w : World) :
    Calls Try.prog 25 #[.string (s.extract 0 (nx - 1)), .int .i64 (p : Int)] w (Taken ([], 0, 10) w) := by
  have := takeList_any (s.extract 0 (nx - 1)) (p : Int) w (head_size s _ hs)
  rw [extract_head, tkL_cut _ p ls nx hL] at this
  exact this
set_option maxHeartbeats 4000000 in
set_option maxRecDepth 100000 in
theorem form_ok (s : ByteArray) (p : Nat) (w : World) (hs : s.size ≤ maxLen) (n nx : Nat) (hU : tkU s.data.toList (p : Int) = (n, nx, 0)) :
    Calls Try.prog 6 #[.string s, .int .i64 (p : Int)] w fun e w' => e = .returned (.bool true) ∧ Below w.heap.size w w' := by
  have hn := tkU_lt s.data.toList (p : Int)
  have hq := tkU_next s.data.toList (p : Int) (by rw [hU])
  rw [hU] at hn hq
  simp only at hn hq
  have hsl : s.data.toList.length = s.size := by simp
  rw [hsl] at hq
  obtain ⟨_, hpn, hns⟩ := hq
  have hs2 := hs
  unfold maxLen at hs2
  have hex : s.extract p nx = ⟨(uintL n).toArray⟩ := by rw [extract_form s p nx (by omega), ← tkU_form _ p n nx hU]
  have H18 := hideIt (fun w => take_any s (p : Int) w hs)
  rw [hU] at H18
  unfold tup at H18
  go_enter Try.func6, Try.ntmps6
  go_wp2_with fail
  refine (H18.out _).mono ?_
  rintro e w1 ⟨rfl, rfl⟩
  have g1 : ((p : Int) < 0) = False := by simp
  have g2 : decide (nx ≤ p) = false := by simp; omega
  have g3 : decide (s.size < nx) = false := by simp; omega
  have b1 : (0 : Int) ≤ (p : Int) := by omega
  have b2 : (p : Int) ≤ (nx : Int) := by omega
  have b3 : (nx : Int) ≤ (s.size : Int) := by omega
  go_upto_region 3 with fail
  go_cut [50] from 29 to 50 (fun v wx => v = .bool false ∧ Below w1.heap.size w1 wx)
  case first =>
    have Hu := hideIt (fun w => uint_any n w hn)
    clear hU H18
    go_region_held3 (fun _ => True) (trivial) (first | (go_at_call 13; refine (Hu.out _).mono ?_; rintro e w2 ⟨rfl, hb2⟩))
    go_wp2_with fail
    go_meet
    exact ⟨rfl, ((Below.refl _ _).drew).trans hb2⟩
  case rest =>
  obtain ⟨rfl, hb1⟩ := hcut
  have Hcut := hideIt (cut18 s p n nx hs hU)
  have H20 := hideIt (c20 s p n nx hs hU)
  clear H18 hU
  go_wp2_with fail
  refine (Hcut.out _).mono ?_
  rintro e w2 ⟨rfl, rfl⟩
  go_wp2_with fail
  refine (H20.out _).mono ?_
  rintro e w3 ⟨rfl, rfl⟩
  clear Hcut H20
  go_upto_region 7 with fail
  go_cut [87] from 68 to 87 (fun v wx => v = .bool false ∧ Below w1.heap.size w1 wx)
  case first =>
    have Hu := hideIt (fun w => intBack n w hn)
    go_region_held3 (fun _ => True) (trivial) (first | (go_at_call 15; refine (Hu.out _).mono ?_; rintro e w4 ⟨rfl, hb4⟩))
    go_wp2_with fail
    go_meet
    exact ⟨rfl, hb1.trans (((Below.refl _ _).drew.trans hb4).mono hb1.size)⟩
  case rest =>
  clear hb1
  obtain ⟨rfl, hb1⟩ := hcut
  clear hex b1 b2 b3 g2 g3 hpn hns hn
  have hs1 := hb1.size
  obtain ⟨ll, nl, el, hL⟩ : ∃ ll nl el, tkL s.data.toList (p : Int) = (ll, nl, el) := ⟨_, _, _, rfl⟩
  have H25 := hideIt (fun w => takeList_any s (p : Int) w hs)
  rw [hL] at H25
  by_cases hel : el = 0
  · subst hel
    obtain ⟨hLf, hLg, hLp, hLl⟩ := tkL_form s.data.toList p ll nl hL
    rw [hsl] at hLl
    have hex : s.extract p nl = ⟨(listL ll).toArray⟩ := by rw [extract_form s p nl (by omega), ← hLf]
    have H25c := hideIt (cut25 s p ll nl hs hL)
    have HLg := hideIt hLg
    clear hLf hL hLg
    have g2 : decide (nl ≤ p) = false := by simp; omega
    have g3 : decide (s.size < nl) = false := by simp; omega
    have b1 : (0 : Int) ≤ (p : Int) := by omega
    have b2 : (p : Int) ≤ (nl : Int) := by omega
    have b3 : (nl : Int) ≤ (s.size : Int) := by omega
    go_wp2_with fail
    refine (H25.out _).mono ?_
    rintro e w4 ⟨al, ls, capl, rfl, hown, hby, hok, hl, hb4⟩
    have hS4 := strs_taken hown hok hl
    have Hby := hideIt hby
    have hb04 : Below w1.heap.size w1 w4 := hb1.trans (hb4.mono hs1)
    clear hown hok hby hb4 hb1 hl
    go_wp2_with fail
    refine (list_any al capl ls _ hS4).mono ?_
    rintro e w5 ⟨rfl, hb5⟩
    have hb05 : Below w1.heap.size w1 w5 := hb04.trans (hb5.mono hb04.size)
    have e1 : listV (byt ls) = listL ll := by rw [Hby.out]; simp [listV, HLg.out]
    have e2 : listE (byt ls) = 0 := by rw [Hby.out]; simp [listE, HLg.out]
    rw [e1, e2]
    clear e1 e2 hb5 hb04 hS4 Hby
    go_wp2_with fail
    refine (H25c.out _).mono ?_
    rintro e w6 ⟨al2, ls2, capl2, rfl, hown, hby, hok, hl, hb6⟩
    have hb06 : Below w1.heap.size w1 w6 := hb05.trans (hb6.mono hb05.size)
    clear hown hok hby hb6 hb05 hl
    go_wp2_with fail
    refine (live_any _).mono ?_
    rintro e w7 ⟨rfl, hb7⟩
    go_wp2
    go_ret
    exact ⟨rfl, hb06.trans (hb7.mono hb06.size)⟩
  · have hel' : ((el : Int) != 0) = true := by simp; omega
    have hnone := tkL_none s.data.toList (p : Int)
    rw [hL] at hnone
    simp only at hnone
    obtain ⟨e1, e2⟩ := hnone hel
    subst e1 e2
    clear hL hnone
    go_wp2_with fail
    refine (H25.out _).mono ?_
    rintro e w4 ⟨al, ls, capl, rfl, hown, hby, hok, hl, hb4⟩
    have e0 : ls.length = 0 := by rw [← byt_len, hby]; rfl
    rw [e0]
    have hb04 : Below w1.heap.size w1 w4 := hb1.trans (hb4.mono hs1)
    clear hown hok hby hb4 hb1 hl e0
    go_wp2_with fail
    refine (live_any _).mono ?_
    rintro e w5 ⟨rfl, hb5⟩
    go_wp2
    go_ret
    exact ⟨rfl, hb04.trans (hb5.mono hb04.size)⟩
theorem form_walk (s : ByteArray) (a : Int) (w : World) (hs : s.size ≤ maxLen) :
    Calls Try.prog 6 #[.string s, .int .i64 a] w fun e w' => e = .returned (.bool true) ∧ Below w.heap.size w w' := by
  obtain ⟨n, nx, er, hU⟩ := tup_split s.data.toList a
  by_cases her : er = 0
  · subst her
    obtain ⟨p, rfl⟩ := Int.eq_ofNat_of_zero_le (tkU_next s.data.toList a (by rw [hU])).1
    exact form_ok s p w hs n nx hU
  · exact form_err s a w hs n nx er hU her
end Go.Proofs.Ytfbdhihhimfaaaa
