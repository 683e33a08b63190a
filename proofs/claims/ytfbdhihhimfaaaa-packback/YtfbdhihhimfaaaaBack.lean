/- The walk of rialtolaw01.PackBack: it answers true, whatever the numbers, the list and what stands around. -/
import Derived.Test.YtfbdhihhimfaaaaBackPlain
namespace Go.Proofs.Ytfbdhihhimfaaaa
open Go.RowKit

theorem around_data (ar : ByteArray) (c : List UInt8) : (ar ++ ⟨c.toArray⟩ ++ ar).data.toList = ar.data.toList ++ (c ++ ar.data.toList) := by simp
theorem around_size (ar : ByteArray) (c : List UInt8) (h : ar.size ≤ 140737488355328) (hc : c.length ≤ 300000000) : (ar ++ ⟨c.toArray⟩ ++ ar).size ≤ maxLen := by
  have : (ar ++ ⟨c.toArray⟩ ++ ar).size = ar.size + c.length + ar.size := by rw [ByteArray.size_append, ByteArray.size_append]; have := sizeL c; omega
  rw [this]; unfold maxLen; omega
theorem ar_len (ar : ByteArray) : (ar.size : Int) = (ar.data.toList.length : Int) := by simp
theorem back18 (ar : ByteArray) (n : Nat) (w : World) (h : ar.size ≤ 140737488355328) (hn : n < 18446744073709551616) :
    Calls Try.prog 18 #[.string (ar ++ ⟨(uintL n).toArray⟩ ++ ar), .int .i64 (ar.size : Int)] w fun e w' => e = .returned (.tuple #[.int .u64 (n : Int), .int .i64 ((ar.size : Int) + (uintL n).length), .int .i64 0]) ∧ w' = w := by
  refine (take_any _ _ w (around_size ar _ h (by have := uintL_len n; omega))).mono ?_
  rintro e w' ⟨rfl, rfl⟩
  rw [around_data, ar_len, tkU_back _ _ n hn]
  exact ⟨by simp [tup], rfl⟩
theorem back20 (ar : ByteArray) (i : Int) (w : World) (h : ar.size ≤ 140737488355328) (h0 : -9223372036854775808 ≤ i) (h1 : i < 9223372036854775808) :
    Calls Try.prog 20 #[.string (ar ++ ⟨(uintL (foldN i)).toArray⟩ ++ ar), .int .i64 (ar.size : Int)] w fun e w' => e = .returned (.tuple #[.int .i64 i, .int .i64 ((ar.size : Int) + (uintL (foldN i)).length), .int .i64 0]) ∧ w' = w := by
  refine (takeInt_any _ _ w (around_size ar _ h (by have := uintL_len (foldN i); omega))).mono ?_
  rintro e w' ⟨rfl, rfl⟩
  rw [around_data, ar_len, tkI_back _ _ i h0 h1]
  exact ⟨by simp [tupI], rfl⟩
theorem listL_len (ls : List (List UInt8)) (h : ls.length ≤ 4000) : (listL ls).length ≤ 300000000 := by
  have h1 := uintL_len ls.length
  have h2 := flatT_len ls
  unfold listL
  rw [List.length_append]
  have h4 : 60010 * ls.length ≤ 60010 * 4000 := Nat.mul_le_mul_left _ h
  omega
theorem back25 (ar : ByteArray) (ss : List ByteArray) (w : World) (h : ar.size ≤ 140737488355328) (hg : badL (byt ss) = false) :
    Calls Try.prog 25 #[.string (ar ++ ⟨(listL (byt ss)).toArray⟩ ++ ar), .int .i64 (ar.size : Int)] w fun e w' => ∃ a cap, e = .returned (.tuple #[.slice a ss.length cap, .int .i64 ((ar.size : Int) + (listL (byt ss)).length), .int .i64 0]) ∧ Strs w' a ss ∧ Below w.heap.size w w' := by
  refine (takeList_any _ _ w (around_size ar _ h (listL_len _ (good_all _ hg).1))).mono ?_
  rintro e w' ⟨a, zs, cap, rfl, hown, hby, hok, hl, hb⟩
  rw [around_data, ar_len, tkL_back _ _ _ hg] at hby
  obtain rfl : zs = ss := byt_inj hby
  rw [around_data, ar_len, tkL_back _ _ _ hg]
  exact ⟨a, cap, by simp, strs_taken hown hok hl, hb⟩
set_option maxHeartbeats 4000000 in
set_option maxRecDepth 100000 in
theorem back_walk (n : Nat) (i : Int) (a : Option Addr) (cap : Nat) (ss : List ByteArray) (ar : ByteArray) (w : World)
    (hn : n < 18446744073709551616) (hi0 : -9223372036854775808 ≤ i) (hi1 : i < 9223372036854775808) (har : ar.size ≤ 140737488355328) (hS : Strs w a ss) :
    Calls Try.prog 5 #[.int .u64 (n : Int), .int .i64 i, .slice a ss.length cap, .string ar] w fun e w' => e = .returned (.bool true) ∧ Below w.heap.size w w' := by
  have l1 := uintL_len n
  have l2 := uintL_len (foldN i)
  go_enter Try.func5, Try.ntmps5
  go_wp2_with fail
  refine (uint_any n _ hn).mono ?_
  rintro e w1 ⟨rfl, hb1⟩
  go_wp2_with fail
  refine (back18 ar n _ har hn).mono ?_
  rintro e w' ⟨rfl, rfl⟩
  go_wp2_with fail
  refine (int_any i _ hi0 hi1).mono ?_
  rintro e w2 ⟨rfl, hb2⟩
  go_wp2_with fail
  refine (back20 ar i _ har hi0 hi1).mono ?_
  rintro e w3 ⟨rfl, rfl⟩
  have hb3 : Below w.heap.size w w3 := hb1.trans (hb2.mono hb1.size)
  have hS3 := hS.keep hb3
  clear hb1 hb2
  go_wp2_with fail
  refine (list_any a cap ss _ hS3).mono ?_
  rintro e w4 ⟨rfl, hb4⟩
  have hS4 := hS3.keep hb4
  have hb04 : Below w.heap.size w w4 := hb3.trans (hb4.mono hb3.size)
  clear hb3 hS3 hb4
  by_cases hbad : badL (byt ss) = true
  · have e1 : listV (byt ss) = [] := by simp [listV, hbad]
    have e2 : listE (byt ss) = 2 := by simp [listE, hbad]
    rw [e1, e2]
    clear e1 e2 hbad
    go_wp2_with fail
    refine (live_any _).mono ?_
    rintro e w5 ⟨rfl, hb5⟩
    go_wp2
    go_ret
    exact ⟨rfl, hb04.trans (hb5.mono hb04.size)⟩
  · have hgood : badL (byt ss) = false := by simpa using hbad
    have e1 : listV (byt ss) = listL (byt ss) := by simp [listV, hgood]
    have e2 : listE (byt ss) = 0 := by simp [listE, hgood]
    rw [e1, e2]
    have Hg := hideIt hgood
    have l3 := listL_len (byt ss) (good_all _ hgood).1
    clear e1 e2 hbad hgood
    go_wp2_with fail
    refine (back25 ar ss _ har Hg.out).mono ?_
    rintro e w5 ⟨a', cap', rfl, hZ, hb5⟩
    have hS5 := hS4.keep hb5
    have hb05 : Below w.heap.size w w5 := hb04.trans (hb5.mono hb04.size)
    clear hb5 hS4 hb04
    go_wp2_with fail
    refine (live_any _).mono ?_
    rintro e w6 ⟨rfl, hb6⟩
    have hS6 := hS5.keep hb6
    have hZ6 := hZ.keep hb6
    have hb06 : Below w.heap.size w w6 := hb05.trans (hb6.mono hb05.size)
    clear hb6 hS5 hZ hb05
    go_wp2_with fail
    refine (same_any a' a cap' cap ss _ hZ6 hS6).mono ?_
    rintro e w7 ⟨rfl, hb7⟩
    go_wp2
    go_ret
    exact ⟨rfl, hb06.trans (hb7.mono hb06.size)⟩
end Go.Proofs.Ytfbdhihhimfaaaa
