import Derived.Test.YtagfolckodpioaaPkTake
import Derived.Test.YtagfolckodpioaaPkUint
namespace Go.Proofs.Ytagfolckodpioaa
open Go.RowKit

theorem take_out (s : ByteArray) (a : Int) (w : World) (_hs : s.size ≤ maxLen) (h : a < 0 ∨ (s.size : Int) < a) :
    Calls Try.prog 94 #[.string s, .int .i64 a] w fun e w' => e = tup (tkU s.data.toList a) ∧ w' = w := by
  unfold maxLen at _hs
  rw [tkU_out _ _ (by simpa using h)]
  by_cases h0 : a < 0
  · clear h
    go_enter Try.func94, Try.ntmps94
    go_wp2
    go_ret3
    exact ⟨rfl, rfl⟩
  · have h1 : (s.size : Int) < a := by omega
    clear h
    go_enter Try.func94, Try.ntmps94
    go_wp2
    go_ret3
    exact ⟨rfl, rfl⟩
theorem take_any (s : ByteArray) (a : Int) (w : World) (hs : s.size ≤ maxLen) :
    Calls Try.prog 94 #[.string s, .int .i64 a] w fun e w' => e = tup (tkU s.data.toList a) ∧ w' = w := by
  by_cases h : a < 0 ∨ (s.size : Int) < a
  · exact take_out s a w hs h
  · obtain ⟨k, rfl⟩ := Int.eq_ofNat_of_zero_le (show 0 ≤ a by omega)
    exact take_in s k w hs (by omega)
theorem rd_lt (f i acc : Nat) (l : List UInt8) (hf : f + i = 10) (ha : i ≤ 9 → acc < 128 ^ i) : (rd f i acc l).1 < 18446744073709551616 := by
  induction f generalizing i acc l with
  | zero => simp [rd]
  | succ f ih =>
    cases l with
    | nil => simp [rd]
    | cons b r =>
      unfold rd
      split
      · rename_i hb
        split
        · rename_i he
          exact sum_lt i acc _ (by omega) (ha (by omega)) (end_or i _ (by omega) he) hb
        · simp
      · refine ih (i + 1) _ r (by omega) fun h9 => acc_step i acc _ (ha (by omega))
theorem tkU_lt (l : List UInt8) (a : Int) : (tkU l a).1 < 18446744073709551616 := by
  unfold tkU
  split
  · simp
  · unfold fin
    split
    · exact rd_lt 10 0 0 _ rfl (by simp)
    · simp
end Go.Proofs.Ytagfolckodpioaa
