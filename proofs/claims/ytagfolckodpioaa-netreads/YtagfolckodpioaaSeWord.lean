/- What seal.word and seal.number answer: a number of 32 bits as four bytes, and back. -/
import Derived.Test.YtagfolckodpioaaSeSum
import Derived.Test.YtagfolckodpioaaPkUint
namespace Go.Proofs.Ytagfolckodpioaa
open Go.RowKit

/-- The highest eight bits first. -/
def wordL (n : Nat) : List UInt8 := [UInt8.ofNat (n / 16777216), UInt8.ofNat (n / 65536 % 256), UInt8.ofNat (n / 256 % 256), UInt8.ofNat (n % 256)]
def numL : List UInt8 → Nat := fun l => l.foldl (fun r b => r * 256 + b.toNat) 0
/-- A fresh row of bytes as a text. -/
theorem conv_fresh (w : World) (bs : List UInt8) (cs : Array Value) (n : Nat) (hn : n = bs.length) (h : cs = (bs.map u8v).toArray) :
    (convert 46 9 (.slice (some ⟨w.heap.size, 0, none⟩) n n)).run Try.prog (w.alloc (Obj.cells cs 5)) = .ok (.string ⟨bs.toArray⟩) (w.alloc (Obj.cells cs 5)) := by
  subst h hn
  refine run_convert_bytes_back (P := Try.prog) _ 46 9 5 ⟨w.heap.size, 0, none⟩ _ bs (by kernel_rfl) (by kernel_rfl) (by kernel_rfl) ?_
  intro j hj
  have e : (⟨w.heap.size, 0, none⟩ : Addr).add j = ⟨w.heap.size, j, none⟩ := by cases j <;> simp [Addr.add]
  rw [e]
  simp [hj, u8v]
theorem word_cells (n : Nat) (h : n < 4294967296) : #[Value.int IntKind.u8 ((n : Int) / 16777216), Value.int IntKind.u8 ((n : Int) / 65536 % 256), Value.int IntKind.u8 ((n : Int) / 256 % 256), Value.int IntKind.u8 ((n : Int) % 256)] = ((wordL n).map u8v).toArray := by
  simp only [wordL, List.map_cons, List.map_nil]
  rw [u8v_ofNat _ (by omega), u8v_ofNat _ (by omega), u8v_ofNat _ (by omega), u8v_ofNat _ (by omega)]
  simp
set_option maxHeartbeats 1000000 in
set_option maxRecDepth 100000 in
theorem word_any (n : Nat) (w : World) (h : n < 4294967296) :
    Calls Try.prog 62 #[.int .u32 n] w fun e w' => e = .returned (.string ⟨(wordL n).toArray⟩) ∧ Below w.heap.size w w' := by
  have hc := conv_fresh w (wordL n) _ 4 rfl (word_cells n h)
  go_enter Try.func62, Try.ntmps62
  go_wp2
  go_ret
  exact ⟨rfl, (Below.refl _ _).alloc (Nat.le_refl _) _⟩
theorem or_byte (r : Nat) (b : UInt8) (h : r * 256 < 4294967296) : bits BinOp.or IntKind.u32 ((r : Int) * 256) (b.toNat : Int) = ((r * 256 + b.toNat : Nat) : Int) := by
  have hb := UInt8.toNat_lt b
  have h1 := u32_or_nat (r * 256) b.toNat h (by omega)
  have h2 := Nat.two_pow_add_eq_or_of_lt (i := 8) (b := b.toNat) (by omega) r
  rw [show r * 256 + b.toNat = 2 ^ 8 * r + b.toNat by omega, h2, show 2 ^ 8 * r = r * 256 by omega, ← h1]
  simp
set_option maxHeartbeats 1000000 in
set_option maxRecDepth 100000 in
theorem number_any (s : ByteArray) (w : World) (hs : s.size = 4) :
    Calls Try.prog 77 #[.string s] w fun e w' => e = .returned (.int .u32 (numL s.data.toList : Nat)) ∧ w' = w := by
  have Hs := hideIt hs
  have hs1 : 4 ≤ s.size := by omega
  clear hs
  go_enter Try.func77, Try.ntmps77
  go_wp2
  go_loop [3, 5] (fun x j => ∃ (n q : Nat), j = .int .i64 (n : Int) ∧ x = .int .u32 (q : Int) ∧ n ≤ 4 ∧ q < 256 ^ n ∧ Hid (q = numL (s.data.toList.take n))) (fun _ j => (4 - Go.RowKit.intOf j).toNat)
  case atStart => exact ⟨0, 0, rfl, rfl, by omega, by decide, rfl⟩
  case round =>
    obtain ⟨n, q, rfl, rfl, hn, hq, Hq⟩ := hrel
    by_cases hnl : n < 4
    · have hnl' : (n : Int) < 4 := by omega
      have hnl2 : (n : Int) < s.size := by omega
      have hnl3 : n < s.size := by omega
      have hqq : q * 256 < 4294967296 := by
        have : q < 256 ^ 3 := Nat.lt_of_lt_of_le hq (Nat.pow_le_pow_right (by decide) (by omega))
        omega
      have ho := or_byte q s[n] hqq
      have hb := UInt8.toNat_lt s[n]
      have Hn : Hid (q * 256 + s[n].toNat = numL (s.data.toList.take (n + 1))) := by
        show _ = _
        rw [List.take_succ_eq_append_getElem (by simpa using hnl3)]
        unfold numL
        rw [List.foldl_append, Hq.out]
        rfl
      have hq2 : q * 256 + s[n].toNat < 256 ^ (n + 1) := by rw [Nat.pow_succ]; omega
      go_wp2
      exact ⟨⟨n + 1, q * 256 + s[n].toNat, by simp, by simp, by omega, hq2, Hn⟩, by simp [Go.RowKit.intOf]; omega⟩
    · have hnl' : ¬ (n : Int) < 4 := by omega
      go_wp2
      go_ret
      rw [Hq.out, List.take_of_length_le (by have := Hs.out; simp; omega)]
      exact ⟨rfl, rfl⟩
end Go.Proofs.Ytagfolckodpioaa
