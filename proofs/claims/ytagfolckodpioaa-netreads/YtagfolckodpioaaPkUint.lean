/- What pack.Uint answers: the form of its number, for every number; nothing that was in memory is changed. -/
import Derived.Test.YtagfolckodpioaaKit
import Derived.Test.YtagfolckodpioaaPkPlain
import Derived.WalkKit
import Derived.WalkSpells
import Derived.WalkLawsBesides
namespace Go.Proofs.Ytagfolckodpioaa
open Go.RowKit

def blk (bs : List UInt8) : Array Value := (bs.map u8v ++ List.replicate (10 - bs.length) (Value.int .u8 0)).toArray
theorem blk_size (bs : List UInt8) (h : bs.length ≤ 10) : (blk bs).size = 10 := by simp [blk]; omega
theorem blk_at (bs : List UInt8) (h : bs.length < 10) : (blk bs)[bs.length]? = some (Value.int .u8 0) := by
  unfold blk
  rw [List.getElem?_toArray, List.getElem?_append_right (by simp)]
  simp [List.getElem?_replicate]; omega
theorem blk_get (bs : List UInt8) (j : Nat) (h : j < bs.length) : (blk bs)[j]? = some (u8v bs[j]) := by
  unfold blk
  rw [List.getElem?_toArray, List.getElem?_append_left (by simpa using h)]
  simp [List.getElem?_eq_getElem h]
theorem blk_set (bs : List UInt8) (b : UInt8) (h : bs.length < 10) : (blk bs).setIfInBounds bs.length (u8v b) = blk (bs ++ [b]) := by
  unfold blk
  obtain ⟨r, hr⟩ : ∃ r, 10 - bs.length = r + 1 := ⟨10 - bs.length - 1, by omega⟩
  have hr' : 10 - (bs ++ [b]).length = r := by simp; omega
  rw [hr, hr', List.setIfInBounds_toArray]
  rw [List.set_append]
  simp [List.replicate_succ]
theorem blk_nil : blk [] = #[Value.int IntKind.u8 0, Value.int IntKind.u8 0, Value.int IntKind.u8 0, Value.int IntKind.u8 0, Value.int IntKind.u8 0, Value.int IntKind.u8 0, Value.int IntKind.u8 0, Value.int IntKind.u8 0, Value.int IntKind.u8 0, Value.int IntKind.u8 0] := by rfl
theorem u8v_ofNat (n : Nat) (h : n < 256) : u8v (UInt8.ofNat n) = Value.int .u8 (n : Int) := by
  unfold u8v; rw [UInt8.toNat_ofNat_of_lt' (by simpa using h)]
theorem or128 (m : Nat) : bits BinOp.or IntKind.u8 ((m : Int) % 256) 128 = ((128 + m % 128 : Nat) : Int) := by
  have h : ∀ a : Fin 256, a.1 ||| 128 = 128 + a.1 % 128 := by decide +kernel
  have h2 := h ⟨m % 256, Nat.mod_lt _ (by decide)⟩
  have h3 := u8_or_nat (m % 256) 128 (Nat.mod_lt _ (by decide)) (by decide)
  simp only at h2
  rw [h2] at h3
  have h4 : 128 + m % 256 % 128 = 128 + m % 128 := by omega
  rw [h4] at h3
  exact h3
theorem slice53 (b h : Nat) (hh : h ≤ 10) (w : World) : (Instr.sliceAt 144 (Value.pointer (some { block := b, off := 0 })) none (some (Value.int IntKind.i64 (h : Int))) none).run Try.prog w = .ok (.slice (some ⟨b, 0, none⟩) h 10) w := by
  have hl : Try.prog.arrayLen 144 = 10 := by kernel_rfl
  have hu : Try.prog.underlying 144 = some (.array (Try.prog.arrayLen 144) (Try.prog.elem 144)) := by kernel_rfl
  have hz : (sizeOf (Try.prog.elem 144)).run Try.prog w = .ok 1 w := by kernel_rfl
  rw [run_sliceAt_array_h w 144 _ hu .i64 _ (by omega) (by rw [hl]; omega), hz, hl]
  simp [Result.andThen, slicedAt, Addr.add]
theorem conv_blk (w : World) (bs : List UInt8) (m : Nat) (hk : bs.length < 10) (hm : m < 256) :
    (convert 46 9 (.slice (some ⟨w.heap.size, 0, none⟩) (bs.length + 1) 10)).run Try.prog (w.alloc (Obj.cells ((blk bs).setIfInBounds bs.length (Value.int IntKind.u8 ↑m)) 144))
      = .ok (.string ⟨(bs ++ [UInt8.ofNat m]).toArray⟩) (w.alloc (Obj.cells ((blk bs).setIfInBounds bs.length (Value.int IntKind.u8 ↑m)) 144)) := by
  rw [← u8v_ofNat m hm, blk_set bs _ hk]
  have hcell : ∀ j (hj : j < (bs ++ [UInt8.ofNat m]).length), (w.alloc (Obj.cells (blk (bs ++ [UInt8.ofNat m])) 144)).cell? ((⟨w.heap.size, 0, none⟩ : Addr).add j) = some (.int .u8 ((bs ++ [UInt8.ofNat m])[j].toNat : Int)) := by
    intro j hj
    have := blk_get (bs ++ [UInt8.ofNat m]) j hj
    have e : (⟨w.heap.size, 0, none⟩ : Addr).add j = ⟨w.heap.size, j, none⟩ := by cases j <;> simp [Addr.add]
    rw [e]
    simp [this, u8v]
  have h := run_convert_bytes_back (P := Try.prog) (w.alloc (Obj.cells (blk (bs ++ [UInt8.ofNat m])) 144)) 46 9 5 ⟨w.heap.size, 0, none⟩ 10 (bs ++ [UInt8.ofNat m]) (by kernel_rfl) (by kernel_rfl) (by kernel_rfl) hcell
  simpa using h
set_option maxHeartbeats 400000 in
theorem uint_any (n : Nat) (w : World) (h1 : n < 18446744073709551616) :
    Calls Try.prog 83 #[.int .u64 n] w fun e w' => e = .returned (.string ⟨(uintL n).toArray⟩) ∧ Below w.heap.size w w' := by
  go_enter Try.func83, Try.ntmps83
  go_wp2
  go_loopw [0, 4] (fun x l wr => ∃ (bs : List UInt8) (m : Nat), l = .int .i64 (bs.length : Int) ∧ x = .int .u64 (m : Int) ∧ bs.length ≤ 9 ∧ room bs.length m ∧ uintL n = bs ++ uform (9 - bs.length) m ∧ wr = w.alloc (.cells (blk bs) 144)) (fun x _ _ => (Go.RowKit.intOf x).toNat)
  case atStart => exact ⟨[], n, rfl, rfl, by simp, room_zero n h1, rfl, by rw [blk_nil]⟩
  case round =>
    obtain ⟨bs, m, rfl, rfl, hk, hm, hq, rfl⟩ := hrel
    have Hq : Hid (uintL n = bs ++ uform (9 - bs.length) m) := hq
    clear hq
    have hsz := blk_size bs (by omega)
    have hat := blk_at bs (by omega)
    have hml := room_le _ _ hm
    by_cases hlt : 128 ≤ m
    · have hk9 : bs.length < 9 := room_nine _ _ hm hlt
      have hlt' : (128:Int) ≤ m := by omega
      go_wp2
      go_roundw
      case rel =>
        refine ⟨bs ++ [UInt8.ofNat (128 + m % 128)], m / 128, by simp, by go_num, by simp; omega, ?_, ?_, ?_⟩
        · simpa using room_step _ _ hm
        · rw [Hq.out, show 9 - bs.length = (9 - (bs ++ [UInt8.ofNat (128 + m % 128)]).length) + 1 by simp; omega, uform_big _ _ hlt]; simp
        · rw [← blk_set bs _ (by omega), u8v_ofNat _ (by omega), or128]
      case measure => simp [Go.RowKit.intOf]; omega
    · have hlt' : ¬ (128:Int) ≤ m := by omega
      have hs : ∀ wx, (Instr.sliceAt 144 (Value.pointer (some { block := w.heap.size, off := 0 })) none (some (Value.int IntKind.i64 (↑bs.length + 1))) none).run Try.prog wx = .ok (.slice (some ⟨w.heap.size, 0, none⟩) (bs.length + 1) 10) wx := fun wx => by
        have := slice53 w.heap.size (bs.length + 1) (by omega) wx
        simpa using this
      have hc := conv_blk w bs m (by omega) (by omega)
      go_wp2
      go_ret
      have e1 : uintL n = bs ++ [UInt8.ofNat m] := by rw [Hq.out, uform_small _ _ (by omega)]
      rw [e1]
      exact ⟨rfl, (Below.refl _ _).alloc (Nat.le_refl _) _⟩
end Go.Proofs.Ytagfolckodpioaa
