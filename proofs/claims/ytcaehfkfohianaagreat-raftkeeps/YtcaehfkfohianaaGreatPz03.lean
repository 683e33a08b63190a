/- Texts of my own, laid together. -/
import Derived.Test.YtcaehfkfohianaaGreatProg
import Derived.WalkKit
import Derived.WalkSpells
import Derived.WalkLawsBesides
import Derived.Deep.QuietTactic
import Derived.BigQuiet
import Derived.Lib.AppendStr
import Derived.Deep.RegionHeld3
import Derived.Deep.RegionLaw
import Derived.Deep.CutBlock
import Derived.StillTailTactics
set_option linter.all false
namespace Go.Proofs.YtcaehfkfohianaaGreat.Nt
open Go.RowKit
theorem hideIt {p : Prop} (h : p) : Hid p := h
def u8v (b : UInt8) : Value := Value.int .u8 (b.toNat : Int)
structure Out (F : Nat → Prop) (w w' : World) : Prop where
 os : w'.os = w.os
 tape : w'.tape = w.tape
 output : w'.output = w.output
 size : w.heap.size ≤ w'.heap.size
 block : ∀ k, k < w.heap.size → ¬ F k → w'.heap[k]? = w.heap[k]?
theorem Out.refl (F : Nat → Prop) (w : World) : Out F w w := ⟨rfl, rfl, rfl, Nat.le_refl _, fun _ _ _ => rfl⟩
theorem Out.trans {F G : Nat → Prop} {a b c : World} (h : Out F a b) (k : Out G b c) (hG : ∀ i, i < a.heap.size → G i → F i) : Out F a c :=
 ⟨k.os.trans h.os, k.tape.trans h.tape, k.output.trans h.output, Nat.le_trans h.size k.size, fun i hi hn => (k.block i (Nat.lt_of_lt_of_le hi h.size) (fun e => hn (hG i hi e))).trans (h.block i hi hn)⟩
theorem Out.mono {F G : Nat → Prop} {a b : World} (h : Out F a b) (hG : ∀ i, F i → G i) : Out G a b :=
 ⟨h.os, h.tape, h.output, h.size, fun i hi hn => h.block i hi (fun e => hn (hG i e))⟩
theorem Out.below {F : Nat → Prop} {w w' : World} (h : Out F w w') {B : Nat} (hB : B ≤ w.heap.size) (hF : ∀ k, F k → B ≤ k) : Below B w w' :=
 ⟨h.os, h.tape, h.output, h.size, fun i hi => h.block i (Nat.lt_of_lt_of_le hi hB) (fun e => by have := hF i e; omega)⟩
theorem Out.ofGrown {F : Nat → Prop} {w w' : World} {r : Option Nat} (h : w.grownBy w' r) (hF : ∀ k, r = some k → F k) : Out F w w' :=
 ⟨h.os, h.tape, h.output, h.size, fun i hi hn => h.block i hi (fun e => hn (hF i e.symm))⟩
theorem cell_at {w : World} {p : Nat} {cs : Array Value} {t : TypeId} (h : w.heap[p]? = some (.cells cs t (0, 0))) (i : Nat) : w.cell? ⟨p, i, none⟩ = cs[i]? := by
 simp [World.cell?, h]
theorem free_at {w : World} {p : Nat} {cs : Array Value} {t : TypeId} (h : w.heap[p]? = some (.cells cs t (0, 0))) (i : Nat) : w.frozen? ⟨p, i, none⟩ = false := by
 simp [World.frozen?, h]
theorem heap_set {w : World} {p : Nat} {cs : Array Value} {t : TypeId} (h : w.heap[p]? = some (.cells cs t (0, 0))) (j : Nat) (v : Value) : (w.setCell ⟨p, j, none⟩ v).heap[p]? = some (.cells (cs.setIfInBounds j v) t (0, 0)) := by
 rw [setCell_eq_setRow _ p j cs t (0, 0) _ h];exact setRow_heap _ p cs _ t _ h
theorem heap_set_other (w : World) (p j k : Nat) (v : Value) (h : k ≠ p) : (w.setCell ⟨p, j, none⟩ v).heap[k]? = w.heap[k]? := RowKit.Below.heap_setCell _ _ _ _ (fun e => h e)
end Go.Proofs.YtcaehfkfohianaaGreat.Nt
namespace Go.Proofs.YtcaehfkfohianaaGreat.Nt
def poly : Nat := 3988292384
def ones : Nat := 4294967295
def stp (r : Nat) : Nat := (r / 2) ^^^ (if r % 2 = 1 then poly else 0)
def stps : Nat → Nat → Nat
 | 0, r => r
 | k + 1, r => stps k (stp r)
theorem poly_lt : poly < 2 ^ 32 := by decide
theorem stp_lt (a : Nat) (h : a < 2 ^ 32) : stp a < 2 ^ 32 := by
 unfold stp;refine Nat.xor_lt_two_pow (by omega) ?_
 split
 ·exact poly_lt
 ·decide
theorem stps_lt (k a : Nat) (h : a < 2 ^ 32) : stps k a < 2 ^ 32 := by
 induction k generalizing a with
 | zero => exact h
 | succ k ih => exact ih _ (stp_lt a h)
def feed (r : Nat) (b : UInt8) : Nat := stps 8 (r ^^^ b.toNat)
def crc (r : Nat) (l : List UInt8) : Nat := l.foldl feed r
def sumN (l : List UInt8) : Nat := crc ones l ^^^ ones
theorem ones_lt : ones < 2 ^ 32 := by decide
theorem byte_lt (b : UInt8) : b.toNat < 2 ^ 32 := by have := UInt8.toNat_lt b; omega
theorem feed_lt (r : Nat) (b : UInt8) (h : r < 2 ^ 32) : feed r b < 2 ^ 32 := stps_lt 8 _ (Nat.xor_lt_two_pow h (byte_lt b))
theorem crc_lt (l : List UInt8) (r : Nat) (h : r < 2 ^ 32) : crc r l < 2 ^ 32 := by
 induction l generalizing r with
 | nil => exact h
 | cons b l ih => exact ih _ (feed_lt r b h)
theorem sumN_lt (l : List UInt8) : sumN l < 2 ^ 32 := Nat.xor_lt_two_pow (crc_lt l _ ones_lt) ones_lt
theorem crc_append (r : Nat) (l m : List UInt8) : crc r (l ++ m) = crc (crc r l) m := by simp [crc]
theorem crc_snoc (r : Nat) (l : List UInt8) (b : UInt8) : crc r (l ++ [b]) = feed (crc r l) b := by rw [crc_append]; rfl
end Go.Proofs.YtcaehfkfohianaaGreat.Nt
namespace Go.Proofs.YtcaehfkfohianaaGreat.Nt
open Go.RowKit
theorem and1_u32 (r : Nat) (h : r < 4294967296) : bits BinOp.and IntKind.u32 (r : Int) 1 = ((r % 2 : Nat) : Int) := by
 have := u32_and_nat r 1 h (by decide);rw [Nat.and_one_is_mod] at this;exact this
theorem xorp_u32 (r : Nat) (h : r < 4294967296) : bits BinOp.xor IntKind.u32 (r : Int) 3988292384 = ((r ^^^ poly : Nat) : Int) :=
 u32_xor_nat r 3988292384 h (by decide)
set_option maxHeartbeats 1000000 in
theorem steps_any (r : Nat) (w : World) (h : r < 4294967296) :
  Calls Tryz.prog 202 #[.int .u32 r] w fun e w' => e = .returned (.int .u32 (stps 8 r : Nat)) ∧ w' = w := by
 go_enter Tryz.func202, Tryz.ntmps202
 go_wp2
 go_loopw [0, 4] (fun x i wr => ∃ (k m : Nat), i = .int .i64 (k : Int) ∧ x = .int .u32 (m : Int) ∧ k ≤ 8 ∧ m < 4294967296 ∧ stps 8 r = stps (8 - k) m ∧ wr = w) (fun _ i _ => (8 - Go.RowKit.intOf i).toNat)
 case atStart => exact ⟨0, r, rfl, rfl, by omega, h, rfl, rfl⟩
 case round =>
  obtain ⟨k, m, rfl, rfl, hk, hm, hq, rfl⟩ := hrel;have Hq := hideIt hq;clear hq;have ha := and1_u32 m hm
  by_cases hlt : k < 8
  ·have hlt' : (k : Int) < 8 := by omega
   rcases Nat.mod_two_eq_zero_or_one m with h2 | h2
   ·rw [h2] at ha;have Hs := hideIt (show stp m = m / 2 by unfold stp; rw [h2]; simp)
    clear h2;go_wp2
    go_roundw
    case rel =>
     refine ⟨k + 1, m / 2, by simp, by go_num, by omega, by omega, ?_, trivial⟩;rw [Hq.out, show 8 - k = (8 - (k + 1)) + 1 by omega, ← Hs.out]; rfl
    case measure => simp [Go.RowKit.intOf]; omega
   ·rw [h2] at ha;have hx := xorp_u32 (m / 2) (by omega);have Hs := hideIt (show stp m = m / 2 ^^^ poly by unfold stp; rw [h2]; simp)
    have Hl := hideIt (stp_lt m (by omega));clear h2;go_wp2
    go_roundw
    case rel =>
     refine ⟨k + 1, stp m, by simp, ?_, by omega, by have := Hl.out; omega, ?_, trivial⟩
     ·rw [Hs.out]; simp_all
     ·rw [Hq.out, show 8 - k = (8 - (k + 1)) + 1 by omega]; rfl
    case measure => simp [Go.RowKit.intOf]; omega
  ·have hlt' : ¬ (k : Int) < 8 := by omega
   go_wp2;go_ret;rw [Hq.out, show 8 - k = 0 by omega]
   exact ⟨rfl, rfl⟩
theorem xorb_u32 (r : Nat) (b : UInt8) (h : r < 4294967296) : bits BinOp.xor IntKind.u32 (r : Int) (b.toNat : Int) = ((r ^^^ b.toNat : Nat) : Int) :=
 u32_xor_nat r b.toNat h (by have := UInt8.toNat_lt b; omega)
theorem xoro_u32 (r : Nat) (h : r < 4294967296) : bits BinOp.xor IntKind.u32 IntKind.u32.max (r : Int) = ((r ^^^ ones : Nat) : Int) := by
 rw [Nat.xor_comm];exact u32_xor_nat 4294967295 r (by decide) h
theorem crc_take (r : Nat) (s : ByteArray) (j : Nat) (h : j < s.size) : crc r (s.data.toList.take (j + 1)) = feed (crc r (s.data.toList.take j)) s[j] := by
 rw [List.take_succ_eq_append_getElem (by simpa using h), crc_snoc]
 rfl
theorem feed_lt' (r : Nat) (b : UInt8) (h : r < 4294967296) : feed r b < 4294967296 := feed_lt r b h
theorem xorb_lt (r : Nat) (b : UInt8) (h : r < 4294967296) : r ^^^ b.toNat < 4294967296 := Nat.xor_lt_two_pow (n := 32) h (by have := UInt8.toNat_lt b; omega)
set_option maxHeartbeats 4000000 in
set_option maxRecDepth 100000 in
theorem sum2_any (g : Nat) (a b : ByteArray) (w : World) (ha : a.size ≤ 9223372036854775807) (hb : b.size ≤ 9223372036854775807) (hc0 : w.cell? ⟨g, 0, none⟩ = some (.string a)) (hc1 : w.cell? ⟨g, 1, none⟩ = some (.string b)) :
  Calls Tryz.prog 185 #[.slice (some ⟨g, 0, none⟩) 2 2] w fun e w' => e = .returned (.int .u32 (sumN (a.data.toList ++ b.data.toList) : Nat)) ∧ w' = w := by
 go_enter Tryz.func185, Tryz.ntmps185
 go_wp2
 go_loopw [3, 9] (fun x i wr => ∃ (k m : Nat) (pre : List UInt8) (t : ByteArray) (post : List UInt8), i = .int .i64 (k : Int) ∧ x = .int .u32 (m : Int) ∧ k ≤ 2 ∧ m < 4294967296 ∧ Hid (m = crc ones pre) ∧ Hid (k < 2 → w.cell? ⟨g, k, none⟩ = some (.string t) ∧ t.size ≤ 9223372036854775807) ∧ Hid ((k = 0 ∧ pre = [] ∧ t = a) ∨ (k = 1 ∧ pre = a.data.toList ∧ t = b) ∨ (k = 2 ∧ pre = a.data.toList ++ b.data.toList)) ∧ wr = w) (fun _ i _ => (2 - Go.RowKit.intOf i).toNat)
 case atStart => exact ⟨0, 4294967295, [], a, [], rfl, rfl, by omega, by omega, rfl, fun _ => ⟨hc0, ha⟩, Or.inl ⟨rfl, rfl, rfl⟩, rfl⟩
 case round =>
  obtain ⟨k, m, pre, t, post, rfl, rfl, hk, hm, Hm, Ht, Hk, rfl⟩ := hrel
  by_cases hlt : k < 2
  ·have hlt' : (k : Int) < 2 := by omega
   obtain ⟨hct, hts⟩ := Ht.out hlt;clear Ht;go_wp2
   go_loop [3, 15] (fun x j => ∃ (n q : Nat), j = .int .i64 (n : Int) ∧ x = .int .u32 (q : Int) ∧ n ≤ t.size ∧ q < 4294967296 ∧ Hid (q = crc m (t.data.toList.take n))) (fun _ j => (t.size - Go.RowKit.intOf j).toNat)
   case atStart => exact ⟨0, m, rfl, rfl, by omega, hm, by simp [Hid, crc]⟩
   case round =>
    obtain ⟨n, q, rfl, rfl, hn, hq, Hq⟩ := hrel
    by_cases hnl : n < t.size
    ·have hnl' : (n : Int) < t.size := by omega
     have hx : bits BinOp.xor IntKind.u32 (q : Int) ((t[n].toNat : Int) % 4294967296) = ((q ^^^ t[n].toNat : Nat) : Int) := by
      rw [show (t[n].toNat : Int) % 4294967296 = (t[n].toNat : Int) by have := UInt8.toNat_lt t[n]; omega]
      exact xorb_u32 q t[n] hq
     have hxl := xorb_lt q t[n] hq;have Hn : Hid (stps 8 (q ^^^ t[n].toNat) = crc m (t.data.toList.take (n + 1))) := by
      show _ = _
      rw [crc_take m t n hnl, ← Hq.out]; rfl
     have hfl : stps 8 (q ^^^ t[n].toNat) < 4294967296 := feed_lt' q t[n] hq
     go_wp2_with fail
     refine (steps_any _ _ hxl).mono ?_;rintro e w1 ⟨rfl, rfl⟩;dsimp only;go_wp2;refine ⟨⟨n + 1, stps 8 (q ^^^ t[n].toNat), by go_num, rfl, by omega, hfl, Hn⟩, by simp [Go.RowKit.intOf]; omega⟩
    ·have hnl' : ¬ (n : Int) < t.size := by omega
     have Hn : Hid (q = crc m t.data.toList) := by
      show _ = _
      rw [Hq.out, List.take_of_length_le (by simp; omega)]
     clear Hq;go_wp2
     go_roundw
     case rel =>
      rcases Hk.out with ⟨rfl, rfl, rfl⟩ | ⟨rfl, rfl, rfl⟩ | ⟨rfl, _⟩
      ·exact ⟨1, q, t.data.toList, b, [], by go_num, rfl, by omega, hq, by show _ = _; rw [Hn.out, Hm.out]; rfl, fun _ => ⟨hc1, hb⟩, Or.inr (Or.inl ⟨rfl, rfl, rfl⟩), trivial⟩
      ·exact ⟨2, q, _, t, [], by go_num, rfl, by omega, hq, by show _ = _; rw [Hn.out, Hm.out]; exact (crc_append _ _ _).symm, fun h => absurd h (by omega), Or.inr (Or.inr ⟨rfl, rfl⟩), trivial⟩
      ·omega
     case measure => simp [Go.RowKit.intOf]; omega
  ·have hlt' : ¬ (k : Int) < 2 := by omega
   have hxo := xoro_u32 m hm;go_wp2;go_ret
   rcases Hk.out with ⟨rfl, _⟩ | ⟨rfl, _⟩ | ⟨rfl, rfl⟩
   ·omega
   ·omega
   ·exact ⟨by unfold sumN; rw [← Hm.out]; rfl, rfl⟩
end Go.Proofs.YtcaehfkfohianaaGreat.Nt
namespace Go.Proofs.YtcaehfkfohianaaGreat.Nt
def uform : Nat → Nat → List UInt8
 | 0, n => [UInt8.ofNat n]
 | f + 1, n => if n < 128 then [UInt8.ofNat n] else UInt8.ofNat (128 + n % 128) :: uform f (n / 128)
def uintL (n : Nat) : List UInt8 := uform 9 n
theorem uform_small (f n : Nat) (h : n < 128) : uform f n = [UInt8.ofNat n] := by
 cases f with
 | zero => rfl
 | succ f => simp [uform, h]
theorem uform_big (f n : Nat) (h : 128 ≤ n) : uform (f + 1) n = UInt8.ofNat (128 + n % 128) :: uform f (n / 128) := by
 simp [uform, Nat.not_lt.2 h]
theorem uform_len (f n : Nat) : (uform f n).length ≤ f + 1 ∧ 1 ≤ (uform f n).length := by
 induction f generalizing n with
 | zero => simp [uform]
 | succ f ih =>
  unfold uform
  split
  ·simp
  ·have := ih (n / 128); simp; omega
theorem uintL_len (n : Nat) : (uintL n).length ≤ 10 ∧ 1 ≤ (uintL n).length := uform_len 9 n
def room (k m : Nat) : Prop := m * 128 ^ k < 18446744073709551616
theorem room_zero (n : Nat) (h : n < 18446744073709551616) : room 0 n := by simpa [room] using h
theorem room_step (k m : Nat) (h : room k m) : room (k + 1) (m / 128) := by
 unfold room at *;have h1 : m / 128 * 128 ≤ m := Nat.div_mul_le_self m 128;have h2 : m / 128 * 128 * 128 ^ k ≤ m * 128 ^ k := Nat.mul_le_mul_right _ h1;have h3 : m / 128 * 128 ^ (k + 1) = m / 128 * 128 * 128 ^ k := by rw [Nat.pow_succ, Nat.mul_comm (128 ^ k), Nat.mul_assoc]
 omega
theorem room_nine (k m : Nat) (h : room k m) (hm : 128 ≤ m) : k < 9 := by
 unfold room at h;refine Nat.lt_of_not_le fun hk => ?_
 have h1 : 128 ^ 9 ≤ 128 ^ k := Nat.pow_le_pow_right (by decide) hk;have h2 : 128 * 128 ^ 9 ≤ m * 128 ^ k := Nat.mul_le_mul hm h1;have h3 : (128 : Nat) * 128 ^ 9 = 1180591620717411303424 := by decide
 omega
theorem room_le (k m : Nat) (h : room k m) : m < 18446744073709551616 := by
 unfold room at h;have h1 : 1 ≤ 128 ^ k := Nat.pos_of_ne_zero (by simp);have h2 : m * 1 ≤ m * 128 ^ k := Nat.mul_le_mul_left m h1;omega
def fin (a : Nat) (r : Nat × Nat × Nat) : Nat × Nat × Nat := if r.2.2 = 0 then (r.1, a + r.2.1, 0) else (0, 0, r.2.2)
end Go.Proofs.YtcaehfkfohianaaGreat.Nt
namespace Go.Proofs.YtcaehfkfohianaaGreat.Nt
open Go.RowKit
def blk (bs : List UInt8) : Array Value := (bs.map u8v ++ List.replicate (10 - bs.length) (Value.int .u8 0)).toArray
theorem blk_size (bs : List UInt8) (h : bs.length ≤ 10) : (blk bs).size = 10 := by simp [blk]; omega
theorem blk_at (bs : List UInt8) (h : bs.length < 10) : (blk bs)[bs.length]? = some (Value.int .u8 0) := by
 unfold blk;rw [List.getElem?_toArray, List.getElem?_append_right (by simp)]
 simp [List.getElem?_replicate]; omega
theorem blk_get (bs : List UInt8) (j : Nat) (h : j < bs.length) : (blk bs)[j]? = some (u8v bs[j]) := by
 unfold blk;rw [List.getElem?_toArray, List.getElem?_append_left (by simpa using h)]
 simp [List.getElem?_eq_getElem h]
theorem blk_set (bs : List UInt8) (b : UInt8) (h : bs.length < 10) : (blk bs).setIfInBounds bs.length (u8v b) = blk (bs ++ [b]) := by
 unfold blk;obtain ⟨r, hr⟩ : ∃ r, 10 - bs.length = r + 1 := ⟨10 - bs.length - 1, by omega⟩;have hr' : 10 - (bs ++ [b]).length = r := by simp; omega
 rw [hr, hr', List.setIfInBounds_toArray];rw [List.set_append]
 simp [List.replicate_succ]
theorem blk_nil : blk [] = #[Value.int IntKind.u8 0, Value.int IntKind.u8 0, Value.int IntKind.u8 0, Value.int IntKind.u8 0, Value.int IntKind.u8 0, Value.int IntKind.u8 0, Value.int IntKind.u8 0, Value.int IntKind.u8 0, Value.int IntKind.u8 0, Value.int IntKind.u8 0] := by rfl
theorem u8v_ofNat (n : Nat) (h : n < 256) : u8v (UInt8.ofNat n) = Value.int .u8 (n : Int) := by
 unfold u8v; rw [UInt8.toNat_ofNat_of_lt' (by simpa using h)]
theorem or128 (m : Nat) : bits BinOp.or IntKind.u8 ((m : Int) % 256) 128 = ((128 + m % 128 : Nat) : Int) := by
 have h : ∀ a : Fin 256, a.1 ||| 128 = 128 + a.1 % 128 := by decide +kernel
 have h2 := h ⟨m % 256, Nat.mod_lt _ (by decide)⟩;have h3 := u8_or_nat (m % 256) 128 (Nat.mod_lt _ (by decide)) (by decide);simp only at h2;rw [h2] at h3;have h4 : 128 + m % 256 % 128 = 128 + m % 128 := by omega
 rw [h4] at h3;exact h3
theorem slice53 (b h : Nat) (hh : h ≤ 10) (w : World) : (Instr.sliceAt 209 (Value.pointer (some { block := b, off := 0 })) none (some (Value.int IntKind.i64 (h : Int))) none).run Tryz.prog w = .ok (.slice (some ⟨b, 0, none⟩) h 10) w := by
 have hl : Tryz.prog.arrayLen 209 = 10 := by kernel_rfl
 have hu : Tryz.prog.underlying 209 = some (.array (Tryz.prog.arrayLen 209) (Tryz.prog.elem 209)) := by kernel_rfl
 have hz : (sizeOf (Tryz.prog.elem 209)).run Tryz.prog w = .ok 1 w := by kernel_rfl
 rw [run_sliceAt_array_h w 209 _ hu .i64 _ (by omega) (by rw [hl]; omega), hz, hl]
 simp [Result.andThen, slicedAt, Addr.add]
theorem conv_blk (w : World) (bs : List UInt8) (m : Nat) (hk : bs.length < 10) (hm : m < 256) :
  (convert 151 9 (.slice (some ⟨w.heap.size, 0, none⟩) (bs.length + 1) 10)).run Tryz.prog (w.alloc (Obj.cells ((blk bs).setIfInBounds bs.length (Value.int IntKind.u8 ↑m)) 209))
   = .ok (.string ⟨(bs ++ [UInt8.ofNat m]).toArray⟩) (w.alloc (Obj.cells ((blk bs).setIfInBounds bs.length (Value.int IntKind.u8 ↑m)) 209)) := by
 rw [← u8v_ofNat m hm, blk_set bs _ hk];have hcell : ∀ j (hj : j < (bs ++ [UInt8.ofNat m]).length), (w.alloc (Obj.cells (blk (bs ++ [UInt8.ofNat m])) 209)).cell? ((⟨w.heap.size, 0, none⟩ : Addr).add j) = some (.int .u8 ((bs ++ [UInt8.ofNat m])[j].toNat : Int)) := by
  intro j hj;have := blk_get (bs ++ [UInt8.ofNat m]) j hj;have e : (⟨w.heap.size, 0, none⟩ : Addr).add j = ⟨w.heap.size, j, none⟩ := by cases j <;> simp [Addr.add]
  rw [e]
  simp [this, u8v]
 have h := run_convert_bytes_back (P := Tryz.prog) (w.alloc (Obj.cells (blk (bs ++ [UInt8.ofNat m])) 209)) 151 9 5 ⟨w.heap.size, 0, none⟩ 10 (bs ++ [UInt8.ofNat m]) (by kernel_rfl) (by kernel_rfl) (by kernel_rfl) hcell
 simpa using h
set_option maxHeartbeats 400000 in
theorem uint_any (n : Nat) (w : World) (h1 : n < 18446744073709551616) :
  Calls Tryz.prog 203 #[.int .u64 n] w fun e w' => e = .returned (.string ⟨(uintL n).toArray⟩) ∧ Below w.heap.size w w' := by
 go_enter Tryz.func203, Tryz.ntmps203
 go_wp2
 go_loopw [0, 4] (fun x l wr => ∃ (bs : List UInt8) (m : Nat), l = .int .i64 (bs.length : Int) ∧ x = .int .u64 (m : Int) ∧ bs.length ≤ 9 ∧ room bs.length m ∧ uintL n = bs ++ uform (9 - bs.length) m ∧ wr = w.alloc (.cells (blk bs) 209)) (fun x _ _ => (Go.RowKit.intOf x).toNat)
 case atStart => exact ⟨[], n, rfl, rfl, by simp, room_zero n h1, rfl, by rw [blk_nil]⟩
 case round =>
  obtain ⟨bs, m, rfl, rfl, hk, hm, hq, rfl⟩ := hrel;have Hq : Hid (uintL n = bs ++ uform (9 - bs.length) m) := hq;clear hq;have hsz := blk_size bs (by omega);have hat := blk_at bs (by omega);have hml := room_le _ _ hm
  by_cases hlt : 128 ≤ m
  ·have hk9 : bs.length < 9 := room_nine _ _ hm hlt;have hlt' : (128:Int) ≤ m := by omega
   go_wp2
   go_roundw
   case rel =>
    refine ⟨bs ++ [UInt8.ofNat (128 + m % 128)], m / 128, by simp, by go_num, by simp; omega, ?_, ?_, ?_⟩
    ·simpa using room_step _ _ hm
    ·rw [Hq.out, show 9 - bs.length = (9 - (bs ++ [UInt8.ofNat (128 + m % 128)]).length) + 1 by simp; omega, uform_big _ _ hlt]; simp
    ·rw [← blk_set bs _ (by omega), u8v_ofNat _ (by omega), or128]
   case measure => simp [Go.RowKit.intOf]; omega
  ·have hlt' : ¬ (128:Int) ≤ m := by omega
   have hs : ∀ wx, (Instr.sliceAt 209 (Value.pointer (some { block := w.heap.size, off := 0 })) none (some (Value.int IntKind.i64 (↑bs.length + 1))) none).run Tryz.prog wx = .ok (.slice (some ⟨w.heap.size, 0, none⟩) (bs.length + 1) 10) wx := fun wx => by
    have := slice53 w.heap.size (bs.length + 1) (by omega) wx
    simpa using this
   have hc := conv_blk w bs m (by omega) (by omega);go_wp2;go_ret;have e1 : uintL n = bs ++ [UInt8.ofNat m] := by rw [Hq.out, uform_small _ _ (by omega)]
   rw [e1]
   exact ⟨rfl, (Below.refl _ _).alloc (Nat.le_refl _) _⟩
def wordL (n : Nat) : List UInt8 := [UInt8.ofNat (n / 16777216), UInt8.ofNat (n / 65536 % 256), UInt8.ofNat (n / 256 % 256), UInt8.ofNat (n % 256)]
theorem conv_fresh (w : World) (bs : List UInt8) (cs : Array Value) (n : Nat) (hn : n = bs.length) (h : cs = (bs.map u8v).toArray) :
  (convert 151 9 (.slice (some ⟨w.heap.size, 0, none⟩) n n)).run Tryz.prog (w.alloc (Obj.cells cs 5)) = .ok (.string ⟨bs.toArray⟩) (w.alloc (Obj.cells cs 5)) := by
 subst h hn;refine run_convert_bytes_back (P := Tryz.prog) _ 151 9 5 ⟨w.heap.size, 0, none⟩ _ bs (by kernel_rfl) (by kernel_rfl) (by kernel_rfl) ?_;intro j hj;have e : (⟨w.heap.size, 0, none⟩ : Addr).add j = ⟨w.heap.size, j, none⟩ := by cases j <;> simp [Addr.add]
 rw [e]
 simp [hj, u8v]
theorem word_cells (n : Nat) (h : n < 4294967296) : #[Value.int IntKind.u8 ((n : Int) / 16777216), Value.int IntKind.u8 ((n : Int) / 65536 % 256), Value.int IntKind.u8 ((n : Int) / 256 % 256), Value.int IntKind.u8 ((n : Int) % 256)] = ((wordL n).map u8v).toArray := by
 simp only [wordL, List.map_cons, List.map_nil];rw [u8v_ofNat _ (by omega), u8v_ofNat _ (by omega), u8v_ofNat _ (by omega), u8v_ofNat _ (by omega)]
 simp
set_option maxHeartbeats 1000000 in
set_option maxRecDepth 100000 in
theorem word_any (n : Nat) (w : World) (h : n < 4294967296) :
  Calls Tryz.prog 184 #[.int .u32 n] w fun e w' => e = .returned (.string ⟨(wordL n).toArray⟩) ∧ Below w.heap.size w w' := by
 have hc := conv_fresh w (wordL n) _ 4 rfl (word_cells n h)
 go_enter Tryz.func184, Tryz.ntmps184
 go_wp2;go_ret
 exact ⟨rfl, (Below.refl _ _).alloc (Nat.le_refl _) _⟩
set_option maxHeartbeats 1000000 in
theorem cat_eq (l : List UInt8) (s : ByteArray) : (⟨l.toArray⟩ : ByteArray) ++ s = ⟨(l ++ s.data.toList).toArray⟩ := by
 apply ByteArray.ext
 simp
set_option maxHeartbeats 1000000 in
theorem text_in (s : ByteArray) (w : World) (hs : s.size ≤ 60000) :
  Calls Tryz.prog 206 #[.string s] w fun e w' => e = .returned (.tuple #[.string ⟨(uintL s.size ++ s.data.toList).toArray⟩, .int .i64 0]) ∧ Below w.heap.size w w' := by
 have h' : ¬ ((60000 : Int) < s.size) := by omega
 have hcat : ¬ 9223372036854775807 < (uintL s.size).length + s.size := by have := uintL_len s.size; omega
 go_enter Tryz.func206, Tryz.ntmps206
 go_wp2_with fail
 refine (uint_any s.size _ (by omega)).mono ?_;rintro e w1 ⟨rfl, hb⟩;go_wp2
 go_ret2
 rw [cat_eq]
 exact ⟨rfl, hb⟩
set_option maxHeartbeats 1000000 in
theorem text_out (s : ByteArray) (w : World) (hs : 60000 < s.size) (_hm : s.size ≤ 9223372036854775807) :
  Calls Tryz.prog 206 #[.string s] w fun e w' => e = .returned (.tuple #[.string ⟨#[]⟩, .int .i64 2]) ∧ Below w.heap.size w w' := by
 have h' : (60000 : Int) < s.size := by omega
 go_enter Tryz.func206, Tryz.ntmps206
 go_wp2
 go_ret2
 exact ⟨rfl, Below.refl _ _⟩
def textL (l : List UInt8) : List UInt8 := if l.length ≤ 60000 then uintL l.length ++ l else []
def textE (l : List UInt8) : Nat := if l.length ≤ 60000 then 0 else 2
theorem text_any (s : ByteArray) (w : World) (hm : s.size ≤ maxLen) :
  Calls Tryz.prog 206 #[.string s] w fun e w' => e = .returned (.tuple #[.string ⟨(textL s.data.toList).toArray⟩, .int .i64 (textE s.data.toList : Int)]) ∧ Below w.heap.size w w' := by
 unfold maxLen at hm;have hl : s.data.toList.length = s.size := by simp
 by_cases h : s.size ≤ 60000
 ·have := text_in s w h
  simpa [textL, textE, hl, h] using this
 ·have := text_out s w (by omega) (by omega)
  simpa [textL, textE, hl, h] using this
def frameL (l : List UInt8) : List UInt8 := wordL l.length ++ wordL (sumN (wordL l.length ++ l)) ++ l
theorem wordL_len (n : Nat) : (wordL n).length = 4 := rfl
theorem sumN_lt' (l : List UInt8) : sumN l < 4294967296 := sumN_lt l
set_option maxHeartbeats 1000000 in
set_option maxRecDepth 100000 in
theorem frame_in (s : ByteArray) (w : World) (hs : s.size ≤ 70000) :
  Calls Tryz.prog 160 #[.string s] w fun e w' => e = .returned (.tuple #[.string ⟨(frameL s.data.toList).toArray⟩, .int .i64 0]) ∧ Below w.heap.size w w' := by
 have h' : ¬ ((70000 : Int) < s.size) := by omega
 have hw := wordL_len s.size;have hw2 := wordL_len (sumN (wordL s.size ++ s.data.toList));have hcat : ¬ 9223372036854775807 < 4 + 4 + s.size := by omega
 have hcat2 : ¬ 9223372036854775807 < 8 + s.size := by omega
 have hsum := sumN_lt' ((⟨(wordL s.size).toArray⟩ : ByteArray).data.toList ++ s.data.toList)
 go_enter Tryz.func160, Tryz.ntmps160
 go_wp2_with fail
 refine (word_any s.size _ (by omega)).mono ?_;rintro e w1 ⟨rfl, hb⟩;dsimp only
 go_wp2_with fail
 refine (sum2_any w1.heap.size ⟨(wordL s.size).toArray⟩ s _ (by decide +kernel : (4:Nat) ≤ 9223372036854775807) (by omega) (by simp) (by simp)).mono ?_;rintro e w2 ⟨rfl, rfl⟩;dsimp only
 go_wp2_with fail
 refine (word_any _ _ hsum).mono ?_;rintro e w2 ⟨rfl, hb2⟩;dsimp only;go_wp2
 go_ret2
 refine ⟨?_, hb.trans (((Below.refl _ _).alloc hb.size _).trans (hb2.mono (by have := hb.size; simp; omega)))⟩
 rw [cat_eq, cat_eq]
 simp [frameL]
def i64B (x : Int) : Prop := -9223372036854775808 ≤ x ∧ x ≤ 9223372036854775807
def wiB (x lo hi : Int) : Bool := decide (lo ≤ x ∧ x ≤ hi)
set_option maxHeartbeats 1000000 in
theorem within_is (x lo hi : Int) (w : World) : Calls Tryz.prog 179 #[.int .i64 x, .int .i64 lo, .int .i64 hi] w fun e w' => e = .returned (.bool (wiB x lo hi)) ∧ w' = w := by
 unfold wiB
 by_cases h : lo ≤ x
 ·go_enter Tryz.func179, Tryz.ntmps179
  go_wp2;go_ret
  exact ⟨by simp [h], rfl⟩
 ·go_enter Tryz.func179, Tryz.ntmps179
  go_wp2;go_ret
  exact ⟨by rw [decide_eq_false (by omega)]; rfl, rfl⟩
theorem isNode_is (x : Int) (w : World) : Calls Tryz.prog 178 #[.int .i64 x] w fun e w' => e = .returned (.bool (wiB x 1 7)) ∧ w' = w := by
 have H := hideIt (within_is x 1 7 w)
 go_enter Tryz.func178, Tryz.ntmps178
 go_wp2_with fail
 refine H.out.mono ?_;rintro e w1 ⟨rfl, rfl⟩;dsimp only;go_wp2;go_ret
 exact ⟨rfl, rfl⟩
structure MsgV where
 kind : Int
 frm : Int
 dst : Int
 term : Int
 pi : Int
 pt : Int
 ea : Option Addr
 en : Nat
 ec : Nat
 commit : Int
 ok : Bool
 mtch : Int
 si : Int
 st : Int
 text : ByteArray
def msgC (m : MsgV) : Array Value := #[.int .i64 m.kind, .int .i64 m.frm, .int .i64 m.dst, .int .i64 m.term, .int .i64 m.pi, .int .i64 m.pt, .slice m.ea m.en m.ec, .int .i64 m.commit, .bool m.ok, .int .i64 m.mtch, .int .i64 m.si, .int .i64 m.st, .string m.text]
def fldC (m : MsgV) : Array Value := #[.int .i64 m.pi, .int .i64 m.pt, .int .i64 (m.en : Int), .int .i64 m.commit, .bool m.ok, .int .i64 m.mtch, .int .i64 m.si, .int .i64 m.st, .string m.text]
set_option maxHeartbeats 1000000 in
theorem fieldsOf_is (m : MsgV) (w : World) : Calls Tryz.prog 180 #[.agg (msgC m)] w fun e w' => e = .returned (.agg (fldC m)) ∧ Below w.heap.size w w' := by
 obtain ⟨kind, frm, dst, term, pi, pt, ea, en, ec, commit, ok, mtch, si, st, text⟩ := m;simp only [msgC, fldC]
 go_enter Tryz.func180, Tryz.ntmps180
 go_wp2;exact bodyPost_ret (v := .agg #[.int .i64 pi, .int .i64 pt, .int .i64 (en : Int), .int .i64 commit, .bool ok, .int .i64 mtch, .int .i64 si, .int .i64 st, .string text]) (by simp [results, Tryz.results180, go_sem]) rfl ⟨rfl, ((Below.refl _ _).alloc (Nat.le_refl _) _).alloc (by simp) _⟩
structure FldV where
 pi : Int
 pt : Int
 en : Int
 commit : Int
 ok : Bool
 mtch : Int
 si : Int
 st : Int
 text : ByteArray
def eqF (a b : FldV) : Bool := a.pi == b.pi && a.pt == b.pt && a.en == b.en && a.commit == b.commit && (a.ok == b.ok) && a.mtch == b.mtch && a.si == b.si && a.st == b.st && (a.text.toList == b.text.toList)
theorem iteB (c : Prop) [Decidable c] (b : Bool) (w : World) : (if c then Result.ok (Value.bool b) w else Result.ok (Value.bool false) w) = Result.ok (Value.bool (decide c && b)) w := by
 by_cases h : c <;> simp [h]
set_option maxHeartbeats 4000000 in
theorem eq104 (a1 a2 a3 a4 a6 a7 a8 b1 b2 b3 b4 b6 b7 b8 : Int) (a5 b5 : Bool) (a9 b9 : ByteArray) (w : World) : (binOp .eql 182 (.agg #[.int .i64 a1, .int .i64 a2, .int .i64 a3, .int .i64 a4, .bool a5, .int .i64 a6, .int .i64 a7, .int .i64 a8, .string a9]) (.agg #[.int .i64 b1, .int .i64 b2, .int .i64 b3, .int .i64 b4, .bool b5, .int .i64 b6, .int .i64 b7, .int .i64 b8, .string b9])).run Tryz.prog w = .ok (.bool (eqF ⟨a1, a2, a3, a4, a5, a6, a7, a8, a9⟩ ⟨b1, b2, b3, b4, b5, b6, b7, b8, b9⟩)) w := by
 unfold eqF
 simp [go_sem]
 simp only [iteB]
 congr 2
 rw [Bool.eq_iff_iff];simp only [Bool.and_eq_true, decide_eq_true_eq, beq_iff_eq, and_true, and_assoc]
def mkB (i t : Int) : Bool := wiB i 0 1000000 && wiB t 0 1000000 && (t == 0) == (i == 0)
set_option maxHeartbeats 2000000 in
theorem isMark_is (i t : Int) (w : World) : Calls Tryz.prog 181 #[.agg #[.int .i64 i, .int .i64 t]] w fun e w' => e = .returned (.bool (mkB i t)) ∧ Below w.heap.size w w' := by
 have N1 := hideIt (fun W => within_is i 0 1000000 W);have N2 := hideIt (fun W => within_is t 0 1000000 W);unfold mkB;have HB := hideIt ((Below.refl w.heap.size w).alloc (Nat.le_refl _) (.cells #[.int .i64 i, .int .i64 t] 25));cases h1 : wiB i 0 1000000
 ·rw [h1] at N1
  go_enter Tryz.func181, Tryz.ntmps181
  go_wp2_with fail
  refine (N1.out _).mono ?_;rintro e w1 ⟨rfl, rfl⟩;dsimp only;go_wp2;go_ret
  exact ⟨rfl, HB.out⟩
 ·rw [h1] at N1;cases h2 : wiB t 0 1000000
  ·rw [h2] at N2
   go_enter Tryz.func181, Tryz.ntmps181
   go_wp2_with fail
   refine (N1.out _).mono ?_;rintro e w1 ⟨rfl, rfl⟩;dsimp only
   go_wp2_with fail
   refine (N2.out _).mono ?_;rintro e w1 ⟨rfl, rfl⟩;dsimp only;go_wp2;go_ret
   exact ⟨rfl, HB.out⟩
  ·rw [h2] at N2
   go_enter Tryz.func181, Tryz.ntmps181
   go_wp2_with fail
   refine (N1.out _).mono ?_;rintro e w1 ⟨rfl, rfl⟩;dsimp only
   go_wp2_with fail
   refine (N2.out _).mono ?_;rintro e w1 ⟨rfl, rfl⟩;dsimp only;go_wp2;go_ret
   exact ⟨by simp, HB.out⟩
def snB (i t : Int) (n : Nat) : Bool := mkB i t && decide (0 < i) && decide (n ≤ 50000)
set_option maxHeartbeats 2000000 in
theorem isSnap_is (i t : Int) (x : ByteArray) (w : World) : Calls Tryz.prog 183 #[.agg #[.int .i64 i, .int .i64 t, .string x]] w fun e w' => e = .returned (.bool (snB i t x.size)) ∧ Below w.heap.size w w' := by
 have N1 := hideIt (fun W => isMark_is i t W);unfold snB;have HB := hideIt ((Below.refl w.heap.size w).alloc (Nat.le_refl _) (.cells #[.int .i64 i, .int .i64 t, .string x] 27));cases h1 : mkB i t
 ·rw [h1] at N1
  go_enter Tryz.func183, Tryz.ntmps183
  go_wp2_with fail
  refine (N1.out _).mono ?_;rintro e w1 ⟨rfl, hb⟩;dsimp only;go_wp2;go_ret
  exact ⟨rfl, HB.out.trans (hb.mono (by simp))⟩
 ·rw [h1] at N1
  by_cases h2 : 0 < i
  ·have e : decide (x.size ≤ 50000) = decide ((x.size : Int) ≤ 50000) := by rw [decide_eq_decide]; omega
   rw [decide_eq_true h2, e];clear e
   go_enter Tryz.func183, Tryz.ntmps183
   go_wp2_with fail
   refine (N1.out _).mono ?_;rintro e w1 ⟨rfl, hb⟩;dsimp only;have d0 : w1.cell? ⟨w.heap.size, 0, none⟩ = some (.int .i64 i) := (hb.cell (p := ⟨w.heap.size, 0, none⟩) (by simp)).trans (by simp);have d2 : w1.cell? ⟨w.heap.size, 2, none⟩ = some (.string x) := (hb.cell (p := ⟨w.heap.size, 2, none⟩) (by simp)).trans (by simp);have HB2 := hideIt hb;clear hb;go_wp2;go_ret
   exact ⟨rfl, HB.out.trans (HB2.out.mono (by simp))⟩
  ·rw [decide_eq_false h2]
   go_enter Tryz.func183, Tryz.ntmps183
   go_wp2_with fail
   refine (N1.out _).mono ?_;rintro e w1 ⟨rfl, hb⟩;dsimp only;have d0 : w1.cell? ⟨w.heap.size, 0, none⟩ = some (.int .i64 i) := (hb.cell (p := ⟨w.heap.size, 0, none⟩) (by simp)).trans (by simp);have HB2 := hideIt hb;clear hb;go_wp2;go_ret
   exact ⟨rfl, HB.out.trans (HB2.out.mono (by simp))⟩
structure EntV where
 term : Int
 kind : Int
 text : ByteArray
def EntsAt (w : World) (a : Option Addr) (l : List EntV) : Prop :=
 ∀ i (h : i < l.length), ∃ b off, a = some ⟨b, off, none⟩ ∧ b < w.heap.size ∧ w.cell? ⟨b, off + i * 3, none⟩ = some (.int .i64 (l[i]).term) ∧ w.cell? ⟨b, off + i * 3 + 1, none⟩ = some (.int .i64 (l[i]).kind) ∧ w.cell? ⟨b, off + i * 3 + 2, none⟩ = some (.string (l[i]).text)
theorem EntsAt.below {w w' : World} {a : Option Addr} {l : List EntV} {B : Nat} (h : EntsAt w a l) (hb : Below B w w') (hB : w.heap.size ≤ B) : EntsAt w' a l := by
 intro i hi;obtain ⟨b, off, e, hl, h0, h1, h2⟩ := h i hi
 exact ⟨b, off, e, Nat.lt_of_lt_of_le hl hb.size, (hb.cell (p := ⟨b, off + i * 3, none⟩) (Nat.lt_of_lt_of_le hl hB)).trans h0, (hb.cell (p := ⟨b, off + i * 3 + 1, none⟩) (Nat.lt_of_lt_of_le hl hB)).trans h1, (hb.cell (p := ⟨b, off + i * 3 + 2, none⟩) (Nat.lt_of_lt_of_le hl hB)).trans h2⟩
def entB (e : EntV) : Bool := wiB e.term 1 1000000 && wiB e.kind 1 2 && decide (e.text.size ≤ 4000)
def entsB (l : List EntV) : Bool := decide (l.length ≤ 16) && l.all entB
theorem all_take_succ (l : List EntV) (t : Nat) (h : t < l.length) : (l.take (t + 1)).all entB = ((l.take t).all entB && entB l[t]) := by
 rw [List.take_succ_eq_append_getElem h, List.all_append];simp only [List.all_cons, List.all_nil, Bool.and_true]
set_option maxHeartbeats 4000000 in
set_option maxRecDepth 100000 in
theorem areEntries_is (a : Option Addr) (c : Nat) (l : List EntV) (w : World) (h : EntsAt w a l) : Calls Tryz.prog 182 #[.slice a l.length c] w fun e w' => e = .returned (.bool (entsB l)) ∧ Below w.heap.size w w' := by
 unfold entsB;have HH := hideIt h;clear h
 by_cases h16 : l.length ≤ 16
 ·have h16I : ¬ (16 : Int) < (l.length : Int) := by omega
  rw [decide_eq_true h16, Bool.true_and]
  go_enter Tryz.func182, Tryz.ntmps182
  go_wp2
  go_loopw [10] (fun v wr => ∃ t : Nat, v = .int .i64 t ∧ t ≤ l.length ∧ Hid ((l.take t).all entB = true ∧ Below w.heap.size w wr)) (fun v _ => l.length - (intOf v).toNat)
  case atStart => exact ⟨0, rfl, Nat.zero_le _, hideIt ⟨rfl, Below.refl _ _⟩⟩
  case round =>
   obtain ⟨t, rfl, ht, HR⟩ := hrel
   by_cases hlt : t < l.length
   ·have hltI : (t : Int) < (l.length : Int) := by omega
    have ht0 : (0 : Int) ≤ (t : Int) := by omega
    obtain ⟨b, off, rfl, hbl, q0, q1, q2⟩ := HH.out t hlt;have hB := HR.out.2;have hBS := hB.size;have c0 := (hB.cell (p := ⟨b, off + t * 3, none⟩) hbl).trans q0;have c1 := (hB.cell (p := ⟨b, off + t * 3 + 1, none⟩) hbl).trans q1;have c2 := (hB.cell (p := ⟨b, off + t * 3 + 2, none⟩) hbl).trans q2;have hblr : b < wr.heap.size := by omega
    have hat := all_take_succ l t hlt;have hel : ¬ entB l[t] = true → l.all entB = false := fun hn => by
     rw [Bool.eq_false_iff];intro hall;exact hn (List.all_eq_true.1 hall _ (List.getElem_mem hlt))
    have hB3 : Below w.heap.size w (wr.alloc (.cells #[.int .i64 (l[t]).term, .int .i64 (l[t]).kind, .string (l[t]).text] 55)) := hB.alloc (by omega) _;obtain ⟨et, ek, ex, hE⟩ : ∃ et ek ex, l[t] = ⟨et, ek, ex⟩ := ⟨_, _, _, rfl⟩;rw [hE] at c0 c1 c2 hat hel hB3;clear hE q0 q1 q2 hB;have HB3 := hideIt hB3;have HAT := hideIt hat;have HEL := hideIt hel;clear hB3 hat hel;have N1 := hideIt (fun W => within_is et 1 1000000 W);have N2 := hideIt (fun W => within_is ek 1 2 W);cases h1 : wiB et 1 1000000
    ·rw [h1] at N1
     go_wp2_with fail
     refine (N1.out _).mono ?_;rintro e w1 ⟨rfl, rfl⟩;dsimp only;go_wp2;go_ret
     exact ⟨by rw [HEL.out (by simp [entB, h1])]; rfl, HB3.out⟩
    ·rw [h1] at N1;cases h2 : wiB ek 1 2
     ·rw [h2] at N2
      go_wp2_with fail
      refine (N1.out _).mono ?_;rintro e w1 ⟨rfl, rfl⟩;dsimp only
      go_wp2_with fail
      refine (N2.out _).mono ?_;rintro e w1 ⟨rfl, rfl⟩;dsimp only;go_wp2;go_ret
      exact ⟨by rw [HEL.out (by simp [entB, h2])]; rfl, HB3.out⟩
     ·rw [h2] at N2
      by_cases h3 : ex.size ≤ 4000
      ·have h3I : ¬ (4000 : Int) < (ex.size : Int) := by omega
       go_wp2_with fail
       refine (N1.out _).mono ?_;rintro e w1 ⟨rfl, rfl⟩;dsimp only
       go_wp2_with fail
       refine (N2.out _).mono ?_;rintro e w1 ⟨rfl, rfl⟩;dsimp only;go_wp2
       go_roundw
       case rel => exact ⟨t + 1, by go_num, by omega, hideIt ⟨by rw [HAT.out, HR.out.1]; simp [entB, h1, h2, h3], HB3.out⟩⟩
       case measure => simp [intOf]; omega
      ·have h3I : (4000 : Int) < (ex.size : Int) := by omega
       go_wp2_with fail
       refine (N1.out _).mono ?_;rintro e w1 ⟨rfl, rfl⟩;dsimp only
       go_wp2_with fail
       refine (N2.out _).mono ?_;rintro e w1 ⟨rfl, rfl⟩;dsimp only;go_wp2;go_ret
       exact ⟨by rw [HEL.out (by simp [entB, h3])]; rfl, HB3.out⟩
   ·have hltI : ¬ (t : Int) < (l.length : Int) := by omega
    go_wp2;go_ret;have := HR.out.1;rw [List.take_of_length_le (by omega)] at this
    exact ⟨by rw [this]; rfl, HR.out.2⟩
 ·have h16I : (16 : Int) < (l.length : Int) := by omega
  rw [decide_eq_false h16, Bool.false_and]
  go_enter Tryz.func182, Tryz.ntmps182
  go_wp2;go_ret
  exact ⟨rfl, Below.refl _ _⟩
theorem cell_alloc {w : World} {o : Obj} {p j : Nat} (h : p < w.heap.size) : (w.alloc o).cell? ⟨p, j, none⟩ = w.cell? ⟨p, j, none⟩ := by
 unfold World.cell?
 simp only
 rw [heap_alloc_old w o h]
def headB (m : MsgV) : Bool := wiB m.frm 1 7 && wiB m.dst 1 7 && !(m.frm == m.dst) && wiB m.term 1 1000000
def fOf (m : MsgV) : FldV := ⟨m.pi, m.pt, (m.en : Int), m.commit, m.ok, m.mtch, m.si, m.st, m.text⟩
def bodyB (m : MsgV) (ents : Bool) : Bool :=
 if m.kind = 1 then eqF (fOf m) ⟨m.pi, m.pt, 0, 0, false, 0, 0, 0, ⟨#[]⟩⟩ && mkB m.pi m.pt
 else if m.kind = 2 then eqF (fOf m) ⟨0, 0, 0, 0, m.ok, 0, 0, 0, ⟨#[]⟩⟩
 else if m.kind = 3 then eqF (fOf m) ⟨m.pi, m.pt, (m.en : Int), m.commit, false, 0, 0, 0, ⟨#[]⟩⟩ && mkB m.pi m.pt && ents && wiB m.commit 0 1000000
 else if m.kind = 4 then eqF (fOf m) ⟨0, 0, 0, 0, m.ok, m.mtch, 0, 0, ⟨#[]⟩⟩ && wiB m.mtch 0 1000000
 else if m.kind = 5 then eqF (fOf m) ⟨0, 0, 0, 0, false, 0, m.si, m.st, m.text⟩ && snB m.si m.st m.text.size
 else false
def mayB (m : MsgV) (l : List EntV) : Bool := headB m && bodyB m (entsB l)
set_option maxHeartbeats 4000000 in
set_option maxRecDepth 100000 in
theorem mayBe_head (m : MsgV) (w : World) (h : headB m = false) : Calls Tryz.prog 159 #[.agg (msgC m)] w fun e w' => e = .returned (.bool false) ∧ Below w.heap.size w w' := by
 obtain ⟨kind, frm, dst, term, pi, pt, ea, en, ec, commit, ok, mtch, si, st, text⟩ := m;simp only [headB] at h;have HB := hideIt ((Below.refl w.heap.size w).alloc (Nat.le_refl _) (.cells (msgC ⟨kind, frm, dst, term, pi, pt, ea, en, ec, commit, ok, mtch, si, st, text⟩) 50));simp only [msgC] at HB ⊢;have N1 := hideIt (fun W => isNode_is frm W);have N2 := hideIt (fun W => isNode_is dst W);have N3 := hideIt (fun W => within_is term 1 1000000 W);cases h1 : wiB frm 1 7
 ·rw [h1] at N1;clear h
  go_enter Tryz.func159, Tryz.ntmps159
  go_wp2_with fail
  refine (N1.out _).mono ?_;rintro e w1 ⟨rfl, rfl⟩;dsimp only;go_wp2;go_ret
  exact ⟨rfl, HB.out⟩
 ·rw [h1] at N1 h;cases h2 : wiB dst 1 7
  ·rw [h2] at N2;clear h
   go_enter Tryz.func159, Tryz.ntmps159
   go_wp2_with fail
   refine (N1.out _).mono ?_;rintro e w1 ⟨rfl, rfl⟩;dsimp only
   go_wp2_with fail
   refine (N2.out _).mono ?_;rintro e w1 ⟨rfl, rfl⟩;dsimp only;go_wp2;go_ret
   exact ⟨rfl, HB.out⟩
  ·rw [h2] at N2 h
   by_cases h3 : frm = dst
   ·subst h3;clear h
    go_enter Tryz.func159, Tryz.ntmps159
    go_wp2_with fail
    refine (N1.out _).mono ?_;rintro e w1 ⟨rfl, rfl⟩;dsimp only
    go_wp2_with fail
    refine (N2.out _).mono ?_;rintro e w1 ⟨rfl, rfl⟩;dsimp only;go_wp2;go_ret
    exact ⟨rfl, HB.out⟩
   ·have h3b : (frm == dst) = false := beq_eq_false_iff_ne.2 h3;rw [h3b] at h;have h4 : wiB term 1 1000000 = false := by simpa using h
    rw [h4] at N3;clear h h3
    go_enter Tryz.func159, Tryz.ntmps159
    go_wp2_with fail
    refine (N1.out _).mono ?_;rintro e w1 ⟨rfl, rfl⟩;dsimp only
    go_wp2_with fail
    refine (N2.out _).mono ?_;rintro e w1 ⟨rfl, rfl⟩;dsimp only
    go_wp2_with fail
    refine (N3.out _).mono ?_;rintro e w1 ⟨rfl, rfl⟩;dsimp only;go_wp2;go_ret
    exact ⟨rfl, HB.out⟩
set_option maxHeartbeats 8000000 in
set_option maxRecDepth 100000 in
theorem mayBe_body (m : MsgV) (l : List EntV) (w : World) (h : headB m = true) (hl : EntsAt w m.ea l) (hn : m.en = l.length) : Calls Tryz.prog 159 #[.agg (msgC m)] w fun e w' => e = .returned (.bool (bodyB m (entsB l))) ∧ Below w.heap.size w w' := by
 obtain ⟨kind, frm, dst, term, pi, pt, ea, en, ec, commit, ok, mtch, si, st, text⟩ := m;simp only [headB, Bool.and_eq_true, Bool.not_eq_true'] at h;obtain ⟨⟨⟨h1, h2⟩, h3b⟩, h4⟩ := h;simp only at hl hn;subst hn;have HB := hideIt ((Below.refl w.heap.size w).alloc (Nat.le_refl _) (.cells (msgC ⟨kind, frm, dst, term, pi, pt, ea, l.length, ec, commit, ok, mtch, si, st, text⟩) 50));have HF := hideIt (fun W => fieldsOf_is ⟨kind, frm, dst, term, pi, pt, ea, l.length, ec, commit, ok, mtch, si, st, text⟩ W);simp only [msgC, fldC, bodyB, fOf] at HB HF ⊢;have N1 := hideIt (fun W => isNode_is frm W);have N2 := hideIt (fun W => isNode_is dst W);have N3 := hideIt (fun W => within_is term 1 1000000 W);rw [h1] at N1;rw [h2] at N2;rw [h4] at N3;have HE := hideIt (fun W (hb : Below w.heap.size w W) => areEntries_is ea ec l W (hl.below hb (Nat.le_refl _)));have NM := hideIt (fun W => isMark_is pi pt W);have NS := hideIt (fun W => isSnap_is si st text W);have NC := hideIt (fun W => within_is commit 0 1000000 W);have NT := hideIt (fun W => within_is mtch 0 1000000 W);clear h1 h2 h4 hl;have hE := eq104;obtain ⟨R, hR⟩ : ∃ R, R = (if kind = 1 then eqF ⟨pi, pt, (l.length : Int), commit, ok, mtch, si, st, text⟩ ⟨pi, pt, 0, 0, false, 0, 0, 0, ⟨#[]⟩⟩ && mkB pi pt
 else if kind = 2 then eqF ⟨pi, pt, (l.length : Int), commit, ok, mtch, si, st, text⟩ ⟨0, 0, 0, 0, ok, 0, 0, 0, ⟨#[]⟩⟩
 else if kind = 3 then eqF ⟨pi, pt, (l.length : Int), commit, ok, mtch, si, st, text⟩ ⟨pi, pt, (l.length : Int), commit, false, 0, 0, 0, ⟨#[]⟩⟩ && mkB pi pt && entsB l && wiB commit 0 1000000
 else if kind = 4 then eqF ⟨pi, pt, (l.length : Int), commit, ok, mtch, si, st, text⟩ ⟨0, 0, 0, 0, ok, mtch, 0, 0, ⟨#[]⟩⟩ && wiB mtch 0 1000000
 else if kind = 5 then eqF ⟨pi, pt, (l.length : Int), commit, ok, mtch, si, st, text⟩ ⟨0, 0, 0, 0, false, 0, si, st, text⟩ && snB si st text.size
 else false) := ⟨_, rfl⟩
 rw [← hR];have HR := hideIt hR;clear hR
 go_enter Tryz.func159, Tryz.ntmps159
 go_wp2_with fail
 refine (N1.out _).mono ?_;rintro e w1 ⟨rfl, rfl⟩;dsimp only
 go_wp2_with fail
 refine (N2.out _).mono ?_;rintro e w1 ⟨rfl, rfl⟩;dsimp only
 go_wp2_with fail
 refine (N3.out _).mono ?_;rintro e w1 ⟨rfl, rfl⟩;dsimp only
 go_wp2_with fail
 refine (HF.out _).mono ?_;rintro e w2 ⟨rfl, hb⟩;dsimp only;have hz : w.heap.size < w2.heap.size := by have := hb.size; simp at this; omega
 have d0 : w2.cell? ⟨w.heap.size, 0, none⟩ = some (.int .i64 kind) := (hb.cell (p := ⟨w.heap.size, 0, none⟩) (by simp)).trans (by simp);have d6 : w2.cell? ⟨w.heap.size, 6, none⟩ = some (.slice ea l.length ec) := (hb.cell (p := ⟨w.heap.size, 6, none⟩) (by simp)).trans (by simp);have hB2 : Below w.heap.size w w2 := HB.out.trans (hb.mono (by simp));have HB3 := hideIt (hB2.alloc (by omega) (.cells #[.int .i64 pi, .int .i64 pt, .int .i64 (l.length : Int), .int .i64 commit, .bool ok, .int .i64 mtch, .int .i64 si, .int .i64 st, .string text] 182));have HB2 := hideIt hB2;clear hb hB2 HB HF N1 N2 N3
 by_cases hk1 : kind = 1
 ·subst hk1;have hR := HR.out;rw [if_pos rfl] at hR;cases g1 : eqF ⟨pi, pt, (l.length : Int), commit, ok, mtch, si, st, text⟩ ⟨pi, pt, 0, 0, false, 0, 0, 0, ⟨#[]⟩⟩
  ·rw [g1] at hR;have HR2 := hideIt hR;clear hR;go_wp2;go_ret
   exact ⟨by rw [HR2.out]; rfl, HB3.out⟩
  ·rw [g1] at hR;have HR2 := hideIt hR;clear hR
   go_wp2_with fail
   refine (NM.out _).mono ?_;rintro e w3 ⟨rfl, hb3⟩;dsimp only;have HB4 := hideIt (HB3.out.trans (hb3.mono (by simp; omega)))
   clear hb3;go_wp2;go_ret
   exact ⟨by rw [HR2.out]; simp, HB4.out⟩
 have hk1b : (kind == 1) = false := beq_eq_false_iff_ne.2 hk1
 by_cases hk2 : kind = 2
 ·subst hk2;have hR := HR.out;rw [if_neg (by decide), if_pos rfl] at hR;have HR2 := hideIt hR;clear hR;go_wp2;go_ret
  exact ⟨by rw [HR2.out]; rfl, HB3.out⟩
 have hk2b : (kind == 2) = false := beq_eq_false_iff_ne.2 hk2
 by_cases hk3 : kind = 3
 ·subst hk3;have hR := HR.out;rw [if_neg (by decide), if_neg (by decide), if_pos rfl] at hR;have HB5 := hideIt (HB3.out.alloc (by simp; omega) (.cells #[.int .i64 pi, .int .i64 pt, .int .i64 (l.length : Int), .int .i64 commit, .bool false, .int .i64 0, .int .i64 0, .int .i64 0, .string ⟨#[]⟩] 182))
  cases g1 : eqF ⟨pi, pt, (l.length : Int), commit, ok, mtch, si, st, text⟩ ⟨pi, pt, (l.length : Int), commit, false, 0, 0, 0, ⟨#[]⟩⟩
  ·rw [g1] at hR;have HR2 := hideIt hR;clear hR;go_wp2;go_ret
   exact ⟨by rw [HR2.out]; rfl, HB5.out⟩
  ·rw [g1] at hR;cases g2 : mkB pi pt
   ·rw [g2] at hR NM;have HR2 := hideIt hR;clear hR
    go_wp2_with fail
    refine (NM.out _).mono ?_;rintro e w3 ⟨rfl, hb3⟩;dsimp only;have HB4 := hideIt (HB5.out.trans (hb3.mono (by simp; omega)))
    clear hb3;go_wp2;go_ret
    exact ⟨by rw [HR2.out]; rfl, HB4.out⟩
   ·rw [g2] at hR NM;cases g3 : entsB l
    ·rw [g3] at hR HE;have HR2 := hideIt hR;clear hR
     go_wp2_with fail
     refine (NM.out _).mono ?_;rintro e w3 ⟨rfl, hb3⟩;dsimp only;have HB4 := hideIt (HB5.out.trans (hb3.mono (by simp; omega)))
     have e6 : w3.cell? ⟨w.heap.size, 6, none⟩ = some (.slice ea l.length ec) := (hb3.cell (p := ⟨w.heap.size, 6, none⟩) (by show w.heap.size < _; simp; omega)).trans ((cell_alloc (by simp; omega)).trans ((cell_alloc hz).trans d6))
     have e3 : w3.cell? ⟨w2.heap.size, 3, none⟩ = some (.int .i64 commit) := (hb3.cell (p := ⟨w2.heap.size, 3, none⟩) (by show w2.heap.size < _; simp; omega)).trans ((cell_alloc (by simp)).trans (by rw [cell_at (heap_alloc_new w2 _)]; rfl))
     have hs3 := hb3.size
     simp at hs3
     clear hb3
     go_wp2_with fail
     refine (HE.out _ HB4.out).mono ?_;rintro e w4 ⟨rfl, hb4⟩;dsimp only;have HB6 := hideIt (HB4.out.trans (hb4.mono HB4.out.size));have f3 : w4.cell? ⟨w2.heap.size, 3, none⟩ = some (.int .i64 commit) := (hb4.cell (p := ⟨w2.heap.size, 3, none⟩) (by show w2.heap.size < w3.heap.size; omega)).trans e3
     clear hb4;go_wp2;go_ret
     exact ⟨by rw [HR2.out]; rfl, HB6.out⟩
    ·rw [g3] at hR HE;have HR2 := hideIt hR;clear hR
     go_wp2_with fail
     refine (NM.out _).mono ?_;rintro e w3 ⟨rfl, hb3⟩;dsimp only;have HB4 := hideIt (HB5.out.trans (hb3.mono (by simp; omega)))
     have e6 : w3.cell? ⟨w.heap.size, 6, none⟩ = some (.slice ea l.length ec) := (hb3.cell (p := ⟨w.heap.size, 6, none⟩) (by show w.heap.size < _; simp; omega)).trans ((cell_alloc (by simp; omega)).trans ((cell_alloc hz).trans d6))
     have e3 : w3.cell? ⟨w2.heap.size, 3, none⟩ = some (.int .i64 commit) := (hb3.cell (p := ⟨w2.heap.size, 3, none⟩) (by show w2.heap.size < _; simp; omega)).trans ((cell_alloc (by simp)).trans (by rw [cell_at (heap_alloc_new w2 _)]; rfl))
     have hs3 := hb3.size
     simp at hs3
     clear hb3
     go_wp2_with fail
     refine (HE.out _ HB4.out).mono ?_;rintro e w4 ⟨rfl, hb4⟩;dsimp only;have HB6 := hideIt (HB4.out.trans (hb4.mono HB4.out.size));have f3 : w4.cell? ⟨w2.heap.size, 3, none⟩ = some (.int .i64 commit) := (hb4.cell (p := ⟨w2.heap.size, 3, none⟩) (by show w2.heap.size < w3.heap.size; omega)).trans e3
     clear hb4
     go_wp2_with fail
     refine (NC.out _).mono ?_;rintro e w5 ⟨rfl, rfl⟩;dsimp only;go_wp2;go_ret
     exact ⟨by rw [HR2.out]; simp, HB6.out⟩
 have hk3b : (kind == 3) = false := beq_eq_false_iff_ne.2 hk3
 by_cases hk4 : kind = 4
 ·subst hk4;have hR := HR.out;rw [if_neg (by decide), if_neg (by decide), if_neg (by decide), if_pos rfl] at hR;cases g1 : eqF ⟨pi, pt, (l.length : Int), commit, ok, mtch, si, st, text⟩ ⟨0, 0, 0, 0, ok, mtch, 0, 0, ⟨#[]⟩⟩
  ·rw [g1] at hR;have HR2 := hideIt hR;clear hR;go_wp2;go_ret
   exact ⟨by rw [HR2.out]; rfl, HB3.out⟩
  ·rw [g1] at hR;have HR2 := hideIt hR;clear hR
   go_wp2_with fail
   refine (NT.out _).mono ?_;rintro e w3 ⟨rfl, rfl⟩;dsimp only;go_wp2;go_ret
   exact ⟨by rw [HR2.out]; simp, HB3.out⟩
 have hk4b : (kind == 4) = false := beq_eq_false_iff_ne.2 hk4
 by_cases hk5 : kind = 5
 ·subst hk5;have hR := HR.out;rw [if_neg (by decide), if_neg (by decide), if_neg (by decide), if_neg (by decide), if_pos rfl] at hR;cases g1 : eqF ⟨pi, pt, (l.length : Int), commit, ok, mtch, si, st, text⟩ ⟨0, 0, 0, 0, false, 0, si, st, text⟩
  ·rw [g1] at hR;have HR2 := hideIt hR;clear hR;go_wp2;go_ret
   exact ⟨by rw [HR2.out]; rfl, HB3.out⟩
  ·rw [g1] at hR;have HR2 := hideIt hR;clear hR
   go_wp2_with fail
   refine (NS.out _).mono ?_;rintro e w3 ⟨rfl, hb3⟩;dsimp only;have HB4 := hideIt (HB3.out.trans (hb3.mono (by simp; omega)))
   clear hb3;go_wp2;go_ret
   exact ⟨by rw [HR2.out]; simp, HB4.out⟩
 have hk5b : (kind == 5) = false := beq_eq_false_iff_ne.2 hk5;have hR := HR.out;rw [if_neg hk1, if_neg hk2, if_neg hk3, if_neg hk4, if_neg hk5] at hR;have HR2 := hideIt hR;clear hR hk1 hk2 hk3 hk4 hk5;go_wp2;go_ret
 exact ⟨by rw [HR2.out]; rfl, HB3.out⟩
theorem mayBe_is (m : MsgV) (l : List EntV) (w : World) (hl : EntsAt w m.ea l) (hn : m.en = l.length) : Calls Tryz.prog 159 #[.agg (msgC m)] w fun e w' => e = .returned (.bool (mayB m l)) ∧ Below w.heap.size w w' := by
 unfold mayB;cases h : headB m
 ·exact mayBe_head m w h
 ·exact mayBe_body m l w h hl hn
theorem cells_cat (l : List UInt8) (m : List UInt8) : Lib.byteCells l ++ Lib.strCells ⟨m.toArray⟩ = Lib.byteCells (l ++ m) := by
 rw [Lib.strCells_eq, Lib.byteCells_append]
theorem keepB {T e : TypeId} {B b : Nat} {p : Value} {bs : List Value} {w w' : World} (h : Lib.BuilderAt T e B b p bs w) (hb : Below w.heap.size w w') : Lib.BuilderAt T e B b p bs w' := by
 have hlt := h.lt;obtain ⟨hB, v, hk, hown, hne⟩ := h
 exact ⟨hB, v, (hb.block b hlt).trans hk, hown.kept (row := none) ⟨hb.os, hb.tape, hb.output, hb.size, fun k hk _ => hb.block k hk⟩ (by cases v.ownBlock <;> simp), hne⟩
theorem keepI {T e : TypeId} {B b : Nat} {bs : List Value} {w w' : World} (h : Lib.IsBuilder T e B b bs w) (hb : Below w.heap.size w w') : Lib.IsBuilder T e B b bs w' := by
 rcases h with h | h
 ·exact .inl (keepB h hb)
 ·exact .inr (keepB h hb)
theorem sizeL (l : List UInt8) : (⟨l.toArray⟩ : ByteArray).size = l.length := by show l.toArray.size = _; simp
theorem num_any (n : Nat) (w : World) (h : n < 9223372036854775808) :
  Calls Tryz.prog 186 #[.int .i64 n] w fun e w' => e = .returned (.string ⟨(uintL n).toArray⟩) ∧ Below w.heap.size w w' := by
 go_enter Tryz.func186, Tryz.ntmps186
 go_wp2_with fail
 refine (uint_any n _ (by omega)).mono ?_;rintro e w1 ⟨rfl, hb⟩;dsimp only;go_wp2;go_ret
 exact ⟨rfl, hb⟩
def flagL (b : Bool) : List UInt8 := if b then uintL 1 else uintL 0
theorem flag_any (b : Bool) (w : World) : Calls Tryz.prog 188 #[.bool b] w fun e w' => e = .returned (.string ⟨(flagL b).toArray⟩) ∧ Below w.heap.size w w' := by
 have H1 := hideIt (fun W => num_any 1 W (by decide));have H0 := hideIt (fun W => num_any 0 W (by decide));cases b
 ·go_enter Tryz.func188, Tryz.ntmps188
  go_wp2_with fail
  refine (H0.out _).mono ?_;rintro e w1 ⟨rfl, hb⟩;dsimp only;go_wp2;go_ret
  exact ⟨rfl, hb⟩
 ·go_enter Tryz.func188, Tryz.ntmps188
  go_wp2_with fail
  refine (H1.out _).mono ?_;rintro e w1 ⟨rfl, hb⟩;dsimp only;go_wp2;go_ret
  exact ⟨rfl, hb⟩
theorem piece_any (s : ByteArray) (w : World) (hs : s.size ≤ 60000) : Calls Tryz.prog 190 #[.string s] w fun e w' => e = .returned (.string ⟨(textL s.data.toList).toArray⟩) ∧ Below w.heap.size w w' := by
 have H := hideIt (text_any s w (by unfold maxLen; omega))
 go_enter Tryz.func190, Tryz.ntmps190
 go_wp2_with fail
 refine H.out.mono ?_;rintro e w1 ⟨rfl, hb⟩;dsimp only;go_wp2;go_ret
 exact ⟨rfl, hb⟩
def spotL (i t : Nat) : List UInt8 := uintL i ++ uintL t
set_option maxHeartbeats 2000000 in
set_option maxRecDepth 100000 in
theorem spot_any (t v : Nat) (w : World) (ht : t < 9223372036854775808) (hv : v < 9223372036854775808) :
  Calls Tryz.prog 187 #[.agg #[.int .i64 (t : Int), .int .i64 (v : Int)]] w fun e w' => e = .returned (.string ⟨(spotL t v).toArray⟩) ∧ Below w.heap.size w w' := by
 unfold spotL;have hcat : ¬ 9223372036854775807 < (uintL t).length + (uintL v).length := by have := uintL_len t; have := uintL_len v; omega
 have HC : ∀ (n : Nat), n < 9223372036854775808 → ∀ wx, Below (w.heap.size + 1) (w.alloc (Obj.cells #[.int .i64 (t : Int), .int .i64 (v : Int)] 25)) wx → Calls Tryz.prog 186 #[.int .i64 (n : Int)] wx fun e w' => e = .returned (.string ⟨(uintL n).toArray⟩) ∧ Below (w.heap.size + 1) (w.alloc (Obj.cells #[.int .i64 (t : Int), .int .i64 (v : Int)] 25)) w' ∧ w'.cell? ⟨w.heap.size, 0, none⟩ = some (.int .i64 (t : Int)) ∧ w'.cell? ⟨w.heap.size, 1, none⟩ = some (.int .i64 (v : Int)) := by
  intro n hn wx hx;refine (num_any n wx hn).mono ?_;rintro e w' ⟨rfl, hb⟩;have hsz := hx.size;have hb2 := hx.trans (hb.mono (by simpa using hsz))
  exact ⟨rfl, hb2, (hb2.cell (p := ⟨w.heap.size, 0, none⟩) (Nat.lt_succ_self _)).trans (by simp), (hb2.cell (p := ⟨w.heap.size, 1, none⟩) (Nat.lt_succ_self _)).trans (by simp)⟩
 have H1 := hideIt (HC t ht);have H2 := hideIt (HC v hv);have HF : Hid (∀ wx, Below (w.heap.size + 1) (w.alloc (Obj.cells #[.int .i64 (t : Int), .int .i64 (v : Int)] 25)) wx → Below w.heap.size w wx) := fun wx h => ((Below.refl _ w).alloc (Nat.le_refl _) _).trans (h.mono (Nat.le_succ _))
 clear HC
 go_enter Tryz.func187, Tryz.ntmps187
 go_upto_region 1 with fail
 go_cut [2] from 3 to 9 (fun x wx => x = .string ⟨(uintL t ++ uintL v).toArray⟩ ∧ Below w.heap.size w wx)
 case first =>
  go_region_held3 (fun w' => w'.cell? ⟨w.heap.size, 0, none⟩ = some (.int .i64 (t : Int)) ∧ w'.cell? ⟨w.heap.size, 1, none⟩ = some (.int .i64 (v : Int))) (go_keep) (first | (go_at_call 186; first | (refine (H1.out _ (by first | assumption | exact (Below.refl _ _).drew)).mono ?_; rintro e w5 ⟨rfl, hst, j1, j2⟩) | (refine (H2.out _ (by first | assumption | exact (Below.refl _ _).drew)).mono ?_; rintro e w5 ⟨rfl, hst, j1, j2⟩)))
  all_goals go_wp2_with fail
  all_goals go_meet
  all_goals exact ⟨by rw [cat_eq], HF.out _ hst⟩
 case rest =>
 obtain ⟨rfl, hb⟩ := hcut;go_wp2;go_ret
 exact ⟨rfl, hb⟩
def entL (e : EntV) : List UInt8 := uintL e.term.toNat ++ uintL e.kind.toNat ++ textL e.text.data.toList
def gathE (l : List EntV) (k : Nat) : List UInt8 := uintL l.length ++ ((l.take k).map entL).flatten
def entsL (l : List EntV) : List UInt8 := gathE l l.length
theorem textL_len (l : List UInt8) : (textL l).length ≤ 60010 := by
 unfold textL
 split
 ·have := uintL_len l.length; simp; omega
 ·simp
theorem entL_len (e : EntV) : (entL e).length ≤ 60030 := by
 have h1 := uintL_len e.term.toNat;have h2 := uintL_len e.kind.toNat;have h3 := textL_len e.text.data.toList;simp only [entL, List.length_append];omega
theorem flatE_len (ls : List EntV) : ((ls.map entL).flatten).length ≤ 60030 * ls.length := by
 induction ls with
 | nil => simp
 | cons l ls ih => have := entL_len l; simp at *; omega
theorem gathE_len (l : List EntV) (k : Nat) (h : l.length ≤ 16) : (gathE l k).length ≤ 1000000 := by
 have h1 := uintL_len l.length;have h2 := flatE_len (l.take k);have h3 : (l.take k).length ≤ 16 := by simp; omega
 have h4 : 60030 * (l.take k).length ≤ 60030 * 16 := Nat.mul_le_mul_left _ h3;simp only [gathE, List.length_append];omega
theorem gathE_step (l : List EntV) (k : Nat) (h : k < l.length) : gathE l (k + 1) = gathE l k ++ entL l[k] := by
 unfold gathE;rw [List.take_succ_eq_append_getElem h, List.map_append, List.flatten_append, List.append_assoc];simp only [List.map_cons, List.map_nil, List.flatten_cons, List.flatten_nil, List.append_nil]
theorem gathE_ne (l : List EntV) (k : Nat) : gathE l k ≠ [] := by
 have := uintL_len l.length;intro h;have h2 : (gathE l k).length = 0 := by rw [h]; rfl
 unfold gathE at h2;rw [List.length_append] at h2;omega
def EntOk (e : EntV) : Prop := 0 ≤ e.term ∧ e.term < 9223372036854775808 ∧ 0 ≤ e.kind ∧ e.kind < 9223372036854775808 ∧ e.text.size ≤ 60000
end Go.Proofs.YtcaehfkfohianaaGreat.Nt
