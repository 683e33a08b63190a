/- What the document's own Uint and Int (rialtoref01) answer: the same forms as package pack's. -/
import Derived.Test.YtagfolckodpioaaPkTakeText
import Derived.Maps.AppendAt
import Derived.OwnWalk
namespace Go.Proofs.Ytagfolckodpioaa
open Go.RowKit

theorem info5 : (Try.prog.info? 5).map (fun i => (i.zero, i.size, i.bytes)) = some (some (.int .u8 0), 1, 1) := by kernel_rfl
theorem conv_own (w : World) (base : Nat) (v : Value) (bs : List UInt8) (hpos : 0 < bs.length) (h : w.ownsRow base 5 1 v bs.length (bs.map u8v)) :
    (convert 46 9 v).run Try.prog w = .ok (.string ⟨bs.toArray⟩) w := by
  rcases h.2 with ⟨rfl, h0⟩ | ⟨g, cap, cur, rfl, hb, hc, hn, hm, hs, ht⟩
  · omega
  · have hcell : ∀ j (hj : j < bs.length), w.cell? ((⟨g, 0, none⟩ : Addr).add j) = some (.int .u8 (bs[j].toNat : Int)) := by
      intro j hj
      exact h.cells (g := g) rfl j _ (by simp [List.getElem?_eq_getElem hj, u8v])
    exact run_convert_bytes_back (P := Try.prog) w 46 9 5 ⟨g, 0, none⟩ cap bs (by kernel_rfl) (by kernel_rfl) (by kernel_rfl) hcell
theorem own_step {w wr w1 : World} {v v' : Value} {bs : List UInt8} {b : UInt8} {x : Value} {o : Obj} (hx : x = u8v b)
    (hown : wr.ownsRow w.heap.size 5 1 v bs.length (bs.map u8v)) (hnx : Below w.heap.size w wr)
    (hown' : w1.ownsRow w.heap.size 5 1 v' (bs.length + 1) (bs.map u8v ++ [x])) (hgrow : (wr.alloc o).grownBy w1 v.ownBlock) :
    w1.ownsRow w.heap.size 5 1 v' (bs ++ [b]).length ((bs ++ [b]).map u8v) ∧ Below w.heap.size w w1 := by
  subst hx
  refine ⟨by simpa using hown', (hnx.alloc hnx.size o).grown hgrow (by have := hnx.size; simp; omega) (fun j hj => (hown.lt j hj).1)⟩
theorem oneC (x : Int) : ∀ u ∈ [Value.int IntKind.u8 x], u.oneCell' = true := by intro u hu; simp at hu; subst hu; rfl
theorem q3 (n : Nat) (h : n ≤ 9) : n + 1 ≤ maxLen := by unfold maxLen; omega
theorem q4 (n : Nat) (h : n ≤ 9) : (n + 1) * 1 ≤ 140737488355328 := by omega
theorem q5 {k : Nat} {wr : World} (h : k ≤ wr.heap.size) (o : Obj) : k ≤ (wr.alloc o).heap.size := by simp; omega
set_option maxHeartbeats 1000000 in
set_option maxRecDepth 100000 in
theorem refUint_any (n : Nat) (w : World) (h1 : n < 18446744073709551616) :
    Calls Try.prog 71 #[.int .u64 n] w fun e w' => e = .returned (.string ⟨(uintL n).toArray⟩) ∧ Below w.heap.size w w' := by
  obtain ⟨i0, hi, hz0, hz1, hz2⟩ := info_parts info5
  go_enter Try.func71, Try.ntmps71
  go_wp2
  go_loopw [0, 3] (fun x v wr => ∃ (bs : List UInt8) (m : Nat), x = .int .u64 (m : Int) ∧ bs.length ≤ 9 ∧ m < 18446744073709551616 ∧ Hid (room bs.length m) ∧ Hid (uintL n = bs ++ uform (9 - bs.length) m) ∧ wr.ownsRow w.heap.size 5 1 v bs.length (bs.map u8v) ∧ Below w.heap.size w wr) (fun x _ _ => (intOf x).toNat)
  case atStart => exact ⟨[], n, rfl, by simp, h1, room_zero n h1, rfl, World.ownsRow_nil _ _ _ _, Below.refl _ _⟩
  case round =>
    obtain ⟨bs, m, rfl, hk, hml, Hr, Hq, hown, hnx⟩ := hrel
    have hsz := hnx.size
    by_cases hlt : 128 ≤ m
    · have hk9 : bs.length < 9 := room_nine _ _ Hr.out hlt
      have hlt' : (128:Int) ≤ m := by omega
      go_wp2_with (at_builtin; refine wpList_append_own _ rfl _ _ 46 rfl w.heap.size 5 i0 (.int .u8 0) 1 1 Try.underlying46 hi hz0 hz1 hz2 rfl (by decide) _ _ _ rfl (hown.alloc _) ⟨wr.heap.size, 0, none⟩ 1 1 [.int .u8 (128 + (m : Int) % 128)] rfl rfl (cell_one_new _ _ _) (oneC _) (q3 _ (by omega)) (q4 _ (by omega)) (q5 hsz _) ?_)
      · intro v' w1 hown' hgrow _
        obtain ⟨r1, r2⟩ := own_step (b := UInt8.ofNat (128 + m % 128)) (by rw [u8v_ofNat _ (by omega)]; go_num) hown hnx hown' hgrow
        go_wp2
        go_roundw
        case rel =>
          refine ⟨bs ++ [UInt8.ofNat (128 + m % 128)], m / 128, by go_num, by simp; omega, by omega, ?_, ?_, r1, r2⟩
          · show room _ _
            simpa using room_step _ _ Hr.out
          · show _ = _
            rw [Hq.out, show 9 - bs.length = (9 - (bs ++ [UInt8.ofNat (128 + m % 128)]).length) + 1 by simp; omega, uform_big _ _ hlt]; simp
        case measure => simp [intOf]; omega
    · have hlt' : ¬ (128:Int) ≤ m := by omega
      go_wp2_with (at_builtin; refine wpList_append_own _ rfl _ _ 46 rfl w.heap.size 5 i0 (.int .u8 0) 1 1 Try.underlying46 hi hz0 hz1 hz2 rfl (by decide) _ _ _ rfl (hown.alloc _) ⟨wr.heap.size, 0, none⟩ 1 1 [.int .u8 (m : Int)] rfl rfl (cell_one_new _ _ _) (oneC _) (q3 _ (by omega)) (q4 _ (by omega)) (q5 hsz _) ?_)
      · intro v' w1 hown' hgrow _
        obtain ⟨r1, r2⟩ := own_step (b := UInt8.ofNat m) (by rw [u8v_ofNat _ (by omega)]) hown hnx hown' hgrow
        have hc := conv_own w1 _ v' _ (by simp) r1
        have e1 : Hid (uintL n = bs ++ [UInt8.ofNat m]) := by show _ = _; rw [Hq.out, uform_small _ _ (by omega)]
        go_wp2
        go_ret
        rw [e1.out]
        exact ⟨rfl, r2⟩
set_option maxHeartbeats 1000000 in
theorem refText_in (s : ByteArray) (w : World) (hs : s.size ≤ 60000) :
    Calls Try.prog 72 #[.string s] w fun e w' => e = .returned (.tuple #[.string ⟨(uintL s.size ++ s.data.toList).toArray⟩, .int .i64 0]) ∧ Below w.heap.size w w' := by
  have h' : ¬ ((60000 : Int) < s.size) := by omega
  have hcat : ¬ 9223372036854775807 < (uintL s.size).length + s.size := by have := uintL_len s.size; omega
  go_enter Try.func72, Try.ntmps72
  go_wp2_with fail
  refine (refUint_any s.size _ (by omega)).mono ?_
  rintro e w1 ⟨rfl, hb⟩
  go_wp2
  go_ret2
  rw [cat_eq]
  exact ⟨rfl, hb⟩
theorem refText_out (s : ByteArray) (w : World) (hs : 60000 < s.size) (_hm : s.size ≤ 9223372036854775807) :
    Calls Try.prog 72 #[.string s] w fun e w' => e = .returned (.tuple #[.string ⟨#[]⟩, .int .i64 2]) ∧ Below w.heap.size w w' := by
  have h' : (60000 : Int) < s.size := by omega
  go_enter Try.func72, Try.ntmps72
  go_wp2
  go_ret2
  exact ⟨rfl, Below.refl _ _⟩
theorem refText_any (s : ByteArray) (w : World) (hm : s.size ≤ maxLen) :
    Calls Try.prog 72 #[.string s] w fun e w' => e = .returned (.tuple #[.string ⟨(textL s.data.toList).toArray⟩, .int .i64 (textE s.data.toList : Int)]) ∧ Below w.heap.size w w' := by
  unfold maxLen at hm
  have hl : s.data.toList.length = s.size := by simp
  by_cases h : s.size ≤ 60000
  · have := refText_in s w h
    simpa [textL, textE, hl, h] using this
  · have := refText_out s w (by omega) (by omega)
    simpa [textL, textE, hl, h] using this
end Go.Proofs.Ytagfolckodpioaa
