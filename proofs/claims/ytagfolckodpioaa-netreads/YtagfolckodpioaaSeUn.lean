/- What seal.Unframe answers: the text of the frame that stands there, or why there is none. -/
import Derived.Test.YtagfolckodpioaaSeFrame
import Derived.Test.YtagfolckodpioaaPkTakeText
import Derived.Deep.QuietTactic
import Derived.BigQuiet
namespace Go.Proofs.Ytagfolckodpioaa
open Go.RowKit

theorem clone_long (s : ByteArray) (w : World) (hlim : s.size ≤ 70000) :
    Calls Try.prog 51 #[.string s] w fun e w' => e = .returned (.string s) ∧ Below w.heap.size w w' := by
  go_enter Try.func51, Try.ntmps51
  go_wp2_with fail
  refine (Any.stringslite_Clone layClone s _ (by omega)).mono ?_
  rintro e w1 ⟨rfl, hb⟩
  go_wp2
  go_ret
  exact ⟨rfl, hb⟩
theorem piece_no (s : ByteArray) (n a b0 b1 : Nat) (w : World) (_hs : s.size ≤ 9223372036854775807) (_ha : a ≤ s.size) (_hn : n ≤ 70000) (hc0 : w.cell? ⟨b0, 0, none⟩ = some (.string s)) (hc1 : w.cell? ⟨b1, 0, none⟩ = some (.int .i64 (a : Int))) (h : s.size < a + n) :
    Calls Try.prog 87 #[.int .i64 (n : Int), .pointer (some ⟨b0, 0, none⟩), .pointer (some ⟨b1, 0, none⟩)] w fun e w' => e = .returned (.tuple #[.string ⟨#[]⟩, .bool false]) ∧ w' = w := by
  have h' : (s.size : Int) - a < n := by omega
  go_enter Try.func87, Try.ntmps87
  go_wp2
  go_ret2
  exact ⟨rfl, rfl⟩
set_option maxHeartbeats 1000000 in
theorem piece_yes (s : ByteArray) (n a b0 b1 : Nat) (w : World) (_hs : s.size ≤ 9223372036854775807) (_hn : n ≤ 70000) (hc0 : w.cell? ⟨b0, 0, none⟩ = some (.string s)) (hc1 : w.cell? ⟨b1, 0, none⟩ = some (.int .i64 (a : Int))) (hf1 : w.frozen? ⟨b1, 0, none⟩ = false) (h : a + n ≤ s.size) :
    Calls Try.prog 87 #[.int .i64 (n : Int), .pointer (some ⟨b0, 0, none⟩), .pointer (some ⟨b1, 0, none⟩)] w fun e w' => e = .returned (.tuple #[.string (s.extract a (a + n)), .bool true]) ∧ w' = w.setCell ⟨b1, 0, none⟩ (.int .i64 ((a + n : Nat) : Int)) := by
  have h' : ¬ (s.size : Int) - a < n := by omega
  have h2 : (a : Int) + n ≤ s.size := by omega
  go_enter Try.func87, Try.ntmps87
  go_wp2
  go_ret2
  exact ⟨rfl, by simp⟩
theorem pieces_any (s : ByteArray) (a : Nat) (w : World) :
    Calls Try.prog 76 #[.string s, .int .i64 (a : Int)] w fun e w' => e = .returned (.func (.func 87) #[] #[.pointer (some ⟨w.heap.size, 0, none⟩), .pointer (some ⟨w.heap.size + 1, 0, none⟩)]) ∧ w' = (w.alloc (Obj.cells #[.string s] 9)).alloc (Obj.cells #[.int .i64 (a : Int)] 3) := by
  have hmf : ∀ (fn : Fn) (first cap : Array Value) (w : World), (Instr.makeFunc fn first cap).run Try.prog w = .ok (.func fn first cap) w := fun _ _ _ _ => rfl
  go_enter Try.func76, Try.ntmps76
  go_wp2
  go_ret
  exact ⟨rfl, rfl⟩
/-- The two boxes of the closure: the text, and the place that comes next. -/
structure Boxes (w0 w : World) (b0 b1 : Nat) (s : ByteArray) (a : Nat) : Prop where
  below : Below w0.heap.size w0 w
  new : w0.heap.size ≤ b0
  lt : b0 < b1
  ok : b1 < w.heap.size
  c0 : w.cell? ⟨b0, 0, none⟩ = some (.string s)
  c1 : w.cell? ⟨b1, 0, none⟩ = some (.int .i64 (a : Int))
  f1 : w.frozen? ⟨b1, 0, none⟩ = false
theorem Boxes.keep {w0 w w' : World} {b0 b1 : Nat} {s : ByteArray} {a : Nat} (h : Boxes w0 w b0 b1 s a) (hb : Below w.heap.size w w') : Boxes w0 w' b0 b1 s a :=
  ⟨h.below.trans (hb.mono h.below.size), h.new, h.lt, Nat.lt_of_lt_of_le h.ok hb.size, (hb.cell (Nat.lt_trans h.lt h.ok)).trans h.c0, (hb.cell h.ok).trans h.c1, (hb.frozen h.ok).trans h.f1⟩
theorem pieces_new (s : ByteArray) (a : Nat) (w : World) :
    Calls Try.prog 76 #[.string s, .int .i64 (a : Int)] w fun e w' => e = .returned (.func (.func 87) #[] #[.pointer (some ⟨w.heap.size, 0, none⟩), .pointer (some ⟨w.heap.size + 1, 0, none⟩)]) ∧ Boxes w w' w.heap.size (w.heap.size + 1) s a := by
  refine (pieces_any s a w).mono ?_
  rintro e w1 ⟨rfl, rfl⟩
  exact ⟨rfl, ((Below.refl _ _).alloc (Nat.le_refl _) _).alloc (by simp) _, Nat.le_refl _, Nat.lt_succ_self _, by simp, by simp, by simp, World.frozen?_alloc_at _ _ _ _ (by simp)⟩
theorem piece_on (s : ByteArray) (n a b0 b1 : Nat) (w0 w : World) (hs : s.size ≤ 9223372036854775807) (hn : n ≤ 70000) (hB : Boxes w0 w b0 b1 s a) (h : a + n ≤ s.size) :
    Calls Try.prog 87 #[.int .i64 (n : Int), .pointer (some ⟨b0, 0, none⟩), .pointer (some ⟨b1, 0, none⟩)] w fun e w' => e = .returned (.tuple #[.string (s.extract a (a + n)), .bool true]) ∧ Boxes w0 w' b0 b1 s (a + n) := by
  refine (piece_yes s n a b0 b1 w hs hn hB.c0 hB.c1 hB.f1 h).mono ?_
  rintro e w1 ⟨rfl, rfl⟩
  have hl := hB.lt
  have hw := hB.new
  refine ⟨rfl, hB.below.setCell (p := ⟨b1, 0, none⟩) (by show _ ≤ b1; omega) _, hB.new, hB.lt, by simpa using hB.ok, ?_, World.cell?_setCell_same _ _ _ hB.c1, ?_⟩
  · rw [World.cell?_setCell_other _ _ _ _ (by intro h; cases h; omega)]; exact hB.c0
  · simpa using hB.f1
end Go.Proofs.Ytagfolckodpioaa
