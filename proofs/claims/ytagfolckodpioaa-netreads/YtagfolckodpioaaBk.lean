/- Bytes of a text, in a row of their own: one is turned, and they are a text again; and pick. -/
import Derived.Test.YtagfolckodpioaaLi
import Derived.Test.YtagfolckodpioaaPkShelf
import Derived.Lib.ConvBytes
namespace Go.Proofs.Ytagfolckodpioaa.K2
open Go.RowKit Go.Maps Go.Proofs.Ytagfolckodpioaa Go.Op
set_option linter.all false
def freeCells (fz : Nat × Nat) (n : Nat) : Prop := fz = (0, 0) ∨ n ≤ fz.1
/-- The bytes of a call's own, in a row whose cells are free. -/
def OwnM (w : World) (base : Nat) (v : Value) (bs : List UInt8) : Prop :=
  ∃ g cap cur fz, v = .slice (some ⟨g, 0, none⟩) bs.length cap ∧ base ≤ g ∧ w.heap[g]? = some (.cells cur 5 fz) ∧ freeCells fz cur.size ∧ bs.length ≤ cap ∧ cap ≤ maxLen ∧ cur.size = cap ∧ cur.toList.take bs.length = bs.map u8v
theorem OwnM.cells {w : World} {base g cap : Nat} {bs : List UInt8} (h : OwnM w base (.slice (some ⟨g, 0, none⟩) bs.length cap) bs) : ∀ j u, (bs.map u8v)[j]? = some u → w.cell? ⟨g, j, none⟩ = some u := by
  intro j u hu
  obtain ⟨g', cap', cur, fz, e, _, hg, _, _, _, _, ht⟩ := h
  cases e
  rw [cell_of_row w g j cur 5 fz hg]
  rw [← ht, List.getElem?_take] at hu
  split at hu
  · simpa using hu
  · cases hu
theorem OwnM.free {w : World} {base g cap : Nat} {bs : List UInt8} (h : OwnM w base (.slice (some ⟨g, 0, none⟩) bs.length cap) bs) : g < w.heap.size ∧ base ≤ g ∧ ∀ j, j < bs.length → w.frozen? ⟨g, j, none⟩ = false := by
  obtain ⟨g', cap', cur, fz, e, hb, hg, hfz, hn, _, hs, ht⟩ := h
  cases e
  refine ⟨(Array.getElem?_eq_some_iff.1 hg).1, hb, fun j hj => ?_⟩
  obtain ⟨lo, hi'⟩ := fz
  rcases hfz with hfz | hfz
  · cases hfz
    simp [World.frozen?, hg]
  · simp only at hfz
    simp only [World.frozen?, hg, Bool.and_eq_false_iff, decide_eq_false_iff_not]
    left
    omega
theorem OwnM.set {w : World} {base g cap : Nat} {bs : List UInt8} (h : OwnM w base (.slice (some ⟨g, 0, none⟩) bs.length cap) bs) (j : Nat) (hj : j < bs.length) (b : UInt8) : OwnM (w.setCell ⟨g, j, none⟩ (u8v b)) base (.slice (some ⟨g, 0, none⟩) (bs.set j b).length cap) (bs.set j b) := by
  obtain ⟨g', cap', cur, fz, e, hb, hg, hfz, hn, hm, hs, ht⟩ := h
  cases e
  refine ⟨g, cap, cur.setIfInBounds j (u8v b), fz, rfl, hb, ?_, ?_, by rw [List.length_set]; exact hn, hm, by simp [hs], ?_⟩
  · rw [setCell_eq_setRow w g j cur 5 fz _ hg]
    exact setRow_heap w g cur _ 5 _ hg
  · simpa using hfz
  · rw [List.length_set, Array.toList_setIfInBounds, List.take_set, ht, List.map_set]
theorem conv_M (w : World) (base : Nat) (v : Value) (bs : List UInt8) (h : OwnM w base v bs) : (convert 46 9 v).run Try.prog w = .ok (.string ⟨bs.toArray⟩) w := by
  obtain ⟨g, cap, cur, fz, rfl, r⟩ := id h
  have hcell : ∀ j (hj : j < bs.length), w.cell? ((⟨g, 0, none⟩ : Addr).add j) = some (.int .u8 (bs[j].toNat : Int)) := by
    intro j hj
    rw [addN, Nat.zero_add]
    exact h.cells j _ (by simp [List.getElem?_eq_getElem hj, u8v])
  exact run_convert_bytes_back (P := Try.prog) w 46 9 5 ⟨g, 0, none⟩ cap bs (by kernel_rfl) (by kernel_rfl) (by kernel_rfl) hcell
theorem toBytes_M (w : World) (s : ByteArray) (hs : s.size ≤ 140737488355328) : ∃ cap w', (convert 9 46 (.string s)).run Try.prog w = .ok (.slice (some ⟨w.heap.size, 0, none⟩) s.size cap) w' ∧ OwnM w' w.heap.size (.slice (some ⟨w.heap.size, 0, none⟩) s.data.toList.length cap) s.data.toList ∧ Below w.heap.size w w' := by
  have hge := grownCap_ge w s.size 0 5
  have hcm2 : grownCap w s.size 0 5 ≤ maxLen := grownCap_le_maxLen w s.size 0 5 (by unfold maxLen; omega)
  have hsl : s.data.toList.length = s.size := by simp
  refine ⟨_, _, run_bytes_of_string (P := Try.prog) w 9 46 5 s (by kernel_rfl) (by kernel_rfl) (by kernel_rfl), ⟨w.heap.size, grownCap w s.size 0 5, bytesRow s (grownCap w s.size 0 5), _, by rw [hsl], Nat.le_refl _, heap_alloc_new w.drew _, .inr (Nat.le_refl _), by omega, hcm2, ?_, ?_⟩, ?_⟩
  · have e : (bytesRow s (grownCap w s.size 0 5)).size = s.size + (grownCap w s.size 0 5 - s.size) := by simp [bytesRow]
    rw [e]; omega
  · have e : (bytesRow s (grownCap w s.size 0 5)).toList = s.data.toList.map u8v ++ List.replicate (grownCap w s.size 0 5 - s.size) (.int .u8 0) := by
      simp [bytesRow]
      intro a _
      rfl
    rw [e, show s.data.toList.length = (s.data.toList.map u8v).length by simp]
    exact List.take_left
  · exact ((Below.refl _ _).drew).alloc (Nat.le_refl _) _
set_option maxHeartbeats 1000000 in
theorem pick_is (c n : Int) (w : World) (hc : -9223372036854775808 ≤ c ∧ c ≤ 9223372036854775807) (hn : 0 < n ∧ n ≤ 4611686018427387904) : Calls Try.prog 16 #[.int .i64 c, .int .i64 n] w fun e w' => (∃ r : Nat, e = .returned (.int .i64 r) ∧ (r : Int) < n) ∧ w' = w := by
  have key : ∀ d : Int, 0 ≤ d → ∃ r : Nat, d.tmod n = r ∧ (r : Int) < n := fun d hd => by
    refine ⟨(d.tmod n).toNat, ?_, ?_⟩
    · have := Int.tmod_nonneg n hd
      omega
    · have h1 := Int.tmod_nonneg n hd
      have h2 := Int.tmod_lt_of_pos d hn.1
      omega
  have hnz : (n == 0) = false := by simp; omega
  by_cases h0 : c < 0
  · obtain ⟨r, hr, hrn⟩ := key (-(c + 1)) (by omega)
    have hw1 : IntKind.i64.wrap (c + 1) = c + 1 := by rw [IntKind.wrap_i64]; omega
    have hw2 : IntKind.i64.wrap (-(c + 1)) = -(c + 1) := by rw [IntKind.wrap_i64]; omega
    have hw3 : IntKind.i64.wrap (r : Int) = r := by rw [IntKind.wrap_i64]; omega
    go_enter Try.func16, Try.ntmps16
    go_wp2
    go_ret
    exact ⟨⟨r, rfl, hrn⟩, rfl⟩
  · obtain ⟨r, hr, hrn⟩ := key c (by omega)
    have hw3 : IntKind.i64.wrap (r : Int) = r := by rw [IntKind.wrap_i64]; omega
    go_enter Try.func16, Try.ntmps16
    go_wp2
    go_ret
    exact ⟨⟨r, rfl, hrn⟩, rfl⟩
/-- A byte is turned by another. -/
theorem xor_u8 (a b : UInt8) : bits BinOp.xor IntKind.u8 (a.toNat : Int) (b.toNat : Int) = ((a ^^^ b).toNat : Int) := by
  have e : ∀ x : UInt8, (BitVec.ofInt 8 (x.toNat : Int)).toNat = x.toNat := fun x => by
    have := x.toNat_lt
    rw [BitVec.toNat_ofInt]
    omega
  have h2 := (a ^^^ b).toNat_lt
  show IntKind.u8.wrap (((BitVec.ofInt 8 (a.toNat : Int) ^^^ BitVec.ofInt 8 (b.toNat : Int)).toNat : Nat) : Int) = _
  rw [BitVec.toNat_xor, e, e, ← UInt8.toNat_xor, IntKind.wrap_u8]
  omega
theorem xor_zero_u8 {a b : UInt8} : a ^^^ b = a ↔ b = 0 := by
  constructor
  · intro h
    have := congrArg (fun x => a ^^^ x) h
    simp only [UInt8.xor_self] at this
    rw [← UInt8.xor_assoc, UInt8.xor_self, UInt8.zero_xor] at this
    exact this
  · rintro rfl
    exact UInt8.xor_zero
end Go.Proofs.Ytagfolckodpioaa.K2
