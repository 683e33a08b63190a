/- Texts of my own, laid together. -/
import Derived.Test.YtcaehfkfohianaaGreatZq
import Derived.Test.YtcaehfkfohianaaGreatPz05
set_option linter.all false
namespace Go.Proofs.YtcaehfkfohianaaGreat
open Go.RowKit
structure Box (w : World) (k : Nat) (L : LogV) (g : Value) (wx : World) : Prop where
 box : wx.heap[k]? = some (.cells (logA L g) 36 (0, 0))
 bel : Below w.heap.size w wx
theorem Box.drew {w wx : World} {k : Nat} {L : LogV} {g : Value} (h : Box w k L g wx) : Box w k L g wx.drew := ⟨h.box, h.bel.drew⟩
theorem Box.keep {w wx wy : World} {k : Nat} {L : LogV} {g : Value} (h : Box w k L g wx) (hb : Below wx.heap.size wx wy) : Box w k L g wy :=
 ⟨(hb.block _ (Array.getElem?_eq_some_iff.1 h.box).1).trans h.box, below_via h.bel hb⟩
theorem Box.first (w : World) (L : LogV) (g : Value) : Box w w.heap.size L g (w.alloc (.cells (logA L g) 36)) := ⟨heap_alloc_new w _, below1 w _⟩
theorem Box.cells {w wx : World} {k : Nat} {L : LogV} {g : Value} (h : Box w k L g wx) : wx.cell? ⟨k, 0, none⟩ = some (.int .i64 L.bi) ∧ wx.cell? ⟨k, 1, none⟩ = some (.int .i64 L.bt) ∧ wx.cell? ⟨k, 2, none⟩ = some g ∧ wx.cell? ⟨k, 3, none⟩ = some (.int .i64 L.cm) :=
 ⟨by rw [cell_at h.box]; rfl, by rw [cell_at h.box]; rfl, by rw [cell_at h.box]; rfl, by rw [cell_at h.box]; rfl⟩
set_option maxHeartbeats 16000000 in
set_option maxRecDepth 100000 in
theorem mayBe_is (L : LogV) (g : Value) (w : World) (h : EGot w g L.l) : Calls Tryz.prog 81 #[logV L g] w fun e w' => e = .returned (.bool (mayB L)) ∧ Below w.heap.size w w' := by
 have HI := hideIt (Box.first w L g);have T1 : ∀ wx, Box w w.heap.size L g wx → Calls Tryz.prog 122 #[.agg #[.int .i64 L.bi, .int .i64 L.bt]] wx fun e w' => e = .returned (.bool (mkB L.bi L.bt)) ∧ Hid (Box w w.heap.size L g w') ∧ w'.cell? ⟨w.heap.size, 0, none⟩ = some (.int .i64 L.bi) ∧ w'.cell? ⟨w.heap.size, 1, none⟩ = some (.int .i64 L.bt) ∧ w'.cell? ⟨w.heap.size, 2, none⟩ = some g ∧ w'.cell? ⟨w.heap.size, 3, none⟩ = some (.int .i64 L.cm) := by
  intro wx hx;refine (isMark_is L.bi L.bt wx).mono ?_;rintro e w' ⟨rfl, hb⟩
  exact ⟨rfl, hideIt (hx.keep hb), (hx.keep hb).cells⟩
 have T2 : ∀ wx, Box w w.heap.size L g wx → Calls Tryz.prog 123 #[g, .int .i64 L.bt] wx fun e w' => e = .returned (.bool (rowsB L.l L.bt)) ∧ Hid (Box w w.heap.size L g w') ∧ w'.cell? ⟨w.heap.size, 0, none⟩ = some (.int .i64 L.bi) ∧ w'.cell? ⟨w.heap.size, 1, none⟩ = some (.int .i64 L.bt) ∧ w'.cell? ⟨w.heap.size, 2, none⟩ = some g ∧ w'.cell? ⟨w.heap.size, 3, none⟩ = some (.int .i64 L.cm) := by
  intro wx hx;refine (areEntries_is g L.l L.bt wx (h.keep hx.bel)).mono ?_;rintro e w' ⟨rfl, hb⟩
  exact ⟨rfl, hideIt (hx.keep hb), (hx.keep hb).cells⟩
 have T3 : Near L → ∀ wx, Box w w.heap.size L g wx → Calls Tryz.prog 124 #[logV L g] wx fun e w' => e = .returned (.int .i64 (lasI L)) ∧ Hid (Box w w.heap.size L g w') ∧ w'.cell? ⟨w.heap.size, 0, none⟩ = some (.int .i64 L.bi) ∧ w'.cell? ⟨w.heap.size, 1, none⟩ = some (.int .i64 L.bt) ∧ w'.cell? ⟨w.heap.size, 2, none⟩ = some g ∧ w'.cell? ⟨w.heap.size, 3, none⟩ = some (.int .i64 L.cm) := by
  intro hn wx hx;refine (lastIndex_is L g wx (h.keep hx.bel) hn).mono ?_;rintro e w' ⟨rfl, rfl⟩
  exact ⟨rfl, hideIt (hx.keep (below1 _ _)), (hx.keep (below1 _ _)).cells⟩
 have T4 : ∀ wx, Box w w.heap.size L g wx → Calls Tryz.prog 125 #[.int .i64 L.cm, .int .i64 L.bi, .int .i64 (lasI L)] wx fun e w' => e = .returned (.bool (wiB L.cm L.bi (lasI L))) ∧ Hid (Box w w.heap.size L g w') ∧ w'.cell? ⟨w.heap.size, 0, none⟩ = some (.int .i64 L.bi) ∧ w'.cell? ⟨w.heap.size, 1, none⟩ = some (.int .i64 L.bt) ∧ w'.cell? ⟨w.heap.size, 2, none⟩ = some g ∧ w'.cell? ⟨w.heap.size, 3, none⟩ = some (.int .i64 L.cm) := by
  intro wx hx;refine (within_is L.cm L.bi (lasI L) wx).mono ?_;rintro e w' ⟨rfl, rfl⟩
  exact ⟨rfl, hideIt hx, hx.cells⟩
 have H1 := hideIt T1;have H2 := hideIt T2;have H4 := hideIt T4;have TN := hideIt T3;clear T1 T2 T3 T4;obtain ⟨a, c, rfl, h8, _⟩ := h.open;have MK : mkB L.bi L.bt = true → (0 ≤ L.bi ∧ L.bi ≤ 1000000) := fun e => (mkB_in e).1
 unfold mayB;unfold logV logA at *;generalize lasI L = li at *;obtain ⟨bi, bt, l, cm⟩ := L;simp only at H1 H2 H4 TN MK HI h8 ⊢;clear h;generalize mkB bi bt = b1 at *;generalize rowsB l bt = b2 at *;generalize wiB cm bi li = b4 at *;cases b1
 ·clear TN MK H2 H4;have H2 := H1;have H3 := H1;have H4 := H1
  go_enter Tryz.func81, Tryz.ntmps81
  go_upto_region 1 with fail
  refine wp_region_held_drew (S := fun w' => w'.cell? ⟨w.heap.size, 0, none⟩ = some (.int .i64 bi) ∧ w'.cell? ⟨w.heap.size, 1, none⟩ = some (.int .i64 bt) ∧ w'.cell? ⟨w.heap.size, 2, none⟩ = some (.slice a l.length c) ∧ w'.cell? ⟨w.heap.size, 3, none⟩ = some (.int .i64 cm)) (by kernel_rfl) HI.out.drew.cells (fun hHeld => ?_);refine wpAnyH_take (i := 0) (oi := ⟨some 3, _, _, _, _, _⟩) (v := ?_) rfl (by kernel_rfl) (by kernel_rfl) (by kernel_rfl) (fun _ _ _ h => h) (Or.inl ⟨by rfl, ?_⟩) (by assumption) ?_
  rotate_left
  ·intro w5 hSw
   (try dsimp only at hSw)
   go_simp
   (try with_reducible rfl)
  try simp only [aP, aQ, aA, aB, aC]
  refine wpAnyH_take (i := 1) (oi := ⟨some 4, _, _, _, _, _⟩) (v := ?_) rfl (by kernel_rfl) (by kernel_rfl) (by kernel_rfl) (fun _ _ _ h => h) (Or.inl ⟨by rfl, ?_⟩) (by assumption) ?_
  rotate_left
  ·intro w5 hSw
   (try dsimp only at hSw)
   go_simp
   (try with_reducible rfl)
  try simp only [aP, aQ, aA, aB, aC]
  refine wpAnyH_ready (rs := [2]) (by kernel_rfl) (by simp) ?_;refine AllReadyH.cons (o := ⟨some 5, _, _, _, _, _⟩) rfl (fun K hK => ?_) AllReadyH.nil;go_simp
  go_at_call 122
  refine (H1.out _ (by first | exact HI.out | exact HI.out.drew)).mono ?_;clear HI;rintro e w1 ⟨rfl, HI, j0, j1, j2, j3⟩;refine hK.out _ _ ⟨j0, j1, j2, j3⟩ (fun hHeld => ?_);clear hK K
  try simp only [aP, aQ, aA, aB, aC]
  refine wpAnyH_take (i := 3) (oi := ⟨some 6, _, _, _, _, _⟩) (v := ?_) rfl (by kernel_rfl) (by kernel_rfl) (by kernel_rfl) (fun _ _ _ h => h) (Or.inl ⟨by rfl, ?_⟩) (by assumption) ?_
  rotate_left
  ·intro w5 hSw
   (try dsimp only at hSw)
   go_simp
   (try with_reducible rfl)
  try simp only [aP, aQ, aA, aB, aC]
  refine wpAnyH_take (i := 4) (oi := ⟨some 7, _, _, _, _, _⟩) (v := undef) rfl (by kernel_rfl) (by kernel_rfl) (by kernel_rfl) (fun _ _ _ h => h) (Or.inr ⟨by rfl, rfl⟩) (by assumption) ?_
  try simp only [aP, aQ, aA, aB, aC]
  refine wpAnyH_take (i := 5) (oi := ⟨some 8, _, _, _, _, _⟩) (v := undef) rfl (by kernel_rfl) (by kernel_rfl) (by kernel_rfl) (fun _ _ _ h => h) (Or.inr ⟨by rfl, rfl⟩) (by assumption) ?_
  try simp only [aP, aQ, aA, aB, aC]
  refine wpAnyH_take (i := 6) (oi := ⟨some 9, _, _, _, _, _⟩) (v := undef) rfl (by kernel_rfl) (by kernel_rfl) (by kernel_rfl) (fun _ _ _ h => h) (Or.inr ⟨by rfl, rfl⟩) (by assumption) ?_
  try simp only [aP, aQ, aA, aB, aC]
  refine wpAnyH_take (i := 7) (oi := ⟨some 10, _, _, _, _, _⟩) (v := undef) rfl (by kernel_rfl) (by kernel_rfl) (by kernel_rfl) (fun _ _ _ h => h) (Or.inr ⟨by rfl, rfl⟩) (by assumption) ?_
  try simp only [aP, aQ, aA, aB, aC]
  refine wpAnyH_take (i := 8) (oi := ⟨some 11, _, _, _, _, _⟩) (v := ?_) rfl (by kernel_rfl) (by kernel_rfl) (by kernel_rfl) (fun _ _ _ h => h) (Or.inl ⟨by rfl, ?_⟩) (by assumption) ?_
  rotate_left
  ·intro w5 hSw
   (try dsimp only at hSw)
   go_simp
   (try with_reducible rfl)
  try simp only [aP, aQ, aA, aB, aC]
  refine wpAnyH_take (i := 9) (oi := ⟨some 12, _, _, _, _, _⟩) (v := ?_) rfl (by kernel_rfl) (by kernel_rfl) (by kernel_rfl) (fun _ _ _ h => h) (Or.inl ⟨by rfl, ?_⟩) (by assumption) ?_
  rotate_left
  ·intro w5 hSw
   (try dsimp only at hSw)
   go_simp
   (try with_reducible rfl)
  try simp only [aP, aQ, aA, aB, aC]
  refine wpAnyH_take (i := 10) (oi := ⟨some 13, _, _, _, _, _⟩) (v := undef) rfl (by kernel_rfl) (by kernel_rfl) (by kernel_rfl) (fun _ _ _ h => h) (Or.inr ⟨by rfl, rfl⟩) (by assumption) ?_
  try simp only [aP, aQ, aA, aB, aC]
  refine wpAnyH_take (i := 11) (oi := ⟨some 14, _, _, _, _, _⟩) (v := undef) rfl (by kernel_rfl) (by kernel_rfl) (by kernel_rfl) (fun _ _ _ h => h) (Or.inr ⟨by rfl, rfl⟩) (by assumption) ?_
  try simp only [aP, aQ, aA, aB, aC]
  refine wpAnyH_take (i := 12) (oi := ⟨some 15, _, _, _, _, _⟩) (v := undef) rfl (by kernel_rfl) (by kernel_rfl) (by kernel_rfl) (fun _ _ _ h => h) (Or.inr ⟨by rfl, rfl⟩) (by assumption) ?_
  try simp only [aP, aQ, aA, aB, aC]
  refine wpAnyH_take (i := 13) (oi := ⟨some 16, _, _, _, _, _⟩) (v := undef) rfl (by kernel_rfl) (by kernel_rfl) (by kernel_rfl) (fun _ _ _ h => h) (Or.inr ⟨by rfl, rfl⟩) (by assumption) ?_
  try simp only [aP, aQ, aA, aB, aC]
  refine wpAnyH_take (i := 14) (oi := ⟨some 17, _, _, _, _, _⟩) (v := undef) rfl (by kernel_rfl) (by kernel_rfl) (by kernel_rfl) (fun _ _ _ h => h) (Or.inr ⟨by rfl, rfl⟩) (by assumption) ?_
  try simp only [aP, aQ, aA, aB, aC]
  refine wpAnyH_take (i := 15) (oi := ⟨some 18, _, _, _, _, _⟩) (v := undef) rfl (by kernel_rfl) (by kernel_rfl) (by kernel_rfl) (fun _ _ _ h => h) (Or.inr ⟨by rfl, rfl⟩) (by assumption) ?_
  try simp only [aP, aQ, aA, aB, aC]
  refine wpAnyH_take (i := 16) (oi := ⟨some 19, _, _, _, _, _⟩) (v := ?_) rfl (by kernel_rfl) (by kernel_rfl) (by kernel_rfl) (fun _ _ _ h => h) (Or.inl ⟨by rfl, ?_⟩) (by assumption) ?_
  rotate_left
  ·intro w5 hSw
   (try dsimp only at hSw)
   go_simp
   (try with_reducible rfl)
  try simp only [aP, aQ, aA, aB, aC]
  refine wpAnyH_take (i := 17) (oi := ⟨some 20, _, _, _, _, _⟩) (v := ?_) rfl (by kernel_rfl) (by kernel_rfl) (by kernel_rfl) (fun _ _ _ h => h) (Or.inl ⟨by rfl, ?_⟩) (by assumption) ?_
  rotate_left
  ·intro w5 hSw
   (try dsimp only at hSw)
   go_simp
   (try with_reducible rfl)
  try simp only [aP, aQ, aA, aB, aC]
  refine wpAnyH_take (i := 18) (oi := ⟨some 21, _, _, _, _, _⟩) (v := undef) rfl (by kernel_rfl) (by kernel_rfl) (by kernel_rfl) (fun _ _ _ h => h) (Or.inr ⟨by rfl, rfl⟩) (by assumption) ?_
  try simp only [aP, aQ, aA, aB, aC]
  refine wpAnyH_take (i := 19) (oi := ⟨some 22, _, _, _, _, _⟩) (v := undef) rfl (by kernel_rfl) (by kernel_rfl) (by kernel_rfl) (fun _ _ _ h => h) (Or.inr ⟨by rfl, rfl⟩) (by assumption) ?_
  try simp only [aP, aQ, aA, aB, aC]
  refine wpAnyH_take (i := 20) (oi := ⟨some 23, _, _, _, _, _⟩) (v := undef) rfl (by kernel_rfl) (by kernel_rfl) (by kernel_rfl) (fun _ _ _ h => h) (Or.inr ⟨by rfl, rfl⟩) (by assumption) ?_
  try simp only [aP, aQ, aA, aB, aC]
  refine wpAnyH_take (i := 21) (oi := ⟨some 24, _, _, _, _, _⟩) (v := ?_) rfl (by kernel_rfl) (by kernel_rfl) (by kernel_rfl) (fun _ _ _ h => h) (Or.inl ⟨by rfl, ?_⟩) (by assumption) ?_
  rotate_left
  ·intro w5 hSw
   (try dsimp only at hSw)
   go_simp
   (try with_reducible rfl)
  try simp only [aP, aQ, aA, aB, aC]
  refine wpAnyH_take (i := 22) (oi := ⟨some 25, _, _, _, _, _⟩) (v := ?_) rfl (by kernel_rfl) (by kernel_rfl) (by kernel_rfl) (fun _ _ _ h => h) (Or.inl ⟨by rfl, ?_⟩) (by assumption) ?_
  rotate_left
  ·intro w5 hSw
   (try dsimp only at hSw)
   go_simp
   (try with_reducible rfl)
  try simp only [aP, aQ, aA, aB, aC]
  refine wpAnyH_take (i := 23) (oi := ⟨some 26, _, _, _, _, _⟩) (v := undef) rfl (by kernel_rfl) (by kernel_rfl) (by kernel_rfl) (fun _ _ _ h => h) (Or.inr ⟨by rfl, rfl⟩) (by assumption) ?_
  try simp only [aP, aQ, aA, aB, aC]
  refine wpAnyH_take (i := 24) (oi := ⟨some 27, _, _, _, _, _⟩) (v := undef) rfl (by kernel_rfl) (by kernel_rfl) (by kernel_rfl) (fun _ _ _ h => h) (Or.inr ⟨by rfl, rfl⟩) (by assumption) ?_
  try simp only [aP, aQ, aA, aB, aC]
  refine wpAnyH_take (i := 25) (oi := ⟨some 28, _, _, _, _, _⟩) (v := undef) rfl (by kernel_rfl) (by kernel_rfl) (by kernel_rfl) (fun _ _ _ h => h) (Or.inr ⟨by rfl, rfl⟩) (by assumption) ?_
  try simp only [aP, aQ, aA, aB, aC]
  refine wpAnyH_take (i := 26) (oi := ⟨some 29, _, _, _, _, _⟩) (v := undef) rfl (by kernel_rfl) (by kernel_rfl) (by kernel_rfl) (fun _ _ _ h => h) (Or.inr ⟨by rfl, rfl⟩) (by assumption) ?_
  try simp only [aP, aQ, aA, aB, aC]
  refine wpAnyH_take (i := 27) (oi := ⟨some 30, _, _, _, _, _⟩) (v := undef) rfl (by kernel_rfl) (by kernel_rfl) (by kernel_rfl) (fun _ _ _ h => h) (Or.inr ⟨by rfl, rfl⟩) (by assumption) ?_
  try simp only [aP, aQ, aA, aB, aC]
  refine wpAnyH_take (i := 28) (oi := ⟨some 31, _, _, _, _, _⟩) (v := undef) rfl (by kernel_rfl) (by kernel_rfl) (by kernel_rfl) (fun _ _ _ h => h) (Or.inr ⟨by rfl, rfl⟩) (by assumption) ?_
  try simp only [aP, aQ, aA, aB, aC]
  refine wpAnyH_take (i := 29) (oi := ⟨some 32, _, _, _, _, _⟩) (v := undef) rfl (by kernel_rfl) (by kernel_rfl) (by kernel_rfl) (fun _ _ _ h => h) (Or.inr ⟨by rfl, rfl⟩) (by assumption) ?_
  try simp only [aP, aQ, aA, aB, aC]
  refine wpAnyH_take (i := 30) (oi := ⟨some 33, _, _, _, _, _⟩) (v := undef) rfl (by kernel_rfl) (by kernel_rfl) (by kernel_rfl) (fun _ _ _ h => h) (Or.inr ⟨by rfl, rfl⟩) (by assumption) ?_
  try simp only [aP, aQ, aA, aB, aC]
  refine wpAnyH_take (i := 31) (oi := ⟨some 34, _, _, _, _, _⟩) (v := ?_) rfl (by kernel_rfl) (by kernel_rfl) (by kernel_rfl) (fun _ _ _ h => h) (Or.inl ⟨by rfl, ?_⟩) (by assumption) ?_
  rotate_left
  ·intro w5 hSw
   (try dsimp only at hSw)
   go_simp
   (try with_reducible rfl)
  try simp only [aP, aQ, aA, aB, aC]
  refine wpAnyH_take (i := 32) (oi := ⟨some 2, _, _, _, _, _⟩) (v := ?_) rfl (by kernel_rfl) (by kernel_rfl) (by kernel_rfl) (fun _ _ _ h => h) (Or.inl ⟨by rfl, ?_⟩) (by assumption) ?_
  rotate_left
  ·intro w5 hSw
   (try dsimp only at hSw)
   go_simp
   (try with_reducible rfl)
  try simp only [aP, aQ, aA, aB, aC]
  refine wpAnyH_done (by kernel_rfl) ?_ _;go_wp2;go_ret
  exact ⟨by (first | rfl | simp), HI.out.bel⟩
 ·have hbi := MK rfl;clear MK
  by_cases hl : l.length ≤ 400
  ·have hlb : decide ((l.length : Int) ≤ 400) = true := decide_eq_true (by omega);have hlI : (l.length : Int) ≤ 400 := by omega
   have H3 := hideIt (TN.out ⟨by simp only; omega, by simp only; omega, by simp only; omega⟩)
   clear TN;rw [decide_eq_true hl];cases b2
   ·go_enter Tryz.func81, Tryz.ntmps81
    go_upto_region 1 with fail
    refine wp_region_held_drew (S := fun w' => w'.cell? ⟨w.heap.size, 0, none⟩ = some (.int .i64 bi) ∧ w'.cell? ⟨w.heap.size, 1, none⟩ = some (.int .i64 bt) ∧ w'.cell? ⟨w.heap.size, 2, none⟩ = some (.slice a l.length c) ∧ w'.cell? ⟨w.heap.size, 3, none⟩ = some (.int .i64 cm)) (by kernel_rfl) HI.out.drew.cells (fun hHeld => ?_);refine wpAnyH_take (i := 0) (oi := ⟨some 3, _, _, _, _, _⟩) (v := ?_) rfl (by kernel_rfl) (by kernel_rfl) (by kernel_rfl) (fun _ _ _ h => h) (Or.inl ⟨by rfl, ?_⟩) (by assumption) ?_
    rotate_left
    ·intro w5 hSw
     (try dsimp only at hSw)
     go_simp
     (try with_reducible rfl)
    try simp only [aP, aQ, aA, aB, aC]
    refine wpAnyH_take (i := 1) (oi := ⟨some 4, _, _, _, _, _⟩) (v := ?_) rfl (by kernel_rfl) (by kernel_rfl) (by kernel_rfl) (fun _ _ _ h => h) (Or.inl ⟨by rfl, ?_⟩) (by assumption) ?_
    rotate_left
    ·intro w5 hSw
     (try dsimp only at hSw)
     go_simp
     (try with_reducible rfl)
    try simp only [aP, aQ, aA, aB, aC]
    refine wpAnyH_ready (rs := [2]) (by kernel_rfl) (by simp) ?_;refine AllReadyH.cons (o := ⟨some 5, _, _, _, _, _⟩) rfl (fun K hK => ?_) AllReadyH.nil;go_simp
    go_at_call 122
    refine (H1.out _ (by first | exact HI.out | exact HI.out.drew)).mono ?_;clear HI;rintro e w1 ⟨rfl, HI, j0, j1, j2, j3⟩;refine hK.out _ _ ⟨j0, j1, j2, j3⟩ (fun hHeld => ?_);clear hK K
    try simp only [aP, aQ, aA, aB, aC]
    refine wpAnyH_take (i := 3) (oi := ⟨some 6, _, _, _, _, _⟩) (v := ?_) rfl (by kernel_rfl) (by kernel_rfl) (by kernel_rfl) (fun _ _ _ h => h) (Or.inl ⟨by rfl, ?_⟩) (by assumption) ?_
    rotate_left
    ·intro w5 hSw
     (try dsimp only at hSw)
     go_simp
     (try with_reducible rfl)
    try simp only [aP, aQ, aA, aB, aC]
    refine wpAnyH_take (i := 4) (oi := ⟨some 7, _, _, _, _, _⟩) (v := ?_) rfl (by kernel_rfl) (by kernel_rfl) (by kernel_rfl) (fun _ _ _ h => h) (Or.inl ⟨by rfl, ?_⟩) (by assumption) ?_
    rotate_left
    ·intro w5 hSw
     (try dsimp only at hSw)
     go_simp
     (try with_reducible rfl)
    try simp only [aP, aQ, aA, aB, aC]
    refine wpAnyH_take (i := 5) (oi := ⟨some 8, _, _, _, _, _⟩) (v := ?_) rfl (by kernel_rfl) (by kernel_rfl) (by kernel_rfl) (fun _ _ _ h => h) (Or.inl ⟨by rfl, ?_⟩) (by assumption) ?_
    rotate_left
    ·intro w5 hSw
     (try dsimp only at hSw)
     go_simp
     (try with_reducible rfl)
    try simp only [aP, aQ, aA, aB, aC]
    refine wpAnyH_take (i := 6) (oi := ⟨some 9, _, _, _, _, _⟩) (v := ?_) rfl (by kernel_rfl) (by kernel_rfl) (by kernel_rfl) (fun _ _ _ h => h) (Or.inl ⟨by rfl, ?_⟩) (by assumption) ?_
    rotate_left
    ·intro w5 hSw
     (try dsimp only at hSw)
     go_simp
     (try with_reducible rfl)
    try simp only [aP, aQ, aA, aB, aC]
    refine wpAnyH_take (i := 7) (oi := ⟨some 10, _, _, _, _, _⟩) (v := ?_) rfl (by kernel_rfl) (by kernel_rfl) (by kernel_rfl) (fun _ _ _ h => h) (Or.inl ⟨by rfl, ?_⟩) (by assumption) ?_
    rotate_left
    ·intro w5 hSw
     (try dsimp only at hSw)
     go_simp
     (try with_reducible rfl)
    try simp only [aP, aQ, aA, aB, aC]
    refine wpAnyH_take (i := 8) (oi := ⟨some 11, _, _, _, _, _⟩) (v := ?_) rfl (by kernel_rfl) (by kernel_rfl) (by kernel_rfl) (fun _ _ _ h => h) (Or.inl ⟨by rfl, ?_⟩) (by assumption) ?_
    rotate_left
    ·intro w5 hSw
     (try dsimp only at hSw)
     go_simp
     (try with_reducible rfl)
    try simp only [aP, aQ, aA, aB, aC]
    refine wpAnyH_take (i := 9) (oi := ⟨some 12, _, _, _, _, _⟩) (v := ?_) rfl (by kernel_rfl) (by kernel_rfl) (by kernel_rfl) (fun _ _ _ h => h) (Or.inl ⟨by rfl, ?_⟩) (by assumption) ?_
    rotate_left
    ·intro w5 hSw
     (try dsimp only at hSw)
     go_simp
     (try with_reducible rfl)
    try simp only [aP, aQ, aA, aB, aC]
    refine wpAnyH_take (i := 10) (oi := ⟨some 13, _, _, _, _, _⟩) (v := ?_) rfl (by kernel_rfl) (by kernel_rfl) (by kernel_rfl) (fun _ _ _ h => h) (Or.inl ⟨by rfl, ?_⟩) (by assumption) ?_
    rotate_left
    ·intro w5 hSw
     (try dsimp only at hSw)
     go_simp
     (try with_reducible rfl)
    try simp only [aP, aQ, aA, aB, aC]
    refine wpAnyH_take (i := 11) (oi := ⟨some 14, _, _, _, _, _⟩) (v := ?_) rfl (by kernel_rfl) (by kernel_rfl) (by kernel_rfl) (fun _ _ _ h => h) (Or.inl ⟨by rfl, ?_⟩) (by assumption) ?_
    rotate_left
    ·intro w5 hSw
     (try dsimp only at hSw)
     go_simp
     (try with_reducible rfl)
    try simp only [aP, aQ, aA, aB, aC]
    refine wpAnyH_take (i := 12) (oi := ⟨some 15, _, _, _, _, _⟩) (v := ?_) rfl (by kernel_rfl) (by kernel_rfl) (by kernel_rfl) (fun _ _ _ h => h) (Or.inl ⟨by rfl, ?_⟩) (by assumption) ?_
    rotate_left
    ·intro w5 hSw
     (try dsimp only at hSw)
     go_simp
     (try with_reducible rfl)
    try simp only [aP, aQ, aA, aB, aC]
    refine wpAnyH_take (i := 13) (oi := ⟨some 16, _, _, _, _, _⟩) (v := ?_) rfl (by kernel_rfl) (by kernel_rfl) (by kernel_rfl) (fun _ _ _ h => h) (Or.inl ⟨by rfl, ?_⟩) (by assumption) ?_
    rotate_left
    ·intro w5 hSw
     (try dsimp only at hSw)
     go_simp
     (try with_reducible rfl)
    try simp only [aP, aQ, aA, aB, aC]
    refine wpAnyH_take (i := 14) (oi := ⟨some 17, _, _, _, _, _⟩) (v := ?_) rfl (by kernel_rfl) (by kernel_rfl) (by kernel_rfl) (fun _ _ _ h => h) (Or.inl ⟨by rfl, ?_⟩) (by assumption) ?_
    rotate_left
    ·intro w5 hSw
     (try dsimp only at hSw)
     go_simp
     (try with_reducible rfl)
    try simp only [aP, aQ, aA, aB, aC]
    refine wpAnyH_ready (rs := [15]) (by kernel_rfl) (by simp) ?_;refine AllReadyH.cons (o := ⟨some 18, _, _, _, _, _⟩) rfl (fun K hK => ?_) AllReadyH.nil;go_simp
    go_at_call 123
    refine (H2.out _ (by first | exact HI.out | exact HI.out.drew)).mono ?_;clear HI;rintro e w1 ⟨rfl, HI, j0, j1, j2, j3⟩;refine hK.out _ _ ⟨j0, j1, j2, j3⟩ (fun hHeld => ?_);clear hK K
    try simp only [aP, aQ, aA, aB, aC]
    refine wpAnyH_take (i := 16) (oi := ⟨some 19, _, _, _, _, _⟩) (v := ?_) rfl (by kernel_rfl) (by kernel_rfl) (by kernel_rfl) (fun _ _ _ h => h) (Or.inl ⟨by rfl, ?_⟩) (by assumption) ?_
    rotate_left
    ·intro w5 hSw
     (try dsimp only at hSw)
     go_simp
     (try with_reducible rfl)
    try simp only [aP, aQ, aA, aB, aC]
    refine wpAnyH_take (i := 17) (oi := ⟨some 20, _, _, _, _, _⟩) (v := ?_) rfl (by kernel_rfl) (by kernel_rfl) (by kernel_rfl) (fun _ _ _ h => h) (Or.inl ⟨by rfl, ?_⟩) (by assumption) ?_
    rotate_left
    ·intro w5 hSw
     (try dsimp only at hSw)
     go_simp
     (try with_reducible rfl)
    try simp only [aP, aQ, aA, aB, aC]
    refine wpAnyH_take (i := 18) (oi := ⟨some 21, _, _, _, _, _⟩) (v := undef) rfl (by kernel_rfl) (by kernel_rfl) (by kernel_rfl) (fun _ _ _ h => h) (Or.inr ⟨by rfl, rfl⟩) (by assumption) ?_
    try simp only [aP, aQ, aA, aB, aC]
    refine wpAnyH_take (i := 19) (oi := ⟨some 22, _, _, _, _, _⟩) (v := undef) rfl (by kernel_rfl) (by kernel_rfl) (by kernel_rfl) (fun _ _ _ h => h) (Or.inr ⟨by rfl, rfl⟩) (by assumption) ?_
    try simp only [aP, aQ, aA, aB, aC]
    refine wpAnyH_take (i := 20) (oi := ⟨some 23, _, _, _, _, _⟩) (v := undef) rfl (by kernel_rfl) (by kernel_rfl) (by kernel_rfl) (fun _ _ _ h => h) (Or.inr ⟨by rfl, rfl⟩) (by assumption) ?_
    try simp only [aP, aQ, aA, aB, aC]
    refine wpAnyH_take (i := 21) (oi := ⟨some 24, _, _, _, _, _⟩) (v := ?_) rfl (by kernel_rfl) (by kernel_rfl) (by kernel_rfl) (fun _ _ _ h => h) (Or.inl ⟨by rfl, ?_⟩) (by assumption) ?_
    rotate_left
    ·intro w5 hSw
     (try dsimp only at hSw)
     go_simp
     (try with_reducible rfl)
    try simp only [aP, aQ, aA, aB, aC]
    refine wpAnyH_take (i := 22) (oi := ⟨some 25, _, _, _, _, _⟩) (v := ?_) rfl (by kernel_rfl) (by kernel_rfl) (by kernel_rfl) (fun _ _ _ h => h) (Or.inl ⟨by rfl, ?_⟩) (by assumption) ?_
    rotate_left
    ·intro w5 hSw
     (try dsimp only at hSw)
     go_simp
     (try with_reducible rfl)
    try simp only [aP, aQ, aA, aB, aC]
    refine wpAnyH_take (i := 23) (oi := ⟨some 26, _, _, _, _, _⟩) (v := undef) rfl (by kernel_rfl) (by kernel_rfl) (by kernel_rfl) (fun _ _ _ h => h) (Or.inr ⟨by rfl, rfl⟩) (by assumption) ?_
    try simp only [aP, aQ, aA, aB, aC]
    refine wpAnyH_take (i := 24) (oi := ⟨some 27, _, _, _, _, _⟩) (v := undef) rfl (by kernel_rfl) (by kernel_rfl) (by kernel_rfl) (fun _ _ _ h => h) (Or.inr ⟨by rfl, rfl⟩) (by assumption) ?_
    try simp only [aP, aQ, aA, aB, aC]
    refine wpAnyH_take (i := 25) (oi := ⟨some 28, _, _, _, _, _⟩) (v := undef) rfl (by kernel_rfl) (by kernel_rfl) (by kernel_rfl) (fun _ _ _ h => h) (Or.inr ⟨by rfl, rfl⟩) (by assumption) ?_
    try simp only [aP, aQ, aA, aB, aC]
    refine wpAnyH_take (i := 26) (oi := ⟨some 29, _, _, _, _, _⟩) (v := undef) rfl (by kernel_rfl) (by kernel_rfl) (by kernel_rfl) (fun _ _ _ h => h) (Or.inr ⟨by rfl, rfl⟩) (by assumption) ?_
    try simp only [aP, aQ, aA, aB, aC]
    refine wpAnyH_take (i := 27) (oi := ⟨some 30, _, _, _, _, _⟩) (v := undef) rfl (by kernel_rfl) (by kernel_rfl) (by kernel_rfl) (fun _ _ _ h => h) (Or.inr ⟨by rfl, rfl⟩) (by assumption) ?_
    try simp only [aP, aQ, aA, aB, aC]
    refine wpAnyH_take (i := 28) (oi := ⟨some 31, _, _, _, _, _⟩) (v := undef) rfl (by kernel_rfl) (by kernel_rfl) (by kernel_rfl) (fun _ _ _ h => h) (Or.inr ⟨by rfl, rfl⟩) (by assumption) ?_
    try simp only [aP, aQ, aA, aB, aC]
    refine wpAnyH_take (i := 29) (oi := ⟨some 32, _, _, _, _, _⟩) (v := undef) rfl (by kernel_rfl) (by kernel_rfl) (by kernel_rfl) (fun _ _ _ h => h) (Or.inr ⟨by rfl, rfl⟩) (by assumption) ?_
    try simp only [aP, aQ, aA, aB, aC]
    refine wpAnyH_take (i := 30) (oi := ⟨some 33, _, _, _, _, _⟩) (v := undef) rfl (by kernel_rfl) (by kernel_rfl) (by kernel_rfl) (fun _ _ _ h => h) (Or.inr ⟨by rfl, rfl⟩) (by assumption) ?_
    try simp only [aP, aQ, aA, aB, aC]
    refine wpAnyH_take (i := 31) (oi := ⟨some 34, _, _, _, _, _⟩) (v := ?_) rfl (by kernel_rfl) (by kernel_rfl) (by kernel_rfl) (fun _ _ _ h => h) (Or.inl ⟨by rfl, ?_⟩) (by assumption) ?_
    rotate_left
    ·intro w5 hSw
     (try dsimp only at hSw)
     go_simp
     (try with_reducible rfl)
    try simp only [aP, aQ, aA, aB, aC]
    refine wpAnyH_take (i := 32) (oi := ⟨some 2, _, _, _, _, _⟩) (v := ?_) rfl (by kernel_rfl) (by kernel_rfl) (by kernel_rfl) (fun _ _ _ h => h) (Or.inl ⟨by rfl, ?_⟩) (by assumption) ?_
    rotate_left
    ·intro w5 hSw
     (try dsimp only at hSw)
     go_simp
     (try with_reducible rfl)
    try simp only [aP, aQ, aA, aB, aC]
    refine wpAnyH_done (by kernel_rfl) ?_ _;go_wp2;go_ret
    exact ⟨by (first | rfl | simp), HI.out.bel⟩
   ·by_cases hm : li ≤ 1000000
    ·have hmb : decide (li ≤ 1000000) = true := decide_eq_true hm;rw [hmb]
     go_enter Tryz.func81, Tryz.ntmps81
     go_upto_region 1 with fail
     refine wp_region_held_drew (S := fun w' => w'.cell? ⟨w.heap.size, 0, none⟩ = some (.int .i64 bi) ∧ w'.cell? ⟨w.heap.size, 1, none⟩ = some (.int .i64 bt) ∧ w'.cell? ⟨w.heap.size, 2, none⟩ = some (.slice a l.length c) ∧ w'.cell? ⟨w.heap.size, 3, none⟩ = some (.int .i64 cm)) (by kernel_rfl) HI.out.drew.cells (fun hHeld => ?_);refine wpAnyH_take (i := 0) (oi := ⟨some 3, _, _, _, _, _⟩) (v := ?_) rfl (by kernel_rfl) (by kernel_rfl) (by kernel_rfl) (fun _ _ _ h => h) (Or.inl ⟨by rfl, ?_⟩) (by assumption) ?_
     rotate_left
     ·intro w5 hSw
      (try dsimp only at hSw)
      go_simp
      (try with_reducible rfl)
     try simp only [aP, aQ, aA, aB, aC]
     refine wpAnyH_take (i := 1) (oi := ⟨some 4, _, _, _, _, _⟩) (v := ?_) rfl (by kernel_rfl) (by kernel_rfl) (by kernel_rfl) (fun _ _ _ h => h) (Or.inl ⟨by rfl, ?_⟩) (by assumption) ?_
     rotate_left
     ·intro w5 hSw
      (try dsimp only at hSw)
      go_simp
      (try with_reducible rfl)
     try simp only [aP, aQ, aA, aB, aC]
     refine wpAnyH_ready (rs := [2]) (by kernel_rfl) (by simp) ?_;refine AllReadyH.cons (o := ⟨some 5, _, _, _, _, _⟩) rfl (fun K hK => ?_) AllReadyH.nil;go_simp
     go_at_call 122
     refine (H1.out _ (by first | exact HI.out | exact HI.out.drew)).mono ?_;clear HI;rintro e w1 ⟨rfl, HI, j0, j1, j2, j3⟩;refine hK.out _ _ ⟨j0, j1, j2, j3⟩ (fun hHeld => ?_);clear hK K
     try simp only [aP, aQ, aA, aB, aC]
     refine wpAnyH_take (i := 3) (oi := ⟨some 6, _, _, _, _, _⟩) (v := ?_) rfl (by kernel_rfl) (by kernel_rfl) (by kernel_rfl) (fun _ _ _ h => h) (Or.inl ⟨by rfl, ?_⟩) (by assumption) ?_
     rotate_left
     ·intro w5 hSw
      (try dsimp only at hSw)
      go_simp
      (try with_reducible rfl)
     try simp only [aP, aQ, aA, aB, aC]
     refine wpAnyH_take (i := 4) (oi := ⟨some 7, _, _, _, _, _⟩) (v := ?_) rfl (by kernel_rfl) (by kernel_rfl) (by kernel_rfl) (fun _ _ _ h => h) (Or.inl ⟨by rfl, ?_⟩) (by assumption) ?_
     rotate_left
     ·intro w5 hSw
      (try dsimp only at hSw)
      go_simp
      (try with_reducible rfl)
     try simp only [aP, aQ, aA, aB, aC]
     refine wpAnyH_take (i := 5) (oi := ⟨some 8, _, _, _, _, _⟩) (v := ?_) rfl (by kernel_rfl) (by kernel_rfl) (by kernel_rfl) (fun _ _ _ h => h) (Or.inl ⟨by rfl, ?_⟩) (by assumption) ?_
     rotate_left
     ·intro w5 hSw
      (try dsimp only at hSw)
      go_simp
      (try with_reducible rfl)
     try simp only [aP, aQ, aA, aB, aC]
     refine wpAnyH_take (i := 6) (oi := ⟨some 9, _, _, _, _, _⟩) (v := ?_) rfl (by kernel_rfl) (by kernel_rfl) (by kernel_rfl) (fun _ _ _ h => h) (Or.inl ⟨by rfl, ?_⟩) (by assumption) ?_
     rotate_left
     ·intro w5 hSw
      (try dsimp only at hSw)
      go_simp
      (try with_reducible rfl)
     try simp only [aP, aQ, aA, aB, aC]
     refine wpAnyH_take (i := 7) (oi := ⟨some 10, _, _, _, _, _⟩) (v := ?_) rfl (by kernel_rfl) (by kernel_rfl) (by kernel_rfl) (fun _ _ _ h => h) (Or.inl ⟨by rfl, ?_⟩) (by assumption) ?_
     rotate_left
     ·intro w5 hSw
      (try dsimp only at hSw)
      go_simp
      (try with_reducible rfl)
     try simp only [aP, aQ, aA, aB, aC]
     refine wpAnyH_take (i := 8) (oi := ⟨some 11, _, _, _, _, _⟩) (v := ?_) rfl (by kernel_rfl) (by kernel_rfl) (by kernel_rfl) (fun _ _ _ h => h) (Or.inl ⟨by rfl, ?_⟩) (by assumption) ?_
     rotate_left
     ·intro w5 hSw
      (try dsimp only at hSw)
      go_simp
      (try with_reducible rfl)
     try simp only [aP, aQ, aA, aB, aC]
     refine wpAnyH_take (i := 9) (oi := ⟨some 12, _, _, _, _, _⟩) (v := ?_) rfl (by kernel_rfl) (by kernel_rfl) (by kernel_rfl) (fun _ _ _ h => h) (Or.inl ⟨by rfl, ?_⟩) (by assumption) ?_
     rotate_left
     ·intro w5 hSw
      (try dsimp only at hSw)
      go_simp
      (try with_reducible rfl)
     try simp only [aP, aQ, aA, aB, aC]
     refine wpAnyH_take (i := 10) (oi := ⟨some 13, _, _, _, _, _⟩) (v := ?_) rfl (by kernel_rfl) (by kernel_rfl) (by kernel_rfl) (fun _ _ _ h => h) (Or.inl ⟨by rfl, ?_⟩) (by assumption) ?_
     rotate_left
     ·intro w5 hSw
      (try dsimp only at hSw)
      go_simp
      (try with_reducible rfl)
     try simp only [aP, aQ, aA, aB, aC]
     refine wpAnyH_take (i := 11) (oi := ⟨some 14, _, _, _, _, _⟩) (v := ?_) rfl (by kernel_rfl) (by kernel_rfl) (by kernel_rfl) (fun _ _ _ h => h) (Or.inl ⟨by rfl, ?_⟩) (by assumption) ?_
     rotate_left
     ·intro w5 hSw
      (try dsimp only at hSw)
      go_simp
      (try with_reducible rfl)
     try simp only [aP, aQ, aA, aB, aC]
     refine wpAnyH_take (i := 12) (oi := ⟨some 15, _, _, _, _, _⟩) (v := ?_) rfl (by kernel_rfl) (by kernel_rfl) (by kernel_rfl) (fun _ _ _ h => h) (Or.inl ⟨by rfl, ?_⟩) (by assumption) ?_
     rotate_left
     ·intro w5 hSw
      (try dsimp only at hSw)
      go_simp
      (try with_reducible rfl)
     try simp only [aP, aQ, aA, aB, aC]
     refine wpAnyH_take (i := 13) (oi := ⟨some 16, _, _, _, _, _⟩) (v := ?_) rfl (by kernel_rfl) (by kernel_rfl) (by kernel_rfl) (fun _ _ _ h => h) (Or.inl ⟨by rfl, ?_⟩) (by assumption) ?_
     rotate_left
     ·intro w5 hSw
      (try dsimp only at hSw)
      go_simp
      (try with_reducible rfl)
     try simp only [aP, aQ, aA, aB, aC]
     refine wpAnyH_take (i := 14) (oi := ⟨some 17, _, _, _, _, _⟩) (v := ?_) rfl (by kernel_rfl) (by kernel_rfl) (by kernel_rfl) (fun _ _ _ h => h) (Or.inl ⟨by rfl, ?_⟩) (by assumption) ?_
     rotate_left
     ·intro w5 hSw
      (try dsimp only at hSw)
      go_simp
      (try with_reducible rfl)
     try simp only [aP, aQ, aA, aB, aC]
     refine wpAnyH_ready (rs := [15]) (by kernel_rfl) (by simp) ?_;refine AllReadyH.cons (o := ⟨some 18, _, _, _, _, _⟩) rfl (fun K hK => ?_) AllReadyH.nil;go_simp
     go_at_call 123
     refine (H2.out _ (by first | exact HI.out | exact HI.out.drew)).mono ?_;clear HI;rintro e w1 ⟨rfl, HI, j0, j1, j2, j3⟩;refine hK.out _ _ ⟨j0, j1, j2, j3⟩ (fun hHeld => ?_);clear hK K
     try simp only [aP, aQ, aA, aB, aC]
     refine wpAnyH_take (i := 16) (oi := ⟨some 19, _, _, _, _, _⟩) (v := ?_) rfl (by kernel_rfl) (by kernel_rfl) (by kernel_rfl) (fun _ _ _ h => h) (Or.inl ⟨by rfl, ?_⟩) (by assumption) ?_
     rotate_left
     ·intro w5 hSw
      (try dsimp only at hSw)
      go_simp
      (try with_reducible rfl)
     try simp only [aP, aQ, aA, aB, aC]
     refine wpAnyH_take (i := 17) (oi := ⟨some 20, _, _, _, _, _⟩) (v := ?_) rfl (by kernel_rfl) (by kernel_rfl) (by kernel_rfl) (fun _ _ _ h => h) (Or.inl ⟨by rfl, ?_⟩) (by assumption) ?_
     rotate_left
     ·intro w5 hSw
      (try dsimp only at hSw)
      go_simp
      (try with_reducible rfl)
     try simp only [aP, aQ, aA, aB, aC]
     refine wpAnyH_take (i := 18) (oi := ⟨some 21, _, _, _, _, _⟩) (v := ?_) rfl (by kernel_rfl) (by kernel_rfl) (by kernel_rfl) (fun _ _ _ h => h) (Or.inl ⟨by rfl, ?_⟩) (by assumption) ?_
     rotate_left
     ·intro w5 hSw
      (try dsimp only at hSw)
      go_simp
      (try with_reducible rfl)
     try simp only [aP, aQ, aA, aB, aC]
     refine wpAnyH_ready (rs := [19]) (by kernel_rfl) (by simp) ?_;refine AllReadyH.cons (o := ⟨some 22, _, _, _, _, _⟩) rfl (fun K hK => ?_) AllReadyH.nil;go_simp
     go_at_call 124
     refine (H3.out _ (by first | exact HI.out | exact HI.out.drew)).mono ?_;clear HI;rintro e w1 ⟨rfl, HI, j0, j1, j2, j3⟩;refine hK.out _ _ ⟨j0, j1, j2, j3⟩ (fun hHeld => ?_);clear hK K
     try simp only [aP, aQ, aA, aB, aC]
     refine wpAnyH_take (i := 20) (oi := ⟨some 23, _, _, _, _, _⟩) (v := ?_) rfl (by kernel_rfl) (by kernel_rfl) (by kernel_rfl) (fun _ _ _ h => h) (Or.inl ⟨by rfl, ?_⟩) (by assumption) ?_
     rotate_left
     ·intro w5 hSw
      (try dsimp only at hSw)
      go_simp
      (try with_reducible rfl)
     try simp only [aP, aQ, aA, aB, aC]
     refine wpAnyH_take (i := 21) (oi := ⟨some 24, _, _, _, _, _⟩) (v := ?_) rfl (by kernel_rfl) (by kernel_rfl) (by kernel_rfl) (fun _ _ _ h => h) (Or.inl ⟨by rfl, ?_⟩) (by assumption) ?_
     rotate_left
     ·intro w5 hSw
      (try dsimp only at hSw)
      go_simp
      (try with_reducible rfl)
     try simp only [aP, aQ, aA, aB, aC]
     refine wpAnyH_take (i := 22) (oi := ⟨some 25, _, _, _, _, _⟩) (v := ?_) rfl (by kernel_rfl) (by kernel_rfl) (by kernel_rfl) (fun _ _ _ h => h) (Or.inl ⟨by rfl, ?_⟩) (by assumption) ?_
     rotate_left
     ·intro w5 hSw
      (try dsimp only at hSw)
      go_simp
      (try with_reducible rfl)
     try simp only [aP, aQ, aA, aB, aC]
     refine wpAnyH_take (i := 23) (oi := ⟨some 26, _, _, _, _, _⟩) (v := ?_) rfl (by kernel_rfl) (by kernel_rfl) (by kernel_rfl) (fun _ _ _ h => h) (Or.inl ⟨by rfl, ?_⟩) (by assumption) ?_
     rotate_left
     ·intro w5 hSw
      (try dsimp only at hSw)
      go_simp
      (try with_reducible rfl)
     try simp only [aP, aQ, aA, aB, aC]
     refine wpAnyH_take (i := 24) (oi := ⟨some 27, _, _, _, _, _⟩) (v := ?_) rfl (by kernel_rfl) (by kernel_rfl) (by kernel_rfl) (fun _ _ _ h => h) (Or.inl ⟨by rfl, ?_⟩) (by assumption) ?_
     rotate_left
     ·intro w5 hSw
      (try dsimp only at hSw)
      go_simp
      (try with_reducible rfl)
     try simp only [aP, aQ, aA, aB, aC]
     refine wpAnyH_take (i := 25) (oi := ⟨some 28, _, _, _, _, _⟩) (v := ?_) rfl (by kernel_rfl) (by kernel_rfl) (by kernel_rfl) (fun _ _ _ h => h) (Or.inl ⟨by rfl, ?_⟩) (by assumption) ?_
     rotate_left
     ·intro w5 hSw
      (try dsimp only at hSw)
      go_simp
      (try with_reducible rfl)
     try simp only [aP, aQ, aA, aB, aC]
     refine wpAnyH_take (i := 26) (oi := ⟨some 29, _, _, _, _, _⟩) (v := ?_) rfl (by kernel_rfl) (by kernel_rfl) (by kernel_rfl) (fun _ _ _ h => h) (Or.inl ⟨by rfl, ?_⟩) (by assumption) ?_
     rotate_left
     ·intro w5 hSw
      (try dsimp only at hSw)
      go_simp
      (try with_reducible rfl)
     try simp only [aP, aQ, aA, aB, aC]
     refine wpAnyH_take (i := 27) (oi := ⟨some 30, _, _, _, _, _⟩) (v := ?_) rfl (by kernel_rfl) (by kernel_rfl) (by kernel_rfl) (fun _ _ _ h => h) (Or.inl ⟨by rfl, ?_⟩) (by assumption) ?_
     rotate_left
     ·intro w5 hSw
      (try dsimp only at hSw)
      go_simp
      (try with_reducible rfl)
     try simp only [aP, aQ, aA, aB, aC]
     refine wpAnyH_take (i := 28) (oi := ⟨some 31, _, _, _, _, _⟩) (v := ?_) rfl (by kernel_rfl) (by kernel_rfl) (by kernel_rfl) (fun _ _ _ h => h) (Or.inl ⟨by rfl, ?_⟩) (by assumption) ?_
     rotate_left
     ·intro w5 hSw
      (try dsimp only at hSw)
      go_simp
      (try with_reducible rfl)
     try simp only [aP, aQ, aA, aB, aC]
     refine wpAnyH_ready (rs := [29]) (by kernel_rfl) (by simp) ?_;refine AllReadyH.cons (o := ⟨some 32, _, _, _, _, _⟩) rfl (fun K hK => ?_) AllReadyH.nil;go_simp
     go_at_call 124
     refine (H3.out _ (by first | exact HI.out | exact HI.out.drew)).mono ?_;clear HI;rintro e w1 ⟨rfl, HI, j0, j1, j2, j3⟩;refine hK.out _ _ ⟨j0, j1, j2, j3⟩ (fun hHeld => ?_);clear hK K
     try simp only [aP, aQ, aA, aB, aC]
     refine wpAnyH_ready (rs := [30]) (by kernel_rfl) (by simp) ?_;refine AllReadyH.cons (o := ⟨some 33, _, _, _, _, _⟩) rfl (fun K hK => ?_) AllReadyH.nil;go_simp
     go_at_call 125
     refine (H4.out _ (by first | exact HI.out | exact HI.out.drew)).mono ?_;clear HI;rintro e w1 ⟨rfl, HI, j0, j1, j2, j3⟩;refine hK.out _ _ ⟨j0, j1, j2, j3⟩ (fun hHeld => ?_);clear hK K
     try simp only [aP, aQ, aA, aB, aC]
     refine wpAnyH_take (i := 31) (oi := ⟨some 34, _, _, _, _, _⟩) (v := ?_) rfl (by kernel_rfl) (by kernel_rfl) (by kernel_rfl) (fun _ _ _ h => h) (Or.inl ⟨by rfl, ?_⟩) (by assumption) ?_
     rotate_left
     ·intro w5 hSw
      (try dsimp only at hSw)
      go_simp
      (try with_reducible rfl)
     try simp only [aP, aQ, aA, aB, aC]
     refine wpAnyH_take (i := 32) (oi := ⟨some 2, _, _, _, _, _⟩) (v := ?_) rfl (by kernel_rfl) (by kernel_rfl) (by kernel_rfl) (fun _ _ _ h => h) (Or.inl ⟨by rfl, ?_⟩) (by assumption) ?_
     rotate_left
     ·intro w5 hSw
      (try dsimp only at hSw)
      go_simp
      (try with_reducible rfl)
     try simp only [aP, aQ, aA, aB, aC]
     refine wpAnyH_done (by kernel_rfl) ?_ _;go_wp2;go_ret
     exact ⟨by (first | rfl | simp), HI.out.bel⟩
    ·have hmb : decide (li ≤ 1000000) = false := decide_eq_false hm;have hm2 : 1000000 < li := by omega
     rw [hmb]
     go_enter Tryz.func81, Tryz.ntmps81
     go_upto_region 1 with fail
     refine wp_region_held_drew (S := fun w' => w'.cell? ⟨w.heap.size, 0, none⟩ = some (.int .i64 bi) ∧ w'.cell? ⟨w.heap.size, 1, none⟩ = some (.int .i64 bt) ∧ w'.cell? ⟨w.heap.size, 2, none⟩ = some (.slice a l.length c) ∧ w'.cell? ⟨w.heap.size, 3, none⟩ = some (.int .i64 cm)) (by kernel_rfl) HI.out.drew.cells (fun hHeld => ?_);refine wpAnyH_take (i := 0) (oi := ⟨some 3, _, _, _, _, _⟩) (v := ?_) rfl (by kernel_rfl) (by kernel_rfl) (by kernel_rfl) (fun _ _ _ h => h) (Or.inl ⟨by rfl, ?_⟩) (by assumption) ?_
     rotate_left
     ·intro w5 hSw
      (try dsimp only at hSw)
      go_simp
      (try with_reducible rfl)
     try simp only [aP, aQ, aA, aB, aC]
     refine wpAnyH_take (i := 1) (oi := ⟨some 4, _, _, _, _, _⟩) (v := ?_) rfl (by kernel_rfl) (by kernel_rfl) (by kernel_rfl) (fun _ _ _ h => h) (Or.inl ⟨by rfl, ?_⟩) (by assumption) ?_
     rotate_left
     ·intro w5 hSw
      (try dsimp only at hSw)
      go_simp
      (try with_reducible rfl)
     try simp only [aP, aQ, aA, aB, aC]
     refine wpAnyH_ready (rs := [2]) (by kernel_rfl) (by simp) ?_;refine AllReadyH.cons (o := ⟨some 5, _, _, _, _, _⟩) rfl (fun K hK => ?_) AllReadyH.nil;go_simp
     go_at_call 122
     refine (H1.out _ (by first | exact HI.out | exact HI.out.drew)).mono ?_;clear HI;rintro e w1 ⟨rfl, HI, j0, j1, j2, j3⟩;refine hK.out _ _ ⟨j0, j1, j2, j3⟩ (fun hHeld => ?_);clear hK K
     try simp only [aP, aQ, aA, aB, aC]
     refine wpAnyH_take (i := 3) (oi := ⟨some 6, _, _, _, _, _⟩) (v := ?_) rfl (by kernel_rfl) (by kernel_rfl) (by kernel_rfl) (fun _ _ _ h => h) (Or.inl ⟨by rfl, ?_⟩) (by assumption) ?_
     rotate_left
     ·intro w5 hSw
      (try dsimp only at hSw)
      go_simp
      (try with_reducible rfl)
     try simp only [aP, aQ, aA, aB, aC]
     refine wpAnyH_take (i := 4) (oi := ⟨some 7, _, _, _, _, _⟩) (v := ?_) rfl (by kernel_rfl) (by kernel_rfl) (by kernel_rfl) (fun _ _ _ h => h) (Or.inl ⟨by rfl, ?_⟩) (by assumption) ?_
     rotate_left
     ·intro w5 hSw
      (try dsimp only at hSw)
      go_simp
      (try with_reducible rfl)
     try simp only [aP, aQ, aA, aB, aC]
     refine wpAnyH_take (i := 5) (oi := ⟨some 8, _, _, _, _, _⟩) (v := ?_) rfl (by kernel_rfl) (by kernel_rfl) (by kernel_rfl) (fun _ _ _ h => h) (Or.inl ⟨by rfl, ?_⟩) (by assumption) ?_
     rotate_left
     ·intro w5 hSw
      (try dsimp only at hSw)
      go_simp
      (try with_reducible rfl)
     try simp only [aP, aQ, aA, aB, aC]
     refine wpAnyH_take (i := 6) (oi := ⟨some 9, _, _, _, _, _⟩) (v := ?_) rfl (by kernel_rfl) (by kernel_rfl) (by kernel_rfl) (fun _ _ _ h => h) (Or.inl ⟨by rfl, ?_⟩) (by assumption) ?_
     rotate_left
     ·intro w5 hSw
      (try dsimp only at hSw)
      go_simp
      (try with_reducible rfl)
     try simp only [aP, aQ, aA, aB, aC]
     refine wpAnyH_take (i := 7) (oi := ⟨some 10, _, _, _, _, _⟩) (v := ?_) rfl (by kernel_rfl) (by kernel_rfl) (by kernel_rfl) (fun _ _ _ h => h) (Or.inl ⟨by rfl, ?_⟩) (by assumption) ?_
     rotate_left
     ·intro w5 hSw
      (try dsimp only at hSw)
      go_simp
      (try with_reducible rfl)
     try simp only [aP, aQ, aA, aB, aC]
     refine wpAnyH_take (i := 8) (oi := ⟨some 11, _, _, _, _, _⟩) (v := ?_) rfl (by kernel_rfl) (by kernel_rfl) (by kernel_rfl) (fun _ _ _ h => h) (Or.inl ⟨by rfl, ?_⟩) (by assumption) ?_
     rotate_left
     ·intro w5 hSw
      (try dsimp only at hSw)
      go_simp
      (try with_reducible rfl)
     try simp only [aP, aQ, aA, aB, aC]
     refine wpAnyH_take (i := 9) (oi := ⟨some 12, _, _, _, _, _⟩) (v := ?_) rfl (by kernel_rfl) (by kernel_rfl) (by kernel_rfl) (fun _ _ _ h => h) (Or.inl ⟨by rfl, ?_⟩) (by assumption) ?_
     rotate_left
     ·intro w5 hSw
      (try dsimp only at hSw)
      go_simp
      (try with_reducible rfl)
     try simp only [aP, aQ, aA, aB, aC]
     refine wpAnyH_take (i := 10) (oi := ⟨some 13, _, _, _, _, _⟩) (v := ?_) rfl (by kernel_rfl) (by kernel_rfl) (by kernel_rfl) (fun _ _ _ h => h) (Or.inl ⟨by rfl, ?_⟩) (by assumption) ?_
     rotate_left
     ·intro w5 hSw
      (try dsimp only at hSw)
      go_simp
      (try with_reducible rfl)
     try simp only [aP, aQ, aA, aB, aC]
     refine wpAnyH_take (i := 11) (oi := ⟨some 14, _, _, _, _, _⟩) (v := ?_) rfl (by kernel_rfl) (by kernel_rfl) (by kernel_rfl) (fun _ _ _ h => h) (Or.inl ⟨by rfl, ?_⟩) (by assumption) ?_
     rotate_left
     ·intro w5 hSw
      (try dsimp only at hSw)
      go_simp
      (try with_reducible rfl)
     try simp only [aP, aQ, aA, aB, aC]
     refine wpAnyH_take (i := 12) (oi := ⟨some 15, _, _, _, _, _⟩) (v := ?_) rfl (by kernel_rfl) (by kernel_rfl) (by kernel_rfl) (fun _ _ _ h => h) (Or.inl ⟨by rfl, ?_⟩) (by assumption) ?_
     rotate_left
     ·intro w5 hSw
      (try dsimp only at hSw)
      go_simp
      (try with_reducible rfl)
     try simp only [aP, aQ, aA, aB, aC]
     refine wpAnyH_take (i := 13) (oi := ⟨some 16, _, _, _, _, _⟩) (v := ?_) rfl (by kernel_rfl) (by kernel_rfl) (by kernel_rfl) (fun _ _ _ h => h) (Or.inl ⟨by rfl, ?_⟩) (by assumption) ?_
     rotate_left
     ·intro w5 hSw
      (try dsimp only at hSw)
      go_simp
      (try with_reducible rfl)
     try simp only [aP, aQ, aA, aB, aC]
     refine wpAnyH_take (i := 14) (oi := ⟨some 17, _, _, _, _, _⟩) (v := ?_) rfl (by kernel_rfl) (by kernel_rfl) (by kernel_rfl) (fun _ _ _ h => h) (Or.inl ⟨by rfl, ?_⟩) (by assumption) ?_
     rotate_left
     ·intro w5 hSw
      (try dsimp only at hSw)
      go_simp
      (try with_reducible rfl)
     try simp only [aP, aQ, aA, aB, aC]
     refine wpAnyH_ready (rs := [15]) (by kernel_rfl) (by simp) ?_;refine AllReadyH.cons (o := ⟨some 18, _, _, _, _, _⟩) rfl (fun K hK => ?_) AllReadyH.nil;go_simp
     go_at_call 123
     refine (H2.out _ (by first | exact HI.out | exact HI.out.drew)).mono ?_;clear HI;rintro e w1 ⟨rfl, HI, j0, j1, j2, j3⟩;refine hK.out _ _ ⟨j0, j1, j2, j3⟩ (fun hHeld => ?_);clear hK K
     try simp only [aP, aQ, aA, aB, aC]
     refine wpAnyH_take (i := 16) (oi := ⟨some 19, _, _, _, _, _⟩) (v := ?_) rfl (by kernel_rfl) (by kernel_rfl) (by kernel_rfl) (fun _ _ _ h => h) (Or.inl ⟨by rfl, ?_⟩) (by assumption) ?_
     rotate_left
     ·intro w5 hSw
      (try dsimp only at hSw)
      go_simp
      (try with_reducible rfl)
     try simp only [aP, aQ, aA, aB, aC]
     refine wpAnyH_take (i := 17) (oi := ⟨some 20, _, _, _, _, _⟩) (v := ?_) rfl (by kernel_rfl) (by kernel_rfl) (by kernel_rfl) (fun _ _ _ h => h) (Or.inl ⟨by rfl, ?_⟩) (by assumption) ?_
     rotate_left
     ·intro w5 hSw
      (try dsimp only at hSw)
      go_simp
      (try with_reducible rfl)
     try simp only [aP, aQ, aA, aB, aC]
     refine wpAnyH_take (i := 18) (oi := ⟨some 21, _, _, _, _, _⟩) (v := ?_) rfl (by kernel_rfl) (by kernel_rfl) (by kernel_rfl) (fun _ _ _ h => h) (Or.inl ⟨by rfl, ?_⟩) (by assumption) ?_
     rotate_left
     ·intro w5 hSw
      (try dsimp only at hSw)
      go_simp
      (try with_reducible rfl)
     try simp only [aP, aQ, aA, aB, aC]
     refine wpAnyH_ready (rs := [19]) (by kernel_rfl) (by simp) ?_;refine AllReadyH.cons (o := ⟨some 22, _, _, _, _, _⟩) rfl (fun K hK => ?_) AllReadyH.nil;go_simp
     go_at_call 124
     refine (H3.out _ (by first | exact HI.out | exact HI.out.drew)).mono ?_;clear HI;rintro e w1 ⟨rfl, HI, j0, j1, j2, j3⟩;refine hK.out _ _ ⟨j0, j1, j2, j3⟩ (fun hHeld => ?_);clear hK K
     try simp only [aP, aQ, aA, aB, aC]
     refine wpAnyH_take (i := 20) (oi := ⟨some 23, _, _, _, _, _⟩) (v := ?_) rfl (by kernel_rfl) (by kernel_rfl) (by kernel_rfl) (fun _ _ _ h => h) (Or.inl ⟨by rfl, ?_⟩) (by assumption) ?_
     rotate_left
     ·intro w5 hSw
      (try dsimp only at hSw)
      go_simp
      (try with_reducible rfl)
     try simp only [aP, aQ, aA, aB, aC]
     refine wpAnyH_take (i := 21) (oi := ⟨some 24, _, _, _, _, _⟩) (v := ?_) rfl (by kernel_rfl) (by kernel_rfl) (by kernel_rfl) (fun _ _ _ h => h) (Or.inl ⟨by rfl, ?_⟩) (by assumption) ?_
     rotate_left
     ·intro w5 hSw
      (try dsimp only at hSw)
      go_simp
      (try with_reducible rfl)
     try simp only [aP, aQ, aA, aB, aC]
     refine wpAnyH_take (i := 22) (oi := ⟨some 25, _, _, _, _, _⟩) (v := ?_) rfl (by kernel_rfl) (by kernel_rfl) (by kernel_rfl) (fun _ _ _ h => h) (Or.inl ⟨by rfl, ?_⟩) (by assumption) ?_
     rotate_left
     ·intro w5 hSw
      (try dsimp only at hSw)
      go_simp
      (try with_reducible rfl)
     try simp only [aP, aQ, aA, aB, aC]
     refine wpAnyH_take (i := 23) (oi := ⟨some 26, _, _, _, _, _⟩) (v := undef) rfl (by kernel_rfl) (by kernel_rfl) (by kernel_rfl) (fun _ _ _ h => h) (Or.inr ⟨by rfl, rfl⟩) (by assumption) ?_
     try simp only [aP, aQ, aA, aB, aC]
     refine wpAnyH_take (i := 24) (oi := ⟨some 27, _, _, _, _, _⟩) (v := undef) rfl (by kernel_rfl) (by kernel_rfl) (by kernel_rfl) (fun _ _ _ h => h) (Or.inr ⟨by rfl, rfl⟩) (by assumption) ?_
     try simp only [aP, aQ, aA, aB, aC]
     refine wpAnyH_take (i := 25) (oi := ⟨some 28, _, _, _, _, _⟩) (v := undef) rfl (by kernel_rfl) (by kernel_rfl) (by kernel_rfl) (fun _ _ _ h => h) (Or.inr ⟨by rfl, rfl⟩) (by assumption) ?_
     try simp only [aP, aQ, aA, aB, aC]
     refine wpAnyH_take (i := 26) (oi := ⟨some 29, _, _, _, _, _⟩) (v := undef) rfl (by kernel_rfl) (by kernel_rfl) (by kernel_rfl) (fun _ _ _ h => h) (Or.inr ⟨by rfl, rfl⟩) (by assumption) ?_
     try simp only [aP, aQ, aA, aB, aC]
     refine wpAnyH_take (i := 27) (oi := ⟨some 30, _, _, _, _, _⟩) (v := undef) rfl (by kernel_rfl) (by kernel_rfl) (by kernel_rfl) (fun _ _ _ h => h) (Or.inr ⟨by rfl, rfl⟩) (by assumption) ?_
     try simp only [aP, aQ, aA, aB, aC]
     refine wpAnyH_take (i := 28) (oi := ⟨some 31, _, _, _, _, _⟩) (v := undef) rfl (by kernel_rfl) (by kernel_rfl) (by kernel_rfl) (fun _ _ _ h => h) (Or.inr ⟨by rfl, rfl⟩) (by assumption) ?_
     try simp only [aP, aQ, aA, aB, aC]
     refine wpAnyH_take (i := 29) (oi := ⟨some 32, _, _, _, _, _⟩) (v := undef) rfl (by kernel_rfl) (by kernel_rfl) (by kernel_rfl) (fun _ _ _ h => h) (Or.inr ⟨by rfl, rfl⟩) (by assumption) ?_
     try simp only [aP, aQ, aA, aB, aC]
     refine wpAnyH_take (i := 30) (oi := ⟨some 33, _, _, _, _, _⟩) (v := undef) rfl (by kernel_rfl) (by kernel_rfl) (by kernel_rfl) (fun _ _ _ h => h) (Or.inr ⟨by rfl, rfl⟩) (by assumption) ?_
     try simp only [aP, aQ, aA, aB, aC]
     refine wpAnyH_take (i := 31) (oi := ⟨some 34, _, _, _, _, _⟩) (v := ?_) rfl (by kernel_rfl) (by kernel_rfl) (by kernel_rfl) (fun _ _ _ h => h) (Or.inl ⟨by rfl, ?_⟩) (by assumption) ?_
     rotate_left
     ·intro w5 hSw
      (try dsimp only at hSw)
      go_simp
      (try with_reducible rfl)
     try simp only [aP, aQ, aA, aB, aC]
     refine wpAnyH_take (i := 32) (oi := ⟨some 2, _, _, _, _, _⟩) (v := ?_) rfl (by kernel_rfl) (by kernel_rfl) (by kernel_rfl) (fun _ _ _ h => h) (Or.inl ⟨by rfl, ?_⟩) (by assumption) ?_
     rotate_left
     ·intro w5 hSw
      (try dsimp only at hSw)
      go_simp
      (try with_reducible rfl)
     try simp only [aP, aQ, aA, aB, aC]
     refine wpAnyH_done (by kernel_rfl) ?_ _;go_wp2;go_ret
     exact ⟨by (first | rfl | simp), HI.out.bel⟩
  ·have hlb : decide ((l.length : Int) ≤ 400) = false := decide_eq_false (by omega);have hlI : ¬ (l.length : Int) ≤ 400 := by omega
   rw [decide_eq_false hl];have H3 := H1;clear TN
   go_enter Tryz.func81, Tryz.ntmps81
   go_upto_region 1 with fail
   refine wp_region_held_drew (S := fun w' => w'.cell? ⟨w.heap.size, 0, none⟩ = some (.int .i64 bi) ∧ w'.cell? ⟨w.heap.size, 1, none⟩ = some (.int .i64 bt) ∧ w'.cell? ⟨w.heap.size, 2, none⟩ = some (.slice a l.length c) ∧ w'.cell? ⟨w.heap.size, 3, none⟩ = some (.int .i64 cm)) (by kernel_rfl) HI.out.drew.cells (fun hHeld => ?_);refine wpAnyH_take (i := 0) (oi := ⟨some 3, _, _, _, _, _⟩) (v := ?_) rfl (by kernel_rfl) (by kernel_rfl) (by kernel_rfl) (fun _ _ _ h => h) (Or.inl ⟨by rfl, ?_⟩) (by assumption) ?_
   rotate_left
   ·intro w5 hSw
    (try dsimp only at hSw)
    go_simp
    (try with_reducible rfl)
   try simp only [aP, aQ, aA, aB, aC]
   refine wpAnyH_take (i := 1) (oi := ⟨some 4, _, _, _, _, _⟩) (v := ?_) rfl (by kernel_rfl) (by kernel_rfl) (by kernel_rfl) (fun _ _ _ h => h) (Or.inl ⟨by rfl, ?_⟩) (by assumption) ?_
   rotate_left
   ·intro w5 hSw
    (try dsimp only at hSw)
    go_simp
    (try with_reducible rfl)
   try simp only [aP, aQ, aA, aB, aC]
   refine wpAnyH_ready (rs := [2]) (by kernel_rfl) (by simp) ?_;refine AllReadyH.cons (o := ⟨some 5, _, _, _, _, _⟩) rfl (fun K hK => ?_) AllReadyH.nil;go_simp
   go_at_call 122
   refine (H1.out _ (by first | exact HI.out | exact HI.out.drew)).mono ?_;clear HI;rintro e w1 ⟨rfl, HI, j0, j1, j2, j3⟩;refine hK.out _ _ ⟨j0, j1, j2, j3⟩ (fun hHeld => ?_);clear hK K
   try simp only [aP, aQ, aA, aB, aC]
   refine wpAnyH_take (i := 3) (oi := ⟨some 6, _, _, _, _, _⟩) (v := ?_) rfl (by kernel_rfl) (by kernel_rfl) (by kernel_rfl) (fun _ _ _ h => h) (Or.inl ⟨by rfl, ?_⟩) (by assumption) ?_
   rotate_left
   ·intro w5 hSw
    (try dsimp only at hSw)
    go_simp
    (try with_reducible rfl)
   try simp only [aP, aQ, aA, aB, aC]
   refine wpAnyH_take (i := 4) (oi := ⟨some 7, _, _, _, _, _⟩) (v := ?_) rfl (by kernel_rfl) (by kernel_rfl) (by kernel_rfl) (fun _ _ _ h => h) (Or.inl ⟨by rfl, ?_⟩) (by assumption) ?_
   rotate_left
   ·intro w5 hSw
    (try dsimp only at hSw)
    go_simp
    (try with_reducible rfl)
   try simp only [aP, aQ, aA, aB, aC]
   refine wpAnyH_take (i := 5) (oi := ⟨some 8, _, _, _, _, _⟩) (v := ?_) rfl (by kernel_rfl) (by kernel_rfl) (by kernel_rfl) (fun _ _ _ h => h) (Or.inl ⟨by rfl, ?_⟩) (by assumption) ?_
   rotate_left
   ·intro w5 hSw
    (try dsimp only at hSw)
    go_simp
    (try with_reducible rfl)
   try simp only [aP, aQ, aA, aB, aC]
   refine wpAnyH_take (i := 6) (oi := ⟨some 9, _, _, _, _, _⟩) (v := ?_) rfl (by kernel_rfl) (by kernel_rfl) (by kernel_rfl) (fun _ _ _ h => h) (Or.inl ⟨by rfl, ?_⟩) (by assumption) ?_
   rotate_left
   ·intro w5 hSw
    (try dsimp only at hSw)
    go_simp
    (try with_reducible rfl)
   try simp only [aP, aQ, aA, aB, aC]
   refine wpAnyH_take (i := 7) (oi := ⟨some 10, _, _, _, _, _⟩) (v := ?_) rfl (by kernel_rfl) (by kernel_rfl) (by kernel_rfl) (fun _ _ _ h => h) (Or.inl ⟨by rfl, ?_⟩) (by assumption) ?_
   rotate_left
   ·intro w5 hSw
    (try dsimp only at hSw)
    go_simp
    (try with_reducible rfl)
   try simp only [aP, aQ, aA, aB, aC]
   refine wpAnyH_take (i := 8) (oi := ⟨some 11, _, _, _, _, _⟩) (v := ?_) rfl (by kernel_rfl) (by kernel_rfl) (by kernel_rfl) (fun _ _ _ h => h) (Or.inl ⟨by rfl, ?_⟩) (by assumption) ?_
   rotate_left
   ·intro w5 hSw
    (try dsimp only at hSw)
    go_simp
    (try with_reducible rfl)
   try simp only [aP, aQ, aA, aB, aC]
   refine wpAnyH_take (i := 9) (oi := ⟨some 12, _, _, _, _, _⟩) (v := ?_) rfl (by kernel_rfl) (by kernel_rfl) (by kernel_rfl) (fun _ _ _ h => h) (Or.inl ⟨by rfl, ?_⟩) (by assumption) ?_
   rotate_left
   ·intro w5 hSw
    (try dsimp only at hSw)
    go_simp
    (try with_reducible rfl)
   try simp only [aP, aQ, aA, aB, aC]
   refine wpAnyH_take (i := 10) (oi := ⟨some 13, _, _, _, _, _⟩) (v := undef) rfl (by kernel_rfl) (by kernel_rfl) (by kernel_rfl) (fun _ _ _ h => h) (Or.inr ⟨by rfl, rfl⟩) (by assumption) ?_
   try simp only [aP, aQ, aA, aB, aC]
   refine wpAnyH_take (i := 11) (oi := ⟨some 14, _, _, _, _, _⟩) (v := undef) rfl (by kernel_rfl) (by kernel_rfl) (by kernel_rfl) (fun _ _ _ h => h) (Or.inr ⟨by rfl, rfl⟩) (by assumption) ?_
   try simp only [aP, aQ, aA, aB, aC]
   refine wpAnyH_take (i := 12) (oi := ⟨some 15, _, _, _, _, _⟩) (v := undef) rfl (by kernel_rfl) (by kernel_rfl) (by kernel_rfl) (fun _ _ _ h => h) (Or.inr ⟨by rfl, rfl⟩) (by assumption) ?_
   try simp only [aP, aQ, aA, aB, aC]
   refine wpAnyH_take (i := 13) (oi := ⟨some 16, _, _, _, _, _⟩) (v := undef) rfl (by kernel_rfl) (by kernel_rfl) (by kernel_rfl) (fun _ _ _ h => h) (Or.inr ⟨by rfl, rfl⟩) (by assumption) ?_
   try simp only [aP, aQ, aA, aB, aC]
   refine wpAnyH_take (i := 14) (oi := ⟨some 17, _, _, _, _, _⟩) (v := undef) rfl (by kernel_rfl) (by kernel_rfl) (by kernel_rfl) (fun _ _ _ h => h) (Or.inr ⟨by rfl, rfl⟩) (by assumption) ?_
   try simp only [aP, aQ, aA, aB, aC]
   refine wpAnyH_take (i := 15) (oi := ⟨some 18, _, _, _, _, _⟩) (v := undef) rfl (by kernel_rfl) (by kernel_rfl) (by kernel_rfl) (fun _ _ _ h => h) (Or.inr ⟨by rfl, rfl⟩) (by assumption) ?_
   try simp only [aP, aQ, aA, aB, aC]
   refine wpAnyH_take (i := 16) (oi := ⟨some 19, _, _, _, _, _⟩) (v := ?_) rfl (by kernel_rfl) (by kernel_rfl) (by kernel_rfl) (fun _ _ _ h => h) (Or.inl ⟨by rfl, ?_⟩) (by assumption) ?_
   rotate_left
   ·intro w5 hSw
    (try dsimp only at hSw)
    go_simp
    (try with_reducible rfl)
   try simp only [aP, aQ, aA, aB, aC]
   refine wpAnyH_take (i := 17) (oi := ⟨some 20, _, _, _, _, _⟩) (v := ?_) rfl (by kernel_rfl) (by kernel_rfl) (by kernel_rfl) (fun _ _ _ h => h) (Or.inl ⟨by rfl, ?_⟩) (by assumption) ?_
   rotate_left
   ·intro w5 hSw
    (try dsimp only at hSw)
    go_simp
    (try with_reducible rfl)
   try simp only [aP, aQ, aA, aB, aC]
   refine wpAnyH_take (i := 18) (oi := ⟨some 21, _, _, _, _, _⟩) (v := undef) rfl (by kernel_rfl) (by kernel_rfl) (by kernel_rfl) (fun _ _ _ h => h) (Or.inr ⟨by rfl, rfl⟩) (by assumption) ?_
   try simp only [aP, aQ, aA, aB, aC]
   refine wpAnyH_take (i := 19) (oi := ⟨some 22, _, _, _, _, _⟩) (v := undef) rfl (by kernel_rfl) (by kernel_rfl) (by kernel_rfl) (fun _ _ _ h => h) (Or.inr ⟨by rfl, rfl⟩) (by assumption) ?_
   try simp only [aP, aQ, aA, aB, aC]
   refine wpAnyH_take (i := 20) (oi := ⟨some 23, _, _, _, _, _⟩) (v := undef) rfl (by kernel_rfl) (by kernel_rfl) (by kernel_rfl) (fun _ _ _ h => h) (Or.inr ⟨by rfl, rfl⟩) (by assumption) ?_
   try simp only [aP, aQ, aA, aB, aC]
   refine wpAnyH_take (i := 21) (oi := ⟨some 24, _, _, _, _, _⟩) (v := ?_) rfl (by kernel_rfl) (by kernel_rfl) (by kernel_rfl) (fun _ _ _ h => h) (Or.inl ⟨by rfl, ?_⟩) (by assumption) ?_
   rotate_left
   ·intro w5 hSw
    (try dsimp only at hSw)
    go_simp
    (try with_reducible rfl)
   try simp only [aP, aQ, aA, aB, aC]
   refine wpAnyH_take (i := 22) (oi := ⟨some 25, _, _, _, _, _⟩) (v := ?_) rfl (by kernel_rfl) (by kernel_rfl) (by kernel_rfl) (fun _ _ _ h => h) (Or.inl ⟨by rfl, ?_⟩) (by assumption) ?_
   rotate_left
   ·intro w5 hSw
    (try dsimp only at hSw)
    go_simp
    (try with_reducible rfl)
   try simp only [aP, aQ, aA, aB, aC]
   refine wpAnyH_take (i := 23) (oi := ⟨some 26, _, _, _, _, _⟩) (v := undef) rfl (by kernel_rfl) (by kernel_rfl) (by kernel_rfl) (fun _ _ _ h => h) (Or.inr ⟨by rfl, rfl⟩) (by assumption) ?_
   try simp only [aP, aQ, aA, aB, aC]
   refine wpAnyH_take (i := 24) (oi := ⟨some 27, _, _, _, _, _⟩) (v := undef) rfl (by kernel_rfl) (by kernel_rfl) (by kernel_rfl) (fun _ _ _ h => h) (Or.inr ⟨by rfl, rfl⟩) (by assumption) ?_
   try simp only [aP, aQ, aA, aB, aC]
   refine wpAnyH_take (i := 25) (oi := ⟨some 28, _, _, _, _, _⟩) (v := undef) rfl (by kernel_rfl) (by kernel_rfl) (by kernel_rfl) (fun _ _ _ h => h) (Or.inr ⟨by rfl, rfl⟩) (by assumption) ?_
   try simp only [aP, aQ, aA, aB, aC]
   refine wpAnyH_take (i := 26) (oi := ⟨some 29, _, _, _, _, _⟩) (v := undef) rfl (by kernel_rfl) (by kernel_rfl) (by kernel_rfl) (fun _ _ _ h => h) (Or.inr ⟨by rfl, rfl⟩) (by assumption) ?_
   try simp only [aP, aQ, aA, aB, aC]
   refine wpAnyH_take (i := 27) (oi := ⟨some 30, _, _, _, _, _⟩) (v := undef) rfl (by kernel_rfl) (by kernel_rfl) (by kernel_rfl) (fun _ _ _ h => h) (Or.inr ⟨by rfl, rfl⟩) (by assumption) ?_
   try simp only [aP, aQ, aA, aB, aC]
   refine wpAnyH_take (i := 28) (oi := ⟨some 31, _, _, _, _, _⟩) (v := undef) rfl (by kernel_rfl) (by kernel_rfl) (by kernel_rfl) (fun _ _ _ h => h) (Or.inr ⟨by rfl, rfl⟩) (by assumption) ?_
   try simp only [aP, aQ, aA, aB, aC]
   refine wpAnyH_take (i := 29) (oi := ⟨some 32, _, _, _, _, _⟩) (v := undef) rfl (by kernel_rfl) (by kernel_rfl) (by kernel_rfl) (fun _ _ _ h => h) (Or.inr ⟨by rfl, rfl⟩) (by assumption) ?_
   try simp only [aP, aQ, aA, aB, aC]
   refine wpAnyH_take (i := 30) (oi := ⟨some 33, _, _, _, _, _⟩) (v := undef) rfl (by kernel_rfl) (by kernel_rfl) (by kernel_rfl) (fun _ _ _ h => h) (Or.inr ⟨by rfl, rfl⟩) (by assumption) ?_
   try simp only [aP, aQ, aA, aB, aC]
   refine wpAnyH_take (i := 31) (oi := ⟨some 34, _, _, _, _, _⟩) (v := ?_) rfl (by kernel_rfl) (by kernel_rfl) (by kernel_rfl) (fun _ _ _ h => h) (Or.inl ⟨by rfl, ?_⟩) (by assumption) ?_
   rotate_left
   ·intro w5 hSw
    (try dsimp only at hSw)
    go_simp
    (try with_reducible rfl)
   try simp only [aP, aQ, aA, aB, aC]
   refine wpAnyH_take (i := 32) (oi := ⟨some 2, _, _, _, _, _⟩) (v := ?_) rfl (by kernel_rfl) (by kernel_rfl) (by kernel_rfl) (fun _ _ _ h => h) (Or.inl ⟨by rfl, ?_⟩) (by assumption) ?_
   rotate_left
   ·intro w5 hSw
    (try dsimp only at hSw)
    go_simp
    (try with_reducible rfl)
   try simp only [aP, aQ, aA, aB, aC]
   refine wpAnyH_done (by kernel_rfl) ?_ _;go_wp2;go_ret
   exact ⟨by (first | rfl | simp), HI.out.bel⟩
end Go.Proofs.YtcaehfkfohianaaGreat
