/- What live answers: true. -/
import Derived.Test.YtofbikalfpmdpabInst
namespace Go.Proofs.Ytofbikalfpmdpab
open Go.RowKit
/-- A log that lies in a block. -/
structure Ent (wx : World) (k : Nat) (L : LogV) (g : Value) : Prop where
  box : wx.heap[k]? = some (.cells (logA L g) 26 (0, 0))
  got : EGot wx g L.l
theorem Ent.lt {wx : World} {k : Nat} {L : LogV} {g : Value} (h : Ent wx k L g) : k < wx.heap.size := (Array.getElem?_eq_some_iff.1 h.box).1
theorem Ent.keep {wx wy : World} {k : Nat} {L : LogV} {g : Value} (h : Ent wx k L g) (hb : Below wx.heap.size wx wy) : Ent wy k L g := ⟨(hb.block _ h.lt).trans h.box, h.got.keep hb⟩
theorem Ent.new {w1 : World} {L : LogV} {g : Value} {B : Nat} (h : w1.ownsRow B 39 3 g L.l.length (entC L.l)) (h8 : L.l.length * 32 ≤ 140737488355328) : Ent (w1.alloc (.cells (logA L g) 26)) w1.heap.size L g :=
  ⟨heap_alloc_new w1 _, own_egot (own_keep h (below1 w1 _)) h8⟩
theorem Ent.first {w : World} {L : LogV} {g : Value} (h : EGot w g L.l) : Ent (w.alloc (.cells (logA L g) 26)) w.heap.size L g := ⟨heap_alloc_new w _, h.keep (below1 w _)⟩
theorem Ent.cells {wx : World} {k : Nat} {L : LogV} {g : Value} (h : Ent wx k L g) : wx.cell? ⟨k, 0, none⟩ = some (.int .i64 L.bi) ∧ wx.cell? ⟨k, 1, none⟩ = some (.int .i64 L.bt) ∧ wx.cell? ⟨k, 2, none⟩ = some g ∧ wx.cell? ⟨k, 3, none⟩ = some (.int .i64 L.cm) :=
  ⟨by rw [cell_at h.box]; rfl, by rw [cell_at h.box]; rfl, by rw [cell_at h.box]; rfl, by rw [cell_at h.box]; rfl⟩
def e1 : EntV := ⟨1, 1, ⟨#[]⟩⟩
def e2 : EntV := ⟨2, 1, ⟨#[]⟩⟩
def liveL : LogV := ⟨0, 0, [e1, e1, e2], 2⟩
theorem live_comp : compL liveL 2 = (⟨2, 1, [e2], 2⟩, 0) := by kernel_rfl
theorem live_inst : instL liveL 5 2 = (⟨5, 2, [], 5⟩, true, 0) := by kernel_rfl
theorem live_got {w w1 : World} (h : Below (w.alloc (.cells #[.int .i64 1, .int .i64 1, .string ⟨#[]⟩, .int .i64 1, .int .i64 1, .string ⟨#[]⟩, .int .i64 2, .int .i64 1, .string ⟨#[]⟩] 39)).heap.size (w.alloc (.cells #[.int .i64 1, .int .i64 1, .string ⟨#[]⟩, .int .i64 1, .int .i64 1, .string ⟨#[]⟩, .int .i64 2, .int .i64 1, .string ⟨#[]⟩] 39)) w1) : EGot w1 (.slice (some ⟨w.heap.size, 0, none⟩) 3 3) liveL.l := by
  refine EGot.keep (w := w.alloc (.cells #[.int .i64 1, .int .i64 1, .string ⟨#[]⟩, .int .i64 1, .int .i64 1, .string ⟨#[]⟩, .int .i64 2, .int .i64 1, .string ⟨#[]⟩] 39)) ?_ h
  refine ⟨by simp [liveL], _, 3, rfl, ⟨by simp [liveL], by unfold maxLen; omega⟩, fun _ => ⟨w.heap.size, 0, rfl, by simp, fun j hj => ?_⟩⟩
  rw [cell_at (heap_alloc_new w _), Nat.zero_add]
  simp only [liveL, entC, e1, e2]
  rw [← List.getElem?_toArray]
  rfl
set_option maxHeartbeats 8000000 in
set_option maxRecDepth 100000 in
theorem live_is (w : World) : Calls Try.prog 14 #[] w fun e w' => e = .returned (.bool true) ∧ Below w.heap.size w w' := by
  have H1 := hideIt (fun W g hg => compact_is liveL g 2 W hg)
  have H2 := hideIt (fun W g hg => install_is liveL g 5 2 W hg)
  rw [live_comp] at H1
  rw [live_inst] at H2
  unfold LogErr at H1
  unfold LogInst at H2
  have hX := two_heap w (.cells #[.int .i64 1, .int .i64 1, .string ⟨#[]⟩, .int .i64 1, .int .i64 1, .string ⟨#[]⟩, .int .i64 2, .int .i64 1, .string ⟨#[]⟩] 39) (.cells #[.int .i64 0, .int .i64 0, .slice (some ⟨w.heap.size, 0, none⟩) 3 3, .int .i64 2] 26)
  have HX : Hid (Ent ((w.alloc (.cells #[.int .i64 1, .int .i64 1, .string ⟨#[]⟩, .int .i64 1, .int .i64 1, .string ⟨#[]⟩, .int .i64 2, .int .i64 1, .string ⟨#[]⟩] 39)).alloc (.cells #[.int .i64 0, .int .i64 0, .slice (some ⟨w.heap.size, 0, none⟩) 3 3, .int .i64 2] 26)) (w.heap.size + 1) liveL (.slice (some ⟨w.heap.size, 0, none⟩) 3 3) ∧ Below w.heap.size w ((w.alloc (.cells #[.int .i64 1, .int .i64 1, .string ⟨#[]⟩, .int .i64 1, .int .i64 1, .string ⟨#[]⟩, .int .i64 2, .int .i64 1, .string ⟨#[]⟩] 39)).alloc (.cells #[.int .i64 0, .int .i64 0, .slice (some ⟨w.heap.size, 0, none⟩) 3 3, .int .i64 2] 26))) := ⟨⟨hX.2.1, live_got (below1 _ _)⟩, below2 w _ _⟩
  clear hX
  unfold logV logA liveL at H1 H2
  simp only [List.length_cons, List.length_nil] at H1 H2
  have n1 := eq23r 2 1
  go_enter Try.func14, Try.ntmps14
  go_upto_region 2 with fail
  generalize ((w.alloc (.cells #[.int .i64 1, .int .i64 1, .string ⟨#[]⟩, .int .i64 1, .int .i64 1, .string ⟨#[]⟩, .int .i64 2, .int .i64 1, .string ⟨#[]⟩] 39)).alloc (.cells #[.int .i64 0, .int .i64 0, .slice (some ⟨w.heap.size, 0, none⟩) 3 3, .int .i64 2] 26)) = X at *
  obtain ⟨c0, c1, c2, c3⟩ := HX.out.1.cells
  simp only [liveL] at c0 c1 c2 c3
  go_wp2_with fail
  refine (H1.out _ _ HX.out.1.got).mono ?_
  rintro e w1 ⟨gx, rfl, ho, hbl⟩
  dsimp only
  obtain ⟨xa, xc, rfl⟩ := own_len ho
  have X2 := hideIt (below_via hbl (below1 w1 (.cells #[.int .i64 2, .int .i64 1, .slice xa 1 xc, .int .i64 2] 26)))
  have E2 := hideIt (And.intro (HX.out.1.keep X2.out) (below_via HX.out.2 X2.out))
  have R2 := hideIt (heap_alloc_new w1 (.cells #[.int .i64 2, .int .i64 1, .slice xa 1 xc, .int .i64 2] 26))
  clear ho hbl HX X2 H1 c0 c1 c2 c3
  go_upto_region 3 with fail
  generalize w1.alloc (.cells #[.int .i64 2, .int .i64 1, .slice xa 1 xc, .int .i64 2] 26) = w2 at *
  generalize w1.heap.size = k2 at *
  obtain ⟨c0, c1, c2, c3⟩ := E2.out.1.cells
  simp only [liveL] at c0 c1 c2 c3
  go_wp2_with fail
  refine (H2.out _ _ E2.out.1.got).mono ?_
  rintro e w3 ⟨gy, rfl, ho, hbl⟩
  dsimp only
  obtain ⟨ya, yc, rfl⟩ := own_len ho
  have X3 := hideIt (below_via hbl (below1 w3 (.cells #[.int .i64 5, .int .i64 2, .slice ya 0 yc, .int .i64 5] 26)))
  have B3 := hideIt (below_via E2.out.2 X3.out)
  have R3 := hideIt ((X3.out.block _ (Array.getElem?_eq_some_iff.1 R2.out).1).trans R2.out)
  have R4 := hideIt (heap_alloc_new w3 (.cells #[.int .i64 5, .int .i64 2, .slice ya 0 yc, .int .i64 5] 26))
  clear ho hbl X3 H2 E2 R2 c0 c1 c2 c3
  go_upto_region 4 with fail
  generalize w3.alloc (.cells #[.int .i64 5, .int .i64 2, .slice ya 0 yc, .int .i64 5] 26) = w4 at *
  generalize w3.heap.size = k4 at *
  have a0 : w4.cell? ⟨k2, 0, none⟩ = some (.int .i64 2) := by rw [cell_at R3.out]; rfl
  have a1 : w4.cell? ⟨k2, 1, none⟩ = some (.int .i64 1) := by rw [cell_at R3.out]; rfl
  have a2 : w4.cell? ⟨k2, 2, none⟩ = some (.slice xa 1 xc) := by rw [cell_at R3.out]; rfl
  have b0 : w4.cell? ⟨k4, 0, none⟩ = some (.int .i64 5) := by rw [cell_at R4.out]; rfl
  have b2 : w4.cell? ⟨k4, 2, none⟩ = some (.slice ya 0 yc) := by rw [cell_at R4.out]; rfl
  have b3 : w4.cell? ⟨k4, 3, none⟩ = some (.int .i64 5) := by rw [cell_at R4.out]; rfl
  clear R3 R4
  go_wp2
  go_ret
  exact ⟨rfl, B3.out⟩
end Go.Proofs.Ytofbikalfpmdpab
