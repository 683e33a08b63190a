/- What live answers: true. -/
import Derived.Test.YtonhoopmhkomcaaAcc
import Derived.Test.YtonhoopmhkomcaaAdv
namespace Go.Proofs.Ytonhoopmhkomcaa
open Go.RowKit
/-- A log that lies in a block. -/
structure Ent (wx : World) (k : Nat) (L : LogV) (g : Value) : Prop where
  box : wx.heap[k]? = some (.cells (logA L g) 26 (0, 0))
  got : EGot wx g L.l
theorem Ent.lt {wx : World} {k : Nat} {L : LogV} {g : Value} (h : Ent wx k L g) : k < wx.heap.size := (Array.getElem?_eq_some_iff.1 h.box).1
theorem Ent.keep {wx wy : World} {k : Nat} {L : LogV} {g : Value} (h : Ent wx k L g) (hb : Below wx.heap.size wx wy) : Ent wy k L g := ⟨(hb.block _ h.lt).trans h.box, h.got.keep hb⟩
theorem Ent.new {w1 : World} {L : LogV} {g : Value} {B : Nat} (h : w1.ownsRow B 40 3 g L.l.length (entC L.l)) (h8 : L.l.length * 32 ≤ 150000000000000) : Ent (w1.alloc (.cells (logA L g) 26)) w1.heap.size L g :=
  ⟨heap_alloc_new w1 _, own_egot (own_keep h (below1 w1 _)) h8⟩
theorem Ent.first {w : World} {L : LogV} {g : Value} (h : EGot w g L.l) : Ent (w.alloc (.cells (logA L g) 26)) w.heap.size L g := ⟨heap_alloc_new w _, h.keep (below1 w _)⟩
theorem Ent.cells {wx : World} {k : Nat} {L : LogV} {g : Value} (h : Ent wx k L g) : wx.cell? ⟨k, 0, none⟩ = some (.int .i64 L.bi) ∧ wx.cell? ⟨k, 1, none⟩ = some (.int .i64 L.bt) ∧ wx.cell? ⟨k, 2, none⟩ = some g ∧ wx.cell? ⟨k, 3, none⟩ = some (.int .i64 L.cm) :=
  ⟨by rw [cell_at h.box]; rfl, by rw [cell_at h.box]; rfl, by rw [cell_at h.box]; rfl, by rw [cell_at h.box]; rfl⟩
def f1 : EntV := ⟨1, 1, ⟨#[]⟩⟩
def fa : EntV := ⟨1, 2, ⟨#[97]⟩⟩
def f2 : EntV := ⟨2, 1, ⟨#[]⟩⟩
def f3 : EntV := ⟨3, 1, ⟨#[]⟩⟩
def lvL : LogV := ⟨0, 0, [f1, fa, f2], 0⟩
theorem lv_acc : accL lvL 2 1 [f3] 9 = (⟨0, 0, [f1, fa, f3], 3⟩, 3, true, 0) := by kernel_rfl
theorem lv_mid : midL [3, 3, 1] = 3 := by
  have e : sortL [3, 3, 1] = [1, 3, 3] := by
    unfold sortL
    simp [List.mergeSort, List.MergeSort.Internal.splitInTwo]
  unfold midL
  rw [e]
  rfl
theorem lv_adv : advL lvL 2 [3, 3, 1] = (⟨0, 0, [f1, fa, f2], 3⟩, 0) := by
  unfold advL
  rw [lv_mid]
  kernel_rfl
theorem lv_last : lastL lvL = (3, 2) := by kernel_rfl
theorem lv_got {w w1 : World} (h : Below (w.alloc (.cells #[.int .i64 1, .int .i64 1, .string ⟨#[]⟩, .int .i64 1, .int .i64 2, .string ⟨#[97]⟩, .int .i64 2, .int .i64 1, .string ⟨#[]⟩] 40)).heap.size (w.alloc (.cells #[.int .i64 1, .int .i64 1, .string ⟨#[]⟩, .int .i64 1, .int .i64 2, .string ⟨#[97]⟩, .int .i64 2, .int .i64 1, .string ⟨#[]⟩] 40)) w1) : EGot w1 (.slice (some ⟨w.heap.size, 0, none⟩) 3 3) lvL.l := by
  refine EGot.keep (w := w.alloc (.cells #[.int .i64 1, .int .i64 1, .string ⟨#[]⟩, .int .i64 1, .int .i64 2, .string ⟨#[97]⟩, .int .i64 2, .int .i64 1, .string ⟨#[]⟩] 40)) ?_ h
  refine ⟨by simp [lvL], _, 3, rfl, ⟨by simp [lvL], by unfold maxLen; omega⟩, fun _ => ⟨w.heap.size, 0, rfl, by simp, fun j hj => ?_⟩⟩
  rw [cell_at (heap_alloc_new w _), Nat.zero_add]
  simp only [lvL, entC, f1, fa, f2]
  rw [← List.getElem?_toArray]
  rfl
theorem lv_one (w : World) : EGot (w.alloc (.cells #[.int .i64 3, .int .i64 1, .string ⟨#[]⟩] 40)) (.slice (some ⟨w.heap.size, 0, none⟩) 1 1) [f3] := by
  refine ⟨by simp, _, 1, rfl, ⟨by simp, by unfold maxLen; omega⟩, fun _ => ⟨w.heap.size, 0, rfl, by simp, fun j hj => ?_⟩⟩
  rw [cell_at (heap_alloc_new w _), Nat.zero_add]
  simp only [entC, f3]
  rw [← List.getElem?_toArray]
  rfl
theorem lv_num (w : World) : NGot (w.alloc (.cells #[.int .i64 3, .int .i64 3, .int .i64 1] 3)) (.slice (some ⟨w.heap.size, 0, none⟩) 3 3) [3, 3, 1] := by
  refine ⟨by simp, _, 3, rfl, fun _ => ⟨w.heap.size, 0, rfl, by simp, fun j hj => ?_⟩⟩
  have hj3 : j < 3 := by simpa using hj
  rw [cell_at (heap_alloc_new w _), Nat.zero_add]
  rcases (by omega : j = 0 ∨ j = 1 ∨ j = 2) with rfl | rfl | rfl <;> rfl
set_option maxHeartbeats 16000000 in
set_option maxRecDepth 100000 in
theorem live8_is (w : World) : Calls Try.prog 21 #[] w fun e w' => e = .returned (.bool true) ∧ Below w.heap.size w w' := by
  have H1 := hideIt (fun W g k hg hk => accept_is lvL g k 2 1 [f3] 9 W hg hk)
  have H2 := hideIt (fun W g k hg hk => advance_is lvL g k 2 [3, 3, 1] W hg hk)
  have H3 := hideIt (fun W g hg => last_is lvL g W hg)
  rw [lv_acc] at H1
  rw [lv_adv] at H2
  rw [lv_last] at H3
  unfold AccBack at H1
  unfold LogErr at H2
  have hX := two_heap w (.cells #[.int .i64 1, .int .i64 1, .string ⟨#[]⟩, .int .i64 1, .int .i64 2, .string ⟨#[97]⟩, .int .i64 2, .int .i64 1, .string ⟨#[]⟩] 40) (.cells #[.int .i64 0, .int .i64 0, .slice (some ⟨w.heap.size, 0, none⟩) 3 3, .int .i64 0] 26)
  have HX : Hid (Ent ((w.alloc (.cells #[.int .i64 1, .int .i64 1, .string ⟨#[]⟩, .int .i64 1, .int .i64 2, .string ⟨#[97]⟩, .int .i64 2, .int .i64 1, .string ⟨#[]⟩] 40)).alloc (.cells #[.int .i64 0, .int .i64 0, .slice (some ⟨w.heap.size, 0, none⟩) 3 3, .int .i64 0] 26)) (w.heap.size + 1) lvL (.slice (some ⟨w.heap.size, 0, none⟩) 3 3) ∧ Below w.heap.size w ((w.alloc (.cells #[.int .i64 1, .int .i64 1, .string ⟨#[]⟩, .int .i64 1, .int .i64 2, .string ⟨#[97]⟩, .int .i64 2, .int .i64 1, .string ⟨#[]⟩] 40)).alloc (.cells #[.int .i64 0, .int .i64 0, .slice (some ⟨w.heap.size, 0, none⟩) 3 3, .int .i64 0] 26))) := ⟨⟨hX.2.1, lv_got (below1 _ _)⟩, below2 w _ _⟩
  clear hX
  unfold logV logA lvL at H1 H2 H3
  simp only [List.length_cons, List.length_nil, Nat.zero_add, Nat.reduceAdd] at H1 H2 H3
  have n1 := eq23r 3 2
  go_enter Try.func21, Try.ntmps21
  go_upto_region 2 with fail
  generalize ((w.alloc (.cells #[.int .i64 1, .int .i64 1, .string ⟨#[]⟩, .int .i64 1, .int .i64 2, .string ⟨#[97]⟩, .int .i64 2, .int .i64 1, .string ⟨#[]⟩] 40)).alloc (.cells #[.int .i64 0, .int .i64 0, .slice (some ⟨w.heap.size, 0, none⟩) 3 3, .int .i64 0] 26)) = X at *
  obtain ⟨c0, c1, c2, c3⟩ := HX.out.1.cells
  simp only [lvL] at c0 c1 c2 c3
  have X1 := hideIt (HX.out.1.keep (below1 X (.cells #[.int .i64 3, .int .i64 1, .string ⟨#[]⟩] 40)))
  have B1 := hideIt (below_via HX.out.2 (below1 X (.cells #[.int .i64 3, .int .i64 1, .string ⟨#[]⟩] 40)))
  go_wp2_with fail
  refine (H1.out _ _ _ X1.out.got (lv_one X)).mono ?_
  rintro e w1 ⟨gx, rfl, ho, hbl⟩
  dsimp only
  obtain ⟨xa, xc, rfl⟩ := own_len ho
  have C2 := hideIt (below_via hbl (below1 w1 (.cells #[.int .i64 0, .int .i64 0, .slice xa 3 xc, .int .i64 3] 26)))
  have E2 := hideIt (X1.out.keep C2.out)
  have B2 := hideIt (below_via B1.out C2.out)
  have R2 := hideIt (Ent.new (L := ⟨0, 0, [f1, fa, f3], 3⟩) ho (by decide))
  clear ho hbl HX X1 B1 C2 H1 c0 c1 c2 c3
  go_upto_region 3 with fail
  unfold logA at R2
  simp only at R2
  generalize w1.alloc (.cells #[.int .i64 0, .int .i64 0, .slice xa 3 xc, .int .i64 3] 26) = w2 at *
  generalize w1.heap.size = k2 at *
  obtain ⟨c0, c1, c2, c3⟩ := E2.out.cells
  simp only [lvL] at c0 c1 c2 c3
  have E3 := hideIt (E2.out.keep (below1 w2 (.cells #[.int .i64 3, .int .i64 3, .int .i64 1] 3)))
  go_wp2_with fail
  refine (H2.out _ _ _ E3.out.got (lv_num w2)).mono ?_
  rintro e w3 ⟨gy, rfl, ho, hbl⟩
  dsimp only
  obtain ⟨ya, yc, rfl⟩ := own_len ho
  have C4 := hideIt (below_via (below1 w2 (.cells #[.int .i64 3, .int .i64 3, .int .i64 1] 3)) (below_via hbl (below1 w3 (.cells #[.int .i64 0, .int .i64 0, .slice ya 3 yc, .int .i64 3] 26))))
  have E4 := hideIt (E2.out.keep C4.out)
  have R4 := hideIt (R2.out.keep C4.out)
  have B4 := hideIt (below_via B2.out C4.out)
  have Y4 := hideIt (heap_alloc_new w3 (.cells #[.int .i64 0, .int .i64 0, .slice ya 3 yc, .int .i64 3] 26))
  clear ho hbl E2 E3 R2 B2 C4 H2 c0 c1 c2 c3
  go_upto_region 4 with fail
  generalize w3.alloc (.cells #[.int .i64 0, .int .i64 0, .slice ya 3 yc, .int .i64 3] 26) = w4 at *
  generalize w3.heap.size = k4 at *
  obtain ⟨c0, c1, c2, c3⟩ := E4.out.cells
  obtain ⟨d0, d1, d2, d3⟩ := R4.out.cells
  simp only [lvL] at c0 c1 c2 c3 d0 d1 d2 d3
  have y3 : w4.cell? ⟨k4, 3, none⟩ = some (.int .i64 3) := by rw [cell_at Y4.out]; rfl
  obtain ⟨a', c', e', -, hop⟩ := R4.out.got.open
  obtain ⟨b, off, rfl, hlt, q0, -, -⟩ := hop 2 (by decide)
  simp only [Value.slice.injEq] at e'
  obtain ⟨rfl, -, -⟩ := e'
  have q1 : w4.cell? ⟨b, off + 6, none⟩ = some (.int .i64 3) := by simpa [f3] using q0
  clear hop q0 Y4
  go_wp2_with fail
  refine (H3.out _ _ E4.out.got).mono ?_
  rintro e w5 ⟨rfl, hbl⟩
  dsimp only
  have B5 := hideIt (below_via B4.out hbl)
  clear hbl
  go_wp2
  go_ret
  exact ⟨rfl, B5.out⟩
end Go.Proofs.Ytonhoopmhkomcaa
