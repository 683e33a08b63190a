/- What live answers: true. -/
import Derived.Test.YtjinhiabnpmiaaaCred
namespace Go.Proofs.Ytjinhiabnpmiaaa
open Go.RowKit
/-- An account that lies in a block. -/
structure Ent (wx : World) (k : Nat) (A : AccV) (g : Value) : Prop where
  box : wx.heap[k]? = some (.cells (accA A g) 24 (0, 0))
  got : AGot wx g A.l
theorem Ent.lt {wx : World} {k : Nat} {A : AccV} {g : Value} (h : Ent wx k A g) : k < wx.heap.size := (Array.getElem?_eq_some_iff.1 h.box).1
theorem Ent.keep {wx wy : World} {k : Nat} {A : AccV} {g : Value} (h : Ent wx k A g) (hb : Below wx.heap.size wx wy) : Ent wy k A g := ⟨(hb.block _ h.lt).trans h.box, h.got.keep hb⟩
theorem Ent.new {w1 : World} {A : AccV} {g : Value} {B : Nat} (h : w1.ownsRow B 35 2 g A.l.length (amC A.l)) (h8 : A.l.length * 16 ≤ 140737488355328) : Ent (w1.alloc (.cells (accA A g) 24)) w1.heap.size A g :=
  ⟨heap_alloc_new w1 _, own_agot (own_keep h (below1 w1 _)) h8⟩
theorem Ent.first {w : World} {A : AccV} {g : Value} (h : AGot w g A.l) : Ent (w.alloc (.cells (accA A g) 24)) w.heap.size A g := ⟨heap_alloc_new w _, h.keep (below1 w _)⟩
theorem Ent.cells {wx : World} {k : Nat} {A : AccV} {g : Value} (h : Ent wx k A g) : wx.cell? ⟨k, 0, none⟩ = some g ∧ wx.cell? ⟨k, 1, none⟩ = some (.int .i64 A.ct) :=
  ⟨by rw [cell_at h.box]; rfl, by rw [cell_at h.box]; rfl⟩
def liveA : AccV := ⟨[⟨0, 5⟩], 1⟩
theorem live1 : credL zA 0 5 = (liveA, 0) := by kernel_rfl
theorem live2 : debL liveA 0 6 = (zA, 121) := by kernel_rfl
theorem live3 : debL liveA 0 5 = (⟨[], 2⟩, 0) := by kernel_rfl
set_option maxHeartbeats 8000000 in
set_option maxRecDepth 100000 in
theorem live_is (w : World) : Calls Try.prog 15 #[] w fun e w' => e = .returned (.bool true) ∧ Below w.heap.size w w' := by
  have H1 := hideIt (credit_is zA (.slice none 0 0) 0 5 w (AGot.nil _ _ _ (Nat.zero_le _)))
  have H2 := hideIt (fun W g hg => debit_is liveA g 0 6 W hg)
  have H3 := hideIt (fun W g hg => debit_is liveA g 0 5 W hg)
  rw [live1] at H1
  rw [live2] at H2
  rw [live3] at H3
  unfold AccErr at H1 H2 H3
  unfold accV accA at H1 H2 H3
  unfold zA at H1 H2
  unfold liveA at H1 H2 H3
  simp only [List.length_cons, List.length_nil, Nat.zero_add] at H1 H2 H3
  go_enter Try.func15, Try.ntmps15
  go_wp2_with fail
  refine H1.out.mono ?_
  rintro e w1 ⟨gx, rfl, ho, hbl⟩
  dsimp only
  obtain ⟨xa, xc, rfl⟩ := own_len ho
  have X1 := hideIt (Ent.new (A := liveA) ho (by decide))
  have B1 := hideIt (below_via hbl (below1 w1 (.cells #[.slice xa 1 xc, .int .i64 1] 24)))
  clear ho hbl H1
  go_upto_region 2 with fail
  unfold accA liveA at X1
  simp only at X1
  generalize w1.alloc (.cells #[.slice xa 1 xc, .int .i64 1] 24) = w2 at *
  generalize w1.heap.size = k1 at *
  obtain ⟨c0, c1⟩ := X1.out.cells
  simp only at c0 c1
  go_wp2_with fail
  refine (H2.out _ _ X1.out.got).mono ?_
  rintro e w3 ⟨gy, rfl, ho, hbl⟩
  dsimp only
  obtain ⟨ya, yc, rfl⟩ := own_len ho
  have C3 := hideIt (below_via hbl (below1 w3 (.cells #[.slice ya 0 yc, .int .i64 0] 24)))
  have X3 := hideIt (X1.out.keep C3.out)
  have B3 := hideIt (below_via B1.out C3.out)
  clear ho hbl H2 X1 B1 C3 c0 c1
  go_upto_region 3 with fail
  generalize w3.alloc (.cells #[.slice ya 0 yc, .int .i64 0] 24) = w4 at *
  generalize w3.heap.size = k3 at *
  obtain ⟨c0, c1⟩ := X3.out.cells
  simp only at c0 c1
  go_wp2_with fail
  refine (H3.out _ _ X3.out.got).mono ?_
  rintro e w5 ⟨gz, rfl, ho, hbl⟩
  dsimp only
  obtain ⟨za, zc, rfl⟩ := own_len ho
  have C5 := hideIt (below_via hbl (below1 w5 (.cells #[.slice za 0 zc, .int .i64 2] 24)))
  have X5 := hideIt (X3.out.keep C5.out)
  have Z5 := hideIt (heap_alloc_new w5 (.cells #[.slice za 0 zc, .int .i64 2] 24))
  have B5 := hideIt (below_via B3.out C5.out)
  clear ho hbl H3 X3 B3 C5 c0 c1
  go_upto_region 4 with fail
  generalize w5.alloc (.cells #[.slice za 0 zc, .int .i64 2] 24) = w6 at *
  generalize w5.heap.size = k5 at *
  obtain ⟨c0, c1⟩ := X5.out.cells
  simp only at c0 c1
  have d0 : w6.cell? ⟨k5, 0, none⟩ = some (.slice za 0 zc) := by rw [cell_at Z5.out]; rfl
  have d1 : w6.cell? ⟨k5, 1, none⟩ = some (.int .i64 2) := by rw [cell_at Z5.out]; rfl
  obtain ⟨a', c', e', -, hop⟩ := X5.out.got.open
  obtain ⟨b, off, rfl, hlt, q0, q1⟩ := hop 0 (by decide)
  simp only [Value.slice.injEq] at e'
  obtain ⟨rfl, -, -⟩ := e'
  have q2 : w6.cell? ⟨b, off + 1, none⟩ = some (.int .i64 5) := by simpa using q1
  clear X5 Z5 hop q0 q1
  go_wp2
  go_ret
  exact ⟨rfl, B5.out⟩
end Go.Proofs.Ytjinhiabnpmiaaa
