/- live of law17, and Keys. -/
import Derived.Test.YtgdgpcheammbpaaDoorEndW
import Derived.Test.YtgdgpcheammbpaaDoorFit
namespace Go.Proofs.YtgdgpcheammbpaaDoor
open Go.RowKit
set_option linter.all false
/-- Begin at known sessions. -/
theorem begK (v : Value) (l : List SesX) (vs : List SesV) (c q : Int) (rs : List SesV) (n k x7 : Int) (m : Int) (hl : l.map SesX.v = vs) (hr : begV vs (c, q) = (rs, n, ⟨k, x7, [], []⟩, m)) (W : World) (h : Sess W v l) : Calls Tryd.prog 16 #[v, .agg #[.int .i64 c, .int .i64 q]] W fun e w' => ∃ a cap a1 c1 a2 c2, e = .returned (.tuple #[.slice a rs.length cap, .int .i64 n, .agg #[.int .i64 k, .int .i64 x7, .slice a1 0 c1, .slice a2 0 c2], .int .i64 m]) ∧ Hid (Below W.heap.size W w' ∧ ∃ ys, ys.map SesX.v = rs ∧ SesOwn W.heap.size w' (.slice a rs.length cap) ys) := by
  refine (begin_is v l c q W h).mono ?_
  rintro e w' ⟨a, cap, ys, ⟨xv, a1, c1, a2, c2⟩, rfl, hy, ho, hx, _, hb⟩
  rw [hl, hr] at hy ho hx ⊢
  dsimp only at hx
  subst hx
  exact ⟨a, cap, a1, c1, a2, c2, rfl, hb, ys, hy, ho⟩
theorem endK (v : Value) (l : List SesX) (vs : List SesV) (c q x7 : Int) (rs : List SesV) (m : Int) (hl : l.map SesX.v = vs) (hr : endV vs (c, q) ⟨0, x7, [], []⟩ = (rs, m)) (W : World) (h : Sess W v l) : Calls Tryd.prog 15 #[v, .agg #[.int .i64 c, .int .i64 q], .agg #[.int .i64 0, .int .i64 x7, .slice none 0 0, .slice none 0 0]] W fun e w' => ∃ a cap, e = .returned (.tuple #[.slice a rs.length cap, .int .i64 m]) ∧ Hid (Below W.heap.size W w' ∧ ∃ ys, ys.map SesX.v = rs ∧ SesOwn W.heap.size w' (.slice a rs.length cap) ys) := by
  refine (end_is v l c q ⟨⟨0, x7, [], []⟩, none, 0, none, 0⟩ W h ⟨SGot.nil _ _ _ _ _ _ (Nat.zero_le _), SGot.nil _ _ _ _ _ _ (Nat.zero_le _)⟩).mono ?_
  rintro e w' ⟨a, cap, ys, rfl, hy, ho, hb⟩
  rw [hl, hr] at hy ho ⊢
  exact ⟨a, cap, rfl, hb, ys, hy, ho⟩
theorem lv1 : begV [] (1, 1) = ([⟨1, 1, false, zAns⟩], 1, ⟨0, 0, [], []⟩, 0) := rfl
theorem lv2 : begV [⟨1, 1, false, zAns⟩] (1, 1) = ([⟨1, 1, false, zAns⟩], 2, ⟨0, 0, [], []⟩, 0) := rfl
theorem lv3 : endV [⟨1, 1, false, zAns⟩] (1, 1) ⟨0, 7, [], []⟩ = ([⟨1, 1, true, ⟨0, 7, [], []⟩⟩], 0) := rfl
theorem lv4 : begV [⟨1, 1, true, ⟨0, 7, [], []⟩⟩] (1, 1) = ([⟨1, 1, true, ⟨0, 7, [], []⟩⟩], 3, ⟨0, 7, [], []⟩, 0) := rfl
theorem lv5 : fitsB ⟨8, 1, 0, 0, 0, 0, 0, false, (0, 0), 0⟩ = true := by kernel_rfl
set_option maxHeartbeats 8000000 in
set_option maxRecDepth 100000 in
theorem live_is (w : World) (hF : Forms w) : Calls Tryd.prog 11 #[] w fun e w' => e = .returned (.bool true) ∧ Below w.heap.size w w' := by
  have HF := hideIt (fun W (hW : Below w.heap.size w W) => fits_is ⟨8, 1, 0, 0, 0, 0, 0, false, (0, 0), 0⟩ W (hF.keep hW))
  rw [lv5] at HF
  simp only [reqC] at HF
  have X0 := hideIt (And.intro (heap_alloc_new w (.cells #[.int .i64 1, .int .i64 1] 35)) (below1 w (.cells #[.int .i64 1, .int .i64 1] 35)))
  have H1 := hideIt (fun W => begK (.slice none 0 0) [] [] 1 1 _ _ _ _ _ rfl lv1 W (Sess.nil W))
  simp only [List.length_cons, List.length_nil, Nat.zero_add] at H1
  go_enter Tryd.func11, Tryd.ntmps11
  go_wp2_with fail
  refine (H1.out _).mono ?_
  rintro e w1 ⟨a1, p1, b1, d1, b2, d2, rfl, HO⟩
  dsimp only
  obtain ⟨hb1, ys1, hy1, ho1⟩ := HO.out
  have hA1 := below1 w1 (.cells #[.int .i64 0, .int .i64 0, .slice b1 0 d1, .slice b2 0 d2] 44)
  have hb2 := below_via hb1 hA1
  have HX1 := hideIt (And.intro ((hb2.block _ (Array.getElem?_eq_some_iff.1 X0.out.1).1).trans X0.out.1) (below_via X0.out.2 hb2))
  have HS1 := hideIt (And.intro hy1 (ho1.keep hA1))
  clear hb1 hA1 hb2 hy1 ho1 HO X0 H1
  go_upto_region 3 with fail
  generalize w1.alloc (.cells #[.int .i64 0, .int .i64 0, .slice b1 0 d1, .slice b2 0 d2] 44) = W1 at *
  generalize w1.heap.size = K1 at *
  obtain ⟨t0, t1, -, -, tz⟩ := two_at HX1.out.1
  have H2 := hideIt (begK _ ys1 _ 1 1 _ _ _ _ _ HS1.out.1 lv2 W1 HS1.out.2.at_)
  simp only [List.length_cons, List.length_nil, Nat.zero_add] at H2
  go_wp2_with fail
  refine H2.out.mono ?_
  rintro e w2 ⟨a3, p3, b3, d3, b4, d4, rfl, HO⟩
  dsimp only
  obtain ⟨hb1, -⟩ := HO.out
  have hA1 := below1 w2 (.cells #[.int .i64 0, .int .i64 0, .slice b3 0 d3, .slice b4 0 d4] 44)
  have hb2 := below_via hb1 hA1
  have HX2 := hideIt (And.intro ((hb2.block _ tz).trans HX1.out.1) (below_via HX1.out.2 hb2))
  have HS2 := hideIt (And.intro HS1.out.1 (HS1.out.2.keep hb2))
  clear hb1 hA1 hb2 HO H2 HX1 HS1 t0 t1 tz
  go_upto_region 4 with fail
  generalize w2.alloc (.cells #[.int .i64 0, .int .i64 0, .slice b3 0 d3, .slice b4 0 d4] 44) = W2 at *
  generalize w2.heap.size = K2 at *
  obtain ⟨t0, t1, -, -, tz⟩ := two_at HX2.out.1
  have H3 := hideIt (endK _ ys1 _ 1 1 7 _ _ HS2.out.1 lv3 W2 HS2.out.2.at_)
  simp only [List.length_cons, List.length_nil, Nat.zero_add] at H3
  go_wp2_with fail
  refine H3.out.mono ?_
  rintro e w3 ⟨a5, p5, rfl, HO⟩
  dsimp only
  obtain ⟨hb1, ys3, hy3, ho3⟩ := HO.out
  have HX3 := hideIt (And.intro ((hb1.block _ tz).trans HX2.out.1) (below_via HX2.out.2 hb1))
  have HS3 := hideIt (And.intro hy3 ho3)
  clear hb1 hy3 ho3 HO H3 HX2 HS2 t0 t1 tz
  go_upto_region 5 with fail
  obtain ⟨t0, t1, -, -, tz⟩ := two_at HX3.out.1
  have H4 := hideIt (begK _ ys3 _ 1 1 _ _ _ _ _ HS3.out.1 lv4 w3 HS3.out.2.at_)
  simp only [List.length_cons, List.length_nil, Nat.zero_add] at H4
  go_wp2_with fail
  refine H4.out.mono ?_
  rintro e w4 ⟨a7, p7, b7, d7, b8, d8, rfl, HO⟩
  dsimp only
  obtain ⟨hb1, -⟩ := HO.out
  have hA1 := below1 w4 (.cells #[.int .i64 0, .int .i64 7, .slice b7 0 d7, .slice b8 0 d8] 44)
  have hb2 := below_via hb1 hA1
  have HX4 := hideIt (below_via HX3.out.2 hb2)
  clear hb1 hA1 hb2 HO H4 HX3 HS3 t0 t1 tz
  go_wp2_with fail
  refine (HF.out _ HX4.out).mono ?_
  rintro e w5 ⟨rfl, hb⟩
  dsimp only
  have HB := hideIt (below_via HX4.out hb)
  clear hb HF HX4
  go_wp2
  go_ret
  exact ⟨rfl, HB.out⟩
end Go.Proofs.YtgdgpcheammbpaaDoor
