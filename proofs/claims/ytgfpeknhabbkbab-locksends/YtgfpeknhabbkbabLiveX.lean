/- The document's example is answered as the document says. -/
import Derived.Test.YtgfpeknhabbkbabFreeW
import Derived.Test.YtgfpeknhabbkbabWounds
namespace Go.Proofs.Ytgfpeknhabbkbab
open Go.RowKit
set_option linter.all false
def tab1 : TabV := ⟨[((1, 1), (2, 5))], []⟩
def tab2 : TabV := ⟨[((1, 1), (2, 5))], [((1, 1), (1, 5))]⟩
def tab3 : TabV := ⟨[((1, 1), (1, 5))], []⟩
theorem ask0 : askL zTab (1, 1) (2, 5) = (tab1, true, 0) := by kernel_rfl
theorem ask1 : askL tab1 (1, 1) (1, 5) = (tab2, false, 0) := by kernel_rfl
theorem free2 : freeL tab2 (1, 1) (2, 5) = (tab3, (1, 5), 0) := by kernel_rfl
theorem wn2 : wnL tab2 = [((1, 1), (2, 5))] := by kernel_rfl
theorem old2 : oldB (1, 5) (2, 5) = true := by kernel_rfl
theorem TabOwn.tab {B : Nat} {T : TabV} {h v : Value} {w : World} (a : TabOwn B T h v w) (h1 : T.held.length ≤ 1000000) (h2 : T.wait.length ≤ 1000000) : Tab w T h v := ⟨own_sgot a.oh (by omega), own_sgot a.ov (by omega)⟩
theorem TabOwn.keep {B : Nat} {T : TabV} {h v : Value} {w w' : World} (a : TabOwn B T h v w) (hb : Below w.heap.size w w') : TabOwn B T h v w' := ⟨own_keep a.oh hb, own_keep a.ov hb⟩
theorem own_some {w : World} {B n : Nat} {e : TypeId} {z : Nat} {v : Value} {xs : List Value} (h : w.ownsRow B e z v n xs) (hn : 0 < n) : ∃ g c, v = .slice (some ⟨g, 0, none⟩) n c ∧ g < w.heap.size ∧ ∀ j u, xs[j]? = some u → w.cell? ⟨g, j, none⟩ = some u := by
  have hc := fun g hg => h.cells (g := g) hg
  obtain ⟨h1, ⟨rfl, h0⟩ | ⟨g, cap, cur, rfl, hB, hg, r⟩⟩ := h
  · omega
  · refine ⟨g, cap, rfl, (Array.getElem?_eq_some_iff.1 hg).1, fun j u hu => ?_⟩
    have := hc g rfl j u hu
    rwa [addN, Nat.zero_add] at this
set_option maxHeartbeats 8000000 in
set_option maxRecDepth 100000 in
theorem live_is (w : World) : Calls Try.prog 8 #[] w fun e w' => e = .returned (.bool true) ∧ Below w.heap.size w w' := by
  have X0 := hideIt (Bx.first w [.cells #[.int .i64 1, .int .i64 1] 32, .cells #[.int .i64 1, .int .i64 5] 29, .cells #[.int .i64 2, .int .i64 5] 29])
  simp only [List.foldl_cons, List.foldl_nil] at X0
  have H0 := hideIt (fun W => ask_is zTab (.slice none 0 0) (.slice none 0 0) 1 1 2 5 W ⟨SGot.nil 4 32 holE W none 0 (Nat.zero_le _), SGot.nil 4 32 holE W none 0 (Nat.zero_le _)⟩)
  have H1 := hideIt (fun W h v hT => ask_is tab1 h v 1 1 1 5 W hT)
  have H2 := hideIt (fun W h v hT => wounds_is tab2 h v W hT)
  have H3 := hideIt (fun W h v hT => free_is tab2 h v 1 1 2 5 W hT)
  have H4 := hideIt (fun W => older_is 1 5 2 5 W)
  rw [ask0] at H0
  rw [ask1] at H1
  rw [wn2] at H2
  rw [free2] at H3
  rw [old2] at H4
  unfold AskBack at H0 H1
  unfold HolsBack at H2
  unfold FreeBack at H3
  dsimp only at H0 H1 H2 H3
  go_enter Try.func8, Try.ntmps8
  go_wp2_with fail
  refine (H0.out _).mono ?_
  rintro e w1 ⟨h1, v1, rfl, ho, hb⟩
  dsimp only
  obtain ⟨ha, hc, rfl⟩ := own_len ho.oh
  obtain ⟨va, vc, rfl⟩ := own_len ho.ov
  have X1 := hideIt ((X0.out.keep hb).keep (below1 w1 (.cells #[.slice ha tab1.held.length hc, .slice va tab1.wait.length vc] 25)))
  have N1 := hideIt (heap_alloc_new w1 (.cells #[.slice ha tab1.held.length hc, .slice va tab1.wait.length vc] 25))
  have O1 := hideIt (ho.keep (below1 w1 (.cells #[.slice ha tab1.held.length hc, .slice va tab1.wait.length vc] 25)))
  clear ho hb H0 X0
  go_upto_region 5 with fail
  generalize w1.alloc (.cells #[.slice ha tab1.held.length hc, .slice va tab1.wait.length vc] 25) = W1 at *
  generalize w1.heap.size = K1 at *
  obtain ⟨p0, p1, -, -, -⟩ := two_at N1.out
  have b0 : W1.cell? ⟨w.heap.size, 0, none⟩ = some (.int .i64 1) := X1.out.c 0 0 rfl rfl
  have b1 : W1.cell? ⟨w.heap.size, 1, none⟩ = some (.int .i64 1) := X1.out.c 0 1 rfl rfl
  have t0 : W1.cell? ⟨w.heap.size + 1, 0, none⟩ = some (.int .i64 1) := X1.out.c 1 0 rfl rfl
  have t1 : W1.cell? ⟨w.heap.size + 1, 1, none⟩ = some (.int .i64 5) := X1.out.c 1 1 rfl rfl
  go_wp2_with fail
  refine (H1.out _ _ _ (O1.out.tab (by decide) (by decide))).mono ?_
  rintro e w2 ⟨h2, v2, rfl, ho, hb⟩
  dsimp only
  obtain ⟨ha2, hc2, rfl⟩ := own_len ho.oh
  obtain ⟨va2, vc2, rfl⟩ := own_len ho.ov
  have X2 := hideIt ((X1.out.keep hb).keep (below1 w2 (.cells #[.slice ha2 tab2.held.length hc2, .slice va2 tab2.wait.length vc2] 25)))
  have N2 := hideIt (heap_alloc_new w2 (.cells #[.slice ha2 tab2.held.length hc2, .slice va2 tab2.wait.length vc2] 25))
  have O2 := hideIt (ho.keep (below1 w2 (.cells #[.slice ha2 tab2.held.length hc2, .slice va2 tab2.wait.length vc2] 25)))
  clear ho hb H1 X1 N1 O1 p0 p1 b0 b1 t0 t1
  go_upto_region 6 with fail
  generalize w2.alloc (.cells #[.slice ha2 tab2.held.length hc2, .slice va2 tab2.wait.length vc2] 25) = W2 at *
  generalize w2.heap.size = K2 at *
  obtain ⟨p0, p1, -, -, -⟩ := two_at N2.out
  go_wp2_with fail
  refine (H2.out _ _ _ (O2.out.tab (by decide) (by decide))).mono ?_
  rintro e w3 ⟨h3, rfl, ho3, hb⟩
  dsimp only
  have X3 := hideIt (X2.out.keep hb)
  have N3 := hideIt ((hb.block _ (Array.getElem?_eq_some_iff.1 N2.out).1).trans N2.out)
  have O3 := hideIt (O2.out.keep hb)
  have Q3 := hideIt ho3
  obtain ⟨qg, qc, rfl, -, -⟩ := own_some ho3 (by decide)
  clear ho3 hb H2 X2 N2 O2 p0 p1
  go_upto_region 7 with fail
  obtain ⟨p0, p1, -, -, -⟩ := two_at N3.out
  have b0 : w3.cell? ⟨w.heap.size, 0, none⟩ = some (.int .i64 1) := X3.out.c 0 0 rfl rfl
  have b1 : w3.cell? ⟨w.heap.size, 1, none⟩ = some (.int .i64 1) := X3.out.c 0 1 rfl rfl
  have t0 : w3.cell? ⟨w.heap.size + 1 + 1, 0, none⟩ = some (.int .i64 2) := X3.out.c 2 0 rfl rfl
  have t1 : w3.cell? ⟨w.heap.size + 1 + 1, 1, none⟩ = some (.int .i64 5) := X3.out.c 2 1 rfl rfl
  go_wp2_with fail
  refine (H3.out _ _ _ (O3.out.tab (by decide) (by decide))).mono ?_
  rintro e w4 ⟨h4, v4, rfl, ho, hb⟩
  dsimp only
  obtain ⟨ha4, hc4, rfl⟩ := own_len ho.oh
  obtain ⟨va4, vc4, rfl⟩ := own_len ho.ov
  have hb2 := below2 w4 (.cells #[.slice ha4 tab3.held.length hc4, .slice va4 tab3.wait.length vc4] 25) (.cells #[.int .i64 1, .int .i64 5] 29)
  have h2 := two_heap w4 (.cells #[.slice ha4 tab3.held.length hc4, .slice va4 tab3.wait.length vc4] 25) (.cells #[.int .i64 1, .int .i64 5] 29)
  have X4 := hideIt ((X3.out.keep hb).keep hb2)
  have Q4 := hideIt (own_keep (own_keep Q3.out hb) hb2)
  have N4 := hideIt h2.1
  have M4 := hideIt h2.2.1
  clear ho hb H3 X3 N3 O3 Q3 p0 p1 b0 b1 t0 t1 hb2 h2
  go_upto_region 8 with fail
  generalize (w4.alloc (.cells #[.slice ha4 tab3.held.length hc4, .slice va4 tab3.wait.length vc4] 25)).alloc (.cells #[.int .i64 1, .int .i64 5] 29) = W4 at *
  obtain ⟨K5, hK5⟩ : ∃ K5, w4.heap.size + 1 = K5 := ⟨_, rfl⟩
  rw [hK5] at M4 ⊢
  clear hK5
  generalize w4.heap.size = K4 at *
  obtain ⟨qg', qc', e, qlt, qcell⟩ := own_some Q4.out (by decide)
  simp only [Value.slice.injEq, Option.some.injEq, Addr.mk.injEq, and_true, true_and] at e
  obtain ⟨rfl, rfl⟩ := e
  have q2 := qcell 2 _ rfl
  have q3 := qcell 3 _ rfl
  obtain ⟨p0, p1, -, -, -⟩ := two_at N4.out
  obtain ⟨m0, m1, -, -, -⟩ := two_at M4.out
  have t0 : W4.cell? ⟨w.heap.size + 1, 0, none⟩ = some (.int .i64 1) := X4.out.c 1 0 rfl rfl
  have t1 : W4.cell? ⟨w.heap.size + 1, 1, none⟩ = some (.int .i64 5) := X4.out.c 1 1 rfl rfl
  have y0 : W4.cell? ⟨w.heap.size + 1 + 1, 0, none⟩ = some (.int .i64 2) := X4.out.c 2 0 rfl rfl
  have y1 : W4.cell? ⟨w.heap.size + 1 + 1, 1, none⟩ = some (.int .i64 5) := X4.out.c 2 1 rfl rfl
  have e1 : ∀ W, (binOp .eql 29 (.agg #[.int .i64 2, .int .i64 5]) (.agg #[.int .i64 2, .int .i64 5])).run Try.prog W = .ok (.bool true) W := fun W => by rw [eq28]; rfl
  have e2 : ∀ W, (binOp .eql 29 (.agg #[.int .i64 1, .int .i64 5]) (.agg #[.int .i64 1, .int .i64 5])).run Try.prog W = .ok (.bool true) W := fun W => by rw [eq28]; rfl
  clear qcell
  have HC4 := hideIt (fun W => (H4.out W).mono (R' := fun e w' => e = .returned (.bool true) ∧ Hid (Below W.heap.size W w')) (fun e w' hx => ⟨hx.1, hideIt hx.2⟩))
  clear H4
  have hs4 : w.heap.size + 1 + 1 < W4.heap.size := by have := X4.out.size; simp at this; omega
  have HS : Hid (∀ W, Below W4.heap.size W4.drew W → W.cell? ⟨qg, 2, none⟩ = some (.int .i64 2) ∧ W.cell? ⟨qg, 3, none⟩ = some (.int .i64 5) ∧ W.cell? ⟨w.heap.size + 1 + 1, 0, none⟩ = some (.int .i64 2) ∧ W.cell? ⟨w.heap.size + 1 + 1, 1, none⟩ = some (.int .i64 5) ∧ W.cell? ⟨K5, 0, none⟩ = some (.int .i64 1) ∧ W.cell? ⟨K5, 1, none⟩ = some (.int .i64 5) ∧ W.cell? ⟨w.heap.size + 1, 0, none⟩ = some (.int .i64 1) ∧ W.cell? ⟨w.heap.size + 1, 1, none⟩ = some (.int .i64 5) ∧ W.cell? ⟨K4, 0, none⟩ = some (.slice ha4 tab3.held.length hc4)) := by
    intro W hW
    have hk4 := (Array.getElem?_eq_some_iff.1 N4.out).1
    have hk5 := (Array.getElem?_eq_some_iff.1 M4.out).1
    exact ⟨(hW.cell (p := ⟨qg, 2, none⟩) qlt).trans q2, (hW.cell (p := ⟨qg, 3, none⟩) qlt).trans q3, (hW.cell (p := ⟨w.heap.size + 1 + 1, 0, none⟩) hs4).trans y0, (hW.cell (p := ⟨w.heap.size + 1 + 1, 1, none⟩) hs4).trans y1, (hW.cell (p := ⟨K5, 0, none⟩) hk5).trans m0, (hW.cell (p := ⟨K5, 1, none⟩) hk5).trans m1, (hW.cell (p := ⟨w.heap.size + 1, 0, none⟩) (by show w.heap.size + 1 < _; omega)).trans t0, (hW.cell (p := ⟨w.heap.size + 1, 1, none⟩) (by show w.heap.size + 1 < _; omega)).trans t1, (hW.cell (p := ⟨K4, 0, none⟩) hk4).trans p0⟩
  have HB4 := hideIt X4.out.bel
  simp only [tab3, List.length_cons, List.length_nil, Nat.zero_add] at p0 HS ⊢
  clear X4 N4 M4 Q4
  go_region_held3 (fun W => W.cell? ⟨qg, 2, none⟩ = some (.int .i64 2) ∧ W.cell? ⟨qg, 3, none⟩ = some (.int .i64 5) ∧ W.cell? ⟨w.heap.size + 1 + 1, 0, none⟩ = some (.int .i64 2) ∧ W.cell? ⟨w.heap.size + 1 + 1, 1, none⟩ = some (.int .i64 5) ∧ W.cell? ⟨K5, 0, none⟩ = some (.int .i64 1) ∧ W.cell? ⟨K5, 1, none⟩ = some (.int .i64 5) ∧ W.cell? ⟨w.heap.size + 1, 0, none⟩ = some (.int .i64 1) ∧ W.cell? ⟨w.heap.size + 1, 1, none⟩ = some (.int .i64 5) ∧ W.cell? ⟨K4, 0, none⟩ = some (.slice ha4 1 hc4)) (go_keep) (first | (go_at_call 14; refine (HC4.out _).mono ?_; clear HC4; rintro e w5 ⟨rfl, hb5⟩; obtain ⟨j0, j1, j2, j3, j4, j5, j6, j7, j8⟩ := HS.out w5 hb5.out))
  all_goals go_wp2
  all_goals go_ret
  all_goals exact ⟨rfl, below_via HB4.out (below_via (Below.refl _ W4).drew hb5.out)⟩
end Go.Proofs.Ytgfpeknhabbkbab
