/- The statement on letting go, walked. -/
import Derived.Test.YtgfpeknhabbkbaaSpoil
import Derived.Test.YtgfpeknhabbkbaaRefG
import Derived.Test.YtgfpeknhabbkbaaAgW
namespace Go.Proofs.Ytgfpeknhabbkbaa
open Go.RowKit
set_option linter.all false
theorem free_small (T : TabV) (k : KeyV) (t : TxnV) : (freeL T k t).1.held.length ≤ 1000000 ∧ (freeL T k t).1.wait.length ≤ 1000000 := by
  by_cases h : (freeL T k t).2.2 = 0
  · exact (free_may h).small
  · have : (freeL T k t).1 = zTab := by
      unfold freeL at h ⊢
      repeat' split
      all_goals first | rfl | (simp_all; done)
    rw [this]
    exact ⟨by decide, by decide⟩
set_option maxHeartbeats 8000000 in
set_option maxRecDepth 100000 in
theorem free_walk (T : TabV) (h v : Value) (k n c q : Int) (w : World) (hT : Tab w T h v) : Calls Try.prog 5 #[.agg #[h, v], .agg #[.int .i64 k, .int .i64 n], .agg #[.int .i64 c, .int .i64 q]] w fun e w' => e = .returned (.bool true) ∧ Below w.heap.size w w' := by
  have X0 := hideIt (Bx.first w [.cells #[h, v] 24, .cells #[.int .i64 k, .int .i64 n] 26, .cells #[.int .i64 c, .int .i64 q] 28])
  simp only [List.foldl_cons, List.foldl_nil] at X0
  have H1 := hideIt (fun W (hW : Below w.heap.size w W) => rCopy_is T h v W (hT.keep hW))
  have H2 := hideIt (fun h' v' W (hT' : Tab W T h' v') => free_is T h' v' k n c q W hT')
  have H3 := hideIt (fun W (hW : Below w.heap.size w W) => rFree_is T h v k n c q W (hT.keep hW))
  have H4 := hideIt (fun T' h' v' h2 v2 W (hT' : Tab W T' h' v') hT2 => same_is T' h' v' h2 v2 W hT' hT2)
  have H5 := hideIt (fun W => live_is W)
  have HT := hideIt (fun W (hW : Below w.heap.size w W) => hT.keep hW)
  have HM := hideIt (free_small T (k, n) (c, q))
  have HL := hideIt (And.intro hT.held.1 hT.wait.1)
  obtain ⟨ha, hc, rfl⟩ := hT.held.slice
  obtain ⟨va, vc, rfl⟩ := hT.wait.slice
  clear hT
  unfold FreeBack at H2 H3
  unfold CopyBack at H1
  generalize hA : freeL T (k, n) (c, q) = A at *
  clear hA
  obtain ⟨T1, ⟨gc, gq⟩, er⟩ := A
  dsimp only at H2 H3 HM
  have e28 : ∀ W, (binOp .neq 28 (.agg #[.int .i64 gc, .int .i64 gq]) (.agg #[.int .i64 gc, .int .i64 gq])).run Try.prog W = .ok (.bool false) W := fun W => by rw [neq28]; simp
  go_enter Try.func5, Try.ntmps5
  go_wp2_with fail
  refine (H1.out _ X0.out.bel).mono ?_
  rintro e w1 ⟨h1, v1, rfl, ho, -, hb⟩
  dsimp only
  obtain ⟨ha1, hc1, rfl⟩ := own_len ho.oh
  obtain ⟨va1, vc1, rfl⟩ := own_len ho.ov
  have X1 := hideIt ((X0.out.keep hb).keep (below1 w1 (.cells #[.slice ha1 T.held.length hc1, .slice va1 T.wait.length vc1] 24)))
  have N1 := hideIt (heap_alloc_new w1 (.cells #[.slice ha1 T.held.length hc1, .slice va1 T.wait.length vc1] 24))
  have O1' := ho.keep (below1 w1 (.cells #[.slice ha1 T.held.length hc1, .slice va1 T.wait.length vc1] 24))
  have O1 : Hid (Tab (w1.alloc (.cells #[.slice ha1 T.held.length hc1, .slice va1 T.wait.length vc1] 24)) T (.slice ha1 T.held.length hc1) (.slice va1 T.wait.length vc1)) := ⟨own_sgot O1'.oh HL.out.1, own_sgot O1'.ov HL.out.2⟩
  clear ho hb H1 X0 O1' HL
  go_upto_region 2 with fail
  generalize w1.alloc (.cells #[.slice ha1 T.held.length hc1, .slice va1 T.wait.length vc1] 24) = W1 at *
  generalize w1.heap.size = K1 at *
  have HQ := hideIt (H2.out _ _ W1 O1.out)
  obtain ⟨p0, p1, -, -, -⟩ := two_at N1.out
  have b0 : W1.cell? ⟨w.heap.size + 1, 0, none⟩ = some (.int .i64 k) := X1.out.c 1 0 rfl rfl
  have b1 : W1.cell? ⟨w.heap.size + 1, 1, none⟩ = some (.int .i64 n) := X1.out.c 1 1 rfl rfl
  have t0 : W1.cell? ⟨w.heap.size + 1 + 1, 0, none⟩ = some (.int .i64 c) := X1.out.c 2 0 rfl rfl
  have t1 : W1.cell? ⟨w.heap.size + 1 + 1, 1, none⟩ = some (.int .i64 q) := X1.out.c 2 1 rfl rfl
  clear H2
  go_wp2_with fail
  refine HQ.out.mono ?_
  rintro e w2 ⟨h2, v2, rfl, ho, hb⟩
  dsimp only
  obtain ⟨ha2, hc2, rfl⟩ := own_len ho.oh
  obtain ⟨va2, vc2, rfl⟩ := own_len ho.ov
  have hb2 := below2 w2 (.cells #[.slice ha2 T1.held.length hc2, .slice va2 T1.wait.length vc2] 24) (.cells #[.int .i64 gc, .int .i64 gq] 28)
  have h2 := two_heap w2 (.cells #[.slice ha2 T1.held.length hc2, .slice va2 T1.wait.length vc2] 24) (.cells #[.int .i64 gc, .int .i64 gq] 28)
  have hb12 := below_via hb hb2
  have BB2 := hideIt hb12
  have X2 := hideIt (X1.out.keep hb12)
  have N2 := hideIt h2.1
  have M2 := hideIt h2.2.1
  have O2 := hideIt (ho.keep hb2)
  clear ho hb hb2 hb12 h2 HQ p0 p1 b0 b1 t0 t1
  go_upto_region 3 with fail
  generalize (w2.alloc (.cells #[.slice ha2 T1.held.length hc2, .slice va2 T1.wait.length vc2] 24)).alloc (.cells #[.int .i64 gc, .int .i64 gq] 28) = W2 at *
  obtain ⟨J2, hJ2⟩ : ∃ J2, w2.heap.size + 1 = J2 := ⟨_, rfl⟩
  (try rw [hJ2])
  rw [hJ2] at M2
  clear hJ2
  generalize w2.heap.size = K2 at *
  have HQ := hideIt (H3.out W2 X2.out.bel)
  have a0 : W2.cell? ⟨w.heap.size, 0, none⟩ = some (.slice ha T.held.length hc) := X2.out.c 0 0 rfl rfl
  have a1 : W2.cell? ⟨w.heap.size, 1, none⟩ = some (.slice va T.wait.length vc) := X2.out.c 0 1 rfl rfl
  have b0 : W2.cell? ⟨w.heap.size + 1, 0, none⟩ = some (.int .i64 k) := X2.out.c 1 0 rfl rfl
  have b1 : W2.cell? ⟨w.heap.size + 1, 1, none⟩ = some (.int .i64 n) := X2.out.c 1 1 rfl rfl
  have t0 : W2.cell? ⟨w.heap.size + 1 + 1, 0, none⟩ = some (.int .i64 c) := X2.out.c 2 0 rfl rfl
  have t1 : W2.cell? ⟨w.heap.size + 1 + 1, 1, none⟩ = some (.int .i64 q) := X2.out.c 2 1 rfl rfl
  clear H3
  go_wp2_with fail
  refine HQ.out.mono ?_
  rintro e w3 ⟨h3, v3, rfl, ho, hb⟩
  dsimp only
  obtain ⟨ha3, hc3, rfl⟩ := own_len ho.oh
  obtain ⟨va3, vc3, rfl⟩ := own_len ho.ov
  have hb2 := below2 w3 (.cells #[.slice ha3 T1.held.length hc3, .slice va3 T1.wait.length vc3] 24) (.cells #[.int .i64 gc, .int .i64 gq] 28)
  have h2 := two_heap w3 (.cells #[.slice ha3 T1.held.length hc3, .slice va3 T1.wait.length vc3] 24) (.cells #[.int .i64 gc, .int .i64 gq] 28)
  have hb12 := below_via hb hb2
  have BB3 := hideIt (below_via BB2.out hb12)
  have X3 := hideIt (X2.out.keep hb12)
  have N3 := hideIt h2.1
  have M3 := hideIt h2.2.1
  have N23 := hideIt ((hb12.block _ (Array.getElem?_eq_some_iff.1 N2.out).1).trans N2.out)
  have M23 := hideIt ((hb12.block _ (Array.getElem?_eq_some_iff.1 M2.out).1).trans M2.out)
  have O3 := hideIt ((ho.keep hb2).tab HM.out.1 HM.out.2)
  have O23 := hideIt (O2.out.keep hb12)
  clear ho hb hb2 hb12 h2 HQ b0 b1 t0 t1 a0 a1 X2 N2 M2 O2 BB2
  go_upto_region 4 with fail
  generalize (w3.alloc (.cells #[.slice ha3 T1.held.length hc3, .slice va3 T1.wait.length vc3] 24)).alloc (.cells #[.int .i64 gc, .int .i64 gq] 28) = W3 at *
  obtain ⟨J3, hJ3⟩ : ∃ J3, w3.heap.size + 1 = J3 := ⟨_, rfl⟩
  (try rw [hJ3])
  rw [hJ3] at M3
  clear hJ3
  generalize w3.heap.size = K3 at *
  have HQ := hideIt (H4.out T1 _ _ _ _ W3 (O23.out.tab HM.out.1 HM.out.2) O3.out)
  obtain ⟨p0, p1, -, -, -⟩ := two_at N23.out
  obtain ⟨r0, r1, -, -, -⟩ := two_at N3.out
  go_wp2_with fail
  refine HQ.out.mono ?_
  rintro e w4 ⟨rfl, hb⟩
  dsimp only
  have BB4 := hideIt (below_via BB3.out hb)
  have X4 := hideIt (X3.out.keep hb)
  have N24 := hideIt ((hb.block _ (Array.getElem?_eq_some_iff.1 N23.out).1).trans N23.out)
  have M24 := hideIt ((hb.block _ (Array.getElem?_eq_some_iff.1 M23.out).1).trans M23.out)
  have M34 := hideIt ((hb.block _ (Array.getElem?_eq_some_iff.1 M3.out).1).trans M3.out)
  have N14 := hideIt ((BB4.out.block _ (Array.getElem?_eq_some_iff.1 N1.out).1).trans N1.out)
  have O24 := hideIt (O23.out.keep hb)
  have HQ2 := hideIt (H4.out T _ _ _ _ w4 (O1.out.keep BB4.out) (HT.out w4 X4.out.bel))
  clear hb HQ p0 p1 r0 r1 BB3 X3 N23 N3 O3 O23 M3 M23
  obtain ⟨p0, p1, -, -, -⟩ := two_at N14.out
  obtain ⟨m0, m1, -, -, -⟩ := two_at M24.out
  obtain ⟨i0, i1, -, -, -⟩ := two_at M34.out
  have a0 : w4.cell? ⟨w.heap.size, 0, none⟩ = some (.slice ha T.held.length hc) := X4.out.c 0 0 rfl rfl
  have a1 : w4.cell? ⟨w.heap.size, 1, none⟩ = some (.slice va T.wait.length vc) := X4.out.c 0 1 rfl rfl
  go_wp2_with fail
  refine HQ2.out.mono ?_
  rintro e w5 ⟨rfl, hb⟩
  dsimp only
  have BB5 := hideIt (below_via BB4.out hb)
  have N25 := hideIt ((hb.block _ (Array.getElem?_eq_some_iff.1 N24.out).1).trans N24.out)
  have O25 := hideIt (O24.out.keep hb)
  clear hb HQ2 p0 p1 a0 a1 m0 m1 i0 i1 N14 N24 O24 BB4 X4 M24 M34
  go_upto_region 6 with fail
  have HQ := hideIt (spoil_is T1 _ _ w5 W1.heap.size BB5.out.size O25.out HM.out.1 HM.out.2)
  obtain ⟨p0, p1, -, -, -⟩ := two_at N25.out
  go_wp2_with fail
  refine HQ.out.mono ?_
  rintro e w6 ⟨rfl, hb⟩
  dsimp only
  have BB6 := hideIt (BB5.out.trans hb)
  have X6 := hideIt (X1.out.keep BB6.out)
  have N16 := hideIt ((BB6.out.block _ (Array.getElem?_eq_some_iff.1 N1.out).1).trans N1.out)
  have HQ2 := hideIt (H4.out T _ _ _ _ w6 (O1.out.keep BB6.out) (HT.out w6 X6.out.bel))
  clear hb HQ p0 p1 N25 O25 BB5
  obtain ⟨p0, p1, -, -, -⟩ := two_at N16.out
  have a0 : w6.cell? ⟨w.heap.size, 0, none⟩ = some (.slice ha T.held.length hc) := X6.out.c 0 0 rfl rfl
  have a1 : w6.cell? ⟨w.heap.size, 1, none⟩ = some (.slice va T.wait.length vc) := X6.out.c 0 1 rfl rfl
  go_upto_region 7 with fail
  go_wp2_with fail
  refine HQ2.out.mono ?_
  rintro e w7 ⟨rfl, hb⟩
  dsimp only
  have B7 := hideIt (below_via X6.out.bel hb)
  clear hb HQ2 p0 p1 a0 a1
  go_wp2_with fail
  refine (H5.out _).mono ?_
  rintro e w8 ⟨rfl, hb⟩
  dsimp only
  have B8 := hideIt (below_via B7.out hb)
  clear hb
  go_wp2
  go_ret
  exact ⟨rfl, B8.out⟩
end Go.Proofs.Ytgfpeknhabbkbaa
