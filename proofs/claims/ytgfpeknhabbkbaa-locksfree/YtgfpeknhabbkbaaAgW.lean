/- The statement on asking again, walked. -/
import Derived.Test.YtgfpeknhabbkbaaMayP
import Derived.Test.YtgfpeknhabbkbaaLiveX
namespace Go.Proofs.Ytgfpeknhabbkbaa
open Go.RowKit
set_option linter.all false
theorem MayT.small {T : TabV} (h : MayT T) : T.held.length ≤ 1000000 ∧ T.wait.length ≤ 1000000 := by
  have := h.len
  omega
set_option maxHeartbeats 8000000 in
set_option maxRecDepth 100000 in
theorem again_walk (T : TabV) (h v : Value) (k n c q : Int) (w : World) (hT : Tab w T h v) : Calls Try.prog 3 #[.agg #[h, v], .agg #[.int .i64 k, .int .i64 n], .agg #[.int .i64 c, .int .i64 q]] w fun e w' => e = .returned (.bool true) ∧ Below w.heap.size w w' := by
  have X0 := hideIt (Bx.first w [.cells #[h, v] 24, .cells #[.int .i64 k, .int .i64 n] 26, .cells #[.int .i64 c, .int .i64 q] 28])
  simp only [List.foldl_cons, List.foldl_nil] at X0
  have H1 := hideIt (fun W (hW : Below w.heap.size w W) => ask_is T h v k n c q W (hT.keep hW))
  have H2 := hideIt (fun T' h' v' W (hT' : Tab W T' h' v') => ask_is T' h' v' k n c q W hT')
  have H3 := hideIt (fun T' h' v' h2 v2 W (hT' : Tab W T' h' v') hT2 => same_is T' h' v' h2 v2 W hT' hT2)
  have H4 := hideIt (fun W => live_is W)
  have HP := hideIt (fun h0 => ask_again (T := T) (k := (k, n)) (t := (c, q)) h0)
  have HM := hideIt (fun h0 => (ask_may (T := T) (k := (k, n)) (t := (c, q)) h0).small)
  obtain ⟨ha, hc, rfl⟩ := hT.held.slice
  obtain ⟨va, vc, rfl⟩ := hT.wait.slice
  clear hT
  unfold AskBack at H1 H2
  generalize hA : askL T (k, n) (c, q) = A at *
  clear hA
  obtain ⟨T1, b, er⟩ := A
  dsimp only at H1 HP HM
  go_enter Try.func3, Try.ntmps3
  go_wp2_with fail
  refine (H1.out _ X0.out.bel).mono ?_
  rintro e w1 ⟨h1, v1, rfl, ho, hb⟩
  dsimp only
  obtain ⟨ha1, hc1, rfl⟩ := own_len ho.oh
  obtain ⟨va1, vc1, rfl⟩ := own_len ho.ov
  have X1 := hideIt ((X0.out.keep hb).keep (below1 w1 (.cells #[.slice ha1 T1.held.length hc1, .slice va1 T1.wait.length vc1] 24)))
  have N1 := hideIt (heap_alloc_new w1 (.cells #[.slice ha1 T1.held.length hc1, .slice va1 T1.wait.length vc1] 24))
  have O1 := hideIt (ho.keep (below1 w1 (.cells #[.slice ha1 T1.held.length hc1, .slice va1 T1.wait.length vc1] 24)))
  clear ho hb H1 X0
  go_upto_region 2 with fail
  generalize w1.alloc (.cells #[.slice ha1 T1.held.length hc1, .slice va1 T1.wait.length vc1] 24) = W1 at *
  generalize w1.heap.size = K1 at *
  by_cases he : er = 0
  · subst he
    have hA := HP.out rfl
    have hM := HM.out rfl
    have H2' := hideIt (H2.out T1 _ _ W1 (O1.out.tab hM.1 hM.2))
    rw [hA] at H2'
    dsimp only at H2'
    clear hA HP HM H2
    go_upto_region 4 with fail
    obtain ⟨p0, p1, -, -, -⟩ := two_at N1.out
    have b0 : W1.cell? ⟨w.heap.size + 1, 0, none⟩ = some (.int .i64 k) := X1.out.c 1 0 rfl rfl
    have b1 : W1.cell? ⟨w.heap.size + 1, 1, none⟩ = some (.int .i64 n) := X1.out.c 1 1 rfl rfl
    have t0 : W1.cell? ⟨w.heap.size + 1 + 1, 0, none⟩ = some (.int .i64 c) := X1.out.c 2 0 rfl rfl
    have t1 : W1.cell? ⟨w.heap.size + 1 + 1, 1, none⟩ = some (.int .i64 q) := X1.out.c 2 1 rfl rfl
    go_wp2_with fail
    refine H2'.out.mono ?_
    rintro e w2 ⟨h2, v2, rfl, ho, hb⟩
    dsimp only
    obtain ⟨ha2, hc2, rfl⟩ := own_len ho.oh
    obtain ⟨va2, vc2, rfl⟩ := own_len ho.ov
    have hb2 := below1 w2 (.cells #[.slice ha2 T1.held.length hc2, .slice va2 T1.wait.length vc2] 24)
    have X2 := hideIt ((X1.out.keep hb).keep hb2)
    have N2 := hideIt (heap_alloc_new w2 (.cells #[.slice ha2 T1.held.length hc2, .slice va2 T1.wait.length vc2] 24))
    have O2 := hideIt (ho.keep hb2)
    have N3 := hideIt ((hb2.block _ (Nat.lt_of_lt_of_le (Array.getElem?_eq_some_iff.1 N1.out).1 hb.size)).trans ((hb.block _ (Array.getElem?_eq_some_iff.1 N1.out).1).trans N1.out))
    have O3 := hideIt ((O1.out.keep hb).keep hb2)
    clear ho hb hb2 H2' X1 N1 O1 p0 p1 b0 b1 t0 t1
    go_upto_region 5 with fail
    generalize w2.alloc (.cells #[.slice ha2 T1.held.length hc2, .slice va2 T1.wait.length vc2] 24) = W2 at *
    generalize w2.heap.size = K2 at *
    have HS := hideIt (H3.out T1 _ _ _ _ W2 (O3.out.tab hM.1 hM.2) (O2.out.tab hM.1 hM.2))
    obtain ⟨p0, p1, -, -, -⟩ := two_at N2.out
    obtain ⟨r0, r1, -, -, -⟩ := two_at N3.out
    have hbb : (b == b) = true := by simp
    clear H3
    go_wp2_with fail
    refine HS.out.mono ?_
    rintro e w3 ⟨rfl, hb⟩
    dsimp only
    have B3' := hideIt (below_via X2.out.bel hb)
    clear hb
    go_wp2_with fail
    refine (H4.out _).mono ?_
    rintro e w4 ⟨rfl, hb⟩
    dsimp only
    have B4' := hideIt (below_via B3'.out hb)
    clear hb
    go_wp2
    go_ret
    exact ⟨rfl, B4'.out⟩
  · clear HP HM H2 H3
    go_wp2_with fail
    refine (H4.out _).mono ?_
    rintro e w4 ⟨rfl, hb⟩
    dsimp only
    have B4' := hideIt (below_via X1.out.bel hb)
    clear hb
    go_wp2
    go_ret
    exact ⟨rfl, B4'.out⟩
end Go.Proofs.Ytgfpeknhabbkbaa
