/- End, walked. -/
import Derived.Test.YtgdgpcheammbpaaDoorBegW
namespace Go.Proofs.YtgdgpcheammbpaaDoor
open Go.RowKit
set_option linter.all false
set_option maxHeartbeats 8000000 in
set_option maxRecDepth 100000 in
theorem end_is (v : Value) (l : List SesX) (c q : Int) (x : AnsX) (w : World) (h : Sess w v l) (hx : AnsAt w x) : Calls Tryd.prog 15 #[v, .agg #[.int .i64 c, .int .i64 q], .agg x.cs] w (EndBack (endV (l.map SesX.v) (c, q) x.v) w) := by
  have H1 := hideIt (fun W (hW : Below w.heap.size w W) => refusedS_is v l c q W (h.keep hW))
  have H2 := hideIt (fun W (hW : Below w.heap.size w W) => last_is v l c W (h.keep hW))
  obtain ⟨va, vc, rfl⟩ := h.row.slice
  obtain ⟨N, hN⟩ : ∃ N, N = (withV (l.map SesX.v) ⟨c, q, true, x.v⟩).length := ⟨_, rfl⟩
  have H3 := hideIt (fun W (hW : Below w.heap.size w W) hl => with3 l ⟨c, q, true, x⟩ w _ N (with_v l ⟨c, q, true, x⟩) hN va vc W (h.keep hW) hW (hx.keep hW) hl)
  have HN := hideIt hN
  clear hN h hx
  obtain ⟨⟨xc, xn, xa, xf⟩, xaa, xac, xfa, xfc⟩ := x
  simp only [AnsX.cs, AnsX.am, AnsX.fl, sesE] at *
  have X0 := hideIt (two_heap w (.cells #[.int .i64 c, .int .i64 q] 35) (.cells #[.int .i64 xc, .int .i64 xn, .slice xaa xa.length xac, .slice xfa xf.length xfc] 44))
  have XB := hideIt (below2 w (.cells #[.int .i64 c, .int .i64 q] 35) (.cells #[.int .i64 xc, .int .i64 xn, .slice xaa xa.length xac, .slice xfa xf.length xfc] 44))
  by_cases hR : rfsE (l.map SesX.v) (c, q) = 0
  · have hc := (rfs_ok hR).1
    have hlen := chk_six hc
    rw [List.length_map] at hlen
    have HX : Hid (endV (l.map SesX.v) (c, q) ⟨xc, xn, xa, xf⟩ = if (lastX l c).d = true ∨ ¬ (lastX l c).q = q then ([], 172) else (withV (l.map SesX.v) ⟨c, q, true, ⟨xc, xn, xa, xf⟩⟩, 0)) := by
      show endV _ _ _ = _
      unfold endV
      rw [if_pos hR, ← last_v]
      rfl
    rw [hR] at H1
    clear hR hc
    generalize endV (l.map SesX.v) (c, q) ⟨xc, xn, xa, xf⟩ = RES at *
    generalize lastX l c = own at *
    obtain ⟨oc, oq, od, ⟨⟨code, num, am, fl⟩, aa, ac, fa, fc⟩⟩ := own
    simp only at H2 HX
    go_enter Tryd.func15, Tryd.ntmps15
    go_wp2_with fail
    refine (H1.out _ XB.out).mono ?_
    rintro e w1 ⟨rfl, hb⟩
    dsimp only
    have HG := hideIt (And.intro ((hb.block _ (by rw [X0.out.2.2]; omega)).trans X0.out.1) (And.intro ((hb.block _ (by rw [X0.out.2.2]; omega)).trans X0.out.2.1) (below_via XB.out hb)))
    clear hb H1 X0 XB
    obtain ⟨t0, t1, -, -, tz⟩ := two_at HG.out.1
    obtain ⟨z0, z1, z2, z3, -, -, -, -, yz⟩ := four_at HG.out.2.1
    go_upto_region 4 with fail
    go_wp2_with fail
    refine (H2.out _ HG.out.2.2).mono ?_
    rintro e w2 ⟨rfl, hb⟩
    dsimp only
    have hb2 := hb.trans (B := w1.heap.size) ((below1 w2 (.cells #[.int .i64 oc, .int .i64 oq, .bool od, .int .i64 code, .int .i64 num, .slice aa am.length ac, .slice fa fl.length fc] 69)).mono hb.size)
    have HG2 := hideIt (And.intro ((hb2.block _ tz).trans HG.out.1) (And.intro ((hb2.block _ yz).trans HG.out.2.1) (below_via HG.out.2.2 hb2)))
    have HK := hideIt (heap_alloc_new w2 (.cells #[.int .i64 oc, .int .i64 oq, .bool od, .int .i64 code, .int .i64 num, .slice aa am.length ac, .slice fa fl.length fc] 69))
    clear hb hb2 H2 HG t0 t1 tz z0 z1 z2 z3 yz
    go_upto_region 5 with fail
    generalize w2.alloc (.cells #[.int .i64 oc, .int .i64 oq, .bool od, .int .i64 code, .int .i64 num, .slice aa am.length ac, .slice fa fl.length fc] 69) = W at *
    generalize w2.heap.size = K at *
    have HG := hideIt HG2.out
    clear HG2
    obtain ⟨t0, t1, -, -, tz⟩ := two_at HG.out.1
    obtain ⟨z0, z1, z2, z3, -, -, -, -, yz⟩ := four_at HG.out.2.1
    obtain ⟨⟨g0, g1, g2, g3, g4, g5, g6⟩, -, gz⟩ := seven_at HK.out
    cases od
    · by_cases h1 : oq = q
      · have HE : Hid (RES = (withV (l.map SesX.v) ⟨c, q, true, ⟨xc, xn, xa, xf⟩⟩, 0)) := by
          show _ = _
          rw [HX.out, if_neg (by simp [h1])]
        have HL := hideIt hlen
        clear HX
        subst h1
        go_wp2_with fail
        refine (H3.out _ HG.out.2.2 HL.out).mono ?_
        rintro e w4 ⟨a4, c4, rfl, HO⟩
        dsimp only
        go_wp2
        go_ret2
        rw [HE.out]
        obtain ⟨a', c', ys, e, hy, hw, hb⟩ := HO.out.1
        simp only [Ending.returned.injEq, Value.slice.injEq] at e
        obtain ⟨rfl, hN, rfl⟩ := e
        subst hN
        exact ⟨a4, c4, ys, rfl, hy, hw, hb⟩
      · have HE : Hid (RES = ([], 172)) := by
          show _ = _
          rw [HX.out, if_pos (.inr h1)]
        clear HX H3
        go_wp2
        go_ret2
        rw [HE.out]
        exact ⟨none, 0, [], rfl, rfl, SesOwn.nil _ _, HG.out.2.2⟩
    · have HE : Hid (RES = ([], 172)) := by
        show _ = _
        rw [HX.out, if_pos (.inl rfl)]
      clear HX H3
      go_wp2
      go_ret2
      rw [HE.out]
      exact ⟨none, 0, [], rfl, rfl, SesOwn.nil _ _, HG.out.2.2⟩
  · have HE : Hid (endV (l.map SesX.v) (c, q) ⟨xc, xn, xa, xf⟩ = ([], rfsE (l.map SesX.v) (c, q))) := by
      show endV _ _ _ = _
      unfold endV
      rw [if_neg hR]
    generalize endV (l.map SesX.v) (c, q) ⟨xc, xn, xa, xf⟩ = RES at *
    generalize rfsE (l.map SesX.v) (c, q) = E at *
    clear H2 H3
    go_enter Tryd.func15, Tryd.ntmps15
    go_wp2_with fail
    refine (H1.out _ XB.out).mono ?_
    rintro e w1 ⟨rfl, hb⟩
    dsimp only
    have HB := hideIt (below_via XB.out hb)
    clear hb H1 X0 XB
    go_wp2
    go_ret2
    rw [HE.out]
    exact ⟨none, 0, [], rfl, rfl, SesOwn.nil _ _, HB.out⟩
end Go.Proofs.YtgdgpcheammbpaaDoor
