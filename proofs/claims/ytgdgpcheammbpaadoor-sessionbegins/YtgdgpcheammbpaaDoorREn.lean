/- The document's End. -/
import Derived.Test.YtgdgpcheammbpaaDoorRBg
import Derived.Test.YtgdgpcheammbpaaDoorEndW
namespace Go.Proofs.YtgdgpcheammbpaaDoor
open Go.RowKit
set_option linter.all false
/-- A name's box and an answer's. -/
structure EB (w : World) (c q : Int) (x : AnsX) (W : World) : Prop where
  b0 : W.heap[w.heap.size]? = some (.cells #[.int .i64 c, .int .i64 q] 35 (0, 0))
  b1 : W.heap[w.heap.size + 1]? = some (.cells #[.int .i64 x.v.code, .int .i64 x.v.num, .slice x.aa x.v.am.length x.ac, .slice x.fa x.v.fl.length x.fc] 44 (0, 0))
  bel : Below w.heap.size w W
theorem EB.first (w : World) (c q : Int) (x : AnsX) : EB w c q x ((w.alloc (.cells #[.int .i64 c, .int .i64 q] 35)).alloc (.cells #[.int .i64 x.v.code, .int .i64 x.v.num, .slice x.aa x.v.am.length x.ac, .slice x.fa x.v.fl.length x.fc] 44)) :=
  ⟨(two_heap w _ _).1, (two_heap w _ _).2.1, below2 w _ _⟩
theorem EB.keep {w W W' : World} {c q : Int} {x : AnsX} (h : EB w c q x W) (hb : Below W.heap.size W W') : EB w c q x W' :=
  ⟨(hb.block _ (Array.getElem?_eq_some_iff.1 h.b0).1).trans h.b0, (hb.block _ (Array.getElem?_eq_some_iff.1 h.b1).1).trans h.b1, below_via h.bel hb⟩
set_option maxHeartbeats 8000000 in
set_option maxRecDepth 100000 in
theorem rEnd_is (v : Value) (l : List SesX) (c q : Int) (x : AnsX) (w : World) (h : Sess w v l) (hx : AnsAt w x) : Calls Tryd.prog 25 #[v, .agg #[.int .i64 c, .int .i64 q], .agg x.cs] w (EndBack (endV (l.map SesX.v) (c, q) x.v) w) := by
  have H1 := hideIt (fun W (hW : Below w.heap.size w W) => rCheck_is v l W (h.keep hW))
  have H1b := hideIt (fun W => rName_is c q W)
  have H2 := hideIt (fun W (hW : Below w.heap.size w W) => of_is v l c W (h.keep hW))
  have H5 := hideIt (fun W (hW : Below w.heap.size w W) => copA3 x W (hx.keep hW))
  have X0 := hideIt (EB.first w c q x)
  obtain ⟨va, vc, rfl⟩ := h.row.slice
  obtain ⟨N, hN⟩ : ∃ N, N = (withV (l.map SesX.v) ⟨c, q, true, x.v⟩).length := ⟨_, rfl⟩
  have H3 := hideIt (fun hc a1 c1 a2 c2 a cc n W (h3 : SesLBack (l.map SesX.v) w (.returned (.slice a n cc)) W) ho => put3 (l.map SesX.v) ⟨c, q, true, ⟨x.v, a1, c1, a2, c2⟩⟩ w N hN hc a cc n W h3 ho)
  have H4 := hideIt (fun W (hW : Below w.heap.size w W) => cop3 l w va vc W (h.keep hW) hW)
  have HN := hideIt hN
  clear hN
  clear h hx
  obtain ⟨⟨xc, xn, xa, xf⟩, xaa, xac, xfa, xfc⟩ := x
  simp only [AnsX.cs, AnsX.am, AnsX.fl, sesE] at *
  by_cases hR : rfsE (l.map SesX.v) (c, q) = 0
  · have hc := (rfs_ok hR).1
    have HX : Hid (endV (l.map SesX.v) (c, q) ⟨xc, xn, xa, xf⟩ = if (lastX l c).d = true ∨ ¬ (lastX l c).q = q then ([], 172) else (withV (l.map SesX.v) ⟨c, q, true, ⟨xc, xn, xa, xf⟩⟩, 0)) := by
      show endV _ _ _ = _
      unfold endV
      rw [if_pos hR, ← last_v]
      rfl
    have hE0 : chkE (l.map SesX.v) = 0 := by
      unfold chkE bE
      rw [if_pos hc]
    rw [hE0] at H1
    rw [(rfs_ok hR).2] at H1b
    replace H3 := hideIt (H3.out hc)
    obtain ⟨hoq, hod, hox, hof⟩ := of_last l c
    clear hR hc hE0
    generalize endV (l.map SesX.v) (c, q) ⟨xc, xn, xa, xf⟩ = RES at *
    rw [← hod] at hof
    rw [← hoq, ← hod] at HX
    have HOF := hideIt hof
    clear hoq hod hox hof
    generalize ofX l c = own at *
    obtain ⟨⟨oc, oq, od, ⟨⟨code, num, am, fl⟩, aa, ac, fa, fc⟩⟩, ofound⟩ := own
    simp only at H2 HX HOF
    go_enter Tryd.func25, Tryd.ntmps25
    go_wp2_with fail
    refine (H1.out _ X0.out.bel).mono ?_
    rintro e w0 ⟨rfl, hb⟩
    dsimp only
    have HG0 := hideIt (X0.out.keep hb)
    clear hb H1 X0
    obtain ⟨t0, t1, -, -, tz⟩ := two_at HG0.out.b0
    go_upto_region 3 with fail
    go_wp2_with fail
    refine (H1b.out _).mono ?_
    rintro e w1 ⟨rfl, hb⟩
    dsimp only
    have HG := hideIt (HG0.out.keep hb)
    clear hb H1b HG0 t0 t1 tz
    obtain ⟨t0, t1, -, -, tz⟩ := two_at HG.out.b0
    obtain ⟨z0, z1, z2, z3, -, -, -, -, yz⟩ := four_at HG.out.b1
    dsimp only at z0 z1 z2 z3
    go_upto_region 5 with fail
    go_wp2_with fail
    refine (H2.out _ HG.out.bel).mono ?_
    rintro e w2 ⟨rfl, hb⟩
    dsimp only
    have HG2 := hideIt ((HG.out.keep hb).keep (below1 w2 (.cells #[.int .i64 oc, .int .i64 oq, .bool od, .int .i64 code, .int .i64 num, .slice aa am.length ac, .slice fa fl.length fc] 69)))
    have HK := hideIt (heap_alloc_new w2 (.cells #[.int .i64 oc, .int .i64 oq, .bool od, .int .i64 code, .int .i64 num, .slice aa am.length ac, .slice fa fl.length fc] 69))
    clear t0 t1 tz z0 z1 z2 z3 yz
    clear hb H2 HG
    go_upto_region 6 with fail
    generalize w2.alloc (.cells #[.int .i64 oc, .int .i64 oq, .bool od, .int .i64 code, .int .i64 num, .slice aa am.length ac, .slice fa fl.length fc] 69) = W at *
    generalize w2.heap.size = K at *
    have HG := hideIt HG2.out
    clear HG2
    obtain ⟨t0, t1, -, -, tz⟩ := two_at HG.out.b0
    obtain ⟨z0, z1, z2, z3, -, -, -, -, yz⟩ := four_at HG.out.b1
    dsimp only at z0 z1 z2 z3
    obtain ⟨⟨g0, g1, g2, g3, g4, g5, g6⟩, -, gz⟩ := seven_at HK.out
    cases ofound
    · have hd := HOF.out rfl
      subst hd
      have HE : Hid (RES = ([], 172)) := by
        show _ = _
        rw [HX.out, if_pos (.inl rfl)]
      clear HX H3 HOF
      go_wp2
      go_ret2
      rw [HE.out]
      exact ⟨none, 0, [], rfl, rfl, SesOwn.nil _ _, HG.out.bel⟩
    · clear HOF
      by_cases h1 : oq = q
      · subst h1
        cases od
        · have HE : Hid (RES = (withV (l.map SesX.v) ⟨c, oq, true, ⟨xc, xn, xa, xf⟩⟩, 0)) := by
            show _ = _
            rw [HX.out, if_neg (by simp)]
          clear HX HK
          go_upto_region 8 with fail
          clear g0 g1 g2 g3 g4 g5 g6 gz
          go_region_held3 (fun W => W.cell? ⟨w.heap.size, 0, none⟩ = some (.int .i64 c) ∧ W.cell? ⟨w.heap.size, 1, none⟩ = some (.int .i64 oq) ∧ W.cell? ⟨w.heap.size + 1, 0, none⟩ = some (.int .i64 xc) ∧ W.cell? ⟨w.heap.size + 1, 1, none⟩ = some (.int .i64 xn) ∧ W.cell? ⟨w.heap.size + 1, 2, none⟩ = some (.slice xaa xa.length xac) ∧ W.cell? ⟨w.heap.size + 1, 3, none⟩ = some (.slice xfa xf.length xfc)) (go_keep) (first | (go_at_call 18; refine (H4.out _ (by first | exact HG.out.bel | exact HG.out.bel.drew)).mono ?_; rintro e w4 ⟨a4, c4, rfl, HO⟩; have HG4 : Hid (EB w c oq ⟨⟨xc, xn, xa, xf⟩, xaa, xac, xfa, xfc⟩ w4) := (by first | exact HG.out.keep HO.out.2 | exact HG.out.keep (below_via (Below.refl _ W).drew HO.out.2)); obtain ⟨j0, j1, -, -, jz⟩ := two_at HG4.out.b0; obtain ⟨k0, k1, k2, k3, -, -, -, -, kz⟩ := four_at HG4.out.b1; dsimp only at k0 k1 k2 k3; clear H4) | (go_at_call 24; refine (H5.out _ HG4.out.bel).mono ?_; rintro e w5 ⟨a5, c5, a6, c6, rfl, HA⟩; have HG5 := hideIt (HG4.out.keep HA.out.2); obtain ⟨i0, i1, -, -, iz⟩ := two_at HG5.out.b0; obtain ⟨m0, m1, m2, m3, -, -, -, -, mz⟩ := four_at HG5.out.b1; dsimp only at m0 m1 m2 m3; clear H5) | (go_at_call 41; refine (H3.out _ _ _ _ _ _ _ _ (HO.out.1.keep HA.out.2) (fun W' hW' => (HA.out.1.base HG4.out.bel.size).keep hW')).mono ?_; rintro e w6 ⟨a7, c7, rfl, HO6⟩; have HG6 := hideIt (HG5.out.keep HO6.out.2); obtain ⟨n0, n1, -, -, nz⟩ := two_at HG6.out.b0; obtain ⟨x0, x1, x2, x3, -, -, -, -, xz⟩ := four_at HG6.out.b1; dsimp only at x0 x1 x2 x3; clear H3))
          go_wp2
          go_ret2
          rw [HE.out]
          obtain ⟨a', c', ys, e, hy, hw, hb⟩ := HO6.out.1
          simp only [Ending.returned.injEq, Value.slice.injEq] at e
          obtain ⟨rfl, hN, rfl⟩ := e
          have hN2 := HN.out
          subst hN2
          exact ⟨a7, c7, ys, rfl, hy, hw, hb⟩
        · have HE : Hid (RES = ([], 172)) := by
            show _ = _
            rw [HX.out, if_pos (.inl rfl)]
          clear HX H3
          go_wp2
          go_ret2
          rw [HE.out]
          exact ⟨none, 0, [], rfl, rfl, SesOwn.nil _ _, HG.out.bel⟩
      · have HE : Hid (RES = ([], 172)) := by
          show _ = _
          rw [HX.out, if_pos (.inr h1)]
        clear HX H3
        go_wp2
        go_ret2
        rw [HE.out]
        exact ⟨none, 0, [], rfl, rfl, SesOwn.nil _ _, HG.out.bel⟩
  · have HE : Hid (endV (l.map SesX.v) (c, q) ⟨xc, xn, xa, xf⟩ = ([], rfsE (l.map SesX.v) (c, q))) := by
      show endV _ _ _ = _
      unfold endV
      rw [if_neg hR]
    generalize endV (l.map SesX.v) (c, q) ⟨xc, xn, xa, xf⟩ = RES at *
    have hr2 : (chkE (l.map SesX.v) = 170 ∧ rfsE (l.map SesX.v) (c, q) = 170) ∨ (chkE (l.map SesX.v) = 0 ∧ namB (c, q) = false ∧ rfsE (l.map SesX.v) (c, q) = 1) := by
      unfold rfsE at hR ⊢
      unfold chkE bE at hR ⊢
      cases hc : chkS 0 (l.map SesX.v)
      · left
        simp
      · right
        rw [hc] at hR
        cases hn : namB (c, q)
        · simp
        · rw [hn] at hR
          simp at hR
    clear H2 H3 H4 H5 hR
    rcases hr2 with ⟨h1, h2⟩ | ⟨h1, h2, h3⟩
    · rw [h1] at H1
      rw [h2] at HE
      clear h1 h2
      go_enter Tryd.func25, Tryd.ntmps25
      go_wp2_with fail
      refine (H1.out _ X0.out.bel).mono ?_
      rintro e w1 ⟨rfl, hb⟩
      dsimp only
      have HG := hideIt (X0.out.keep hb)
      clear hb H1 X0
      go_wp2
      go_ret2
      rw [HE.out]
      exact ⟨none, 0, [], rfl, rfl, SesOwn.nil _ _, HG.out.bel⟩
    · rw [h1] at H1
      rw [h2] at H1b
      rw [h3] at HE
      clear h1 h2 h3
      go_enter Tryd.func25, Tryd.ntmps25
      go_wp2_with fail
      refine (H1.out _ X0.out.bel).mono ?_
      rintro e w0 ⟨rfl, hb⟩
      dsimp only
      have HG0 := hideIt (X0.out.keep hb)
      clear hb H1 X0
      obtain ⟨t0, t1, -, -, tz⟩ := two_at HG0.out.b0
      go_upto_region 3 with fail
      go_wp2_with fail
      refine (H1b.out _).mono ?_
      rintro e w1 ⟨rfl, hb⟩
      dsimp only
      have HG := hideIt (HG0.out.keep hb)
      clear hb H1b HG0 t0 t1 tz
      go_wp2
      go_ret2
      rw [HE.out]
      exact ⟨none, 0, [], rfl, rfl, SesOwn.nil _ _, HG.out.bel⟩
end Go.Proofs.YtgdgpcheammbpaaDoor
