/- The document's Begin. -/
import Derived.Test.YtgdgpcheammbpaaDoorRCk
import Derived.Test.YtgdgpcheammbpaaDoorRPw
import Derived.Test.YtgdgpcheammbpaaDoorCps
import Derived.Test.YtgdgpcheammbpaaDoorBegW
namespace Go.Proofs.YtgdgpcheammbpaaDoor
open Go.RowKit
set_option linter.all false
/-- Copied, read at a later time. -/
theorem cop3 (R : List SesX) (w : World) (a : Option Addr) (c : Nat) (W : World) (h : Sess W (.slice a R.length c) R) (hb : Below w.heap.size w W) : Calls Tryd.prog 18 #[.slice a R.length c] W fun e w' => ∃ a' c', e = .returned (.slice a' R.length c') ∧ Hid (SesLBack (R.map SesX.v) w (.returned (.slice a' R.length c')) w' ∧ Below W.heap.size W w') := by
  refine (copyS_is _ R W h).mono ?_
  rintro e w' ⟨a', c', ys, rfl, hy, ho, hb2⟩
  have hl : (R.map SesX.v).length = R.length := List.length_map ..
  rw [hl] at ho ⊢
  refine ⟨a', c', rfl, ⟨a', c', ys, by rw [hl], hy, ?_, below_via hb hb2⟩, hb2⟩
  rw [hl]
  exact ho.base hb.size
theorem copA3 (x : AnsX) (W : World) (h : AnsAt W x) : Calls Tryd.prog 24 #[.agg #[.int .i64 x.v.code, .int .i64 x.v.num, .slice x.aa x.v.am.length x.ac, .slice x.fa x.v.fl.length x.fc]] W fun e w' => ∃ a1 c1 a2 c2, e = .returned (.agg #[.int .i64 x.v.code, .int .i64 x.v.num, .slice a1 x.v.am.length c1, .slice a2 x.v.fl.length c2]) ∧ Hid (AnsOwn W.heap.size w' ⟨x.v, a1, c1, a2, c2⟩ ∧ Below W.heap.size W w') := by
  refine (copyAns_is x W h).mono ?_
  rintro e w' ⟨⟨v, a1, c1, a2, c2⟩, rfl, hv, ho, hb⟩
  dsimp only at hv
  subst hv
  exact ⟨a1, c1, a2, c2, rfl, ho, hb⟩
/-- One put into what was copied. -/
theorem put3 (vs : List SesV) (one : SesX) (w : World) (N : Nat) (hN : N = (withV vs one.v).length) (hc : chkS 0 vs = true) (a : Option Addr) (c n : Nat) (W : World) (h : SesLBack vs w (.returned (.slice a n c)) W) (ho : ∀ W', Below W.heap.size W W' → AnsOwn w.heap.size W' one.x) : Calls Tryd.prog 41 #[.slice a n c, .agg (sesE one).toArray] W fun e w' => ∃ a' c', e = .returned (.slice a' N c') ∧ Hid (SesLBack (withV vs one.v) w (.returned (.slice a' N c')) w' ∧ Below W.heap.size W w') := by
  obtain ⟨a0, c0, ys, e0, hy, hw, hb⟩ := h
  simp only [Ending.returned.injEq, Value.slice.injEq] at e0
  obtain ⟨rfl, rfl, rfl⟩ := e0
  have h6 := chk_six hc
  have hyl : ys.length = vs.length := by rw [← hy, List.length_map]
  have hR : (putF one false ys).map SesX.v = withV vs one.v := by
    rw [put_ins one ys 0 (by rw [hy]; exact hc), hy, with_ins]
  have hRl : (putF one false ys).length = N := by rw [hN, ← hR, List.length_map]
  refine (put_is _ ys one W hw.at_ (by omega)).mono ?_
  rintro e w' ⟨a', c', rfl, how, hb2⟩
  rw [hRl] at how ⊢
  refine ⟨a', c', rfl, ⟨a', c', putF one false ys, by rw [hN], hR, ⟨?_, fun s hs => ?_, ?_⟩, below_via hb hb2⟩, hb2⟩
  · rw [← hN, hRl]
    exact own_base how hb.size
  · rcases put_mem one ys false s hs with rfl | hm
    · exact ho w' hb2
    · exact (hw.ans s hm).keep hb2
  · have := put_len one ys
    omega
set_option maxHeartbeats 8000000 in
set_option maxRecDepth 100000 in
theorem rBegin_is (v : Value) (l : List SesX) (c q : Int) (w : World) (h : Sess w v l) : Calls Tryd.prog 19 #[v, .agg #[.int .i64 c, .int .i64 q]] w (BegBack (begV (l.map SesX.v) (c, q)) w) := by
  have H1 := hideIt (fun W (hW : Below w.heap.size w W) => rCheck_is v l W (h.keep hW))
  have H1b := hideIt (fun W => rName_is c q W)
  have H2 := hideIt (fun W (hW : Below w.heap.size w W) => of_is v l c W (h.keep hW))
  have H5 := hideIt (fun W (hW : Below w.heap.size w W) => copA3 (lastX l c).x W (last_at (h.keep hW).ans c))
  have X0 := hideIt (GB.first w c q)
  obtain ⟨va, vc, rfl⟩ := h.row.slice
  obtain ⟨N, hN⟩ : ∃ N, N = (withV (l.map SesX.v) ⟨c, q, false, zAns⟩).length := ⟨_, rfl⟩
  have H3 := hideIt (fun hc a cc n W (h3 : SesLBack (l.map SesX.v) w (.returned (.slice a n cc)) W) => put3 (l.map SesX.v) ⟨c, q, false, zAnsX⟩ w N hN hc a cc n W h3 (fun W' _ => zOwnA _ _))
  have H4 := hideIt (fun W (hW : Below w.heap.size w W) => cop3 l w va vc W (h.keep hW) hW)
  have HN := hideIt hN
  clear hN
  clear h
  by_cases hR : rfsE (l.map SesX.v) (c, q) = 0
  · have hc := (rfs_ok hR).1
    have hlen := chk_six hc
    rw [List.length_map] at hlen
    have hq : 0 ≤ (lastX l c).q ∧ (lastX l c).q ≤ 100000 := by
      have := last_q (c := c) hc
      rw [← last_v] at this
      exact this
    have HX : Hid (begV (l.map SesX.v) (c, q) = if (lastX l c).d = true ∧ q = (lastX l c).q + 1 then (withV (l.map SesX.v) ⟨c, q, false, zAns⟩, 1, zAns, 0)
      else if (lastX l c).d = true ∧ q = (lastX l c).q then (l.map SesX.v, 3, (lastX l c).x.v, 0)
      else if q = (lastX l c).q then (l.map SesX.v, 2, zAns, 0)
      else if q < (lastX l c).q then ([], 0, zAns, 171) else ([], 0, zAns, 172)) := by
      show begV _ _ = _
      unfold begV
      rw [if_pos hR, ← last_v]
      rfl
    have hE0 : chkE (l.map SesX.v) = 0 := by
      unfold chkE bE
      rw [if_pos hc]
    rw [hE0] at H1
    rw [(rfs_ok hR).2] at H1b
    replace H3 := hideIt (H3.out hc)
    obtain ⟨hoq, hod, hox, -⟩ := of_last l c
    clear hR hc hE0
    generalize begV (l.map SesX.v) (c, q) = RES at *
    rw [← hoq, ← hod, ← hox] at HX
    rw [← hox] at H5
    rw [← hoq] at hq
    clear hoq hod hox
    generalize ofX l c = own at *
    obtain ⟨⟨oc, oq, od, ⟨⟨code, num, am, fl⟩, aa, ac, fa, fc⟩⟩, ofound⟩ := own
    simp only [sesE, AnsX.am, AnsX.fl, SesX.v, AnsX.cs] at H2 H5 hq HX
    simp only [sesE, zAnsX, zAns, AnsX.am, AnsX.fl, List.length_nil] at H3
    obtain ⟨hq0, hq1⟩ := hq
    go_enter Tryd.func19, Tryd.ntmps19
    go_wp2_with fail
    refine (H1.out _ X0.out.bel).mono ?_
    rintro e w0 ⟨rfl, hb⟩
    dsimp only
    have HG0 := hideIt (X0.out.keep hb)
    clear hb H1 X0
    obtain ⟨t0, t1, -, -, tz⟩ := two_at HG0.out.b0
    go_upto_region 3 with fail
    go_wp2_with fail
    refine (H1b.out _).mono ?_
    rintro e w1 ⟨rfl, hb⟩
    dsimp only
    have HG := hideIt (HG0.out.keep hb)
    clear hb H1b HG0 t0 t1 tz
    obtain ⟨t0, t1, -, -, tz⟩ := two_at HG.out.b0
    obtain ⟨z0, z1, z2, z3, y0, y1, y2, y3, yz⟩ := four_at HG.out.b1
    go_upto_region 5 with fail
    go_wp2_with fail
    refine (H2.out _ HG.out.bel).mono ?_
    rintro e w2 ⟨rfl, hb⟩
    dsimp only
    have HG2 := hideIt ((HG.out.keep hb).keep (below1 w2 (.cells #[.int .i64 oc, .int .i64 oq, .bool od, .int .i64 code, .int .i64 num, .slice aa am.length ac, .slice fa fl.length fc] 69)))
    have HK := hideIt (heap_alloc_new w2 (.cells #[.int .i64 oc, .int .i64 oq, .bool od, .int .i64 code, .int .i64 num, .slice aa am.length ac, .slice fa fl.length fc] 69))
    have lK : w.heap.size + 1 < w2.heap.size := (Array.getElem?_eq_some_iff.1 (HG.out.keep hb).b1).1
    clear t0 t1 tz z0 z1 z2 z3 y0 y1 y2 y3 yz
    clear hb H2 HG
    go_upto_region 6 with fail
    generalize w2.alloc (.cells #[.int .i64 oc, .int .i64 oq, .bool od, .int .i64 code, .int .i64 num, .slice aa am.length ac, .slice fa fl.length fc] 69) = W at *
    generalize w2.heap.size = K at *
    have HG := hideIt HG2.out
    clear HG2
    obtain ⟨t0, t1, -, -, tz⟩ := two_at HG.out.b0
    obtain ⟨z0, z1, z2, z3, y0, y1, y2, y3, yz⟩ := four_at HG.out.b1
    obtain ⟨⟨g0, g1, g2, g3, g4, g5, g6⟩, -, gz⟩ := seven_at HK.out
    have hwq : IntKind.i64.wrap (oq + 1) = oq + 1 := by rw [IntKind.wrap_i64]; omega
    cases od
    · by_cases h1 : q = oq
      · have HE : Hid (RES = (l.map SesX.v, 2, zAns, 0)) := by
          show _ = _
          rw [HX.out, if_neg (by simp), if_neg (by simp), if_pos h1]
        clear HX H3 H5
        subst h1
        go_wp2_with fail
        refine (H4.out _ HG.out.bel).mono ?_
        rintro e w4 ⟨a4, c4, rfl, HO⟩
        dsimp only
        have HG4 := hideIt (HG.out.keep HO.out.2)
        clear t0 t1 tz z0 z1 z2 z3 y0 y1 y2 y3 yz
        clear HG H4
        have HG := hideIt HG4.out
        clear HG4
        obtain ⟨t0, t1, -, -, tz⟩ := two_at HG.out.b0
        obtain ⟨z0, z1, z2, z3, y0, y1, y2, y3, yz⟩ := four_at HG.out.b1
        go_wp2
        have k4 := four_at (HG.out.put zAnsX zCs).1
        exact bodyPost_ret (v := .tuple #[.slice a4 l.length c4, .int .i64 2, .agg #[.int .i64 0, .int .i64 0, .slice none 0 0, .slice none 0 0], .int .i64 0]) (by simp [results, Tryd.results19, go_sem, k4.1, k4.2.1, k4.2.2.1, k4.2.2.2.1]) rfl (by rw [HE.out]; exact back1 (by simp) HG.out HO.out.1)
      · by_cases h2 : q < oq
        · have HE : Hid (RES = ([], 0, zAns, 171)) := by
            show _ = _
            rw [HX.out, if_neg (by simp), if_neg (by simp), if_neg h1, if_pos h2]
          clear HX
          go_wp2
          have k4 := four_at (HG.out.put zAnsX zCs).1
          exact bodyPost_ret (v := .tuple #[.slice none 0 0, .int .i64 0, .agg #[.int .i64 0, .int .i64 0, .slice none 0 0, .slice none 0 0], .int .i64 171]) (by simp [results, Tryd.results19, go_sem, k4.1, k4.2.1, k4.2.2.1, k4.2.2.2.1]) rfl (by rw [HE.out]; exact back0 (ys := []) rfl rfl HG.out (SesOwn.nil _ _))
        · have HE : Hid (RES = ([], 0, zAns, 172)) := by
            show _ = _
            rw [HX.out, if_neg (by simp), if_neg (by simp), if_neg h1, if_neg h2]
          clear HX
          go_wp2
          have k4 := four_at (HG.out.put zAnsX zCs).1
          exact bodyPost_ret (v := .tuple #[.slice none 0 0, .int .i64 0, .agg #[.int .i64 0, .int .i64 0, .slice none 0 0, .slice none 0 0], .int .i64 172]) (by simp [results, Tryd.results19, go_sem, k4.1, k4.2.1, k4.2.2.1, k4.2.2.2.1]) rfl (by rw [HE.out]; exact back0 (ys := []) rfl rfl HG.out (SesOwn.nil _ _))
    · by_cases h0 : q = oq + 1
      · have HE : Hid (RES = (withV (l.map SesX.v) ⟨c, q, false, zAns⟩, 1, zAns, 0)) := by
          show _ = _
          rw [HX.out, if_pos ⟨rfl, h0⟩]
        clear HX H5
        subst h0
        go_upto_region 7 with fail
        have nP1 : w.heap.size + 1 ≠ w.heap.size := by omega
        have nP2 : w.heap.size ≠ w.heap.size + 1 := by omega
        go_region_held3 (fun W => W.cell? ⟨w.heap.size, 0, none⟩ = some (.int .i64 c) ∧ W.cell? ⟨w.heap.size, 1, none⟩ = some (.int .i64 (oq + 1))) (go_keep) (first | (go_at_call 18; refine (H4.out _ (by first | exact HG.out.bel | exact HG.out.bel.drew)).mono ?_; rintro e w4 ⟨a4, c4, rfl, HO⟩; have HG4 : Hid (GB w c (oq + 1) w4) := (by first | exact HG.out.keep HO.out.2 | exact HG.out.keep (below_via (Below.refl _ W).drew HO.out.2)); obtain ⟨j0, j1, -, -, jz⟩ := two_at HG4.out.b0; clear H4) | (go_at_call 41; refine (H3.out _ _ _ _ HO.out.1).mono ?_; rintro e w5 ⟨a5, c5, rfl, HO5⟩; have HG5 := hideIt (HG4.out.keep HO5.out.2); obtain ⟨i0, i1, -, -, iz⟩ := two_at HG5.out.b0; obtain ⟨x0, x1, x2, x3, f0, f1, f2, f3, xz⟩ := four_at HG5.out.b1; clear H3))
        have HG6 := hideIt HG5.out
        clear t0 t1 tz z0 z1 z2 z3 y0 y1 y2 y3 yz
        clear HG HG4 HG5
        have HG := hideIt HG6.out
        go_wp2
        have k4 := four_at (HG.out.put zAnsX zCs).1
        exact bodyPost_ret (v := .tuple #[.slice a5 N c5, .int .i64 1, .agg #[.int .i64 0, .int .i64 0, .slice none 0 0, .slice none 0 0], .int .i64 0]) (by simp [results, Tryd.results19, go_sem, k4.1, k4.2.1, k4.2.2.1, k4.2.2.2.1]) rfl (by rw [HE.out]; exact back1 HN.out HG.out HO5.out.1)
      · by_cases h1 : q = oq
        · have HE : Hid (RES = (l.map SesX.v, 3, ⟨code, num, am, fl⟩, 0)) := by
            show _ = _
            rw [HX.out, if_neg (by rintro ⟨_, h⟩; exact h0 h), if_pos ⟨rfl, h1⟩]
          clear HX H3
          subst h1
          go_upto_region 9 with fail
          have nK : K ≠ w.heap.size + 1 := by omega
          have nK2 : w.heap.size + 1 ≠ K := by omega
          go_region_held3 (fun W => W.cell? ⟨K, 3, none⟩ = some (.int .i64 code) ∧ W.cell? ⟨K, 4, none⟩ = some (.int .i64 num) ∧ W.cell? ⟨K, 5, none⟩ = some (.slice aa am.length ac) ∧ W.cell? ⟨K, 6, none⟩ = some (.slice fa fl.length fc)) (go_keep) (first | (go_at_call 18; refine (H4.out _ (by first | exact HG.out.bel | exact HG.out.bel.drew)).mono ?_; rintro e w4 ⟨a4, c4, rfl, HO⟩; have HG4 := hideIt (HG.out.keep (by first | exact HO.out.2 | exact (Below.refl _ _).drew.trans HO.out.2)); have HK4 := hideIt ((HO.out.2.block _ gz).trans HK.out); obtain ⟨⟨j0, j1, j2, j3, j4, j5, j6⟩, -, jz⟩ := seven_at HK4.out; clear H4) | (go_at_call 24; refine (H5.out _ HG4.out.bel).mono ?_; rintro e w5 ⟨a5, c5, a6, c6, rfl, HA⟩; have HG5 := hideIt (HG4.out.keep HA.out.2); obtain ⟨⟨i0, i1, i2, i3, i4, i5, i6⟩, -, iz⟩ := seven_at ((HA.out.2.block _ jz).trans HK4.out); obtain ⟨x0, x1, x2, x3, f0, f1, f2, f3, xz⟩ := four_at HG5.out.b1; clear H5))
          go_wp2
          have k4 := four_at (HG5.out.put ⟨⟨code, num, am, fl⟩, a5, c5, a6, c6⟩ rfl).1
          simp only [AnsX.am, AnsX.fl] at k4
          exact bodyPost_ret (v := .tuple #[.slice a4 l.length c4, .int .i64 3, .agg #[.int .i64 code, .int .i64 num, .slice a5 am.length c5, .slice a6 fl.length c6], .int .i64 0]) (by simp [results, Tryd.results19, go_sem, k4.1, k4.2.1, k4.2.2.1, k4.2.2.2.1]) rfl (by
            rw [HE.out]
            exact back2 (x := ⟨⟨code, num, am, fl⟩, a5, c5, a6, c6⟩) (by simp) HG5.out (HO.out.1.keep HA.out.2) rfl (HA.out.1.base HG4.out.bel.size))
        · by_cases h2 : q < oq
          · have HE : Hid (RES = ([], 0, zAns, 171)) := by
              show _ = _
              rw [HX.out, if_neg (by rintro ⟨_, h⟩; exact h0 h), if_neg (by rintro ⟨_, h⟩; exact h1 h), if_neg h1, if_pos h2]
            clear HX
            go_wp2
            have k4 := four_at (HG.out.put zAnsX zCs).1
            exact bodyPost_ret (v := .tuple #[.slice none 0 0, .int .i64 0, .agg #[.int .i64 0, .int .i64 0, .slice none 0 0, .slice none 0 0], .int .i64 171]) (by simp [results, Tryd.results19, go_sem, k4.1, k4.2.1, k4.2.2.1, k4.2.2.2.1]) rfl (by rw [HE.out]; exact back0 (ys := []) rfl rfl HG.out (SesOwn.nil _ _))
          · have HE : Hid (RES = ([], 0, zAns, 172)) := by
              show _ = _
              rw [HX.out, if_neg (by rintro ⟨_, h⟩; exact h0 h), if_neg (by rintro ⟨_, h⟩; exact h1 h), if_neg h1, if_neg h2]
            clear HX
            go_wp2
            have k4 := four_at (HG.out.put zAnsX zCs).1
            exact bodyPost_ret (v := .tuple #[.slice none 0 0, .int .i64 0, .agg #[.int .i64 0, .int .i64 0, .slice none 0 0, .slice none 0 0], .int .i64 172]) (by simp [results, Tryd.results19, go_sem, k4.1, k4.2.1, k4.2.2.1, k4.2.2.2.1]) rfl (by rw [HE.out]; exact back0 (ys := []) rfl rfl HG.out (SesOwn.nil _ _))
  · have HE : Hid (begV (l.map SesX.v) (c, q) = ([], 0, zAns, rfsE (l.map SesX.v) (c, q))) := by
      show begV _ _ = _
      unfold begV
      rw [if_neg hR]
    generalize begV (l.map SesX.v) (c, q) = RES at *
    have hr2 : (chkE (l.map SesX.v) = 170 ∧ rfsE (l.map SesX.v) (c, q) = 170) ∨ (chkE (l.map SesX.v) = 0 ∧ namB (c, q) = false ∧ rfsE (l.map SesX.v) (c, q) = 1) := by
      unfold rfsE at hR ⊢
      unfold chkE bE at hR ⊢
      cases hc : chkS 0 (l.map SesX.v)
      · left
        simp
      · right
        rw [hc] at hR
        cases hn : namB (c, q)
        · simp
        · rw [hn] at hR
          simp at hR
    clear H2 H3 H4 H5 hR
    rcases hr2 with ⟨h1, h2⟩ | ⟨h1, h2, h3⟩
    · rw [h1] at H1
      rw [h2] at HE
      clear h1 h2
      go_enter Tryd.func19, Tryd.ntmps19
      go_wp2_with fail
      refine (H1.out _ X0.out.bel).mono ?_
      rintro e w1 ⟨rfl, hb⟩
      dsimp only
      have HG := hideIt (X0.out.keep hb)
      clear hb H1 X0
      obtain ⟨t0, t1, -, -, tz⟩ := two_at HG.out.b0
      obtain ⟨z0, z1, z2, z3, y0, y1, y2, y3, yz⟩ := four_at HG.out.b1
      go_wp2
      have k4 := four_at (HG.out.put zAnsX zCs).1
      exact bodyPost_ret (v := .tuple #[.slice none 0 0, .int .i64 0, .agg #[.int .i64 0, .int .i64 0, .slice none 0 0, .slice none 0 0], .int .i64 170]) (by simp [results, Tryd.results19, go_sem, k4.1, k4.2.1, k4.2.2.1, k4.2.2.2.1]) rfl (by rw [HE.out]; exact back0 (ys := []) rfl rfl HG.out (SesOwn.nil _ _))
    · rw [h1] at H1
      rw [h2] at H1b
      rw [h3] at HE
      clear h1 h2 h3
      go_enter Tryd.func19, Tryd.ntmps19
      go_wp2_with fail
      refine (H1.out _ X0.out.bel).mono ?_
      rintro e w0 ⟨rfl, hb⟩
      dsimp only
      have HG0 := hideIt (X0.out.keep hb)
      clear hb H1 X0
      obtain ⟨t0, t1, -, -, tz⟩ := two_at HG0.out.b0
      go_upto_region 3 with fail
      go_wp2_with fail
      refine (H1b.out _).mono ?_
      rintro e w1 ⟨rfl, hb⟩
      dsimp only
      have HG := hideIt (HG0.out.keep hb)
      clear hb H1b HG0 t0 t1 tz
      obtain ⟨t0, t1, -, -, tz⟩ := two_at HG.out.b0
      obtain ⟨z0, z1, z2, z3, y0, y1, y2, y3, yz⟩ := four_at HG.out.b1
      go_wp2
      have k4 := four_at (HG.out.put zAnsX zCs).1
      exact bodyPost_ret (v := .tuple #[.slice none 0 0, .int .i64 0, .agg #[.int .i64 0, .int .i64 0, .slice none 0 0, .slice none 0 0], .int .i64 1]) (by simp [results, Tryd.results19, go_sem, k4.1, k4.2.1, k4.2.2.1, k4.2.2.2.1]) rfl (by rw [HE.out]; exact back0 (ys := []) rfl rfl HG.out (SesOwn.nil _ _))
end Go.Proofs.YtgdgpcheammbpaaDoor
