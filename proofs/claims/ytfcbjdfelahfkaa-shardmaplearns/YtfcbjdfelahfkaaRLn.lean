/- The document's Learn, walked. -/
import Derived.Test.YtfcbjdfelahfkaaDlP
namespace Go.Proofs.Ytfcbjdfelahfkaa
open Go.RowKit
set_option linter.all false
/-- The box of what is learned, and what is gathered. -/
structure RL (w : World) (x y z u : Int) (out : Value) (xs : List PlaV) (W : World) : Prop where
  box : W.heap[w.heap.size]? = some (.cells #[.int .i64 x, .int .i64 y, .int .i64 z, .int .i64 u] 26 (0, 0))
  own : W.ownsRow (w.heap.size + 1) 26 4 out xs.length (celC plaE xs)
  bel : Below w.heap.size w W
theorem RL.keep {w W W' : World} {x y z u : Int} {out : Value} {xs : List PlaV} (h : RL w x y z u out xs W) (hb : Below W.heap.size W W') : RL w x y z u out xs W' :=
  ⟨(hb.block _ (Array.getElem?_eq_some_iff.1 h.box).1).trans h.box, own_keep h.own hb, below_via h.bel hb⟩
theorem RL.app {w W : World} {x y z u : Int} {out : Value} {xs : List PlaV} (h : RL w x y z u out xs W) (hl : xs.length ≤ 30) (a b c d : Int) :
    ∃ a' c' W' ys, ys = xs ++ [((a, b), (c, d))] ∧ (Builtin.append_ #[22, 22] 22 #[out, .slice (some ⟨W.heap.size, 0, none⟩) 1 1]).run Try.prog (W.alloc (.cells #[.int .i64 a, .int .i64 b, .int .i64 c, .int .i64 d] 26)) = .ok (.slice a' ys.length c') W' ∧ RL w x y z u (.slice a' ys.length c') ys W' := by
  have hb := below1 W (.cells #[.int .i64 a, .int .i64 b, .int .i64 c, .int .i64 d] 26)
  have hk := h.keep hb
  obtain ⟨v', w', hrun, how, hgr⟩ := app1 (enc := plaE) (t := 22) plaK pla1 Try.underlying22 info26 rfl (by omega) (W.alloc (.cells #[.int .i64 a, .int .i64 b, .int .i64 c, .int .i64 d] 26)) (w.heap.size + 1) out xs ((a, b), (c, d)) W.heap.size 1 (by have := (Array.getElem?_eq_some_iff.1 hk.box).1; omega) hk.own (heap_alloc_new W _) (by omega) (by unfold maxLen; omega)
  obtain ⟨a', c', rfl⟩ := own_len how
  exact ⟨a', c', w', _, rfl, hrun, ⟨(hgr.block _ (Array.getElem?_eq_some_iff.1 hk.box).1 (fun e => by have := (hk.own.lt _ e.symm).1; omega)).trans hk.box, how, grown_own hgr hk.own (by omega) hk.bel⟩⟩
/- region 11, behind which the keys differ: the entry itself comes behind -/
set_option maxHeartbeats 16000000 in
set_option maxRecDepth 100000 in
theorem rLearn_is (v : Value) (l : List PlaV) (x y z u : Int) (w : World) (h : Plas w v l) : Calls Try.prog 13 #[v, .agg #[.int .i64 x, .int .i64 y, .int .i64 z, .int .i64 u]] w (LrnBack (lrnR l ((x, y), (z, u))) (lrnE l ((x, y), (z, u))) w) := by
  have hx0 := heap_alloc_new w (.cells #[.int .i64 x, .int .i64 y, .int .i64 z, .int .i64 u] 26)
  have hb0 := below1 w (.cells #[.int .i64 x, .int .i64 y, .int .i64 z, .int .i64 u] 26)
  have HC1 := hideIt (rCheck_is v l (w.alloc (.cells #[.int .i64 x, .int .i64 y, .int .i64 z, .int .i64 u] 26)) (h.keep hb0))
  have HC2 := hideIt (fun W b hb => rCheck_is _ _ W (own_one W b x y z u hb))
  have HX0 := hideIt hx0
  have HB0 := hideIt hb0
  obtain ⟨a, c, rfl⟩ := h.slice
  unfold lrnR lrnE lrnB
  cases hm1 : mayB l
  · rw [hm1] at HC1
    simp only [Bool.false_and, Bool.false_eq_true, if_false]
    clear hx0 hb0 h hm1
    go_enter Try.func13, Try.ntmps13
    go_wp2_with fail
    refine HC1.out.mono ?_
    rintro e w1 ⟨rfl, hb⟩
    dsimp only
    go_wp2
    go_ret2
    exact ⟨none, 0, rfl, own_nil _ _, (below_via HB0.out hb)⟩
  · rw [hm1] at HC1
    have HL := hideIt (may_len hm1)
    have HRI := hideIt ((mayB_iff l).1 hm1).2
    cases hm2 : mayB [((x, y), (z, u))]
    · rw [hm2] at HC2
      simp only [Bool.and_false, Bool.false_eq_true, if_false]
      clear hx0 hb0 h hm1 hm2
      go_enter Try.func13, Try.ntmps13
      go_wp2_with fail
      refine HC1.out.mono ?_
      rintro e w1 ⟨rfl, hb⟩
      dsimp only
      have HB1 := hideIt (below_via HB0.out hb)
      have hX1 := (hb.block _ (by simp)).trans HX0.out
      obtain ⟨x0, x1, x2, x3, xf, xl⟩ := four_at hX1
      clear hb hX1 HC1 HX0 HB0
      go_wp2_with fail
      refine (HC2.out _ _ (heap_alloc_new w1 _)).mono ?_
      rintro e w2 ⟨rfl, hb⟩
      dsimp only
      have HB2 := hideIt (below_via HB1.out (below_via (below1 w1 _) hb))
      clear hb
      go_wp2
      go_ret2
      exact ⟨none, 0, rfl, own_nil _ _, HB2.out⟩
    · rw [hm2] at HC2
      simp only [Bool.and_self, if_true]
      obtain ⟨R, hR⟩ : ∃ R, R = lrnL l ((x, y), (z, u)) := ⟨_, rfl⟩
      rw [← hR]
      rw [← doc_is _ HRI.out] at hR
      have HRL := hideIt hR
      obtain ⟨a', c', e', h8, hr⟩ := h.plas
      simp only [Value.slice.injEq, true_and] at e'
      obtain ⟨rfl, rfl⟩ := e'
      have HH := hideIt hr
      clear hx0 hb0 h hm1 hm2 hR hr HRI
      go_enter Try.func13, Try.ntmps13
      go_wp2_with fail
      refine HC1.out.mono ?_
      rintro e w1 ⟨rfl, hb⟩
      dsimp only
      have HB1 := hideIt (below_via HB0.out hb)
      have hX1 := (hb.block _ (by simp)).trans HX0.out
      obtain ⟨x0, x1, x2, x3, xf, xl⟩ := four_at hX1
      have HX1 := hideIt hX1
      clear hb hX1 HC1 HX0 HB0
      go_wp2_with fail
      refine (HC2.out _ _ (heap_alloc_new w1 _)).mono ?_
      rintro e w2 ⟨rfl, hb⟩
      dsimp only
      have hb2 := below_via (below1 w1 _) hb
      have X2 := hideIt (RL.mk (w := w) (x := x) (y := y) (z := z) (u := u) (out := .slice none 0 0) (xs := []) ((hb2.block _ (Array.getElem?_eq_some_iff.1 HX1.out).1).trans HX1.out) (own_nil _ _) (below_via HB1.out hb2))
      clear hb hb2 HB1 HX1 x0 x1 x2 x3 xf xl HC2
      go_upto_region 6 with fail
      go_loopw [6, 7, 8] (fun v6 v7 v8 wr => ∃ (t : Nat) (pb : Bool) (xs : List PlaV), v8 = .int .i64 t ∧ v7 = .bool pb ∧ t ≤ l.length ∧ Hid (docS ((x, y), (z, u)) (l.take t) = (xs, pb) ∧ RL w x y z u v6 xs wr)) (fun _ _ v8 _ => l.length - (intOf v8).toNat)
      case atStart => exact ⟨0, false, [], rfl, rfl, Nat.zero_le _, hideIt ⟨rfl, X2.out⟩⟩
      case round =>
        clear X2
        obtain ⟨t, pb, xs, rfl, rfl, ht, HR⟩ := hrel
        obtain ⟨va, vc, hv6⟩ := own_len HR.out.2.own
        have X3 := hideIt HR.out.2
        rw [hv6] at X3
        have HLX : Hid (xs.length ≤ 2 * l.length) := by
          have := doc_len ((x, y), (z, u)) (l.take t) ([], false)
          rw [show (l.take t).foldl (dStep ((x, y), (z, u))) ([], false) = (xs, pb) from HR.out.1] at this
          have h2 : (l.take t).length ≤ l.length := by rw [List.length_take]; omega
          simp only [List.length_nil] at this
          show xs.length ≤ _
          omega
        have h24 : xs.length ≤ 22 := by have := HLX.out; have := HL.out; omega
        clear HLX
        by_cases hlt : t < l.length
        · have hltI : (t : Int) < (l.length : Int) := by omega
          have ht0 : (0 : Int) ≤ (t : Int) := by omega
          have hw : IntKind.i64.wrap ((t : Int) + 1) = ((t + 1 : Nat) : Int) := by rw [IntKind.wrap_i64]; omega
          obtain ⟨b, off, rfl, hbl, q0, q1, q2, q3⟩ := HH.out t hlt
          have HF : Hid (docS ((x, y), (z, u)) (l.take (t + 1)) = dStep ((x, y), (z, u)) (xs, pb) l[t]) := by
            show _ = _
            rw [docS_take _ hlt, HR.out.1]
          generalize l[t] = en at *
          obtain ⟨⟨ex, ey⟩, ⟨ez, eu⟩⟩ := en
          dsimp only at q0 q1 q2 q3
          have HQ : Hid (∀ W, Below w.heap.size w W → W.cell? ⟨b, off + t * 4, none⟩ = some (.int .i64 ex) ∧ W.cell? ⟨b, off + t * 4 + 1, none⟩ = some (.int .i64 ey) ∧ W.cell? ⟨b, off + t * 4 + 2, none⟩ = some (.int .i64 ez) ∧ W.cell? ⟨b, off + t * 4 + 3, none⟩ = some (.int .i64 eu) ∧ b < W.heap.size) := fun W hW =>
            ⟨(hW.cell (p := ⟨b, off + t * 4, none⟩) hbl).trans q0, (hW.cell (p := ⟨b, off + t * 4 + 1, none⟩) hbl).trans q1, (hW.cell (p := ⟨b, off + t * 4 + 2, none⟩) hbl).trans q2, (hW.cell (p := ⟨b, off + t * 4 + 3, none⟩) hbl).trans q3, Nat.lt_of_lt_of_le hbl hW.size⟩
          clear HR HH q0 q1 q2 q3 hbl HRL
          rw [hv6]
          clear hv6
          cases hk : ((ex, ey) == (x, y))
          · have e1 : ∀ W, (binOp .eql 24 (.agg #[.int .i64 ex, .int .i64 ey]) (.agg #[.int .i64 x, .int .i64 y])).run Try.prog W = .ok (.bool false) W := fun W => by rw [eq24, hk]
            have HK := hideIt hk
            clear hk
            cases pb
            · have HC4 := hideIt (fun W => rLess_is x y ex ey W)
              obtain ⟨bl, hbl⟩ : ∃ bl, ahdB (x, y) (ex, ey) = bl := ⟨_, rfl⟩
              rw [hbl] at HC4
              have HBL := hideIt hbl
              clear hbl
              obtain ⟨x0, x1, x2, x3, xf, xl⟩ := four_at X3.out.box
              obtain ⟨c0, c1, c2, c3, cl⟩ := HQ.out _ X3.out.bel
              have HS : Hid (∀ w2, Below wr.heap.size wr w2 → w2.cell? ⟨b, off + t * 4, none⟩ = some (.int .i64 ex) ∧ w2.cell? ⟨b, off + t * 4 + 1, none⟩ = some (.int .i64 ey) ∧ w2.cell? ⟨w.heap.size, 0, none⟩ = some (.int .i64 x) ∧ w2.cell? ⟨w.heap.size, 1, none⟩ = some (.int .i64 y)) := fun w2 hb =>
                ⟨(hb.cell (p := ⟨b, off + t * 4, none⟩) cl).trans c0, (hb.cell (p := ⟨b, off + t * 4 + 1, none⟩) cl).trans c1, (hb.cell (p := ⟨w.heap.size, 0, none⟩) xl).trans x0, (hb.cell (p := ⟨w.heap.size, 1, none⟩) xl).trans x1⟩
              clear c2 c3 x2 x3
              go_upto_region 8 with fail
              go_region_held3 (fun W => W.cell? ⟨b, off + t * 4, none⟩ = some (.int .i64 ex) ∧ W.cell? ⟨b, off + t * 4 + 1, none⟩ = some (.int .i64 ey) ∧ W.cell? ⟨w.heap.size, 0, none⟩ = some (.int .i64 x) ∧ W.cell? ⟨w.heap.size, 1, none⟩ = some (.int .i64 y)) (go_keep) (first | (go_at_call 22; refine (HC4.out _).mono ?_; clear HC4; rintro e w4 ⟨rfl, hb⟩; have hb4 : Below wr.heap.size wr w4 := (by first | exact hb | exact below_via (Below.refl _ wr).drew hb); have X4 := hideIt (X3.out.keep hb4); obtain ⟨j0, j1, j2, j3⟩ := HS.out w4 hb4; clear hb hb4))
              clear c0 c1 cl x0 x1 xl xf j0 j1 j2 j3 HS X3
              cases bl
              · obtain ⟨x0, x1, x2, x3, xf, xl⟩ := four_at X4.out.box
                obtain ⟨c0, c1, c2, c3, cl⟩ := HQ.out _ X4.out.bel
                go_upto_region 11 with fail
                go_quiet (fail)
                have Xa := hideIt (X4.out.keep (below_drewN (Below.refl _ _) nq))
                clear X4 x0 x1 x2 x3 xf xl c0 c1 c2 c3 cl
                revert Xa
                generalize World.drewN _ nq = Wa
                intro Xa
                obtain ⟨x0, x1, x2, x3, xf, xl⟩ := four_at Xa.out.box
                obtain ⟨c0, c1, c2, c3, cl⟩ := HQ.out _ Xa.out.bel
                obtain ⟨a7, d7, w7, ys, hys, hrun, hrl⟩ := Xa.out.app (by omega) ex ey ez eu
                have HRUN := hideIt hrun
                have X7 := hideIt hrl
                have HY := hideIt hys
                clear hrun hrl hys
                go_wp2_with (at_builtin; refine Lib.wpList_append_run _ rfl _ _ _ _ rfl _ _ rfl rfl _ _ HRUN.out ?_)
                go_roundw
                case rel => exact ⟨t + 1, false, ys, by go_num, rfl, by omega, hideIt ⟨by rw [HF.out, HY.out]; simp [dStep, HK.out, HBL.out], X7.out⟩⟩
                case measure => simp [intOf]; omega
              · obtain ⟨x0, x1, x2, x3, xf, xl⟩ := four_at X4.out.box
                obtain ⟨c0, c1, c2, c3, cl⟩ := HQ.out _ X4.out.bel
                obtain ⟨a5, d5, w5, zs, hzs, hrun, hrl⟩ := X4.out.app (by omega) x y z u
                have HRUN := hideIt hrun
                have X5 := hideIt hrl
                have HZ := hideIt hzs
                have hz9 : zs.length ≤ 23 := by rw [hzs, List.length_append, List.length_singleton]; omega
                clear hrun hrl hzs
                go_upto_region 11 with (at_builtin; refine Lib.wpList_append_run _ rfl _ _ _ _ rfl _ _ rfl rfl _ _ HRUN.out ?_)
                clear x0 x1 x2 x3 xf xl c0 c1 c2 c3 cl X4 HRUN
                obtain ⟨x0, x1, x2, x3, xf, xl⟩ := four_at X5.out.box
                obtain ⟨c0, c1, c2, c3, cl⟩ := HQ.out _ X5.out.bel
                go_upto_region 11 with fail
                go_quiet (fail)
                have Xa := hideIt (X5.out.keep (below_drewN (Below.refl _ _) nq))
                clear X5 x0 x1 x2 x3 xf xl c0 c1 c2 c3 cl
                revert Xa
                generalize World.drewN _ nq = Wa
                intro Xa
                obtain ⟨x0, x1, x2, x3, xf, xl⟩ := four_at Xa.out.box
                obtain ⟨c0, c1, c2, c3, cl⟩ := HQ.out _ Xa.out.bel
                obtain ⟨a7, d7, w7, ys, hys, hrun, hrl⟩ := Xa.out.app (by omega) ex ey ez eu
                have HRUN := hideIt hrun
                have X7 := hideIt hrl
                have HY := hideIt hys
                clear hrun hrl hys
                go_wp2_with (at_builtin; refine Lib.wpList_append_run _ rfl _ _ _ _ rfl _ _ rfl rfl _ _ HRUN.out ?_)
                go_roundw
                case rel => exact ⟨t + 1, true, ys, by go_num, rfl, by omega, hideIt ⟨by rw [HF.out, HY.out]; rw [HZ.out]; simp [dStep, HK.out, HBL.out], X7.out⟩⟩
                case measure => simp [intOf]; omega
            · obtain ⟨x0, x1, x2, x3, xf, xl⟩ := four_at X3.out.box
              obtain ⟨c0, c1, c2, c3, cl⟩ := HQ.out _ X3.out.bel
              go_upto_region 8 with fail
              go_quiet (fail)
              have X4 := hideIt (X3.out.keep (below_drewN (Below.refl _ _) nq))
              clear X3 x0 x1 x2 x3 xf xl c0 c1 c2 c3 cl
              revert X4
              generalize World.drewN _ nq = W4
              intro X4
              obtain ⟨x0, x1, x2, x3, xf, xl⟩ := four_at X4.out.box
              obtain ⟨c0, c1, c2, c3, cl⟩ := HQ.out _ X4.out.bel
              go_upto_region 11 with fail
              go_quiet (fail)
              have Xa := hideIt (X4.out.keep (below_drewN (Below.refl _ _) nq))
              clear X4 x0 x1 x2 x3 xf xl c0 c1 c2 c3 cl
              revert Xa
              generalize World.drewN _ nq = Wa
              intro Xa
              obtain ⟨x0, x1, x2, x3, xf, xl⟩ := four_at Xa.out.box
              obtain ⟨c0, c1, c2, c3, cl⟩ := HQ.out _ Xa.out.bel
              obtain ⟨a7, d7, w7, ys, hys, hrun, hrl⟩ := Xa.out.app (by omega) ex ey ez eu
              have HRUN := hideIt hrun
              have X7 := hideIt hrl
              have HY := hideIt hys
              clear hrun hrl hys
              go_wp2_with (at_builtin; refine Lib.wpList_append_run _ rfl _ _ _ _ rfl _ _ rfl rfl _ _ HRUN.out ?_)
              go_roundw
              case rel => exact ⟨t + 1, true, ys, by go_num, rfl, by omega, hideIt ⟨by rw [HF.out, HY.out]; simp [dStep, HK.out], X7.out⟩⟩
              case measure => simp [intOf]; omega
          · have e1 : ∀ W, (binOp .eql 24 (.agg #[.int .i64 ex, .int .i64 ey]) (.agg #[.int .i64 x, .int .i64 y])).run Try.prog W = .ok (.bool true) W := fun W => by rw [eq24, hk]
            have HK := hideIt hk
            clear hk
            cases pb
            · have HC4 := hideIt (fun W => rLess_is x y ex ey W)
              have hbl : ahdB (x, y) (ex, ey) = false := by
                have e2 : (ex, ey) = (x, y) := eq_of_beq HK.out
                rw [e2, ahd_irr]
              rw [hbl] at HC4
              have HBL := hideIt hbl
              clear hbl
              obtain ⟨x0, x1, x2, x3, xf, xl⟩ := four_at X3.out.box
              obtain ⟨c0, c1, c2, c3, cl⟩ := HQ.out _ X3.out.bel
              have HS : Hid (∀ w2, Below wr.heap.size wr w2 → w2.cell? ⟨b, off + t * 4, none⟩ = some (.int .i64 ex) ∧ w2.cell? ⟨b, off + t * 4 + 1, none⟩ = some (.int .i64 ey) ∧ w2.cell? ⟨w.heap.size, 0, none⟩ = some (.int .i64 x) ∧ w2.cell? ⟨w.heap.size, 1, none⟩ = some (.int .i64 y)) := fun w2 hb =>
                ⟨(hb.cell (p := ⟨b, off + t * 4, none⟩) cl).trans c0, (hb.cell (p := ⟨b, off + t * 4 + 1, none⟩) cl).trans c1, (hb.cell (p := ⟨w.heap.size, 0, none⟩) xl).trans x0, (hb.cell (p := ⟨w.heap.size, 1, none⟩) xl).trans x1⟩
              clear c2 c3 x2 x3
              go_upto_region 8 with fail
              go_region_held3 (fun W => W.cell? ⟨b, off + t * 4, none⟩ = some (.int .i64 ex) ∧ W.cell? ⟨b, off + t * 4 + 1, none⟩ = some (.int .i64 ey) ∧ W.cell? ⟨w.heap.size, 0, none⟩ = some (.int .i64 x) ∧ W.cell? ⟨w.heap.size, 1, none⟩ = some (.int .i64 y)) (go_keep) (first | (go_at_call 22; refine (HC4.out _).mono ?_; clear HC4; rintro e w4 ⟨rfl, hb⟩; have hb4 : Below wr.heap.size wr w4 := (by first | exact hb | exact below_via (Below.refl _ wr).drew hb); have X4 := hideIt (X3.out.keep hb4); obtain ⟨j0, j1, j2, j3⟩ := HS.out w4 hb4; clear hb hb4))
              clear c0 c1 cl x0 x1 xl xf j0 j1 j2 j3 HS X3
              have hvd : decide (eu < u) = true ∨ decide (eu < u) = false := by cases decide (eu < u) <;> simp
              by_cases hv : eu < u
              · have hvd : decide (eu < u) = true := decide_eq_true hv
                have HV := hideIt hv
                clear hv
                obtain ⟨x0, x1, x2, x3, xf, xl⟩ := four_at X4.out.box
                obtain ⟨c0, c1, c2, c3, cl⟩ := HQ.out _ X4.out.bel
                go_upto_region 11 with fail
                go_quiet (fail)
                have Xa := hideIt (X4.out.keep (below_drewN (Below.refl _ _) nq))
                clear X4 x0 x1 x2 x3 xf xl c0 c1 c2 c3 cl
                revert Xa
                generalize World.drewN _ nq = Wa
                intro Xa
                obtain ⟨x0, x1, x2, x3, xf, xl⟩ := four_at Xa.out.box
                obtain ⟨c0, c1, c2, c3, cl⟩ := HQ.out _ Xa.out.bel
                go_upto_region 13 with fail
                go_quiet (fail)
                have Xb := hideIt (Xa.out.keep (below_drewN (Below.refl _ _) nq))
                clear Xa x0 x1 x2 x3 xf xl c0 c1 c2 c3 cl
                revert Xb
                generalize World.drewN _ nq = Wb
                intro Xb
                obtain ⟨x0, x1, x2, x3, xf, xl⟩ := four_at Xb.out.box
                obtain ⟨c0, c1, c2, c3, cl⟩ := HQ.out _ Xb.out.bel
                obtain ⟨a7, d7, w7, ys, hys, hrun, hrl⟩ := Xb.out.app (by omega) x y z u
                have HRUN := hideIt hrun
                have X7 := hideIt hrl
                have HY := hideIt hys
                clear hrun hrl hys
                go_wp2_with (at_builtin; refine Lib.wpList_append_run _ rfl _ _ _ _ rfl _ _ rfl rfl _ _ HRUN.out ?_)
                go_roundw
                case rel => exact ⟨t + 1, true, ys, by go_num, rfl, by omega, hideIt ⟨by rw [HF.out, HY.out]; simp [dStep, HK.out, HV.out, HBL.out], X7.out⟩⟩
                case measure => simp [intOf]; omega
              · have hvd : decide (eu < u) = false := decide_eq_false hv
                have HV := hideIt hv
                clear hv
                obtain ⟨x0, x1, x2, x3, xf, xl⟩ := four_at X4.out.box
                obtain ⟨c0, c1, c2, c3, cl⟩ := HQ.out _ X4.out.bel
                go_upto_region 11 with fail
                go_quiet (fail)
                have Xa := hideIt (X4.out.keep (below_drewN (Below.refl _ _) nq))
                clear X4 x0 x1 x2 x3 xf xl c0 c1 c2 c3 cl
                revert Xa
                generalize World.drewN _ nq = Wa
                intro Xa
                obtain ⟨x0, x1, x2, x3, xf, xl⟩ := four_at Xa.out.box
                obtain ⟨c0, c1, c2, c3, cl⟩ := HQ.out _ Xa.out.bel
                go_upto_region 13 with fail
                go_quiet (fail)
                have Xb := hideIt (Xa.out.keep (below_drewN (Below.refl _ _) nq))
                clear Xa x0 x1 x2 x3 xf xl c0 c1 c2 c3 cl
                revert Xb
                generalize World.drewN _ nq = Wb
                intro Xb
                obtain ⟨x0, x1, x2, x3, xf, xl⟩ := four_at Xb.out.box
                obtain ⟨c0, c1, c2, c3, cl⟩ := HQ.out _ Xb.out.bel
                obtain ⟨a7, d7, w7, ys, hys, hrun, hrl⟩ := Xb.out.app (by omega) ex ey ez eu
                have HRUN := hideIt hrun
                have X7 := hideIt hrl
                have HY := hideIt hys
                clear hrun hrl hys
                go_wp2_with (at_builtin; refine Lib.wpList_append_run _ rfl _ _ _ _ rfl _ _ rfl rfl _ _ HRUN.out ?_)
                go_roundw
                case rel => exact ⟨t + 1, true, ys, by go_num, rfl, by omega, hideIt ⟨by rw [HF.out, HY.out]; simp [dStep, HK.out, HV.out, HBL.out], X7.out⟩⟩
                case measure => simp [intOf]; omega
            · obtain ⟨x0, x1, x2, x3, xf, xl⟩ := four_at X3.out.box
              obtain ⟨c0, c1, c2, c3, cl⟩ := HQ.out _ X3.out.bel
              go_upto_region 8 with fail
              go_quiet (fail)
              have X4 := hideIt (X3.out.keep (below_drewN (Below.refl _ _) nq))
              clear X3 x0 x1 x2 x3 xf xl c0 c1 c2 c3 cl
              revert X4
              generalize World.drewN _ nq = W4
              intro X4
              have hvd : decide (eu < u) = true ∨ decide (eu < u) = false := by cases decide (eu < u) <;> simp
              by_cases hv : eu < u
              · have hvd : decide (eu < u) = true := decide_eq_true hv
                have HV := hideIt hv
                clear hv
                obtain ⟨x0, x1, x2, x3, xf, xl⟩ := four_at X4.out.box
                obtain ⟨c0, c1, c2, c3, cl⟩ := HQ.out _ X4.out.bel
                go_upto_region 11 with fail
                go_quiet (fail)
                have Xa := hideIt (X4.out.keep (below_drewN (Below.refl _ _) nq))
                clear X4 x0 x1 x2 x3 xf xl c0 c1 c2 c3 cl
                revert Xa
                generalize World.drewN _ nq = Wa
                intro Xa
                obtain ⟨x0, x1, x2, x3, xf, xl⟩ := four_at Xa.out.box
                obtain ⟨c0, c1, c2, c3, cl⟩ := HQ.out _ Xa.out.bel
                go_upto_region 13 with fail
                go_quiet (fail)
                have Xb := hideIt (Xa.out.keep (below_drewN (Below.refl _ _) nq))
                clear Xa x0 x1 x2 x3 xf xl c0 c1 c2 c3 cl
                revert Xb
                generalize World.drewN _ nq = Wb
                intro Xb
                obtain ⟨x0, x1, x2, x3, xf, xl⟩ := four_at Xb.out.box
                obtain ⟨c0, c1, c2, c3, cl⟩ := HQ.out _ Xb.out.bel
                obtain ⟨a7, d7, w7, ys, hys, hrun, hrl⟩ := Xb.out.app (by omega) x y z u
                have HRUN := hideIt hrun
                have X7 := hideIt hrl
                have HY := hideIt hys
                clear hrun hrl hys
                go_wp2_with (at_builtin; refine Lib.wpList_append_run _ rfl _ _ _ _ rfl _ _ rfl rfl _ _ HRUN.out ?_)
                go_roundw
                case rel => exact ⟨t + 1, true, ys, by go_num, rfl, by omega, hideIt ⟨by rw [HF.out, HY.out]; simp [dStep, HK.out, HV.out], X7.out⟩⟩
                case measure => simp [intOf]; omega
              · have hvd : decide (eu < u) = false := decide_eq_false hv
                have HV := hideIt hv
                clear hv
                obtain ⟨x0, x1, x2, x3, xf, xl⟩ := four_at X4.out.box
                obtain ⟨c0, c1, c2, c3, cl⟩ := HQ.out _ X4.out.bel
                go_upto_region 11 with fail
                go_quiet (fail)
                have Xa := hideIt (X4.out.keep (below_drewN (Below.refl _ _) nq))
                clear X4 x0 x1 x2 x3 xf xl c0 c1 c2 c3 cl
                revert Xa
                generalize World.drewN _ nq = Wa
                intro Xa
                obtain ⟨x0, x1, x2, x3, xf, xl⟩ := four_at Xa.out.box
                obtain ⟨c0, c1, c2, c3, cl⟩ := HQ.out _ Xa.out.bel
                go_upto_region 13 with fail
                go_quiet (fail)
                have Xb := hideIt (Xa.out.keep (below_drewN (Below.refl _ _) nq))
                clear Xa x0 x1 x2 x3 xf xl c0 c1 c2 c3 cl
                revert Xb
                generalize World.drewN _ nq = Wb
                intro Xb
                obtain ⟨x0, x1, x2, x3, xf, xl⟩ := four_at Xb.out.box
                obtain ⟨c0, c1, c2, c3, cl⟩ := HQ.out _ Xb.out.bel
                obtain ⟨a7, d7, w7, ys, hys, hrun, hrl⟩ := Xb.out.app (by omega) ex ey ez eu
                have HRUN := hideIt hrun
                have X7 := hideIt hrl
                have HY := hideIt hys
                clear hrun hrl hys
                go_wp2_with (at_builtin; refine Lib.wpList_append_run _ rfl _ _ _ _ rfl _ _ rfl rfl _ _ HRUN.out ?_)
                go_roundw
                case rel => exact ⟨t + 1, true, ys, by go_num, rfl, by omega, hideIt ⟨by rw [HF.out, HY.out]; simp [dStep, HK.out, HV.out], X7.out⟩⟩
                case measure => simp [intOf]; omega
        · have hltI : ¬ (t : Int) < (l.length : Int) := by omega
          have HE : Hid (R = if pb then xs else xs ++ [((x, y), (z, u))]) := by
            have := HR.out.1
            rw [List.take_of_length_le (by omega)] at this
            show _ = _
            rw [HRL.out]
            unfold docL
            rw [this]
          clear HR HH HRL
          rw [hv6]
          clear hv6
          cases pb
          · obtain ⟨x0, x1, x2, x3, xf, xl⟩ := four_at X3.out.box
            obtain ⟨a5, d5, w5, zs, hzs, hrun, hrl⟩ := X3.out.app (by omega) x y z u
            have HRUN := hideIt hrun
            have X5 := hideIt hrl
            obtain rfl : R = zs := by rw [hzs]; exact HE.out
            clear hrun hrl hzs HE
            go_wp2_with (at_builtin; refine Lib.wpList_append_run _ rfl _ _ _ _ rfl _ _ rfl rfl _ _ HRUN.out ?_)
            go_ret2
            exact ⟨a5, d5, rfl, own_base X5.out.own (by omega), X5.out.bel⟩
          · obtain rfl : R = xs := HE.out
            go_wp2
            go_ret2
            exact ⟨va, vc, rfl, own_base X3.out.own (by omega), X3.out.bel⟩
end Go.Proofs.Ytfcbjdfelahfkaa
