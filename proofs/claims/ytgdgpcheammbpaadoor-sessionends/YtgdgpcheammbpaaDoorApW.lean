/- SessionApart, walked. -/
import Derived.Test.YtgdgpcheammbpaaDoorApP
import Derived.Test.YtgdgpcheammbpaaDoorSam
namespace Go.Proofs.YtgdgpcheammbpaaDoor
open Go.RowKit
set_option linter.all false
/-- Begin, at sessions in memory. -/
theorem begC {W : World} {v : Value} {xs : List SesX} {vs : List SesV} (hx : xs.map SesX.v = vs) (hs : Sess W v xs) (c q : Int) : Calls Tryd.prog 16 #[v, .agg #[.int .i64 c, .int .i64 q]] W fun e w' => ∃ a N cap x0 x1 a1 n1 c1 a2 n2 c2, e = .returned (.tuple #[.slice a N cap, .int .i64 (begV vs (c, q)).2.1, .agg #[.int .i64 x0, .int .i64 x1, .slice a1 n1 c1, .slice a2 n2 c2], .int .i64 (begV vs (c, q)).2.2.2]) ∧ Hid (Below W.heap.size W w' ∧ ∃ ys, ys.map SesX.v = (begV vs (c, q)).1 ∧ SesOwn W.heap.size w' (.slice a N cap) ys) := by
  subst hx
  refine (begin_is v xs c q W hs).mono ?_
  rintro e w' ⟨a, cap, ys, ⟨xv, a1, c1, a2, c2⟩, rfl, hy, ho, hx, _, hb⟩
  exact ⟨a, _, cap, _, _, a1, _, c1, a2, _, c2, rfl, hb, ys, hy, ho⟩
/-- The two names in their boxes. -/
structure TB (w : World) (c q d r : Int) (W : World) : Prop where
  b0 : W.heap[w.heap.size]? = some (.cells #[.int .i64 c, .int .i64 q] 35 (0, 0))
  b1 : W.heap[w.heap.size + 1]? = some (.cells #[.int .i64 d, .int .i64 r] 35 (0, 0))
  bel : Below w.heap.size w W
theorem TB.keep {w W W' : World} {c q d r : Int} (h : TB w c q d r W) (hb : Below W.heap.size W W') : TB w c q d r W' :=
  ⟨(hb.block _ (Array.getElem?_eq_some_iff.1 h.b0).1).trans h.b0, (hb.block _ (Array.getElem?_eq_some_iff.1 h.b1).1).trans h.b1, below_via h.bel hb⟩
theorem TB.first (w : World) (c q d r : Int) : TB w c q d r ((w.alloc (.cells #[.int .i64 c, .int .i64 q] 35)).alloc (.cells #[.int .i64 d, .int .i64 r] 35)) := ⟨(two_heap w _ _).1, (two_heap w _ _).2.1, below2 w _ _⟩
theorem Sess.keepE {W W' : World} {v : Value} {vs : List SesV} (h : ∃ ys, ys.map SesX.v = vs ∧ Sess W v ys) (hb : Below W.heap.size W W') : ∃ ys, ys.map SesX.v = vs ∧ Sess W' v ys := by
  obtain ⟨ys, hy, hs⟩ := h
  exact ⟨ys, hy, hs.keep hb⟩
theorem begE {W : World} {v : Value} {vs : List SesV} (h : ∃ xs, xs.map SesX.v = vs ∧ Sess W v xs) (c q : Int) : Calls Tryd.prog 16 #[v, .agg #[.int .i64 c, .int .i64 q]] W fun e w' => ∃ a N cap x0 x1 a1 n1 c1 a2 n2 c2, e = .returned (.tuple #[.slice a N cap, .int .i64 (begV vs (c, q)).2.1, .agg #[.int .i64 x0, .int .i64 x1, .slice a1 n1 c1, .slice a2 n2 c2], .int .i64 (begV vs (c, q)).2.2.2]) ∧ Hid (Below W.heap.size W w' ∧ ∃ ys, ys.map SesX.v = (begV vs (c, q)).1 ∧ SesOwn W.heap.size w' (.slice a N cap) ys) := by
  obtain ⟨xs, hx, hs⟩ := h
  exact begC hx hs c q
set_option maxHeartbeats 16000000 in
set_option maxRecDepth 100000 in
theorem apart_walk (v : Value) (l : List SesX) (c q d r : Int) (w : World) (h : Sess w v l) (hF : Forms w) : Calls Tryd.prog 6 #[v, .agg #[.int .i64 c, .int .i64 q], .agg #[.int .i64 d, .int .i64 r]] w fun e w' => e = .returned (.bool true) ∧ Below w.heap.size w w' := by
  have HL := hideIt (fun W (hW : Below w.heap.size w W) => live_is W (hF.keep hW))
  have HS : Hid (∃ xs, xs.map SesX.v = l.map SesX.v ∧ Sess w v xs) := ⟨l, rfl, h⟩
  obtain ⟨va, vc, rfl⟩ := h.row.slice
  generalize l.length = vn at *
  clear h hF
  have HC := hideIt (fun h1 h2 h3 => beg_comm (l := l.map SesX.v) (t := (c, q)) (u := (d, r)) h1 h2 h3)
  dsimp only at HC
  have HT := hideIt (TB.first w c q d r)
  have HB0 := hideIt (below2 w (.cells #[.int .i64 c, .int .i64 q] 35) (.cells #[.int .i64 d, .int .i64 r] 35))
  generalize l.map SesX.v = vs at *
  have H1 := hideIt (begE (Sess.keepE HS.out HB0.out) c q)
  go_enter Tryd.func6, Tryd.ntmps6
  have t0 := trivial
  have t1 := trivial
  have tz := trivial
  have t2 := trivial
  have t3 := trivial
  have tz2 := trivial
  go_wp2_with fail
  refine H1.out.mono ?_
  rintro e w1 ⟨pa, pn, pc, x0, x1, a1, n1, c1, a2, n2, c2, rfl, HQ⟩
  dsimp only
  have HSv := hideIt (Sess.keepE HS.out (below_via HB0.out (below_via HQ.out.1 (below1 w1 (.cells #[.int .i64 x0, .int .i64 x1, .slice a1 n1 c1, .slice a2 n2 c2] 44)))))
  clear HS H1 HB0
  have hb1 := below1 w1 (.cells #[.int .i64 x0, .int .i64 x1, .slice a1 n1 c1, .slice a2 n2 c2] 44)
  have hb2 := below_via HQ.out.1 hb1
  have HT2 := hideIt (HT.out.keep hb2)
  have HP : Hid (∃ ys, ys.map SesX.v = (begV vs (c, q)).1 ∧ Sess (w1.alloc (.cells #[.int .i64 x0, .int .i64 x1, .slice a1 n1 c1, .slice a2 n2 c2] 44)) (.slice pa pn pc) ys) := by
    obtain ⟨_, ys, hy, ho⟩ := HQ.out
    exact ⟨ys, hy, (ho.keep hb1).at_⟩
  have HBX := hideIt hb2
  clear hb1 hb2 HQ HT t0 t1 tz t2 t3 tz2
  go_upto_region 2 with fail
  generalize w1.alloc (.cells #[.int .i64 x0, .int .i64 x1, .slice a1 n1 c1, .slice a2 n2 c2] 44) = W1 at *
  generalize w1.heap.size = Kw1 at *
  have HT := hideIt HT2.out
  clear HT2
  obtain ⟨t0, t1, -, -, tz⟩ := two_at HT.out.b0
  obtain ⟨t2, t3, -, -, tz2⟩ := two_at HT.out.b1
  have H1 := hideIt (begE HSv.out d r)
  go_wp2_with fail
  refine H1.out.mono ?_
  rintro e w2 ⟨sa, sn, sc, x0, x1, a1, n1, c1, a2, n2, c2, rfl, HQ⟩
  dsimp only
  have HP2 := hideIt (Sess.keepE HP.out (below_via HQ.out.1 (below1 w2 (.cells #[.int .i64 x0, .int .i64 x1, .slice a1 n1 c1, .slice a2 n2 c2] 44))))
  clear HSv H1 HP HBX
  have hb1 := below1 w2 (.cells #[.int .i64 x0, .int .i64 x1, .slice a1 n1 c1, .slice a2 n2 c2] 44)
  have hb2 := below_via HQ.out.1 hb1
  have HT2 := hideIt (HT.out.keep hb2)
  have HR : Hid (∃ ys, ys.map SesX.v = (begV vs (d, r)).1 ∧ Sess (w2.alloc (.cells #[.int .i64 x0, .int .i64 x1, .slice a1 n1 c1, .slice a2 n2 c2] 44)) (.slice sa sn sc) ys) := by
    obtain ⟨_, ys, hy, ho⟩ := HQ.out
    exact ⟨ys, hy, (ho.keep hb1).at_⟩
  have HBX := hideIt hb2
  clear hb1 hb2 HQ HT t0 t1 tz t2 t3 tz2
  go_upto_region 3 with fail
  generalize w2.alloc (.cells #[.int .i64 x0, .int .i64 x1, .slice a1 n1 c1, .slice a2 n2 c2] 44) = W2 at *
  generalize w2.heap.size = Kw2 at *
  have HT := hideIt HT2.out
  clear HT2
  obtain ⟨t0, t1, -, -, tz⟩ := two_at HT.out.b0
  obtain ⟨t2, t3, -, -, tz2⟩ := two_at HT.out.b1
  by_cases h1 : (begV vs (c, q)).2.2.2 = 0
  · by_cases h2 : (begV vs (d, r)).2.2.2 = 0
    · by_cases h3 : c = d
      · rw [h1, h2]
        clear HC h1 h2 HP2 HR HBX
        subst h3
        go_wp2_with fail
        refine (HL.out _ HT.out.bel).mono ?_
        rintro e w9 ⟨rfl, hb⟩
        dsimp only
        have HB := hideIt (below_via HT.out.bel hb)
        clear hb HT HL
        go_wp2
        go_ret
        exact ⟨rfl, HB.out⟩
      · obtain ⟨⟨m1, k1⟩, ⟨m2, k2⟩, hE⟩ := HC.out h1 h2 h3
        rw [h1, h2]
        clear HC h1 h2 HBX
        generalize (begV vs (c, q)).1 = rs1 at *
        generalize (begV vs (d, r)).1 = rs2 at *
        have H1 := hideIt (begE HP2.out d r)
        rw [m1] at H1
        obtain ⟨kk1, hk1⟩ : ∃ z, (begV rs1 (d, r)).2.1 = z := ⟨_, rfl⟩
        rw [hk1] at H1 k1
        have HE := hideIt hE
        clear m1 hk1 hE
        go_wp2_with fail
        refine H1.out.mono ?_
        rintro e w3 ⟨qa, qn, qc, x0, x1, a1, n1, c1, a2, n2, c2, rfl, HQ⟩
        dsimp only
        have HR2 := hideIt (Sess.keepE HR.out (below_via HQ.out.1 (below1 w3 (.cells #[.int .i64 x0, .int .i64 x1, .slice a1 n1 c1, .slice a2 n2 c2] 44))))
        clear HR H1 HP2
        have hb1 := below1 w3 (.cells #[.int .i64 x0, .int .i64 x1, .slice a1 n1 c1, .slice a2 n2 c2] 44)
        have hb2 := below_via HQ.out.1 hb1
        have HT2 := hideIt (HT.out.keep hb2)
        have HU : Hid (∃ ys, ys.map SesX.v = (begV rs1 (d, r)).1 ∧ Sess (w3.alloc (.cells #[.int .i64 x0, .int .i64 x1, .slice a1 n1 c1, .slice a2 n2 c2] 44)) (.slice qa qn qc) ys) := by
          obtain ⟨_, ys, hy, ho⟩ := HQ.out
          exact ⟨ys, hy, (ho.keep hb1).at_⟩
        have HBX := hideIt hb2
        clear hb1 hb2 HQ HT t0 t1 tz t2 t3 tz2
        go_upto_region 6 with fail
        generalize w3.alloc (.cells #[.int .i64 x0, .int .i64 x1, .slice a1 n1 c1, .slice a2 n2 c2] 44) = W3 at *
        generalize w3.heap.size = Kw3 at *
        have HT := hideIt HT2.out
        clear HT2
        obtain ⟨t0, t1, -, -, tz⟩ := two_at HT.out.b0
        obtain ⟨t2, t3, -, -, tz2⟩ := two_at HT.out.b1
        have H1 := hideIt (begE HR2.out c q)
        rw [m2] at H1
        obtain ⟨kk2, hk2⟩ : ∃ z, (begV rs2 (c, q)).2.1 = z := ⟨_, rfl⟩
        rw [hk2] at H1 k2
        clear m2 hk2 HBX
        go_wp2_with fail
        refine H1.out.mono ?_
        rintro e w4 ⟨za, zn, zc, x0, x1, a1, n1, c1, a2, n2, c2, rfl, HQ⟩
        dsimp only
        have HU2 := hideIt (Sess.keepE HU.out (below_via HQ.out.1 (below1 w4 (.cells #[.int .i64 x0, .int .i64 x1, .slice a1 n1 c1, .slice a2 n2 c2] 44))))
        clear HR2 H1 HU
        have hb1 := below1 w4 (.cells #[.int .i64 x0, .int .i64 x1, .slice a1 n1 c1, .slice a2 n2 c2] 44)
        have hb2 := below_via HQ.out.1 hb1
        have HT2 := hideIt (HT.out.keep hb2)
        have HV : Hid (∃ ys, ys.map SesX.v = (begV rs2 (c, q)).1 ∧ Sess (w4.alloc (.cells #[.int .i64 x0, .int .i64 x1, .slice a1 n1 c1, .slice a2 n2 c2] 44)) (.slice za zn zc) ys) := by
          obtain ⟨_, ys, hy, ho⟩ := HQ.out
          exact ⟨ys, hy, (ho.keep hb1).at_⟩
        have HBX := hideIt hb2
        clear hb1 hb2 HQ HT t0 t1 tz t2 t3 tz2
        go_upto_region 7 with fail
        generalize w4.alloc (.cells #[.int .i64 x0, .int .i64 x1, .slice a1 n1 c1, .slice a2 n2 c2] 44) = W4 at *
        generalize w4.heap.size = Kw4 at *
        have HT := hideIt HT2.out
        clear HT2
        obtain ⟨t0, t1, -, -, tz⟩ := two_at HT.out.b0
        obtain ⟨t2, t3, -, -, tz2⟩ := two_at HT.out.b1
        have HSM : Hid (Calls Tryd.prog 17 #[.slice qa qn qc, .slice za zn zc] W4 fun e w' => e = .returned (.bool true) ∧ Below W4.heap.size W4 w') := by
          obtain ⟨xs, hx, h1⟩ := HU2.out
          obtain ⟨ys, hy, h2⟩ := HV.out
          exact sameS_is _ _ xs ys W4 h1 h2 (by rw [hx, hy]; exact HE.out)
        clear HU2 HV HE HBX
        go_wp2_with fail
        refine HSM.out.mono ?_
        rintro e w8 ⟨rfl, hb⟩
        dsimp only
        have HT2 := hideIt (HT.out.keep hb)
        clear hb HT HSM t0 t1 tz t2 t3 tz2
        have HT := hideIt HT2.out
        clear HT2
        go_wp2_with fail
        refine (HL.out _ HT.out.bel).mono ?_
        rintro e w9 ⟨rfl, hb⟩
        dsimp only
        have HB := hideIt (below_via HT.out.bel hb)
        clear hb HT HL
        go_wp2
        go_ret
        exact ⟨rfl, HB.out⟩
    · rw [h1]
      generalize (begV vs (d, r)).2.2.2 = m2 at *
      clear HC h1 HP2 HR HBX
      go_wp2_with fail
      refine (HL.out _ HT.out.bel).mono ?_
      rintro e w9 ⟨rfl, hb⟩
      dsimp only
      have HB := hideIt (below_via HT.out.bel hb)
      clear hb HT HL
      go_wp2
      go_ret
      exact ⟨rfl, HB.out⟩
  · generalize (begV vs (c, q)).2.2.2 = m1 at *
    generalize (begV vs (d, r)).2.2.2 = m2 at *
    clear HC HP2 HR HBX
    go_wp2_with fail
    refine (HL.out _ HT.out.bel).mono ?_
    rintro e w9 ⟨rfl, hb⟩
    dsimp only
    have HB := hideIt (below_via HT.out.bel hb)
    clear hb HT HL
    go_wp2
    go_ret
    exact ⟨rfl, HB.out⟩
end Go.Proofs.YtgdgpcheammbpaaDoor
