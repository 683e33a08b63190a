/- Begin, walked. -/
import Derived.Test.YtilinemcmgjiiaaDoorBegP
namespace Go.Proofs.YtilinemcmgjiiaaDoor
open Go.RowKit
set_option linter.all false
theorem zCs : zAnsX.cs = #[.int .i64 0, .int .i64 0, .slice none 0 0, .slice none 0 0] := rfl
/-- The boxes of Begin: the name, the answer. -/
structure GB (w : World) (c q : Int) (W : World) : Prop where
  b0 : W.heap[w.heap.size]? = some (.cells #[.int .i64 c, .int .i64 q] 35 (0, 0))
  b1 : W.heap[w.heap.size + 1]? = some (.cells #[.int .i64 0, .int .i64 0, .slice none 0 0, .slice none 0 0] 44 (0, 0))
  bel : Below w.heap.size w W
theorem GB.keep {w W W' : World} {c q : Int} (h : GB w c q W) (hb : Below W.heap.size W W') : GB w c q W' :=
  ⟨(hb.block _ (Array.getElem?_eq_some_iff.1 h.b0).1).trans h.b0, (hb.block _ (Array.getElem?_eq_some_iff.1 h.b1).1).trans h.b1, below_via h.bel hb⟩
theorem GB.first (w : World) (c q : Int) : GB w c q ((w.alloc (.cells #[.int .i64 c, .int .i64 q] 35)).alloc (.cells #[.int .i64 0, .int .i64 0, .slice none 0 0, .slice none 0 0] 44)) := ⟨(two_heap w _ _).1, (two_heap w _ _).2.1, below2 w _ _⟩
/-- The answer's box is filled. -/
theorem GB.put {w W : World} {c q : Int} (h : GB w c q W) (x : AnsX) {u0 u1 u2 u3 : Value} (hx : x.cs = #[u0, u1, u2, u3]) :
    ((((W.setCell ⟨w.heap.size + 1, 0, none⟩ u0).setCell ⟨w.heap.size + 1, 1, none⟩ u1).setCell ⟨w.heap.size + 1, 2, none⟩ u2).setCell ⟨w.heap.size + 1, 3, none⟩ u3).heap[w.heap.size + 1]? = some (.cells #[u0, u1, u2, u3] 44 (0, 0)) ∧ Below w.heap.size w ((((W.setCell ⟨w.heap.size + 1, 0, none⟩ u0).setCell ⟨w.heap.size + 1, 1, none⟩ u1).setCell ⟨w.heap.size + 1, 2, none⟩ u2).setCell ⟨w.heap.size + 1, 3, none⟩ u3) :=
  ⟨put4 W _ 44 u0 u1 u2 u3 h.b1, belowSet _ (belowSet _ (belowSet _ (belowSet _ h.bel (by omega)) (by omega)) (by omega)) (by omega)⟩
theorem SesOwn.put4 {B D : Nat} {w : World} {v z0 z1 z2 z3 : Value} {ys : List SesX} (h : SesOwn B w v ys) (hd : w.heap[D]? = some (.cells #[z0, z1, z2, z3] 44 (0, 0))) (u0 u1 u2 u3 : Value) : SesOwn B ((((w.setCell ⟨D, 0, none⟩ u0).setCell ⟨D, 1, none⟩ u1).setCell ⟨D, 2, none⟩ u2).setCell ⟨D, 3, none⟩ u3) v ys :=
  ⟨own_put4 _ _ _ _ h.row hd (by decide), fun s hs => ⟨own_put4 _ _ _ _ (h.ans s hs).a hd (by decide), own_put4 _ _ _ _ (h.ans s hs).f hd (by decide), (h.ans s hs).sa, (h.ans s hs).sf⟩, h.siz⟩
theorem AnsOwn.put4 {B D : Nat} {w : World} {x : AnsX} {z0 z1 z2 z3 : Value} (h : AnsOwn B w x) (hd : w.heap[D]? = some (.cells #[z0, z1, z2, z3] 44 (0, 0))) (u0 u1 u2 u3 : Value) : AnsOwn B ((((w.setCell ⟨D, 0, none⟩ u0).setCell ⟨D, 1, none⟩ u1).setCell ⟨D, 2, none⟩ u2).setCell ⟨D, 3, none⟩ u3) x :=
  ⟨own_put4 _ _ _ _ h.a hd (by decide), own_put4 _ _ _ _ h.f hd (by decide), h.sa, h.sf⟩
theorem SesOwn.drew {B : Nat} {w : World} {v : Value} {ys : List SesX} (h : SesOwn B w v ys) : SesOwn B w.drew v ys := h.keep (Below.refl _ w).drew
/-- A list and a zero answer go back. -/
theorem back0 {w W : World} {c q n m : Int} {a : Option Addr} {cap N : Nat} {vs : List SesV} {ys : List SesX} (hN : N = vs.length) (hy : ys.map SesX.v = vs) (h : GB w c q W) (ho : SesOwn w.heap.size W (.slice a N cap) ys) :
    BegBack (vs, n, zAns, m) w (.returned (.tuple #[.slice a N cap, .int .i64 n, .agg #[.int .i64 0, .int .i64 0, .slice none 0 0, .slice none 0 0], .int .i64 m])) ((((W.setCell ⟨w.heap.size + 1, 0, none⟩ (.int .i64 0)).setCell ⟨w.heap.size + 1, 1, none⟩ (.int .i64 0)).setCell ⟨w.heap.size + 1, 2, none⟩ (.slice none 0 0)).setCell ⟨w.heap.size + 1, 3, none⟩ (.slice none 0 0)) := by
  subst hN
  exact ⟨a, cap, ys, zAnsX, rfl, hy, ho.put4 h.b1 _ _ _ _, rfl, zOwnA _ _, (h.put zAnsX zCs).2⟩
theorem back1 {w W : World} {c q n m : Int} {a : Option Addr} {cap N : Nat} {vs : List SesV} (hN : N = vs.length) (h : GB w c q W) (hs : SesLBack vs w (.returned (.slice a N cap)) W) :
    BegBack (vs, n, zAns, m) w (.returned (.tuple #[.slice a N cap, .int .i64 n, .agg #[.int .i64 0, .int .i64 0, .slice none 0 0, .slice none 0 0], .int .i64 m])) ((((W.setCell ⟨w.heap.size + 1, 0, none⟩ (.int .i64 0)).setCell ⟨w.heap.size + 1, 1, none⟩ (.int .i64 0)).setCell ⟨w.heap.size + 1, 2, none⟩ (.slice none 0 0)).setCell ⟨w.heap.size + 1, 3, none⟩ (.slice none 0 0)) := by
  obtain ⟨a', c', ys, e, hy, ho, hb⟩ := hs
  simp only [Ending.returned.injEq, Value.slice.injEq] at e
  obtain ⟨rfl, rfl, rfl⟩ := e
  exact back0 rfl hy h ho
theorem back2 {w W : World} {c q n m : Int} {a : Option Addr} {cap N : Nat} {vs : List SesV} {x : AnsX} {u0 u1 u2 u3 : Value} (hN : N = vs.length) (h : GB w c q W) (hs : SesLBack vs w (.returned (.slice a N cap)) W) (hx : x.cs = #[u0, u1, u2, u3]) (ho : AnsOwn w.heap.size W x) :
    BegBack (vs, n, x.v, m) w (.returned (.tuple #[.slice a N cap, .int .i64 n, .agg #[u0, u1, u2, u3], .int .i64 m])) ((((W.setCell ⟨w.heap.size + 1, 0, none⟩ u0).setCell ⟨w.heap.size + 1, 1, none⟩ u1).setCell ⟨w.heap.size + 1, 2, none⟩ u2).setCell ⟨w.heap.size + 1, 3, none⟩ u3) := by
  obtain ⟨a', c', ys, e, hy, hw, hb⟩ := hs
  simp only [Ending.returned.injEq, Value.slice.injEq] at e
  obtain ⟨rfl, rfl, rfl⟩ := e
  exact ⟨a, cap, ys, x, by rw [hx], hy, hw.put4 h.b1 _ _ _ _, rfl, ho.put4 h.b1 _ _ _ _, (h.put x hx).2⟩
theorem SesLBack.keep {vs : List SesV} {w W W' : World} {a : Option Addr} {c N : Nat} (h : SesLBack vs w (.returned (.slice a N c)) W) (hb : Below W.heap.size W W') : SesLBack vs w (.returned (.slice a N c)) W' := by
  obtain ⟨a', c', ys, e, hy, hw, hbel⟩ := h
  exact ⟨a', c', ys, e, hy, hw.keep hb, below_via hbel hb⟩
/-- One in its client's place, read at a later time. -/
theorem with3 (l : List SesX) (one : SesX) (w : World) (vs : List SesV) (N : Nat) (hv : (withX l one).map SesX.v = vs) (hN : N = vs.length) (va : Option Addr) (vc : Nat) (W : World) (h : Sess W (.slice va l.length vc) l) (hb : Below w.heap.size w W) (ho : AnsAt W one.x) (hl : l.length ≤ 6) : Calls Tryd.prog 65 #[.slice va l.length vc, .agg (sesE one).toArray] W fun e w' => ∃ a' c', e = .returned (.slice a' N c') ∧ Hid (SesLBack vs w (.returned (.slice a' N c')) w' ∧ Below W.heap.size W w') := by
  refine (with_is _ l one W h ho (by omega)).mono ?_
  rintro e w' ⟨a', c', ys, rfl, hy, hw, hbel⟩
  rw [hv] at hy hw ⊢
  subst hN
  exact ⟨a', c', rfl, ⟨a', c', ys, rfl, hy, hw.base hb.size, below_via hb hbel⟩, hbel⟩
theorem ans3 (x : AnsX) (W : World) (h : AnsAt W x) : Calls Tryd.prog 57 #[.agg #[.int .i64 x.v.code, .int .i64 x.v.num, .slice x.aa x.v.am.length x.ac, .slice x.fa x.v.fl.length x.fc]] W fun e w' => ∃ a1 c1 a2 c2, e = .returned (.agg #[.int .i64 x.v.code, .int .i64 x.v.num, .slice a1 x.v.am.length c1, .slice a2 x.v.fl.length c2]) ∧ Hid (AnsOwn W.heap.size w' ⟨x.v, a1, c1, a2, c2⟩ ∧ Below W.heap.size W w') := by
  refine (answer_is x W h).mono ?_
  rintro e w' ⟨⟨v, a1, c1, a2, c2⟩, rfl, hv, ho, hb⟩
  dsimp only at hv
  subst hv
  exact ⟨a1, c1, a2, c2, rfl, ho, hb⟩
set_option maxHeartbeats 8000000 in
set_option maxRecDepth 100000 in
theorem begin_is (v : Value) (l : List SesX) (c q : Int) (w : World) (h : Sess w v l) : Calls Tryd.prog 47 #[v, .agg #[.int .i64 c, .int .i64 q]] w (BegBack (begV (l.map SesX.v) (c, q)) w) := by
  have H1 := hideIt (fun W (hW : Below w.heap.size w W) => refusedS_is v l c q W (h.keep hW))
  have H2 := hideIt (fun W (hW : Below w.heap.size w W) => last_is v l c W (h.keep hW))
  have H5 := hideIt (fun W (hW : Below w.heap.size w W) => ans3 (lastX l c).x W (last_at (h.keep hW).ans c))
  have X0 := hideIt (GB.first w c q)
  obtain ⟨va, vc, rfl⟩ := h.row.slice
  obtain ⟨N, hN⟩ : ∃ N, N = (withV (l.map SesX.v) ⟨c, q, false, zAns⟩).length := ⟨_, rfl⟩
  have H3 := hideIt (fun W (hW : Below w.heap.size w W) hl => with3 l ⟨c, q, false, zAnsX⟩ w _ N (with_v l ⟨c, q, false, zAnsX⟩) hN va vc W (h.keep hW) hW (zAt W) hl)
  have H4 := hideIt (fun W (hW : Below w.heap.size w W) => lis3 l w l.length rfl va vc W ⟨h.keep hW, hW⟩)
  have HN := hideIt hN
  clear hN
  clear h
  by_cases hR : rfsE (l.map SesX.v) (c, q) = 0
  · have hc := (rfs_ok hR).1
    have hlen := chk_six hc
    rw [List.length_map] at hlen
    have hq := last_q (c := c) hc
    rw [← last_v] at hq
    have HX : Hid (begV (l.map SesX.v) (c, q) = if (lastX l c).d = true ∧ q = (lastX l c).q + 1 then (withV (l.map SesX.v) ⟨c, q, false, zAns⟩, 1, zAns, 0)
      else if (lastX l c).d = true ∧ q = (lastX l c).q then (l.map SesX.v, 3, (lastX l c).x.v, 0)
      else if q = (lastX l c).q then (l.map SesX.v, 2, zAns, 0)
      else if q < (lastX l c).q then ([], 0, zAns, 171) else ([], 0, zAns, 172)) := by
      show begV _ _ = _
      unfold begV
      rw [if_pos hR, ← last_v]
      rfl
    rw [hR] at H1
    clear hR hc
    generalize begV (l.map SesX.v) (c, q) = RES at *
    generalize lastX l c = own at *
    obtain ⟨oc, oq, od, ⟨⟨code, num, am, fl⟩, aa, ac, fa, fc⟩⟩ := own
    simp only [sesE, AnsX.am, AnsX.fl, SesX.v, AnsX.cs] at H2 H5 hq HX
    simp only [sesE, zAnsX, zAns, AnsX.am, AnsX.fl, List.length_nil] at H3
    obtain ⟨hq0, hq1⟩ := hq
    go_enter Tryd.func47, Tryd.ntmps47
    go_wp2_with fail
    refine (H1.out _ X0.out.bel).mono ?_
    rintro e w1 ⟨rfl, hb⟩
    dsimp only
    have HG := hideIt (X0.out.keep hb)
    clear hb H1 X0
    obtain ⟨t0, t1, -, -, tz⟩ := two_at HG.out.b0
    obtain ⟨z0, z1, z2, z3, y0, y1, y2, y3, yz⟩ := four_at HG.out.b1
    go_upto_region 4 with fail
    go_wp2_with fail
    refine (H2.out _ HG.out.bel).mono ?_
    rintro e w2 ⟨rfl, hb⟩
    dsimp only
    have HG2 := hideIt ((HG.out.keep hb).keep (below1 w2 (.cells #[.int .i64 oc, .int .i64 oq, .bool od, .int .i64 code, .int .i64 num, .slice aa am.length ac, .slice fa fl.length fc] 133)))
    have HK := hideIt (heap_alloc_new w2 (.cells #[.int .i64 oc, .int .i64 oq, .bool od, .int .i64 code, .int .i64 num, .slice aa am.length ac, .slice fa fl.length fc] 133))
    have lK : w.heap.size + 1 < w2.heap.size := (Array.getElem?_eq_some_iff.1 (HG.out.keep hb).b1).1
    clear t0 t1 tz z0 z1 z2 z3 y0 y1 y2 y3 yz
    clear hb H2 HG
    go_upto_region 5 with fail
    generalize w2.alloc (.cells #[.int .i64 oc, .int .i64 oq, .bool od, .int .i64 code, .int .i64 num, .slice aa am.length ac, .slice fa fl.length fc] 133) = W at *
    generalize w2.heap.size = K at *
    have HG := hideIt HG2.out
    clear HG2
    obtain ⟨t0, t1, -, -, tz⟩ := two_at HG.out.b0
    obtain ⟨z0, z1, z2, z3, y0, y1, y2, y3, yz⟩ := four_at HG.out.b1
    obtain ⟨⟨g0, g1, g2, g3, g4, g5, g6⟩, -, gz⟩ := seven_at HK.out
    have hwq : IntKind.i64.wrap (oq + 1) = oq + 1 := by rw [IntKind.wrap_i64]; omega
    cases od
    · by_cases h1 : q = oq
      · have HE : Hid (RES = (l.map SesX.v, 2, zAns, 0)) := by
          show _ = _
          rw [HX.out, if_neg (by simp), if_neg (by simp), if_pos h1]
        clear HX H3 H5
        subst h1
        go_wp2_with fail
        refine (H4.out _ HG.out.bel).mono ?_
        rintro e w4 ⟨a4, c4, rfl, HO⟩
        dsimp only
        have HG4 := hideIt (HG.out.keep HO.out.2)
        clear t0 t1 tz z0 z1 z2 z3 y0 y1 y2 y3 yz
        clear HG H4
        have HG := hideIt HG4.out
        clear HG4
        obtain ⟨t0, t1, -, -, tz⟩ := two_at HG.out.b0
        obtain ⟨z0, z1, z2, z3, y0, y1, y2, y3, yz⟩ := four_at HG.out.b1
        go_wp2
        have k4 := four_at (HG.out.put zAnsX zCs).1
        exact bodyPost_ret (v := .tuple #[.slice a4 l.length c4, .int .i64 2, .agg #[.int .i64 0, .int .i64 0, .slice none 0 0, .slice none 0 0], .int .i64 0]) (by simp [results, Tryd.results47, go_sem, k4.1, k4.2.1, k4.2.2.1, k4.2.2.2.1]) rfl (by rw [HE.out]; exact back1 (by simp) HG.out HO.out.1)
      · by_cases h2 : q < oq
        · have HE : Hid (RES = ([], 0, zAns, 171)) := by
            show _ = _
            rw [HX.out, if_neg (by simp), if_neg (by simp), if_neg h1, if_pos h2]
          clear HX
          go_wp2
          have k4 := four_at (HG.out.put zAnsX zCs).1
          exact bodyPost_ret (v := .tuple #[.slice none 0 0, .int .i64 0, .agg #[.int .i64 0, .int .i64 0, .slice none 0 0, .slice none 0 0], .int .i64 171]) (by simp [results, Tryd.results47, go_sem, k4.1, k4.2.1, k4.2.2.1, k4.2.2.2.1]) rfl (by rw [HE.out]; exact back0 (ys := []) rfl rfl HG.out (SesOwn.nil _ _))
        · have HE : Hid (RES = ([], 0, zAns, 172)) := by
            show _ = _
            rw [HX.out, if_neg (by simp), if_neg (by simp), if_neg h1, if_neg h2]
          clear HX
          go_wp2
          have k4 := four_at (HG.out.put zAnsX zCs).1
          exact bodyPost_ret (v := .tuple #[.slice none 0 0, .int .i64 0, .agg #[.int .i64 0, .int .i64 0, .slice none 0 0, .slice none 0 0], .int .i64 172]) (by simp [results, Tryd.results47, go_sem, k4.1, k4.2.1, k4.2.2.1, k4.2.2.2.1]) rfl (by rw [HE.out]; exact back0 (ys := []) rfl rfl HG.out (SesOwn.nil _ _))
    · by_cases h0 : q = oq + 1
      · have HE : Hid (RES = (withV (l.map SesX.v) ⟨c, q, false, zAns⟩, 1, zAns, 0)) := by
          show _ = _
          rw [HX.out, if_pos ⟨rfl, h0⟩]
        clear HX H4 H5
        subst h0
        have HL := hideIt hlen
        go_wp2_with fail
        refine (H3.out _ HG.out.bel HL.out).mono ?_
        rintro e w4 ⟨a4, c4, rfl, HO⟩
        dsimp only
        have HG4 := hideIt (HG.out.keep HO.out.2)
        clear t0 t1 tz z0 z1 z2 z3 y0 y1 y2 y3 yz
        clear HG H3
        have HG := hideIt HG4.out
        clear HG4
        obtain ⟨t0, t1, -, -, tz⟩ := two_at HG.out.b0
        obtain ⟨z0, z1, z2, z3, y0, y1, y2, y3, yz⟩ := four_at HG.out.b1
        go_wp2
        have k4 := four_at (HG.out.put zAnsX zCs).1
        exact bodyPost_ret (v := .tuple #[.slice a4 N c4, .int .i64 1, .agg #[.int .i64 0, .int .i64 0, .slice none 0 0, .slice none 0 0], .int .i64 0]) (by simp [results, Tryd.results47, go_sem, k4.1, k4.2.1, k4.2.2.1, k4.2.2.2.1]) rfl (by rw [HE.out]; exact back1 HN.out HG.out HO.out.1)
      · by_cases h1 : q = oq
        · have HE : Hid (RES = (l.map SesX.v, 3, ⟨code, num, am, fl⟩, 0)) := by
            show _ = _
            rw [HX.out, if_neg (by rintro ⟨_, h⟩; exact h0 h), if_pos ⟨rfl, h1⟩]
          clear HX H3
          subst h1
          go_upto_region 8 with fail
          have nK : K ≠ w.heap.size + 1 := by omega
          have nK2 : w.heap.size + 1 ≠ K := by omega
          go_region_held3 (fun W => W.cell? ⟨K, 3, none⟩ = some (.int .i64 code) ∧ W.cell? ⟨K, 4, none⟩ = some (.int .i64 num) ∧ W.cell? ⟨K, 5, none⟩ = some (.slice aa am.length ac) ∧ W.cell? ⟨K, 6, none⟩ = some (.slice fa fl.length fc)) (go_keep) (first | (go_at_call 66; refine (H4.out _ (by first | exact HG.out.bel | exact HG.out.bel.drew)).mono ?_; rintro e w4 ⟨a4, c4, rfl, HO⟩; have HG4 := hideIt (HG.out.keep (by first | exact HO.out.2 | exact (Below.refl _ _).drew.trans HO.out.2)); have HK4 := hideIt ((HO.out.2.block _ gz).trans HK.out); obtain ⟨⟨j0, j1, j2, j3, j4, j5, j6⟩, -, jz⟩ := seven_at HK4.out; clear H4) | (go_at_call 57; refine (H5.out _ HG4.out.bel).mono ?_; rintro e w5 ⟨a5, c5, a6, c6, rfl, HA⟩; have HG5 := hideIt (HG4.out.keep HA.out.2); obtain ⟨⟨i0, i1, i2, i3, i4, i5, i6⟩, -, iz⟩ := seven_at ((HA.out.2.block _ jz).trans HK4.out); obtain ⟨x0, x1, x2, x3, f0, f1, f2, f3, xz⟩ := four_at HG5.out.b1; clear H5))
          go_wp2
          have k4 := four_at (HG5.out.put ⟨⟨code, num, am, fl⟩, a5, c5, a6, c6⟩ rfl).1
          simp only [AnsX.am, AnsX.fl] at k4
          exact bodyPost_ret (v := .tuple #[.slice a4 l.length c4, .int .i64 3, .agg #[.int .i64 code, .int .i64 num, .slice a5 am.length c5, .slice a6 fl.length c6], .int .i64 0]) (by simp [results, Tryd.results47, go_sem, k4.1, k4.2.1, k4.2.2.1, k4.2.2.2.1]) rfl (by
            rw [HE.out]
            exact back2 (x := ⟨⟨code, num, am, fl⟩, a5, c5, a6, c6⟩) (by simp) HG5.out (HO.out.1.keep HA.out.2) rfl (HA.out.1.base HG4.out.bel.size))
        · by_cases h2 : q < oq
          · have HE : Hid (RES = ([], 0, zAns, 171)) := by
              show _ = _
              rw [HX.out, if_neg (by rintro ⟨_, h⟩; exact h0 h), if_neg (by rintro ⟨_, h⟩; exact h1 h), if_neg h1, if_pos h2]
            clear HX
            go_wp2
            have k4 := four_at (HG.out.put zAnsX zCs).1
            exact bodyPost_ret (v := .tuple #[.slice none 0 0, .int .i64 0, .agg #[.int .i64 0, .int .i64 0, .slice none 0 0, .slice none 0 0], .int .i64 171]) (by simp [results, Tryd.results47, go_sem, k4.1, k4.2.1, k4.2.2.1, k4.2.2.2.1]) rfl (by rw [HE.out]; exact back0 (ys := []) rfl rfl HG.out (SesOwn.nil _ _))
          · have HE : Hid (RES = ([], 0, zAns, 172)) := by
              show _ = _
              rw [HX.out, if_neg (by rintro ⟨_, h⟩; exact h0 h), if_neg (by rintro ⟨_, h⟩; exact h1 h), if_neg h1, if_neg h2]
            clear HX
            go_wp2
            have k4 := four_at (HG.out.put zAnsX zCs).1
            exact bodyPost_ret (v := .tuple #[.slice none 0 0, .int .i64 0, .agg #[.int .i64 0, .int .i64 0, .slice none 0 0, .slice none 0 0], .int .i64 172]) (by simp [results, Tryd.results47, go_sem, k4.1, k4.2.1, k4.2.2.1, k4.2.2.2.1]) rfl (by rw [HE.out]; exact back0 (ys := []) rfl rfl HG.out (SesOwn.nil _ _))
  · have HE : Hid (begV (l.map SesX.v) (c, q) = ([], 0, zAns, rfsE (l.map SesX.v) (c, q))) := by
      show begV _ _ = _
      unfold begV
      rw [if_neg hR]
    generalize begV (l.map SesX.v) (c, q) = RES at *
    generalize rfsE (l.map SesX.v) (c, q) = E at *
    clear H2 H3 H4 H5
    go_enter Tryd.func47, Tryd.ntmps47
    go_wp2_with fail
    refine (H1.out _ X0.out.bel).mono ?_
    rintro e w1 ⟨rfl, hb⟩
    dsimp only
    have HG := hideIt (X0.out.keep hb)
    clear hb H1 X0
    obtain ⟨t0, t1, -, -, tz⟩ := two_at HG.out.b0
    obtain ⟨z0, z1, z2, z3, y0, y1, y2, y3, yz⟩ := four_at HG.out.b1
    go_wp2
    have k4 := four_at (HG.out.put zAnsX zCs).1
    exact bodyPost_ret (v := .tuple #[.slice none 0 0, .int .i64 0, .agg #[.int .i64 0, .int .i64 0, .slice none 0 0, .slice none 0 0], .int .i64 E]) (by simp [results, Tryd.results47, go_sem, k4.1, k4.2.1, k4.2.2.1, k4.2.2.2.1]) rfl (by rw [HE.out]; exact back0 (ys := []) rfl rfl HG.out (SesOwn.nil _ _))
end Go.Proofs.YtilinemcmgjiiaaDoor
