/- SessionBegins, walked. -/
import Derived.Test.YtgdgpcheammbpaaDoorEdW
namespace Go.Proofs.YtgdgpcheammbpaaDoor
open Go.RowKit
set_option linter.all false
theorem begE2 {W : World} {v : Value} {vs : List SesV} (h : SE W v vs) (c q : Int) : Calls Tryd.prog 16 #[v, .agg #[.int .i64 c, .int .i64 q]] W fun e w' => ∃ a n cc a1 c1 a2 c2, e = .returned (.tuple #[.slice a n cc, .int .i64 (begV vs (c, q)).2.1, .agg #[.int .i64 (begV vs (c, q)).2.2.1.code, .int .i64 (begV vs (c, q)).2.2.1.num, .slice a1 (begV vs (c, q)).2.2.1.am.length c1, .slice a2 (begV vs (c, q)).2.2.1.fl.length c2], .int .i64 (begV vs (c, q)).2.2.2]) ∧ Hid (∃ ys, ys.map SesX.v = (begV vs (c, q)).1 ∧ SesOwn W.heap.size w' (.slice a n cc) ys ∧ AnsOwn W.heap.size w' ⟨(begV vs (c, q)).2.2.1, a1, c1, a2, c2⟩ ∧ Below W.heap.size W w') := by
  obtain ⟨xs, rfl, hs⟩ := h
  refine (begin_is v xs c q W hs).mono ?_
  rintro e w' ⟨a, cc, ys, ⟨xv, a1, c1, a2, c2⟩, rfl, hy, ho, hx, hx2, hb⟩
  dsimp only at hx
  subst hx
  exact ⟨a, _, cc, a1, c1, a2, c2, rfl, ys, hy, ho, hx2, hb⟩
theorem rBegE2 {W : World} {v : Value} {vs : List SesV} (h : SE W v vs) (c q : Int) : Calls Tryd.prog 19 #[v, .agg #[.int .i64 c, .int .i64 q]] W fun e w' => ∃ a n cc a1 c1 a2 c2, e = .returned (.tuple #[.slice a n cc, .int .i64 (begV vs (c, q)).2.1, .agg #[.int .i64 (begV vs (c, q)).2.2.1.code, .int .i64 (begV vs (c, q)).2.2.1.num, .slice a1 (begV vs (c, q)).2.2.1.am.length c1, .slice a2 (begV vs (c, q)).2.2.1.fl.length c2], .int .i64 (begV vs (c, q)).2.2.2]) ∧ Hid (∃ ys, ys.map SesX.v = (begV vs (c, q)).1 ∧ SesOwn W.heap.size w' (.slice a n cc) ys ∧ AnsOwn W.heap.size w' ⟨(begV vs (c, q)).2.2.1, a1, c1, a2, c2⟩ ∧ Below W.heap.size W w') := by
  obtain ⟨xs, rfl, hs⟩ := h
  refine (rBegin_is v xs c q W hs).mono ?_
  rintro e w' ⟨a, cc, ys, ⟨xv, a1, c1, a2, c2⟩, rfl, hy, ho, hx, hx2, hb⟩
  dsimp only at hx
  subst hx
  exact ⟨a, _, cc, a1, c1, a2, c2, rfl, ys, hy, ho, hx2, hb⟩
theorem chkE1 {W : World} {v : Value} {vs : List SesV} (h : SE W v vs) : Calls Tryd.prog 20 #[v] W fun e w' => e = .returned (.int .i64 (chkE vs)) ∧ Below W.heap.size W w' := by
  obtain ⟨xs, rfl, hs⟩ := h
  exact checkS_is v xs W hs
theorem chkE2 {W : World} {v : Value} {vs : List SesV} (h : SE W v vs) : Calls Tryd.prog 21 #[v] W fun e w' => e = .returned (.int .i64 (chkE vs)) ∧ Below W.heap.size W w' := by
  obtain ⟨xs, rfl, hs⟩ := h
  exact rCheck_is v xs W hs
theorem AnsOwn.rows {B : Nat} {W : World} {x : AnsX} (h : AnsOwn B W x) : AnsRow B W x := ⟨⟨_, h.a⟩, _, h.f⟩
theorem AnsRow.keep {B : Nat} {W W' : World} {x : AnsX} (h : AnsRow B W x) (hb : Below W.heap.size W W') : AnsRow B W' x := by
  obtain ⟨⟨xs, h1⟩, ys, h2⟩ := h
  exact ⟨⟨xs, own_keep h1 hb⟩, ys, own_keep h2 hb⟩
set_option maxHeartbeats 16000000 in
set_option maxRecDepth 100000 in
theorem begins_walk (v : Value) (l : List SesX) (c q : Int) (w : World) (h : Sess w v l) (hF : Forms w) : Calls Tryd.prog 7 #[v, .agg #[.int .i64 c, .int .i64 q]] w fun e w' => e = .returned (.bool true) ∧ Below w.heap.size w w' := by
  have HL := hideIt (fun W (hW : Below w.heap.size w W) => live_is W (hF.keep hW))
  have HS : Hid (∀ W, Below w.heap.size w W → SE W v (l.map SesX.v)) := fun W hW => ⟨l, rfl, h.keep hW⟩
  obtain ⟨va, vc, rfl⟩ := h.row.slice
  have HB0 := hideIt (below1 w (.cells #[.int .i64 c, .int .i64 q] 35))
  have HX0 := hideIt (heap_alloc_new w (.cells #[.int .i64 c, .int .i64 q] 35))
  generalize l.length = vn at *
  clear h hF
  generalize l.map SesX.v = vs at *
  have H1 := hideIt (copE (HS.out _ HB0.out))
  have HC3 := hideIt (fun v' W (hv : SE W v' vs) => begE2 hv c q)
  have HC4 := hideIt (fun W hW => rBegE2 (HS.out W hW) c q)
  have HK1 := hideIt (fun v' W (hv : SE W v' vs) => chkE1 hv)
  have HK2 := hideIt (fun v' W (hv : SE W v' vs) => chkE2 hv)
  have HSA := hideIt (fun W (y z : AnsX) (hy : AnsAt W y) (hz : AnsAt W z) he => sameAns_is y z W hy hz he)
  simp only [AnsX.cs, AnsX.am, AnsX.fl] at HSA
  generalize begV vs (c, q) = RES at *
  generalize chkE vs = ce at *
  obtain ⟨rs, rk, xv, re⟩ := RES
  dsimp only at HC3 HC4
  go_enter Tryd.func7, Tryd.ntmps7
  go_wp2_with fail
  refine H1.out.mono ?_
  rintro e W1 ⟨a1, n1, c1, rfl, HO⟩
  dsimp only
  have B1 := hideIt (below_via HB0.out HO.out.2)
  have X1 := hideIt ((HO.out.2.block _ (by simp)).trans HX0.out)
  have S1 := hideIt HO.out.1
  clear H1 HB0 HX0 HO
  obtain ⟨t0, t1, -, -, tz⟩ := two_at X1.out
  go_wp2_with fail
  refine (HC3.out _ _ S1.out).mono ?_
  rintro e w2 ⟨a2, n2, c2, xa, xc, xfa, xfc, rfl, HO⟩
  dsimp only
  have hb1 := below1 w2 (.cells #[.int .i64 xv.code, .int .i64 xv.num, .slice xa xv.am.length xc, .slice xfa xv.fl.length xfc] 44)
  have D2 : Hid (Below W1.heap.size W1 (w2.alloc (.cells #[.int .i64 xv.code, .int .i64 xv.num, .slice xa xv.am.length xc, .slice xfa xv.fl.length xfc] 44))) := by
    obtain ⟨_, _, _, _, hb⟩ := HO.out
    exact below_via hb hb1
  have O2 : Hid (∃ ys, ys.map SesX.v = rs ∧ SesOwn W1.heap.size (w2.alloc (.cells #[.int .i64 xv.code, .int .i64 xv.num, .slice xa xv.am.length xc, .slice xfa xv.fl.length xfc] 44)) (.slice a2 n2 c2) ys) := by
    obtain ⟨ys, hy, ho, _, _⟩ := HO.out
    exact ⟨ys, hy, ho.keep hb1⟩
  have A2 : Hid (AnsOwn W1.heap.size (w2.alloc (.cells #[.int .i64 xv.code, .int .i64 xv.num, .slice xa xv.am.length xc, .slice xfa xv.fl.length xfc] 44)) ⟨xv, xa, xc, xfa, xfc⟩) := by
    obtain ⟨_, _, _, ha, _⟩ := HO.out
    exact ha.keep hb1
  have SZ : Hid (xv.am.length * 16 ≤ 140737488355328) := A2.out.sa
  have K2 := hideIt (heap_alloc_new w2 (.cells #[.int .i64 xv.code, .int .i64 xv.num, .slice xa xv.am.length xc, .slice xfa xv.fl.length xfc] 44))
  clear hb1 HO HC3 t0 t1 tz
  go_upto_region 3 with fail
  generalize w2.alloc (.cells #[.int .i64 xv.code, .int .i64 xv.num, .slice xa xv.am.length xc, .slice xfa xv.fl.length xfc] 44) = W2 at *
  generalize w2.heap.size = KX at *
  obtain ⟨t0, t1, -, -, tz⟩ := two_at ((D2.out.block _ (Array.getElem?_eq_some_iff.1 X1.out).1).trans X1.out)
  go_wp2_with fail
  refine (HC4.out _ (below_via B1.out D2.out)).mono ?_
  rintro e w3 ⟨a3, n3, c3, ya, yc, yfa, yfc, rfl, HO⟩
  dsimp only
  have hb1 := below1 w3 (.cells #[.int .i64 xv.code, .int .i64 xv.num, .slice ya xv.am.length yc, .slice yfa xv.fl.length yfc] 44)
  have hb3 : Below W2.heap.size W2 (w3.alloc (.cells #[.int .i64 xv.code, .int .i64 xv.num, .slice ya xv.am.length yc, .slice yfa xv.fl.length yfc] 44)) := by
    obtain ⟨_, _, _, _, hb⟩ := HO.out
    exact below_via hb hb1
  have D3 := hideIt (below_via D2.out hb3)
  have O3 : Hid (∃ ys, ys.map SesX.v = rs ∧ SesOwn W1.heap.size (w3.alloc (.cells #[.int .i64 xv.code, .int .i64 xv.num, .slice ya xv.am.length yc, .slice yfa xv.fl.length yfc] 44)) (.slice a2 n2 c2) ys) := by
    obtain ⟨ys, hy, ho⟩ := O2.out
    exact ⟨ys, hy, ho.keep hb3⟩
  have P3 : Hid (SE (w3.alloc (.cells #[.int .i64 xv.code, .int .i64 xv.num, .slice ya xv.am.length yc, .slice yfa xv.fl.length yfc] 44)) (.slice a3 n3 c3) rs) := by
    obtain ⟨ys, hy, ho, _, _⟩ := HO.out
    exact ⟨ys, hy, (ho.keep hb1).at_⟩
  have Y3 : Hid (AnsAt (w3.alloc (.cells #[.int .i64 xv.code, .int .i64 xv.num, .slice ya xv.am.length yc, .slice yfa xv.fl.length yfc] 44)) ⟨xv, ya, yc, yfa, yfc⟩) := by
    obtain ⟨_, _, _, ha, _⟩ := HO.out
    exact (ha.keep hb1).at_
  have A3 := hideIt (A2.out.keep hb3)
  have K3 := hideIt ((hb3.block _ (Array.getElem?_eq_some_iff.1 K2.out).1).trans K2.out)
  have L3 := hideIt (heap_alloc_new w3 (.cells #[.int .i64 xv.code, .int .i64 xv.num, .slice ya xv.am.length yc, .slice yfa xv.fl.length yfc] 44))
  clear hb1 hb3 HO HC4 t0 t1 tz D2 O2 A2 K2
  go_upto_region 4 with fail
  generalize w3.alloc (.cells #[.int .i64 xv.code, .int .i64 xv.num, .slice ya xv.am.length yc, .slice yfa xv.fl.length yfc] 44) = W3 at *
  generalize w3.heap.size = KY at *
  go_wp2_with fail
  refine (HK1.out _ _ (S1.out.keep D3.out)).mono ?_
  rintro e w4 ⟨rfl, hb⟩
  dsimp only
  have E4 := hideIt hb
  clear hb HK1
  go_wp2_with fail
  refine (HK2.out _ _ (HS.out _ (below_via B1.out (below_via D3.out E4.out)))).mono ?_
  rintro e w5 ⟨rfl, hb⟩
  dsimp only
  have E5 := hideIt (below_via E4.out hb)
  clear hb HK2 E4
  go_wp2_with fail
  refine (sameE (SE.keep (W := W3) (by obtain ⟨ys, hy, ho⟩ := O3.out; exact ⟨ys, hy, ho.at_⟩) E5.out) (P3.out.keep E5.out)).mono ?_
  rintro e w6 ⟨rfl, hb⟩
  dsimp only
  have E6 := hideIt (below_via E5.out hb)
  clear hb E5 P3
  obtain ⟨z0, z1, z2, z3, -, -, -, -, yz⟩ := four_at ((E6.out.block _ (Array.getElem?_eq_some_iff.1 K3.out).1).trans K3.out)
  obtain ⟨y0, y1, y2, y3, -, -, -, -, yl⟩ := four_at ((E6.out.block _ (Array.getElem?_eq_some_iff.1 L3.out).1).trans L3.out)
  go_wp2_with fail
  refine (HSA.out _ _ _ (A3.out.at_.keep E6.out) (Y3.out.keep E6.out) rfl).mono ?_
  rintro e w7 ⟨rfl, hb⟩
  dsimp only
  have E7 := hideIt (below_via E6.out hb)
  clear hb E6 z0 z1 z2 z3 yz y0 y1 y2 y3 yl L3 Y3 HSA
  go_wp2_with fail
  refine (sameE (S1.out.keep (below_via D3.out E7.out)) (HS.out _ (below_via B1.out (below_via D3.out E7.out)))).mono ?_
  rintro e w8 ⟨rfl, hb⟩
  dsimp only
  have E8 := hideIt (below_via E7.out hb)
  have D8 := hideIt (below_via D3.out E8.out)
  have O8 : Hid (∃ ys, SesOwn W1.heap.size w8 (.slice a2 n2 c2) ys) := by
    obtain ⟨ys, hy, ho⟩ := O3.out
    exact ⟨ys, ho.keep E8.out⟩
  have R8 := hideIt (A3.out.rows.keep E8.out)
  have K8 := hideIt ((E8.out.block _ (Array.getElem?_eq_some_iff.1 K3.out).1).trans K3.out)
  clear hb E7 E8 O3 A3 K3 D3
  go_wp2_with fail
  refine (spoilE D8.out.size O8.out).mono ?_
  rintro e w9 ⟨rfl, HSP⟩
  dsimp only
  have I9 : Hid (Below W1.heap.size W1 w9 ∧ AnsRow W1.heap.size w9 ⟨xv, xa, xc, xfa, xfc⟩ ∧ w9.heap[KX]? = some (.cells #[.int .i64 xv.code, .int .i64 xv.num, .slice xa xv.am.length xc, .slice xfa xv.fl.length xfc] 44 (0, 0))) :=
    ⟨D8.out.trans HSP.out.bel, HSP.out.kp _ R8.out, HSP.out.ty _ _ _ K8.out (by decide) (by decide) (by decide)⟩
  clear HSP O8 D8 R8 K8
  go_upto_region 8 with fail
  go_loopw [14] (fun x wr => ∃ t : Nat, x = .int .i64 t ∧ t ≤ xv.am.length ∧ Hid (Below W1.heap.size W1 wr ∧ AnsRow W1.heap.size wr ⟨xv, xa, xc, xfa, xfc⟩ ∧ wr.heap[KX]? = some (.cells #[.int .i64 xv.code, .int .i64 xv.num, .slice xa xv.am.length xc, .slice xfa xv.fl.length xfc] 44 (0, 0)))) (fun x _ => xv.am.length - (intOf x).toNat)
  case atStart => exact ⟨0, rfl, Nat.zero_le _, I9⟩
  case round =>
    clear I9
    obtain ⟨t, rfl, ht, HR⟩ := hrel
    obtain ⟨z0, z1, z2, z3, -, -, -, -, yz⟩ := four_at HR.out.2.2
    by_cases hlt : t < xv.am.length
    · have hltI : (t : Int) < (xv.am.length : Int) := by omega
      have ht0 : (0 : Int) ≤ (t : Int) := by omega
      obtain ⟨⟨xs, ho⟩, -⟩ := HR.out.2.1
      obtain ⟨a', c', e', hrow⟩ := row_atG ho 1 (by omega)
      simp only [AnsX.am, Value.slice.injEq, true_and] at e'
      obtain ⟨rfl, rfl⟩ := e'
      obtain ⟨g, off, cur, u, rfl, hgB, hg, hgl, hcl, hfz⟩ := hrow t hlt
      have h63 : xv.am.length * 16 ≤ 140737488355328 := SZ.out
      have hw : IntKind.i64.wrap ((t : Int) + 1) = ((t + 1 : Nat) : Int) := by rw [IntKind.wrap_i64]; omega
      have HN : Hid (Below W1.heap.size W1 (wr.setCell ⟨g, off + t * 2 + 1, none⟩ (.int .i64 (-1))) ∧ AnsRow W1.heap.size (wr.setCell ⟨g, off + t * 2 + 1, none⟩ (.int .i64 (-1))) ⟨xv, some ⟨g, off, none⟩, xc, xfa, xfc⟩ ∧ (wr.setCell ⟨g, off + t * 2 + 1, none⟩ (.int .i64 (-1))).heap[KX]? = some (.cells #[.int .i64 xv.code, .int .i64 xv.num, .slice (some ⟨g, off, none⟩) xv.am.length xc, .slice xfa xv.fl.length xfc] 44 (0, 0))) :=
        ⟨belowSet _ HR.out.1 hgB, HR.out.2.1.s55 hg, ty_set HR.out.2.2 hg (by decide)⟩
      clear HR ho hrow hg hgB h63
      go_wp2
      go_roundw
      case rel => exact ⟨t + 1, by go_num, by omega, HN⟩
      case measure => simp [intOf]; omega
    · have hltI : ¬ (t : Int) < (xv.am.length : Int) := by omega
      have D10 := hideIt HR.out.1
      clear HR
      go_wp2_with fail
      refine (sameE (S1.out.keep D10.out) (HS.out _ (below_via B1.out D10.out))).mono ?_
      rintro e w11 ⟨rfl, hb⟩
      dsimp only
      have HB11 := hideIt (below_via B1.out (below_via D10.out hb))
      clear hb D10
      go_wp2_with fail
      refine (HL.out _ HB11.out).mono ?_
      rintro e w12 ⟨rfl, hb⟩
      dsimp only
      have HB12 := hideIt (below_via HB11.out hb)
      clear hb
      go_wp2
      go_ret
      exact ⟨rfl, HB12.out⟩
end Go.Proofs.YtgdgpcheammbpaaDoor
