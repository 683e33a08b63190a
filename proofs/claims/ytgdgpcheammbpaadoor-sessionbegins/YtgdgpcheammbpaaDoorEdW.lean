/- SessionEnds, walked. -/
import Derived.Test.YtgdgpcheammbpaaDoorREn
import Derived.Test.YtgdgpcheammbpaaDoorSpo
import Derived.Test.YtgdgpcheammbpaaDoorApW
namespace Go.Proofs.YtgdgpcheammbpaaDoor
open Go.RowKit
set_option linter.all false
/-- Sessions in memory, whatever their rows. -/
def SE (W : World) (v : Value) (vs : List SesV) : Prop := ∃ xs, xs.map SesX.v = vs ∧ Sess W v xs
theorem SE.keep {W W' : World} {v : Value} {vs : List SesV} (h : SE W v vs) (hb : Below W.heap.size W W') : SE W' v vs := Sess.keepE h hb
theorem sameE {W : World} {v v' : Value} {vs : List SesV} (h : SE W v vs) (h' : SE W v' vs) : Calls Tryd.prog 17 #[v, v'] W fun e w' => e = .returned (.bool true) ∧ Below W.heap.size W w' := by
  obtain ⟨xs, hx, hs⟩ := h
  obtain ⟨ys, hy, hk⟩ := h'
  exact sameS_is v v' xs ys W hs hk (hx.trans hy.symm)
theorem copE {W : World} {v : Value} {vs : List SesV} (h : SE W v vs) : Calls Tryd.prog 18 #[v] W fun e w' => ∃ a n c, e = .returned (.slice a n c) ∧ Hid (SE w' (.slice a n c) vs ∧ Below W.heap.size W w') := by
  obtain ⟨xs, rfl, hs⟩ := h
  refine (copyS_is v xs W hs).mono ?_
  rintro e w' ⟨a, c, ys, rfl, hy, ho, hb⟩
  exact ⟨a, _, c, rfl, ⟨ys, hy, ho.at_⟩, hb⟩
theorem endE {W : World} {v : Value} {vs : List SesV} (h : SE W v vs) (c q : Int) (xv : AnsV) (a1 a2 : Option Addr) (c1 c2 : Nat) (hx : AnsAt W ⟨xv, a1, c1, a2, c2⟩) : Calls Tryd.prog 15 #[v, .agg #[.int .i64 c, .int .i64 q], .agg #[.int .i64 xv.code, .int .i64 xv.num, .slice a1 xv.am.length c1, .slice a2 xv.fl.length c2]] W fun e w' => ∃ a n cc, e = .returned (.tuple #[.slice a n cc, .int .i64 (endV vs (c, q) xv).2]) ∧ Hid (∃ ys, ys.map SesX.v = (endV vs (c, q) xv).1 ∧ SesOwn W.heap.size w' (.slice a n cc) ys ∧ Below W.heap.size W w') := by
  obtain ⟨xs, rfl, hs⟩ := h
  refine (end_is v xs c q ⟨xv, a1, c1, a2, c2⟩ W hs hx).mono ?_
  rintro e w' ⟨a, cc, ys, rfl, hy, ho, hb⟩
  exact ⟨a, _, cc, rfl, ys, hy, ho, hb⟩
theorem rEndE {W : World} {v : Value} {vs : List SesV} (h : SE W v vs) (c q : Int) (xv : AnsV) (a1 a2 : Option Addr) (c1 c2 : Nat) (hx : AnsAt W ⟨xv, a1, c1, a2, c2⟩) : Calls Tryd.prog 25 #[v, .agg #[.int .i64 c, .int .i64 q], .agg #[.int .i64 xv.code, .int .i64 xv.num, .slice a1 xv.am.length c1, .slice a2 xv.fl.length c2]] W fun e w' => ∃ a n cc, e = .returned (.tuple #[.slice a n cc, .int .i64 (endV vs (c, q) xv).2]) ∧ Hid (∃ ys, ys.map SesX.v = (endV vs (c, q) xv).1 ∧ SesOwn W.heap.size w' (.slice a n cc) ys ∧ Below W.heap.size W w') := by
  obtain ⟨xs, rfl, hs⟩ := h
  refine (rEnd_is v xs c q ⟨xv, a1, c1, a2, c2⟩ W hs hx).mono ?_
  rintro e w' ⟨a, cc, ys, rfl, hy, ho, hb⟩
  exact ⟨a, _, cc, rfl, ys, hy, ho, hb⟩
theorem spoilE {W : World} {B : Nat} {v : Value} (hB : B ≤ W.heap.size) (h : ∃ ys, SesOwn B W v ys) : Calls Tryd.prog 23 #[v] W fun e w' => e = .returned (.tuple #[]) ∧ Hid (Spoiled B W w') := by
  obtain ⟨ys, hy⟩ := h
  exact spoil_is v ys W B hB hy
set_option maxHeartbeats 16000000 in
set_option maxRecDepth 100000 in
theorem ends_walk (v : Value) (l : List SesX) (c q : Int) (x : AnsX) (w : World) (h : Sess w v l) (hx : AnsAt w x) (hF : Forms w) : Calls Tryd.prog 8 #[v, .agg #[.int .i64 c, .int .i64 q], .agg x.cs] w fun e w' => e = .returned (.bool true) ∧ Below w.heap.size w w' := by
  have HL := hideIt (fun W (hW : Below w.heap.size w W) => live_is W (hF.keep hW))
  have HS : Hid (∀ W, Below w.heap.size w W → SE W v (l.map SesX.v)) := fun W hW => ⟨l, rfl, h.keep hW⟩
  obtain ⟨va, vc, rfl⟩ := h.row.slice
  have HXA := hideIt (fun W (hW : Below w.heap.size w W) => hx.keep hW)
  have X0 := hideIt (EB.first w c q x)
  generalize l.length = vn at *
  clear h hF hx
  generalize l.map SesX.v = vs at *
  obtain ⟨xv, xaa, xac, xfa, xfc⟩ := x
  simp only [AnsX.cs, AnsX.am, AnsX.fl] at *
  have H1 := hideIt (copE (HS.out _ X0.out.bel))
  have HC2 := hideIt (fun W hW => copA3 _ W (HXA.out W hW))
  have HC3 := hideIt (fun v' W (hv : SE W v' vs) a1 a2 c1 c2 ha => endE hv c q xv a1 a2 c1 c2 ha)
  have HC4 := hideIt (fun W hW => rEndE (HS.out W hW) c q xv xaa xfa xac xfc (HXA.out W hW))
  have HSA := hideIt (fun W (y z : AnsX) (hy : AnsAt W y) (hz : AnsAt W z) he => sameAns_is y z W hy hz he)
  simp only [AnsX.cs, AnsX.am, AnsX.fl] at HC2 HSA
  generalize endV vs (c, q) xv = RES at *
  go_enter Tryd.func8, Tryd.ntmps8
  go_wp2_with fail
  refine H1.out.mono ?_
  rintro e w1 ⟨a1, n1, c1, rfl, HO⟩
  dsimp only
  have X1 := hideIt (X0.out.keep HO.out.2)
  have S1 := hideIt HO.out.1
  clear H1 X0 HO
  obtain ⟨t0, t1, -, -, tz⟩ := two_at X1.out.b0
  obtain ⟨z0, z1, z2, z3, -, -, -, -, yz⟩ := four_at X1.out.b1
  dsimp only at z0 z1 z2 z3
  go_wp2_with fail
  refine (HC2.out _ X1.out.bel).mono ?_
  rintro e w2 ⟨ya, yc, yfa, yfc, rfl, HA⟩
  dsimp only
  have hb2 := below_via HA.out.2 (below1 w2 (.cells #[.int .i64 xv.code, .int .i64 xv.num, .slice ya xv.am.length yc, .slice yfa xv.fl.length yfc] 44))
  have X2 := hideIt (X1.out.keep hb2)
  have S2 := hideIt (S1.out.keep hb2)
  have Y2 := hideIt (HA.out.1.at_.keep (below1 w2 (.cells #[.int .i64 xv.code, .int .i64 xv.num, .slice ya xv.am.length yc, .slice yfa xv.fl.length yfc] 44)))
  have K2 := hideIt (heap_alloc_new w2 (.cells #[.int .i64 xv.code, .int .i64 xv.num, .slice ya xv.am.length yc, .slice yfa xv.fl.length yfc] 44))
  clear hb2 HA X1 S1 t0 t1 tz z0 z1 z2 z3 yz HC2
  go_upto_region 3 with fail
  generalize w2.alloc (.cells #[.int .i64 xv.code, .int .i64 xv.num, .slice ya xv.am.length yc, .slice yfa xv.fl.length yfc] 44) = W1 at *
  generalize w2.heap.size = KY at *
  obtain ⟨t0, t1, -, -, tz⟩ := two_at X2.out.b0
  obtain ⟨y0, y1, y2, y3, -, -, -, -, yl⟩ := four_at K2.out
  go_wp2_with fail
  refine (HC3.out _ _ S2.out _ _ _ _ Y2.out).mono ?_
  rintro e w3 ⟨a3, n3, c3, rfl, HO3⟩
  dsimp only
  have D3 : Hid (Below W1.heap.size W1 w3) := by
    obtain ⟨_, _, _, hb⟩ := HO3.out
    exact hb
  have O3 : Hid (∃ ys, ys.map SesX.v = RES.1 ∧ SesOwn W1.heap.size w3 (.slice a3 n3 c3) ys) := by
    obtain ⟨ys, hy, ho, _⟩ := HO3.out
    exact ⟨ys, hy, ho⟩
  clear HO3 HC3 t0 t1 tz y0 y1 y2 y3 yl
  have X3 := hideIt (X2.out.keep D3.out)
  obtain ⟨t0, t1, -, -, tz⟩ := two_at X3.out.b0
  obtain ⟨z0, z1, z2, z3, -, -, -, -, yz⟩ := four_at X3.out.b1
  dsimp only at z0 z1 z2 z3
  go_wp2_with fail
  refine (HC4.out _ X3.out.bel).mono ?_
  rintro e w4 ⟨a4, n4, c4, rfl, HO4⟩
  dsimp only
  have hb4 : Below w3.heap.size w3 w4 := by
    obtain ⟨_, _, _, hb⟩ := HO4.out
    exact hb
  have D4 := hideIt (below_via D3.out hb4)
  have O4 : Hid (∃ ys, ys.map SesX.v = RES.1 ∧ SesOwn W1.heap.size w4 (.slice a3 n3 c3) ys) := by
    obtain ⟨ys, hy, ho⟩ := O3.out
    exact ⟨ys, hy, ho.keep hb4⟩
  have P4 : Hid (SE w4 (.slice a4 n4 c4) RES.1) := by
    obtain ⟨ys, hy, ho, _⟩ := HO4.out
    exact ⟨ys, hy, ho.at_⟩
  clear HO4 HC4 t0 t1 tz z0 z1 z2 z3 yz D3 O3 hb4 X3
  go_wp2_with fail
  refine (sameE (SE.keep (W := w4) (by obtain ⟨ys, hy, ho⟩ := O4.out; exact ⟨ys, hy, ho.at_⟩) (Below.refl _ _)) P4.out).mono ?_
  rintro e w5 ⟨rfl, hb⟩
  dsimp only
  have D5 := hideIt (below_via D4.out hb)
  have O5 : Hid (∃ ys, SesOwn W1.heap.size w5 (.slice a3 n3 c3) ys) := by
    obtain ⟨ys, hy, ho⟩ := O4.out
    exact ⟨ys, ho.keep hb⟩
  clear hb D4 O4 P4
  go_wp2_with fail
  refine (sameE (S2.out.keep D5.out) (HS.out _ (X2.out.keep D5.out).bel)).mono ?_
  rintro e w6 ⟨rfl, hb⟩
  dsimp only
  have D6 := hideIt (below_via D5.out hb)
  have O6 : Hid (∃ ys, SesOwn W1.heap.size w6 (.slice a3 n3 c3) ys) := by
    obtain ⟨ys, ho⟩ := O5.out
    exact ⟨ys, ho.keep hb⟩
  clear hb D5 O5
  go_wp2_with fail
  refine (spoilE D6.out.size O6.out).mono ?_
  rintro e w7 ⟨rfl, HSP⟩
  dsimp only
  have D7 := hideIt (D6.out.trans HSP.out.bel)
  clear HSP O6 D6
  go_wp2_with fail
  refine (sameE (S2.out.keep D7.out) (HS.out _ (X2.out.keep D7.out).bel)).mono ?_
  rintro e w8 ⟨rfl, hb⟩
  dsimp only
  have D8 := hideIt (below_via D7.out hb)
  clear hb D7
  have X8 := hideIt (X2.out.keep D8.out)
  obtain ⟨z0, z1, z2, z3, -, -, -, -, yz⟩ := four_at X8.out.b1
  dsimp only at z0 z1 z2 z3
  obtain ⟨y0, y1, y2, y3, -, -, -, -, yl⟩ := four_at ((D8.out.block _ (Array.getElem?_eq_some_iff.1 K2.out).1).trans K2.out)
  go_wp2_with fail
  refine (HSA.out _ _ _ (HXA.out _ X8.out.bel) (Y2.out.keep D8.out) rfl).mono ?_
  rintro e w9 ⟨rfl, hb⟩
  dsimp only
  have HB9 := hideIt (below_via X8.out.bel hb)
  clear hb X8 D8 HSA
  go_wp2_with fail
  refine (HL.out _ HB9.out).mono ?_
  rintro e w10 ⟨rfl, hb⟩
  dsimp only
  have HB10 := hideIt (below_via HB9.out hb)
  clear hb
  go_wp2
  go_ret
  exact ⟨rfl, HB10.out⟩
end Go.Proofs.YtgdgpcheammbpaaDoor
