/- Texts of my own, laid together. -/
import Derived.Test.YtiinigifjdpicaaGreatDoorMe10
import Derived.Test.YtiinigifjdpicaaGreatDoorMe09
import Derived.Test.YtiinigifjdpicaaGreatDoorMe08
import Derived.Deep.RegionLaw
namespace Go.Proofs.YtiinigifjdpicaaGreatDoor
open Go.RowKit Go.Maps
set_option linter.all false
set_option maxHeartbeats 8000000 in
set_option maxRecDepth 100000 in
theorem un1_is (mb c : Nat) (f : Cls) (xi xa xp xl yi ya yp yl p n : Int) (KO KP : Nat) (w : World) (h : CM w mb c f) (ho : w.heap[KO]? = some (.cells #[.map (some mb)] 183 (0, 0))) (hpp : w.heap[KP]? = some (.cells #[.int .i64 p] 3 (0, 0))) (hc : c ≤ 1000) (hx : 1 ≤ xa ∧ xa ≤ 8) (hy : 1 ≤ ya ∧ ya ≤ 8) (hn : 0 ≤ n ∧ n ≤ 1000000) (hp : 0 ≤ p ∧ p ≤ 1000000) (hxp : 0 ≤ xp ∧ xp ≤ 1000000) (hf : ∀ x a, 0 ≤ cg f x a ∧ cg f x a ≤ 4000000000000000000) : Calls Tryz.prog 122 #[.agg #[.int .i64 xi, .int .i64 xa, .int .i64 xp, .int .i64 xl], .agg #[.int .i64 yi, .int .i64 ya, .int .i64 yp, .int .i64 yl], .int .i64 n, .pointer (some ⟨KO, 0, none⟩), .pointer (some ⟨KP, 0, none⟩)] w fun e w' => e = .returned (.agg #[.int .i64 xa, .int .i64 ya, .int .i64 p, .int .i64 n]) ∧ CM w' mb (c + 3) (stlC f xa xp ya p n) ∧ Out (fun k => k = mb) w w' := by
 obtain ⟨k1, k2, k3, k4⟩ := three_heap w (.cells #[.int .i64 xi, .int .i64 xa, .int .i64 xp, .int .i64 xl] 115) (.cells #[.int .i64 yi, .int .i64 ya, .int .i64 yp, .int .i64 yl] 115) (.cells #[.int .i64 0, .int .i64 0, .int .i64 0, .int .i64 0] 106);have hb3 := below3 w (.cells #[.int .i64 xi, .int .i64 xa, .int .i64 xp, .int .i64 xl] 115) (.cells #[.int .i64 yi, .int .i64 ya, .int .i64 yp, .int .i64 yl] 115) (.cells #[.int .i64 0, .int .i64 0, .int .i64 0, .int .i64 0] 106);have hlt := h.lt;have lO := (Array.getElem?_eq_some_iff.1 ho).1;have lP := (Array.getElem?_eq_some_iff.1 hpp).1;have nO : KO ≠ mb := by
  rintro rfl;obtain ⟨n', D, -, ⟨es, clock, hb, -⟩, -⟩ := h;rw [hb] at ho;cases ho
 have nP : KP ≠ mb := by
  rintro rfl;obtain ⟨n', D, -, ⟨es, clock, hb, -⟩, -⟩ := h;rw [hb] at hpp;cases hpp
 have HST := hideIt (aSettle_is mb c f xi xa xp xl yi ya yp yl p n _ (h.keep hb3) hc hx hy hn hp hxp hf);have HO := hideIt ((hb3.block _ lO).trans ho);have HP := hideIt ((hb3.block _ lP).trans hpp);have HB3 := hideIt hb3;have K1 := hideIt k1;have K2 := hideIt k2;have K3 := hideIt k3;clear k1 k2 k3 hb3 ho hpp h
 go_enter Tryz.func122, Tryz.ntmps122
 go_upto_region 1 with fail
 generalize ((w.alloc (.cells #[.int .i64 xi, .int .i64 xa, .int .i64 xp, .int .i64 xl] 115)).alloc (.cells #[.int .i64 yi, .int .i64 ya, .int .i64 yp, .int .i64 yl] 115)).alloc (.cells #[.int .i64 0, .int .i64 0, .int .i64 0, .int .i64 0] 106) = W0 at *;have o0 : W0.cell? ⟨KO, 0, none⟩ = some (.map (some mb)) := by rw [cell_at HO.out]; rfl
 have oz : KO < W0.heap.size := (Array.getElem?_eq_some_iff.1 HO.out).1;have p0 : W0.cell? ⟨KP, 0, none⟩ = some (.int .i64 p) := by rw [cell_at HP.out]; rfl
 have pz : KP < W0.heap.size := (Array.getElem?_eq_some_iff.1 HP.out).1;obtain ⟨⟨a0, a1, a2, a3⟩, -, az⟩ := four_at5 K1.out;obtain ⟨⟨b0, b1, b2, b3⟩, -, bz⟩ := four_at5 K2.out
 go_wp2_with fail
 refine HST.out.mono ?_;rintro e w2 ⟨rfl, hM, hO⟩;dsimp only;have M2 := hideIt hM;have O2 := hideIt hO;have k1 := (hO.block w.heap.size (by omega) (by omega)).trans K1.out;have k2 := (hO.block (w.heap.size + 1) (by omega) (by omega)).trans K2.out;have k3 := (hO.block (w.heap.size + 2) (by omega) (by omega)).trans K3.out;have kp := (hO.block KP pz nP).trans HP.out;clear hM hO o0 oz p0 pz a0 a1 a2 a3 az b0 b1 b2 b3 bz HST HO HP K1 K2 K3;obtain ⟨⟨a0, a1, a2, a3⟩, -, az⟩ := four_at5 k1;obtain ⟨⟨b0, b1, b2, b3⟩, -, bz⟩ := four_at5 k2;obtain ⟨⟨d0, d1, d2, d3⟩, df, dz⟩ := four_at5 k3;have p0 : w2.cell? ⟨KP, 0, none⟩ = some (.int .i64 p) := by rw [cell_at kp]; rfl
 have pz : KP < w2.heap.size := (Array.getElem?_eq_some_iff.1 kp).1;have PT := hideIt (put4 w2 (w.heap.size + 2) 106 (.int .i64 xa) (.int .i64 ya) (.int .i64 p) (.int .i64 n) k3);have FN : Hid (CM ((((w2.setCell ⟨w.heap.size + 2, 0, none⟩ (.int .i64 xa)).setCell ⟨w.heap.size + 2, 1, none⟩ (.int .i64 ya)).setCell ⟨w.heap.size + 2, 2, none⟩ (.int .i64 p)).setCell ⟨w.heap.size + 2, 3, none⟩ (.int .i64 n)) mb (c + 3) (stlC f xa xp ya p n) ∧ Out (fun k => k = mb) w ((((w2.setCell ⟨w.heap.size + 2, 0, none⟩ (.int .i64 xa)).setCell ⟨w.heap.size + 2, 1, none⟩ (.int .i64 ya)).setCell ⟨w.heap.size + 2, 2, none⟩ (.int .i64 p)).setCell ⟨w.heap.size + 2, 3, none⟩ (.int .i64 n))) := by
  have hne : mb ≠ w.heap.size + 2 := by omega
  refine ⟨M2.out.block (setOther _ (setOther _ (setOther _ (setOther _ rfl hne) hne) hne) hne), ?_⟩;have h1 : Out (fun k => k = mb) w w2 := (Out.ofBelow HB3.out).trans O2.out (fun _ _ h => h);have hs : ∀ (W : World) (j : Nat) (v : Value), Out (fun k => k = mb) w W → Out (fun k => k = mb) w (W.setCell ⟨w.heap.size + 2, j, none⟩ v) := fun W j v hW => hW.trans (Out.ofSet (F := fun k => k = w.heap.size + 2) W ⟨w.heap.size + 2, j, none⟩ v rfl) (fun i hi e => by omega)
  exact hs _ _ _ (hs _ _ _ (hs _ _ _ (hs _ _ _ h1)))
 clear M2 O2 HB3;go_wp2
 revert PT FN
 generalize (World.setCell _ ⟨w.heap.size + 2, 3, none⟩ _) = WF;intro PT FN;exact bodyPost_ret (v := .agg #[.int .i64 xa, .int .i64 ya, .int .i64 p, .int .i64 n]) (by simp [results, Tryz.results122, go_sem, cell_at PT.out]) rfl ⟨rfl, FN.out⟩
def zLn : LaneV := ⟨false, 0, [], [], []⟩
def calR (L : LaneV) : LaneV × Int := if rfE L false = 0 then (⟨true, L.next, L.bids, L.asks, L.owed⟩, 0) else (zLn, rfE L false)
def CaB (X : LaneV × Int) (w : World) (e : Ending) (w' : World) : Prop := ∃ b a o, e = .returned (.tuple #[laneV X.1 b a o, .int .i64 X.2]) ∧ w'.ownsRow w.heap.size 115 4 b X.1.bids.length (celC ordE X.1.bids) ∧ w'.ownsRow w.heap.size 115 4 a X.1.asks.length (celC ordE X.1.asks) ∧ w'.ownsRow w.heap.size 61 3 o X.1.owed.length (celC oweE X.1.owed) ∧ Below w.heap.size w w'
set_option maxHeartbeats 16000000 in
set_option maxRecDepth 100000 in
theorem call_is (L : LaneV) (b a o : Value) (w : World) (h : Lan w L b a o) : Calls Tryz.prog 81 #[laneV L b a o] w (CaB (calR L) w) := by
  have X0 := hideIt (CB.first w L b a o);have HC := hideIt (aRefused_is L b a o false _ (h.keep X0.out.bel));have HCB := hideIt (fun W (hW : Below w.heap.size w W) => cloneO_is b L.bids W (h.keep hW).bids);have HCA := hideIt (fun W (hW : Below w.heap.size w W) => cloneO_is a L.asks W (h.keep hW).asks);have HCO := hideIt (fun W (hW : Below w.heap.size w W) => cloneW_is o L.owed W (h.keep hW).owed);obtain ⟨ba, bc, rfl⟩ := h.bids.slice;obtain ⟨aa, ac, rfl⟩ := h.asks.slice;obtain ⟨oa, oc, rfl⟩ := h.owed.slice;clear h
  by_cases h0 : rfE L false = 0
  · have HR : Hid (calR L = (⟨true, L.next, L.bids, L.asks, L.owed⟩, 0)) := by show _ = _; unfold calR; rw [if_pos h0]
    rw [h0] at HC;generalize calR L = RX at *;unfold laneV laneA at *;obtain ⟨cl, nx, bids, asks, owed⟩ := L;simp only at *;clear h0
    go_enter Tryz.func81, Tryz.ntmps81
    go_wp2_with fail
    refine HC.out.mono ?_;rintro e w1 ⟨rfl, hb⟩;dsimp only
    · have X1 := hideIt (X0.out.keep hb)
      clear hb X0 HC;obtain ⟨x0, x1, x2, x3, x4⟩ := X1.out.cells;obtain ⟨⟨r0, r1, r2, r3, r4⟩, rf, rl⟩ := five5_at X1.out.res;simp only at x0 x1 x2 x3 x4;have z2 : w.heap.size < w1.heap.size := by have := X1.out.size; omega
      have HB2 : Hid (∀ W, Below w1.heap.size w1 W → Calls Tryz.prog 72 #[.slice ba bids.length bc] W fun e w' => ∃ q k, e = .returned (.slice q bids.length k) ∧ Hid (w'.ownsRow (w.heap.size + 2) 115 4 (.slice q bids.length k) bids.length (celC ordE bids) ∧ Below W.heap.size W w') ∧ Hid (Below w1.heap.size w1 w') ∧ (w'.cell? ⟨w.heap.size, 1, none⟩ = some (.int .i64 nx) ∧ w'.cell? ⟨w.heap.size, 2, none⟩ = some (.slice ba bids.length bc) ∧ w'.cell? ⟨w.heap.size, 3, none⟩ = some (.slice aa asks.length ac) ∧ w'.cell? ⟨w.heap.size, 4, none⟩ = some (.slice oa owed.length oc)) ∧ w.heap.size < w'.heap.size ∧ (w'.cell? ⟨w.heap.size + 1, 0, none⟩ = some (.bool false) ∧ w'.cell? ⟨w.heap.size + 1, 1, none⟩ = some (.int .i64 0) ∧ w'.cell? ⟨w.heap.size + 1, 2, none⟩ = some (.slice none 0 0) ∧ w'.cell? ⟨w.heap.size + 1, 3, none⟩ = some (.slice none 0 0) ∧ w'.cell? ⟨w.heap.size + 1, 4, none⟩ = some (.slice none 0 0)) ∧ (∀ j, w'.frozen? ⟨w.heap.size + 1, j, none⟩ = false) ∧ w.heap.size + 1 < w'.heap.size) := by
        intro W hW;have hX := X1.out.keep hW;refine (HCB.out W hX.bel).mono ?_;rintro e w' ⟨v', rfl, ho, hb⟩;obtain ⟨q, k, rfl⟩ := own_len ho;have hX' := hX.keep hb;obtain ⟨-, y1, y2, y3, y4⟩ := hX'.cells;obtain ⟨⟨s0, s1, s2, s3, s4⟩, sf, sz⟩ := five5_at hX'.res
        exact ⟨q, k, rfl, ⟨own_base ho hX.size, hb⟩, below_via hW hb, ⟨y1, y2, y3, y4⟩, by have := hX'.size; omega, ⟨s0, s1, s2, s3, s4⟩, sf, sz⟩
      have HA2 : Hid (∀ W, Below w1.heap.size w1 W → Calls Tryz.prog 72 #[.slice aa asks.length ac] W fun e w' => ∃ q k, e = .returned (.slice q asks.length k) ∧ Hid (w'.ownsRow (w.heap.size + 2) 115 4 (.slice q asks.length k) asks.length (celC ordE asks) ∧ Below W.heap.size W w') ∧ Hid (Below w1.heap.size w1 w') ∧ (w'.cell? ⟨w.heap.size, 1, none⟩ = some (.int .i64 nx) ∧ w'.cell? ⟨w.heap.size, 2, none⟩ = some (.slice ba bids.length bc) ∧ w'.cell? ⟨w.heap.size, 3, none⟩ = some (.slice aa asks.length ac) ∧ w'.cell? ⟨w.heap.size, 4, none⟩ = some (.slice oa owed.length oc)) ∧ w.heap.size < w'.heap.size ∧ (w'.cell? ⟨w.heap.size + 1, 0, none⟩ = some (.bool false) ∧ w'.cell? ⟨w.heap.size + 1, 1, none⟩ = some (.int .i64 0) ∧ w'.cell? ⟨w.heap.size + 1, 2, none⟩ = some (.slice none 0 0) ∧ w'.cell? ⟨w.heap.size + 1, 3, none⟩ = some (.slice none 0 0) ∧ w'.cell? ⟨w.heap.size + 1, 4, none⟩ = some (.slice none 0 0)) ∧ (∀ j, w'.frozen? ⟨w.heap.size + 1, j, none⟩ = false) ∧ w.heap.size + 1 < w'.heap.size) := by
        intro W hW;have hX := X1.out.keep hW;refine (HCA.out W hX.bel).mono ?_;rintro e w' ⟨v', rfl, ho, hb⟩;obtain ⟨q, k, rfl⟩ := own_len ho;have hX' := hX.keep hb;obtain ⟨-, y1, y2, y3, y4⟩ := hX'.cells;obtain ⟨⟨s0, s1, s2, s3, s4⟩, sf, sz⟩ := five5_at hX'.res
        exact ⟨q, k, rfl, ⟨own_base ho hX.size, hb⟩, below_via hW hb, ⟨y1, y2, y3, y4⟩, by have := hX'.size; omega, ⟨s0, s1, s2, s3, s4⟩, sf, sz⟩
      have HO2 : Hid (∀ W, Below w1.heap.size w1 W → Calls Tryz.prog 73 #[.slice oa owed.length oc] W fun e w' => ∃ q k, e = .returned (.slice q owed.length k) ∧ Hid (w'.ownsRow (w.heap.size + 2) 61 3 (.slice q owed.length k) owed.length (celC oweE owed) ∧ Below W.heap.size W w') ∧ Hid (Below w1.heap.size w1 w') ∧ (w'.cell? ⟨w.heap.size, 1, none⟩ = some (.int .i64 nx) ∧ w'.cell? ⟨w.heap.size, 2, none⟩ = some (.slice ba bids.length bc) ∧ w'.cell? ⟨w.heap.size, 3, none⟩ = some (.slice aa asks.length ac) ∧ w'.cell? ⟨w.heap.size, 4, none⟩ = some (.slice oa owed.length oc)) ∧ w.heap.size < w'.heap.size ∧ (w'.cell? ⟨w.heap.size + 1, 0, none⟩ = some (.bool false) ∧ w'.cell? ⟨w.heap.size + 1, 1, none⟩ = some (.int .i64 0) ∧ w'.cell? ⟨w.heap.size + 1, 2, none⟩ = some (.slice none 0 0) ∧ w'.cell? ⟨w.heap.size + 1, 3, none⟩ = some (.slice none 0 0) ∧ w'.cell? ⟨w.heap.size + 1, 4, none⟩ = some (.slice none 0 0)) ∧ (∀ j, w'.frozen? ⟨w.heap.size + 1, j, none⟩ = false) ∧ w.heap.size + 1 < w'.heap.size) := by
        intro W hW;have hX := X1.out.keep hW;refine (HCO.out W hX.bel).mono ?_;rintro e w' ⟨v', rfl, ho, hb⟩;obtain ⟨q, k, rfl⟩ := own_len ho;have hX' := hX.keep hb;obtain ⟨-, y1, y2, y3, y4⟩ := hX'.cells;obtain ⟨⟨s0, s1, s2, s3, s4⟩, sf, sz⟩ := five5_at hX'.res
        exact ⟨q, k, rfl, ⟨own_base ho hX.size, hb⟩, below_via hW hb, ⟨y1, y2, y3, y4⟩, by have := hX'.size; omega, ⟨s0, s1, s2, s3, s4⟩, sf, sz⟩
      clear HCB HCA HCO;have nr : w.heap.size ≠ w.heap.size + 1 := by omega
      clear x0
      go_upto_region 4 with fail
      go_region_held3 (fun W => W.cell? ⟨w.heap.size, 1, none⟩ = some (.int .i64 nx) ∧ W.cell? ⟨w.heap.size, 2, none⟩ = some (.slice ba bids.length bc) ∧ W.cell? ⟨w.heap.size, 3, none⟩ = some (.slice aa asks.length ac) ∧ W.cell? ⟨w.heap.size, 4, none⟩ = some (.slice oa owed.length oc)) (go_keep) (first | (go_at_call 72; refine (HB2.out _ (by first | exact Below.refl _ _ | exact (Below.refl _ _).drew | exact HWA.out | exact HWO.out)).mono ?_; rintro e wB ⟨qB, mB, rfl, HQB, HWB, ⟨i1B, i2B, i3B, i4B⟩, izB, ⟨s0B, s1B, s2B, s3B, s4B⟩, sfB, szB⟩; clear HB2) | (go_at_call 72; refine (HA2.out _ (by first | exact Below.refl _ _ | exact (Below.refl _ _).drew | exact HWB.out | exact HWO.out)).mono ?_; rintro e wA ⟨qA, mA, rfl, HQA, HWA, ⟨i1A, i2A, i3A, i4A⟩, izA, ⟨s0A, s1A, s2A, s3A, s4A⟩, sfA, szA⟩; clear HA2) | (go_at_call 73; refine (HO2.out _ (by first | exact Below.refl _ _ | exact (Below.refl _ _).drew | exact HWA.out | exact HWB.out)).mono ?_; rintro e wO ⟨qO, mO, rfl, HQO, HWO, ⟨i1O, i2O, i3O, i4O⟩, izO, ⟨s0O, s1O, s2O, s3O, s4O⟩, sfO, szO⟩; clear HO2))
      all_goals
        first
        | (have XF := hideIt (X1.out.keep HWO.out)
           have HPT := hideIt (XF.out.put (.bool true) (.int .i64 nx) (.slice qB bids.length mB) (.slice qA asks.length mA) (.slice qO owed.length mO));have HRW := hideIt (And.intro (own_five (own_keep (own_keep HQB.out.1 HQA.out.2) HQO.out.2) XF.out.res (by decide) (.bool true) (.int .i64 nx) (.slice qB bids.length mB) (.slice qA asks.length mA) (.slice qO owed.length mO)) (And.intro (own_five (own_keep HQA.out.1 HQO.out.2) XF.out.res (by decide) (.bool true) (.int .i64 nx) (.slice qB bids.length mB) (.slice qA asks.length mA) (.slice qO owed.length mO)) (own_five HQO.out.1 XF.out.res (by decide) (.bool true) (.int .i64 nx) (.slice qB bids.length mB) (.slice qA asks.length mA) (.slice qO owed.length mO))));clear XF X1 HQB HQA HQO;go_wp2
           revert HPT HRW
           generalize (World.setCell _ ⟨w.heap.size + 1, 4, none⟩ _) = WF;intro HPT HRW;exact bodyPost_ret (v := .tuple #[.agg #[.bool true, .int .i64 nx, .slice qB bids.length mB, .slice qA asks.length mA, .slice qO owed.length mO], .int .i64 0]) (by simp [results, Tryz.results81, go_sem, cell_at HPT.out.1, laneA]) rfl (by unfold CaB; rw [HR.out]; exact ⟨_, _, _, rfl, own_base HRW.out.1 (by omega), own_base HRW.out.2.1 (by omega), own_base HRW.out.2.2 (by omega), by first | exact HPT.out.2 | exact HPT.out.2.drew⟩))
        | (have XF := hideIt (X1.out.keep HWA.out)
           have HPT := hideIt (XF.out.put (.bool true) (.int .i64 nx) (.slice qB bids.length mB) (.slice qA asks.length mA) (.slice qO owed.length mO));have HRW := hideIt (And.intro (own_five (own_keep (own_keep HQB.out.1 HQO.out.2) HQA.out.2) XF.out.res (by decide) (.bool true) (.int .i64 nx) (.slice qB bids.length mB) (.slice qA asks.length mA) (.slice qO owed.length mO)) (And.intro (own_five HQA.out.1 XF.out.res (by decide) (.bool true) (.int .i64 nx) (.slice qB bids.length mB) (.slice qA asks.length mA) (.slice qO owed.length mO)) (own_five (own_keep HQO.out.1 HQA.out.2) XF.out.res (by decide) (.bool true) (.int .i64 nx) (.slice qB bids.length mB) (.slice qA asks.length mA) (.slice qO owed.length mO))));clear XF X1 HQB HQA HQO;go_wp2
           revert HPT HRW
           generalize (World.setCell _ ⟨w.heap.size + 1, 4, none⟩ _) = WF;intro HPT HRW;exact bodyPost_ret (v := .tuple #[.agg #[.bool true, .int .i64 nx, .slice qB bids.length mB, .slice qA asks.length mA, .slice qO owed.length mO], .int .i64 0]) (by simp [results, Tryz.results81, go_sem, cell_at HPT.out.1, laneA]) rfl (by unfold CaB; rw [HR.out]; exact ⟨_, _, _, rfl, own_base HRW.out.1 (by omega), own_base HRW.out.2.1 (by omega), own_base HRW.out.2.2 (by omega), by first | exact HPT.out.2 | exact HPT.out.2.drew⟩))
        | (have XF := hideIt (X1.out.keep HWO.out)
           have HPT := hideIt (XF.out.put (.bool true) (.int .i64 nx) (.slice qB bids.length mB) (.slice qA asks.length mA) (.slice qO owed.length mO));have HRW := hideIt (And.intro (own_five (own_keep HQB.out.1 HQO.out.2) XF.out.res (by decide) (.bool true) (.int .i64 nx) (.slice qB bids.length mB) (.slice qA asks.length mA) (.slice qO owed.length mO)) (And.intro (own_five (own_keep (own_keep HQA.out.1 HQB.out.2) HQO.out.2) XF.out.res (by decide) (.bool true) (.int .i64 nx) (.slice qB bids.length mB) (.slice qA asks.length mA) (.slice qO owed.length mO)) (own_five HQO.out.1 XF.out.res (by decide) (.bool true) (.int .i64 nx) (.slice qB bids.length mB) (.slice qA asks.length mA) (.slice qO owed.length mO))));clear XF X1 HQB HQA HQO;go_wp2
           revert HPT HRW
           generalize (World.setCell _ ⟨w.heap.size + 1, 4, none⟩ _) = WF;intro HPT HRW;exact bodyPost_ret (v := .tuple #[.agg #[.bool true, .int .i64 nx, .slice qB bids.length mB, .slice qA asks.length mA, .slice qO owed.length mO], .int .i64 0]) (by simp [results, Tryz.results81, go_sem, cell_at HPT.out.1, laneA]) rfl (by unfold CaB; rw [HR.out]; exact ⟨_, _, _, rfl, own_base HRW.out.1 (by omega), own_base HRW.out.2.1 (by omega), own_base HRW.out.2.2 (by omega), by first | exact HPT.out.2 | exact HPT.out.2.drew⟩))
        | (have XF := hideIt (X1.out.keep HWB.out)
           have HPT := hideIt (XF.out.put (.bool true) (.int .i64 nx) (.slice qB bids.length mB) (.slice qA asks.length mA) (.slice qO owed.length mO));have HRW := hideIt (And.intro (own_five HQB.out.1 XF.out.res (by decide) (.bool true) (.int .i64 nx) (.slice qB bids.length mB) (.slice qA asks.length mA) (.slice qO owed.length mO)) (And.intro (own_five (own_keep (own_keep HQA.out.1 HQO.out.2) HQB.out.2) XF.out.res (by decide) (.bool true) (.int .i64 nx) (.slice qB bids.length mB) (.slice qA asks.length mA) (.slice qO owed.length mO)) (own_five (own_keep HQO.out.1 HQB.out.2) XF.out.res (by decide) (.bool true) (.int .i64 nx) (.slice qB bids.length mB) (.slice qA asks.length mA) (.slice qO owed.length mO))));clear XF X1 HQB HQA HQO;go_wp2
           revert HPT HRW
           generalize (World.setCell _ ⟨w.heap.size + 1, 4, none⟩ _) = WF;intro HPT HRW;exact bodyPost_ret (v := .tuple #[.agg #[.bool true, .int .i64 nx, .slice qB bids.length mB, .slice qA asks.length mA, .slice qO owed.length mO], .int .i64 0]) (by simp [results, Tryz.results81, go_sem, cell_at HPT.out.1, laneA]) rfl (by unfold CaB; rw [HR.out]; exact ⟨_, _, _, rfl, own_base HRW.out.1 (by omega), own_base HRW.out.2.1 (by omega), own_base HRW.out.2.2 (by omega), by first | exact HPT.out.2 | exact HPT.out.2.drew⟩))
        | (have XF := hideIt (X1.out.keep HWA.out)
           have HPT := hideIt (XF.out.put (.bool true) (.int .i64 nx) (.slice qB bids.length mB) (.slice qA asks.length mA) (.slice qO owed.length mO));have HRW := hideIt (And.intro (own_five (own_keep HQB.out.1 HQA.out.2) XF.out.res (by decide) (.bool true) (.int .i64 nx) (.slice qB bids.length mB) (.slice qA asks.length mA) (.slice qO owed.length mO)) (And.intro (own_five HQA.out.1 XF.out.res (by decide) (.bool true) (.int .i64 nx) (.slice qB bids.length mB) (.slice qA asks.length mA) (.slice qO owed.length mO)) (own_five (own_keep (own_keep HQO.out.1 HQB.out.2) HQA.out.2) XF.out.res (by decide) (.bool true) (.int .i64 nx) (.slice qB bids.length mB) (.slice qA asks.length mA) (.slice qO owed.length mO))));clear XF X1 HQB HQA HQO;go_wp2
           revert HPT HRW
           generalize (World.setCell _ ⟨w.heap.size + 1, 4, none⟩ _) = WF;intro HPT HRW;exact bodyPost_ret (v := .tuple #[.agg #[.bool true, .int .i64 nx, .slice qB bids.length mB, .slice qA asks.length mA, .slice qO owed.length mO], .int .i64 0]) (by simp [results, Tryz.results81, go_sem, cell_at HPT.out.1, laneA]) rfl (by unfold CaB; rw [HR.out]; exact ⟨_, _, _, rfl, own_base HRW.out.1 (by omega), own_base HRW.out.2.1 (by omega), own_base HRW.out.2.2 (by omega), by first | exact HPT.out.2 | exact HPT.out.2.drew⟩))
        | (have XF := hideIt (X1.out.keep HWB.out)
           have HPT := hideIt (XF.out.put (.bool true) (.int .i64 nx) (.slice qB bids.length mB) (.slice qA asks.length mA) (.slice qO owed.length mO));have HRW := hideIt (And.intro (own_five HQB.out.1 XF.out.res (by decide) (.bool true) (.int .i64 nx) (.slice qB bids.length mB) (.slice qA asks.length mA) (.slice qO owed.length mO)) (And.intro (own_five (own_keep HQA.out.1 HQB.out.2) XF.out.res (by decide) (.bool true) (.int .i64 nx) (.slice qB bids.length mB) (.slice qA asks.length mA) (.slice qO owed.length mO)) (own_five (own_keep (own_keep HQO.out.1 HQA.out.2) HQB.out.2) XF.out.res (by decide) (.bool true) (.int .i64 nx) (.slice qB bids.length mB) (.slice qA asks.length mA) (.slice qO owed.length mO))));clear XF X1 HQB HQA HQO;go_wp2
           revert HPT HRW
           generalize (World.setCell _ ⟨w.heap.size + 1, 4, none⟩ _) = WF;intro HPT HRW;exact bodyPost_ret (v := .tuple #[.agg #[.bool true, .int .i64 nx, .slice qB bids.length mB, .slice qA asks.length mA, .slice qO owed.length mO], .int .i64 0]) (by simp [results, Tryz.results81, go_sem, cell_at HPT.out.1, laneA]) rfl (by unfold CaB; rw [HR.out]; exact ⟨_, _, _, rfl, own_base HRW.out.1 (by omega), own_base HRW.out.2.1 (by omega), own_base HRW.out.2.2 (by omega), by first | exact HPT.out.2 | exact HPT.out.2.drew⟩))
  · have HR : Hid (calR L = (zLn, rfE L false)) := by show _ = _; unfold calR; rw [if_neg h0]
    generalize calR L = RX at *;generalize rfE L false = er at *;have h0q : (er == 0) = false := by simpa using h0
    unfold laneV laneA at *;obtain ⟨cl, nx, bids, asks, owed⟩ := L;simp only at *;clear HCB HCA HCO
    go_enter Tryz.func81, Tryz.ntmps81
    go_wp2_with fail
    refine HC.out.mono ?_;rintro e w1 ⟨rfl, hb⟩;dsimp only;have X1 := hideIt (X0.out.keep hb);clear hb X0 HC;obtain ⟨⟨r0, r1, r2, r3, r4⟩, rf, rl⟩ := five5_at X1.out.res;have HP := hideIt (X1.out.put (.bool false) (.int .i64 0) (.slice none 0 0) (.slice none 0 0) (.slice none 0 0));go_wp2
    revert HP
    generalize (World.setCell _ ⟨w.heap.size + 1, 4, none⟩ _) = W;intro HP;exact bodyPost_ret (v := .tuple #[laneV zLn (.slice none 0 0) (.slice none 0 0) (.slice none 0 0), .int .i64 er]) (by simp [results, Tryz.results81, go_sem, cell_at HP.out.1, laneV, laneA, zLn]) rfl (by unfold CaB; rw [HR.out]; exact ⟨_, _, _, rfl, own_nil _ _, own_nil _ _, own_nil _ _, HP.out.2⟩)
end Go.Proofs.YtiinigifjdpicaaGreatDoor
namespace Go.Proofs.YtiinigifjdpicaaGreatDoor
open Go.RowKit Go.Maps
set_option linter.all false
theorem own_cells3 {w : World} {B n : Nat} {e : TypeId} {z : Nat} {v : Value} {xs : List Value} (h : w.ownsRow B e z v n xs) (hn : 0 < n) : ∃ g c, v = .slice (some ⟨g, 0, none⟩) n c ∧ g < w.heap.size ∧ ∀ j u, xs[j]? = some u → w.cell? ⟨g, j, none⟩ = some u := by
 have hc := fun g hg => h.cells (g := g) hg
 obtain ⟨h1, ⟨rfl, h0⟩ | ⟨g, cap, cur, rfl, hB, hg, r⟩⟩ := h
 ·omega
 ·refine ⟨g, cap, rfl, (Array.getElem?_eq_some_iff.1 hg).1, fun j u hu => ?_⟩;have := hc g rfl j u hu
  rwa [addN, Nat.zero_add] at this
structure TX (w : World) (mb c : Nat) (f : Cls) (B A : List OrdV) (F : List FillV) (b a u : Value) (W : World) : Prop where
 rb : W.ownsRow w.heap.size 115 4 b B.length (celC ordE B)
 ra : W.ownsRow w.heap.size 115 4 a A.length (celC ordE A)
 ru : W.ownsRow w.heap.size 106 4 u F.length (celC filE F)
 ne : b.ownBlock = none ∨ b.ownBlock ≠ a.ownBlock
 cm : CM W mb c f
 out : Out (fun k => k = mb) w W
 lt : mb < w.heap.size
theorem TX.keep {w W W' : World} {mb c : Nat} {f : Cls} {B A : List OrdV} {F : List FillV} {b a u : Value} (h : TX w mb c f B A F b a u W) (hb : Below W.heap.size W W') : TX w mb c f B A F b a u W' :=
 ⟨own_keep h.rb hb, own_keep h.ra hb, own_keep h.ru hb, h.ne, h.cm.keep hb, h.out.trans (Out.ofBelow hb) (fun _ _ h => h), h.lt⟩
theorem TX.call {w W W2 : World} {mb c c2 : Nat} {f f2 : Cls} {B A : List OrdV} {F : List FillV} {b a u : Value} (h : TX w mb c f B A F b a u W) (hM : CM W2 mb c2 f2) (hO : Out (fun k => k = mb) W W2) : TX w mb c2 f2 B A F b a u W2 :=
 have hl : ∀ k, k = mb → k < w.heap.size := fun k e => by rw [e]; exact h.lt
 ⟨own_out h.rb hO hl, own_out h.ra hO hl, own_out h.ru hO hl, h.ne, hM, h.out.trans hO (fun _ _ h => h), h.lt⟩
theorem row_block {w : World} {B n k : Nat} {e : TypeId} {z : Nat} {v : Value} {xs : List Value} (h : w.ownsRow B e z v n xs) (hk : v.ownBlock = some k) : B ≤ k := (h.lt k hk).1
theorem TX.app {w W : World} {mb c : Nat} {f : Cls} {B A : List OrdV} {F : List FillV} {b a u : Value} (h : TX w mb c f B A F b a u W) (x : FillV) (hl : F.length ≤ 1000) : ∃ a' c' w', (Builtin.append_ #[34, 34] 34 #[u, .slice (some ⟨W.heap.size, 0, none⟩) 1 1]).run Tryz.prog (W.alloc (.cells (filE x).toArray 106)) = .ok (.slice a' (F.length + 1) c') w' ∧ TX w mb c f B A (F ++ [x]) b a (.slice a' (F.length + 1) c') w' := by
 have hb := below1 W (.cells (filE x).toArray 106);have h1 := h.keep hb;obtain ⟨v', w', hrun, how, hgr⟩ := app1 (enc := filE) (t := 34) filK fil1 Tryz.underlying34 info39 rfl (by omega) (W.alloc (.cells (filE x).toArray 106)) w.heap.size u F x W.heap.size 1 h1.out.size h1.ru (heap_alloc_new W _) (by omega) (by unfold maxLen; omega)
 obtain ⟨a', c', rfl⟩ := own_len how;have hlen : (F ++ [x]).length = F.length + 1 := by simp
 rw [hlen] at hrun how;have hmb : ∀ k, u.ownBlock = some k → k ≠ mb := fun k hk e => by have := row_block h1.ru hk; have := h1.lt; omega
 refine ⟨a', c', w', hrun, own_type hgr h1.ru h1.rb (by decide), own_type hgr h1.ru h1.ra (by decide), by rw [hlen]; exact how, h1.ne, h1.cm.block (hgr.block mb h1.cm.lt (fun e => hmb mb e.symm rfl)), h1.out.trans (Out.ofGrown (F := fun k => w.heap.size ≤ k) hgr (fun k hk => row_block h1.ru hk)) (fun i hi e => by omega), h1.lt⟩
theorem TX.takB {w W W' : World} {mb c : Nat} {f : Cls} {B A B' : List OrdV} {F : List FillV} {b a u b' : Value} (h : TX w mb c f B A F b a u W) (ho : W'.ownsRow w.heap.size 115 4 b' B'.length (celC ordE B')) (hg : W.grownBy W' b.ownBlock) (he : b'.ownBlock = b.ownBlock) : TX w mb c f B' A F b' a u W' := by
 have hmb : ∀ k, b.ownBlock = some k → k ≠ mb := fun k hk e => by have := row_block h.rb hk; have := h.lt; omega
 refine ⟨ho, h.ra.kept hg ?_, own_type hg h.rb h.ru (by decide), by rw [he]; exact h.ne, h.cm.block (hg.block mb h.cm.lt (fun e => hmb mb e.symm rfl)), h.out.trans (Out.ofGrown (F := fun k => w.heap.size ≤ k) hg (fun k hk => row_block h.rb hk)) (fun i hi e => by omega), h.lt⟩
 rcases h.ne with e | e
 ·cases ha : a.ownBlock
  ·exact .inl rfl
  ·refine .inr ?_;rw [e]
   simp
 ·exact .inr (fun e' => e e'.symm)
theorem TX.takA {w W W' : World} {mb c : Nat} {f : Cls} {B A A' : List OrdV} {F : List FillV} {b a u a' : Value} (h : TX w mb c f B A F b a u W) (ho : W'.ownsRow w.heap.size 115 4 a' A'.length (celC ordE A')) (hg : W.grownBy W' a.ownBlock) (he : a'.ownBlock = a.ownBlock) : TX w mb c f B A' F b a' u W' := by
 have hmb : ∀ k, a.ownBlock = some k → k ≠ mb := fun k hk e => by have := row_block h.ra hk; have := h.lt; omega
 exact ⟨h.rb.kept hg h.ne, ho, own_type hg h.ra h.ru (by decide), by rw [he]; exact h.ne, h.cm.block (hg.block mb h.cm.lt (fun e => hmb mb e.symm rfl)), h.out.trans (Out.ofGrown (F := fun k => w.heap.size ≤ k) hg (fun k hk => row_block h.ra hk)) (fun i hi e => by omega), h.lt⟩
end Go.Proofs.YtiinigifjdpicaaGreatDoor
namespace Go.Proofs.YtiinigifjdpicaaGreatDoor
open Go.RowKit Go.Maps
set_option linter.all false
def lenOf : Value → Nat
 | .slice _ n _ => n
 | _ => 0
theorem sep_rows {w1 w2 : World} {B1 n m : Nat} {e : TypeId} {z : Nat} {b a : Value} {xs ys : List Value} (hb : w1.ownsRow B1 e z b n xs) (ha : w2.ownsRow w1.heap.size e z a m ys) : b.ownBlock = none ∨ b.ownBlock ≠ a.ownBlock := by
 cases hk : b.ownBlock with
 | none => exact .inl rfl
 | some k =>
  refine .inr (fun e => ?_);have h1 := (hb.lt k hk).2;have h2 := (ha.lt k e.symm).1;omega
theorem TX.head8 {w W : World} {mb c gB gA nB nA cB cA : Nat} {f : Cls} {x y : OrdV} {bs ys : List OrdV} {F : List FillV} {u : Value} (h : TX w mb c f (x :: bs) (y :: ys) F (.slice (some ⟨gB, 0, none⟩) nB cB) (.slice (some ⟨gA, 0, none⟩) nA cA) u W) : W.cell? ⟨gB, 0, none⟩ = some (.int .i64 x.id) ∧ W.cell? ⟨gB, 1, none⟩ = some (.int .i64 x.acc) ∧ W.cell? ⟨gB, 2, none⟩ = some (.int .i64 x.price) ∧ W.cell? ⟨gB, 3, none⟩ = some (.int .i64 x.left) ∧ W.cell? ⟨gA, 0, none⟩ = some (.int .i64 y.id) ∧ W.cell? ⟨gA, 1, none⟩ = some (.int .i64 y.acc) ∧ W.cell? ⟨gA, 2, none⟩ = some (.int .i64 y.price) ∧ W.cell? ⟨gA, 3, none⟩ = some (.int .i64 y.left) := by
 obtain ⟨g1, c1, e1, l1, k1⟩ := own_cells3 h.rb (by simp);obtain ⟨g2, c2, e2, l2, k2⟩ := own_cells3 h.ra (by simp);simp only [Value.slice.injEq, Option.some.injEq, Addr.mk.injEq] at e1 e2;obtain ⟨⟨rfl, -⟩, -⟩ := e1;obtain ⟨⟨rfl, -⟩, -⟩ := e2
 exact ⟨k1 0 _ rfl, k1 1 _ rfl, k1 2 _ rfl, k1 3 _ rfl, k2 0 _ rfl, k2 1 _ rfl, k2 2 _ rfl, k2 3 _ rfl⟩
set_option maxHeartbeats 16000000 in
set_option maxRecDepth 100000 in
theorem trade_is (L : LaneV) (b a o : Value) (V p : Int) (mb c KO KP : Nat) (f : Cls) (w : World) (h : Lan w L b a o) (hM : CM w mb c f) (hc : c ≤ 100) (hKO : w.heap[KO]? = some (.cells #[.map (some mb)] 183 (0, 0))) (hKP : w.heap[KP]? = some (.cells #[.int .i64 p] 3 (0, 0))) (hp : 0 ≤ p ∧ p ≤ 1000000) (hlb : L.bids.length ≤ 40) (hla : L.asks.length ≤ 40) (hI : IV p L.bids L.asks V f []) : Calls Tryz.prog 121 #[laneV L b a o, .int .i64 V, .func (Fn.func 122) #[] #[.pointer (some ⟨KO, 0, none⟩), .pointer (some ⟨KP, 0, none⟩)]] w fun e w' => ∃ bv av uv c2, e = .returned (.tuple #[bv, av, uv]) ∧ TX w mb c2 (trdC p 80 L.bids L.asks V f []).2.2.1 (trdC p 80 L.bids L.asks V f []).1 (trdC p 80 L.bids L.asks V f []).2.1 (trdC p 80 L.bids L.asks V f []).2.2.2 bv av uv w' := by
 have X0 := hideIt (BoxL.first w L b a o);have HCB := hideIt (fun W (hW : Below w.heap.size w W) => cloneO_is b L.bids W (h.keep hW).bids);have HCA := hideIt (fun W (hW : Below w.heap.size w W) => cloneO_is a L.asks W (h.keep hW).asks);obtain ⟨ba, bc, rfl⟩ := h.bids.slice;obtain ⟨aa, ac, rfl⟩ := h.asks.slice;obtain ⟨oa, oc, rfl⟩ := h.owed.slice;clear h;have HK := hideIt (And.intro hKO hKP);have HI := hideIt hI;have HM := hideIt hM;have lKO := (Array.getElem?_eq_some_iff.1 hKO).1;have lKP := (Array.getElem?_eq_some_iff.1 hKP).1;have nO : KO ≠ mb := by
  rintro rfl;obtain ⟨n', D, -, ⟨es, clock, hb, -⟩, -⟩ := hM;rw [hb] at hKO;cases hKO
 have nP : KP ≠ mb := by
  rintro rfl;obtain ⟨n', D, -, ⟨es, clock, hb, -⟩, -⟩ := hM;rw [hb] at hKP;cases hKP
 clear hKO hKP hI hM;obtain ⟨R, hR⟩ : ∃ R, R = trdC p 80 L.bids L.asks V f [] := ⟨_, rfl⟩;rw [← hR];have HR := hideIt hR;clear hR;unfold laneV laneA at *;obtain ⟨cl, nx, bids, asks, owed⟩ := L;simp only at *;obtain ⟨x0, x1, x2, x3, x4⟩ := X0.out.cells;simp only at x0 x1 x2 x3 x4
 go_enter Tryz.func121, Tryz.ntmps121
 go_upto_region 1 with fail
 generalize w.alloc (.cells #[.bool cl, .int .i64 nx, .slice ba bids.length bc, .slice aa asks.length ac, .slice oa owed.length oc] 59) = W0 at *;have xz : w.heap.size < W0.heap.size := by have := X0.out.size; omega
 have HB2 : Hid (∀ W, Below W0.heap.size W0 W → Calls Tryz.prog 72 #[.slice ba bids.length bc] W fun e w' => ∃ q k, e = .returned (.slice q bids.length k) ∧ Hid (w'.ownsRow W.heap.size 115 4 (.slice q bids.length k) bids.length (celC ordE bids) ∧ Below W.heap.size W w') ∧ Hid (Below W0.heap.size W0 w') ∧ (w'.cell? ⟨w.heap.size, 2, none⟩ = some (.slice ba bids.length bc) ∧ w'.cell? ⟨w.heap.size, 3, none⟩ = some (.slice aa asks.length ac)) ∧ w.heap.size < w'.heap.size) := by
  intro W hW;have hX := X0.out.keep hW;refine (HCB.out W hX.bel).mono ?_;rintro e w' ⟨v', rfl, ho, hb⟩;obtain ⟨q, k, rfl⟩ := own_len ho;have hX' := hX.keep hb;obtain ⟨-, -, y2, y3, -⟩ := hX'.cells
  exact ⟨q, k, rfl, ⟨ho, hb⟩, below_via hW hb, ⟨y2, y3⟩, by have := hX'.size; omega⟩
 have HA2 : Hid (∀ W, Below W0.heap.size W0 W → Calls Tryz.prog 72 #[.slice aa asks.length ac] W fun e w' => ∃ q k, e = .returned (.slice q asks.length k) ∧ Hid (w'.ownsRow W.heap.size 115 4 (.slice q asks.length k) asks.length (celC ordE asks) ∧ Below W.heap.size W w') ∧ Hid (Below W0.heap.size W0 w') ∧ (w'.cell? ⟨w.heap.size, 2, none⟩ = some (.slice ba bids.length bc) ∧ w'.cell? ⟨w.heap.size, 3, none⟩ = some (.slice aa asks.length ac)) ∧ w.heap.size < w'.heap.size) := by
  intro W hW;have hX := X0.out.keep hW;refine (HCA.out W hX.bel).mono ?_;rintro e w' ⟨v', rfl, ho, hb⟩;obtain ⟨q, k, rfl⟩ := own_len ho;have hX' := hX.keep hb;obtain ⟨-, -, y2, y3, -⟩ := hX'.cells
  exact ⟨q, k, rfl, ⟨ho, hb⟩, below_via hW hb, ⟨y2, y3⟩, by have := hX'.size; omega⟩
 clear HCB HCA x0 x1 x4
 go_cut [6, 7] from 10 to 15 (fun x y wx => ∃ ba bc aa ac, x = .slice ba bids.length bc ∧ y = .slice aa asks.length ac ∧ Hid (TX w mb c f bids asks [] (.slice ba bids.length bc) (.slice aa asks.length ac) (.slice none 0 0) wx))
 case first =>
  go_region_held3 (fun W => W.cell? ⟨w.heap.size, 2, none⟩ = some (.slice ba bids.length bc) ∧ W.cell? ⟨w.heap.size, 3, none⟩ = some (.slice aa asks.length ac)) (go_keep) (first | (go_at_call 72; refine (HB2.out _ (by first | exact Below.refl _ _ | exact (Below.refl _ _).drew | exact HWA.out)).mono ?_; rintro e wB ⟨qB, mB, rfl, HQB, HWB, ⟨i2B, i3B⟩, izB⟩; clear HB2) | (go_at_call 72; refine (HA2.out _ (by first | exact Below.refl _ _ | exact (Below.refl _ _).drew | exact HWB.out)).mono ?_; rintro e wA ⟨qA, mA, rfl, HQA, HWA, ⟨i2A, i3A⟩, izA⟩; clear HA2))
  all_goals go_wp2_with fail
  all_goals go_meet
  ·exact ⟨qB, mB, qA, mA, rfl, rfl, hideIt ⟨own_base (own_keep HQB.out.1 HQA.out.2) (by have := X0.out.bel.size; exact this), own_base HQA.out.1 (by have := HWB.out.size; have := X0.out.bel.size; omega), own_nil _ _, sep_rows HQB.out.1 HQA.out.1, (HM.out.keep (below_via X0.out.bel HWA.out)), Out.ofBelow (below_via X0.out.bel HWA.out), HM.out.lt⟩⟩
 case rest =>
 obtain ⟨ba2, bc2, aa2, ac2, rfl, rfl, T0⟩ := hcut;clear HB2 HA2 HM X0 x2 x3 xz
 go_upto_region 2 with fail
 go_loopw [1, 6, 7, 8] (fun x1 x6 x7 x8 wr => ∃ (k : Nat) (V : Int) (B A : List OrdV) (F : List FillV) (f : Cls), ∃ ba bc aa ac ua uc, x1 = .int .i64 V ∧ x6 = .slice ba B.length bc ∧ x7 = .slice aa A.length ac ∧ x8 = .slice ua F.length uc ∧ B.length + A.length ≤ k ∧ k + F.length ≤ 80 ∧ Hid (trdC p k B A V f F = R ∧ IV p B A V f F) ∧ Hid (TX w mb (c + 3 * F.length) f B A F (.slice ba B.length bc) (.slice aa A.length ac) (.slice ua F.length uc) wr)) (fun _ x6 x7 _ _ => lenOf x6 + lenOf x7)
 case atStart => exact ⟨80, V, bids, asks, [], f, ba2, bc2, aa2, ac2, none, 0, rfl, rfl, rfl, rfl, by omega, by simp, hideIt ⟨HR.out.symm, HI.out⟩, T0⟩
 case round =>
  clear T0 HR HI;obtain ⟨k, V, B, A, F, f, ba, bc, aa, ac, ua, uc, rfl, rfl, rfl, rfl, hk, hkF, HV, HT⟩ := hrel
  by_cases hV : 0 < V
  ·obtain ⟨x, bs, y, ys, rfl, rfl, hpx, hpy⟩ := HV.out.2.heads hV;obtain ⟨hn, hIV⟩ := HV.out.2.step hp hpx hpy;have hT1 := HV.out.2.tb x (List.mem_cons_self ..);have hT2 := HV.out.2.ta y (List.mem_cons_self ..);have hC1 := HV.out.2.cb x (List.mem_cons_self ..);have hC2 := HV.out.2.ca y (List.mem_cons_self ..);have hcg := HV.out.2.cgb;have hVb : V ≤ 80000000 := by
    have h1 := (dem_bd p _ HV.out.2.tb).2;have h2 := HV.out.2.vol;have h3 : ((x :: bs).length : Int) ≤ 80 := by omega
    omega
   obtain ⟨k2, rfl⟩ : ∃ k2, k = k2 + 1 := ⟨k - 1, by simp at hk; omega⟩
   have hRR := HV.out.1;unfold trdC at hRR;rw [if_pos hV] at hRR;have hln := takO_len x y bs ys;have HNX := hideIt (And.intro hRR hIV);have HLN := hideIt hln;clear hRR hIV hln HV;obtain ⟨gB, cB, eB, lB, cellB⟩ := own_cells3 HT.out.rb (by simp);obtain ⟨gA, cA, eA, lA, cellA⟩ := own_cells3 HT.out.ra (by simp);simp only [Value.slice.injEq] at eB eA;obtain ⟨rfl, -, rfl⟩ := eB;obtain ⟨rfl, -, rfl⟩ := eA;have p0 := cellB 0 (.int .i64 x.id) rfl;have p1 := cellB 1 (.int .i64 x.acc) rfl;have p2 := cellB 2 (.int .i64 x.price) rfl;have p3 := cellB 3 (.int .i64 x.left) rfl;have q0 := cellA 0 (.int .i64 y.id) rfl;have q1 := cellA 1 (.int .i64 y.acc) rfl;have q2 := cellA 2 (.int .i64 y.price) rfl;have q3 := cellA 3 (.int .i64 y.left) rfl;clear cellB cellA;have hnB : 0 < (x :: bs).length := by simp
   have hnA : 0 < (y :: ys).length := by simp
   have HTB := hideIt (fun n W b (ho : W.ownsRow w.heap.size 115 4 b (x :: bs).length (celC ordE (x :: bs))) hh => taken_is w.heap.size b x bs n W ho hh);have HTA := hideIt (fun n W b (ho : W.ownsRow w.heap.size 115 4 b (y :: ys).length (celC ordE (y :: ys))) hh => taken_is w.heap.size b y ys n W ho hh);have HLB : Hid ((x :: bs).length = bs.length + 1) := rfl;have HLA : Hid ((y :: ys).length = ys.length + 1) := rfl;generalize hnb : (x :: bs).length = nb at *;generalize hna : (y :: ys).length = na at *;have HNB := hideIt hnb;have HNA := hideIt hna;clear hnb hna;have iB : (0 : Int) < (nb : Int) := by omega
   have iA : (0 : Int) < (na : Int) := by omega
   obtain ⟨n, hnn⟩ : ∃ n, n = min x.left y.left := ⟨_, rfl⟩;have HN2 : Hid (trdC p k2 (takO n (x :: bs)) (takO n (y :: ys)) (V - n) (stlC f x.acc x.price y.acc p n) (F ++ [⟨x.acc, y.acc, p, n⟩]) = R ∧ IV p (takO n (x :: bs)) (takO n (y :: ys)) (V - n) (stlC f x.acc x.price y.acc p n) (F ++ [⟨x.acc, y.acc, p, n⟩])) := by rw [hnn]; exact HNX.out
   clear HNX;rw [← hnn] at HLN hn;have HNN := hideIt hnn;clear hnn
   go_upto_region 3 with fail
   go_cut [9] from 18 to 26 (fun v wx => v = .int .i64 (min x.left y.left) ∧ wr.drew = wx)
   case first =>
    clear HT HN2 HLN HTB HTA
    go_region
    all_goals go_wp2_with fail
    all_goals go_meet
    all_goals exact ⟨rfl, rfl⟩
   case rest =>
   obtain ⟨rfl, rfl⟩ := hcut;rw [← HNN.out];have HT2 := hideIt (HT.out.keep (Below.refl _ wr).drew);have p0' : wr.drew.cell? ⟨gB, 0, none⟩ = some (.int .i64 x.id) := p0;have p1' : wr.drew.cell? ⟨gB, 1, none⟩ = some (.int .i64 x.acc) := p1;have p2' : wr.drew.cell? ⟨gB, 2, none⟩ = some (.int .i64 x.price) := p2;have p3' : wr.drew.cell? ⟨gB, 3, none⟩ = some (.int .i64 x.left) := p3;have q0' : wr.drew.cell? ⟨gA, 0, none⟩ = some (.int .i64 y.id) := q0;have q1' : wr.drew.cell? ⟨gA, 1, none⟩ = some (.int .i64 y.acc) := q1;have q2' : wr.drew.cell? ⟨gA, 2, none⟩ = some (.int .i64 y.price) := q2;have q3' : wr.drew.cell? ⟨gA, 3, none⟩ = some (.int .i64 y.left) := q3;have lB' : gB < wr.drew.heap.size := lB;have lA' : gA < wr.drew.heap.size := lA;clear p0 p1 p2 p3 q0 q1 q2 q3 lB lA HT;generalize wr.drew = W1 at *;have HU : Hid (Calls Tryz.prog 122 #[.agg #[.int .i64 x.id, .int .i64 x.acc, .int .i64 x.price, .int .i64 x.left], .agg #[.int .i64 y.id, .int .i64 y.acc, .int .i64 y.price, .int .i64 y.left], .int .i64 n, .pointer (some ⟨KO, 0, none⟩), .pointer (some ⟨KP, 0, none⟩)] W1.drew fun e w' => e = .returned (.agg #[.int .i64 x.acc, .int .i64 y.acc, .int .i64 p, .int .i64 n]) ∧ Hid (∃ a' c' w6, (Builtin.append_ #[34, 34] 34 #[.slice ua F.length uc, .slice (some ⟨w'.heap.size, 0, none⟩) 1 1]).run Tryz.prog (w'.alloc (.cells #[.int .i64 x.acc, .int .i64 y.acc, .int .i64 p, .int .i64 n] 106)) = .ok (.slice a' (F.length + 1) c') w6 ∧ TX w mb (c + 3 * (F.length + 1)) (stlC f x.acc x.price y.acc p n) (x :: bs) (y :: ys) (F ++ [⟨x.acc, y.acc, p, n⟩]) (.slice (some ⟨gB, 0, none⟩) nb bc) (.slice (some ⟨gA, 0, none⟩) na ac) (.slice a' (F.length + 1) c') w6) ∧ w'.cell? ⟨gB, 0, none⟩ = some (.int .i64 x.id) ∧ w'.cell? ⟨gB, 1, none⟩ = some (.int .i64 x.acc) ∧ w'.cell? ⟨gB, 2, none⟩ = some (.int .i64 x.price) ∧ w'.cell? ⟨gB, 3, none⟩ = some (.int .i64 x.left) ∧ w'.cell? ⟨gA, 0, none⟩ = some (.int .i64 y.id) ∧ w'.cell? ⟨gA, 1, none⟩ = some (.int .i64 y.acc) ∧ w'.cell? ⟨gA, 2, none⟩ = some (.int .i64 y.price) ∧ w'.cell? ⟨gA, 3, none⟩ = some (.int .i64 y.left)) := by
    have hT := HT2.out.keep (Below.refl _ W1).drew;have hcgf : ∀ u v, 0 ≤ cg f u v ∧ cg f u v ≤ 4000000000000000000 := fun u v => by have := hcg u v; omega
    refine (un1_is mb (c + 3 * F.length) f x.id x.acc x.price x.left y.id y.acc y.price y.left p n KO KP W1.drew hT.cm ((hT.out.block KO lKO nO).trans HK.out.1) ((hT.out.block KP lKP nP).trans HK.out.2) (by omega) hC1 hC2 (by omega) hp (by omega) hcgf).mono ?_;rintro e w' ⟨rfl, hM, hO⟩;have hT3 := hT.call hM hO;obtain ⟨a', c', w6, hrun, hX⟩ := hT3.app ⟨x.acc, y.acc, p, n⟩ (by omega);have hgB : gB ≠ mb := by
     have := row_block (k := gB) hT.rb rfl;have := hT.lt;omega
    have hgA : gA ≠ mb := by
     have := row_block (k := gA) hT.ra rfl;have := hT.lt;omega
    have cB : ∀ j, w'.cell? ⟨gB, j, none⟩ = W1.cell? ⟨gB, j, none⟩ := fun j => by
     have := hO.block gB lB' hgB;simp only [World.cell?, this]
     rfl
    have cA : ∀ j, w'.cell? ⟨gA, j, none⟩ = W1.cell? ⟨gA, j, none⟩ := fun j => by
     have := hO.block gA lA' hgA;simp only [World.cell?, this]
     rfl
    exact ⟨rfl, ⟨a', c', w6, hrun, by rw [show c + 3 * (F.length + 1) = c + 3 * F.length + 3 by omega]; exact hX⟩, (cB 0).trans p0', (cB 1).trans p1', (cB 2).trans p2', (cB 3).trans p3', (cA 0).trans q0', (cA 1).trans q1', (cA 2).trans q2', (cA 3).trans q3'⟩
   go_upto_region 4 with fail
   go_cut [8] from 27 to 38 (fun v wx => ∃ a' c', v = .slice a' (F.length + 1) c' ∧ Hid (TX w mb (c + 3 * (F.length + 1)) (stlC f x.acc x.price y.acc p n) (x :: bs) (y :: ys) (F ++ [⟨x.acc, y.acc, p, n⟩]) (.slice (some ⟨gB, 0, none⟩) nb bc) (.slice (some ⟨gA, 0, none⟩) na ac) (.slice a' (F.length + 1) c') wx))
   case first =>
    clear HT2 HN2 HLN HTB HTA
    go_region_held3 (fun W => W.cell? ⟨gB, 0, none⟩ = some (.int .i64 x.id) ∧ W.cell? ⟨gB, 1, none⟩ = some (.int .i64 x.acc) ∧ W.cell? ⟨gB, 2, none⟩ = some (.int .i64 x.price) ∧ W.cell? ⟨gB, 3, none⟩ = some (.int .i64 x.left) ∧ W.cell? ⟨gA, 0, none⟩ = some (.int .i64 y.id) ∧ W.cell? ⟨gA, 1, none⟩ = some (.int .i64 y.acc) ∧ W.cell? ⟨gA, 2, none⟩ = some (.int .i64 y.price) ∧ W.cell? ⟨gA, 3, none⟩ = some (.int .i64 y.left)) (go_keep) (first | (go_at_call 122; refine HU.out.mono ?_; rintro e w5 ⟨rfl, HE, j0, j1, j2, j3, j4, j5, j6, j7⟩; obtain ⟨a6, c6, w6, hrun6, hX6⟩ := HE.out; obtain ⟨z0, z1, z2, z3, z4, z5, z6, z7⟩ := hX6.head8; have HX6 := hideIt hX6; clear hX6 HE) | (refine step_app_runK rfl _ _ 34 34 rfl _ _ rfl rfl hrun6 ?_) | (at_builtin; refine Lib.wpList_append_run _ rfl _ _ _ _ rfl _ _ rfl rfl _ _ hrun6 ?_))
    all_goals go_wp2_with fail
    all_goals go_meet
    all_goals exact ⟨a6, c6, rfl, HX6⟩
   case rest =>
   obtain ⟨a6, c6, rfl, HX⟩ := hcut;clear HU HT2 p0' p1' p2' p3' q0' q1' q2' q3' lB' lA';have hnl : n ≤ x.left ∧ n ≤ y.left := by have := HNN.out; omega
   have hb0 : wc.ownsRow w.heap.size 115 4 (.slice (some ⟨gB, 0, none⟩) nb bc) nb (celC ordE (x :: bs)) := by
    have := HX.out.rb;rw [HNB.out] at this;exact this
   have HB0 := hideIt (HTB.out n wc _ hb0 (by omega));clear hb0 HTB
   go_wp2_with fail
   refine HB0.out.mono ?_;rintro e w2 ⟨v2, rfl, how, hgr, heq⟩;dsimp only;have T2 := hideIt (HX.out.takB how hgr heq);obtain ⟨b2, bk2, rfl⟩ := own_len how;clear how hgr heq HX HB0;have ha0 : w2.ownsRow w.heap.size 115 4 (.slice (some ⟨gA, 0, none⟩) na ac) na (celC ordE (y :: ys)) := by
    have := T2.out.ra;rw [HNA.out] at this;exact this
   have HA0 := hideIt (HTA.out n w2 _ ha0 (by omega));clear ha0 HTA
   go_wp2_with fail
   refine HA0.out.mono ?_;rintro e w3 ⟨v3, rfl, how, hgr, heq⟩;dsimp only;have T3 := hideIt (T2.out.takA how hgr heq);obtain ⟨a2, ak2, rfl⟩ := own_len how;clear how hgr heq T2 HA0;have hwv : IntKind.i64.wrap (V - n) = V - n := by rw [IntKind.wrap_i64]; omega
   have T4 : Hid (TX w mb (c + 3 * (F ++ [(⟨x.acc, y.acc, p, n⟩ : FillV)]).length) (stlC f x.acc x.price y.acc p n) (takO n (x :: bs)) (takO n (y :: ys)) (F ++ [⟨x.acc, y.acc, p, n⟩]) (.slice b2 (takO n (x :: bs)).length bk2) (.slice a2 (takO n (y :: ys)).length ak2) (.slice a6 (F ++ [(⟨x.acc, y.acc, p, n⟩ : FillV)]).length c6) w3) := by
    show TX _ _ _ _ _ _ _ _ _ _ _
    rw [show (F ++ [(⟨x.acc, y.acc, p, n⟩ : FillV)]).length = F.length + 1 by simp];exact T3.out
   have hl1 := HLN.out;have hl2 := HLB.out;have hl3 := HLA.out;have HLL : Hid ((takO n (x :: bs)).length + (takO n (y :: ys)).length ≤ k2 ∧ (takO n (x :: bs)).length + (takO n (y :: ys)).length < nb + na) := ⟨by omega, by omega⟩;generalize htb : (takO n (x :: bs)) = TB at *;generalize hta : (takO n (y :: ys)) = TA at *;clear hl1 hl2 hl3 htb hta T3;go_wp2
   go_roundw
   case rel => exact ⟨k2, V - n, TB, TA, F ++ [⟨x.acc, y.acc, p, n⟩], _, b2, bk2, a2, ak2, a6, c6, rfl, rfl, rfl, by simp, HLL.out.1, by simp; omega, HN2, T4⟩
   case measure => exact HLL.out.2
  ·have hz : trdC p k B A V f F = (B, A, f, F) := by
    cases k with
    | zero => rfl
    | succ k => unfold trdC; rw [if_neg hV]
   have hRR := HV.out.1;rw [hz] at hRR;have HRR := hideIt hRR;clear HV hz hRR;go_wp2;exact bodyPost_ret (v := .tuple #[.slice ba B.length bc, .slice aa A.length ac, .slice ua F.length uc]) (by simp [results, Tryz.results121, go_sem]) rfl ⟨.slice ba B.length bc, .slice aa A.length ac, .slice ua F.length uc, rfl, c + 3 * F.length, by rw [← HRR.out]; exact HT.out⟩
end Go.Proofs.YtiinigifjdpicaaGreatDoor
