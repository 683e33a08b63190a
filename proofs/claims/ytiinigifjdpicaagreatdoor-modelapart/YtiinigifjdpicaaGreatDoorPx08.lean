/- Texts of my own, laid together. -/
import Derived.Test.YtiinigifjdpicaaGreatDoorPx07
namespace Go.Proofs.YtiinigifjdpicaaGreatDoor
open Go.RowKit
set_option linter.all false
set_option maxHeartbeats 64000000 in
set_option maxRecDepth 100000 in
theorem place_is (L : LaneV) (b a o : Value) (acc s price n : Int) (now : Bool) (w : World) (h : Lan w L b a o) : Calls Tryz.prog 79 #[laneV L b a o, .int .i64 acc, .int .i64 s, .int .i64 price, .int .i64 n, .bool now] w (PlBack (placeL L acc s price n now) w) := by
 have X0 := hideIt (CB.first w L b a o);have HRF := hideIt (fun W (hW : Below w.heap.size w W) => refused_is L b a o acc s price n now W (h.keep hW));have HCP := hideIt (fun W (hW : Below w.heap.size w W) => copied_is L b a o W (h.keep hW));have HOK := hideIt (refE_ok (L := L) (acc := acc) (s := s) (price := price) (n := n) (now := now));unfold LaneBack at HCP;unfold placeL;obtain ⟨ba, bc, rfl⟩ := h.bids.slice;obtain ⟨aa, ac, rfl⟩ := h.asks.slice;obtain ⟨oa, oc, rfl⟩ := h.owed.slice;clear h
 by_cases hre : refE L acc s price n now ≠ 0
 ·rw [if_pos hre];clear HCP HOK;generalize refE L acc s price n now = e at *;have heb : (e != 0) = true := by simp [hre]
  unfold laneV laneA at *;obtain ⟨cl, nx, bids, asks, owed⟩ := L;simp only at *;clear hre
  go_enter Tryz.func79, Tryz.ntmps79
  go_upto_region 1 with fail
  generalize (w.alloc (.cells #[.bool cl, .int .i64 nx, .slice ba bids.length bc, .slice aa asks.length ac, .slice oa owed.length oc] 59)).alloc (.cells #[.bool false, .int .i64 0, .slice none 0 0, .slice none 0 0, .slice none 0 0] 59) = w0 at *;obtain ⟨c0, c1, c2, c3, c4⟩ := X0.out.cells;simp only at c0 c1 c2 c3 c4
  go_wp2_with fail
  refine (HRF.out _ X0.out.bel).mono ?_;rintro e w1 ⟨rfl, hb⟩;dsimp only;have X1 := hideIt (X0.out.keep hb);clear hb X0 c0 c1 c2 c3 c4 HRF;obtain ⟨c0, c1, c2, c3, c4⟩ := X1.out.cells;simp only at c0 c1 c2 c3 c4;have z0 : w1.cell? ⟨w.heap.size + 1, 0, none⟩ = some (.bool false) := by rw [cell_at X1.out.res]; rfl
  have z1 : w1.cell? ⟨w.heap.size + 1, 1, none⟩ = some (.int .i64 0) := by rw [cell_at X1.out.res]; rfl
  have z2 : w1.cell? ⟨w.heap.size + 1, 2, none⟩ = some (.slice none 0 0) := by rw [cell_at X1.out.res]; rfl
  have z3 : w1.cell? ⟨w.heap.size + 1, 3, none⟩ = some (.slice none 0 0) := by rw [cell_at X1.out.res]; rfl
  have z4 : w1.cell? ⟨w.heap.size + 1, 4, none⟩ = some (.slice none 0 0) := by rw [cell_at X1.out.res]; rfl
  have zf : ∀ j, w1.frozen? ⟨w.heap.size + 1, j, none⟩ = false := fun j => free_at X1.out.res j
  have HP := hideIt (X1.out.put (.bool false) (.int .i64 0) (.slice none 0 0) (.slice none 0 0) (.slice none 0 0));clear X1;go_wp2
  revert HP
  generalize (World.setCell _ ⟨w.heap.size + 1, 4, none⟩ _) = W;intro HP;exact bodyPost_ret (v := .tuple #[laneV zLane (.slice none 0 0) (.slice none 0 0) (.slice none 0 0), .slice none 0 0, .int .i64 0, .int .i64 e]) (by simp [results, Tryz.results79, go_sem, cell_at HP.out.1, laneV, laneA, zLane]) rfl ⟨_, _, _, _, rfl, own_nil _ _, own_nil _ _, own_nil _ _, own_nil _ _, HP.out.2⟩
 ·rw [if_neg hre];obtain ⟨RX, hRX⟩ : ∃ RX, RX = plX L acc s price n now := ⟨_, rfl⟩;rw [← hRX];have HRX := hideIt hRX;clear hRX;have hr0 : refE L acc s price n now = 0 := by omega
  rw [hr0] at HRF;obtain ⟨hck, hs, hpp, hnn, hnc, hsl, hnx, hac⟩ := HOK.out hr0;have hm := chk_may hck;clear HOK hre hr0;unfold laneV laneA at *;obtain ⟨cl, nx, bids, asks, owed⟩ := L;simp only at *;have hw1 : IntKind.i64.wrap (nx + 1) = nx + 1 := by have := hm.next; rw [IntKind.wrap_i64]; simp only at this; omega
  go_enter Tryz.func79, Tryz.ntmps79
  go_upto_region 1 with fail
  generalize (w.alloc (.cells #[.bool cl, .int .i64 nx, .slice ba bids.length bc, .slice aa asks.length ac, .slice oa owed.length oc] 59)).alloc (.cells #[.bool false, .int .i64 0, .slice none 0 0, .slice none 0 0, .slice none 0 0] 59) = w0 at *;obtain ⟨c0, c1, c2, c3, c4⟩ := X0.out.cells;simp only at c0 c1 c2 c3 c4
  go_wp2_with fail
  refine (HRF.out _ X0.out.bel).mono ?_;rintro e w1 ⟨rfl, hb⟩;dsimp only;have X1 := hideIt (X0.out.keep hb);clear hb X0 c0 c1 c2 c3 c4 HRF;obtain ⟨c0, c1, c2, c3, c4⟩ := X1.out.cells;simp only at c0 c1 c2 c3 c4
  go_wp2_with fail
  refine (HCP.out _ X1.out.bel).mono ?_;rintro e w2 ⟨b1, a1, o1, rfl, hob, hoa, hoo, hsep, hb⟩;dsimp only;obtain ⟨b1a, b1c, rfl⟩ := own_len hob;obtain ⟨a1a, a1c, rfl⟩ := own_len hoa;obtain ⟨o1a, o1c, rfl⟩ := own_len hoo;have X2 := hideIt (X1.out.keep hb);have HOB := hideIt (own_base hob X1.out.size);have HOA := hideIt (own_base hoa X1.out.size);have HOO := hideIt (own_base hoo X1.out.size);have HSP := hideIt hsep;clear hob hoa hoo hsep hb HCP X1 c0 c1 c2 c3 c4;obtain ⟨c0, c1, c2, c3, c4⟩ := X2.out.cells;simp only at c0 c1 c2 c3 c4;have hs0 : w.heap.size < w2.heap.size := by have := X2.out.size; omega
  have hs1 : w.heap.size ≠ w2.heap.size := by omega
  go_upto_region 7 with fail
  have P3 : Hid (PS w w2.heap.size (w2.heap.size + 1) ⟨cl, nx, bids, asks, owed⟩ (.slice ba bids.length bc) (.slice aa asks.length ac) (.slice oa owed.length oc) ⟨nx, acc, price, n⟩ ⟨cl, nx + 1, bids, asks, owed⟩ [] (.slice b1a bids.length b1c) (.slice a1a asks.length a1c) (.slice o1a owed.length o1c) (.slice none 0 0) ((w2.alloc (.cells #[.bool cl, .int .i64 (nx + 1), .slice b1a bids.length b1c, .slice a1a asks.length a1c, .slice o1a owed.length o1c, .slice none 0 0] 174)).alloc (.cells #[.int .i64 nx, .int .i64 acc, .int .i64 price, .int .i64 n] 115))) := PS.first (L := ⟨cl, nx, bids, asks, owed⟩) acc price n X2.out HOB.out HOA.out HOO.out HSP.out;clear HOB HOA HOO HSP X2 c0 c1 c2 c3 c4 hs0 hs1 hw1;generalize (w2.alloc (.cells #[.bool cl, .int .i64 (nx + 1), .slice b1a bids.length b1c, .slice a1a asks.length a1c, .slice o1a owed.length o1c, .slice none 0 0] 174)).alloc (.cells #[.int .i64 nx, .int .i64 acc, .int .i64 price, .int .i64 n] 115) = w3 at *;generalize w2.heap.size + 1 = K at *;generalize w2.heap.size = D at *;have hMW := hideIt hm;clear hm
  rcases hs with rfl | rfl
  ·cases cl
   ·have HTR := hideIt (trade1_is D (w.heap.size + 2) 0 ⟨false, nx + 1, bids, asks, owed⟩ [] (.slice b1a bids.length b1c) (.slice a1a asks.length a1c) (.slice o1a owed.length o1c) (.slice none 0 0) ⟨nx, acc, price, n⟩ w3 P3.out.deal P3.out.cb.size hMW.out.ow (by have := hMW.out.la; simp only at this ⊢; omega) (by have := hMW.out.la; simp only [List.length_nil] at this ⊢; omega) hMW.out.ta (by simp only; omega) (by simp only; omega))
    simp only at HTR;have HPT : Hid (plT ⟨false, nx, bids, asks, owed⟩ 1 ⟨nx, acc, price, n⟩ = trL 1 ⟨nx, acc, price, n⟩ asks n owed []) := rfl;have HTK := trL_ok 1 ⟨nx, acc, price, n⟩ (by simp only; omega) asks n owed [] 0 hMW.out.ow hMW.out.ta (by omega)
    generalize trL 1 ⟨nx, acc, price, n⟩ asks n owed [] = TR at *;obtain ⟨T, left, ow, F⟩ := TR;simp only at HTK;have HOW := hideIt (okO_mono HTK.1 (show 0 + 3 * asks.length ≤ 200 by have := hMW.out.la; simp only at this; omega))
    have HLF := hideIt HTK.2.1;clear HTK;have HLB : Hid (bids.length ≤ 40) := hMW.out.lb;unfold TrBack1 at HTR;simp only at HTR;obtain ⟨c0, c1, c2, c3, c4⟩ := P3.out.cb.cells;have k0 : w3.cell? ⟨K, 0, none⟩ = some (.int .i64 nx) := by rw [cell_at P3.out.ord]; rfl
    have k1 : w3.cell? ⟨K, 1, none⟩ = some (.int .i64 acc) := by rw [cell_at P3.out.ord]; rfl
    have k2 : w3.cell? ⟨K, 2, none⟩ = some (.int .i64 price) := by rw [cell_at P3.out.ord]; rfl
    have k3 : w3.cell? ⟨K, 3, none⟩ = some (.int .i64 n) := by rw [cell_at P3.out.ord]; rfl
    simp only at c0 c1 c2 c3 c4
    go_wp2_with fail
    refine HTR.out.mono ?_;rintro e w4 ⟨tv, o4, f4, rfl, hD4, hblk, htc⟩;dsimp only;obtain ⟨tva, tvc, rfl⟩ := own_len hD4.oa;have P4 := hideIt (P3.out.step hD4 htc rfl hblk (.inr (.inl rfl)));have P5 := hideIt (P4.out.left left);have j3 : w4.cell? ⟨K, 3, none⟩ = some (.int .i64 n) := by rw [cell_at P4.out.ord]; rfl
    have jf : w4.frozen? ⟨K, 3, none⟩ = false := free_at P4.out.ord 3;clear hD4 hblk htc HTR P3 P4 k0 k1 k2 k3 c0 c1 c2 c3 c4
    go_upto_region 9 with fail
    clear j3 jf;generalize w4.setCell ⟨K, 3, none⟩ (.int .i64 left) = w5 at *;obtain ⟨hlf0, hlf1⟩ := HLF.out;have k0 : w5.cell? ⟨K, 0, none⟩ = some (.int .i64 nx) := by rw [cell_at P5.out.ord]; rfl
    have k1 : w5.cell? ⟨K, 1, none⟩ = some (.int .i64 acc) := by rw [cell_at P5.out.ord]; rfl
    have k2 : w5.cell? ⟨K, 2, none⟩ = some (.int .i64 price) := by rw [cell_at P5.out.ord]; rfl
    have k3 : w5.cell? ⟨K, 3, none⟩ = some (.int .i64 left) := by rw [cell_at P5.out.ord]; rfl
    by_cases hlp : 0 < left
    ·cases now
     ·have HRR : Hid (RX = if overB ow = true then (zLane, [], 0, 131) else (⟨false, nx + 1, laidL (ahB 1) ⟨nx, acc, price, left⟩ bids, T, ow⟩, F, nx, 0)) := by
       show _ = _
       rw [HRX.out];unfold plX;rw [HPT.out];simp only [plR, plL, if_pos hlp, Bool.false_eq_true, if_false]
       rfl
      have HOR := hideIt (fun W => orders_is D 1 W);rw [show sideOff 1 = 2 from rfl] at HOR;have HSV := hideIt (fun W => served_is 1 W);have dO : w5.cell? ⟨D, 2, none⟩ = some (.slice b1a bids.length b1c) := by rw [cell_at P5.out.deal.box]; rfl
      have hD5 : D < w5.heap.size := P5.out.deal.lt;have hK5 : K < w5.heap.size := (Array.getElem?_eq_some_iff.1 P5.out.ord).1;have nD5 : D ≠ w5.heap.size := by omega
      have nK5 : K ≠ w5.heap.size := by omega
      have HV5 : Hid (Below w5.heap.size w5 (w5.alloc (.cells #[.int .i64 1] 3)).drew) := (below1 w5 _).drew;have HLD := hideIt (laidO_is 128 #[.pointer (some ⟨w5.heap.size, 0, none⟩)] eg49 (w.heap.size + 2) (.slice b1a bids.length b1c) bids ⟨nx, acc, price, left⟩ (ahB 1) (w5.alloc (.cells #[.int .i64 1] 3)).drew (own_keep P5.out.deal.ob HV5.out) (Nat.le_trans P5.out.cb.size HV5.out.size) (by have := HLB.out; omega) (fun W hW => cmp49 (Nat.lt_of_lt_of_le (by simp) hW.size) ((hW.cell (p := ⟨w5.heap.size, 0, none⟩) (by simp)).trans (by simp))))
      unfold ordE at HLD;simp only at HLD;have HFB := hideIt (fun wy (b2 : Value) (ho : wy.ownsRow (w.heap.size + 2) 115 4 b2 (laidL (ahB 1) ⟨nx, acc, price, left⟩ bids).length (celC ordE (laidL (ahB 1) ⟨nx, acc, price, left⟩ bids))) hg => P5.out.laidFB (wv := (w5.alloc (.cells #[.int .i64 1] 3)).drew) (wy := wy) (X2 := laidL (ahB 1) ⟨nx, acc, price, left⟩ bids) HV5.out ho hg);clear HV5
      go_wp2_with fail
      refine (HOR.out _).mono ?_;rintro e w6 ⟨rfl, rfl⟩;dsimp only
      go_upto_region 13 with fail
      go_cut [74] from 67 to 75 (fun _ wx => Hid (∃ va vc, FSt w D ⟨false, nx, bids, asks, owed⟩ (.slice ba bids.length bc) (.slice aa asks.length ac) (.slice oa owed.length oc) ⟨false, nx + 1, laidL (ahB 1) ⟨nx, acc, price, left⟩ bids, T, ow⟩ F (.slice va (laidL (ahB 1) ⟨nx, acc, price, left⟩ bids).length vc) (.slice tva T.length tvc) o4 f4 wx))
      case first =>
       clear P5 HOW HLF HRR HRX hMW HPT HLB HOR
       go_region_with (first | (go_at_call 92; refine (HSV.out _).mono ?_; rintro e w6 ⟨rfl, rfl⟩) | (go_at_call 115; refine HLD.out.mono ?_; rintro e w7 ⟨v7, rfl, ho7, hg7⟩; obtain ⟨va, vc, rfl⟩ := own_len ho7; have HX := hideIt (HFB.out _ _ ho7 hg7).1; obtain ⟨-, y1, y2, y3⟩ := HFB.out _ _ ho7 hg7; clear ho7 hg7))
       all_goals go_wp2_with fail
       all_goals go_meet
       all_goals exact ⟨_, _, HX.out⟩
      case rest =>
      clear k0 k1 k2 k3 dO hD5 hK5 nD5 nK5 HLD HFB HSV P5;obtain ⟨va, vc, hY⟩ := hcut.out;clear hcut;have Y1 := hideIt hY;clear hY;have HOV := hideIt (isOver2_is w D _ _ _ _ _ _ _ _ _ _ _ Y1.out (Nat.le_trans HOW.out.1 (by omega)));simp only at HOV
      go_wp2_with fail
      refine HOV.out.mono ?_;rintro e w8 ⟨rfl, hb⟩;dsimp only;clear HLF HOW;have Y8 := hideIt (Y1.out.keep hb);clear hb HOV Y1;cases hov : overB (ow)
      ·have HR : Hid (RX = (⟨false, nx + 1, laidL (ahB 1) ⟨nx, acc, price, left⟩ bids, T, ow⟩, F, nx, 0)) := HRR.out.trans (if_neg (by rw [hov]; simp))
       clear HRR;obtain ⟨t0, t1, t2, t3, t4, t5⟩ := Y8.out.cells;obtain ⟨-, x1, -, -, -⟩ := Y8.out.cb.cells;obtain ⟨ooa, ooc, hoo⟩ := own_len Y8.out.oo;obtain ⟨ffa, ffc, hff⟩ := own_len Y8.out.fl;subst hoo hff;have z0 : w8.cell? ⟨w.heap.size + 1, 0, none⟩ = some (.bool false) := by rw [cell_at Y8.out.cb.res]; rfl
       have z1 : w8.cell? ⟨w.heap.size + 1, 1, none⟩ = some (.int .i64 0) := by rw [cell_at Y8.out.cb.res]; rfl
       have z2 : w8.cell? ⟨w.heap.size + 1, 2, none⟩ = some (.slice none 0 0) := by rw [cell_at Y8.out.cb.res]; rfl
       have z3 : w8.cell? ⟨w.heap.size + 1, 3, none⟩ = some (.slice none 0 0) := by rw [cell_at Y8.out.cb.res]; rfl
       have z4 : w8.cell? ⟨w.heap.size + 1, 4, none⟩ = some (.slice none 0 0) := by rw [cell_at Y8.out.cb.res]; rfl
       have zf : ∀ j, w8.frozen? ⟨w.heap.size + 1, j, none⟩ = false := fun j => free_at Y8.out.cb.res j
       have nD : D ≠ w.heap.size + 1 := by have := Y8.out.lD; omega
       have nB : w.heap.size ≠ w.heap.size + 1 := by omega
       have nD2 := nD.symm;have nB2 := nB.symm;have HD := hideIt Y8.out.done;simp only [dealO] at t0 t1 t2 t3 t4 t5 x1;unfold five5 at HD
       try simp only [dealO] at HD
       try simp only [dealO] at HR
       clear Y8
       go_upto_region 16 with fail
       go_region_held3 (fun W => W.cell? ⟨D, 0, none⟩ = some (.bool false) ∧ W.cell? ⟨D, 1, none⟩ = some (.int .i64 (nx + 1)) ∧ W.cell? ⟨D, 2, none⟩ = some (.slice va (laidL (ahB 1) ⟨nx, acc, price, left⟩ bids).length vc) ∧ W.cell? ⟨D, 3, none⟩ = some (.slice tva T.length tvc) ∧ W.cell? ⟨D, 4, none⟩ = some (.slice ooa (ow).length ooc) ∧ W.cell? ⟨D, 5, none⟩ = some (.slice ffa F.length ffc) ∧ W.cell? ⟨w.heap.size, 1, none⟩ = some (.int .i64 nx)) (go_keep) (fail)
       go_wp2
       revert HD
       generalize (World.setCell _ ⟨w.heap.size + 1, 4, none⟩ _) = W;intro HD;have HZ := HD.out.res2;have HQ := HD.out.back2 HR.out;clear HD HR;exact bodyPost_ret (by simp [results, Tryz.results79, go_sem, cell_at HZ]) rfl HQ
      ·have HR : Hid (RX = (zLane, [], 0, 131)) := HRR.out.trans (if_pos hov);have z0 : w8.cell? ⟨w.heap.size + 1, 0, none⟩ = some (.bool false) := by rw [cell_at Y8.out.cb.res]; rfl
       have z1 : w8.cell? ⟨w.heap.size + 1, 1, none⟩ = some (.int .i64 0) := by rw [cell_at Y8.out.cb.res]; rfl
       have z2 : w8.cell? ⟨w.heap.size + 1, 2, none⟩ = some (.slice none 0 0) := by rw [cell_at Y8.out.cb.res]; rfl
       have z3 : w8.cell? ⟨w.heap.size + 1, 3, none⟩ = some (.slice none 0 0) := by rw [cell_at Y8.out.cb.res]; rfl
       have z4 : w8.cell? ⟨w.heap.size + 1, 4, none⟩ = some (.slice none 0 0) := by rw [cell_at Y8.out.cb.res]; rfl
       have zf : ∀ j, w8.frozen? ⟨w.heap.size + 1, j, none⟩ = false := fun j => free_at Y8.out.cb.res j
       have HP := hideIt (Y8.out.cb.put (.bool false) (.int .i64 0) (.slice none 0 0) (.slice none 0 0) (.slice none 0 0));clear Y8 HRR;go_wp2
       revert HP
       generalize (World.setCell _ ⟨w.heap.size + 1, 4, none⟩ _) = W;intro HP;exact bodyPost_ret (v := .tuple #[laneV zLane (.slice none 0 0) (.slice none 0 0) (.slice none 0 0), .slice none 0 0, .int .i64 0, .int .i64 131]) (by simp [results, Tryz.results79, go_sem, cell_at HP.out.1, laneV, laneA, zLane]) rfl (by unfold PlBack; rw [HR.out]; exact ⟨_, _, _, _, rfl, own_nil _ _, own_nil _ _, own_nil _ _, own_nil _ _, HP.out.2⟩)
     ·have HGB := hideIt (giveBack_is D (w.heap.size + 2) 200 ⟨false, nx + 1, bids, T, ow⟩ F (.slice b1a bids.length b1c) (.slice tva T.length tvc) o4 f4 1 ⟨nx, acc, price, left⟩ w5 P5.out.deal P5.out.cb.size HOW.out (by omega) (by simp only; omega) (by simp only; omega))
      have HRR : Hid (RX = if overB (oweL acc (brA 1) (brN 1 ⟨nx, acc, price, left⟩) ow) = true then (zLane, [], 0, 131) else (dealO ⟨false, nx + 1, bids, T, ow⟩ acc (brA 1) (brN 1 ⟨nx, acc, price, left⟩), F, nx, 0)) := by
       show _ = _
       rw [HRX.out];unfold plX;rw [HPT.out];simp only [plR, plL, if_pos hlp, if_true]
       rfl
      have OW9 := hideIt (okO_owe (acc := acc) (asset := brA 1) (n := brN 1 ⟨nx, acc, price, left⟩) HOW.out (by
       have := Int.mul_le_mul (show price ≤ 1000000 by omega) (show left ≤ 1000000 by omega) hlf0 (by omega : (0 : Int) ≤ 1000000);have h2 := Int.mul_nonneg (show 0 ≤ price by omega) hlf0;unfold brN
       simp only
       split <;> omega))
      unfold ordE at HGB;simp only at HGB
      go_wp2_with fail
      refine HGB.out.mono ?_;rintro e w6 ⟨rfl, o6, hD6, hT6⟩;dsimp only;have P6 := hideIt (P5.out.step hD6 (Tcr.ofTch (q := none) hT6) rfl rfl (.inr (.inr rfl)));clear hD6 hT6 HGB P5 k0 k1 k2 k3;have Y1 := hideIt P6.out.fin;have HOV := hideIt (isOver2_is w D _ _ _ _ _ _ _ _ _ _ _ Y1.out (Nat.le_trans OW9.out.1 (by omega)));rw [show (dealO ⟨false, nx + 1, bids, T, ow⟩ acc (brA 1) (brN 1 ⟨nx, acc, price, left⟩)).owed = oweL acc (brA 1) (brN 1 ⟨nx, acc, price, left⟩) ow from rfl] at HOV;clear P6;clear OW9
      go_wp2_with fail
      refine HOV.out.mono ?_;rintro e w8 ⟨rfl, hb⟩;dsimp only;clear HLF HOW;have Y8 := hideIt (Y1.out.keep hb);clear hb HOV Y1;cases hov : overB (oweL acc (brA 1) (brN 1 ⟨nx, acc, price, left⟩) ow)
      ·have HR : Hid (RX = ((dealO ⟨false, nx + 1, bids, T, ow⟩ acc (brA 1) (brN 1 ⟨nx, acc, price, left⟩)), F, nx, 0)) := HRR.out.trans (if_neg (by rw [hov]; simp))
       clear HRR;obtain ⟨t0, t1, t2, t3, t4, t5⟩ := Y8.out.cells;obtain ⟨-, x1, -, -, -⟩ := Y8.out.cb.cells;obtain ⟨ooa, ooc, hoo⟩ := own_len Y8.out.oo;obtain ⟨ffa, ffc, hff⟩ := own_len Y8.out.fl;subst hoo hff;have z0 : w8.cell? ⟨w.heap.size + 1, 0, none⟩ = some (.bool false) := by rw [cell_at Y8.out.cb.res]; rfl
       have z1 : w8.cell? ⟨w.heap.size + 1, 1, none⟩ = some (.int .i64 0) := by rw [cell_at Y8.out.cb.res]; rfl
       have z2 : w8.cell? ⟨w.heap.size + 1, 2, none⟩ = some (.slice none 0 0) := by rw [cell_at Y8.out.cb.res]; rfl
       have z3 : w8.cell? ⟨w.heap.size + 1, 3, none⟩ = some (.slice none 0 0) := by rw [cell_at Y8.out.cb.res]; rfl
       have z4 : w8.cell? ⟨w.heap.size + 1, 4, none⟩ = some (.slice none 0 0) := by rw [cell_at Y8.out.cb.res]; rfl
       have zf : ∀ j, w8.frozen? ⟨w.heap.size + 1, j, none⟩ = false := fun j => free_at Y8.out.cb.res j
       have nD : D ≠ w.heap.size + 1 := by have := Y8.out.lD; omega
       have nB : w.heap.size ≠ w.heap.size + 1 := by omega
       have nD2 := nD.symm;have nB2 := nB.symm;have HD := hideIt Y8.out.done;simp only [dealO] at t0 t1 t2 t3 t4 t5 x1;unfold five5 at HD
       try simp only [dealO] at HD
       try simp only [dealO] at HR
       clear Y8
       go_upto_region 16 with fail
       go_region_held3 (fun W => W.cell? ⟨D, 0, none⟩ = some (.bool false) ∧ W.cell? ⟨D, 1, none⟩ = some (.int .i64 (nx + 1)) ∧ W.cell? ⟨D, 2, none⟩ = some (.slice b1a bids.length b1c) ∧ W.cell? ⟨D, 3, none⟩ = some (.slice tva T.length tvc) ∧ W.cell? ⟨D, 4, none⟩ = some (.slice ooa (oweL acc (brA 1) (brN 1 ⟨nx, acc, price, left⟩) ow).length ooc) ∧ W.cell? ⟨D, 5, none⟩ = some (.slice ffa F.length ffc) ∧ W.cell? ⟨w.heap.size, 1, none⟩ = some (.int .i64 nx)) (go_keep) (fail)
       go_wp2
       revert HD
       generalize (World.setCell _ ⟨w.heap.size + 1, 4, none⟩ _) = W;intro HD;have HZ := HD.out.res2;have HQ := HD.out.back2 HR.out;clear HD HR;exact bodyPost_ret (by simp [results, Tryz.results79, go_sem, cell_at HZ]) rfl HQ
      ·have HR : Hid (RX = (zLane, [], 0, 131)) := HRR.out.trans (if_pos hov);have z0 : w8.cell? ⟨w.heap.size + 1, 0, none⟩ = some (.bool false) := by rw [cell_at Y8.out.cb.res]; rfl
       have z1 : w8.cell? ⟨w.heap.size + 1, 1, none⟩ = some (.int .i64 0) := by rw [cell_at Y8.out.cb.res]; rfl
       have z2 : w8.cell? ⟨w.heap.size + 1, 2, none⟩ = some (.slice none 0 0) := by rw [cell_at Y8.out.cb.res]; rfl
       have z3 : w8.cell? ⟨w.heap.size + 1, 3, none⟩ = some (.slice none 0 0) := by rw [cell_at Y8.out.cb.res]; rfl
       have z4 : w8.cell? ⟨w.heap.size + 1, 4, none⟩ = some (.slice none 0 0) := by rw [cell_at Y8.out.cb.res]; rfl
       have zf : ∀ j, w8.frozen? ⟨w.heap.size + 1, j, none⟩ = false := fun j => free_at Y8.out.cb.res j
       have HP := hideIt (Y8.out.cb.put (.bool false) (.int .i64 0) (.slice none 0 0) (.slice none 0 0) (.slice none 0 0));clear Y8 HRR;go_wp2
       revert HP
       generalize (World.setCell _ ⟨w.heap.size + 1, 4, none⟩ _) = W;intro HP;exact bodyPost_ret (v := .tuple #[laneV zLane (.slice none 0 0) (.slice none 0 0) (.slice none 0 0), .slice none 0 0, .int .i64 0, .int .i64 131]) (by simp [results, Tryz.results79, go_sem, cell_at HP.out.1, laneV, laneA, zLane]) rfl (by unfold PlBack; rw [HR.out]; exact ⟨_, _, _, _, rfl, own_nil _ _, own_nil _ _, own_nil _ _, own_nil _ _, HP.out.2⟩)
    ·have HRR : Hid (RX = if overB ow = true then (zLane, [], 0, 131) else (⟨false, nx + 1, bids, T, ow⟩, F, nx, 0)) := by
      show _ = _
      rw [HRX.out];unfold plX;rw [HPT.out];simp only [plR, plL, if_neg hlp]
      rfl
     clear k0 k1 k2;have Y1 := hideIt P5.out.fin;have HOV := hideIt (isOver2_is w D _ _ _ _ _ _ _ _ _ _ _ Y1.out (Nat.le_trans HOW.out.1 (by omega)));simp only at HOV;clear P5
     go_wp2_with fail
     refine HOV.out.mono ?_;rintro e w8 ⟨rfl, hb⟩;dsimp only;clear HLF HOW;have Y8 := hideIt (Y1.out.keep hb);clear hb HOV Y1;cases hov : overB (ow)
     ·have HR : Hid (RX = (⟨false, nx + 1, bids, T, ow⟩, F, nx, 0)) := HRR.out.trans (if_neg (by rw [hov]; simp))
      clear HRR;obtain ⟨t0, t1, t2, t3, t4, t5⟩ := Y8.out.cells;obtain ⟨-, x1, -, -, -⟩ := Y8.out.cb.cells;obtain ⟨ooa, ooc, hoo⟩ := own_len Y8.out.oo;obtain ⟨ffa, ffc, hff⟩ := own_len Y8.out.fl;subst hoo hff;have z0 : w8.cell? ⟨w.heap.size + 1, 0, none⟩ = some (.bool false) := by rw [cell_at Y8.out.cb.res]; rfl
      have z1 : w8.cell? ⟨w.heap.size + 1, 1, none⟩ = some (.int .i64 0) := by rw [cell_at Y8.out.cb.res]; rfl
      have z2 : w8.cell? ⟨w.heap.size + 1, 2, none⟩ = some (.slice none 0 0) := by rw [cell_at Y8.out.cb.res]; rfl
      have z3 : w8.cell? ⟨w.heap.size + 1, 3, none⟩ = some (.slice none 0 0) := by rw [cell_at Y8.out.cb.res]; rfl
      have z4 : w8.cell? ⟨w.heap.size + 1, 4, none⟩ = some (.slice none 0 0) := by rw [cell_at Y8.out.cb.res]; rfl
      have zf : ∀ j, w8.frozen? ⟨w.heap.size + 1, j, none⟩ = false := fun j => free_at Y8.out.cb.res j
      have nD : D ≠ w.heap.size + 1 := by have := Y8.out.lD; omega
      have nB : w.heap.size ≠ w.heap.size + 1 := by omega
      have nD2 := nD.symm;have nB2 := nB.symm;have HD := hideIt Y8.out.done;simp only [dealO] at t0 t1 t2 t3 t4 t5 x1;unfold five5 at HD
      try simp only [dealO] at HD
      try simp only [dealO] at HR
      clear Y8
      go_upto_region 16 with fail
      go_region_held3 (fun W => W.cell? ⟨D, 0, none⟩ = some (.bool false) ∧ W.cell? ⟨D, 1, none⟩ = some (.int .i64 (nx + 1)) ∧ W.cell? ⟨D, 2, none⟩ = some (.slice b1a bids.length b1c) ∧ W.cell? ⟨D, 3, none⟩ = some (.slice tva T.length tvc) ∧ W.cell? ⟨D, 4, none⟩ = some (.slice ooa (ow).length ooc) ∧ W.cell? ⟨D, 5, none⟩ = some (.slice ffa F.length ffc) ∧ W.cell? ⟨w.heap.size, 1, none⟩ = some (.int .i64 nx)) (go_keep) (fail)
      go_wp2
      revert HD
      generalize (World.setCell _ ⟨w.heap.size + 1, 4, none⟩ _) = W;intro HD;have HZ := HD.out.res2;have HQ := HD.out.back2 HR.out;clear HD HR;exact bodyPost_ret (by simp [results, Tryz.results79, go_sem, cell_at HZ]) rfl HQ
     ·have HR : Hid (RX = (zLane, [], 0, 131)) := HRR.out.trans (if_pos hov);have z0 : w8.cell? ⟨w.heap.size + 1, 0, none⟩ = some (.bool false) := by rw [cell_at Y8.out.cb.res]; rfl
      have z1 : w8.cell? ⟨w.heap.size + 1, 1, none⟩ = some (.int .i64 0) := by rw [cell_at Y8.out.cb.res]; rfl
      have z2 : w8.cell? ⟨w.heap.size + 1, 2, none⟩ = some (.slice none 0 0) := by rw [cell_at Y8.out.cb.res]; rfl
      have z3 : w8.cell? ⟨w.heap.size + 1, 3, none⟩ = some (.slice none 0 0) := by rw [cell_at Y8.out.cb.res]; rfl
      have z4 : w8.cell? ⟨w.heap.size + 1, 4, none⟩ = some (.slice none 0 0) := by rw [cell_at Y8.out.cb.res]; rfl
      have zf : ∀ j, w8.frozen? ⟨w.heap.size + 1, j, none⟩ = false := fun j => free_at Y8.out.cb.res j
      have HP := hideIt (Y8.out.cb.put (.bool false) (.int .i64 0) (.slice none 0 0) (.slice none 0 0) (.slice none 0 0));clear Y8 HRR;go_wp2
      revert HP
      generalize (World.setCell _ ⟨w.heap.size + 1, 4, none⟩ _) = W;intro HP;exact bodyPost_ret (v := .tuple #[laneV zLane (.slice none 0 0) (.slice none 0 0) (.slice none 0 0), .slice none 0 0, .int .i64 0, .int .i64 131]) (by simp [results, Tryz.results79, go_sem, cell_at HP.out.1, laneV, laneA, zLane]) rfl (by unfold PlBack; rw [HR.out]; exact ⟨_, _, _, _, rfl, own_nil _ _, own_nil _ _, own_nil _ _, own_nil _ _, HP.out.2⟩)
   ·obtain rfl : now = false := by simpa using hnc
    have HLB : Hid (bids.length ≤ 40) := hMW.out.lb;obtain ⟨c0, c1, c2, c3, c4⟩ := P3.out.cb.cells;simp only at c0 c1 c2 c3 c4
    go_upto_region 9 with fail
    clear c0 c1 c2 c3 c4;obtain ⟨T, left, ow, F, tva, tvc, o4, f4, hPT, hP5, hO, hL⟩ : ∃ T left ow F tva tvc o4 f4, plT ⟨true, nx, bids, asks, owed⟩ 1 ⟨nx, acc, price, n⟩ = (T, left, ow, F) ∧ PS w D K ⟨true, nx, bids, asks, owed⟩ (.slice ba bids.length bc) (.slice aa asks.length ac) (.slice oa owed.length oc) ⟨nx, acc, price, left⟩ ⟨true, nx + 1, bids, T, ow⟩ F (.slice b1a bids.length b1c) (.slice tva T.length tvc) o4 f4 w3 ∧ OkO 200 ow ∧ (0 ≤ left ∧ left ≤ 1000000) := ⟨asks, n, owed, [], a1a, a1c, _, _, rfl, P3.out, okO_mono hMW.out.ow (by omega), by omega⟩;have HPT := hideIt hPT;have P5 := hideIt hP5;have HOW := hideIt hO;have HLF := hideIt hL;clear hPT hP5 hO hL P3 hnc;obtain ⟨w5, rfl⟩ : ∃ w5, w5 = w3 := ⟨_, rfl⟩;obtain ⟨hlf0, hlf1⟩ := HLF.out;have k0 : w5.cell? ⟨K, 0, none⟩ = some (.int .i64 nx) := by rw [cell_at P5.out.ord]; rfl
    have k1 : w5.cell? ⟨K, 1, none⟩ = some (.int .i64 acc) := by rw [cell_at P5.out.ord]; rfl
    have k2 : w5.cell? ⟨K, 2, none⟩ = some (.int .i64 price) := by rw [cell_at P5.out.ord]; rfl
    have k3 : w5.cell? ⟨K, 3, none⟩ = some (.int .i64 left) := by rw [cell_at P5.out.ord]; rfl
    by_cases hlp : 0 < left
    ·have HRR : Hid (RX = if overB ow = true then (zLane, [], 0, 131) else (⟨true, nx + 1, laidL (ahB 1) ⟨nx, acc, price, left⟩ bids, T, ow⟩, F, nx, 0)) := by
      show _ = _
      rw [HRX.out];unfold plX;rw [HPT.out];simp only [plR, plL, if_pos hlp, Bool.false_eq_true, if_false]
      rfl
     have HOR := hideIt (fun W => orders_is D 1 W);rw [show sideOff 1 = 2 from rfl] at HOR;have HSV := hideIt (fun W => served_is 1 W);have dO : w5.cell? ⟨D, 2, none⟩ = some (.slice b1a bids.length b1c) := by rw [cell_at P5.out.deal.box]; rfl
     have hD5 : D < w5.heap.size := P5.out.deal.lt;have hK5 : K < w5.heap.size := (Array.getElem?_eq_some_iff.1 P5.out.ord).1;have nD5 : D ≠ w5.heap.size := by omega
     have nK5 : K ≠ w5.heap.size := by omega
     have HV5 : Hid (Below w5.heap.size w5 (w5.alloc (.cells #[.int .i64 1] 3)).drew) := (below1 w5 _).drew;have HLD := hideIt (laidO_is 128 #[.pointer (some ⟨w5.heap.size, 0, none⟩)] eg49 (w.heap.size + 2) (.slice b1a bids.length b1c) bids ⟨nx, acc, price, left⟩ (ahB 1) (w5.alloc (.cells #[.int .i64 1] 3)).drew (own_keep P5.out.deal.ob HV5.out) (Nat.le_trans P5.out.cb.size HV5.out.size) (by have := HLB.out; omega) (fun W hW => cmp49 (Nat.lt_of_lt_of_le (by simp) hW.size) ((hW.cell (p := ⟨w5.heap.size, 0, none⟩) (by simp)).trans (by simp))))
     unfold ordE at HLD;simp only at HLD;have HFB := hideIt (fun wy (b2 : Value) (ho : wy.ownsRow (w.heap.size + 2) 115 4 b2 (laidL (ahB 1) ⟨nx, acc, price, left⟩ bids).length (celC ordE (laidL (ahB 1) ⟨nx, acc, price, left⟩ bids))) hg => P5.out.laidFB (wv := (w5.alloc (.cells #[.int .i64 1] 3)).drew) (wy := wy) (X2 := laidL (ahB 1) ⟨nx, acc, price, left⟩ bids) HV5.out ho hg);clear HV5
     go_wp2_with fail
     refine (HOR.out _).mono ?_;rintro e w6 ⟨rfl, rfl⟩;dsimp only
     go_upto_region 13 with fail
     go_cut [74] from 67 to 75 (fun _ wx => Hid (∃ va vc, FSt w D ⟨true, nx, bids, asks, owed⟩ (.slice ba bids.length bc) (.slice aa asks.length ac) (.slice oa owed.length oc) ⟨true, nx + 1, laidL (ahB 1) ⟨nx, acc, price, left⟩ bids, T, ow⟩ F (.slice va (laidL (ahB 1) ⟨nx, acc, price, left⟩ bids).length vc) (.slice tva T.length tvc) o4 f4 wx))
     case first =>
      clear P5 HOW HLF HRR HRX hMW HPT HLB HOR
      go_region_with (first | (go_at_call 92; refine (HSV.out _).mono ?_; rintro e w6 ⟨rfl, rfl⟩) | (go_at_call 115; refine HLD.out.mono ?_; rintro e w7 ⟨v7, rfl, ho7, hg7⟩; obtain ⟨va, vc, rfl⟩ := own_len ho7; have HX := hideIt (HFB.out _ _ ho7 hg7).1; obtain ⟨-, y1, y2, y3⟩ := HFB.out _ _ ho7 hg7; clear ho7 hg7))
      all_goals go_wp2_with fail
      all_goals go_meet
      all_goals exact ⟨_, _, HX.out⟩
     case rest =>
     clear k0 k1 k2 k3 dO hD5 hK5 nD5 nK5 HLD HFB HSV P5;obtain ⟨va, vc, hY⟩ := hcut.out;clear hcut;have Y1 := hideIt hY;clear hY;have HOV := hideIt (isOver2_is w D _ _ _ _ _ _ _ _ _ _ _ Y1.out (Nat.le_trans HOW.out.1 (by omega)));simp only at HOV
     go_wp2_with fail
     refine HOV.out.mono ?_;rintro e w8 ⟨rfl, hb⟩;dsimp only;clear HLF HOW;have Y8 := hideIt (Y1.out.keep hb);clear hb HOV Y1;cases hov : overB (ow)
     ·have HR : Hid (RX = (⟨true, nx + 1, laidL (ahB 1) ⟨nx, acc, price, left⟩ bids, T, ow⟩, F, nx, 0)) := HRR.out.trans (if_neg (by rw [hov]; simp))
      clear HRR;obtain ⟨t0, t1, t2, t3, t4, t5⟩ := Y8.out.cells;obtain ⟨-, x1, -, -, -⟩ := Y8.out.cb.cells;obtain ⟨ooa, ooc, hoo⟩ := own_len Y8.out.oo;obtain ⟨ffa, ffc, hff⟩ := own_len Y8.out.fl;subst hoo hff;have z0 : w8.cell? ⟨w.heap.size + 1, 0, none⟩ = some (.bool false) := by rw [cell_at Y8.out.cb.res]; rfl
      have z1 : w8.cell? ⟨w.heap.size + 1, 1, none⟩ = some (.int .i64 0) := by rw [cell_at Y8.out.cb.res]; rfl
      have z2 : w8.cell? ⟨w.heap.size + 1, 2, none⟩ = some (.slice none 0 0) := by rw [cell_at Y8.out.cb.res]; rfl
      have z3 : w8.cell? ⟨w.heap.size + 1, 3, none⟩ = some (.slice none 0 0) := by rw [cell_at Y8.out.cb.res]; rfl
      have z4 : w8.cell? ⟨w.heap.size + 1, 4, none⟩ = some (.slice none 0 0) := by rw [cell_at Y8.out.cb.res]; rfl
      have zf : ∀ j, w8.frozen? ⟨w.heap.size + 1, j, none⟩ = false := fun j => free_at Y8.out.cb.res j
      have nD : D ≠ w.heap.size + 1 := by have := Y8.out.lD; omega
      have nB : w.heap.size ≠ w.heap.size + 1 := by omega
      have nD2 := nD.symm;have nB2 := nB.symm;have HD := hideIt Y8.out.done;simp only [dealO] at t0 t1 t2 t3 t4 t5 x1;unfold five5 at HD
      try simp only [dealO] at HD
      try simp only [dealO] at HR
      clear Y8
      go_upto_region 16 with fail
      go_region_held3 (fun W => W.cell? ⟨D, 0, none⟩ = some (.bool true) ∧ W.cell? ⟨D, 1, none⟩ = some (.int .i64 (nx + 1)) ∧ W.cell? ⟨D, 2, none⟩ = some (.slice va (laidL (ahB 1) ⟨nx, acc, price, left⟩ bids).length vc) ∧ W.cell? ⟨D, 3, none⟩ = some (.slice tva T.length tvc) ∧ W.cell? ⟨D, 4, none⟩ = some (.slice ooa (ow).length ooc) ∧ W.cell? ⟨D, 5, none⟩ = some (.slice ffa F.length ffc) ∧ W.cell? ⟨w.heap.size, 1, none⟩ = some (.int .i64 nx)) (go_keep) (fail)
      go_wp2
      revert HD
      generalize (World.setCell _ ⟨w.heap.size + 1, 4, none⟩ _) = W;intro HD;have HZ := HD.out.res2;have HQ := HD.out.back2 HR.out;clear HD HR;exact bodyPost_ret (by simp [results, Tryz.results79, go_sem, cell_at HZ]) rfl HQ
     ·have HR : Hid (RX = (zLane, [], 0, 131)) := HRR.out.trans (if_pos hov);have z0 : w8.cell? ⟨w.heap.size + 1, 0, none⟩ = some (.bool false) := by rw [cell_at Y8.out.cb.res]; rfl
      have z1 : w8.cell? ⟨w.heap.size + 1, 1, none⟩ = some (.int .i64 0) := by rw [cell_at Y8.out.cb.res]; rfl
      have z2 : w8.cell? ⟨w.heap.size + 1, 2, none⟩ = some (.slice none 0 0) := by rw [cell_at Y8.out.cb.res]; rfl
      have z3 : w8.cell? ⟨w.heap.size + 1, 3, none⟩ = some (.slice none 0 0) := by rw [cell_at Y8.out.cb.res]; rfl
      have z4 : w8.cell? ⟨w.heap.size + 1, 4, none⟩ = some (.slice none 0 0) := by rw [cell_at Y8.out.cb.res]; rfl
      have zf : ∀ j, w8.frozen? ⟨w.heap.size + 1, j, none⟩ = false := fun j => free_at Y8.out.cb.res j
      have HP := hideIt (Y8.out.cb.put (.bool false) (.int .i64 0) (.slice none 0 0) (.slice none 0 0) (.slice none 0 0));clear Y8 HRR;go_wp2
      revert HP
      generalize (World.setCell _ ⟨w.heap.size + 1, 4, none⟩ _) = W;intro HP;exact bodyPost_ret (v := .tuple #[laneV zLane (.slice none 0 0) (.slice none 0 0) (.slice none 0 0), .slice none 0 0, .int .i64 0, .int .i64 131]) (by simp [results, Tryz.results79, go_sem, cell_at HP.out.1, laneV, laneA, zLane]) rfl (by unfold PlBack; rw [HR.out]; exact ⟨_, _, _, _, rfl, own_nil _ _, own_nil _ _, own_nil _ _, own_nil _ _, HP.out.2⟩)
    ·have HRR : Hid (RX = if overB ow = true then (zLane, [], 0, 131) else (⟨true, nx + 1, bids, T, ow⟩, F, nx, 0)) := by
      show _ = _
      rw [HRX.out];unfold plX;rw [HPT.out];simp only [plR, plL, if_neg hlp]
      rfl
     clear k0 k1 k2;have Y1 := hideIt P5.out.fin;have HOV := hideIt (isOver2_is w D _ _ _ _ _ _ _ _ _ _ _ Y1.out (Nat.le_trans HOW.out.1 (by omega)));simp only at HOV;clear P5
     go_wp2_with fail
     refine HOV.out.mono ?_;rintro e w8 ⟨rfl, hb⟩;dsimp only;clear HLF HOW;have Y8 := hideIt (Y1.out.keep hb);clear hb HOV Y1;cases hov : overB (ow)
     ·have HR : Hid (RX = (⟨true, nx + 1, bids, T, ow⟩, F, nx, 0)) := HRR.out.trans (if_neg (by rw [hov]; simp))
      clear HRR;obtain ⟨t0, t1, t2, t3, t4, t5⟩ := Y8.out.cells;obtain ⟨-, x1, -, -, -⟩ := Y8.out.cb.cells;obtain ⟨ooa, ooc, hoo⟩ := own_len Y8.out.oo;obtain ⟨ffa, ffc, hff⟩ := own_len Y8.out.fl;subst hoo hff;have z0 : w8.cell? ⟨w.heap.size + 1, 0, none⟩ = some (.bool false) := by rw [cell_at Y8.out.cb.res]; rfl
      have z1 : w8.cell? ⟨w.heap.size + 1, 1, none⟩ = some (.int .i64 0) := by rw [cell_at Y8.out.cb.res]; rfl
      have z2 : w8.cell? ⟨w.heap.size + 1, 2, none⟩ = some (.slice none 0 0) := by rw [cell_at Y8.out.cb.res]; rfl
      have z3 : w8.cell? ⟨w.heap.size + 1, 3, none⟩ = some (.slice none 0 0) := by rw [cell_at Y8.out.cb.res]; rfl
      have z4 : w8.cell? ⟨w.heap.size + 1, 4, none⟩ = some (.slice none 0 0) := by rw [cell_at Y8.out.cb.res]; rfl
      have zf : ∀ j, w8.frozen? ⟨w.heap.size + 1, j, none⟩ = false := fun j => free_at Y8.out.cb.res j
      have nD : D ≠ w.heap.size + 1 := by have := Y8.out.lD; omega
      have nB : w.heap.size ≠ w.heap.size + 1 := by omega
      have nD2 := nD.symm;have nB2 := nB.symm;have HD := hideIt Y8.out.done;simp only [dealO] at t0 t1 t2 t3 t4 t5 x1;unfold five5 at HD
      try simp only [dealO] at HD
      try simp only [dealO] at HR
      clear Y8
      go_upto_region 16 with fail
      go_region_held3 (fun W => W.cell? ⟨D, 0, none⟩ = some (.bool true) ∧ W.cell? ⟨D, 1, none⟩ = some (.int .i64 (nx + 1)) ∧ W.cell? ⟨D, 2, none⟩ = some (.slice b1a bids.length b1c) ∧ W.cell? ⟨D, 3, none⟩ = some (.slice tva T.length tvc) ∧ W.cell? ⟨D, 4, none⟩ = some (.slice ooa (ow).length ooc) ∧ W.cell? ⟨D, 5, none⟩ = some (.slice ffa F.length ffc) ∧ W.cell? ⟨w.heap.size, 1, none⟩ = some (.int .i64 nx)) (go_keep) (fail)
      go_wp2
      revert HD
      generalize (World.setCell _ ⟨w.heap.size + 1, 4, none⟩ _) = W;intro HD;have HZ := HD.out.res2;have HQ := HD.out.back2 HR.out;clear HD HR;exact bodyPost_ret (by simp [results, Tryz.results79, go_sem, cell_at HZ]) rfl HQ
     ·have HR : Hid (RX = (zLane, [], 0, 131)) := HRR.out.trans (if_pos hov);have z0 : w8.cell? ⟨w.heap.size + 1, 0, none⟩ = some (.bool false) := by rw [cell_at Y8.out.cb.res]; rfl
      have z1 : w8.cell? ⟨w.heap.size + 1, 1, none⟩ = some (.int .i64 0) := by rw [cell_at Y8.out.cb.res]; rfl
      have z2 : w8.cell? ⟨w.heap.size + 1, 2, none⟩ = some (.slice none 0 0) := by rw [cell_at Y8.out.cb.res]; rfl
      have z3 : w8.cell? ⟨w.heap.size + 1, 3, none⟩ = some (.slice none 0 0) := by rw [cell_at Y8.out.cb.res]; rfl
      have z4 : w8.cell? ⟨w.heap.size + 1, 4, none⟩ = some (.slice none 0 0) := by rw [cell_at Y8.out.cb.res]; rfl
      have zf : ∀ j, w8.frozen? ⟨w.heap.size + 1, j, none⟩ = false := fun j => free_at Y8.out.cb.res j
      have HP := hideIt (Y8.out.cb.put (.bool false) (.int .i64 0) (.slice none 0 0) (.slice none 0 0) (.slice none 0 0));clear Y8 HRR;go_wp2
      revert HP
      generalize (World.setCell _ ⟨w.heap.size + 1, 4, none⟩ _) = W;intro HP;exact bodyPost_ret (v := .tuple #[laneV zLane (.slice none 0 0) (.slice none 0 0) (.slice none 0 0), .slice none 0 0, .int .i64 0, .int .i64 131]) (by simp [results, Tryz.results79, go_sem, cell_at HP.out.1, laneV, laneA, zLane]) rfl (by unfold PlBack; rw [HR.out]; exact ⟨_, _, _, _, rfl, own_nil _ _, own_nil _ _, own_nil _ _, own_nil _ _, HP.out.2⟩)
  ·cases cl
   ·have HTR := hideIt (trade2_is D (w.heap.size + 2) 0 ⟨false, nx + 1, bids, asks, owed⟩ [] (.slice b1a bids.length b1c) (.slice a1a asks.length a1c) (.slice o1a owed.length o1c) (.slice none 0 0) ⟨nx, acc, price, n⟩ w3 P3.out.deal P3.out.cb.size hMW.out.ow (by have := hMW.out.lb; simp only at this ⊢; omega) (by have := hMW.out.lb; simp only [List.length_nil] at this ⊢; omega) hMW.out.tb (by simp only; omega) (by simp only; omega))
    simp only at HTR;have HPT : Hid (plT ⟨false, nx, bids, asks, owed⟩ 2 ⟨nx, acc, price, n⟩ = trL 2 ⟨nx, acc, price, n⟩ bids n owed []) := rfl;have HTK := trL_ok 2 ⟨nx, acc, price, n⟩ (by simp only; omega) bids n owed [] 0 hMW.out.ow hMW.out.tb (by omega)
    generalize trL 2 ⟨nx, acc, price, n⟩ bids n owed [] = TR at *;obtain ⟨T, left, ow, F⟩ := TR;simp only at HTK;have HOW := hideIt (okO_mono HTK.1 (show 0 + 3 * bids.length ≤ 200 by have := hMW.out.lb; simp only at this; omega))
    have HLF := hideIt HTK.2.1;clear HTK;have HLB : Hid (asks.length ≤ 40) := hMW.out.la;unfold TrBack2 at HTR;simp only at HTR;obtain ⟨c0, c1, c2, c3, c4⟩ := P3.out.cb.cells;have k0 : w3.cell? ⟨K, 0, none⟩ = some (.int .i64 nx) := by rw [cell_at P3.out.ord]; rfl
    have k1 : w3.cell? ⟨K, 1, none⟩ = some (.int .i64 acc) := by rw [cell_at P3.out.ord]; rfl
    have k2 : w3.cell? ⟨K, 2, none⟩ = some (.int .i64 price) := by rw [cell_at P3.out.ord]; rfl
    have k3 : w3.cell? ⟨K, 3, none⟩ = some (.int .i64 n) := by rw [cell_at P3.out.ord]; rfl
    simp only at c0 c1 c2 c3 c4
    go_wp2_with fail
    refine HTR.out.mono ?_;rintro e w4 ⟨tv, o4, f4, rfl, hD4, hblk, htc⟩;dsimp only;obtain ⟨tva, tvc, rfl⟩ := own_len hD4.ob;have P4 := hideIt (P3.out.step hD4 htc hblk rfl (.inl rfl));have P5 := hideIt (P4.out.left left);have j3 : w4.cell? ⟨K, 3, none⟩ = some (.int .i64 n) := by rw [cell_at P4.out.ord]; rfl
    have jf : w4.frozen? ⟨K, 3, none⟩ = false := free_at P4.out.ord 3;clear hD4 hblk htc HTR P3 P4 k0 k1 k2 k3 c0 c1 c2 c3 c4
    go_upto_region 9 with fail
    clear j3 jf;generalize w4.setCell ⟨K, 3, none⟩ (.int .i64 left) = w5 at *;obtain ⟨hlf0, hlf1⟩ := HLF.out;have k0 : w5.cell? ⟨K, 0, none⟩ = some (.int .i64 nx) := by rw [cell_at P5.out.ord]; rfl
    have k1 : w5.cell? ⟨K, 1, none⟩ = some (.int .i64 acc) := by rw [cell_at P5.out.ord]; rfl
    have k2 : w5.cell? ⟨K, 2, none⟩ = some (.int .i64 price) := by rw [cell_at P5.out.ord]; rfl
    have k3 : w5.cell? ⟨K, 3, none⟩ = some (.int .i64 left) := by rw [cell_at P5.out.ord]; rfl
    by_cases hlp : 0 < left
    ·cases now
     ·have HRR : Hid (RX = if overB ow = true then (zLane, [], 0, 131) else (⟨false, nx + 1, T, laidL (ahB 2) ⟨nx, acc, price, left⟩ asks, ow⟩, F, nx, 0)) := by
       show _ = _
       rw [HRX.out];unfold plX;rw [HPT.out];simp only [plR, plL, if_pos hlp, Bool.false_eq_true, if_false]
       rfl
      have HOR := hideIt (fun W => orders_is D 2 W);rw [show sideOff 2 = 3 from rfl] at HOR;have HSV := hideIt (fun W => served_is 2 W);have dO : w5.cell? ⟨D, 3, none⟩ = some (.slice a1a asks.length a1c) := by rw [cell_at P5.out.deal.box]; rfl
      have hD5 : D < w5.heap.size := P5.out.deal.lt;have hK5 : K < w5.heap.size := (Array.getElem?_eq_some_iff.1 P5.out.ord).1;have nD5 : D ≠ w5.heap.size := by omega
      have nK5 : K ≠ w5.heap.size := by omega
      have HV5 : Hid (Below w5.heap.size w5 (w5.alloc (.cells #[.int .i64 2] 3)).drew) := (below1 w5 _).drew;have HLD := hideIt (laidO_is 128 #[.pointer (some ⟨w5.heap.size, 0, none⟩)] eg49 (w.heap.size + 2) (.slice a1a asks.length a1c) asks ⟨nx, acc, price, left⟩ (ahB 2) (w5.alloc (.cells #[.int .i64 2] 3)).drew (own_keep P5.out.deal.oa HV5.out) (Nat.le_trans P5.out.cb.size HV5.out.size) (by have := HLB.out; omega) (fun W hW => cmp49 (Nat.lt_of_lt_of_le (by simp) hW.size) ((hW.cell (p := ⟨w5.heap.size, 0, none⟩) (by simp)).trans (by simp))))
      unfold ordE at HLD;simp only at HLD;have HFB := hideIt (fun wy (b2 : Value) (ho : wy.ownsRow (w.heap.size + 2) 115 4 b2 (laidL (ahB 2) ⟨nx, acc, price, left⟩ asks).length (celC ordE (laidL (ahB 2) ⟨nx, acc, price, left⟩ asks))) hg => P5.out.laidFA (wv := (w5.alloc (.cells #[.int .i64 2] 3)).drew) (wy := wy) (X2 := laidL (ahB 2) ⟨nx, acc, price, left⟩ asks) HV5.out ho hg);clear HV5
      go_wp2_with fail
      refine (HOR.out _).mono ?_;rintro e w6 ⟨rfl, rfl⟩;dsimp only
      go_upto_region 13 with fail
      go_cut [74] from 67 to 75 (fun _ wx => Hid (∃ va vc, FSt w D ⟨false, nx, bids, asks, owed⟩ (.slice ba bids.length bc) (.slice aa asks.length ac) (.slice oa owed.length oc) ⟨false, nx + 1, T, laidL (ahB 2) ⟨nx, acc, price, left⟩ asks, ow⟩ F (.slice tva T.length tvc) (.slice va (laidL (ahB 2) ⟨nx, acc, price, left⟩ asks).length vc) o4 f4 wx))
      case first =>
       clear P5 HOW HLF HRR HRX hMW HPT HLB HOR
       go_region_with (first | (go_at_call 92; refine (HSV.out _).mono ?_; rintro e w6 ⟨rfl, rfl⟩) | (go_at_call 115; refine HLD.out.mono ?_; rintro e w7 ⟨v7, rfl, ho7, hg7⟩; obtain ⟨va, vc, rfl⟩ := own_len ho7; have HX := hideIt (HFB.out _ _ ho7 hg7).1; obtain ⟨-, y1, y2, y3⟩ := HFB.out _ _ ho7 hg7; clear ho7 hg7))
       all_goals go_wp2_with fail
       all_goals go_meet
       all_goals exact ⟨_, _, HX.out⟩
      case rest =>
      clear k0 k1 k2 k3 dO hD5 hK5 nD5 nK5 HLD HFB HSV P5;obtain ⟨va, vc, hY⟩ := hcut.out;clear hcut;have Y1 := hideIt hY;clear hY;have HOV := hideIt (isOver2_is w D _ _ _ _ _ _ _ _ _ _ _ Y1.out (Nat.le_trans HOW.out.1 (by omega)));simp only at HOV
      go_wp2_with fail
      refine HOV.out.mono ?_;rintro e w8 ⟨rfl, hb⟩;dsimp only;clear HLF HOW;have Y8 := hideIt (Y1.out.keep hb);clear hb HOV Y1;cases hov : overB (ow)
      ·have HR : Hid (RX = (⟨false, nx + 1, T, laidL (ahB 2) ⟨nx, acc, price, left⟩ asks, ow⟩, F, nx, 0)) := HRR.out.trans (if_neg (by rw [hov]; simp))
       clear HRR;obtain ⟨t0, t1, t2, t3, t4, t5⟩ := Y8.out.cells;obtain ⟨-, x1, -, -, -⟩ := Y8.out.cb.cells;obtain ⟨ooa, ooc, hoo⟩ := own_len Y8.out.oo;obtain ⟨ffa, ffc, hff⟩ := own_len Y8.out.fl;subst hoo hff;have z0 : w8.cell? ⟨w.heap.size + 1, 0, none⟩ = some (.bool false) := by rw [cell_at Y8.out.cb.res]; rfl
       have z1 : w8.cell? ⟨w.heap.size + 1, 1, none⟩ = some (.int .i64 0) := by rw [cell_at Y8.out.cb.res]; rfl
       have z2 : w8.cell? ⟨w.heap.size + 1, 2, none⟩ = some (.slice none 0 0) := by rw [cell_at Y8.out.cb.res]; rfl
       have z3 : w8.cell? ⟨w.heap.size + 1, 3, none⟩ = some (.slice none 0 0) := by rw [cell_at Y8.out.cb.res]; rfl
       have z4 : w8.cell? ⟨w.heap.size + 1, 4, none⟩ = some (.slice none 0 0) := by rw [cell_at Y8.out.cb.res]; rfl
       have zf : ∀ j, w8.frozen? ⟨w.heap.size + 1, j, none⟩ = false := fun j => free_at Y8.out.cb.res j
       have nD : D ≠ w.heap.size + 1 := by have := Y8.out.lD; omega
       have nB : w.heap.size ≠ w.heap.size + 1 := by omega
       have nD2 := nD.symm;have nB2 := nB.symm;have HD := hideIt Y8.out.done;simp only [dealO] at t0 t1 t2 t3 t4 t5 x1;unfold five5 at HD
       try simp only [dealO] at HD
       try simp only [dealO] at HR
       clear Y8
       go_upto_region 16 with fail
       go_region_held3 (fun W => W.cell? ⟨D, 0, none⟩ = some (.bool false) ∧ W.cell? ⟨D, 1, none⟩ = some (.int .i64 (nx + 1)) ∧ W.cell? ⟨D, 2, none⟩ = some (.slice tva T.length tvc) ∧ W.cell? ⟨D, 3, none⟩ = some (.slice va (laidL (ahB 2) ⟨nx, acc, price, left⟩ asks).length vc) ∧ W.cell? ⟨D, 4, none⟩ = some (.slice ooa (ow).length ooc) ∧ W.cell? ⟨D, 5, none⟩ = some (.slice ffa F.length ffc) ∧ W.cell? ⟨w.heap.size, 1, none⟩ = some (.int .i64 nx)) (go_keep) (fail)
       go_wp2
       revert HD
       generalize (World.setCell _ ⟨w.heap.size + 1, 4, none⟩ _) = W;intro HD;have HZ := HD.out.res2;have HQ := HD.out.back2 HR.out;clear HD HR;exact bodyPost_ret (by simp [results, Tryz.results79, go_sem, cell_at HZ]) rfl HQ
      ·have HR : Hid (RX = (zLane, [], 0, 131)) := HRR.out.trans (if_pos hov);have z0 : w8.cell? ⟨w.heap.size + 1, 0, none⟩ = some (.bool false) := by rw [cell_at Y8.out.cb.res]; rfl
       have z1 : w8.cell? ⟨w.heap.size + 1, 1, none⟩ = some (.int .i64 0) := by rw [cell_at Y8.out.cb.res]; rfl
       have z2 : w8.cell? ⟨w.heap.size + 1, 2, none⟩ = some (.slice none 0 0) := by rw [cell_at Y8.out.cb.res]; rfl
       have z3 : w8.cell? ⟨w.heap.size + 1, 3, none⟩ = some (.slice none 0 0) := by rw [cell_at Y8.out.cb.res]; rfl
       have z4 : w8.cell? ⟨w.heap.size + 1, 4, none⟩ = some (.slice none 0 0) := by rw [cell_at Y8.out.cb.res]; rfl
       have zf : ∀ j, w8.frozen? ⟨w.heap.size + 1, j, none⟩ = false := fun j => free_at Y8.out.cb.res j
       have HP := hideIt (Y8.out.cb.put (.bool false) (.int .i64 0) (.slice none 0 0) (.slice none 0 0) (.slice none 0 0));clear Y8 HRR;go_wp2
       revert HP
       generalize (World.setCell _ ⟨w.heap.size + 1, 4, none⟩ _) = W;intro HP;exact bodyPost_ret (v := .tuple #[laneV zLane (.slice none 0 0) (.slice none 0 0) (.slice none 0 0), .slice none 0 0, .int .i64 0, .int .i64 131]) (by simp [results, Tryz.results79, go_sem, cell_at HP.out.1, laneV, laneA, zLane]) rfl (by unfold PlBack; rw [HR.out]; exact ⟨_, _, _, _, rfl, own_nil _ _, own_nil _ _, own_nil _ _, own_nil _ _, HP.out.2⟩)
     ·have HGB := hideIt (giveBack_is D (w.heap.size + 2) 200 ⟨false, nx + 1, T, asks, ow⟩ F (.slice tva T.length tvc) (.slice a1a asks.length a1c) o4 f4 2 ⟨nx, acc, price, left⟩ w5 P5.out.deal P5.out.cb.size HOW.out (by omega) (by simp only; omega) (by simp only; omega))
      have HRR : Hid (RX = if overB (oweL acc (brA 2) (brN 2 ⟨nx, acc, price, left⟩) ow) = true then (zLane, [], 0, 131) else (dealO ⟨false, nx + 1, T, asks, ow⟩ acc (brA 2) (brN 2 ⟨nx, acc, price, left⟩), F, nx, 0)) := by
       show _ = _
       rw [HRX.out];unfold plX;rw [HPT.out];simp only [plR, plL, if_pos hlp, if_true]
       rfl
      have OW9 := hideIt (okO_owe (acc := acc) (asset := brA 2) (n := brN 2 ⟨nx, acc, price, left⟩) HOW.out (by
       have := Int.mul_le_mul (show price ≤ 1000000 by omega) (show left ≤ 1000000 by omega) hlf0 (by omega : (0 : Int) ≤ 1000000);have h2 := Int.mul_nonneg (show 0 ≤ price by omega) hlf0;unfold brN
       simp only
       split <;> omega))
      unfold ordE at HGB;simp only at HGB
      go_wp2_with fail
      refine HGB.out.mono ?_;rintro e w6 ⟨rfl, o6, hD6, hT6⟩;dsimp only;have P6 := hideIt (P5.out.step hD6 (Tcr.ofTch (q := none) hT6) rfl rfl (.inr (.inr rfl)));clear hD6 hT6 HGB P5 k0 k1 k2 k3;have Y1 := hideIt P6.out.fin;have HOV := hideIt (isOver2_is w D _ _ _ _ _ _ _ _ _ _ _ Y1.out (Nat.le_trans OW9.out.1 (by omega)));rw [show (dealO ⟨false, nx + 1, T, asks, ow⟩ acc (brA 2) (brN 2 ⟨nx, acc, price, left⟩)).owed = oweL acc (brA 2) (brN 2 ⟨nx, acc, price, left⟩) ow from rfl] at HOV;clear P6;clear OW9
      go_wp2_with fail
      refine HOV.out.mono ?_;rintro e w8 ⟨rfl, hb⟩;dsimp only;clear HLF HOW;have Y8 := hideIt (Y1.out.keep hb);clear hb HOV Y1;cases hov : overB (oweL acc (brA 2) (brN 2 ⟨nx, acc, price, left⟩) ow)
      ·have HR : Hid (RX = ((dealO ⟨false, nx + 1, T, asks, ow⟩ acc (brA 2) (brN 2 ⟨nx, acc, price, left⟩)), F, nx, 0)) := HRR.out.trans (if_neg (by rw [hov]; simp))
       clear HRR;obtain ⟨t0, t1, t2, t3, t4, t5⟩ := Y8.out.cells;obtain ⟨-, x1, -, -, -⟩ := Y8.out.cb.cells;obtain ⟨ooa, ooc, hoo⟩ := own_len Y8.out.oo;obtain ⟨ffa, ffc, hff⟩ := own_len Y8.out.fl;subst hoo hff;have z0 : w8.cell? ⟨w.heap.size + 1, 0, none⟩ = some (.bool false) := by rw [cell_at Y8.out.cb.res]; rfl
       have z1 : w8.cell? ⟨w.heap.size + 1, 1, none⟩ = some (.int .i64 0) := by rw [cell_at Y8.out.cb.res]; rfl
       have z2 : w8.cell? ⟨w.heap.size + 1, 2, none⟩ = some (.slice none 0 0) := by rw [cell_at Y8.out.cb.res]; rfl
       have z3 : w8.cell? ⟨w.heap.size + 1, 3, none⟩ = some (.slice none 0 0) := by rw [cell_at Y8.out.cb.res]; rfl
       have z4 : w8.cell? ⟨w.heap.size + 1, 4, none⟩ = some (.slice none 0 0) := by rw [cell_at Y8.out.cb.res]; rfl
       have zf : ∀ j, w8.frozen? ⟨w.heap.size + 1, j, none⟩ = false := fun j => free_at Y8.out.cb.res j
       have nD : D ≠ w.heap.size + 1 := by have := Y8.out.lD; omega
       have nB : w.heap.size ≠ w.heap.size + 1 := by omega
       have nD2 := nD.symm;have nB2 := nB.symm;have HD := hideIt Y8.out.done;simp only [dealO] at t0 t1 t2 t3 t4 t5 x1;unfold five5 at HD
       try simp only [dealO] at HD
       try simp only [dealO] at HR
       clear Y8
       go_upto_region 16 with fail
       go_region_held3 (fun W => W.cell? ⟨D, 0, none⟩ = some (.bool false) ∧ W.cell? ⟨D, 1, none⟩ = some (.int .i64 (nx + 1)) ∧ W.cell? ⟨D, 2, none⟩ = some (.slice tva T.length tvc) ∧ W.cell? ⟨D, 3, none⟩ = some (.slice a1a asks.length a1c) ∧ W.cell? ⟨D, 4, none⟩ = some (.slice ooa (oweL acc (brA 2) (brN 2 ⟨nx, acc, price, left⟩) ow).length ooc) ∧ W.cell? ⟨D, 5, none⟩ = some (.slice ffa F.length ffc) ∧ W.cell? ⟨w.heap.size, 1, none⟩ = some (.int .i64 nx)) (go_keep) (fail)
       go_wp2
       revert HD
       generalize (World.setCell _ ⟨w.heap.size + 1, 4, none⟩ _) = W;intro HD;have HZ := HD.out.res2;have HQ := HD.out.back2 HR.out;clear HD HR;exact bodyPost_ret (by simp [results, Tryz.results79, go_sem, cell_at HZ]) rfl HQ
      ·have HR : Hid (RX = (zLane, [], 0, 131)) := HRR.out.trans (if_pos hov);have z0 : w8.cell? ⟨w.heap.size + 1, 0, none⟩ = some (.bool false) := by rw [cell_at Y8.out.cb.res]; rfl
       have z1 : w8.cell? ⟨w.heap.size + 1, 1, none⟩ = some (.int .i64 0) := by rw [cell_at Y8.out.cb.res]; rfl
       have z2 : w8.cell? ⟨w.heap.size + 1, 2, none⟩ = some (.slice none 0 0) := by rw [cell_at Y8.out.cb.res]; rfl
       have z3 : w8.cell? ⟨w.heap.size + 1, 3, none⟩ = some (.slice none 0 0) := by rw [cell_at Y8.out.cb.res]; rfl
       have z4 : w8.cell? ⟨w.heap.size + 1, 4, none⟩ = some (.slice none 0 0) := by rw [cell_at Y8.out.cb.res]; rfl
       have zf : ∀ j, w8.frozen? ⟨w.heap.size + 1, j, none⟩ = false := fun j => free_at Y8.out.cb.res j
       have HP := hideIt (Y8.out.cb.put (.bool false) (.int .i64 0) (.slice none 0 0) (.slice none 0 0) (.slice none 0 0));clear Y8 HRR;go_wp2
       revert HP
       generalize (World.setCell _ ⟨w.heap.size + 1, 4, none⟩ _) = W;intro HP;exact bodyPost_ret (v := .tuple #[laneV zLane (.slice none 0 0) (.slice none 0 0) (.slice none 0 0), .slice none 0 0, .int .i64 0, .int .i64 131]) (by simp [results, Tryz.results79, go_sem, cell_at HP.out.1, laneV, laneA, zLane]) rfl (by unfold PlBack; rw [HR.out]; exact ⟨_, _, _, _, rfl, own_nil _ _, own_nil _ _, own_nil _ _, own_nil _ _, HP.out.2⟩)
    ·have HRR : Hid (RX = if overB ow = true then (zLane, [], 0, 131) else (⟨false, nx + 1, T, asks, ow⟩, F, nx, 0)) := by
      show _ = _
      rw [HRX.out];unfold plX;rw [HPT.out];simp only [plR, plL, if_neg hlp]
      rfl
     clear k0 k1 k2;have Y1 := hideIt P5.out.fin;have HOV := hideIt (isOver2_is w D _ _ _ _ _ _ _ _ _ _ _ Y1.out (Nat.le_trans HOW.out.1 (by omega)));simp only at HOV;clear P5
     go_wp2_with fail
     refine HOV.out.mono ?_;rintro e w8 ⟨rfl, hb⟩;dsimp only;clear HLF HOW;have Y8 := hideIt (Y1.out.keep hb);clear hb HOV Y1;cases hov : overB (ow)
     ·have HR : Hid (RX = (⟨false, nx + 1, T, asks, ow⟩, F, nx, 0)) := HRR.out.trans (if_neg (by rw [hov]; simp))
      clear HRR;obtain ⟨t0, t1, t2, t3, t4, t5⟩ := Y8.out.cells;obtain ⟨-, x1, -, -, -⟩ := Y8.out.cb.cells;obtain ⟨ooa, ooc, hoo⟩ := own_len Y8.out.oo;obtain ⟨ffa, ffc, hff⟩ := own_len Y8.out.fl;subst hoo hff;have z0 : w8.cell? ⟨w.heap.size + 1, 0, none⟩ = some (.bool false) := by rw [cell_at Y8.out.cb.res]; rfl
      have z1 : w8.cell? ⟨w.heap.size + 1, 1, none⟩ = some (.int .i64 0) := by rw [cell_at Y8.out.cb.res]; rfl
      have z2 : w8.cell? ⟨w.heap.size + 1, 2, none⟩ = some (.slice none 0 0) := by rw [cell_at Y8.out.cb.res]; rfl
      have z3 : w8.cell? ⟨w.heap.size + 1, 3, none⟩ = some (.slice none 0 0) := by rw [cell_at Y8.out.cb.res]; rfl
      have z4 : w8.cell? ⟨w.heap.size + 1, 4, none⟩ = some (.slice none 0 0) := by rw [cell_at Y8.out.cb.res]; rfl
      have zf : ∀ j, w8.frozen? ⟨w.heap.size + 1, j, none⟩ = false := fun j => free_at Y8.out.cb.res j
      have nD : D ≠ w.heap.size + 1 := by have := Y8.out.lD; omega
      have nB : w.heap.size ≠ w.heap.size + 1 := by omega
      have nD2 := nD.symm;have nB2 := nB.symm;have HD := hideIt Y8.out.done;simp only [dealO] at t0 t1 t2 t3 t4 t5 x1;unfold five5 at HD
      try simp only [dealO] at HD
      try simp only [dealO] at HR
      clear Y8
      go_upto_region 16 with fail
      go_region_held3 (fun W => W.cell? ⟨D, 0, none⟩ = some (.bool false) ∧ W.cell? ⟨D, 1, none⟩ = some (.int .i64 (nx + 1)) ∧ W.cell? ⟨D, 2, none⟩ = some (.slice tva T.length tvc) ∧ W.cell? ⟨D, 3, none⟩ = some (.slice a1a asks.length a1c) ∧ W.cell? ⟨D, 4, none⟩ = some (.slice ooa (ow).length ooc) ∧ W.cell? ⟨D, 5, none⟩ = some (.slice ffa F.length ffc) ∧ W.cell? ⟨w.heap.size, 1, none⟩ = some (.int .i64 nx)) (go_keep) (fail)
      go_wp2
      revert HD
      generalize (World.setCell _ ⟨w.heap.size + 1, 4, none⟩ _) = W;intro HD;have HZ := HD.out.res2;have HQ := HD.out.back2 HR.out;clear HD HR;exact bodyPost_ret (by simp [results, Tryz.results79, go_sem, cell_at HZ]) rfl HQ
     ·have HR : Hid (RX = (zLane, [], 0, 131)) := HRR.out.trans (if_pos hov);have z0 : w8.cell? ⟨w.heap.size + 1, 0, none⟩ = some (.bool false) := by rw [cell_at Y8.out.cb.res]; rfl
      have z1 : w8.cell? ⟨w.heap.size + 1, 1, none⟩ = some (.int .i64 0) := by rw [cell_at Y8.out.cb.res]; rfl
      have z2 : w8.cell? ⟨w.heap.size + 1, 2, none⟩ = some (.slice none 0 0) := by rw [cell_at Y8.out.cb.res]; rfl
      have z3 : w8.cell? ⟨w.heap.size + 1, 3, none⟩ = some (.slice none 0 0) := by rw [cell_at Y8.out.cb.res]; rfl
      have z4 : w8.cell? ⟨w.heap.size + 1, 4, none⟩ = some (.slice none 0 0) := by rw [cell_at Y8.out.cb.res]; rfl
      have zf : ∀ j, w8.frozen? ⟨w.heap.size + 1, j, none⟩ = false := fun j => free_at Y8.out.cb.res j
      have HP := hideIt (Y8.out.cb.put (.bool false) (.int .i64 0) (.slice none 0 0) (.slice none 0 0) (.slice none 0 0));clear Y8 HRR;go_wp2
      revert HP
      generalize (World.setCell _ ⟨w.heap.size + 1, 4, none⟩ _) = W;intro HP;exact bodyPost_ret (v := .tuple #[laneV zLane (.slice none 0 0) (.slice none 0 0) (.slice none 0 0), .slice none 0 0, .int .i64 0, .int .i64 131]) (by simp [results, Tryz.results79, go_sem, cell_at HP.out.1, laneV, laneA, zLane]) rfl (by unfold PlBack; rw [HR.out]; exact ⟨_, _, _, _, rfl, own_nil _ _, own_nil _ _, own_nil _ _, own_nil _ _, HP.out.2⟩)
   ·obtain rfl : now = false := by simpa using hnc
    have HLB : Hid (asks.length ≤ 40) := hMW.out.la;obtain ⟨c0, c1, c2, c3, c4⟩ := P3.out.cb.cells;simp only at c0 c1 c2 c3 c4
    go_upto_region 9 with fail
    clear c0 c1 c2 c3 c4;obtain ⟨T, left, ow, F, tva, tvc, o4, f4, hPT, hP5, hO, hL⟩ : ∃ T left ow F tva tvc o4 f4, plT ⟨true, nx, bids, asks, owed⟩ 2 ⟨nx, acc, price, n⟩ = (T, left, ow, F) ∧ PS w D K ⟨true, nx, bids, asks, owed⟩ (.slice ba bids.length bc) (.slice aa asks.length ac) (.slice oa owed.length oc) ⟨nx, acc, price, left⟩ ⟨true, nx + 1, T, asks, ow⟩ F (.slice tva T.length tvc) (.slice a1a asks.length a1c) o4 f4 w3 ∧ OkO 200 ow ∧ (0 ≤ left ∧ left ≤ 1000000) := ⟨bids, n, owed, [], b1a, b1c, _, _, rfl, P3.out, okO_mono hMW.out.ow (by omega), by omega⟩;have HPT := hideIt hPT;have P5 := hideIt hP5;have HOW := hideIt hO;have HLF := hideIt hL;clear hPT hP5 hO hL P3 hnc;obtain ⟨w5, rfl⟩ : ∃ w5, w5 = w3 := ⟨_, rfl⟩;obtain ⟨hlf0, hlf1⟩ := HLF.out;have k0 : w5.cell? ⟨K, 0, none⟩ = some (.int .i64 nx) := by rw [cell_at P5.out.ord]; rfl
    have k1 : w5.cell? ⟨K, 1, none⟩ = some (.int .i64 acc) := by rw [cell_at P5.out.ord]; rfl
    have k2 : w5.cell? ⟨K, 2, none⟩ = some (.int .i64 price) := by rw [cell_at P5.out.ord]; rfl
    have k3 : w5.cell? ⟨K, 3, none⟩ = some (.int .i64 left) := by rw [cell_at P5.out.ord]; rfl
    by_cases hlp : 0 < left
    ·have HRR : Hid (RX = if overB ow = true then (zLane, [], 0, 131) else (⟨true, nx + 1, T, laidL (ahB 2) ⟨nx, acc, price, left⟩ asks, ow⟩, F, nx, 0)) := by
      show _ = _
      rw [HRX.out];unfold plX;rw [HPT.out];simp only [plR, plL, if_pos hlp, Bool.false_eq_true, if_false]
      rfl
     have HOR := hideIt (fun W => orders_is D 2 W);rw [show sideOff 2 = 3 from rfl] at HOR;have HSV := hideIt (fun W => served_is 2 W);have dO : w5.cell? ⟨D, 3, none⟩ = some (.slice a1a asks.length a1c) := by rw [cell_at P5.out.deal.box]; rfl
     have hD5 : D < w5.heap.size := P5.out.deal.lt;have hK5 : K < w5.heap.size := (Array.getElem?_eq_some_iff.1 P5.out.ord).1;have nD5 : D ≠ w5.heap.size := by omega
     have nK5 : K ≠ w5.heap.size := by omega
     have HV5 : Hid (Below w5.heap.size w5 (w5.alloc (.cells #[.int .i64 2] 3)).drew) := (below1 w5 _).drew;have HLD := hideIt (laidO_is 128 #[.pointer (some ⟨w5.heap.size, 0, none⟩)] eg49 (w.heap.size + 2) (.slice a1a asks.length a1c) asks ⟨nx, acc, price, left⟩ (ahB 2) (w5.alloc (.cells #[.int .i64 2] 3)).drew (own_keep P5.out.deal.oa HV5.out) (Nat.le_trans P5.out.cb.size HV5.out.size) (by have := HLB.out; omega) (fun W hW => cmp49 (Nat.lt_of_lt_of_le (by simp) hW.size) ((hW.cell (p := ⟨w5.heap.size, 0, none⟩) (by simp)).trans (by simp))))
     unfold ordE at HLD;simp only at HLD;have HFB := hideIt (fun wy (b2 : Value) (ho : wy.ownsRow (w.heap.size + 2) 115 4 b2 (laidL (ahB 2) ⟨nx, acc, price, left⟩ asks).length (celC ordE (laidL (ahB 2) ⟨nx, acc, price, left⟩ asks))) hg => P5.out.laidFA (wv := (w5.alloc (.cells #[.int .i64 2] 3)).drew) (wy := wy) (X2 := laidL (ahB 2) ⟨nx, acc, price, left⟩ asks) HV5.out ho hg);clear HV5
     go_wp2_with fail
     refine (HOR.out _).mono ?_;rintro e w6 ⟨rfl, rfl⟩;dsimp only
     go_upto_region 13 with fail
     go_cut [74] from 67 to 75 (fun _ wx => Hid (∃ va vc, FSt w D ⟨true, nx, bids, asks, owed⟩ (.slice ba bids.length bc) (.slice aa asks.length ac) (.slice oa owed.length oc) ⟨true, nx + 1, T, laidL (ahB 2) ⟨nx, acc, price, left⟩ asks, ow⟩ F (.slice tva T.length tvc) (.slice va (laidL (ahB 2) ⟨nx, acc, price, left⟩ asks).length vc) o4 f4 wx))
     case first =>
      clear P5 HOW HLF HRR HRX hMW HPT HLB HOR
      go_region_with (first | (go_at_call 92; refine (HSV.out _).mono ?_; rintro e w6 ⟨rfl, rfl⟩) | (go_at_call 115; refine HLD.out.mono ?_; rintro e w7 ⟨v7, rfl, ho7, hg7⟩; obtain ⟨va, vc, rfl⟩ := own_len ho7; have HX := hideIt (HFB.out _ _ ho7 hg7).1; obtain ⟨-, y1, y2, y3⟩ := HFB.out _ _ ho7 hg7; clear ho7 hg7))
      all_goals go_wp2_with fail
      all_goals go_meet
      all_goals exact ⟨_, _, HX.out⟩
     case rest =>
     clear k0 k1 k2 k3 dO hD5 hK5 nD5 nK5 HLD HFB HSV P5;obtain ⟨va, vc, hY⟩ := hcut.out;clear hcut;have Y1 := hideIt hY;clear hY;have HOV := hideIt (isOver2_is w D _ _ _ _ _ _ _ _ _ _ _ Y1.out (Nat.le_trans HOW.out.1 (by omega)));simp only at HOV
     go_wp2_with fail
     refine HOV.out.mono ?_;rintro e w8 ⟨rfl, hb⟩;dsimp only;clear HLF HOW;have Y8 := hideIt (Y1.out.keep hb);clear hb HOV Y1;cases hov : overB (ow)
     ·have HR : Hid (RX = (⟨true, nx + 1, T, laidL (ahB 2) ⟨nx, acc, price, left⟩ asks, ow⟩, F, nx, 0)) := HRR.out.trans (if_neg (by rw [hov]; simp))
      clear HRR;obtain ⟨t0, t1, t2, t3, t4, t5⟩ := Y8.out.cells;obtain ⟨-, x1, -, -, -⟩ := Y8.out.cb.cells;obtain ⟨ooa, ooc, hoo⟩ := own_len Y8.out.oo;obtain ⟨ffa, ffc, hff⟩ := own_len Y8.out.fl;subst hoo hff;have z0 : w8.cell? ⟨w.heap.size + 1, 0, none⟩ = some (.bool false) := by rw [cell_at Y8.out.cb.res]; rfl
      have z1 : w8.cell? ⟨w.heap.size + 1, 1, none⟩ = some (.int .i64 0) := by rw [cell_at Y8.out.cb.res]; rfl
      have z2 : w8.cell? ⟨w.heap.size + 1, 2, none⟩ = some (.slice none 0 0) := by rw [cell_at Y8.out.cb.res]; rfl
      have z3 : w8.cell? ⟨w.heap.size + 1, 3, none⟩ = some (.slice none 0 0) := by rw [cell_at Y8.out.cb.res]; rfl
      have z4 : w8.cell? ⟨w.heap.size + 1, 4, none⟩ = some (.slice none 0 0) := by rw [cell_at Y8.out.cb.res]; rfl
      have zf : ∀ j, w8.frozen? ⟨w.heap.size + 1, j, none⟩ = false := fun j => free_at Y8.out.cb.res j
      have nD : D ≠ w.heap.size + 1 := by have := Y8.out.lD; omega
      have nB : w.heap.size ≠ w.heap.size + 1 := by omega
      have nD2 := nD.symm;have nB2 := nB.symm;have HD := hideIt Y8.out.done;simp only [dealO] at t0 t1 t2 t3 t4 t5 x1;unfold five5 at HD
      try simp only [dealO] at HD
      try simp only [dealO] at HR
      clear Y8
      go_upto_region 16 with fail
      go_region_held3 (fun W => W.cell? ⟨D, 0, none⟩ = some (.bool true) ∧ W.cell? ⟨D, 1, none⟩ = some (.int .i64 (nx + 1)) ∧ W.cell? ⟨D, 2, none⟩ = some (.slice tva T.length tvc) ∧ W.cell? ⟨D, 3, none⟩ = some (.slice va (laidL (ahB 2) ⟨nx, acc, price, left⟩ asks).length vc) ∧ W.cell? ⟨D, 4, none⟩ = some (.slice ooa (ow).length ooc) ∧ W.cell? ⟨D, 5, none⟩ = some (.slice ffa F.length ffc) ∧ W.cell? ⟨w.heap.size, 1, none⟩ = some (.int .i64 nx)) (go_keep) (fail)
      go_wp2
      revert HD
      generalize (World.setCell _ ⟨w.heap.size + 1, 4, none⟩ _) = W;intro HD;have HZ := HD.out.res2;have HQ := HD.out.back2 HR.out;clear HD HR;exact bodyPost_ret (by simp [results, Tryz.results79, go_sem, cell_at HZ]) rfl HQ
     ·have HR : Hid (RX = (zLane, [], 0, 131)) := HRR.out.trans (if_pos hov);have z0 : w8.cell? ⟨w.heap.size + 1, 0, none⟩ = some (.bool false) := by rw [cell_at Y8.out.cb.res]; rfl
      have z1 : w8.cell? ⟨w.heap.size + 1, 1, none⟩ = some (.int .i64 0) := by rw [cell_at Y8.out.cb.res]; rfl
      have z2 : w8.cell? ⟨w.heap.size + 1, 2, none⟩ = some (.slice none 0 0) := by rw [cell_at Y8.out.cb.res]; rfl
      have z3 : w8.cell? ⟨w.heap.size + 1, 3, none⟩ = some (.slice none 0 0) := by rw [cell_at Y8.out.cb.res]; rfl
      have z4 : w8.cell? ⟨w.heap.size + 1, 4, none⟩ = some (.slice none 0 0) := by rw [cell_at Y8.out.cb.res]; rfl
      have zf : ∀ j, w8.frozen? ⟨w.heap.size + 1, j, none⟩ = false := fun j => free_at Y8.out.cb.res j
      have HP := hideIt (Y8.out.cb.put (.bool false) (.int .i64 0) (.slice none 0 0) (.slice none 0 0) (.slice none 0 0));clear Y8 HRR;go_wp2
      revert HP
      generalize (World.setCell _ ⟨w.heap.size + 1, 4, none⟩ _) = W;intro HP;exact bodyPost_ret (v := .tuple #[laneV zLane (.slice none 0 0) (.slice none 0 0) (.slice none 0 0), .slice none 0 0, .int .i64 0, .int .i64 131]) (by simp [results, Tryz.results79, go_sem, cell_at HP.out.1, laneV, laneA, zLane]) rfl (by unfold PlBack; rw [HR.out]; exact ⟨_, _, _, _, rfl, own_nil _ _, own_nil _ _, own_nil _ _, own_nil _ _, HP.out.2⟩)
    ·have HRR : Hid (RX = if overB ow = true then (zLane, [], 0, 131) else (⟨true, nx + 1, T, asks, ow⟩, F, nx, 0)) := by
      show _ = _
      rw [HRX.out];unfold plX;rw [HPT.out];simp only [plR, plL, if_neg hlp]
      rfl
     clear k0 k1 k2;have Y1 := hideIt P5.out.fin;have HOV := hideIt (isOver2_is w D _ _ _ _ _ _ _ _ _ _ _ Y1.out (Nat.le_trans HOW.out.1 (by omega)));simp only at HOV;clear P5
     go_wp2_with fail
     refine HOV.out.mono ?_;rintro e w8 ⟨rfl, hb⟩;dsimp only;clear HLF HOW;have Y8 := hideIt (Y1.out.keep hb);clear hb HOV Y1;cases hov : overB (ow)
     ·have HR : Hid (RX = (⟨true, nx + 1, T, asks, ow⟩, F, nx, 0)) := HRR.out.trans (if_neg (by rw [hov]; simp))
      clear HRR;obtain ⟨t0, t1, t2, t3, t4, t5⟩ := Y8.out.cells;obtain ⟨-, x1, -, -, -⟩ := Y8.out.cb.cells;obtain ⟨ooa, ooc, hoo⟩ := own_len Y8.out.oo;obtain ⟨ffa, ffc, hff⟩ := own_len Y8.out.fl;subst hoo hff;have z0 : w8.cell? ⟨w.heap.size + 1, 0, none⟩ = some (.bool false) := by rw [cell_at Y8.out.cb.res]; rfl
      have z1 : w8.cell? ⟨w.heap.size + 1, 1, none⟩ = some (.int .i64 0) := by rw [cell_at Y8.out.cb.res]; rfl
      have z2 : w8.cell? ⟨w.heap.size + 1, 2, none⟩ = some (.slice none 0 0) := by rw [cell_at Y8.out.cb.res]; rfl
      have z3 : w8.cell? ⟨w.heap.size + 1, 3, none⟩ = some (.slice none 0 0) := by rw [cell_at Y8.out.cb.res]; rfl
      have z4 : w8.cell? ⟨w.heap.size + 1, 4, none⟩ = some (.slice none 0 0) := by rw [cell_at Y8.out.cb.res]; rfl
      have zf : ∀ j, w8.frozen? ⟨w.heap.size + 1, j, none⟩ = false := fun j => free_at Y8.out.cb.res j
      have nD : D ≠ w.heap.size + 1 := by have := Y8.out.lD; omega
      have nB : w.heap.size ≠ w.heap.size + 1 := by omega
      have nD2 := nD.symm;have nB2 := nB.symm;have HD := hideIt Y8.out.done;simp only [dealO] at t0 t1 t2 t3 t4 t5 x1;unfold five5 at HD
      try simp only [dealO] at HD
      try simp only [dealO] at HR
      clear Y8
      go_upto_region 16 with fail
      go_region_held3 (fun W => W.cell? ⟨D, 0, none⟩ = some (.bool true) ∧ W.cell? ⟨D, 1, none⟩ = some (.int .i64 (nx + 1)) ∧ W.cell? ⟨D, 2, none⟩ = some (.slice tva T.length tvc) ∧ W.cell? ⟨D, 3, none⟩ = some (.slice a1a asks.length a1c) ∧ W.cell? ⟨D, 4, none⟩ = some (.slice ooa (ow).length ooc) ∧ W.cell? ⟨D, 5, none⟩ = some (.slice ffa F.length ffc) ∧ W.cell? ⟨w.heap.size, 1, none⟩ = some (.int .i64 nx)) (go_keep) (fail)
      go_wp2
      revert HD
      generalize (World.setCell _ ⟨w.heap.size + 1, 4, none⟩ _) = W;intro HD;have HZ := HD.out.res2;have HQ := HD.out.back2 HR.out;clear HD HR;exact bodyPost_ret (by simp [results, Tryz.results79, go_sem, cell_at HZ]) rfl HQ
     ·have HR : Hid (RX = (zLane, [], 0, 131)) := HRR.out.trans (if_pos hov);have z0 : w8.cell? ⟨w.heap.size + 1, 0, none⟩ = some (.bool false) := by rw [cell_at Y8.out.cb.res]; rfl
      have z1 : w8.cell? ⟨w.heap.size + 1, 1, none⟩ = some (.int .i64 0) := by rw [cell_at Y8.out.cb.res]; rfl
      have z2 : w8.cell? ⟨w.heap.size + 1, 2, none⟩ = some (.slice none 0 0) := by rw [cell_at Y8.out.cb.res]; rfl
      have z3 : w8.cell? ⟨w.heap.size + 1, 3, none⟩ = some (.slice none 0 0) := by rw [cell_at Y8.out.cb.res]; rfl
      have z4 : w8.cell? ⟨w.heap.size + 1, 4, none⟩ = some (.slice none 0 0) := by rw [cell_at Y8.out.cb.res]; rfl
      have zf : ∀ j, w8.frozen? ⟨w.heap.size + 1, j, none⟩ = false := fun j => free_at Y8.out.cb.res j
      have HP := hideIt (Y8.out.cb.put (.bool false) (.int .i64 0) (.slice none 0 0) (.slice none 0 0) (.slice none 0 0));clear Y8 HRR;go_wp2
      revert HP
      generalize (World.setCell _ ⟨w.heap.size + 1, 4, none⟩ _) = W;intro HP;exact bodyPost_ret (v := .tuple #[laneV zLane (.slice none 0 0) (.slice none 0 0) (.slice none 0 0), .slice none 0 0, .int .i64 0, .int .i64 131]) (by simp [results, Tryz.results79, go_sem, cell_at HP.out.1, laneV, laneA, zLane]) rfl (by unfold PlBack; rw [HR.out]; exact ⟨_, _, _, _, rfl, own_nil _ _, own_nil _ _, own_nil _ _, own_nil _ _, HP.out.2⟩)
end Go.Proofs.YtiinigifjdpicaaGreatDoor
