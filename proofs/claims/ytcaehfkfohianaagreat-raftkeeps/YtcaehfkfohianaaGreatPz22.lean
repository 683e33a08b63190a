/- Texts of my own, laid together. -/
import Derived.Test.YtcaehfkfohianaaGreatZq
import Derived.Test.YtcaehfkfohianaaGreatPz17
import Derived.Test.YtcaehfkfohianaaGreatPz16
import Derived.Test.YtcaehfkfohianaaGreatPz21
import Derived.Laws.Tables
import Derived.Deep.WholeRow
set_option linter.all false
namespace Go.Proofs.YtcaehfkfohianaaGreat
open Go.RowKit
theorem comp_len (L : LogV) (i : Int) (h : L.l.length ≤ 1000000) : (compL L i).1.l.length ≤ 1000000 := by
 unfold compL
 split
 ·split
  ·simp only [List.length_drop];omega
  ·simp [zL]
 ·simp [zL]
set_option maxRecDepth 100000 in
set_option maxHeartbeats 16000000 in
theorem saveK_is {X : WkX} {K : Nat} {w wx : World} (h : WK w K X wx) (e : EvV) (ea : Option Addr) (ec : Nat) (hR : X.R.length + 10 ≤ 1000000) : Calls Tryz.prog 56 #[.pointer (some ⟨K, 0, none⟩), .agg (evC e ea ec).toArray] wx fun r w' => ∃ Y' : WkX, r = .returned (.int .i64 (saveW X.v e.idx e.tx).2) ∧ Y'.v = (saveW X.v e.idx e.tx).1 ∧ WK w K Y' w' := by
 have HX0 := hideIt (h.keep (below1 wx (.cells (evC e ea ec).toArray 52)));have HP := hideIt (heap_alloc_new wx (.cells (evC e ea ec).toArray 52));have HV : Hid (saveW X.v e.idx e.tx = if 50000 < e.tx.size then (X.v, 2) else if (compL X.d.L e.idx).2 ≠ 0 then (X.v, (compL X.d.L e.idx).2) else (snapW {X.v with d := {X.d with L := (compL X.d.L e.idx).1, tx := e.tx}}, 0)) := hideIt rfl;have hlen := comp_len X.d.L e.idx h.rows.sl;have hKP : K ≠ wx.heap.size := by
  have := (Array.getElem?_eq_some_iff.1 h.box).1;omega
 clear h;unfold evC msgE at *
 go_enter Tryz.func56, Tryz.ntmps56
 go_upto_region 1 with fail
 generalize (World.alloc wx _) = W0 at *;generalize wx.heap.size = P at *;obtain ⟨⟨m0, m1, m2, m3, m4, m5, m6, m7, m8, m9, m10, m11, m12, m13, m14, m15⟩, mf, mz⟩ := at16 HP.out;clear m0 m3 m4 m5 m6 m7 m8 m9 m10 m11 m12 m13 m14 m15
 by_cases hs : 50000 < e.tx.size
 ·have hs1 : (50000 : Int) < (e.tx.size : Int) := by omega
  rw [if_pos hs] at HV;go_wp2;go_ret
  first
   | refine ⟨X, ?_, ?_, HX0.out⟩
   | refine ⟨?_, X, ?_, HX0.out⟩
  ·rw [HV.out]
   rfl
  ·rw [HV.out]
 ·have hs1 : ¬ (50000 : Int) < (e.tx.size : Int) := by omega
  rw [if_neg hs] at HV;have HCY : Hid (∀ W, Below W0.heap.size W0 W → Calls Tryz.prog 99 #[.agg #[.int .i64 X.d.L.bi, .int .i64 X.d.L.bt, .slice X.la X.d.L.l.length X.lc, .int .i64 X.d.L.cm], .int .i64 e.idx] W fun r w' => ∃ a c, r = .returned (.tuple #[.agg #[.int .i64 (compL X.d.L e.idx).1.bi, .int .i64 (compL X.d.L e.idx).1.bt, .slice a (compL X.d.L e.idx).1.l.length c, .int .i64 (compL X.d.L e.idx).1.cm], .int .i64 (compL X.d.L e.idx).2]) ∧ Hid (w'.ownsRow W0.heap.size 55 3 (.slice a (compL X.d.L e.idx).1.l.length c) (compL X.d.L e.idx).1.l.length (entC (compL X.d.L e.idx).1.l) ∧ Below W0.heap.size W0 w' ∧ Below W.heap.size W w') ∧ (w'.cell? ⟨K, 7, none⟩ = some (.int .i64 X.d.L.bi) ∧ w'.cell? ⟨K, 8, none⟩ = some (.int .i64 X.d.L.bt) ∧ w'.cell? ⟨K, 9, none⟩ = some (.slice X.la X.d.L.l.length X.lc) ∧ w'.cell? ⟨K, 10, none⟩ = some (.int .i64 X.d.L.cm) ∧ w'.cell? ⟨P, 1, none⟩ = some (.int .i64 e.idx))) := by
   intro W hW;refine (compact_is X.d.L X.gl e.idx W (HX0.out.keep hW).rows.at_.2).mono ?_;rintro r w' ⟨g, rfl, ho, hbl⟩;obtain ⟨a, c, rfl⟩ := own_len ho;have hb2 := below_via hW hbl;obtain ⟨⟨k0, k1, k2, k3, k4, k5, k6, k7, k8, k9, k10, k11, k12, k13, k14, k15, k16, k17⟩, kf, kz⟩ := at18 (HX0.out.keep hb2).box;have hq := blkK HP.out hb2
   exact ⟨a, c, rfl, hideIt ⟨own_base ho hW.size, hb2, hbl⟩, k7, k8, k9, k10, by rw [Tm.cell_at hq]; rfl⟩
  have ZF : Hid (∀ w', Below (W0.alloc (.cells #[.int .i64 0, .int .i64 0, .slice none 0 0, .int .i64 0] 36)).heap.size (W0.alloc (.cells #[.int .i64 0, .int .i64 0, .slice none 0 0, .int .i64 0] 36)) w' → (w'.cell? ⟨W0.heap.size, 0, none⟩ = some (.int .i64 0) ∧ w'.cell? ⟨W0.heap.size, 1, none⟩ = some (.int .i64 0) ∧ w'.cell? ⟨W0.heap.size, 2, none⟩ = some (.slice none 0 0) ∧ w'.cell? ⟨W0.heap.size, 3, none⟩ = some (.int .i64 0)) ∧ (∀ j, w'.frozen? ⟨W0.heap.size, j, none⟩ = false) ∧ W0.heap.size < w'.heap.size) := by
   intro w' hb;exact at4 ((hb.block W0.heap.size (by simp)).trans (heap_alloc_new W0 _))
  obtain ⟨⟨k0, k1, k2, k3, k4, k5, k6, k7, k8, k9, k10, k11, k12, k13, k14, k15, k16, k17⟩, kf, kz⟩ := at18 HX0.out.box;have y1 : W0.heap.size ≠ K := by omega
  have y2 : W0.heap.size ≠ P := by omega
  have y3 : K ≠ W0.heap.size := by omega
  have y4 : P ≠ W0.heap.size := by omega
  clear k0 k1 k2 k3 k4 k5 k6 k11 k12 k13 k14 k15 k16 k17;generalize compL X.d.L e.idx = Z at *
  go_upto_region 3 with fail
  go_cut [5, 6] from 12 to 21 (fun x y wy => ∃ P a c, x = .pointer (some ⟨P, 0, none⟩) ∧ y = .int .i64 Z.2 ∧ Hid (LBox W0 P Z.1 a c wy))
  case first =>
   go_region_held3 (fun W => W.cell? ⟨K, 7, none⟩ = some (.int .i64 X.d.L.bi) ∧ W.cell? ⟨K, 8, none⟩ = some (.int .i64 X.d.L.bt) ∧ W.cell? ⟨K, 9, none⟩ = some (.slice X.la X.d.L.l.length X.lc) ∧ W.cell? ⟨K, 10, none⟩ = some (.int .i64 X.d.L.cm) ∧ W.cell? ⟨P, 1, none⟩ = some (.int .i64 e.idx)) (go_keep) (first | (go_at_call 99; refine (HCY.out (W0.alloc (.cells #[.int .i64 0, .int .i64 0, .slice none 0 0, .int .i64 0] 36)).drew (below1 _ _).drew).mono ?_; rintro r w5 ⟨a, c, rfl, HQ, ⟨i0, i1, i2, i3, i4⟩⟩; obtain ⟨⟨n0, n1, n2, n3⟩, nf, nz⟩ := ZF.out w5 (below_via (Below.refl _ _).drew HQ.out.2.2)) | (go_at_call 99; refine (HCY.out W0.drew (Below.refl _ _).drew).mono ?_; rintro r w5 ⟨a, c, rfl, HQ, ⟨i0, i1, i2, i3, i4⟩⟩))
   all_goals go_wp2_with fail
   all_goals go_meet
   ·exact ⟨w5.heap.size, a, c, rfl, rfl, hideIt (LBox.new HQ.out.1 HQ.out.2.1)⟩
   ·have hz := (HQ.out.2.2.block W0.heap.size (show W0.heap.size < (W0.alloc (.cells #[.int .i64 0, .int .i64 0, .slice none 0 0, .int .i64 0] 36)).heap.size by simp)).trans (heap_alloc_new W0 _)
    exact ⟨W0.heap.size, a, c, rfl, rfl, hideIt (LBox.put hz HQ.out.1 HQ.out.2.1 (Nat.le_refl _))⟩
  case rest =>
   obtain ⟨B, a, c, rfl, rfl, HB⟩ := hcut;have HX3 := hideIt (HX0.out.keep HB.out.bel);have HP3 := hideIt (blkK HP.out HB.out.bel);clear HCY ZF y1 y3 k7 k8 k9 k10 kf kz m1 m2 mf mz
   by_cases hz0 : Z.2 = 0
   ·have hz1 : (Z.2 == 0) = true := beq_iff_eq.2 hz0;rw [if_neg (fun h => h hz0)] at HV;have hBK : B ≠ K := by
     intro e1;have h1 := HX3.out.box;have h2 := HB.out.box;rw [e1, h1] at h2
     simp at h2
    have hBP : B ≠ P := by
     have h1 := (Array.getElem?_eq_some_iff.1 HP.out).1;have h2 := HB.out.hP;omega
    have hKB : K ≠ B := fun e1 => hBK e1.symm
    have hPB : P ≠ B := fun e1 => hBP e1.symm
    have hPK : P ≠ K := fun e1 => hKP e1.symm
    have HCL : Hid (∀ W, Below wc.heap.size wc W → Calls Tryz.prog 52 #[.string e.tx] W fun r w' => r = .returned (.string e.tx) ∧ Hid (Below wc.heap.size wc w') ∧ (w'.cell? ⟨P, 2, none⟩ = some (.string e.tx) ∧ w'.cell? ⟨B, 0, none⟩ = some (.int .i64 Z.1.bi) ∧ w'.cell? ⟨B, 1, none⟩ = some (.int .i64 Z.1.bt) ∧ w'.cell? ⟨B, 2, none⟩ = some (.slice a Z.1.l.length c) ∧ w'.cell? ⟨B, 3, none⟩ = some (.int .i64 Z.1.cm)) ∧ (w'.cell? ⟨K, 7, none⟩ = some (.int .i64 X.d.L.bi) ∧ w'.cell? ⟨K, 8, none⟩ = some (.int .i64 X.d.L.bt) ∧ w'.cell? ⟨K, 9, none⟩ = some (.slice X.la X.d.L.l.length X.lc) ∧ w'.cell? ⟨K, 10, none⟩ = some (.int .i64 X.d.L.cm) ∧ w'.cell? ⟨K, 11, none⟩ = some (.string X.d.tx) ∧ (∀ j, w'.frozen? ⟨K, j, none⟩ = false) ∧ K < w'.heap.size)) := by
     intro W hW;refine (clone_any e.tx W (by omega)).mono ?_;rintro r w' ⟨rfl, hbl⟩;have hb2 := below_via hW hbl;obtain ⟨⟨k0, k1, k2, k3, k4, k5, k6, k7, k8, k9, k10, k11, k12, k13, k14, k15, k16, k17⟩, kf, kz⟩ := at18 (HX3.out.keep hb2).box;obtain ⟨⟨n0, n1, n2, n3⟩, nf, nz⟩ := at4 (blkK HB.out.box hb2);have hq := blkK HP3.out hb2
     exact ⟨rfl, hideIt hb2, ⟨by rw [Tm.cell_at hq]; rfl, n0, n1, n2, n3⟩, k7, k8, k9, k10, k11, kf, kz⟩
    obtain ⟨⟨n0, n1, n2, n3⟩, nf, nz⟩ := at4 HB.out.box;obtain ⟨⟨-, -, m2, -, -, -, -, -, -, -, -, -, -, -, -, -⟩, mf, mz⟩ := at16 HP3.out
    go_upto_region 6 with fail
    go_cut [] from 25 to 36 (fun wy => Hid (WK w K {X with d := {X.d with L := Z.1, tx := e.tx}, la := a, lc := c} wy))
    case first =>
     clear HV hz0
     go_region_held3 (fun W => W.cell? ⟨P, 2, none⟩ = some (.string e.tx) ∧ W.cell? ⟨B, 0, none⟩ = some (.int .i64 Z.1.bi) ∧ W.cell? ⟨B, 1, none⟩ = some (.int .i64 Z.1.bt) ∧ W.cell? ⟨B, 2, none⟩ = some (.slice a Z.1.l.length c) ∧ W.cell? ⟨B, 3, none⟩ = some (.int .i64 Z.1.cm)) (go_keep) (first | (go_at_call 52; refine (HCL.out _ (by first | exact (Below.refl _ _).drew | exact Below.refl _ _)).mono ?_; rintro r w5 ⟨rfl, HQ, ⟨i0, i1, i2, i3, i4⟩, ⟨j7, j8, j9, j10, j11, jf, jz⟩⟩))
     all_goals go_wp2_with fail
     all_goals go_meet
     all_goals exact hideIt (((HX3.out.keep HQ.out).setLog Z.1 a c (own_keep (own_base HB.out.own HX0.out.bel.size) HQ.out) hlen).setTx e.tx (by omega))
    case rest =>
     have HX5 := hideIt hcut.out;clear hcut HCL n0 n1 n2 n3 nf nz m2 mf mz hBK hBP hKB hPB hPK HX3 HP3 HB;have HS := hideIt (keepSnap_is HX5.out (by simp only; omega))
     go_wp2_with fail
     refine HS.out.mono ?_;rintro r w7 ⟨a7, c7, rfl, hw⟩;dsimp only;have HW := hideIt hw;clear hw HS HX5;go_wp2;go_ret;refine ⟨_, ?_, ?_, HW.out⟩
     ·rw [HV.out]
      rfl
     ·rw [HV.out]
      simp [WkX.v, snapW, noT]
   ·have hz1 : (Z.2 == 0) = false := beq_eq_false_iff_ne.2 hz0;rw [if_pos hz0] at HV;clear hz0;go_wp2;go_ret
    first
     | refine ⟨X, ?_, ?_, HX3.out⟩
     | refine ⟨?_, X, ?_, HX3.out⟩
    ·rw [HV.out]
     rfl
    ·rw [HV.out]
set_option maxRecDepth 100000 in
set_option maxHeartbeats 16000000 in
theorem propK_is {X : WkX} {K : Nat} {w wx : World} (h : WK w K X wx) (e : EvV) (ea : Option Addr) (ec : Nat) (hb : NB X.d) (hl : Led X.d) (hM : X.M.length + 10 ≤ 1000000) (hR : X.R.length + 10 ≤ 1000000) : Calls Tryz.prog 54 #[.pointer (some ⟨K, 0, none⟩), .agg (evC e ea ec).toArray] wx fun r w' => ∃ Y' : WkX, r = .returned (.int .i64 (propW X.v e.tx).2) ∧ Y'.v = (propW X.v e.tx).1 ∧ WK w K Y' w' := by
 have HX0 := hideIt (h.keep (below1 wx (.cells (evC e ea ec).toArray 52)));have HP := hideIt (heap_alloc_new wx (.cells (evC e ea ec).toArray 52));have HV : Hid (propW X.v e.tx = if X.d.b.r ≠ 3 then (X.v, 101) else if 4000 < e.tx.size then (X.v, 2) else ({(addW X.v ⟨X.d.b.t, 2, e.tx⟩).1 with ix := (lastL (addW X.v ⟨X.d.b.t, 2, e.tx⟩).1.d.L).1}, (addW X.v ⟨X.d.b.t, 2, e.tx⟩).2)) := hideIt rfl;clear h;unfold evC msgE at *
 go_enter Tryz.func54, Tryz.ntmps54
 go_upto_region 1 with fail
 generalize (World.alloc wx _) = W0 at *;generalize wx.heap.size = P at *
 by_cases hr : X.d.b.r = 3
 ·have HLe : Hid (Calls Tryz.prog 87 #[.pointer (some ⟨K, 0, none⟩)] W0 fun r w' => r = .returned (.bool true) ∧ w' = W0) := hideIt (by
   have := leadsW_is HX0.out.box;rw [show decide (X.d.b.r = 3) = true from decide_eq_true hr] at this;exact this)
  rw [if_neg (fun h => h hr)] at HV
  go_wp2_with fail
  refine HLe.out.mono ?_;rintro r w2 ⟨rfl, rfl⟩;dsimp only;obtain ⟨⟨m0, m1, m2, m3, m4, m5, m6, m7, m8, m9, m10, m11, m12, m13, m14, m15⟩, mf, mz⟩ := at16 HP.out;clear m0 m1 m3 m4 m5 m6 m7 m8 m9 m10 m11 m12 m13 m14 m15 HLe
  by_cases hs : 4000 < e.tx.size
  ·have hs1 : (4000 : Int) < (e.tx.size : Int) := by omega
   rw [if_pos hs] at HV;go_wp2;go_ret
   first
   | refine ⟨X, ?_, ?_, HX0.out⟩
   | refine ⟨?_, X, ?_, HX0.out⟩
   ·rw [HV.out]
    rfl
   ·rw [HV.out]
  ·have hs1 : ¬ (4000 : Int) < (e.tx.size : Int) := by omega
   rw [if_neg hs] at HV;have HT : Hid (Calls Tryz.prog 94 #[.pointer (some ⟨K, 0, none⟩)] w2.drew fun r w' => r = .returned (.int .i64 X.d.b.t) ∧ w' = w2.drew) := hideIt (termW_is (HX0.out.keep (Below.refl _ _).drew).box);have HA := hideIt (addK_is (HX0.out.keep (Below.refl _ _).drew) ⟨X.d.b.t, 2, e.tx⟩ hb (hl.1 hr) hr hM hR)
   go_upto_region 5 with fail
   go_cut [5] from 13 to 19 (fun x wy => ∃ Y' : WkX, x = .int .i64 (addW X.v ⟨X.d.b.t, 2, e.tx⟩).2 ∧ Hid (Y'.v = (addW X.v ⟨X.d.b.t, 2, e.tx⟩).1 ∧ WK w K Y' wy))
   case first =>
    clear HV
    go_region_with (first | (go_at_call 94; refine HT.out.mono ?_; rintro r w5 ⟨rfl, rfl⟩) | (go_at_call 93; refine HA.out.mono ?_; rintro r w6 ⟨Y', rfl, hv, hMl, hRl, hw⟩; have HW := hideIt (And.intro hv hw); clear hv hw))
    all_goals go_wp2_with fail
    all_goals go_meet
    all_goals exact ⟨Y', rfl, HW.out⟩
   case rest =>
    obtain ⟨Y, rfl, HY⟩ := hcut;clear HT HA m2 mf mz HP HX0;have HL := hideIt (lastW_is HY.out.2)
    go_wp2_with fail
    refine HL.out.mono ?_;rintro r w7 ⟨rfl, hbl⟩;dsimp only;have HY7 := hideIt (HY.out.2.keep hbl);have HY8 := hideIt (HY7.out.setIx (lastL Y.d.L).1);obtain ⟨⟨k0, k1, k2, k3, k4, k5, k6, k7, k8, k9, k10, k11, k12, k13, k14, k15, k16, k17⟩, kf, kz⟩ := at18 HY7.out.box;have hvY := HY.out.1;clear hbl HL HY HY7;go_wp2;go_ret;refine ⟨{Y with ix := (lastL Y.d.L).1}, ?_, ?_, HY8.out⟩
    ·rw [HV.out]
     rfl
    ·rw [HV.out]
     show ({Y.v with ix := (lastL Y.v.d.L).1} : WkV) = _
     rw [hvY]
 ·have HLe : Hid (Calls Tryz.prog 87 #[.pointer (some ⟨K, 0, none⟩)] W0 fun r w' => r = .returned (.bool false) ∧ w' = W0) := hideIt (by
   have := leadsW_is HX0.out.box;rw [show decide (X.d.b.r = 3) = false from decide_eq_false hr] at this;exact this)
  rw [if_pos hr] at HV
  go_wp2_with fail
  refine HLe.out.mono ?_;rintro r w2 ⟨rfl, rfl⟩;dsimp only;go_wp2;go_ret
  first
   | refine ⟨X, ?_, ?_, HX0.out⟩
   | refine ⟨?_, X, ?_, HX0.out⟩
  ·rw [HV.out]
   rfl
  ·rw [HV.out]
theorem hardIn_is {X : WkX} {K : Nat} {w W : World} (h : WK w K X W) (hs : X.R.length < 1000000) : Calls Tryz.prog 57 #[.slice X.ra X.R.length X.rc, .int .i64 0, .slice (some ⟨W.heap.size, 0, none⟩) 1 1] (W.alloc (.cells #[.int .i64 1, .int .i64 X.d.b.t, .int .i64 X.d.b.v, .int .i64 0, .slice none 0 0, .int .i64 0, .int .i64 0, .string ⟨#[]⟩] 63)) fun r w' => ∃ a c, r = .returned (.slice a (X.R.length + 1) c) ∧ Hid (WK w K {X with R := ⟨⟨1, X.d.b.t, X.d.b.v, 0, [], 0, 0, noT⟩, none, 0⟩ :: X.R, ra := a, rc := c} (w'.setCell ⟨K, 14, none⟩ (.slice a (X.R.length + 1) c))) ∧ w'.cell? ⟨K, 14, none⟩ = some (.slice X.ra X.R.length X.rc) ∧ (∀ j, w'.frozen? ⟨K, j, none⟩ = false) ∧ K < w'.heap.size := by
 have hbb := below1 W (.cells (recE ⟨⟨1, X.d.b.t, X.d.b.v, 0, [], 0, 0, noT⟩, none, 0⟩).toArray 63);have h1 := h.keep hbb;have hlt : ∀ k, (Value.slice X.ra X.R.length X.rc).ownBlock = some k → k < W.heap.size := fun k hk => (h.rows.rs.lt k hk).2
 have hi := insertR_is w.heap.size 0 W.heap.size (.slice X.ra X.R.length X.rc) X.R ⟨⟨1, X.d.b.t, X.d.b.v, 0, [], 0, 0, noT⟩, none, 0⟩ (W.alloc (.cells (recE ⟨⟨1, X.d.b.t, X.d.b.v, 0, [], 0, 0, noT⟩, none, 0⟩).toArray 63)) h1.rows.rs h1.bel.size (Nat.zero_le _) (by omega) (heap_alloc_new W _) (fun e => by have := hlt _ e; omega)
 refine hi.mono ?_;rintro r w' ⟨v', rfl, ho, hg⟩;simp only [List.take_zero, List.drop_zero, List.nil_append, List.length_cons] at ho;obtain ⟨a, c, rfl⟩ := own_len ho;have hbox := box_type hg h1.rows.rs h1.box (by decide);obtain ⟨⟨-, -, -, -, -, -, -, -, -, -, -, -, -, -, k14, -, -, -⟩, kf, kz⟩ := at18 hbox;refine ⟨a, c, rfl, hideIt ?_, k14, kf, kz⟩;exact h1.setR (⟨⟨1, X.d.b.t, X.d.b.v, 0, [], 0, 0, noT⟩, none, 0⟩ :: X.R) a c hg ho (fun y hy => by
  rcases List.mem_cons.1 hy with rfl | hy
  ·exact EntO.nil _ _
  ·exact h1.rows.ro y hy) (by simp only [List.length_cons]; omega)
set_option maxRecDepth 100000 in
set_option maxHeartbeats 16000000 in
theorem keepHard_is {X : WkX} {K : Nat} {w wx : World} (h : WK w K X wx) (ht hv : Int) (hs : X.R.length < 1000000) : Calls Tryz.prog 29 #[.pointer (some ⟨K, 0, none⟩), .agg #[.int .i64 ht, .int .i64 hv]] wx fun r w' => ∃ Y' : WkX, r = .returned (.tuple #[]) ∧ Y'.v = hardW X.v ht hv ∧ WK w K Y' w' := by
 have HV : Hid (hardW X.v ht hv = if X.d.b.t = ht ∧ X.d.b.v = hv then X.v else {X.v with rs := ⟨1, X.d.b.t, X.d.b.v, 0, [], 0, 0, noT⟩ :: X.v.rs}) := hideIt rfl;have HX0 := hideIt (h.keep (below1 wx (.cells #[.int .i64 ht, .int .i64 hv] 23)));have HP := hideIt (heap_alloc_new wx (.cells #[.int .i64 ht, .int .i64 hv] 23));clear h
 go_enter Tryz.func29, Tryz.ntmps29
 go_upto_region 1 with fail
 generalize hP : wx.heap.size = P at *;clear hP;generalize (World.alloc wx _) = W0 at *;have HX := HX0;clear HX0;obtain ⟨⟨k0, k1, k2, k3, k4, k5, k6, k7, k8, k9, k10, k11, k12, k13, k14, k15, k16, k17⟩, kf, kz⟩ := at18 HX.out.box;have p0 : W0.cell? ⟨P, 0, none⟩ = some (.int .i64 ht) := by
  rw [Tm.cell_at HP.out]
  rfl
 have p1 : W0.cell? ⟨P, 1, none⟩ = some (.int .i64 hv) := by
  rw [Tm.cell_at HP.out]
  rfl
 clear wx;generalize hW : W0 = wx at *;clear hW
 by_cases h1 : X.d.b.t = ht
 ·have b1 : (X.d.b.t == ht) = true := beq_iff_eq.2 h1
  by_cases h2 : X.d.b.v = hv
  ·have b2 : (X.d.b.v == hv) = true := beq_iff_eq.2 h2;have H12 := hideIt (And.intro h1 h2);clear h1 h2
   go_region
   go_wp2
   go_end0
   have hh : X.v = hardW X.v ht hv := by rw [HV.out, if_pos H12.out]
   first
    | exact ⟨X, rfl, hh, HX.out.keep (Below.refl _ _).drew⟩
    | exact ⟨rfl, X, hh, HX.out.keep (Below.refl _ _).drew⟩
    | exact ⟨X, rfl, hh, HX.out⟩
    | exact ⟨rfl, X, hh, HX.out⟩
  ·have b2 : (X.d.b.v == hv) = false := beq_eq_false_iff_ne.2 h2;have H12 := hideIt h2;clear h1 h2;have HIN := hideIt (fun W (hW : Below wx.heap.size wx W) => hardIn_is (HX.out.keep hW) hs);clear k0 k1 k4 k5 k6 k7 k8 k9 k10 k11 k12 k13 k15 k16 k17
   go_region
   go_wp2_with fail
   go_region_law (first
    | (go_simp; refine (HIN.out _ (by first | exact (below1 _ _).drew | exact below1 _ _ | exact (Below.refl _ _).drew.drew | exact (Below.refl _ _).drew)).mono ?_; rintro r w5 ⟨a, c, rfl, HQ, j14, jf, jz⟩; dsimp only))
   all_goals go_wp2
   all_goals go_end0
   all_goals (refine ⟨_, rfl, ?_, HQ.out⟩; rw [HV.out]; rw [if_neg (fun hh => H12.out hh.2)]; simp [WkX.v, noT])
 ·have b1 : (X.d.b.t == ht) = false := beq_eq_false_iff_ne.2 h1;have H12 := hideIt h1;clear h1;have HIN := hideIt (fun W (hW : Below wx.heap.size wx W) => hardIn_is (HX.out.keep hW) hs);clear k0 k1 k4 k5 k6 k7 k8 k9 k10 k11 k12 k13 k15 k16 k17
  go_region
  go_wp2_with fail
  go_region_law (first
   | (go_simp; refine (HIN.out _ (by first | exact (below1 _ _).drew | exact below1 _ _ | exact (Below.refl _ _).drew.drew | exact (Below.refl _ _).drew)).mono ?_; rintro r w5 ⟨a, c, rfl, HQ, j14, jf, jz⟩; dsimp only))
  all_goals go_wp2
  all_goals go_end0
  all_goals (refine ⟨_, rfl, ?_, HQ.out⟩; rw [HV.out]; rw [if_neg (fun hh => H12.out hh.1)]; simp [WkX.v, noT])
def NodeBack2 (d : NodeV) (w : World) (e : Ending) (w' : World) : Prop := ∃ gb gl gn gm, e = .returned (.agg (nodA d gb gl gn gm)) ∧ NodeOwn w.heap.size w' d gb gl gn gm ∧ Below w.heap.size w w' ∧ (gn.ownBlock = none ∨ gn.ownBlock ≠ gm.ownBlock) ∧ (gn.ownBlock = none ∨ gn.ownBlock ≠ gb.ownBlock) ∧ (gm.ownBlock = none ∨ gm.ownBlock ≠ gb.ownBlock)
set_option maxRecDepth 100000 in
set_option maxHeartbeats 8000000 in
theorem anewN2_is (d : NodeV) (gb gl gn gm : Value) (w : World) (h : NodAt w d gb gl gn gm) (hm : mayB d.L = true) (ht : d.tx.size ≤ 60000) : Calls Tryz.prog 27 #[.agg (nodA d gb gl gn gm)] w (NodeBack2 d w) := by
 have hF := from_all hm;have hbi : 0 ≤ d.L.bi ∧ d.L.bi ≤ 1000000 := by
  unfold mayB at hm;simp only [Bool.and_eq_true, decide_eq_true_eq] at hm;have h0 := hm.1.1.1.1;have h2 := hm.1.2;unfold mkB at h0;unfold lasI at h2;simp only [Bool.and_eq_true] at h0;have := of_decide_eq_true h0.1.1;omega
 have H1 := hideIt (fun W (hW : Below w.heap.size w W) => Tm.clone_any gb d.b.l W (h.b.keep hW));have H2 := hideIt (fun W (hW : Below w.heap.size w W) => from_is d.L gl (d.L.bi + 1) 400 W (h.l.keep hW) (by unfold i64B; omega))
 have H3 := hideIt (fun W => clone_any d.tx W ht);have H4 := hideIt (fun W (hW : Below w.heap.size w W) => Tm.clone_any gn d.nx W (h.n.got.keep hW));have H5 := hideIt (fun W (hW : Below w.heap.size w W) => Tm.clone_any gm d.mt W (h.m.got.keep hW));rw [hF] at H2;have hwr : IntKind.i64.wrap (d.L.bi + 1) = d.L.bi + 1 := by rw [IntKind.wrap_i64]; omega
 obtain ⟨na, nc, rfl, -, -⟩ := h.n.cap;obtain ⟨ma, mc, rfl, -, -⟩ := h.m.cap;obtain ⟨ba, bc, rfl⟩ := GotAt.open h.b;obtain ⟨la, lc, rfl⟩ : ∃ a c, gl = .slice a d.L.l.length c := by
  obtain ⟨_, a, c, e, _⟩ := h.l
  exact ⟨a, c, e⟩
 clear h hm hF ht hbi;unfold logV logA at H2;have I0 := hideIt (AnW.first w (nodA d (.slice ba d.b.l.length bc) (.slice la d.L.l.length lc) (.slice na d.nx.length nc) (.slice ma d.mt.length mc)) zN);unfold NodeBack2;unfold nodA zN at I0
 go_enter Tryz.func27, Tryz.ntmps27
 unfold nodA
 go_upto_region 1 with fail
 generalize (World.alloc (World.alloc w _) _) = W0 at *;have HC1 := hideIt (H1.out W0 I0.out.bel);obtain ⟨⟨k0, k1, k2, k3, k4, k5, k6, k7, k8, k9, k10, k11, k12, k13⟩, kf, kz⟩ := at14 I0.out.box
 go_wp2_with fail
 refine HC1.out.mono ?_;rintro e w1 ⟨g, rfl, ho, hb⟩;dsimp only;clear k0 k1 k2 k3 k4 k5 k6 k7 k8 k9 k10 k11 k12 k13 kf kz;have J1 := hideIt (I0.out.call hb);obtain ⟨a1, c1, rfl⟩ := Tm.own_len ho;have O1 := hideIt (ownSet (b := w.heap.size) (j := 5) (.slice a1 d.b.l.length c1) (own_base ho I0.out.size) (by omega));obtain ⟨⟨k0, k1, k2, k3, k4, k5, k6, k7, k8, k9, k10, k11, k12, k13⟩, kf, kz⟩ := at14 J1.out.box;have I1 : Hid (AnW w (w1.setCell ⟨w.heap.size, 5, none⟩ (.slice a1 d.b.l.length c1)) (nodA d (.slice a1 d.b.l.length c1) (.slice la d.L.l.length lc) (.slice na d.nx.length nc) (.slice ma d.mt.length mc)) zN) := hideIt (J1.out.put 5 (.slice a1 d.b.l.length c1));clear ho hb HC1 H1 I0 J1;unfold nodA zN at I1
 go_upto_region 2 with fail
 generalize (World.setCell w1 _ _) = W1 at *;clear k0 k1 k2 k3 k4 k5 k6 k7 k8 k9 k10 k11 k12 k13 kf kz;have HC2 := hideIt (H2.out W1 I1.out.bel);obtain ⟨⟨k0, k1, k2, k3, k4, k5, k6, k7, k8, k9, k10, k11, k12, k13⟩, kf, kz⟩ := at14 I1.out.box
 go_wp2_with fail
 refine HC2.out.mono ?_;rintro e w2 ⟨g, rfl, ho, hb⟩;dsimp only;clear k0 k1 k2 k3 k4 k5 k6 k7 k8 k9 k10 k11 k12 k13 kf kz;have J2 := hideIt (I1.out.call hb);obtain ⟨a2, c2, rfl⟩ := own_len ho;have O2 := hideIt (ownSet (b := w.heap.size) (j := 9) (.slice a2 d.L.l.length c2) (own_base ho I1.out.size) (by omega));have O1' := hideIt (ownSet (b := w.heap.size) (j := 9) (.slice a2 d.L.l.length c2) (own_keep O1.out hb) (by omega));clear O1;have O1 := O1';clear O1';obtain ⟨⟨k0, k1, k2, k3, k4, k5, k6, k7, k8, k9, k10, k11, k12, k13⟩, kf, kz⟩ := at14 J2.out.box;have I2 : Hid (AnW w (w2.setCell ⟨w.heap.size, 9, none⟩ (.slice a2 d.L.l.length c2)) (nodA d (.slice a1 d.b.l.length c1) (.slice a2 d.L.l.length c2) (.slice na d.nx.length nc) (.slice ma d.mt.length mc)) zN) := hideIt (J2.out.put 9 (.slice a2 d.L.l.length c2));clear ho hb HC2 H2 I1 J2;unfold nodA zN at I2
 go_upto_region 3 with fail
 generalize (World.setCell w2 _ _) = W2 at *;clear k0 k1 k2 k3 k4 k5 k6 k7 k8 k9 k10 k11 k12 k13 kf kz;have HC3 := hideIt (H3.out W2);obtain ⟨⟨k0, k1, k2, k3, k4, k5, k6, k7, k8, k9, k10, k11, k12, k13⟩, kf, kz⟩ := at14 I2.out.box
 go_wp2_with fail
 refine HC3.out.mono ?_;rintro e w3 ⟨rfl, hb⟩;dsimp only;clear k0 k1 k2 k3 k4 k5 k6 k7 k8 k9 k10 k11 k12 k13 kf kz;have J3 := hideIt (I2.out.call hb);have O1' := hideIt (ownSet (b := w.heap.size) (j := 11) (.string d.tx) (own_keep O1.out hb) (by omega));clear O1;have O1 := O1';clear O1';have O2' := hideIt (ownSet (b := w.heap.size) (j := 11) (.string d.tx) (own_keep O2.out hb) (by omega));clear O2;have O2 := O2';clear O2';obtain ⟨⟨k0, k1, k2, k3, k4, k5, k6, k7, k8, k9, k10, k11, k12, k13⟩, kf, kz⟩ := at14 J3.out.box;have I3 : Hid (AnW w (w3.setCell ⟨w.heap.size, 11, none⟩ (.string d.tx)) (nodA d (.slice a1 d.b.l.length c1) (.slice a2 d.L.l.length c2) (.slice na d.nx.length nc) (.slice ma d.mt.length mc)) zN) := hideIt (J3.out.put 11 (.string d.tx));clear hb HC3 H3 I2 J3;unfold nodA zN at I3
 go_upto_region 4 with fail
 generalize (World.setCell w3 _ _) = W3 at *;clear k0 k1 k2 k3 k4 k5 k6 k7 k8 k9 k10 k11 k12 k13 kf kz;have HC4 := hideIt (H4.out W3 I3.out.bel);obtain ⟨⟨k0, k1, k2, k3, k4, k5, k6, k7, k8, k9, k10, k11, k12, k13⟩, kf, kz⟩ := at14 I3.out.box
 go_wp2_with fail
 refine HC4.out.mono ?_;rintro e w4 ⟨g, rfl, ho, hb⟩;dsimp only;clear k0 k1 k2 k3 k4 k5 k6 k7 k8 k9 k10 k11 k12 k13 kf kz;have J4 := hideIt (I3.out.call hb);obtain ⟨a4, c4, rfl⟩ := Tm.own_len ho;have A41 := hideIt (apart_new O1.out ho);have O4 := hideIt (ownSet (b := w.heap.size) (j := 12) (.slice a4 d.nx.length c4) (own_base ho I3.out.size) (by omega));have O1' := hideIt (ownSet (b := w.heap.size) (j := 12) (.slice a4 d.nx.length c4) (own_keep O1.out hb) (by omega));clear O1;have O1 := O1';clear O1';have O2' := hideIt (ownSet (b := w.heap.size) (j := 12) (.slice a4 d.nx.length c4) (own_keep O2.out hb) (by omega));clear O2;have O2 := O2';clear O2';obtain ⟨⟨k0, k1, k2, k3, k4, k5, k6, k7, k8, k9, k10, k11, k12, k13⟩, kf, kz⟩ := at14 J4.out.box;have I4 : Hid (AnW w (w4.setCell ⟨w.heap.size, 12, none⟩ (.slice a4 d.nx.length c4)) (nodA d (.slice a1 d.b.l.length c1) (.slice a2 d.L.l.length c2) (.slice a4 d.nx.length c4) (.slice ma d.mt.length mc)) zN) := hideIt (J4.out.put 12 (.slice a4 d.nx.length c4));clear ho hb HC4 H4 I3 J4;unfold nodA zN at I4
 go_upto_region 5 with fail
 generalize (World.setCell w4 _ _) = W4 at *;clear k0 k1 k2 k3 k4 k5 k6 k7 k8 k9 k10 k11 k12 k13 kf kz;have HC5 := hideIt (H5.out W4 I4.out.bel);obtain ⟨⟨k0, k1, k2, k3, k4, k5, k6, k7, k8, k9, k10, k11, k12, k13⟩, kf, kz⟩ := at14 I4.out.box
 go_wp2_with fail
 refine HC5.out.mono ?_;rintro e w5 ⟨g, rfl, ho, hb⟩;dsimp only;clear k0 k1 k2 k3 k4 k5 k6 k7 k8 k9 k10 k11 k12 k13 kf kz;have J5 := hideIt (I4.out.call hb);obtain ⟨a5, c5, rfl⟩ := Tm.own_len ho;have A51 := hideIt (apart_new O1.out ho);have A54 := hideIt (apart_new O4.out ho);have O5 := hideIt (ownSet (b := w.heap.size) (j := 13) (.slice a5 d.mt.length c5) (own_base ho I4.out.size) (by omega));have O1' := hideIt (ownSet (b := w.heap.size) (j := 13) (.slice a5 d.mt.length c5) (own_keep O1.out hb) (by omega));clear O1;have O1 := O1';clear O1';have O2' := hideIt (ownSet (b := w.heap.size) (j := 13) (.slice a5 d.mt.length c5) (own_keep O2.out hb) (by omega));clear O2;have O2 := O2';clear O2';have O4' := hideIt (ownSet (b := w.heap.size) (j := 13) (.slice a5 d.mt.length c5) (own_keep O4.out hb) (by omega));clear O4;have O4 := O4';clear O4';obtain ⟨⟨k0, k1, k2, k3, k4, k5, k6, k7, k8, k9, k10, k11, k12, k13⟩, kf, kz⟩ := at14 J5.out.box;have I5 : Hid (AnW w (w5.setCell ⟨w.heap.size, 13, none⟩ (.slice a5 d.mt.length c5)) (nodA d (.slice a1 d.b.l.length c1) (.slice a2 d.L.l.length c2) (.slice a4 d.nx.length c4) (.slice a5 d.mt.length c5)) zN) := hideIt (J5.out.put 13 (.slice a5 d.mt.length c5));clear ho hb HC5 H5 I4 J5;unfold nodA zN at I5
 go_upto_region 6 with fail
 generalize (World.setCell w5 _ _) = W5 at *;clear k0 k1 k2 k3 k4 k5 k6 k7 k8 k9 k10 k11 k12 k13 kf kz;obtain ⟨⟨k0, k1, k2, k3, k4, k5, k6, k7, k8, k9, k10, k11, k12, k13⟩, kf, kz⟩ := at14 I5.out.box;obtain ⟨⟨d0, d1, d2, d3, d4, d5, d6, d7, d8, d9, d10, d11, d12, d13⟩, df, dz⟩ := at14 I5.out.res;have F1 := hideIt (put14 (.int .i64 d.me) (.int .i64 d.n) (.int .i64 d.b.t) (.int .i64 d.b.v) (.int .i64 d.b.r) (.slice a1 d.b.l.length c1) (.int .i64 d.ld) (.int .i64 d.L.bi) (.int .i64 d.L.bt) (.slice a2 d.L.l.length c2) (.int .i64 d.L.cm) (.string d.tx) (.slice a4 d.nx.length c4) (.slice a5 d.mt.length c5) I5.out.res);have F2 := hideIt (nodeSet14 (d := d) (w.heap.size + 1) (.int .i64 d.me) (.int .i64 d.n) (.int .i64 d.b.t) (.int .i64 d.b.v) (.int .i64 d.b.r) (.slice a1 d.b.l.length c1) (.int .i64 d.ld) (.int .i64 d.L.bi) (.int .i64 d.L.bt) (.slice a2 d.L.l.length c2) (.int .i64 d.L.cm) (.string d.tx) (.slice a4 d.nx.length c4) (.slice a5 d.mt.length c5) ⟨O1.out, O2.out, O4.out, O5.out⟩ (by omega));have F3 := hideIt (belowSet14 (w.heap.size + 1) (.int .i64 d.me) (.int .i64 d.n) (.int .i64 d.b.t) (.int .i64 d.b.v) (.int .i64 d.b.r) (.slice a1 d.b.l.length c1) (.int .i64 d.ld) (.int .i64 d.L.bi) (.int .i64 d.L.bt) (.slice a2 d.L.l.length c2) (.int .i64 d.L.cm) (.string d.tx) (.slice a4 d.nx.length c4) (.slice a5 d.mt.length c5) I5.out.bel (by omega));clear I5 O1 O2 O4 O5;go_wp2;have f1 := F1.out;have f2 := F2.out;have f3 := F3.out;clear F1 F2 F3
 revert f1 f2 f3
 generalize (World.setCell _ ⟨w.heap.size + 1, 13, none⟩ _) = W;intro e1 e2 e3;exact bodyPost_ret (v := .agg (nodA d (.slice a1 d.b.l.length c1) (.slice a2 d.L.l.length c2) (.slice a4 d.nx.length c4) (.slice a5 d.mt.length c5))) (by simp [results, Tryz.results27, go_sem, Tm.cell_at e1, nodA]) rfl ⟨_, _, _, _, rfl, e2.base (by omega), e3, A54.out, flip_apart A41.out, flip_apart A51.out⟩
theorem WR.far {B b j : Nat} {wx : World} {X : WkX} (v : Value) (h : WR B wx X) (hb : b < B) : WR B (wx.setCell ⟨b, j, none⟩ v) X :=
 ⟨h.nd.set v hb, ownSet v h.rs hb, fun x hx => ⟨ownSet v (h.ro x hx).o hb, (h.ro x hx).s⟩, ownSet v h.ms hb, fun x hx => ⟨ownSet v (h.mo x hx).o hb, (h.mo x hx).s⟩, h.nm, h.nb, h.mb, h.sb, h.sl, h.sn, h.sm, h.st, h.sr, h.sq⟩
theorem WR.base {B B' : Nat} {wx : World} {X : WkX} (h : WR B wx X) (hb : B' ≤ B) : WR B' wx X :=
 ⟨h.nd.base hb, own_base h.rs hb, fun x hx => ⟨own_base (h.ro x hx).o hb, (h.ro x hx).s⟩, own_base h.ms hb, fun x hx => ⟨own_base (h.mo x hx).o hb, (h.mo x hx).s⟩, h.nm, h.nb, h.mb, h.sb, h.sl, h.sn, h.sm, h.st, h.sr, h.sq⟩
def zX : WkX := ⟨zNode, none, 0, none, 0, none, 0, none, 0, [], none, 0, [], none, 0, 0, false⟩
theorem zX_wr (B : Nat) (w : World) : WR B w zX :=
 ⟨⟨nil_own _ _, nil_own _ _, nil_own _ _, nil_own _ _⟩, nil_own _ _, fun x hx => (by cases hx), nil_own _ _, fun x hx => (by cases hx), .inl rfl, .inl rfl, .inl rfl, by simp [zX, zNode, Tm.zB], by simp [zX, zNode, zL], by simp [zX, zNode], by simp [zX, zNode], (show (0 : Nat) ≤ 60000 by omega), by simp [zX], by simp [zX]⟩
theorem each_rs {f : WkV → Nat → WkV} (hf : ∀ W k, (f W k).rs = W.rs) (W : WkV) : ∀ k, (eachW f k W).rs = W.rs
 | 0 => rfl
 | k + 1 => by
  unfold eachW
  split
  ·exact each_rs hf W k
  ·rw [hf];exact each_rs hf W k
theorem send_rs (W : WkV) (k : Nat) : (sendW W k).rs = W.rs := by
 unfold sendW
 split
 ·rfl
 ·rfl
theorem add_rs (W : WkV) (e : EntV) : (addW W e).1.rs.length ≤ W.rs.length + 1 := by
 unfold addW
 split
 ·simp only [allW, each_rs send_rs]
  simp [advW, tailW]
 ·simp
theorem lead_rs (W : WkV) : (leadW W).1.rs.length ≤ W.rs.length + 1 := add_rs _ _
theorem time_rs (W : WkV) : (timeW W).1.rs.length ≤ W.rs.length + 1 := by
 unfold timeW
 split
 ·simp only [allW, each_rs send_rs];omega
 ·split
  ·simp
  ·split
   ·exact lead_rs _
   ·simp only [allW, each_rs (f := pollW) (fun W k => rfl)];omega
theorem prop_rs (W : WkV) (t : ByteArray) : (propW W t).1.rs.length ≤ W.rs.length + 1 := by
 unfold propW
 split
 ·simp
 ·split
  ·simp
  ·exact add_rs _ _
theorem save_rs (W : WkV) (i : Int) (t : ByteArray) : (saveW W i t).1.rs.length ≤ W.rs.length + 1 := by
 unfold saveW
 split
 ·simp
 ·split
  ·simp
  ·simp [snapW]
theorem acc_rs (W : WkV) (m : MsgW) : (accW W m).rs.length ≤ W.rs.length + 1 := by
 unfold accW
 split
 ·simp [answW, tellW]
 ·split
  ·simp [answW, tellW]
  ·simp only [answW, tellW]
   split
   ·simp [tailW]
   ·simp
theorem inst_rs (W : WkV) (m : MsgW) : (instW W m).rs.length ≤ W.rs.length + 1 := by
 unfold instW;simp only [answW, tellW]
 split
 ·simp [snapW]
 ·simp
theorem led_rs (W : WkV) (m : MsgW) : (ledW W m).rs.length ≤ W.rs.length + 1 := by
 unfold ledW
 split
 ·simp [answW, tellW]
 ·split
  ·omega
  ·split
   ·exact acc_rs _ m
   ·exact inst_rs _ m
theorem appd_rs (W : WkV) (m : MsgW) : (appdW W m).rs.length ≤ W.rs.length + 1 := by
 unfold appdW
 split
 ·omega
 ·split
  ·rw [send_rs]
   simp
  ·simp only
   split
   ·rw [send_rs]
    simp [advW]
   ·simp [advW]
theorem gran_rs (W : WkV) (m : MsgW) : (granED W m).1.rs.length ≤ W.rs.length + 1 := by
 unfold granED
 split
 ·simp
 ·exact lead_rs _
theorem mess_rs (W : WkV) (m : MsgW) : (messW W m).1.rs.length ≤ W.rs.length + 1 := by
 have h := hear_rs W m.term;unfold messW
 split
 ·simp
 ·split
  ·simp only [pollED, tellW];rw [h];omega
  ·split
   ·rw [← h];exact gran_rs _ m
   ·split
    ·rw [← h];exact appd_rs _ m
    ·rw [← h];exact led_rs _ m
theorem ev_rs (W : WkV) (e : EvV) : (evW W e).1.rs.length ≤ W.rs.length + 1 := by
 unfold evW
 split
 ·exact time_rs W
 ·split
  ·exact prop_rs W e.tx
  ·split
   ·exact mess_rs W e.m
   ·exact save_rs W e.idx e.tx
theorem ownRowSet {B g n : Nat} {e : TypeId} {z : Nat} {v : Value} {w : World} {xs : List Value} (c : Array Value) (h : w.ownsRow B e z v n xs) (hb : g < B) : (w.setRow g c).ownsRow B e z v n xs := by
 obtain ⟨h0, h1 | ⟨b, cap, cur, rfl, hB, hg, r⟩⟩ := h
 ·exact ⟨h0, .inl h1⟩
 ·exact ⟨h0, .inr ⟨b, cap, cur, rfl, hB, (setRow_other _ g b _ (by omega)).trans hg, r⟩⟩
theorem setRow_out (w : World) (g : Nat) (cells : Array Value) : Out (fun k => k = g) w (w.setRow g cells) := by
 refine ⟨rfl, rfl, rfl, by simp [World.setRow], fun i hi hn => ?_⟩;simp only [World.setRow];rw [Array.getElem?_modify, if_neg (fun e => hn e.symm)]
theorem step_store_rowK {ops : Array Oper} {o : Oper} {a : Act} {w : World} {K : Act → World → Prop} {Q : Exit → Act → World → Prop} {E : Prop}
  (hgd : o.guard = none) (ty : TypeId) (x y : Operand) (ho : o.op = .store ty x y) (g : Nat) (cells : Array Value) (hx : a.eval x = .pointer (some ⟨g, 0, none⟩)) (hy : a.eval y = .agg cells) (t : TypeId) (old : Array Value) (hg : w.heap[g]? = some (.cells old t (0, 0))) (hi : (Tryz.prog.info? ty).map (·.size) = some cells.size) (hold : old.size = cells.size) (h1 : cells.all (·.oneCell') = true) (hK : K (a.put o.dst undef) (w.setRow g cells)) :
  if Region.wanted o (yielded ops a.tmps) = true then Oper.wp Tryz.prog o a w K Q else E := by
 have hw : Region.wanted o (yielded ops a.tmps) = true := by simp [Region.wanted, hgd]
 rw [if_pos hw];exact wp_store_row ty x y ho g cells hx hy t old hg hi hold h1 hK
theorem WR.row {B b : Nat} {wx : World} {X : WkX} (c : Array Value) (h : WR B wx X) (hb : b < B) : WR B (wx.setRow b c) X :=
 ⟨⟨ownRowSet c h.nd.b hb, ownRowSet c h.nd.l hb, ownRowSet c h.nd.n hb, ownRowSet c h.nd.m hb⟩, ownRowSet c h.rs hb, fun x hx => ⟨ownRowSet c (h.ro x hx).o hb, (h.ro x hx).s⟩, ownRowSet c h.ms hb, fun x hx => ⟨ownRowSet c (h.mo x hx).o hb, (h.mo x hx).s⟩, h.nm, h.nb, h.mb, h.sb, h.sl, h.sn, h.sm, h.st, h.sr, h.sq⟩
theorem fin2 {W : World} {p q : Nat} {t u : TypeId} {o1 o2 : Array Value} (c1 c2 : Array Value) (hp : W.heap[p]? = some (.cells o1 t (0, 0))) (hq : W.heap[q]? = some (.cells o2 u (0, 0))) (hpq : p ≠ q) : Hid (((W.setRow p c1).setRow q c2).heap[p]? = some (.cells c1 t (0, 0)) ∧ ((W.setRow p c1).setRow q c2).heap[q]? = some (.cells c2 u (0, 0)) ∧ (∀ B X, WR B W X → p < B → q < B → WR B ((W.setRow p c1).setRow q c2) X) ∧ (∀ w0 : World, Below w0.heap.size w0 W → w0.heap.size ≤ p → w0.heap.size ≤ q → Below w0.heap.size w0 ((W.setRow p c1).setRow q c2))) := by
 apply hideIt
 have h1 := setRow_heap W p o1 c1 t _ hp;have q1 : (W.setRow p c1).heap[q]? = some (.cells o2 u (0, 0)) := (setRow_other W p q _ (fun e => hpq e.symm)).trans hq;refine ⟨(setRow_other _ q p _ hpq).trans h1, setRow_heap _ q o2 c2 u _ q1, fun B X h e1 e2 => (h.row c1 e1).row c2 e2, fun w0 h e1 e2 => ?_⟩;exact below_out (below_out h (setRow_out W p c1) (fun k e => by omega)) (setRow_out _ q c2) (fun k e => by omega)
theorem four_al (w : World) (c1 c2 c3 c4 : Array Value) (t1 t2 t3 t4 : TypeId) : Hid (((((w.alloc (.cells c1 t1)).alloc (.cells c2 t2)).alloc (.cells c3 t3)).alloc (.cells c4 t4)).heap[w.heap.size]? = some (.cells c1 t1 (0, 0)) ∧ ((((w.alloc (.cells c1 t1)).alloc (.cells c2 t2)).alloc (.cells c3 t3)).alloc (.cells c4 t4)).heap[w.heap.size + 1]? = some (.cells c2 t2 (0, 0)) ∧ ((((w.alloc (.cells c1 t1)).alloc (.cells c2 t2)).alloc (.cells c3 t3)).alloc (.cells c4 t4)).heap[w.heap.size + 1 + 1]? = some (.cells c3 t3 (0, 0)) ∧ ((((w.alloc (.cells c1 t1)).alloc (.cells c2 t2)).alloc (.cells c3 t3)).alloc (.cells c4 t4)).heap[w.heap.size + 1 + 1 + 1]? = some (.cells c4 t4 (0, 0)) ∧ Below w.heap.size w ((((w.alloc (.cells c1 t1)).alloc (.cells c2 t2)).alloc (.cells c3 t3)).alloc (.cells c4 t4)) ∧ ((((w.alloc (.cells c1 t1)).alloc (.cells c2 t2)).alloc (.cells c3 t3)).alloc (.cells c4 t4)).heap.size = w.heap.size + 4) := by
 apply hideIt
 have s1 : (w.alloc (.cells c1 t1)).heap.size = w.heap.size + 1 := by simp
 have s2 : ((w.alloc (.cells c1 t1)).alloc (.cells c2 t2)).heap.size = w.heap.size + 1 + 1 := by simp
 have s3 : (((w.alloc (.cells c1 t1)).alloc (.cells c2 t2)).alloc (.cells c3 t3)).heap.size = w.heap.size + 1 + 1 + 1 := by simp
 have s4 : ((((w.alloc (.cells c1 t1)).alloc (.cells c2 t2)).alloc (.cells c3 t3)).alloc (.cells c4 t4)).heap.size = w.heap.size + 1 + 1 + 1 + 1 := by simp
 have h1 := heap_alloc_new w (.cells c1 t1);have h2 := heap_alloc_new (w.alloc (.cells c1 t1)) (.cells c2 t2);have h3 := heap_alloc_new ((w.alloc (.cells c1 t1)).alloc (.cells c2 t2)) (.cells c3 t3);have h4 := heap_alloc_new (((w.alloc (.cells c1 t1)).alloc (.cells c2 t2)).alloc (.cells c3 t3)) (.cells c4 t4);rw [s1] at h2;rw [s2] at h3;rw [s3] at h4
 exact ⟨blkK (blkK (blkK h1 (below1 _ _)) (below1 _ _)) (below1 _ _), blkK (blkK h2 (below1 _ _)) (below1 _ _), blkK h3 (below1 _ _), h4, below_via (below_via (below_via (below1 _ _) (below1 _ _)) (below1 _ _)) (below1 _ _), s4⟩
set_option maxHeartbeats 4000000 in
theorem evH_is (d : NodeV) (e : EvV) (ea : Option Addr) (ec : Nat) (w : World) (hm : EGot w (.slice ea e.m.es.length ec) e.m.es) (hfw : FW d d) (hled : Led d) (W0 : World) (hb0 : Below w.heap.size w W0) (hkk : 1 ≤ e.kind ∧ e.kind ≤ 4) : ∃ fk : Nat, evF e.kind = some (fnV fk) ∧ (∀ (args : Array Value) (w : World), (callFunc fk args).run Tryz.prog w = .ok (.enter fk args) w) ∧ Hid (∀ (X : WkX) (K : Nat) (wx : World), WK W0 K X wx → X.v = ⟨d, [], [], 0, false⟩ → Calls Tryz.prog fk #[.pointer (some ⟨K, 0, none⟩), .agg (evC e ea ec).toArray] wx fun r w' => r = .returned (.int .i64 (evW ⟨d, [], [], 0, false⟩ e).2) ∧ Hid (∃ Y' : WkX, Y'.v = (evW ⟨d, [], [], 0, false⟩ e).1 ∧ WK W0 K Y' w')) := by
 have hc : e.kind = 1 ∨ e.kind = 2 ∨ e.kind = 3 ∨ e.kind = 4 := by omega
 rcases hc with hk | hk | hk | hk
 ·have hk2 := hk;have hres : evW ⟨d, [], [], 0, false⟩ e = timeW ⟨d, [], [], 0, false⟩ := by
   unfold evW;rw [if_pos hk]
  refine ⟨53, by rw [hk]; simp [evF, updF], enter_of Tryz.func53 (by kernel_rfl) (by kernel_rfl), hideIt ?_⟩
  intro X K wx hW hv;have hd : X.d = d := by rw [← X.vd, hv]
  have hMl := X.mlen;have hRl := X.rlen;rw [hv] at hMl hRl;simp only [List.length_nil] at hMl hRl;refine (timeK_is hW e ea ec (by rw [hd]; exact hfw.nb) (by rw [hd]; exact hled) (by omega) (by omega)).mono ?_
  rintro r w' ⟨Y', rfl, hv', hw⟩;rw [hv] at hv'
  exact ⟨by rw [hres, hv], hideIt ⟨Y', by rw [hres]; exact hv', hw⟩⟩
 ·have hk2 := hk;have hres : evW ⟨d, [], [], 0, false⟩ e = propW ⟨d, [], [], 0, false⟩ e.tx := by
   unfold evW;rw [if_neg (by omega), if_pos hk]
  refine ⟨54, by rw [hk]; simp [evF, updF], enter_of Tryz.func54 (by kernel_rfl) (by kernel_rfl), hideIt ?_⟩
  intro X K wx hW hv;have hd : X.d = d := by rw [← X.vd, hv]
  have hMl := X.mlen;have hRl := X.rlen;rw [hv] at hMl hRl;simp only [List.length_nil] at hMl hRl;refine (propK_is hW e ea ec (by rw [hd]; exact hfw.nb) (by rw [hd]; exact hled) (by omega) (by omega)).mono ?_
  rintro r w' ⟨Y', rfl, hv', hw⟩;rw [hv] at hv'
  exact ⟨by rw [hres, hv], hideIt ⟨Y', by rw [hres]; exact hv', hw⟩⟩
 ·have hk2 := hk;have hres : evW ⟨d, [], [], 0, false⟩ e = messW ⟨d, [], [], 0, false⟩ e.m := by
   unfold evW;rw [if_neg (by omega), if_neg (by omega), if_pos hk]
  refine ⟨55, by rw [hk]; simp [evF, updF], enter_of Tryz.func55 (by kernel_rfl) (by kernel_rfl), hideIt ?_⟩
  intro X K wx hW hv;have hd : X.d = d := by rw [← X.vd, hv]
  have hMl := X.mlen;have hRl := X.rlen;rw [hv] at hMl hRl;simp only [List.length_nil] at hMl hRl;refine (messK_is hW e ⟨e.m, ea, ec⟩ rfl (hm.keep hb0) (by rw [hd]; exact hfw) (by rw [hd]; exact hled) (by omega) (by omega)).mono ?_
  rintro r w' ⟨Y', rfl, hv', hw⟩;rw [hv] at hv'
  exact ⟨by rw [hres, hv], hideIt ⟨Y', by rw [hres]; exact hv', hw⟩⟩
 ·have hk2 := hk;have hres : evW ⟨d, [], [], 0, false⟩ e = saveW ⟨d, [], [], 0, false⟩ e.idx e.tx := by
   unfold evW;rw [if_neg (by omega), if_neg (by omega), if_neg (by omega)]
  refine ⟨56, by rw [hk]; simp [evF, updF], enter_of Tryz.func56 (by kernel_rfl) (by kernel_rfl), hideIt ?_⟩
  intro X K wx hW hv;have hd : X.d = d := by rw [← X.vd, hv]
  have hMl := X.mlen;have hRl := X.rlen;rw [hv] at hMl hRl;simp only [List.length_nil] at hMl hRl;refine (saveK_is hW e ea ec (by omega)).mono ?_;rintro r w' ⟨Y', rfl, hv', hw⟩;rw [hv] at hv'
  exact ⟨by rw [hres, hv], hideIt ⟨Y', by rw [hres]; exact hv', hw⟩⟩
set_option maxRecDepth 100000 in
set_option maxHeartbeats 16000000 in
theorem stepK_is (d : NodeV) (gb gl gn gm : Value) (e : EvV) (ea : Option Addr) (ec : Nat) (w : World) (hN : NodAt w d gb gl gn gm) (hm : EGot w (.slice ea e.m.es.length ec) e.m.es) (hI : Inv d) (hek : i64B e.kind) : Calls Tryz.prog 11 #[.agg (nodA d gb gl gn gm), .agg (evC e ea ec).toArray] w fun r w' => ∃ X : WkX, r = .returned (.tuple #[.agg (nodA X.d X.gb X.gl X.gn X.gm), .agg #[.slice X.ra X.R.length X.rc, .slice X.qa X.M.length X.qc, .int .i64 X.ix, .bool X.wt], .int .i64 (stepN d e).2]) ∧ X.v = (stepN d e).1 ∧ WR w.heap.size w' X ∧ Below w.heap.size w w' := by
 obtain ⟨hfw, hled⟩ := hI.fw;have hB := hI.1;have I0 := four_al w (nodA d gb gl gn gm) (evC e ea ec).toArray #[.int .i64 0, .int .i64 0, .int .i64 0, .int .i64 0, .int .i64 0, .slice none 0 0, .int .i64 0, .int .i64 0, .int .i64 0, .slice none 0 0, .int .i64 0, .string ⟨#[]⟩, .slice none 0 0, .slice none 0 0] #[.slice none 0 0, .slice none 0 0, .int .i64 0, .bool false] 38 52 38 46;have HV0 : Hid (stepN d e = if wiB e.kind 1 4 = false then (zWk, 1) else if (evW ⟨d, [], [], 0, false⟩ e).2 ≠ 0 then (zWk, (evW ⟨d, [], [], 0, false⟩ e).2) else (hardW (evW ⟨d, [], [], 0, false⟩ e).1 d.b.t d.b.v, 0)) := hideIt (by unfold stepN; rw [if_neg (by rw [hB]; simp)])
 have htx : d.tx.size ≤ 60000 := by
  have := hfw.nb.tx;simp only [textB, Bool.and_eq_true, decide_eq_true_eq] at this;omega
 have hLin := mayB_in hfw.nb.L;have hbl := hfw.bl;have hnn := hfw.nb.n;have HSZ : Hid (d.nx.length ≤ 1000000 ∧ d.mt.length ≤ 1000000) := hideIt (by
  by_cases hr : d.b.r = 3
  ·have h3 := (hled.1 hr);have h4 := h3.nl;have h5 := h3.ml;omega
  ·obtain ⟨h4, h5⟩ := hled.2 hr;rw [h4, h5]
   simp)
 have HRS := hideIt (ev_rs ⟨d, [], [], 0, false⟩ e);obtain ⟨na, nc, rfl, -, -⟩ := hN.n.cap;obtain ⟨ma, mc, rfl, -, -⟩ := hN.m.cap;obtain ⟨ba, bc, rfl⟩ := GotAt.open hN.b;obtain ⟨la, lc, rfl⟩ : ∃ a c, gl = .slice a d.L.l.length c := by
  obtain ⟨_, a, c, e, _⟩ := hN.l
  exact ⟨a, c, e⟩
 have HNN := hideIt hN;have HMM := hideIt hm;have HII := hideIt hI;clear hm hI hN hB hfw hled;unfold evC msgE at I0;unfold nodA at I0;unfold evC msgE
 go_enter Tryz.func11, Tryz.ntmps11
 unfold nodA
 go_upto_region 1 with fail
 generalize (World.alloc (World.alloc (World.alloc (World.alloc w _) _) _) _) = W0 at *;have hR1 : w.heap.size ≤ w.heap.size + 1 + 1 := by omega
 have hR2 : w.heap.size ≤ w.heap.size + 1 + 1 + 1 := by omega
 have hS1 : w.heap.size + 1 + 1 < W0.heap.size := by have := I0.out.2.2.2.2.2; omega
 have hS2 : w.heap.size + 1 + 1 + 1 < W0.heap.size := by have := I0.out.2.2.2.2.2; omega
 have hS3 : w.heap.size ≤ W0.heap.size := by have := I0.out.2.2.2.2.2; omega
 have hR12 : w.heap.size + 1 + 1 ≠ w.heap.size + 1 + 1 + 1 := by omega
 obtain ⟨i1, i2, i3, i4, i5, -⟩ := I0.out;have HP1 := hideIt i1;have HP2 := hideIt i2;have HR1 := hideIt i3;have HR2 := hideIt i4;have HBL := hideIt i5;clear I0 i1 i2 i3 i4 i5;have HVIA := hideIt (fun (V : World) (hV : Below W0.heap.size W0 V) => below_via HBL.out hV);generalize w.heap.size + 1 + 1 + 1 = R2 at *;generalize w.heap.size + 1 + 1 = R1 at *;generalize w.heap.size + 1 = P2 at *;obtain ⟨⟨p0, p1, p2, p3, p4, p5, p6, p7, p8, p9, p10, p11, p12, p13⟩, pf, pz⟩ := at14 HP1.out;have HM1 := hideIt (rmayBe_is d (.slice ba d.b.l.length bc) (.slice la d.L.l.length lc) (.slice na d.nx.length nc) (.slice ma d.mt.length mc) W0 (HNN.out.keep HBL.out));rw [HII.out.1] at HM1;unfold nodA at HM1
 go_wp2_with fail
 refine HM1.out.mono ?_;rintro r w1 ⟨rfl, hb1⟩;dsimp only;have HB1 := hideIt hb1;clear p0 p1 p2 p3 p4 p5 p6 p7 p8 p9 p10 p11 p12 p13 pf pz hb1 HM1;have HE1 := hideIt (blkK HP2.out HB1.out);obtain ⟨⟨e0, e1, e2, e3, e4, e5, e6, e7, e8, e9, e10, e11, e12, e13, e14, e15⟩, ef, ez⟩ := at16 HE1.out;clear e1 e2 e3 e4 e5 e6 e7 e8 e9 e10 e11 e12 e13 e14 e15
 go_upto_region 3 with fail
 by_cases hkk : 1 ≤ e.kind ∧ e.kind ≤ 4
 ·obtain ⟨fk, hfk, hcf, HHD⟩ := evH_is d e ea ec w HMM.out HII.out.fw.1 HII.out.fw.2 W0 HBL.out hkk;unfold evC msgE at HHD;have HV1 := hideIt (by have := HV0.out; rw [if_neg (by rw [show wiB e.kind 1 4 = true from decide_eq_true hkk]; simp)] at this; exact this)
  clear HV0 HMM;have HEV : Hid (∀ W, Below w1.heap.size w1 W → Calls Tryz.prog 28 #[] W fun r w' => ∃ mb, r = .returned (.map (some mb)) ∧ Hid (Below w1.heap.size w1 w') ∧ ((Instr.lookup 75 (.map (some mb)) (.int .i64 e.kind) true).run Tryz.prog w' = .ok (.tuple #[.func (.func fk) #[] #[], .bool true]) w') ∧ w'.cell? ⟨P2, 0, none⟩ = some (.int .i64 e.kind)) := hideIt (by
   intro W hW;refine (events_is W).mono ?_;rintro r w' ⟨mb, rfl, HF, hmb, hbl⟩;have hb2 := below_via hW hbl;have hlk := HF.look_ok (t := 75) Tryz.underlying75 (by first | rfl | kernel_rfl | simp [zeroValue, go_sem]) e.kind (wf64 e.kind hek.1 hek.2);rw [hfk] at hlk
   exact ⟨mb, rfl, hideIt hb2, hlk, by rw [Tm.cell_at (blkK HE1.out hb2)]; rfl⟩)
  go_cut [7, 8] from 16 to 22 (fun x y wy => x = .func (.func fk) #[] #[] ∧ y = .bool true ∧ Hid (Below w1.heap.size w1 wy))
  case first =>
   clear HV1 HHD hcf hfk;refine wp_region_held_drew (S := fun W => W.cell? ⟨P2, 0, none⟩ = some (.int .i64 e.kind)) (by rfl) e0 (fun hHeld => ?_);refine wpAnyH_take (i := 1) (oi := ⟨some 18, _, _, _, _, _⟩) (v := ?_) rfl (by kernel_rfl) (by kernel_rfl) (by kernel_rfl) (fun _ _ _ h => h) (Or.inl ⟨by rfl, ?_⟩) (by assumption) ?_
   rotate_left
   ·intro w5 hSw
    (try dsimp only at hSw)
    go_simp
    (try with_reducible rfl)
   try simp only [aP, aQ, aA, aB, aC]
   refine wpAnyH_take (i := 2) (oi := ⟨some 19, _, _, _, _, _⟩) (v := ?_) rfl (by kernel_rfl) (by kernel_rfl) (by kernel_rfl) (fun _ _ _ h => h) (Or.inl ⟨by rfl, ?_⟩) (by assumption) ?_
   rotate_left
   ·intro w5 hSw
    (try dsimp only at hSw)
    go_simp
    (try with_reducible rfl)
   try simp only [aP, aQ, aA, aB, aC]
   refine wpAnyH_ready (rs := [0]) (by kernel_rfl) (by simp) ?_;refine AllReadyH.cons (o := ⟨some 17, _, _, _, _, _⟩) rfl (fun Kx hK => ?_) AllReadyH.nil;go_simp
   go_at_call 28
   refine (HEV.out _ (by first | exact (Below.refl _ _).drew | exact Below.refl _ _)).mono ?_;rintro r5 w5 ⟨mb, rfl, HB5, hlk, hS5⟩;refine hK.out _ _ hS5 (fun hHeld => ?_);clear hK Kx
   try simp only [aP, aQ, aA, aB, aC]
   refine wpAnyH_ready (rs := [3]) (by kernel_rfl) (by simp) ?_;refine AllReadyH.cons (o := ⟨some 20, _, _, _, _, _⟩) rfl (fun Kx hK => ?_) AllReadyH.nil;go_simp;refine hK.out _ _ hHeld (fun hHeld => ?_);clear hK Kx
   try simp only [aP, aQ, aA, aB, aC]
   refine wpAnyH_take (i := 4) (oi := ⟨some 16, _, _, _, _, _⟩) (v := ?_) rfl (by kernel_rfl) (by kernel_rfl) (by kernel_rfl) (fun _ _ _ h => h) (Or.inl ⟨by rfl, ?_⟩) (by assumption) ?_
   rotate_left
   ·intro w5 hSw
    (try dsimp only at hSw)
    go_simp
    (try with_reducible rfl)
   try simp only [aP, aQ, aA, aB, aC]
   refine wpAnyH_take (i := 5) (oi := ⟨some 21, _, _, _, _, _⟩) (v := ?_) rfl (by kernel_rfl) (by kernel_rfl) (by kernel_rfl) (fun _ _ _ h => h) (Or.inl ⟨by rfl, ?_⟩) (by assumption) ?_
   rotate_left
   ·intro w5 hSw
    (try dsimp only at hSw)
    go_simp
    (try with_reducible rfl)
   try simp only [aP, aQ, aA, aB, aC]
   refine wpAnyH_take (i := 6) (oi := ⟨some 22, _, _, _, _, _⟩) (v := ?_) rfl (by kernel_rfl) (by kernel_rfl) (by kernel_rfl) (fun _ _ _ h => h) (Or.inl ⟨by rfl, ?_⟩) (by assumption) ?_
   rotate_left
   ·intro w5 hSw
    (try dsimp only at hSw)
    go_simp
    (try with_reducible rfl)
   try simp only [aP, aQ, aA, aB, aC]
   refine wpAnyH_take (i := 7) (oi := ⟨some 7, _, _, _, _, _⟩) (v := ?_) rfl (by kernel_rfl) (by kernel_rfl) (by kernel_rfl) (fun _ _ _ h => h) (Or.inl ⟨by rfl, ?_⟩) (by assumption) ?_
   rotate_left
   ·intro w5 hSw
    (try dsimp only at hSw)
    go_simp
    (try with_reducible rfl)
   try simp only [aP, aQ, aA, aB, aC]
   refine wpAnyH_take (i := 8) (oi := ⟨some 8, _, _, _, _, _⟩) (v := ?_) rfl (by kernel_rfl) (by kernel_rfl) (by kernel_rfl) (fun _ _ _ h => h) (Or.inl ⟨by rfl, ?_⟩) (by assumption) ?_
   rotate_left
   ·intro w5 hSw
    (try dsimp only at hSw)
    go_simp
    (try with_reducible rfl)
   try simp only [aP, aQ, aA, aB, aC]
   refine wpAnyH_done (by kernel_rfl) ?_ _;clear hHeld
   go_wp2_with fail
   go_meet
   exact ⟨rfl, rfl, HB5⟩
  case rest =>
   obtain ⟨rfl, rfl, HB2⟩ := hcut;have HB3 := hideIt (below_via HB1.out HB2.out);clear HEV HB1 HB2 HE1 e0 ef ez;obtain ⟨⟨p0, p1, p2, p3, p4, p5, p6, p7, p8, p9, p10, p11, p12, p13⟩, pf, pz⟩ := at14 (blkK HP1.out HB3.out);have HA := hideIt (anewN2_is d (.slice ba d.b.l.length bc) (.slice la d.L.l.length lc) (.slice na d.nx.length nc) (.slice ma d.mt.length mc) wc (HNN.out.keep (HVIA.out _ HB3.out)) HII.out.fw.1.nb.L htx);unfold NodeBack2 at HA;unfold nodA at HA;clear HNN HII
   go_wp2_with fail
   refine HA.out.mono ?_;rintro r w5 ⟨gb, gl, gn, gm, rfl, ho, hbl5, hnm, hnb, hmb⟩;dsimp only;obtain ⟨xb, xbc, rfl⟩ := Tm.own_len ho.b;obtain ⟨xl, xlc, rfl⟩ := own_len ho.l;obtain ⟨xn, xnc, rfl⟩ := Tm.own_len ho.n;obtain ⟨xm, xmc, rfl⟩ := Tm.own_len ho.m;have HB5 := hideIt (below_via HB3.out hbl5);obtain ⟨X0, hX0⟩ : ∃ X0 : WkX, X0 = ⟨d, xb, xbc, xl, xlc, xn, xnc, xm, xmc, [], none, 0, [], none, 0, 0, false⟩ := ⟨_, rfl⟩;have hbn := below1 w5 (.cells (wkA X0) 78);have HWK : Hid (WK W0 w5.heap.size X0 (w5.alloc (.cells (wkA X0) 78))) := hideIt (by
    refine ⟨heap_alloc_new w5 _, ?_, HB5.out.size, below_via HB5.out hbn⟩;have hbn2 := hbn;rw [hX0] at hbn2 ⊢
    exact ⟨(ho.base HB3.out.size).keep hbn2, nil_own _ _, fun x hx => (by cases hx), nil_own _ _, fun x hx => (by cases hx), hnm, hnb, hmb, by simp only; omega, by simp only; omega, HSZ.out.1, HSZ.out.2, htx, by simp, by simp⟩)
   have HX0v : Hid (X0.v = ⟨d, [], [], 0, false⟩) := hideIt (by rw [hX0]; rfl)
   have HP1b := hideIt (blkK (blkK HP1.out HB5.out) hbn);have HP2b := hideIt (blkK (blkK HP2.out HB5.out) hbn);unfold wkA at HWK HP1b HP2b;rw [hX0] at HWK HP1b HP2b HX0v;simp only [List.length_nil] at HWK HP1b HP2b;clear p0 p1 p2 p3 p4 p5 p6 p7 p8 p9 p10 p11 p12 p13 pf pz ho hbl5 hnm hnb hmb hbn HA HB3 HB5 hX0
   go_upto_region 7 with (refine wpList_store_row rfl 78 _ _ rfl w5.heap.size #[.int .i64 d.me, .int .i64 d.n, .int .i64 d.b.t, .int .i64 d.b.v, .int .i64 d.b.r, .slice xb d.b.l.length xbc, .int .i64 d.ld, .int .i64 d.L.bi, .int .i64 d.L.bt, .slice xl d.L.l.length xlc, .int .i64 d.L.cm, .string d.tx, .slice xn d.nx.length xnc, .slice xm d.mt.length xmc, .slice none 0 0, .slice none 0 0, .int .i64 0, .bool false] rfl rfl 78 #[.int .i64 0, .int .i64 0, .int .i64 0, .int .i64 0, .int .i64 0, .slice none 0 0, .int .i64 0, .int .i64 0, .int .i64 0, .slice none 0 0, .int .i64 0, .string ⟨#[]⟩, .slice none 0 0, .slice none 0 0, .slice none 0 0, .slice none 0 0, .int .i64 0, .bool false] (heap_alloc_new w5 _) (by kernel_rfl) (by rfl) (by simp [Value.oneCell']) ?_; rw [World.setRow_alloc_new])
   generalize (World.alloc w5 _) = W7 at *;generalize w5.heap.size = K at *;have hKS : W0.heap.size ≤ K := HWK.out.hK;obtain ⟨⟨e0, e1, e2, e3, e4, e5, e6, e7, e8, e9, e10, e11, e12, e13, e14, e15⟩, ef, ez⟩ := at16 HP2b.out;have HHE := hideIt (HHD.out _ K W7 HWK.out HX0v.out);clear HHD HWK HX0v HP1b HP2b HSZ hbl hnn hLin htx;generalize (evW ⟨d, [], [], 0, false⟩ e) = E at *
   go_wp2_with fail
   refine HHE.out.mono ?_;rintro r w7 ⟨rfl, HY⟩;dsimp only;obtain ⟨Y, hYv, hYw⟩ := HY.out;have HYW := hideIt hYw;have HYV := hideIt hYv;clear HY HHE hYw hYv e0 e1 e2 e3 e4 e5 e6 e7 e8 e9 e10 e11 e12 e13 e14 e15 ef ez hcf hfk
   by_cases h0 : E.2 = 0
   ·have HV := hideIt (by have := HV1.out; rw [if_neg (fun h => h h0)] at this; exact this)
    have hz1 : (E.2 == 0) = true := beq_iff_eq.2 h0;have HP1c := hideIt (blkK HP1.out HYW.out.bel);obtain ⟨⟨p0, p1, p2, p3, p4, p5, p6, p7, p8, p9, p10, p11, p12, p13⟩, pf, pz⟩ := at14 HP1c.out;have HKH := hideIt (keepHard_is HYW.out d.b.t d.b.v (by have h1 := Y.rlen; rw [HYV.out] at h1; have h2 := HRS.out; simp only [List.length_nil] at h2; omega))
    clear HV1 h0 p0 p1 p4 p5 p6 p7 p8 p9 p10 p11 p12 p13
    go_wp2_with fail
    refine HKH.out.mono ?_;rintro r w8 ⟨Z, rfl, hZv, hZw⟩;dsimp only;have HZW := hideIt hZw;have HZV := hideIt hZv;clear HKH hZw hZv p2 p3 pf pz HP1c HYW;have HQ1 := hideIt (blkK HR1.out HZW.out.bel);have HQ2 := hideIt (blkK HR2.out HZW.out.bel);have y1 : R1 ≠ K := by omega
    have y2 : R2 ≠ K := by omega
    have y3 : K ≠ R1 := by omega
    have y4 : K ≠ R2 := by omega
    have y5 : R2 ≠ R1 := fun e => hR12 e.symm
    go_upto_region 11 with fail
    refine wp_region_held_drew (S := fun W => W.heap[K]? = some (.cells #[.int .i64 Z.d.me, .int .i64 Z.d.n, .int .i64 Z.d.b.t, .int .i64 Z.d.b.v, .int .i64 Z.d.b.r, .slice Z.ba Z.d.b.l.length Z.bc, .int .i64 Z.d.ld, .int .i64 Z.d.L.bi, .int .i64 Z.d.L.bt, .slice Z.la Z.d.L.l.length Z.lc, .int .i64 Z.d.L.cm, .string Z.d.tx, .slice Z.na Z.d.nx.length Z.nc, .slice Z.ma Z.d.mt.length Z.mc, .slice Z.ra Z.R.length Z.rc, .slice Z.qa Z.M.length Z.qc, .int .i64 Z.ix, .bool Z.wt] 78 (0, 0))) (by rfl) HZW.out.box (fun hHeld => ?_);refine wpAnyH_take (i := 0) (oi := ⟨some 42, _, _, _, _, _⟩) (v := ?_) rfl (by kernel_rfl) (by kernel_rfl) (by kernel_rfl) (fun _ _ _ h => h) (Or.inl ⟨by rfl, ?_⟩) (by assumption) ?_
    rotate_left
    ·intro w5 hSw
     (try dsimp only at hSw)
     go_simp
     (try with_reducible rfl)
    try simp only [aP, aQ, aA, aB, aC]
    refine wpAnyH_take (i := 1) (oi := ⟨some 43, _, _, _, _, _⟩) (v := ?_) rfl (by kernel_rfl) (by kernel_rfl) (by kernel_rfl) (fun _ _ _ h => h) (Or.inl ⟨by rfl, ?_⟩) (by assumption) ?_
    rotate_left
    ·intro w5 hSw
     (try dsimp only at hSw)
     obtain ⟨⟨k0, k1, k2, k3, k4, k5, k6, k7, k8, k9, k10, k11, k12, k13, k14, k15, k16, k17⟩, kf, kz⟩ := at18 hSw;go_simp
     (try with_reducible rfl)
    try simp only [aP, aQ, aA, aB, aC]
    refine wpAnyH_take (i := 2) (oi := ⟨some 44, _, _, _, _, _⟩) (v := ?_) rfl (by kernel_rfl) (by kernel_rfl) (by kernel_rfl) (fun _ _ _ h => h) (Or.inl ⟨by rfl, ?_⟩) (by assumption) ?_
    rotate_left
    ·intro w5 hSw
     (try dsimp only at hSw)
     go_simp
     (try with_reducible rfl)
    try simp only [aP, aQ, aA, aB, aC]
    refine wpAnyH_take (i := 3) (oi := ⟨some 45, _, _, _, _, _⟩) (v := ?_) rfl (by kernel_rfl) (by kernel_rfl) (by kernel_rfl) (fun _ _ _ h => h) (Or.inl ⟨by rfl, ?_⟩) (by assumption) ?_
    rotate_left
    ·intro w5 hSw
     (try dsimp only at hSw)
     obtain ⟨⟨k0, k1, k2, k3, k4, k5, k6, k7, k8, k9, k10, k11, k12, k13, k14, k15, k16, k17⟩, kf, kz⟩ := at18 hSw;go_simp
     (try with_reducible rfl)
    try simp only [aP, aQ, aA, aB, aC]
    refine wpAnyH_ready (rs := [4]) (by kernel_rfl) (by simp) ?_;refine AllReadyH.cons (o := ⟨none, _, _, _, _, _⟩) rfl (fun Kx hK => ?_) AllReadyH.nil;refine step_store_rowK rfl 38 _ _ rfl R1 #[.int .i64 Z.d.me, .int .i64 Z.d.n, .int .i64 Z.d.b.t, .int .i64 Z.d.b.v, .int .i64 Z.d.b.r, .slice Z.ba Z.d.b.l.length Z.bc, .int .i64 Z.d.ld, .int .i64 Z.d.L.bi, .int .i64 Z.d.L.bt, .slice Z.la Z.d.L.l.length Z.lc, .int .i64 Z.d.L.cm, .string Z.d.tx, .slice Z.na Z.d.nx.length Z.nc, .slice Z.ma Z.d.mt.length Z.mc] rfl rfl 38 _ HQ1.out (by kernel_rfl) (by rfl) (by simp [Value.oneCell']) ?_;refine hK.out _ _ ((setRow_other _ R1 K _ y3).trans hHeld) (fun hHeld => ?_);clear hK Kx
    try simp only [aP, aQ, aA, aB, aC]
    refine wpAnyH_ready (rs := [5]) (by kernel_rfl) (by simp) ?_;refine AllReadyH.cons (o := ⟨none, _, _, _, _, _⟩) rfl (fun Kx hK => ?_) AllReadyH.nil;refine step_store_rowK rfl 46 _ _ rfl R2 #[.slice Z.ra Z.R.length Z.rc, .slice Z.qa Z.M.length Z.qc, .int .i64 Z.ix, .bool Z.wt] rfl rfl 46 _ ((setRow_other _ R1 R2 _ y5).trans HQ2.out) (by kernel_rfl) (by rfl) (by simp [Value.oneCell']) ?_;refine hK.out _ _ ((setRow_other _ R2 K _ y4).trans hHeld) (fun hHeld => ?_);clear hK Kx
    try simp only [aP, aQ, aA, aB, aC]
    refine wpAnyH_take (i := 6) (oi := ⟨some 6, _, _, _, _, _⟩) (v := ?_) rfl (by kernel_rfl) (by kernel_rfl) (by kernel_rfl) (fun _ _ _ h => h) (Or.inl ⟨by rfl, ?_⟩) (by assumption) ?_
    rotate_left
    ·intro w5 hSw
     (try dsimp only at hSw)
     go_simp
     (try with_reducible rfl)
    try simp only [aP, aQ, aA, aB, aC]
    refine wpAnyH_done (by kernel_rfl) ?_ _;clear hHeld;have F := fin2 (W := w8.drew) #[.int .i64 Z.d.me, .int .i64 Z.d.n, .int .i64 Z.d.b.t, .int .i64 Z.d.b.v, .int .i64 Z.d.b.r, .slice Z.ba Z.d.b.l.length Z.bc, .int .i64 Z.d.ld, .int .i64 Z.d.L.bi, .int .i64 Z.d.L.bt, .slice Z.la Z.d.L.l.length Z.lc, .int .i64 Z.d.L.cm, .string Z.d.tx, .slice Z.na Z.d.nx.length Z.nc, .slice Z.ma Z.d.mt.length Z.mc] #[.slice Z.ra Z.R.length Z.rc, .slice Z.qa Z.M.length Z.qc, .int .i64 Z.ix, .bool Z.wt] HQ1.out HQ2.out hR12
    revert F
    generalize (World.setRow _ R2 _) = WZ;intro F;obtain ⟨f1, f2, f3, f4⟩ := F.out;go_wp2;exact bodyPost_ret (v := .tuple #[.agg (nodA Z.d Z.gb Z.gl Z.gn Z.gm), .agg #[.slice Z.ra Z.R.length Z.rc, .slice Z.qa Z.M.length Z.qc, .int .i64 Z.ix, .bool Z.wt], .int .i64 0]) (by simp [results, Tryz.results11, go_sem, Tm.cell_at f1, Tm.cell_at f2, nodA, WkX.gb, WkX.gl, WkX.gn, WkX.gm]) rfl ⟨Z, by rw [HV.out]; rfl, by rw [HV.out, HZV.out, HYV.out], (f3 _ _ (HZW.out.keep (Below.refl _ _).drew).rows hS1 hS2).base hS3, f4 _ (HVIA.out _ (HZW.out.keep (Below.refl _ _).drew).bel) hR1 hR2⟩
   ·have HV := hideIt (by have := HV1.out; rw [if_pos h0] at this; exact this)
    have hz1 : (E.2 == 0) = false := beq_eq_false_iff_ne.2 h0;have HQ1 := hideIt (blkK HR1.out HYW.out.bel);have HQ2 := hideIt (blkK HR2.out HYW.out.bel);have y5 : R2 ≠ R1 := fun e => hR12 e.symm
    clear HV1 h0;have F := fin2 #[.int .i64 0, .int .i64 0, .int .i64 0, .int .i64 0, .int .i64 0, .slice none 0 0, .int .i64 0, .int .i64 0, .int .i64 0, .slice none 0 0, .int .i64 0, .string ⟨#[]⟩, .slice none 0 0, .slice none 0 0] #[.slice none 0 0, .slice none 0 0, .int .i64 0, .bool false] HQ1.out HQ2.out hR12;have HQ2b := hideIt ((setRow_other _ R1 R2 #[.int .i64 0, .int .i64 0, .int .i64 0, .int .i64 0, .int .i64 0, .slice none 0 0, .int .i64 0, .int .i64 0, .int .i64 0, .slice none 0 0, .int .i64 0, .string ⟨#[]⟩, .slice none 0 0, .slice none 0 0] (fun e => hR12 e.symm)).trans HQ2.out)
    go_wp2_with (first
     | (refine wpList_store_row rfl 38 _ _ rfl R1 #[.int .i64 0, .int .i64 0, .int .i64 0, .int .i64 0, .int .i64 0, .slice none 0 0, .int .i64 0, .int .i64 0, .int .i64 0, .slice none 0 0, .int .i64 0, .string ⟨#[]⟩, .slice none 0 0, .slice none 0 0] rfl rfl 38 _ HQ1.out (by kernel_rfl) (by rfl) (by simp [Value.oneCell']) ?_)
     | (refine wpList_store_row rfl 46 _ _ rfl R2 #[.slice none 0 0, .slice none 0 0, .int .i64 0, .bool false] rfl rfl 46 _ HQ2b.out (by kernel_rfl) (by rfl) (by simp [Value.oneCell']) ?_))
    revert F
    generalize (World.setRow _ R2 _) = WZ;intro F;obtain ⟨f1, f2, f3, f4⟩ := F.out;exact bodyPost_ret (v := .tuple #[.agg (nodA zNode (.slice none 0 0) (.slice none 0 0) (.slice none 0 0) (.slice none 0 0)), .agg #[.slice none 0 0, .slice none 0 0, .int .i64 0, .bool false], .int .i64 (E.2)]) (by simp [results, Tryz.results11, go_sem, Tm.cell_at f1, Tm.cell_at f2, nodA, zNode, Tm.zB, zL, noT]) rfl ⟨zX, by rw [HV.out]; rfl, by rw [HV.out]; rfl, zX_wr _ _, f4 _ (HVIA.out _ HYW.out.bel) hR1 hR2⟩
 ·have HV1 := hideIt (by have := HV0.out; rw [if_pos (by rw [show wiB e.kind 1 4 = false from decide_eq_false hkk])] at this; exact this)
  clear HV0 HMM HSZ hbl hnn hLin htx HRS;have HEV : Hid (∀ W, Below w1.heap.size w1 W → Calls Tryz.prog 28 #[] W fun r w' => ∃ mb, r = .returned (.map (some mb)) ∧ Hid (Below w1.heap.size w1 w') ∧ ((Instr.lookup 75 (.map (some mb)) (.int .i64 e.kind) true).run Tryz.prog w' = .ok (.tuple #[.nilFunc, .bool false]) w') ∧ w'.cell? ⟨P2, 0, none⟩ = some (.int .i64 e.kind)) := hideIt (by
   intro W hW;refine (events_is W).mono ?_;rintro r w' ⟨mb, rfl, HF, hmb, hbl⟩;have hb2 := below_via hW hbl;have hlk := HF.look_ok (t := 75) Tryz.underlying75 (by first | rfl | kernel_rfl | simp [zeroValue, go_sem]) e.kind (wf64 e.kind hek.1 hek.2);rw [ev_none hkk] at hlk
   exact ⟨mb, rfl, hideIt hb2, hlk, by rw [Tm.cell_at (blkK HE1.out hb2)]; rfl⟩)
  go_cut [7, 8] from 16 to 22 (fun x y wy => x = .nilFunc ∧ y = .bool false ∧ Hid (Below w1.heap.size w1 wy))
  case first =>
   clear HV1;refine wp_region_held_drew (S := fun W => W.cell? ⟨P2, 0, none⟩ = some (.int .i64 e.kind)) (by rfl) e0 (fun hHeld => ?_);refine wpAnyH_take (i := 1) (oi := ⟨some 18, _, _, _, _, _⟩) (v := ?_) rfl (by kernel_rfl) (by kernel_rfl) (by kernel_rfl) (fun _ _ _ h => h) (Or.inl ⟨by rfl, ?_⟩) (by assumption) ?_
   rotate_left
   ·intro w5 hSw
    (try dsimp only at hSw)
    go_simp
    (try with_reducible rfl)
   try simp only [aP, aQ, aA, aB, aC]
   refine wpAnyH_take (i := 2) (oi := ⟨some 19, _, _, _, _, _⟩) (v := ?_) rfl (by kernel_rfl) (by kernel_rfl) (by kernel_rfl) (fun _ _ _ h => h) (Or.inl ⟨by rfl, ?_⟩) (by assumption) ?_
   rotate_left
   ·intro w5 hSw
    (try dsimp only at hSw)
    go_simp
    (try with_reducible rfl)
   try simp only [aP, aQ, aA, aB, aC]
   refine wpAnyH_ready (rs := [0]) (by kernel_rfl) (by simp) ?_;refine AllReadyH.cons (o := ⟨some 17, _, _, _, _, _⟩) rfl (fun Kx hK => ?_) AllReadyH.nil;go_simp
   go_at_call 28
   refine (HEV.out _ (by first | exact (Below.refl _ _).drew | exact Below.refl _ _)).mono ?_;rintro r5 w5 ⟨mb, rfl, HB5, hlk, hS5⟩;refine hK.out _ _ hS5 (fun hHeld => ?_);clear hK Kx
   try simp only [aP, aQ, aA, aB, aC]
   refine wpAnyH_ready (rs := [3]) (by kernel_rfl) (by simp) ?_;refine AllReadyH.cons (o := ⟨some 20, _, _, _, _, _⟩) rfl (fun Kx hK => ?_) AllReadyH.nil;go_simp;refine hK.out _ _ hHeld (fun hHeld => ?_);clear hK Kx
   try simp only [aP, aQ, aA, aB, aC]
   refine wpAnyH_take (i := 4) (oi := ⟨some 16, _, _, _, _, _⟩) (v := ?_) rfl (by kernel_rfl) (by kernel_rfl) (by kernel_rfl) (fun _ _ _ h => h) (Or.inl ⟨by rfl, ?_⟩) (by assumption) ?_
   rotate_left
   ·intro w5 hSw
    (try dsimp only at hSw)
    go_simp
    (try with_reducible rfl)
   try simp only [aP, aQ, aA, aB, aC]
   refine wpAnyH_take (i := 5) (oi := ⟨some 21, _, _, _, _, _⟩) (v := ?_) rfl (by kernel_rfl) (by kernel_rfl) (by kernel_rfl) (fun _ _ _ h => h) (Or.inl ⟨by rfl, ?_⟩) (by assumption) ?_
   rotate_left
   ·intro w5 hSw
    (try dsimp only at hSw)
    go_simp
    (try with_reducible rfl)
   try simp only [aP, aQ, aA, aB, aC]
   refine wpAnyH_take (i := 6) (oi := ⟨some 22, _, _, _, _, _⟩) (v := ?_) rfl (by kernel_rfl) (by kernel_rfl) (by kernel_rfl) (fun _ _ _ h => h) (Or.inl ⟨by rfl, ?_⟩) (by assumption) ?_
   rotate_left
   ·intro w5 hSw
    (try dsimp only at hSw)
    go_simp
    (try with_reducible rfl)
   try simp only [aP, aQ, aA, aB, aC]
   refine wpAnyH_take (i := 7) (oi := ⟨some 7, _, _, _, _, _⟩) (v := ?_) rfl (by kernel_rfl) (by kernel_rfl) (by kernel_rfl) (fun _ _ _ h => h) (Or.inl ⟨by rfl, ?_⟩) (by assumption) ?_
   rotate_left
   ·intro w5 hSw
    (try dsimp only at hSw)
    go_simp
    (try with_reducible rfl)
   try simp only [aP, aQ, aA, aB, aC]
   refine wpAnyH_take (i := 8) (oi := ⟨some 8, _, _, _, _, _⟩) (v := ?_) rfl (by kernel_rfl) (by kernel_rfl) (by kernel_rfl) (fun _ _ _ h => h) (Or.inl ⟨by rfl, ?_⟩) (by assumption) ?_
   rotate_left
   ·intro w5 hSw
    (try dsimp only at hSw)
    go_simp
    (try with_reducible rfl)
   try simp only [aP, aQ, aA, aB, aC]
   refine wpAnyH_done (by kernel_rfl) ?_ _;clear hHeld
   go_wp2_with fail
   go_meet
   exact ⟨rfl, rfl, HB5⟩
  case rest =>
   obtain ⟨rfl, rfl, HB2⟩ := hcut;have HB3 := hideIt (below_via HB1.out HB2.out);have HV := HV1;clear HEV HB1 HB2 HE1 e0 ef ez HV1;have HQ1 := hideIt (blkK HR1.out HB3.out);have HQ2 := hideIt (blkK HR2.out HB3.out);have y5 : R2 ≠ R1 := fun e => hR12 e.symm
   have F := fin2 #[.int .i64 0, .int .i64 0, .int .i64 0, .int .i64 0, .int .i64 0, .slice none 0 0, .int .i64 0, .int .i64 0, .int .i64 0, .slice none 0 0, .int .i64 0, .string ⟨#[]⟩, .slice none 0 0, .slice none 0 0] #[.slice none 0 0, .slice none 0 0, .int .i64 0, .bool false] HQ1.out HQ2.out hR12;have HQ2b := hideIt ((setRow_other _ R1 R2 #[.int .i64 0, .int .i64 0, .int .i64 0, .int .i64 0, .int .i64 0, .slice none 0 0, .int .i64 0, .int .i64 0, .int .i64 0, .slice none 0 0, .int .i64 0, .string ⟨#[]⟩, .slice none 0 0, .slice none 0 0] (fun e => hR12 e.symm)).trans HQ2.out)
   go_wp2_with (first
    | (refine wpList_store_row rfl 38 _ _ rfl R1 #[.int .i64 0, .int .i64 0, .int .i64 0, .int .i64 0, .int .i64 0, .slice none 0 0, .int .i64 0, .int .i64 0, .int .i64 0, .slice none 0 0, .int .i64 0, .string ⟨#[]⟩, .slice none 0 0, .slice none 0 0] rfl rfl 38 _ HQ1.out (by kernel_rfl) (by rfl) (by simp [Value.oneCell']) ?_)
    | (refine wpList_store_row rfl 46 _ _ rfl R2 #[.slice none 0 0, .slice none 0 0, .int .i64 0, .bool false] rfl rfl 46 _ HQ2b.out (by kernel_rfl) (by rfl) (by simp [Value.oneCell']) ?_))
   revert F
   generalize (World.setRow _ R2 _) = WZ;intro F;obtain ⟨f1, f2, f3, f4⟩ := F.out;exact bodyPost_ret (v := .tuple #[.agg (nodA zNode (.slice none 0 0) (.slice none 0 0) (.slice none 0 0) (.slice none 0 0)), .agg #[.slice none 0 0, .slice none 0 0, .int .i64 0, .bool false], .int .i64 (1)]) (by simp [results, Tryz.results11, go_sem, Tm.cell_at f1, Tm.cell_at f2, nodA, zNode, Tm.zB, zL, noT]) rfl ⟨zX, by rw [HV.out]; rfl, by rw [HV.out]; rfl, zX_wr _ _, f4 _ (HVIA.out _ HB3.out) hR1 hR2⟩
end Go.Proofs.YtcaehfkfohianaaGreat
