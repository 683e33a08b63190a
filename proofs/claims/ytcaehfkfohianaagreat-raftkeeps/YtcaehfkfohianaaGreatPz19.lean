/- Texts of my own, laid together. -/
import Derived.Test.YtcaehfkfohianaaGreatPz17
import Derived.Test.YtcaehfkfohianaaGreatPz18
set_option linter.all false
namespace Go.Proofs.YtcaehfkfohianaaGreat
open Go.RowKit
theorem inst_len {L : LogV} (i t : Int) (h : L.l.length ≤ 1000000) : (instL L i t).1.l.length ≤ 1000000 := by
 unfold instL
 split
 ·split
  ·split
   ·exact h
   ·simp only
    split
    ·rw [List.length_drop];omega
    ·simp
  ·simp [zL]
 ·simp [zL]
theorem inst_c1 {W : WkV} {m : MsgW} (h : (instL W.d.L m.si m.st).2.1 = true) : instW W m = answW (snapW {W with d := {W.d with L := (instL W.d.L m.si m.st).1, tx := m.tx}}) m true (min m.si (instL W.d.L m.si m.st).1.cm) := by
 unfold instW;rw [if_pos h, if_pos h]
theorem inst_c2 {W : WkV} {m : MsgW} (h : (instL W.d.L m.si m.st).2.1 = false) : instW W m = answW W m true (min m.si W.d.L.cm) := by
 unfold instW;rw [if_neg (by rw [h]; simp), if_neg (by rw [h]; simp)]
set_option maxRecDepth 100000 in
set_option maxHeartbeats 16000000 in
theorem installK_is {X : WkX} {K : Nat} {w wx : World} (h : WK w K X wx) (y : MsgX) (htx : y.m.tx.size ≤ 60000) (hs : X.M.length < 1000000) (hR : X.R.length < 1000000) : Calls Tryz.prog 166 #[.pointer (some ⟨K, 0, none⟩), .agg (msgE y).toArray] wx fun r w' => ∃ Y' : WkX, r = .returned (.tuple #[]) ∧ Y'.v = instW X.v y.m ∧ WK w K Y' w' := by
 have hlA := inst_len y.m.si y.m.st h.rows.sl;have HV1 : Hid ((instL X.d.L y.m.si y.m.st).2.1 = true → instW X.v y.m = answW (snapW {X.v with d := {X.d with L := (instL X.d.L y.m.si y.m.st).1, tx := y.m.tx}}) y.m true (min y.m.si (instL X.d.L y.m.si y.m.st).1.cm)) := hideIt (inst_c1 (W := X.v) (m := y.m));have HV2 : Hid ((instL X.d.L y.m.si y.m.st).2.1 = false → instW X.v y.m = answW X.v y.m true (min y.m.si X.d.L.cm)) := hideIt (inst_c2 (W := X.v) (m := y.m));have HV : Hid True := hideIt trivial;have HX0 := hideIt (h.keep (below1 wx (.cells (msgE y).toArray 50)));have HP := hideIt (heap_alloc_new wx (.cells (msgE y).toArray 50));have hKP : K ≠ wx.heap.size := by
  have := (Array.getElem?_eq_some_iff.1 h.box).1;omega
 clear h;unfold msgE at *
 go_enter Tryz.func166, Tryz.ntmps166
 go_upto_region 1 with fail
 generalize (World.alloc wx _) = W0 at *;generalize wx.heap.size = P at *;have HCY : Hid (∀ W, Below W0.heap.size W0 W → Calls Tryz.prog 197 #[.agg #[.int .i64 X.d.L.bi, .int .i64 X.d.L.bt, .slice X.la X.d.L.l.length X.lc, .int .i64 X.d.L.cm], .agg #[.int .i64 y.m.si, .int .i64 y.m.st]] W fun r w' => ∃ a c, r = .returned (.tuple #[.agg #[.int .i64 (instL X.d.L y.m.si y.m.st).1.bi, .int .i64 (instL X.d.L y.m.si y.m.st).1.bt, .slice a (instL X.d.L y.m.si y.m.st).1.l.length c, .int .i64 (instL X.d.L y.m.si y.m.st).1.cm], .bool (instL X.d.L y.m.si y.m.st).2.1, .int .i64 (instL X.d.L y.m.si y.m.st).2.2]) ∧ Hid (w'.ownsRow W0.heap.size 55 3 (.slice a (instL X.d.L y.m.si y.m.st).1.l.length c) (instL X.d.L y.m.si y.m.st).1.l.length (entC (instL X.d.L y.m.si y.m.st).1.l) ∧ Below W0.heap.size W0 w' ∧ Below W.heap.size W w') ∧ (w'.cell? ⟨K, 7, none⟩ = some (.int .i64 X.d.L.bi) ∧ w'.cell? ⟨K, 8, none⟩ = some (.int .i64 X.d.L.bt) ∧ w'.cell? ⟨K, 9, none⟩ = some (.slice X.la X.d.L.l.length X.lc) ∧ w'.cell? ⟨K, 10, none⟩ = some (.int .i64 X.d.L.cm) ∧ w'.cell? ⟨P, 10, none⟩ = some (.int .i64 y.m.si) ∧ w'.cell? ⟨P, 11, none⟩ = some (.int .i64 y.m.st))) := by
  intro W hW;refine (install_is X.d.L X.gl y.m.si y.m.st W (HX0.out.keep hW).rows.at_.2).mono ?_;rintro r w' ⟨g, rfl, ho, hbl⟩;obtain ⟨a, c, rfl⟩ := own_len ho;have hb2 := below_via hW hbl;obtain ⟨⟨k0, k1, k2, k3, k4, k5, k6, k7, k8, k9, k10, k11, k12, k13, k14, k15, k16, k17⟩, kf, kz⟩ := at18 (HX0.out.keep hb2).box;obtain ⟨⟨m0, m1, m2, m3, m4, m5, m6, m7, m8, m9, m10, m11, m12⟩, mf, mz⟩ := at13 (blkK HP.out hb2)
  exact ⟨a, c, rfl, hideIt ⟨own_base ho hW.size, hb2, hbl⟩, k7, k8, k9, k10, m10, m11⟩
 have ZF : Hid (∀ w', Below (W0.alloc (.cells #[.int .i64 0, .int .i64 0, .slice none 0 0, .int .i64 0] 36)).heap.size (W0.alloc (.cells #[.int .i64 0, .int .i64 0, .slice none 0 0, .int .i64 0] 36)) w' → (w'.cell? ⟨W0.heap.size, 0, none⟩ = some (.int .i64 0) ∧ w'.cell? ⟨W0.heap.size, 1, none⟩ = some (.int .i64 0) ∧ w'.cell? ⟨W0.heap.size, 2, none⟩ = some (.slice none 0 0) ∧ w'.cell? ⟨W0.heap.size, 3, none⟩ = some (.int .i64 0)) ∧ (∀ j, w'.frozen? ⟨W0.heap.size, j, none⟩ = false) ∧ W0.heap.size < w'.heap.size) := by
  intro w' hb;exact at4 ((hb.block W0.heap.size (by simp)).trans (heap_alloc_new W0 _))
 obtain ⟨⟨k0, k1, k2, k3, k4, k5, k6, k7, k8, k9, k10, k11, k12, k13, k14, k15, k16, k17⟩, kf, kz⟩ := at18 HX0.out.box;obtain ⟨⟨m0, m1, m2, m3, m4, m5, m6, m7, m8, m9, m10, m11, m12⟩, mf, mz⟩ := at13 HP.out;have y1 : W0.heap.size ≠ K := by omega
 have y2 : W0.heap.size ≠ P := by omega
 have y3 : K ≠ W0.heap.size := by omega
 have y4 : P ≠ W0.heap.size := by omega
 clear k0 k1 k2 k3 k4 k5 k6 k11 k12 k13 k14 k15 k16 k17 m0 m1 m2 m3 m4 m5 m6 m7 m8 m9 m12;generalize instL X.d.L y.m.si y.m.st = A at *
 go_cut [4, 5, 6] from 8 to 19 (fun x y z wy => ∃ B a c, x = .pointer (some ⟨B, 0, none⟩) ∧ y = .bool A.2.1 ∧ z = .int .i64 A.2.2 ∧ Hid (LBox W0 B A.1 a c wy))
 case first =>
  clear HV
  go_region_held3 (fun W => W.cell? ⟨K, 7, none⟩ = some (.int .i64 X.d.L.bi) ∧ W.cell? ⟨K, 8, none⟩ = some (.int .i64 X.d.L.bt) ∧ W.cell? ⟨K, 9, none⟩ = some (.slice X.la X.d.L.l.length X.lc) ∧ W.cell? ⟨K, 10, none⟩ = some (.int .i64 X.d.L.cm) ∧ W.cell? ⟨P, 10, none⟩ = some (.int .i64 y.m.si) ∧ W.cell? ⟨P, 11, none⟩ = some (.int .i64 y.m.st)) (go_keep) (first | (go_at_call 197; refine (HCY.out (W0.alloc (.cells #[.int .i64 0, .int .i64 0, .slice none 0 0, .int .i64 0] 36)).drew (below1 _ _).drew).mono ?_; rintro r w5 ⟨a, c, rfl, HQ, ⟨i0, i1, i2, i3, i4, i5⟩⟩; obtain ⟨⟨n0, n1, n2, n3⟩, nf, nz⟩ := ZF.out w5 (below_via (Below.refl _ _).drew HQ.out.2.2)) | (go_at_call 197; refine (HCY.out W0.drew (Below.refl _ _).drew).mono ?_; rintro r w5 ⟨a, c, rfl, HQ, ⟨i0, i1, i2, i3, i4, i5⟩⟩))
  all_goals go_wp2_with fail
  all_goals go_meet
  ·exact ⟨w5.heap.size, a, c, rfl, rfl, rfl, hideIt (LBox.new HQ.out.1 HQ.out.2.1)⟩
  ·have hz := (HQ.out.2.2.block W0.heap.size (show W0.heap.size < (W0.alloc (.cells #[.int .i64 0, .int .i64 0, .slice none 0 0, .int .i64 0] 36)).heap.size by simp)).trans (heap_alloc_new W0 _)
   exact ⟨W0.heap.size, a, c, rfl, rfl, rfl, hideIt (LBox.put hz HQ.out.1 HQ.out.2.1 (Nat.le_refl _))⟩
 case rest =>
  obtain ⟨B, a, c, rfl, rfl, rfl, HB⟩ := hcut;clear HCY ZF y1 y2 y3 y4 k7 k8 k9 k10 kf kz m10 m11 mf mz HV;have HX3 := hideIt (HX0.out.keep HB.out.bel);have HP3 := hideIt (blkK HP.out HB.out.bel);have hPK : P ≠ K := fun e1 => hKP e1.symm
  cases hok : A.2.1
  ·have HV := hideIt (HV2.out hok);have HX9 := HX3;have HP9 := HP3;clear HV1 HV2 HX3 HP3 HB;obtain ⟨⟨m0, m1, m2, m3, m4, m5, m6, m7, m8, m9, m10, m11, m12⟩, mf, mz⟩ := at13 HP9.out;obtain ⟨⟨k0, k1, k2, k3, k4, k5, k6, k7, k8, k9, k10, k11, k12, k13, k14, k15, k16, k17⟩, kf, kz⟩ := at18 HX9.out.box;have HAN := hideIt (answer_is (HX9.out.keep (Below.refl _ _).drew) y true (min y.m.si X.d.L.cm) (by first | omega | (simp only; omega)))
   unfold msgE at HAN
   go_upto_region 5 with fail
   go_region_law (first
    | (go_simp; refine (HAN.out).mono ?_; rintro r w9 ⟨a9, c9, rfl, hw⟩; dsimp only; have HW := hideIt hw; clear hw))
   all_goals go_wp2
   all_goals go_end0
   all_goals ((first | refine ⟨_, rfl, ?_, HW.out⟩ | refine ⟨rfl, _, ?_, HW.out⟩); rw [HV.out]; simp [WkX.v, snapW, answW, tellW, msg0, noT])
  ·have HV := hideIt (HV1.out hok);clear HV1 HV2;have hBK : B ≠ K := by
    intro e1;have h1 := HX3.out.box;have h2 := HB.out.box;rw [e1, h1] at h2
    simp at h2
   have hBP : B ≠ P := by
    have h1 := (Array.getElem?_eq_some_iff.1 HP.out).1;have h2 := HB.out.hP;omega
   have hKB : K ≠ B := fun e1 => hBK e1.symm
   have hPB : P ≠ B := fun e1 => hBP e1.symm
   have HCL : Hid (∀ W, Below wc.heap.size wc W → Calls Tryz.prog 52 #[.string y.m.tx] W fun r w' => r = .returned (.string y.m.tx) ∧ Hid (Below wc.heap.size wc w') ∧ (w'.cell? ⟨P, 12, none⟩ = some (.string y.m.tx) ∧ w'.cell? ⟨B, 0, none⟩ = some (.int .i64 A.1.bi) ∧ w'.cell? ⟨B, 1, none⟩ = some (.int .i64 A.1.bt) ∧ w'.cell? ⟨B, 2, none⟩ = some (.slice a A.1.l.length c) ∧ w'.cell? ⟨B, 3, none⟩ = some (.int .i64 A.1.cm)) ∧ (w'.cell? ⟨K, 7, none⟩ = some (.int .i64 X.d.L.bi) ∧ w'.cell? ⟨K, 8, none⟩ = some (.int .i64 X.d.L.bt) ∧ w'.cell? ⟨K, 9, none⟩ = some (.slice X.la X.d.L.l.length X.lc) ∧ w'.cell? ⟨K, 10, none⟩ = some (.int .i64 X.d.L.cm) ∧ w'.cell? ⟨K, 11, none⟩ = some (.string X.d.tx) ∧ (∀ j, w'.frozen? ⟨K, j, none⟩ = false) ∧ K < w'.heap.size)) := by
    intro W hW;refine (clone_any y.m.tx W htx).mono ?_;rintro r w' ⟨rfl, hbl⟩;have hb2 := below_via hW hbl;obtain ⟨⟨k0, k1, k2, k3, k4, k5, k6, k7, k8, k9, k10, k11, k12, k13, k14, k15, k16, k17⟩, kf, kz⟩ := at18 (HX3.out.keep hb2).box;obtain ⟨⟨n0, n1, n2, n3⟩, nf, nz⟩ := at4 (blkK HB.out.box hb2);obtain ⟨⟨m0, m1, m2, m3, m4, m5, m6, m7, m8, m9, m10, m11, m12⟩, mf, mz⟩ := at13 (blkK HP3.out hb2)
    exact ⟨rfl, hideIt hb2, ⟨m12, n0, n1, n2, n3⟩, k7, k8, k9, k10, k11, kf, kz⟩
   obtain ⟨⟨n0, n1, n2, n3⟩, nf, nz⟩ := at4 HB.out.box;obtain ⟨⟨m0, m1, m2, m3, m4, m5, m6, m7, m8, m9, m10, m11, m12⟩, mf, mz⟩ := at13 HP3.out;clear m0 m1 m2 m3 m4 m5 m6 m7 m8 m9 m10 m11
   go_upto_region 3 with fail
   go_cut [] from 21 to 33 (fun wy => Hid (WK w K {X with d := {X.d with L := A.1, tx := y.m.tx}, la := a, lc := c} wy ∧ wy.heap[P]? = some (.cells #[.int .i64 y.m.kind, .int .i64 y.m.frm, .int .i64 y.m.dst, .int .i64 y.m.term, .int .i64 y.m.pi, .int .i64 y.m.pt, .slice y.a y.m.es.length y.c, .int .i64 y.m.cm, .bool y.m.ok, .int .i64 y.m.mtch, .int .i64 y.m.si, .int .i64 y.m.st, .string y.m.tx] 50 (0, 0))))
   case first =>
    clear HV
    go_region_held3 (fun W => W.cell? ⟨P, 12, none⟩ = some (.string y.m.tx) ∧ W.cell? ⟨B, 0, none⟩ = some (.int .i64 A.1.bi) ∧ W.cell? ⟨B, 1, none⟩ = some (.int .i64 A.1.bt) ∧ W.cell? ⟨B, 2, none⟩ = some (.slice a A.1.l.length c) ∧ W.cell? ⟨B, 3, none⟩ = some (.int .i64 A.1.cm)) (go_keep) (first | (go_at_call 52; refine (HCL.out _ (by first | exact (Below.refl _ _).drew | exact Below.refl _ _)).mono ?_; rintro r w5 ⟨rfl, HQ, ⟨i0, i1, i2, i3, i4⟩, ⟨j7, j8, j9, j10, j11, jf, jz⟩⟩))
    all_goals go_wp2_with fail
    all_goals go_meet
    all_goals exact hideIt ⟨((HX3.out.keep HQ.out).setLog A.1 a c (own_keep (own_base HB.out.own HX0.out.bel.size) HQ.out) hlA).setTx y.m.tx htx, setOther _ (setOther _ (setOther _ (setOther _ (setOther _ (blkK HP3.out HQ.out) hPK) hPK) hPK) hPK) hPK⟩
   case rest =>
    have HX5 := hideIt hcut.out.1;have HP5 := hideIt hcut.out.2;clear hcut HCL n0 n1 n2 n3 nf nz m12 mf mz hBK hBP hKB hPB HX3 HP3 HB;have HS := hideIt (keepSnap_is2 HX5.out (by first | omega | (simp only; omega)))
    go_wp2_with fail
    refine HS.out.mono ?_;rintro r w7 ⟨a7, c7, rfl, hw, hkp⟩;dsimp only;have HX9 := hideIt hw;have HP9 := hideIt (hkp P _ _ HP5.out hPK (by decide));clear hw hkp HS HX5 HP5;obtain ⟨⟨m0, m1, m2, m3, m4, m5, m6, m7, m8, m9, m10, m11, m12⟩, mf, mz⟩ := at13 HP9.out;obtain ⟨⟨k0, k1, k2, k3, k4, k5, k6, k7, k8, k9, k10, k11, k12, k13, k14, k15, k16, k17⟩, kf, kz⟩ := at18 HX9.out.box;have HAN := hideIt (answer_is (HX9.out.keep (Below.refl _ _).drew) y true (min y.m.si A.1.cm) (by first | omega | (simp only; omega)))
    unfold msgE at HAN
    go_upto_region 5 with fail
    go_region_law (first
     | (go_simp; refine (HAN.out).mono ?_; rintro r w9 ⟨a9, c9, rfl, hw⟩; dsimp only; have HW := hideIt hw; clear hw))
    all_goals go_wp2
    all_goals go_end0
    all_goals ((first | refine ⟨_, rfl, ?_, HW.out⟩ | refine ⟨rfl, _, ?_, HW.out⟩); rw [HV.out]; simp [WkX.v, snapW, answW, tellW, msg0, noT])
set_option maxRecDepth 100000 in
set_option maxHeartbeats 16000000 in
theorem ledK_is {X : WkX} {K : Nat} {w wx : World} (h : WK w K X wx) (y : MsgX) (hm : EGot w (.slice y.a y.m.es.length y.c) y.m.es) (hL : mayB X.d.L = true) (hpi : y.m.kind = 3 → 0 ≤ y.m.pi ∧ y.m.pi ≤ 1000000) (htx : y.m.kind ≠ 3 → y.m.tx.size ≤ 60000) (hs : X.M.length < 1000000) (hR : X.R.length < 1000000) : Calls Tryz.prog 143 #[.pointer (some ⟨K, 0, none⟩), .agg (msgE y).toArray] wx fun r w' => ∃ Y' : WkX, r = .returned (.int .i64 0) ∧ Y'.v = ledW X.v y.m ∧ WK w K Y' w' := by
 have HX0 := hideIt (h.keep (below1 wx (.cells (msgE y).toArray 50)));have HP := hideIt (heap_alloc_new wx (.cells (msgE y).toArray 50));have HV : Hid (ledW X.v y.m = if y.m.term < X.d.b.t then answW X.v y.m false 0 else if X.d.b.r = 3 then X.v else if y.m.kind = 3 then accW {follW X.v y.m.frm with wt := true} y.m else instW {follW X.v y.m.frm with wt := true} y.m) := hideIt rfl;have hKP : K ≠ wx.heap.size := by
  have := (Array.getElem?_eq_some_iff.1 h.box).1;omega
 clear h;unfold msgE at *
 go_enter Tryz.func143, Tryz.ntmps143
 go_upto_region 1 with fail
 generalize (World.alloc wx _) = W0 at *;generalize wx.heap.size = P at *;have hPK : P ≠ K := fun e1 => hKP e1.symm
 have HT : Hid (∀ W, Below W0.heap.size W0 W → Calls Tryz.prog 94 #[.pointer (some ⟨K, 0, none⟩)] W fun r w' => r = .returned (.int .i64 X.d.b.t) ∧ w' = W) := hideIt (fun W hW => termW_is (HX0.out.keep hW).box);obtain ⟨⟨m0, m1, m2, m3, m4, m5, m6, m7, m8, m9, m10, m11, m12⟩, mf, mz⟩ := at13 HP.out;clear m0 m1 m2 m4 m5 m6 m7 m8 m9 m10 m11 m12
 go_cut [9] from 5 to 9 (fun x wy => x = .bool (decide (y.m.term < X.d.b.t)) ∧ Hid (Below W0.heap.size W0 wy))
 case first =>
  clear HV
  go_region_held3 (fun W => W.cell? ⟨P, 3, none⟩ = some (.int .i64 y.m.term)) (go_keep) (first | (go_at_call 94; refine (HT.out _ (by first | exact (Below.refl _ _).drew | exact Below.refl _ _)).mono ?_; rintro r w5 ⟨rfl, rfl⟩))
  all_goals go_wp2_with fail
  all_goals go_meet
  all_goals exact ⟨rfl, hideIt (Below.refl _ _).drew⟩
 case rest =>
  obtain ⟨rfl, HB⟩ := hcut;have HX1 := hideIt (HX0.out.keep HB.out);have HP1 := hideIt (blkK HP.out HB.out);clear HT HX0 HP HB m3 mf mz
  by_cases h1 : y.m.term < X.d.b.t
  ·have hd : decide (y.m.term < X.d.b.t) = true := decide_eq_true h1;rw [if_pos h1] at HV;have HAN := hideIt (answer_is HX1.out y false 0 hs);unfold msgE at HAN;obtain ⟨⟨m0, m1, m2, m3, m4, m5, m6, m7, m8, m9, m10, m11, m12⟩, mf, mz⟩ := at13 HP1.out
   go_wp2_with fail
   refine HAN.out.mono ?_;rintro r w9 ⟨a9, c9, rfl, hw⟩;dsimp only;have HW := hideIt hw;clear hw HAN;go_wp2;go_ret
   first
    | refine ⟨_, rfl, ?_, HW.out⟩
    | refine ⟨rfl, _, ?_, HW.out⟩
    | refine ⟨_, ?_, HW.out⟩
   rw [HV.out]
   simp [WkX.v, answW, tellW, msg0, noT]
  ·have hd : decide (y.m.term < X.d.b.t) = false := decide_eq_false h1;rw [if_neg h1] at HV
   by_cases hr : X.d.b.r = 3
   ·rw [if_pos hr] at HV;have HLe : Hid (Calls Tryz.prog 87 #[.pointer (some ⟨K, 0, none⟩)] wc fun r w' => r = .returned (.bool true) ∧ w' = wc) := hideIt (by
     have := leadsW_is HX1.out.box;rw [show decide (X.d.b.r = 3) = true from decide_eq_true hr] at this;exact this)
    clear hr
    go_wp2_with fail
    refine HLe.out.mono ?_;rintro r w2 ⟨rfl, rfl⟩;dsimp only;go_wp2;go_ret;have hh : X.v = ledW X.v y.m := HV.out.symm
    first
     | exact ⟨X, rfl, hh, HX1.out⟩
     | exact ⟨rfl, X, hh, HX1.out⟩
     | exact ⟨X, hh, HX1.out⟩
   ·rw [if_neg hr] at HV;have HLe : Hid (Calls Tryz.prog 87 #[.pointer (some ⟨K, 0, none⟩)] wc fun r w' => r = .returned (.bool false) ∧ w' = wc) := hideIt (by
     have := leadsW_is HX1.out.box;rw [show decide (X.d.b.r = 3) = false from decide_eq_false hr] at this;exact this)
    have HF := hideIt (follow_is2 HX1.out y.m.frm);obtain ⟨⟨m0, m1, m2, m3, m4, m5, m6, m7, m8, m9, m10, m11, m12⟩, mf, mz⟩ := at13 HP1.out;clear hr m0 m2 m3 m4 m5 m6 m7 m8 m9 m10 m11 m12
    go_wp2_with fail
    refine HLe.out.mono ?_;rintro r w2 ⟨rfl, rfl⟩;dsimp only
    go_wp2_with fail
    refine HF.out.mono ?_;rintro r w3 ⟨rfl, hw3, hkp⟩;dsimp only;have HX3 := hideIt hw3;have HP3 := hideIt (hkp P _ _ HP1.out hPK (by decide));clear hw3 hkp HF HLe HX1 HP1 m1 mf mz;have HX4 := hideIt (HX3.out.setWt true);have HP4 := hideIt (setOther (b := K) (j := 17) (.bool true) HP3.out hPK);obtain ⟨⟨k0, k1, k2, k3, k4, k5, k6, k7, k8, k9, k10, k11, k12, k13, k14, k15, k16, k17⟩, kf, kz⟩ := at18 HX3.out.box
    go_upto_region 8 with fail
    generalize (World.setCell _ ⟨K, 17, none⟩ _) = W4 at *;clear k0 k1 k2 k3 k4 k5 k6 k7 k8 k9 k10 k11 k12 k13 k14 k15 k16 k17 kf kz HX3 HP3;obtain ⟨⟨m0, m1, m2, m3, m4, m5, m6, m7, m8, m9, m10, m11, m12⟩, mf, mz⟩ := at13 HP4.out
    by_cases hk : y.m.kind = 3
    ·have hb1 : (y.m.kind == 3) = true := beq_iff_eq.2 hk;rw [if_pos hk] at HV;have HA := hideIt (acceptK_is HX4.out y (hm.keep HX4.out.bel) hL (hpi hk) hs hR);unfold msgE at HA;clear hk
     go_wp2_with fail
     refine HA.out.mono ?_;rintro r w9 ⟨Y9, rfl, hv9, hw⟩;dsimp only;have HW := hideIt hw;clear hw HA;go_wp2;go_ret;have hh : Y9.v = ledW X.v y.m := by
      rw [HV.out, hv9]
      rfl
     first
      | exact ⟨Y9, rfl, hh, HW.out⟩
      | exact ⟨rfl, Y9, hh, HW.out⟩
      | exact ⟨Y9, hh, HW.out⟩
    ·have hb1 : (y.m.kind == 3) = false := beq_eq_false_iff_ne.2 hk;rw [if_neg hk] at HV;have HA := hideIt (installK_is HX4.out y (htx hk) hs hR);unfold msgE at HA;clear hk
     go_wp2_with fail
     refine HA.out.mono ?_;rintro r w9 ⟨Y9, rfl, hv9, hw⟩;dsimp only;have HW := hideIt hw;clear hw HA;go_wp2;go_ret;have hh : Y9.v = ledW X.v y.m := by
      rw [HV.out, hv9]
      rfl
     first
      | exact ⟨Y9, rfl, hh, HW.out⟩
      | exact ⟨rfl, Y9, hh, HW.out⟩
      | exact ⟨Y9, hh, HW.out⟩
end Go.Proofs.YtcaehfkfohianaaGreat
