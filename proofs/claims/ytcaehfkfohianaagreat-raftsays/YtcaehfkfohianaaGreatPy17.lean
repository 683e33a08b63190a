/- Texts of my own, laid together. -/
import Derived.Test.YtcaehfkfohianaaGreatZq
import Derived.Test.YtcaehfkfohianaaGreatPy16
import Derived.Test.YtcaehfkfohianaaGreatPy12
import Derived.Test.YtcaehfkfohianaaGreatPy15
import Derived.BigRegion
set_option linter.all false
namespace Go.Proofs.YtcaehfkfohianaaGreat
open Go.RowKit
theorem grant_few (b : Tm.Bal) (qf qt qi qm li lm : Int) (h : b.l.length ≤ 1000000) : (Tm.grantL b qf qt qi qm li lm).1.l.length ≤ 1000000 := by
 have hh : (Tm.hearL b qt).l.length ≤ 1000000 := by
  unfold Tm.hearL
  split
  ·simp
  ·exact h
 unfold Tm.grantL
 split
 ·simp [Tm.zB]
 ·split
  ·simp [Tm.zB]
  ·split
   ·exact hh
   ·exact hh
set_option maxRecDepth 100000 in
set_option maxHeartbeats 16000000 in
theorem polledK_is {X : WkX} {K : Nat} {w wx : World} (h : WK w K X wx) (y : MsgX) (hs : X.M.length < 1000000) : Calls Tryz.prog 141 #[.pointer (some ⟨K, 0, none⟩), .agg (msgE y).toArray] wx fun r w' => ∃ Y' : WkX, r = .returned (.int .i64 0) ∧ Y'.v = pollED X.v y.m ∧ WK w K Y' w' := by
 have HX0 := hideIt (h.keep (below1 wx (.cells (msgE y).toArray 50)));have HP := hideIt (heap_alloc_new wx (.cells (msgE y).toArray 50));have hlG := grant_few X.d.b y.m.frm y.m.term y.m.pi y.m.pt (lastL X.d.L).1 (lastL X.d.L).2 h.rows.sb;have HV : Hid (pollED X.v y.m = tellW {X.v with d := {X.d with b := (Tm.grantL X.d.b y.m.frm y.m.term y.m.pi y.m.pt (lastL X.d.L).1 (lastL X.d.L).2).1}, wt := (Tm.grantL X.d.b y.m.frm y.m.term y.m.pi y.m.pt (lastL X.d.L).1 (lastL X.d.L).2).2.1} {msg0 2 y.m.frm with ok := (Tm.grantL X.d.b y.m.frm y.m.term y.m.pi y.m.pt (lastL X.d.L).1 (lastL X.d.L).2).2.1}) := hideIt rfl;have hKP : K ≠ wx.heap.size := by
  have := (Array.getElem?_eq_some_iff.1 h.box).1;omega
 clear h;unfold msgE at *
 go_enter Tryz.func141, Tryz.ntmps141
 go_upto_region 1 with fail
 generalize (World.alloc wx _) = W0 at *;generalize wx.heap.size = P at *;obtain ⟨⟨m0, m1, m2, m3, m4, m5, m6, m7, m8, m9, m10, m11, m12⟩, mf, mz⟩ := at13 HP.out;have HX1 := hideIt (HX0.out.keep (below1 W0 (.cells #[.int .i64 y.m.frm, .int .i64 y.m.term, .int .i64 y.m.pi, .int .i64 y.m.pt] 116)));have HP1 := hideIt (blkK HP.out (below1 W0 (.cells #[.int .i64 y.m.frm, .int .i64 y.m.term, .int .i64 y.m.pi, .int .i64 y.m.pt] 116)));have HQ1 := hideIt (heap_alloc_new W0 (.cells #[.int .i64 y.m.frm, .int .i64 y.m.term, .int .i64 y.m.pi, .int .i64 y.m.pt] 116));have hKQ : K ≠ W0.heap.size := by
  have := (Array.getElem?_eq_some_iff.1 HX0.out.box).1;omega
 have hPQ : P ≠ W0.heap.size := by omega
 go_upto_region 2 with fail
 generalize (World.alloc W0 _) = W1 at *;generalize W0.heap.size = Q at *;clear m0 m1 m2 m3 m4 m5 m6 m7 m8 m9 m10 m11 m12 mf mz HX0 HP;have HLC : Hid (∀ W, Below W1.heap.size W1 W → Calls Tryz.prog 82 #[.agg #[.int .i64 X.d.L.bi, .int .i64 X.d.L.bt, .slice X.la X.d.L.l.length X.lc, .int .i64 X.d.L.cm]] W fun r w' => r = .returned (.agg #[.int .i64 (lastL X.d.L).1, .int .i64 (lastL X.d.L).2]) ∧ Hid (Below W1.heap.size W1 w' ∧ Below W.heap.size W w') ∧ (w'.cell? ⟨K, 2, none⟩ = some (.int .i64 X.d.b.t) ∧ w'.cell? ⟨K, 3, none⟩ = some (.int .i64 X.d.b.v) ∧ w'.cell? ⟨K, 4, none⟩ = some (.int .i64 X.d.b.r) ∧ w'.cell? ⟨K, 5, none⟩ = some (.slice X.ba X.d.b.l.length X.bc) ∧ w'.cell? ⟨K, 7, none⟩ = some (.int .i64 X.d.L.bi) ∧ w'.cell? ⟨K, 8, none⟩ = some (.int .i64 X.d.L.bt) ∧ w'.cell? ⟨K, 9, none⟩ = some (.slice X.la X.d.L.l.length X.lc) ∧ w'.cell? ⟨K, 10, none⟩ = some (.int .i64 X.d.L.cm) ∧ w'.cell? ⟨Q, 0, none⟩ = some (.int .i64 y.m.frm) ∧ w'.cell? ⟨Q, 1, none⟩ = some (.int .i64 y.m.term) ∧ w'.cell? ⟨Q, 2, none⟩ = some (.int .i64 y.m.pi) ∧ w'.cell? ⟨Q, 3, none⟩ = some (.int .i64 y.m.pt))) := by
  intro W hW;refine (last_is X.d.L X.gl W (HX1.out.keep hW).rows.at_.2).mono ?_;rintro r w' ⟨rfl, hbl⟩;have hb2 := below_via hW hbl;obtain ⟨⟨k0, k1, k2, k3, k4, k5, k6, k7, k8, k9, k10, k11, k12, k13, k14, k15, k16, k17⟩, kf, kz⟩ := at18 (HX1.out.keep hb2).box;obtain ⟨⟨q0, q1, q2, q3⟩, qf, qz⟩ := at4 (blkK HQ1.out hb2)
  exact ⟨rfl, hideIt ⟨hb2, hbl⟩, k2, k3, k4, k5, k7, k8, k9, k10, q0, q1, q2, q3⟩
 have HGC : Hid (∀ W, Below W1.heap.size W1 W → Calls Tryz.prog 162 #[.agg #[.int .i64 X.d.b.t, .int .i64 X.d.b.v, .int .i64 X.d.b.r, .slice X.ba X.d.b.l.length X.bc], .agg #[.int .i64 y.m.frm, .int .i64 y.m.term, .int .i64 y.m.pi, .int .i64 y.m.pt], .agg #[.int .i64 (lastL X.d.L).1, .int .i64 (lastL X.d.L).2]] W fun r w' => ∃ a c, r = .returned (.tuple #[.agg #[.int .i64 (Tm.grantL X.d.b y.m.frm y.m.term y.m.pi y.m.pt (lastL X.d.L).1 (lastL X.d.L).2).1.t, .int .i64 (Tm.grantL X.d.b y.m.frm y.m.term y.m.pi y.m.pt (lastL X.d.L).1 (lastL X.d.L).2).1.v, .int .i64 (Tm.grantL X.d.b y.m.frm y.m.term y.m.pi y.m.pt (lastL X.d.L).1 (lastL X.d.L).2).1.r, .slice a (Tm.grantL X.d.b y.m.frm y.m.term y.m.pi y.m.pt (lastL X.d.L).1 (lastL X.d.L).2).1.l.length c], .bool (Tm.grantL X.d.b y.m.frm y.m.term y.m.pi y.m.pt (lastL X.d.L).1 (lastL X.d.L).2).2.1, .int .i64 (Tm.grantL X.d.b y.m.frm y.m.term y.m.pi y.m.pt (lastL X.d.L).1 (lastL X.d.L).2).2.2]) ∧ Hid (w'.ownsRow W1.heap.size 3 1 (.slice a (Tm.grantL X.d.b y.m.frm y.m.term y.m.pi y.m.pt (lastL X.d.L).1 (lastL X.d.L).2).1.l.length c) (Tm.grantL X.d.b y.m.frm y.m.term y.m.pi y.m.pt (lastL X.d.L).1 (lastL X.d.L).2).1.l.length ((Tm.grantL X.d.b y.m.frm y.m.term y.m.pi y.m.pt (lastL X.d.L).1 (lastL X.d.L).2).1.l.map Tm.iv) ∧ Below W1.heap.size W1 w' ∧ Below W.heap.size W w') ∧ (w'.cell? ⟨K, 2, none⟩ = some (.int .i64 X.d.b.t) ∧ w'.cell? ⟨K, 3, none⟩ = some (.int .i64 X.d.b.v) ∧ w'.cell? ⟨K, 4, none⟩ = some (.int .i64 X.d.b.r) ∧ w'.cell? ⟨K, 5, none⟩ = some (.slice X.ba X.d.b.l.length X.bc) ∧ w'.cell? ⟨K, 7, none⟩ = some (.int .i64 X.d.L.bi) ∧ w'.cell? ⟨K, 8, none⟩ = some (.int .i64 X.d.L.bt) ∧ w'.cell? ⟨K, 9, none⟩ = some (.slice X.la X.d.L.l.length X.lc) ∧ w'.cell? ⟨K, 10, none⟩ = some (.int .i64 X.d.L.cm) ∧ w'.cell? ⟨Q, 0, none⟩ = some (.int .i64 y.m.frm) ∧ w'.cell? ⟨Q, 1, none⟩ = some (.int .i64 y.m.term) ∧ w'.cell? ⟨Q, 2, none⟩ = some (.int .i64 y.m.pi) ∧ w'.cell? ⟨Q, 3, none⟩ = some (.int .i64 y.m.pt))) := by
  intro W hW;refine (Tm.grant_is X.d.b X.gb y.m.frm y.m.term y.m.pi y.m.pt (lastL X.d.L).1 (lastL X.d.L).2 W (HX1.out.keep hW).rows.at_.1).mono ?_;rintro r w' ⟨g, rfl, ho, hbl⟩;obtain ⟨a, c, rfl⟩ := Tm.own_len ho;have hb2 := below_via hW hbl;obtain ⟨⟨k0, k1, k2, k3, k4, k5, k6, k7, k8, k9, k10, k11, k12, k13, k14, k15, k16, k17⟩, kf, kz⟩ := at18 (HX1.out.keep hb2).box;obtain ⟨⟨q0, q1, q2, q3⟩, qf, qz⟩ := at4 (blkK HQ1.out hb2)
  exact ⟨a, c, rfl, hideIt ⟨own_base ho hW.size, hb2, hbl⟩, k2, k3, k4, k5, k7, k8, k9, k10, q0, q1, q2, q3⟩
 obtain ⟨⟨k0, k1, k2, k3, k4, k5, k6, k7, k8, k9, k10, k11, k12, k13, k14, k15, k16, k17⟩, kf, kz⟩ := at18 HX1.out.box;obtain ⟨⟨q0, q1, q2, q3⟩, qf, qz⟩ := at4 HQ1.out;have y1 : W1.heap.size ≠ K := by omega
 have y2 : W1.heap.size ≠ Q := by omega
 have y3 : K ≠ W1.heap.size := by omega
 have y4 : Q ≠ W1.heap.size := by omega
 clear k0 k1 k6 k11 k12 k13 k14 k15 k16 k17;generalize Tm.grantL X.d.b y.m.frm y.m.term y.m.pi y.m.pt (lastL X.d.L).1 (lastL X.d.L).2 = G at *;generalize (lastL X.d.L).1 = li at *;generalize (lastL X.d.L).2 = lm at *
 go_cut [6, 7, 8] from 17 to 32 (fun x y z wy => ∃ B a c, x = .pointer (some ⟨B, 0, none⟩) ∧ y = .bool G.2.1 ∧ z = .int .i64 G.2.2 ∧ Hid (BBox W1 B G.1 a c wy))
 case first =>
  clear HV
  go_region_held3 (fun W => W.cell? ⟨K, 2, none⟩ = some (.int .i64 X.d.b.t) ∧ W.cell? ⟨K, 3, none⟩ = some (.int .i64 X.d.b.v) ∧ W.cell? ⟨K, 4, none⟩ = some (.int .i64 X.d.b.r) ∧ W.cell? ⟨K, 5, none⟩ = some (.slice X.ba X.d.b.l.length X.bc) ∧ W.cell? ⟨K, 7, none⟩ = some (.int .i64 X.d.L.bi) ∧ W.cell? ⟨K, 8, none⟩ = some (.int .i64 X.d.L.bt) ∧ W.cell? ⟨K, 9, none⟩ = some (.slice X.la X.d.L.l.length X.lc) ∧ W.cell? ⟨K, 10, none⟩ = some (.int .i64 X.d.L.cm) ∧ W.cell? ⟨Q, 0, none⟩ = some (.int .i64 y.m.frm) ∧ W.cell? ⟨Q, 1, none⟩ = some (.int .i64 y.m.term) ∧ W.cell? ⟨Q, 2, none⟩ = some (.int .i64 y.m.pi) ∧ W.cell? ⟨Q, 3, none⟩ = some (.int .i64 y.m.pt)) (go_keep) (first
   | (go_at_call 82; refine (HLC.out (W1.alloc (.cells #[.int .i64 0, .int .i64 0, .int .i64 0, .slice none 0 0] 34)).drew (below1 _ _).drew).mono ?_; rintro r w5 ⟨rfl, HQ5, ⟨i0, i1, i2, i3, i4, i5, i6, i7, i8, i9, i10, i11⟩⟩; have HZ5 : Hid (w5.heap[W1.heap.size]? = some (.cells #[.int .i64 0, .int .i64 0, .int .i64 0, .slice none 0 0] 34 (0, 0))) := hideIt ((HQ5.out.2.block W1.heap.size (show W1.heap.size < (W1.alloc (.cells #[.int .i64 0, .int .i64 0, .int .i64 0, .slice none 0 0] 34)).heap.size by simp)).trans (heap_alloc_new W1 _)))
   | (go_at_call 82; refine (HLC.out W1.drew (Below.refl _ _).drew).mono ?_; rintro r w5 ⟨rfl, HQ5, ⟨i0, i1, i2, i3, i4, i5, i6, i7, i8, i9, i10, i11⟩⟩)
   | (go_at_call 162; refine (HGC.out (w5.alloc (.cells #[.int .i64 0, .int .i64 0, .int .i64 0, .slice none 0 0] 34)) (below_via HQ5.out.1 (below1 w5 _))).mono ?_; have y5 : K ≠ w5.heap.size := Nat.ne_of_lt (Nat.lt_of_lt_of_le kz HQ5.out.1.size); have y6 : Q ≠ w5.heap.size := Nat.ne_of_lt (Nat.lt_of_lt_of_le qz HQ5.out.1.size); have y7 : w5.heap.size ≠ K := y5.symm; have y8 : w5.heap.size ≠ Q := y6.symm; rintro r w6 ⟨a, c, rfl, HR, ⟨j0, j1, j2, j3, j4, j5, j6, j7, j8, j9, j10, j11⟩⟩; have HZ6 : Hid (w6.heap[w5.heap.size]? = some (.cells #[.int .i64 0, .int .i64 0, .int .i64 0, .slice none 0 0] 34 (0, 0))) := hideIt ((HR.out.2.2.block w5.heap.size (show w5.heap.size < (w5.alloc (.cells #[.int .i64 0, .int .i64 0, .int .i64 0, .slice none 0 0] 34)).heap.size by simp)).trans (heap_alloc_new w5 _)); obtain ⟨⟨z0, z1, z2, z3⟩, zf, zz⟩ := at4 HZ6.out)
   | (go_at_call 162; refine (HGC.out w5 HQ5.out.1).mono ?_; rintro r w6 ⟨a, c, rfl, HR, ⟨j0, j1, j2, j3, j4, j5, j6, j7, j8, j9, j10, j11⟩⟩; have HZ6 : Hid (w6.heap[W1.heap.size]? = some (.cells #[.int .i64 0, .int .i64 0, .int .i64 0, .slice none 0 0] 34 (0, 0))) := hideIt (blkK HZ5.out HR.out.2.2); obtain ⟨⟨z0, z1, z2, z3⟩, zf, zz⟩ := at4 HZ6.out)
   | (go_at_call 162; refine (HGC.out w5 HQ5.out.1).mono ?_; rintro r w6 ⟨a, c, rfl, HR, ⟨j0, j1, j2, j3, j4, j5, j6, j7, j8, j9, j10, j11⟩⟩))
  all_goals go_wp2_with fail
  all_goals go_meet
  all_goals first
   | exact ⟨w5.heap.size, a, c, rfl, rfl, rfl, hideIt (BBox.put HZ6.out HR.out.1 HR.out.2.1 HQ5.out.1.size)⟩
   | exact ⟨W1.heap.size, a, c, rfl, rfl, rfl, hideIt (BBox.put HZ6.out HR.out.1 HR.out.2.1 (Nat.le_refl _))⟩
   | exact ⟨w6.heap.size, a, c, rfl, rfl, rfl, hideIt (BBox.new HR.out.1 HR.out.2.1)⟩
 case rest =>
  obtain ⟨B, a, c, rfl, rfl, rfl, HB⟩ := hcut;clear HLC HGC y1 y2 y3 y4 q0 q1 q2 q3 qf qz k2 k3 k4 k5 k7 k8 k9 k10 kf kz;obtain ⟨⟨m0, m1, m2, m3⟩, mf, mz⟩ := at4 HB.out.box;have HX3 := hideIt (HX1.out.keep HB.out.bel);have HP3 := hideIt (blkK HP1.out HB.out.bel);have HX4 := hideIt ((HX3.out.setBal G.1 a c (own_base HB.out.own HX1.out.bel.size) hlG (apart_new HX1.out.rows.nd.n HB.out.own) (apart_new HX1.out.rows.nd.m HB.out.own)).setWt G.2.1);have hBK : B ≠ K := by
   intro e1;have h1 := HX3.out.box;have h2 := HB.out.box;rw [e1, h1] at h2
   simp at h2
  have hPK : P ≠ K := fun e1 => hKP e1.symm
  have HPP := hideIt (setOther (w := wc) (b := K) (j := 2) (.int .i64 G.1.t) HP3.out hPK);have HPP2 := hideIt (setOther (b := K) (j := 3) (.int .i64 G.1.v) HPP.out hPK);have HPP3 := hideIt (setOther (b := K) (j := 4) (.int .i64 G.1.r) HPP2.out hPK);have HPP4 := hideIt (setOther (b := K) (j := 5) (.slice a G.1.l.length c) HPP3.out hPK);have HPP5 := hideIt (setOther (b := K) (j := 17) (.bool G.2.1) HPP4.out hPK);obtain ⟨⟨k0, k1, k2, k3, k4, k5, k6, k7, k8, k9, k10, k11, k12, k13, k14, k15, k16, k17⟩, kf, kz⟩ := at18 HX3.out.box;clear HPP HPP2 HPP3 HPP4
  go_upto_region 5 with fail
  generalize (World.setCell _ ⟨K, 17, none⟩ _) = W4 at *;clear k0 k1 k2 k3 k4 k5 k6 k7 k8 k9 k10 k11 k12 k13 k14 k15 k16 k17 kf kz m0 m1 m2 m3 mf mz hBK HB HX3 HX1 HP1 HP3;obtain ⟨⟨m0, m1, m2, m3, m4, m5, m6, m7, m8, m9, m10, m11, m12⟩, mf, mz⟩ := at13 HPP5.out;have HT := hideIt (tell_is HX4.out ⟨{msg0 2 y.m.frm with ok := G.2.1}, none, 0⟩ (EntO.nil _ _) hs);unfold msgE msg0 noT at HT;simp only [List.length_nil] at HT
  go_wp2_with fail
  refine HT.out.mono ?_;rintro r w7 ⟨a7, c7, rfl, hw⟩;dsimp only;have HW := hideIt hw;clear hw HT;go_wp2;go_ret
  first
   | refine ⟨_, ?_, HW.out⟩
   | refine ⟨_, rfl, ?_, HW.out⟩
  rw [HV.out]
  simp [WkX.v, tellW, msg0, noT]
theorem count_few (b : Tm.Bal) (x y : Int) (ok : Bool) (n : Int) (h : b.l.length ≤ 1000) : (Tm.countL b x y ok n).1.l.length ≤ 1000000 := by
 have hh : (Tm.hearL b y).l.length ≤ 1000 := by
  unfold Tm.hearL
  split
  ·simp
  ·exact h
 unfold Tm.countL
 split
 ·simp [Tm.zB]
 ·split
  ·simp [Tm.zB]
  ·split
   ·simp [Tm.zB]
   ·split
    ·simp only [Tm.voteL];unfold Tm.addL
     split
     ·omega
     ·rw [Tm.insL_len];omega
    ·exact Nat.le_trans hh (by omega)
set_option maxRecDepth 100000 in
set_option maxHeartbeats 16000000 in
theorem grantedK_is {X : WkX} {K : Nat} {w wx : World} (h : WK w K X wx) (y : MsgX) (hb : NB X.d) (hbl : X.d.b.l.length ≤ 1000) (hmay : (Tm.countL X.d.b y.m.frm y.m.term y.m.ok X.d.n).1.r = 3 → Tm.mayB (Tm.countL X.d.b y.m.frm y.m.term y.m.ok X.d.n).1 = true) (hM : X.M.length + 10 ≤ 1000000) (hR : X.R.length + 10 ≤ 1000000) : Calls Tryz.prog 142 #[.pointer (some ⟨K, 0, none⟩), .agg (msgE y).toArray] wx fun r w' => ∃ Y' : WkX, r = .returned (.int .i64 (granED X.v y.m).2) ∧ Y'.v = (granED X.v y.m).1 ∧ WK w K Y' w' := by
 have HX0 := hideIt (h.keep (below1 wx (.cells (msgE y).toArray 50)));have HP := hideIt (heap_alloc_new wx (.cells (msgE y).toArray 50));have hlC := count_few X.d.b y.m.frm y.m.term y.m.ok X.d.n hbl;have HV : Hid (granED X.v y.m = if X.d.b.r = 3 ∨ (Tm.countL X.d.b y.m.frm y.m.term y.m.ok X.d.n).1.r ≠ 3 then ({X.v with d := {X.d with b := (Tm.countL X.d.b y.m.frm y.m.term y.m.ok X.d.n).1}}, 0) else leadW {X.v with d := {X.d with b := (Tm.countL X.d.b y.m.frm y.m.term y.m.ok X.d.n).1}}) := hideIt rfl;have hKP : K ≠ wx.heap.size := by
  have := (Array.getElem?_eq_some_iff.1 h.box).1;omega
 have HLe := hideIt (leadsW_is HX0.out.box);clear h;unfold msgE at *
 go_enter Tryz.func142, Tryz.ntmps142
 go_upto_region 1 with fail
 generalize (World.alloc wx _) = W0 at *;generalize wx.heap.size = P at *
 go_wp2_with fail
 refine HLe.out.mono ?_;rintro r w2 ⟨rfl, rfl⟩;dsimp only;have HGC : Hid (∀ W, Below w2.heap.size w2 W → Calls Tryz.prog 163 #[.agg #[.int .i64 X.d.b.t, .int .i64 X.d.b.v, .int .i64 X.d.b.r, .slice X.ba X.d.b.l.length X.bc], .int .i64 y.m.frm, .int .i64 y.m.term, .bool y.m.ok, .int .i64 X.d.n] W fun r w' => ∃ a c, r = .returned (.tuple #[.agg #[.int .i64 (Tm.countL X.d.b y.m.frm y.m.term y.m.ok X.d.n).1.t, .int .i64 (Tm.countL X.d.b y.m.frm y.m.term y.m.ok X.d.n).1.v, .int .i64 (Tm.countL X.d.b y.m.frm y.m.term y.m.ok X.d.n).1.r, .slice a (Tm.countL X.d.b y.m.frm y.m.term y.m.ok X.d.n).1.l.length c], .int .i64 (Tm.countL X.d.b y.m.frm y.m.term y.m.ok X.d.n).2]) ∧ Hid (w'.ownsRow w2.heap.size 3 1 (.slice a (Tm.countL X.d.b y.m.frm y.m.term y.m.ok X.d.n).1.l.length c) (Tm.countL X.d.b y.m.frm y.m.term y.m.ok X.d.n).1.l.length ((Tm.countL X.d.b y.m.frm y.m.term y.m.ok X.d.n).1.l.map Tm.iv) ∧ Below w2.heap.size w2 w') ∧ (w'.cell? ⟨K, 2, none⟩ = some (.int .i64 X.d.b.t) ∧ w'.cell? ⟨K, 3, none⟩ = some (.int .i64 X.d.b.v) ∧ w'.cell? ⟨K, 4, none⟩ = some (.int .i64 X.d.b.r) ∧ w'.cell? ⟨K, 5, none⟩ = some (.slice X.ba X.d.b.l.length X.bc) ∧ w'.cell? ⟨K, 1, none⟩ = some (.int .i64 X.d.n) ∧ w'.cell? ⟨P, 1, none⟩ = some (.int .i64 y.m.frm) ∧ w'.cell? ⟨P, 3, none⟩ = some (.int .i64 y.m.term) ∧ w'.cell? ⟨P, 8, none⟩ = some (.bool y.m.ok)) ∧ (∀ j, w'.frozen? ⟨K, j, none⟩ = false) ∧ K < w'.heap.size) := by
  intro W hW;refine (Tm.count_is X.d.b X.gb y.m.frm y.m.term y.m.ok X.d.n W (HX0.out.keep hW).rows.at_.1).mono ?_;rintro r w' ⟨g, rfl, ho, hbl⟩;obtain ⟨a, c, rfl⟩ := Tm.own_len ho;have hb2 := below_via hW hbl;obtain ⟨⟨k0, k1, k2, k3, k4, k5, k6, k7, k8, k9, k10, k11, k12, k13, k14, k15, k16, k17⟩, kf, kz⟩ := at18 (HX0.out.keep hb2).box;obtain ⟨⟨m0, m1, m2, m3, m4, m5, m6, m7, m8, m9, m10, m11, m12⟩, mf, mz⟩ := at13 (blkK HP.out hb2)
  exact ⟨a, c, rfl, hideIt ⟨own_base ho hW.size, hb2⟩, ⟨k2, k3, k4, k5, k1, m1, m3, m8⟩, kf, kz⟩
 obtain ⟨⟨k0, k1, k2, k3, k4, k5, k6, k7, k8, k9, k10, k11, k12, k13, k14, k15, k16, k17⟩, kf, kz⟩ := at18 HX0.out.box;obtain ⟨⟨m0, m1, m2, m3, m4, m5, m6, m7, m8, m9, m10, m11, m12⟩, mf, mz⟩ := at13 HP.out;have hPK : P ≠ K := fun e1 => hKP e1.symm
 clear k0 k6 k7 k8 k9 k10 k11 k12 k13 k14 k15 k16 k17 m0 m2 m4 m5 m6 m7 m9 m10 m11 m12 HLe;generalize Tm.countL X.d.b y.m.frm y.m.term y.m.ok X.d.n = C at *
 go_upto_region 2 with fail
 go_cut [] from 8 to 31 (fun wy => Hid (∃ a c, WK w K {X with d := {X.d with b := C.1}, ba := a, bc := c} wy))
 case first =>
  clear HV hmay;refine wp_region_held_drew (S := fun W => W.cell? ⟨K, 1, none⟩ = some (.int .i64 X.d.n) ∧ W.cell? ⟨P, 1, none⟩ = some (.int .i64 y.m.frm) ∧ W.cell? ⟨P, 3, none⟩ = some (.int .i64 y.m.term) ∧ W.cell? ⟨P, 8, none⟩ = some (.bool y.m.ok)) (by rfl) ⟨k1, m1, m3, m8⟩ (fun hHeld => ?_);refine wpAnyH_take (i := 0) (oi := ⟨some 9, _, _, _, _, _⟩) (v := ?_) rfl (by kernel_rfl) (by kernel_rfl) (by kernel_rfl) (fun _ _ _ h => h) (Or.inl ⟨by rfl, ?_⟩) (by assumption) ?_
  rotate_left
  ·intro w5 hSw
   (try dsimp only at hSw)
   go_simp
   (try with_reducible rfl)
  try simp only [aP, aQ, aA, aB, aC]
  refine wpAnyH_take (i := 1) (oi := ⟨some 10, _, _, _, _, _⟩) (v := ?_) rfl (by kernel_rfl) (by kernel_rfl) (by kernel_rfl) (fun _ _ _ h => h) (Or.inl ⟨by rfl, ?_⟩) (by assumption) ?_
  rotate_left
  ·intro w5 hSw
   (try dsimp only at hSw)
   go_simp
   (try with_reducible rfl)
  try simp only [aP, aQ, aA, aB, aC]
  refine wpAnyH_take (i := 2) (oi := ⟨some 11, _, _, _, _, _⟩) (v := ?_) rfl (by kernel_rfl) (by kernel_rfl) (by kernel_rfl) (fun _ _ _ h => h) (Or.inl ⟨by rfl, ?_⟩) (by assumption) ?_
  rotate_left
  ·intro w5 hSw
   (try dsimp only at hSw)
   go_simp
   (try with_reducible rfl)
  try simp only [aP, aQ, aA, aB, aC]
  refine wpAnyH_take (i := 3) (oi := ⟨some 12, _, _, _, _, _⟩) (v := ?_) rfl (by kernel_rfl) (by kernel_rfl) (by kernel_rfl) (fun _ _ _ h => h) (Or.inl ⟨by rfl, ?_⟩) (by assumption) ?_
  rotate_left
  ·intro w5 hSw
   (try dsimp only at hSw)
   go_simp
   (try with_reducible rfl)
  try simp only [aP, aQ, aA, aB, aC]
  refine wpAnyH_take (i := 4) (oi := ⟨some 13, _, _, _, _, _⟩) (v := ?_) rfl (by kernel_rfl) (by kernel_rfl) (by kernel_rfl) (fun _ _ _ h => h) (Or.inl ⟨by rfl, ?_⟩) (by assumption) ?_
  rotate_left
  ·intro w5 hSw
   (try dsimp only at hSw)
   go_simp
   (try with_reducible rfl)
  try simp only [aP, aQ, aA, aB, aC]
  refine wpAnyH_take (i := 6) (oi := ⟨some 15, _, _, _, _, _⟩) (v := ?_) rfl (by kernel_rfl) (by kernel_rfl) (by kernel_rfl) (fun _ _ _ h => h) (Or.inl ⟨by rfl, ?_⟩) (by assumption) ?_
  rotate_left
  ·intro w5 hSw
   (try dsimp only at hSw)
   go_simp
   (try with_reducible rfl)
  try simp only [aP, aQ, aA, aB, aC]
  refine wpAnyH_take (i := 7) (oi := ⟨some 16, _, _, _, _, _⟩) (v := ?_) rfl (by kernel_rfl) (by kernel_rfl) (by kernel_rfl) (fun _ _ _ h => h) (Or.inl ⟨by rfl, ?_⟩) (by assumption) ?_
  rotate_left
  ·intro w5 hSw
   (try dsimp only at hSw)
   go_simp
   (try with_reducible rfl)
  try simp only [aP, aQ, aA, aB, aC]
  refine wpAnyH_take (i := 8) (oi := ⟨some 17, _, _, _, _, _⟩) (v := ?_) rfl (by kernel_rfl) (by kernel_rfl) (by kernel_rfl) (fun _ _ _ h => h) (Or.inl ⟨by rfl, ?_⟩) (by assumption) ?_
  rotate_left
  ·intro w5 hSw
   (try dsimp only at hSw)
   go_simp
   (try with_reducible rfl)
  try simp only [aP, aQ, aA, aB, aC]
  refine wpAnyH_take (i := 9) (oi := ⟨some 18, _, _, _, _, _⟩) (v := ?_) rfl (by kernel_rfl) (by kernel_rfl) (by kernel_rfl) (fun _ _ _ h => h) (Or.inl ⟨by rfl, ?_⟩) (by assumption) ?_
  rotate_left
  ·intro w5 hSw
   (try dsimp only at hSw)
   go_simp
   (try with_reducible rfl)
  try simp only [aP, aQ, aA, aB, aC]
  refine wpAnyH_take (i := 10) (oi := ⟨some 19, _, _, _, _, _⟩) (v := ?_) rfl (by kernel_rfl) (by kernel_rfl) (by kernel_rfl) (fun _ _ _ h => h) (Or.inl ⟨by rfl, ?_⟩) (by assumption) ?_
  rotate_left
  ·intro w5 hSw
   (try dsimp only at hSw)
   go_simp
   (try with_reducible rfl)
  try simp only [aP, aQ, aA, aB, aC]
  refine wpAnyH_take (i := 11) (oi := ⟨some 20, _, _, _, _, _⟩) (v := ?_) rfl (by kernel_rfl) (by kernel_rfl) (by kernel_rfl) (fun _ _ _ h => h) (Or.inl ⟨by rfl, ?_⟩) (by assumption) ?_
  rotate_left
  ·intro w5 hSw
   (try dsimp only at hSw)
   go_simp
   (try with_reducible rfl)
  try simp only [aP, aQ, aA, aB, aC]
  refine wpAnyH_take (i := 12) (oi := ⟨some 21, _, _, _, _, _⟩) (v := ?_) rfl (by kernel_rfl) (by kernel_rfl) (by kernel_rfl) (fun _ _ _ h => h) (Or.inl ⟨by rfl, ?_⟩) (by assumption) ?_
  rotate_left
  ·intro w5 hSw
   (try dsimp only at hSw)
   go_simp
   (try with_reducible rfl)
  try simp only [aP, aQ, aA, aB, aC]
  refine wpAnyH_take (i := 13) (oi := ⟨some 22, _, _, _, _, _⟩) (v := ?_) rfl (by kernel_rfl) (by kernel_rfl) (by kernel_rfl) (fun _ _ _ h => h) (Or.inl ⟨by rfl, ?_⟩) (by assumption) ?_
  rotate_left
  ·intro w5 hSw
   (try dsimp only at hSw)
   go_simp
   (try with_reducible rfl)
  try simp only [aP, aQ, aA, aB, aC]
  refine wpAnyH_take (i := 14) (oi := ⟨some 23, _, _, _, _, _⟩) (v := ?_) rfl (by kernel_rfl) (by kernel_rfl) (by kernel_rfl) (fun _ _ _ h => h) (Or.inl ⟨by rfl, ?_⟩) (by assumption) ?_
  rotate_left
  ·intro w5 hSw
   (try dsimp only at hSw)
   go_simp
   (try with_reducible rfl)
  try simp only [aP, aQ, aA, aB, aC]
  refine wpAnyH_take (i := 15) (oi := ⟨some 24, _, _, _, _, _⟩) (v := ?_) rfl (by kernel_rfl) (by kernel_rfl) (by kernel_rfl) (fun _ _ _ h => h) (Or.inl ⟨by rfl, ?_⟩) (by assumption) ?_
  rotate_left
  ·intro w5 hSw
   (try dsimp only at hSw)
   go_simp
   (try with_reducible rfl)
  try simp only [aP, aQ, aA, aB, aC]
  refine wpAnyH_take (i := 16) (oi := ⟨some 25, _, _, _, _, _⟩) (v := ?_) rfl (by kernel_rfl) (by kernel_rfl) (by kernel_rfl) (fun _ _ _ h => h) (Or.inl ⟨by rfl, ?_⟩) (by assumption) ?_
  rotate_left
  ·intro w5 hSw
   (try dsimp only at hSw)
   go_simp
   (try with_reducible rfl)
  try simp only [aP, aQ, aA, aB, aC]
  refine wpAnyH_ready (rs := [5]) (by kernel_rfl) (by simp) ?_;refine AllReadyH.cons (o := ⟨some 14, _, _, _, _, _⟩) rfl (fun Kx hK => ?_) AllReadyH.nil;go_simp;refine hK.out _ _ hHeld (fun hHeld => ?_);clear hK Kx
  try simp only [aP, aQ, aA, aB, aC]
  refine wpAnyH_ready (rs := [17]) (by kernel_rfl) (by simp) ?_;refine AllReadyH.cons (o := ⟨some 26, _, _, _, _, _⟩) rfl (fun Kx hK => ?_) AllReadyH.nil;go_simp
  go_at_call 163
  refine (HGC.out _ (by first | exact (Below.refl _ _).drew | exact Below.refl _ _)).mono ?_;rintro r w6 ⟨a, c, rfl, HR, ⟨j0, j1, j2, j3, j4, j5, j6, j7⟩, jf, jz⟩;refine hK.out _ _ ⟨j4, j5, j6, j7⟩ (fun hHeld => ?_);clear hK Kx
  try simp only [aP, aQ, aA, aB, aC]
  refine wpAnyH_take (i := 18) (oi := ⟨some 8, _, _, _, _, _⟩) (v := ?_) rfl (by kernel_rfl) (by kernel_rfl) (by kernel_rfl) (fun _ _ _ h => h) (Or.inl ⟨by rfl, ?_⟩) (by assumption) ?_
  rotate_left
  ·intro w5 hSw
   (try dsimp only at hSw)
   go_simp
   (try with_reducible rfl)
  try simp only [aP, aQ, aA, aB, aC]
  refine wpAnyH_take (i := 19) (oi := ⟨some 27, _, _, _, _, _⟩) (v := ?_) rfl (by kernel_rfl) (by kernel_rfl) (by kernel_rfl) (fun _ _ _ h => h) (Or.inl ⟨by rfl, ?_⟩) (by assumption) ?_
  rotate_left
  ·intro w5 hSw
   (try dsimp only at hSw)
   go_simp
   (try with_reducible rfl)
  try simp only [aP, aQ, aA, aB, aC]
  refine wpAnyH_take (i := 20) (oi := ⟨some 28, _, _, _, _, _⟩) (v := ?_) rfl (by kernel_rfl) (by kernel_rfl) (by kernel_rfl) (fun _ _ _ h => h) (Or.inl ⟨by rfl, ?_⟩) (by assumption) ?_
  rotate_left
  ·intro w5 hSw
   (try dsimp only at hSw)
   go_simp
   (try with_reducible rfl)
  try simp only [aP, aQ, aA, aB, aC]
  refine wpAnyH_take (i := 21) (oi := ⟨some 29, _, _, _, _, _⟩) (v := ?_) rfl (by kernel_rfl) (by kernel_rfl) (by kernel_rfl) (fun _ _ _ h => h) (Or.inl ⟨by rfl, ?_⟩) (by assumption) ?_
  rotate_left
  ·intro w5 hSw
   (try dsimp only at hSw)
   go_simp
   (try with_reducible rfl)
  try simp only [aP, aQ, aA, aB, aC]
  refine wpAnyH_take (i := 22) (oi := ⟨some 30, _, _, _, _, _⟩) (v := ?_) rfl (by kernel_rfl) (by kernel_rfl) (by kernel_rfl) (fun _ _ _ h => h) (Or.inl ⟨by rfl, ?_⟩) (by assumption) ?_
  rotate_left
  ·intro w5 hSw
   (try dsimp only at hSw)
   go_simp
   (try with_reducible rfl)
  try simp only [aP, aQ, aA, aB, aC]
  refine wpAnyH_take (i := 23) (oi := ⟨some 31, _, _, _, _, _⟩) (v := ?_) rfl (by kernel_rfl) (by kernel_rfl) (by kernel_rfl) (fun _ _ _ h => h) (Or.inl ⟨by rfl, ?_⟩) (by assumption) ?_
  rotate_left
  ·intro w5 hSw
   (try dsimp only at hSw)
   go_simp
   (try with_reducible rfl)
  try simp only [aP, aQ, aA, aB, aC]
  refine wpAnyH_ready (rs := [24]) (by kernel_rfl) (by simp) ?_;refine AllReadyH.cons (o := ⟨none, _, _, _, _, _⟩) rfl (fun Kx hK => ?_) AllReadyH.nil;go_simp;refine hK.out _ _ (by simp [*, World.cell?_setCell_other]) (fun hHeld => ?_);clear hK Kx
  try simp only [aP, aQ, aA, aB, aC]
  refine wpAnyH_done (by kernel_rfl) ?_ _;clear hHeld
  all_goals go_wp2_with fail
  all_goals go_meet
  all_goals exact hideIt ⟨a, c, (HX0.out.keep HR.out.2).setBal C.1 a c (own_base HR.out.1 HX0.out.bel.size) hlC (apart_new HX0.out.rows.nd.n HR.out.1) (apart_new HX0.out.rows.nd.m HR.out.1)⟩
 case rest =>
  obtain ⟨a, c, hw⟩ := hcut.out;have HX1 := hideIt hw;clear hcut hw HGC k1 k2 k3 k4 k5 kf kz m1 m3 m8 mf mz
  by_cases hr : X.d.b.r = 3
  ·rw [if_pos (.inl hr)] at HV;have hd : decide (X.d.b.r = 3) = true := decide_eq_true hr;go_wp2;go_ret
   first
    | refine ⟨_, ?_, ?_, HX1.out⟩
    | refine ⟨?_, _, ?_, HX1.out⟩
   ·rw [HV.out]
    first | rfl | skip
   ·rw [HV.out]
    rfl
  ·have hd : decide (X.d.b.r = 3) = false := decide_eq_false hr
   by_cases hr3 : C.1.r = 3
   ·rw [if_neg (fun h => h.elim hr (fun h => h hr3))] at HV;have HL2 : Hid (Calls Tryz.prog 87 #[.pointer (some ⟨K, 0, none⟩)] wc fun r w' => r = .returned (.bool true) ∧ w' = wc) := hideIt (by
     have := leadsW_is HX1.out.box;rw [show decide (({X with d := {X.d with b := C.1}, ba := a, bc := c} : WkX).d.b.r = 3) = true from decide_eq_true hr3] at this;exact this)
    have hnb : NB {X.d with b := C.1} := ⟨hb.n, hb.me, hb.ld, hmay hr3, hb.L, hb.tx⟩;have HE := hideIt (leadK_is HX1.out hnb hr3 hM hR);clear hr3 HX1 hr
    go_wp2_with fail
    refine HL2.out.mono ?_;rintro r w6 ⟨rfl, rfl⟩;dsimp only
    go_wp2_with fail
    refine HE.out.mono ?_;rintro r w7 ⟨Y, rfl, hv, hMl, hRl, hw⟩;dsimp only;have HW := hideIt hw;clear hw HE HL2;go_wp2;go_ret;refine ⟨Y, ?_, ?_, HW.out⟩
    ·rw [HV.out]
     rfl
    ·rw [HV.out, hv]
     rfl
   ·rw [if_pos (.inr hr3)] at HV;have HL2 : Hid (Calls Tryz.prog 87 #[.pointer (some ⟨K, 0, none⟩)] wc fun r w' => r = .returned (.bool false) ∧ w' = wc) := hideIt (by
     have := leadsW_is HX1.out.box;rw [show decide (({X with d := {X.d with b := C.1}, ba := a, bc := c} : WkX).d.b.r = 3) = false from decide_eq_false hr3] at this;exact this)
    clear hr3 hr
    go_wp2_with fail
    refine HL2.out.mono ?_;rintro r w6 ⟨rfl, rfl⟩;dsimp only;go_wp2;go_ret
    first
     | refine ⟨_, ?_, ?_, HX1.out⟩
     | refine ⟨?_, _, ?_, HX1.out⟩
    ·rw [HV.out]
     first | rfl | skip
    ·rw [HV.out]
     rfl
structure okM (d : NodeV) (m : MsgW) : Prop where
 frm : m.frm = d.me
 dst : m.dst ≠ d.me ∧ 1 ≤ m.dst ∧ m.dst ≤ d.n
 term : m.term = d.b.t
 app : m.kind = 3 → d.b.r = 3 ∧ m.cm = d.L.cm ∧ m.es = fromL d.L (m.pi + 1) m.es.length ∧ -1 ≤ m.pi ∧ m.pi ≤ 1000001
def Says (W : WkV) : Prop := ∀ m ∈ W.ms, okM W.d m
theorem from_self (L : LogV) (i : Int) (k : Int) : fromL L i (fromL L i k).length = fromL L i k := by
 unfold fromL
 split
 ·rename_i h
  simp only [Bool.and_eq_true, decide_eq_true_eq] at h;obtain ⟨⟨h1, h2⟩, h3⟩ := h;rw [h1, h2]
  by_cases c : 1 ≤ ((((L.l.drop (i - L.bi - 1).toNat).take k.toNat).length : Nat) : Int)
  ·rw [decide_eq_true c];simp only [Bool.and_self, if_true, Int.toNat_natCast, List.length_take];rw [List.take_eq_take_iff];omega
  ·rw [decide_eq_false c];have : ((L.l.drop (i - L.bi - 1).toNat).take k.toNat).length = 0 := by omega
   simp only [Bool.and_false, Bool.false_eq_true, if_false];exact (List.length_eq_zero_iff.1 this).symm
 ·rw [List.length_nil]
  simp
theorem tell_says {W : WkV} {m : MsgW} (h : Says W) (h1 : m.dst ≠ W.d.me ∧ 1 ≤ m.dst ∧ m.dst ≤ W.d.n) (h2 : m.kind = 3 → W.d.b.r = 3 ∧ m.cm = W.d.L.cm ∧ m.es = fromL W.d.L (m.pi + 1) m.es.length ∧ -1 ≤ m.pi ∧ m.pi ≤ 1000001) : Says (tellW W m) := by
 intro x hx;simp only [tellW, List.mem_append, List.mem_singleton] at hx
 rcases hx with hx | rfl
 ·exact h x hx
 ·exact ⟨rfl, h1, rfl, h2⟩
theorem send_says {W : WkV} {k : Nat} (h : Says W) (hk : (k : Int) ≠ W.d.me ∧ 1 ≤ (k : Int) ∧ (k : Int) ≤ W.d.n) (hr : W.d.b.r = 3) (hb : 0 ≤ W.d.nx.getD k 0 ∧ W.d.nx.getD k 0 ≤ 1000001) : Says (sendW W k) := by
 unfold sendW
 split
 ·exact tell_says h hk (fun h => by simp [msg0] at h)
 ·refine tell_says h hk (fun _ => ⟨hr, rfl, ?_, by simp only [msg0]; omega, by simp only [msg0]; omega⟩)
  simp only [msg0];rw [show W.d.nx.getD k 0 - 1 + 1 = W.d.nx.getD k 0 by omega, from_self]
theorem each_says {f : WkV → Nat → WkV} (W : WkV) (hf : ∀ (V : WkV) (k : Nat), Says V → V.d = W.d → ((k : Int) ≠ W.d.me ∧ 1 ≤ (k : Int) ∧ (k : Int) ≤ W.d.n) → Says (f V k) ∧ (f V k).d = W.d) (h : Says W) : ∀ k : Nat, (k : Int) ≤ W.d.n → Says (eachW f k W) ∧ (eachW f k W).d = W.d
 | 0, _ => ⟨h, rfl⟩
 | k + 1, hk => by
  obtain ⟨h1, h2⟩ := each_says W hf h k (by omega);unfold eachW;rw [h2]
  split
  ·exact ⟨h1, h2⟩
  ·rename_i c
   exact hf _ _ h1 h2 ⟨c, by omega, by omega⟩
theorem LD.nx_in {d : NodeV} (l : LD d) (h : NB d) (k : Nat) (h1 : 1 ≤ k) (h2 : (k : Int) ≤ d.n) : 0 ≤ d.nx.getD k 0 ∧ d.nx.getD k 0 ≤ 1000001 := by
 have a := l.nl;have b := l.nb k h1 (by omega);have c := las_in h.L;omega
theorem all_says {W : WkV} (h : Says W) (hb : NB W.d) (l : LD W.d) (hr : W.d.b.r = 3) : Says (allW sendW W) := by
 have hn := hb.n;refine (each_says W (fun V k hV hd hk => ⟨send_says hV (by rw [hd]; exact hk) (by rw [hd]; exact hr) (by rw [hd]; exact l.nx_in hb k (by omega) hk.2.2), (send_d V k).trans hd⟩) h W.d.n.toNat (by omega)).1
theorem polls_says {W : WkV} (h : Says W) (hb : NB W.d) : Says (allW pollW W) := by
 have hn := hb.n;refine (each_says W (fun V k hV hd hk => ⟨tell_says hV (by rw [hd]; exact hk) (fun h => by simp [msg0] at h), hd⟩) h W.d.n.toNat (by omega)).1
theorem nil_says {W : WkV} (h : W.ms = []) : Says W := fun m hm => by rw [h] at hm; cases hm
theorem add_says {d0 : NodeV} {W : WkV} {e : EntV} (hm : W.ms = []) (h : FW d0 W.d) (l : LD W.d) (hr : W.d.b.r = 3) (h0 : (addW W e).2 = 0) : Says (addW W e).1 := by
 unfold addW at h0 ⊢
 split at h0
 ·rename_i ha
  rw [if_pos ha];obtain ⟨p1, p2⟩ := put_led h l ha;obtain ⟨q1, q2⟩ := adv_led p1 p2 hr;exact all_says (nil_says hm) q1.nb q2 hr
 ·simp at h0
theorem lead_says {d0 : NodeV} {W : WkV} (hm : W.ms = []) (h : FW d0 W.d) (hr : W.d.b.r = 3) (h0 : (leadW W).2 = 0) : Says (leadW W).1 := by
 obtain ⟨p1, p2⟩ := new_led h;exact add_says (W := {W with d := {W.d with ld := W.d.me, nx := (List.replicate (W.d.n + 1).toNat ((lastL W.d.L).1 + 1)).set 0 0, mt := List.replicate (W.d.n + 1).toNat 0}, wt := true}) hm p1 p2 hr h0
theorem time_says {d0 : NodeV} {W : WkV} (hm : W.ms = []) (h : FW d0 W.d) (l : Led W.d) (h0 : (timeW W).2 = 0) : Says (timeW W).1 := by
 unfold timeW at h0 ⊢
 by_cases c1 : W.d.b.r = 3
 ·rw [if_pos c1];exact all_says (W := {W with wt := true}) (nil_says hm) h.nb (l.1 c1) c1
 ·rw [if_neg c1] at h0 ⊢
  by_cases c2 : (Tm.beginL W.d.b W.d.me W.d.n).2 ≠ 0
  ·rw [if_pos c2] at h0
   simp at h0
  ·rw [if_neg c2] at h0 ⊢;obtain ⟨b1, b2, b3, b4, b5⟩ := begin_bal (Decidable.not_not.1 c2);have hn := h.nb.n;have hb : FW d0 {W.d with b := (Tm.beginL W.d.b W.d.me W.d.n).1, ld := 0} := h.bal b4 b5 (by rw [b3]; simp only [List.length_singleton]; omega) (by
    rw [b3];simp only [List.length_singleton]
    split
    ·intro h; omega
    ·intro h; omega) (by omega)
   by_cases c3 : (Tm.beginL W.d.b W.d.me W.d.n).1.r = 3
   ·rw [if_pos c3] at h0 ⊢;exact lead_says (W := {W with d := {W.d with b := (Tm.beginL W.d.b W.d.me W.d.n).1, ld := 0}, wt := true}) hm hb c3 h0
   ·rw [if_neg c3];exact polls_says (W := {W with d := {W.d with b := (Tm.beginL W.d.b W.d.me W.d.n).1, ld := 0}, wt := true}) (nil_says hm) hb.nb
theorem prop_says {d0 : NodeV} {W : WkV} {t : ByteArray} (hm : W.ms = []) (h : FW d0 W.d) (l : Led W.d) (h0 : (propW W t).2 = 0) : Says (propW W t).1 := by
 unfold propW at h0 ⊢
 by_cases c1 : W.d.b.r ≠ 3
 ·rw [if_pos c1] at h0
  simp at h0
 ·rw [if_neg c1] at h0 ⊢
  by_cases c2 : 4000 < t.size
  ·rw [if_pos c2] at h0
   simp at h0
  ·rw [if_neg c2] at h0 ⊢;exact add_says hm h (l.1 (Decidable.not_not.1 c1)) (Decidable.not_not.1 c1) h0
theorem hear_ms (W : WkV) (t : Int) : (hearW W t).ms = W.ms := by
 unfold hearW
 split
 ·rfl
 ·rfl
theorem answ_says {W : WkV} {m : MsgW} {ok : Bool} {x : Int} (h : W.ms = []) (hd : m.frm ≠ W.d.me ∧ 1 ≤ m.frm ∧ m.frm ≤ W.d.n) : Says (answW W m ok x) := tell_says (nil_says h) hd (fun h => by simp [msg0] at h)
theorem gran_says {d0 : NodeV} {W : WkV} {m : MsgW} (hm : W.ms = []) (h : FW d0 W.d) (l : Led W.d) (hs : sentB m = true) (hf : m.frm ≤ W.d.n) (ht : m.term ≤ W.d.b.t) (h0 : (granED W m).2 = 0) : Says (granED W m).1 := by
 obtain ⟨s1, s2, s3, s4, s5, s6, s7, s8⟩ := sent_in hs;have hn := h.nb.n;have hC := count_bal (ok := m.ok) h.nb.b (x := m.frm) (n := W.d.n) ⟨s1.1, hf, hn.2⟩ s4 ht;unfold granED at h0 ⊢
 by_cases c : W.d.b.r = 3 ∨ (Tm.countL W.d.b m.frm m.term m.ok W.d.n).1.r ≠ 3
 ·rw [if_pos c];exact nil_says hm
 ·rw [if_neg c] at h0 ⊢
  rcases hC with e | ⟨r2, e, m1, l1, c1⟩
  ·rw [e] at c;exact absurd (Decidable.em (W.d.b.r = 3)) c
  ·rw [e] at h0 c ⊢;simp only at h0 c ⊢;have hb2 := h.b2 r2;have hv : VoteF W.d.b (Tm.voteL W.d.b m.frm W.d.n) := ⟨Int.le_refl _, fun _ _ => rfl⟩;have hb : FW d0 {W.d with b := Tm.voteL W.d.b m.frm W.d.n, ld := W.d.ld} := h.bal m1 hv (by omega) (fun hr => by
    rcases c1 with c1 | c1
    ·omega
    ·exact c1.2) h.nb.ld
   have hr : (Tm.voteL W.d.b m.frm W.d.n).r = 3 := by
    rcases Decidable.em ((Tm.voteL W.d.b m.frm W.d.n).r = 3) with h | h
    ·exact h
    ·exact absurd (.inr h) c
   exact lead_says (W := {W with d := {W.d with b := Tm.voteL W.d.b m.frm W.d.n}}) hm hb hr h0
theorem led_says {W : WkV} {m : MsgW} (hm : W.ms = []) (hd : m.frm ≠ W.d.me ∧ 1 ≤ m.frm ∧ m.frm ≤ W.d.n) : Says (ledW W m) := by
 unfold ledW
 split
 ·exact answ_says hm hd
 ·split
  ·exact nil_says hm
  ·split
   ·unfold accW
    split
    ·exact answ_says hm hd
    ·split
     ·exact answ_says hm hd
     ·split
      ·exact answ_says hm hd
      ·exact answ_says hm hd
   ·unfold instW
    split
    ·exact answ_says hm hd
    ·exact answ_says hm hd
theorem appd_says {d0 : NodeV} {W : WkV} {m : MsgW} (hm : W.ms = []) (h : FW d0 W.d) (l : Led W.d) (hf : m.frm ≠ W.d.me ∧ 1 ≤ m.frm ∧ m.frm ≤ W.d.n) (hmt : 0 ≤ m.mtch) : Says (appdW W m) := by
 have hgo := appd_go (m := m) h l hf.2;unfold appdW at hgo ⊢
 split
 ·exact nil_says hm
 ·rename_i c
  rw [if_neg c] at hgo;have hr : W.d.b.r = 3 := by
   rcases Decidable.em (W.d.b.r = 3) with h | h
   ·exact h
   ·exact absurd (.inl h) c
  split
  ·rename_i c2
   rw [if_pos c2, send_d] at hgo;have l2 := hgo.2.1 hr;refine send_says (nil_says hm) (by simp only; omega) hr ?_
   exact l2.nx_in hgo.1.nb m.frm.toNat (by omega) (by simp only; omega)
  ·rename_i c2
   rw [if_neg c2] at hgo;simp only at hgo ⊢
   split
   ·rename_i c3
    rw [if_pos c3, send_d] at hgo;have l2 := hgo.2.1 hr;refine send_says (nil_says hm) (by simp only [advW]; omega) hr ?_
    exact l2.nx_in hgo.1.nb m.frm.toNat (by omega) (by simp only [advW]; omega)
   ·exact nil_says hm
theorem mess_says {d0 : NodeV} {W : WkV} {m : MsgW} (hms : W.ms = []) (h : FW d0 W.d) (l : Led W.d) (h0 : (messW W m).2 = 0) : Says (messW W m).1 := by
 unfold messW at h0 ⊢
 split at h0
 ·simp at h0
 ·rename_i c
  rw [if_neg c];have hs : sentB m = true := by
   cases hh : sentB m
   ·exact absurd (.inl hh) c
   ·rfl
  have hf : m.frm ≤ W.d.n := Int.not_lt.1 (fun h => c (.inr (.inr h)));have hto : m.dst = W.d.me := Decidable.not_not.1 (fun h => c (.inr (.inl h)));obtain ⟨s1, s2, s3, s4, s5, s6, s7, s8⟩ := sent_in hs;obtain ⟨g1, g2, g3⟩ := hear_go h l s4;have hf2 : m.frm ≠ (hearW W m.term).d.me ∧ 1 ≤ m.frm ∧ m.frm ≤ (hearW W m.term).d.n := by
   rw [g1.n, ← h.n, g1.me, ← h.me, ← hto]
   exact ⟨s3, s1.1, hf⟩
  have hms2 : (hearW W m.term).ms = [] := by rw [hear_ms, hms]
  generalize hearW W m.term = V at *
  split at h0
  ·rename_i k1
   rw [if_pos k1];exact tell_says (nil_says hms2) hf2 (fun h => by simp [msg0] at h)
  ·rename_i k1
   rw [if_neg k1]
   split at h0
   ·rename_i k2
    rw [if_pos k2];exact gran_says hms2 g1 g2 hs hf2.2.2 g3 h0
   ·rename_i k2
    rw [if_neg k2]
    split at h0
    ·rename_i k4
     rw [if_pos k4];exact appd_says hms2 g1 g2 hf2 (s8 k4).1
    ·rename_i k4
     rw [if_neg k4];exact led_says hms2 hf2
theorem step_says {d : NodeV} {e : EvV} (h : Inv d) (h0 : (stepN d e).2 = 0) : Says (stepN d e).1 := by
 have hf := h.fw;unfold stepN at h0 ⊢;rw [h.1, if_neg (by simp)] at h0 ⊢
 split at h0
 ·simp at h0
 ·rename_i c
  rw [if_neg c]
  split at h0
  ·rename_i c2
   exact absurd h0 c2
  ·rename_i c2
   rw [if_neg c2];have key : Says (evW ⟨d, [], [], 0, false⟩ e).1 := by
    have h1 := Decidable.not_not.1 c2;unfold evW at h1 ⊢
    split at h1
    ·rename_i k1
     rw [if_pos k1];exact time_says (W := ⟨d, [], [], 0, false⟩) rfl hf.1 hf.2 h1
    ·rename_i k1
     rw [if_neg k1]
     split at h1
     ·rename_i k2
      rw [if_pos k2];exact prop_says (W := ⟨d, [], [], 0, false⟩) rfl hf.1 hf.2 h1
     ·rename_i k2
      rw [if_neg k2]
      split at h1
      ·rename_i k3
       rw [if_pos k3];exact mess_says (W := ⟨d, [], [], 0, false⟩) rfl hf.1 hf.2 h1
      ·rename_i k3
       rw [if_neg k3];unfold saveW
       split
       ·exact nil_says rfl
       ·split
        ·exact nil_says rfl
        ·exact nil_says rfl
   simp only [hardW]
   split
   ·exact key
   ·exact key
theorem acc_c1 {W : WkV} {m : MsgW} (h : (accL W.d.L m.pi m.pt m.es m.cm).2.2.2 ≠ 0) : accW W m = answW W m false W.d.L.cm := by
 unfold accW;rw [if_pos h]
theorem acc_c2 {W : WkV} {m : MsgW} (h : ¬ (accL W.d.L m.pi m.pt m.es m.cm).2.2.2 ≠ 0) (h2 : (accL W.d.L m.pi m.pt m.es m.cm).2.2.1 = false) : accW W m = answW W m false (min (lastL W.d.L).1 (m.pi - 1)) := by
 unfold accW;rw [if_neg h, if_pos h2]
theorem acc_c3 {W : WkV} {m : MsgW} (h : ¬ (accL W.d.L m.pi m.pt m.es m.cm).2.2.2 ≠ 0) (h2 : ¬ (accL W.d.L m.pi m.pt m.es m.cm).2.2.1 = false) : accW W m = answW (if sameN W.d.L.l (accL W.d.L m.pi m.pt m.es m.cm).1.l < max W.d.L.l.length (accL W.d.L m.pi m.pt m.es m.cm).1.l.length then tailW {W with d := {W.d with L := (accL W.d.L m.pi m.pt m.es m.cm).1}} ((accL W.d.L m.pi m.pt m.es m.cm).1.bi + 1 + (sameN W.d.L.l (accL W.d.L m.pi m.pt m.es m.cm).1.l : Nat)) else {W with d := {W.d with L := (accL W.d.L m.pi m.pt m.es m.cm).1}}) m true (accL W.d.L m.pi m.pt m.es m.cm).2.1 := by
 unfold accW;rw [if_neg h, if_neg h2]
theorem sameN_le : ∀ l k : List EntV, sameN l k ≤ l.length ∧ sameN l k ≤ k.length
 | [], _ => by simp [sameN]
 | _ :: _, [] => by simp [sameN]
 | a :: l, b :: k => by
  have := sameN_le l k;unfold sameN
  split
  ·simp only [List.length_cons];omega
  ·simp
theorem sameN_at : ∀ (l k : List EntV) (t : Nat) (h1 : t < l.length) (h2 : t < k.length), t ≤ sameN l k → (t < sameN l k ↔ eqE l[t] k[t] = true)
 | [], _, t, h1, _, _ => by simp at h1
 | _ :: _, [], t, _, h2, _ => by simp at h2
 | a :: l, b :: k, t, h1, h2, h3 => by
  unfold sameN at h3 ⊢;cases t with
  | zero =>
   simp only [List.getElem_cons_zero]
   split
   ·rename_i h
    simp [h]
   ·rename_i h
    simp [h]
  | succ t =>
   simp only [List.getElem_cons_succ]
   split at h3
   ·rename_i h
    rw [if_pos h];have := sameN_at l k t (by simpa using h1) (by simpa using h2) (by omega);rw [← this];omega
   ·omega
theorem EGot.opend {w : World} {v : Value} {l : List EntV} (h : EGot w v l) : ∃ a c, v = .slice a l.length c ∧ (l.length ≤ c ∧ c ≤ maxLen) ∧ ∀ i, i < l.length → ∃ b off, a = some ⟨b, off, none⟩ ∧ b < w.heap.size ∧ w.cell? ⟨b, off + i * 3, none⟩ = some (.int .i64 (l.getD i noE).term) ∧ w.cell? ⟨b, off + i * 3 + 1, none⟩ = some (.int .i64 (l.getD i noE).kind) ∧ w.cell? ⟨b, off + i * 3 + 2, none⟩ = some (.string (l.getD i noE).text) := by
 obtain ⟨h8, a, c, rfl, hc, hr⟩ := h;refine ⟨a, c, rfl, hc, fun i hi => ?_⟩;obtain ⟨b, off, rfl, hlt, hcc⟩ := hr (by omega);obtain ⟨e0, e1, e2⟩ := entC_get l i hi;have e : l.getD i noE = l[i] := by rw [List.getD_eq_getElem?_getD, List.getElem?_eq_getElem hi]; rfl
 rw [e]
 exact ⟨b, off, rfl, hlt, (hcc _ (by omega)).trans e0, (hcc (i * 3 + 1) (by omega)).trans e1, (hcc (i * 3 + 2) (by omega)).trans e2⟩
theorem sameN_at2 (l k : List EntV) (t : Nat) (h1 : t < l.length) (h2 : t < k.length) (h3 : t ≤ sameN l k) : t < sameN l k ↔ eqE (l.getD t noE) (k.getD t noE) = true := by
 have e1 : l.getD t noE = l[t] := by rw [List.getD_eq_getElem?_getD, List.getElem?_eq_getElem h1]; rfl
 have e2 : k.getD t noE = k[t] := by rw [List.getD_eq_getElem?_getD, List.getElem?_eq_getElem h2]; rfl
 rw [e1, e2];exact sameN_at l k t h1 h2 h3
set_option maxHeartbeats 8000000 in
set_option maxRecDepth 100000 in
theorem turnedAt_is (L M : LogV) (g k : Value) (w : World) (hg : EGot w g L.l) (hk : EGot w k M.l) (hL : L.l.length ≤ 1000000) (hM : M.l.length ≤ 1000000) (hb : 0 ≤ M.bi ∧ M.bi ≤ 1000000) : Calls Tryz.prog 196 #[logV L g, logV M k] w fun e w' => e = .returned (.tuple #[.int .i64 (M.bi + 1 + (sameN L.l M.l : Nat)), .bool (decide (sameN L.l M.l < max L.l.length M.l.length))]) ∧ Below w.heap.size w w' := by
 obtain ⟨a, c, rfl, hcc, ha⟩ := hg.opend;obtain ⟨a', c', rfl, hcc', hb'⟩ := hk.opend;have HA := hideIt ha;have HK := hideIt hb';have hsl := sameN_le L.l M.l;have HS := hideIt (sameN_at2 L.l M.l);have hb1 := below1 w (.cells #[.int .i64 L.bi, .int .i64 L.bt, .slice a L.l.length c, .int .i64 L.cm] 36);have HP := hideIt (And.intro (blkK (heap_alloc_new w (.cells #[.int .i64 L.bi, .int .i64 L.bt, .slice a L.l.length c, .int .i64 L.cm] 36)) (below1 (w.alloc (.cells #[.int .i64 L.bi, .int .i64 L.bt, .slice a L.l.length c, .int .i64 L.cm] 36)) (.cells #[.int .i64 M.bi, .int .i64 M.bt, .slice a' M.l.length c', .int .i64 M.cm] 36))) (heap_alloc_new (w.alloc (.cells #[.int .i64 L.bi, .int .i64 L.bt, .slice a L.l.length c, .int .i64 L.cm] 36)) (.cells #[.int .i64 M.bi, .int .i64 M.bt, .slice a' M.l.length c', .int .i64 M.cm] 36)));have HB := hideIt (below_via hb1 (below1 (w.alloc (.cells #[.int .i64 L.bi, .int .i64 L.bt, .slice a L.l.length c, .int .i64 L.cm] 36)) (.cells #[.int .i64 M.bi, .int .i64 M.bt, .slice a' M.l.length c', .int .i64 M.cm] 36)));obtain ⟨hq1, hq2⟩ := hcc;obtain ⟨hq3, hq4⟩ := hcc';clear hg hk ha hb' hb1;obtain ⟨mx, hmx⟩ : ∃ mx : Nat, mx = max L.l.length M.l.length := ⟨_, rfl⟩;rw [← hmx];unfold logV logA
 go_enter Tryz.func196, Tryz.ntmps196
 generalize hla : L.l.length = la at *;generalize hlb : M.l.length = lb at *;generalize M.bi = bi at *;generalize sameN L.l M.l = sn at *;clear hla hlb
 go_upto_region 1 with fail
 have hws : (World.alloc w (.cells #[.int .i64 L.bi, .int .i64 L.bt, .slice a la c, .int .i64 L.cm] 36)).heap.size = w.heap.size + 1 := by simp
 rw [hws] at HP;clear hws;generalize (World.alloc (World.alloc w _) _) = W0 at *;generalize hQ : w.heap.size + 1 = Q at *;obtain ⟨P, hP⟩ : ∃ P, P = w.heap.size := ⟨_, rfl⟩;rw [← hP] at HP ⊢;obtain ⟨⟨p0, p1, p2, p3⟩, pf, pz⟩ := at4 HP.out.1;obtain ⟨⟨q0, q1, q2, q3⟩, qf, qz⟩ := at4 HP.out.2;clear p0 p1 p3 q1 q3 pf qf pz qz hP hQ;go_wp2
 go_loopw [6] (fun i wr => ∃ t : Nat, t ≤ sn ∧ i = .int .i64 (t : Int) ∧ Hid (Below W0.heap.size W0 wr)) (fun i _ => sn - (intOf i).toNat)
 case atStart => exact ⟨0, Nat.zero_le _, rfl, hideIt (Below.refl _ _)⟩
 case round =>
  obtain ⟨t, ht, rfl, HW⟩ := hrel;have x2 : wr.cell? ⟨P, 2, none⟩ = some (.slice a la c) := by
   rw [Tm.cell_at (blkK HP.out.1 HW.out)]
   rfl
  have z0 : wr.cell? ⟨Q, 0, none⟩ = some (.int .i64 bi) := by
   rw [Tm.cell_at (blkK HP.out.2 HW.out)]
   rfl
  have z2 : wr.cell? ⟨Q, 2, none⟩ = some (.slice a' lb c') := by
   rw [Tm.cell_at (blkK HP.out.2 HW.out)]
   rfl
  clear p2 q0 q2;obtain ⟨mn, hmn, hmn2⟩ : ∃ mn : Nat, mn = min la lb ∧ min (la : Int) (lb : Int) = (mn : Int) := ⟨min la lb, rfl, by omega⟩;have hmx2 : max (la : Int) (lb : Int) = (mx : Int) := by omega
  have hw1 : IntKind.i64.wrap (bi + 1) = bi + 1 := by rw [IntKind.wrap_i64]; omega
  have hw2 : IntKind.i64.wrap (bi + 1 + (t : Int)) = bi + 1 + (t : Int) := by rw [IntKind.wrap_i64]; omega
  have ht0 : (0 : Int) ≤ (t : Int) := by omega
  by_cases hlt : t < mn
  ·have hlt' : (t : Int) < (mn : Int) := by omega
   have hd : decide ((t : Int) < (mn : Int)) = true := decide_eq_true hlt';have hta : t < la := by omega
   have htb : t < lb := by omega
   have hta' : (t : Int) < (la : Int) := by omega
   have htb' : (t : Int) < (lb : Int) := by omega
   obtain ⟨b1, o1, rfl, l1, e0, e1, e2⟩ := HA.out t hta;obtain ⟨b2, o2, rfl, l2, f0, f1, f2⟩ := HK.out t htb;have hbb := below_via HB.out HW.out;have u0 := (hbb.cell (p := ⟨b1, o1 + t * 3, none⟩) l1).trans e0;have u1 := (hbb.cell (p := ⟨b1, o1 + t * 3 + 1, none⟩) l1).trans e1;have u2 := (hbb.cell (p := ⟨b1, o1 + t * 3 + 2, none⟩) l1).trans e2;have v0 := (hbb.cell (p := ⟨b2, o2 + t * 3, none⟩) l2).trans f0;have v1 := (hbb.cell (p := ⟨b2, o2 + t * 3 + 1, none⟩) l2).trans f1;have v2 := (hbb.cell (p := ⟨b2, o2 + t * 3 + 2, none⟩) l2).trans f2;have hs := HS.out t hta htb ht;clear e0 e1 e2 f0 f1 f2 hbb HS;generalize L.l.getD t noE = en at *;generalize M.l.getD t noE = em at *;obtain ⟨xt, xk, xx⟩ := en;obtain ⟨yt, yk, yx⟩ := em;simp only at u0 u1 u2 v0 v1 v2;have n1 := eq39 xt xk yt yk xx yx;cases heq : eqE ⟨xt, xk, xx⟩ ⟨yt, yk, yx⟩
   ·rw [heq] at n1 hs;have e : sn = t := by
     have : ¬ t < sn := fun h => by have := hs.1 h; simp at this
     omega
    clear hs HA HK;clear hmn hmx
    go_upto_region 2 with fail
    go_region_held3 (fun W => (W.cell? ⟨P, 2, none⟩ = some (.slice (some ⟨b1, o1, none⟩) la c) ∧ W.cell? ⟨Q, 0, none⟩ = some (.int .i64 bi) ∧ W.cell? ⟨Q, 2, none⟩ = some (.slice (some ⟨b2, o2, none⟩) lb c')) ∧ W.cell? ⟨b1, o1 + t * 3, none⟩ = some (.int .i64 xt) ∧ W.cell? ⟨b1, o1 + t * 3 + 1, none⟩ = some (.int .i64 xk) ∧ W.cell? ⟨b1, o1 + t * 3 + 2, none⟩ = some (.string xx) ∧ W.cell? ⟨b2, o2 + t * 3, none⟩ = some (.int .i64 yt) ∧ W.cell? ⟨b2, o2 + t * 3 + 1, none⟩ = some (.int .i64 yk) ∧ W.cell? ⟨b2, o2 + t * 3 + 2, none⟩ = some (.string yx)) (go_keep) (first | fail)
    all_goals go_wp2_with fail
    have HW' := hideIt (below_via HB.out HW.out)
    go_upto_region 4 with fail
    go_region_held3 (fun W => W.cell? ⟨P, 2, none⟩ = some (.slice (some ⟨b1, o1, none⟩) la c) ∧ W.cell? ⟨Q, 0, none⟩ = some (.int .i64 bi) ∧ W.cell? ⟨Q, 2, none⟩ = some (.slice (some ⟨b2, o2, none⟩) lb c')) (go_keep) (first | fail)
    all_goals go_wp2
    all_goals go_ret2
    all_goals exact ⟨by first | rfl | (rw [e]; rfl), below_via HW'.out (Below.refl _ _).drew.drew⟩
   ·rw [heq] at n1 hs;have hts : t < sn := hs.2 rfl;clear hs HA HK;clear hmn hmx
    go_upto_region 2 with fail
    go_region_held3 (fun W => (W.cell? ⟨P, 2, none⟩ = some (.slice (some ⟨b1, o1, none⟩) la c) ∧ W.cell? ⟨Q, 0, none⟩ = some (.int .i64 bi) ∧ W.cell? ⟨Q, 2, none⟩ = some (.slice (some ⟨b2, o2, none⟩) lb c')) ∧ W.cell? ⟨b1, o1 + t * 3, none⟩ = some (.int .i64 xt) ∧ W.cell? ⟨b1, o1 + t * 3 + 1, none⟩ = some (.int .i64 xk) ∧ W.cell? ⟨b1, o1 + t * 3 + 2, none⟩ = some (.string xx) ∧ W.cell? ⟨b2, o2 + t * 3, none⟩ = some (.int .i64 yt) ∧ W.cell? ⟨b2, o2 + t * 3 + 1, none⟩ = some (.int .i64 yk) ∧ W.cell? ⟨b2, o2 + t * 3 + 2, none⟩ = some (.string yx)) (go_keep) (first | fail)
    all_goals go_wp2
    all_goals go_roundw
    case rel => exact ⟨t + 1, by omega, by go_num, hideIt HW.out.drew⟩
    case measure => simp [intOf]; omega
  ·have hlt' : ¬ (t : Int) < (mn : Int) := by omega
   have hd : decide ((t : Int) < (mn : Int)) = false := decide_eq_false hlt';have e : sn = t := by omega
   clear HA HK HS hmn hmx
   go_upto_region 2 with fail
   refine wp_region_held_drew (S := fun W => W.cell? ⟨P, 2, none⟩ = some (.slice a la c) ∧ W.cell? ⟨Q, 0, none⟩ = some (.int .i64 bi) ∧ W.cell? ⟨Q, 2, none⟩ = some (.slice a' lb c')) (by rfl) ⟨x2, z0, z2⟩ (fun hHeld => ?_);refine wpAnyH_take (i := 0) (oi := ⟨some 7, _, _, _, _, _⟩) (v := ?_) rfl (by kernel_rfl) (by kernel_rfl) (by kernel_rfl) (fun _ _ _ h => h) (Or.inl ⟨by rfl, ?_⟩) (by assumption) ?_
   rotate_left
   ·intro w5 hSw
    (try dsimp only at hSw)
    go_simp
    (try with_reducible rfl)
   try simp only [aP, aQ, aA, aB, aC]
   refine wpAnyH_take (i := 1) (oi := ⟨some 8, _, _, _, _, _⟩) (v := ?_) rfl (by kernel_rfl) (by kernel_rfl) (by kernel_rfl) (fun _ _ _ h => h) (Or.inl ⟨by rfl, ?_⟩) (by assumption) ?_
   rotate_left
   ·intro w5 hSw
    (try dsimp only at hSw)
    go_simp
    (try with_reducible rfl)
   try simp only [aP, aQ, aA, aB, aC]
   refine wpAnyH_take (i := 2) (oi := ⟨some 9, _, _, _, _, _⟩) (v := ?_) rfl (by kernel_rfl) (by kernel_rfl) (by kernel_rfl) (fun _ _ _ h => h) (Or.inl ⟨by rfl, ?_⟩) (by assumption) ?_
   rotate_left
   ·intro w5 hSw
    (try dsimp only at hSw)
    go_simp
    (try with_reducible rfl)
   try simp only [aP, aQ, aA, aB, aC]
   refine wpAnyH_take (i := 3) (oi := ⟨some 10, _, _, _, _, _⟩) (v := ?_) rfl (by kernel_rfl) (by kernel_rfl) (by kernel_rfl) (fun _ _ _ h => h) (Or.inl ⟨by rfl, ?_⟩) (by assumption) ?_
   rotate_left
   ·intro w5 hSw
    (try dsimp only at hSw)
    go_simp
    (try with_reducible rfl)
   try simp only [aP, aQ, aA, aB, aC]
   refine wpAnyH_take (i := 4) (oi := ⟨some 11, _, _, _, _, _⟩) (v := ?_) rfl (by kernel_rfl) (by kernel_rfl) (by kernel_rfl) (fun _ _ _ h => h) (Or.inl ⟨by rfl, ?_⟩) (by assumption) ?_
   rotate_left
   ·intro w5 hSw
    (try dsimp only at hSw)
    go_simp
    (try with_reducible rfl)
   try simp only [aP, aQ, aA, aB, aC]
   refine wpAnyH_take (i := 5) (oi := ⟨some 12, _, _, _, _, _⟩) (v := ?_) rfl (by kernel_rfl) (by kernel_rfl) (by kernel_rfl) (fun _ _ _ h => h) (Or.inl ⟨by rfl, ?_⟩) (by assumption) ?_
   rotate_left
   ·intro w5 hSw
    (try dsimp only at hSw)
    go_simp
    (try with_reducible rfl)
   try simp only [aP, aQ, aA, aB, aC]
   refine wpAnyH_take (i := 6) (oi := ⟨some 13, _, _, _, _, _⟩) (v := ?_) rfl (by kernel_rfl) (by kernel_rfl) (by kernel_rfl) (fun _ _ _ h => h) (Or.inl ⟨by rfl, ?_⟩) (by assumption) ?_
   rotate_left
   ·intro w5 hSw
    (try dsimp only at hSw)
    go_simp
    (try with_reducible rfl)
   try simp only [aP, aQ, aA, aB, aC]
   refine wpAnyH_take (i := 7) (oi := ⟨some 14, _, _, _, _, _⟩) (v := ?_) rfl (by kernel_rfl) (by kernel_rfl) (by kernel_rfl) (fun _ _ _ h => h) (Or.inl ⟨by rfl, ?_⟩) (by assumption) ?_
   rotate_left
   ·intro w5 hSw
    (try dsimp only at hSw)
    go_simp
    (try with_reducible rfl)
   try simp only [aP, aQ, aA, aB, aC]
   refine wpAnyH_take (i := 8) (oi := ⟨some 15, _, _, _, _, _⟩) (v := ?_) rfl (by kernel_rfl) (by kernel_rfl) (by kernel_rfl) (fun _ _ _ h => h) (Or.inl ⟨by rfl, ?_⟩) (by assumption) ?_
   rotate_left
   ·intro w5 hSw
    (try dsimp only at hSw)
    go_simp
    (try with_reducible rfl)
   try simp only [aP, aQ, aA, aB, aC]
   refine wpAnyH_take (i := 9) (oi := ⟨some 16, _, _, _, _, _⟩) (v := ?_) rfl (by kernel_rfl) (by kernel_rfl) (by kernel_rfl) (fun _ _ _ h => h) (Or.inl ⟨by rfl, ?_⟩) (by assumption) ?_
   rotate_left
   ·intro w5 hSw
    (try dsimp only at hSw)
    go_simp
    (try with_reducible rfl)
   try simp only [aP, aQ, aA, aB, aC]
   refine wpAnyH_take (i := 10) (oi := ⟨some 17, _, _, _, _, _⟩) (v := undef) rfl (by kernel_rfl) (by kernel_rfl) (by kernel_rfl) (fun _ _ _ h => h) (Or.inr ⟨by rfl, rfl⟩) (by assumption) ?_
   try simp only [aP, aQ, aA, aB, aC]
   refine wpAnyH_take (i := 11) (oi := ⟨some 18, _, _, _, _, _⟩) (v := undef) rfl (by kernel_rfl) (by kernel_rfl) (by kernel_rfl) (fun _ _ _ h => h) (Or.inr ⟨by rfl, rfl⟩) (by assumption) ?_
   try simp only [aP, aQ, aA, aB, aC]
   refine wpAnyH_take (i := 12) (oi := ⟨some 19, _, _, _, _, _⟩) (v := undef) rfl (by kernel_rfl) (by kernel_rfl) (by kernel_rfl) (fun _ _ _ h => h) (Or.inr ⟨by rfl, rfl⟩) (by assumption) ?_
   try simp only [aP, aQ, aA, aB, aC]
   refine wpAnyH_take (i := 13) (oi := ⟨some 20, _, _, _, _, _⟩) (v := undef) rfl (by kernel_rfl) (by kernel_rfl) (by kernel_rfl) (fun _ _ _ h => h) (Or.inr ⟨by rfl, rfl⟩) (by assumption) ?_
   try simp only [aP, aQ, aA, aB, aC]
   refine wpAnyH_take (i := 14) (oi := ⟨some 21, _, _, _, _, _⟩) (v := undef) rfl (by kernel_rfl) (by kernel_rfl) (by kernel_rfl) (fun _ _ _ h => h) (Or.inr ⟨by rfl, rfl⟩) (by assumption) ?_
   try simp only [aP, aQ, aA, aB, aC]
   refine wpAnyH_take (i := 15) (oi := ⟨some 22, _, _, _, _, _⟩) (v := undef) rfl (by kernel_rfl) (by kernel_rfl) (by kernel_rfl) (fun _ _ _ h => h) (Or.inr ⟨by rfl, rfl⟩) (by assumption) ?_
   try simp only [aP, aQ, aA, aB, aC]
   refine wpAnyH_take (i := 16) (oi := ⟨some 23, _, _, _, _, _⟩) (v := undef) rfl (by kernel_rfl) (by kernel_rfl) (by kernel_rfl) (fun _ _ _ h => h) (Or.inr ⟨by rfl, rfl⟩) (by assumption) ?_
   try simp only [aP, aQ, aA, aB, aC]
   refine wpAnyH_take (i := 17) (oi := ⟨some 24, _, _, _, _, _⟩) (v := undef) rfl (by kernel_rfl) (by kernel_rfl) (by kernel_rfl) (fun _ _ _ h => h) (Or.inr ⟨by rfl, rfl⟩) (by assumption) ?_
   try simp only [aP, aQ, aA, aB, aC]
   refine wpAnyH_take (i := 18) (oi := ⟨some 25, _, _, _, _, _⟩) (v := undef) rfl (by kernel_rfl) (by kernel_rfl) (by kernel_rfl) (fun _ _ _ h => h) (Or.inr ⟨by rfl, rfl⟩) (by assumption) ?_
   try simp only [aP, aQ, aA, aB, aC]
   refine wpAnyH_take (i := 19) (oi := ⟨some 26, _, _, _, _, _⟩) (v := undef) rfl (by kernel_rfl) (by kernel_rfl) (by kernel_rfl) (fun _ _ _ h => h) (Or.inr ⟨by rfl, rfl⟩) (by assumption) ?_
   try simp only [aP, aQ, aA, aB, aC]
   refine wpAnyH_take (i := 20) (oi := ⟨some 27, _, _, _, _, _⟩) (v := undef) rfl (by kernel_rfl) (by kernel_rfl) (by kernel_rfl) (fun _ _ _ h => h) (Or.inr ⟨by rfl, rfl⟩) (by assumption) ?_
   try simp only [aP, aQ, aA, aB, aC]
   refine wpAnyH_take (i := 21) (oi := ⟨some 28, _, _, _, _, _⟩) (v := ?_) rfl (by kernel_rfl) (by kernel_rfl) (by kernel_rfl) (fun _ _ _ h => h) (Or.inl ⟨by rfl, ?_⟩) (by assumption) ?_
   rotate_left
   ·intro w5 hSw
    (try dsimp only at hSw)
    go_simp
    (try with_reducible rfl)
   try simp only [aP, aQ, aA, aB, aC]
   refine wpAnyH_done (by kernel_rfl) ?_ _;clear hHeld;have HW' := hideIt (below_via HB.out HW.out)
   go_upto_region 4 with fail
   go_region_held3 (fun W => W.cell? ⟨P, 2, none⟩ = some (.slice a la c) ∧ W.cell? ⟨Q, 0, none⟩ = some (.int .i64 bi) ∧ W.cell? ⟨Q, 2, none⟩ = some (.slice a' lb c')) (go_keep) (first | fail)
   all_goals go_wp2
   all_goals go_ret2
   all_goals exact ⟨by first | rfl | (rw [e]; rfl), below_via HW'.out (Below.refl _ _).drew.drew⟩
end Go.Proofs.YtcaehfkfohianaaGreat
