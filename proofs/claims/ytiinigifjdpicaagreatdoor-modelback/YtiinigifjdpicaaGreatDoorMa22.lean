/- Texts of my own, laid together. -/
import Derived.Test.YtiinigifjdpicaaGreatDoorMa21
namespace Go.Proofs.YtiinigifjdpicaaGreatDoor
open Go.RowKit
set_option linter.all false
theorem AccsOwn.putN {B g c i : Nat} {w : World} {l : List AccX} (h : AccsOwn B w (.slice (some ⟨g, 0, none⟩) l.length c) l) (hi : i < l.length) (n : Int) :
  AccsOwn B (w.setCell ⟨g, i * 2 + 1, none⟩ (.int .i64 n)) (.slice (some ⟨g, 0, none⟩) l.length c) (l.set i ⟨⟨(l[i]).v.l, n⟩, (l[i]).fa, (l[i]).fc⟩) ∧ ∃ cs, w.heap[g]? = some (.cells cs 44 (0, 0)) := by
 have hg : ∃ cs, w.heap[g]? = some (.cells cs 44 (0, 0)) := by
  obtain ⟨h1, ⟨hv, _⟩ | ⟨g', cap', cur, hv, hb, hg, _⟩⟩ := h.row
  ·cases hv
  ·simp only [Value.slice.injEq, Option.some.injEq, Addr.mk.injEq] at hv;obtain ⟨⟨rfl, _⟩, _, rfl⟩ := hv
   exact ⟨_, hg⟩
 refine ⟨?_, hg⟩;obtain ⟨cs, hg⟩ := hg;have hl : (celC accE l).length = l.length * 2 := celC_len accK l;have r1 := own_put h.row (i * 2 + 1) (.int .i64 n) (by omega) rfl;have g0 := celC_get accK l i hi 0 (by omega);rw [Nat.add_zero] at g0;have e0 : (celC accE l).set (i * 2) (.slice (l[i]).fa (l[i]).v.l.length (l[i]).fc) = celC accE l := by
  apply List.ext_getElem?
  intro m
  by_cases hm : i * 2 = m
  ·subst hm;rw [List.getElem?_set_self (by omega), g0]
   rfl
  ·rw [List.getElem?_set_ne hm]
 have e1 := celC_set accK l i ⟨⟨(l[i]).v.l, n⟩, (l[i]).fa, (l[i]).fc⟩ hi;have e2 := set_two (L := celC accE l) (i := i) (.slice (l[i]).fa (l[i]).v.l.length (l[i]).fc) (.int .i64 n) (by omega);rw [e0] at e2;rw [e2] at r1;refine ⟨by rw [List.length_set, e1]; exact r1, fun y hy => ?_, by rw [List.length_set]; exact h.siz⟩
 rcases List.mem_or_eq_of_mem_set hy with hy | rfl
 ·exact (h.own y hy).set hg (by decide)
 ·have k := h.own (l[i]) (List.getElem_mem hi);exact (⟨k.f, k.s⟩ : AccOwn B w ⟨⟨(l[i]).v.l, n⟩, (l[i]).fa, (l[i]).fc⟩).set hg (by decide)
theorem MdlOwn.putN {B g c i : Nat} {w : World} {vl : Value} {M : MdlV} (h : MdlOwn B w (.slice (some ⟨g, 0, none⟩) M.a.length c) vl M) (hi : i < M.a.length) (n : Int) :
  MdlOwn B (w.setCell ⟨g, i * 2 + 1, none⟩ (.int .i64 n)) (.slice (some ⟨g, 0, none⟩) M.a.length c) vl ⟨M.a.set i ⟨(M.a.getD i Lg.zA).l, n⟩, M.l⟩ ∧ ∃ cs, w.heap[g]? = some (.cells cs 44 (0, 0)) := by
 obtain ⟨⟨xs, hx, ha⟩, ys, hy, hl⟩ := h;have hxl : M.a.length = xs.length := by rw [← hx, List.length_map]
 rw [hxl] at ha hi ⊢;obtain ⟨k, cs, hg⟩ := ha.putN hi n;refine ⟨⟨⟨_, ?_, k⟩, ys, hy, hl.set hg (by decide) (by decide) (by decide)⟩, cs, hg⟩;rw [List.map_set, hx]
 congr 1
 have : M.a.getD i Lg.zA = (xs[i]).v := by
  rw [← hx, List.getD_eq_getElem?_getD, List.getElem?_map, List.getElem?_eq_getElem hi]
  rfl
 rw [this]
theorem set_back {M : MdlV} {i : Nat} (hi : i < M.a.length) : (⟨(M.a.set i ⟨(M.a.getD i Lg.zA).l, (M.a.getD i Lg.zA).ct + 2⟩).set i ⟨((M.a.set i ⟨(M.a.getD i Lg.zA).l, (M.a.getD i Lg.zA).ct + 2⟩).getD i Lg.zA).l, (M.a.getD i Lg.zA).ct⟩, M.l⟩ : MdlV) = M := by
 have e : M.a.getD i Lg.zA = M.a[i] := by
  rw [List.getD_eq_getElem?_getD, List.getElem?_eq_getElem hi]
  rfl
 have e2 : (M.a.set i ⟨(M.a[i]).l, (M.a[i]).ct + 2⟩).getD i Lg.zA = ⟨(M.a[i]).l, (M.a[i]).ct + 2⟩ := by
  rw [List.getD_eq_getElem?_getD, List.getElem?_set_self hi]
  rfl
 rw [e, e2, List.set_set]
 show (⟨M.a.set i M.a[i], M.l⟩ : MdlV) = M
 rw [List.set_getElem_self]
theorem MdlOwn.ct_at {B g c i : Nat} {w : World} {vl : Value} {M : MdlV} (h : MdlOwn B w (.slice (some ⟨g, 0, none⟩) M.a.length c) vl M) (hi : i < M.a.length) : w.cell? ⟨g, i * 2 + 1, none⟩ = some (.int .i64 (M.a.getD i Lg.zA).ct) := by
 obtain ⟨⟨xs, hx, ha⟩, -⟩ := h;have hxl : M.a.length = xs.length := by rw [← hx, List.length_map]
 rw [hxl] at ha hi;obtain ⟨_, a', c', e, _, hr⟩ := ha.at_.row;simp only [Value.slice.injEq] at e;obtain ⟨rfl, _, rfl⟩ := e;obtain ⟨b, off, e2, _, hc⟩ := hr (by omega);simp only [Option.some.injEq, Addr.mk.injEq] at e2;obtain ⟨rfl, rfl, _⟩ := e2;have q := (hc (i * 2 + 1) (by omega)).trans (celC_get accK xs i hi 1 (by omega));rw [Nat.zero_add] at q;rw [q, ← hx, List.getD_eq_getElem?_getD, List.getElem?_map, List.getElem?_eq_getElem hi]
 rfl
set_option maxRecDepth 100000 in
set_option maxHeartbeats 32000000 in
theorem back_walk (v : Value) (l : List ReqV) (r : ReqV) (w : World) (h : Reqs w v l) (hF : Se.Forms w) : Calls Tryz.prog 4 #[v, .agg (Se.reqC r)] w fun e w' => e = .returned (.bool true) ∧ Below w.heap.size w w' := by
 have hb0 := below1 w (.cells (Se.reqC r) 26);have HX0 := hideIt (heap_alloc_new w (.cells (Se.reqC r) 26));have HP := hideIt (played_is v l _ (h.keep hb0) (hF.keep hb0));have HFO := hideIt (fun W (hW : Below w.heap.size w W) => hF.keep hW);have HB0 := hideIt hb0;have HL := hideIt (fun W (hW : Below w.heap.size w W) => live_is W (hF.keep hW));clear h hF hb0;have hct : CtB 640 (plyM (l.take 40)).a := (plyM_ct (l.take 40)).mono (by rw [List.length_take]; omega)
 generalize plyM (l.take 40) = M at *;have HPL := hideIt (fun h => back_plain (M := M) (r := r) hct h);have HD1 := hideIt (fun va vl W (hm : Mdl W va vl M) (hf : Se.Forms W) => do_is va vl M {r with kind := 1} W hm hf);have HD2 := hideIt (fun va vl W (hm : Mdl W va vl (doM M {r with kind := 1}).1) (hf : Se.Forms W) => do_is va vl (doM M {r with kind := 1}).1 {r with kind := 2} W hm hf);clear hct;generalize doM (doM M {r with kind := 1}).1 {r with kind := 2} = Y at *;generalize doM M {r with kind := 1} = Z at *;obtain ⟨ZM, ZA⟩ := Z;obtain ⟨YM, YA⟩ := Y;simp only at HPL HD2;unfold Se.reqC at HX0 HB0 HD1 HD2 HP HL ⊢;simp only at HD1 HD2
 go_enter Tryz.func4, Tryz.ntmps4
 go_upto_region 1 with fail
 generalize (World.alloc w (.cells #[.int .i64 r.kind, .int .i64 r.acct, .int .i64 r.lane, .int .i64 r.asset, .int .i64 r.side, .int .i64 r.price, .int .i64 r.n, .bool r.now, .int .i64 r.key.1, .int .i64 r.key.2, .int .i64 r.dst] 26)) = W0 at *
 go_wp2_with fail
 refine HP.out.mono ?_;rintro e V1 ⟨a, c, b, d, rfl, ho, hb⟩;dsimp only;have hb1 := below1 V1 (.cells #[.slice a M.a.length c, .slice b M.l.length d] 30);have HM5 : Hid (MB w.heap.size V1.heap.size M a c b d (V1.alloc (.cells #[.slice a M.a.length c, .slice b M.l.length d] 30))) := ⟨heap_alloc_new V1 _, (ho.keep hb1).base HB0.out.size⟩;have HX1 := hideIt (blkK (blkK HX0.out hb) hb1);have HB1 := hideIt (below_via HB0.out (below_via hb hb1));clear HX0 HB0 HP ho hb hb1
 go_upto_region 2 with fail
 generalize (World.alloc V1 _) = W1 at *;obtain ⟨⟨r0, r1, r2, r3, r4, r5, r6, r7, r8, r9, r10⟩, rf, rz⟩ := at11 HX1.out
 go_upto_region 3 with fail
 have hx2 := heap_set HX1.out 0 (.int .i64 1);have HM5' : Hid (MB w.heap.size V1.heap.size M a c b d (W1.setCell ⟨w.heap.size, 0, none⟩ (.int .i64 1))) := ⟨setOther _ HM5.out.box (ty_ne HM5.out.box HX1.out (by decide)), HM5.out.md.set HX1.out (by decide) (by decide) (by decide) (by decide) (by decide)⟩;have HB2 := hideIt (belowSet (j := 0) (.int .i64 1) HB1.out (Nat.le_refl _));have HX2 : Hid ((W1.setCell ⟨w.heap.size, 0, none⟩ (.int .i64 1)).heap[w.heap.size]? = some (.cells #[.int .i64 1, .int .i64 r.acct, .int .i64 r.lane, .int .i64 r.asset, .int .i64 r.side, .int .i64 r.price, .int .i64 r.n, .bool r.now, .int .i64 r.key.1, .int .i64 r.key.2, .int .i64 r.dst] 26 (0, 0))) := hx2;clear hx2 HM5 HX1 HB1 r0 r1 r2 r3 r4 r5 r6 r7 r8 r9 r10 rf rz;generalize (World.setCell W1 _ _) = W2 at *;obtain ⟨⟨p0, p1⟩, pf, pz⟩ := at2 HM5'.out.box;obtain ⟨⟨r0, r1, r2, r3, r4, r5, r6, r7, r8, r9, r10⟩, rf, rz⟩ := at11 HX2.out
 go_wp2_with fail
 refine (HD1.out _ _ _ HM5'.out.md.at_ (HFO.out _ HB2.out)).mono ?_;rintro e V2 ⟨a1, c1, b1, d1, f1, i1, g1, j1, rfl, HDO⟩;dsimp only;have hb2 := below2 V2 (.cells #[.slice a1 ZM.a.length c1, .slice b1 ZM.l.length d1] 30) (.cells #[.int .i64 ZA.code, .int .i64 ZA.num, .slice f1 ZA.am.length i1, .slice g1 ZA.fl.length j1] 36);obtain ⟨t1, t2, t3⟩ := two_heap V2 (.cells #[.slice a1 ZM.a.length c1, .slice b1 ZM.l.length d1] 30) (.cells #[.int .i64 ZA.code, .int .i64 ZA.num, .slice f1 ZA.am.length i1, .slice g1 ZA.fl.length j1] 36);have hbw := below_via HDO.out.2 hb2;have HM5 := hideIt (HM5'.out.keep hbw);have HX3 := hideIt (blkK HX2.out hbw);have HB3 := hideIt (below_via HB2.out hbw);have HM6 : Hid (MB w.heap.size V2.heap.size ZM a1 c1 b1 d1 _) := ⟨t1, (HDO.out.1.m.keep hb2).base HB2.out.size⟩;have HA7 := hideIt t2;clear p0 p1 pf pz r0 r1 r2 r3 r4 r5 r6 r7 r8 r9 r10 rf rz t1 t2 t3 hb2 hbw HM5' HX2 HDO HD1 HB2
 go_upto_region 4 with fail
 generalize (World.alloc (World.alloc _ _) (.cells #[.int .i64 ZA.code, .int .i64 ZA.num, .slice f1 ZA.am.length i1, .slice g1 ZA.fl.length j1] 36)) = W3 at *;obtain ⟨⟨r0, r1, r2, r3, r4, r5, r6, r7, r8, r9, r10⟩, rf, rz⟩ := at11 HX3.out
 go_upto_region 5 with fail
 have hx4 := heap_set HX3.out 0 (.int .i64 2);have G5 : Hid (MB w.heap.size V1.heap.size M a c b d (W3.setCell ⟨w.heap.size, 0, none⟩ (.int .i64 2))) := ⟨setOther _ HM5.out.box (ty_ne HM5.out.box HX3.out (by decide)), HM5.out.md.set HX3.out (by decide) (by decide) (by decide) (by decide) (by decide)⟩;have G6 : Hid (MB w.heap.size V2.heap.size ZM a1 c1 b1 d1 (W3.setCell ⟨w.heap.size, 0, none⟩ (.int .i64 2))) := ⟨setOther _ HM6.out.box (ty_ne HM6.out.box HX3.out (by decide)), HM6.out.md.set HX3.out (by decide) (by decide) (by decide) (by decide) (by decide)⟩;have B7 := hideIt (setOther (j := 0) (.int .i64 2) HA7.out (ty_ne HA7.out HX3.out (by decide)));have HB4 := hideIt (belowSet (j := 0) (.int .i64 2) HB3.out (Nat.le_refl _));have HX4 : Hid ((W3.setCell ⟨w.heap.size, 0, none⟩ (.int .i64 2)).heap[w.heap.size]? = some (.cells #[.int .i64 2, .int .i64 r.acct, .int .i64 r.lane, .int .i64 r.asset, .int .i64 r.side, .int .i64 r.price, .int .i64 r.n, .bool r.now, .int .i64 r.key.1, .int .i64 r.key.2, .int .i64 r.dst] 26 (0, 0))) := hx4;clear hx4 HM5 HM6 HX3 HB3 HA7 r0 r1 r2 r3 r4 r5 r6 r7 r8 r9 r10 rf rz;generalize (World.setCell W3 _ _) = W4 at *;obtain ⟨⟨p0, p1⟩, pf, pz⟩ := at2 G6.out.box;obtain ⟨⟨r0, r1, r2, r3, r4, r5, r6, r7, r8, r9, r10⟩, rf, rz⟩ := at11 HX4.out
 go_wp2_with fail
 refine (HD2.out _ _ _ G6.out.md.at_ (HFO.out _ HB4.out)).mono ?_;rintro e V3 ⟨a2, c2, b2, d2, f2, i2, g2, j2, rfl, HDO⟩;dsimp only;have hb2 := below2 V3 (.cells #[.slice a2 YM.a.length c2, .slice b2 YM.l.length d2] 30) (.cells #[.int .i64 YA.code, .int .i64 YA.num, .slice f2 YA.am.length i2, .slice g2 YA.fl.length j2] 36);obtain ⟨t1, t2, t3⟩ := two_heap V3 (.cells #[.slice a2 YM.a.length c2, .slice b2 YM.l.length d2] 30) (.cells #[.int .i64 YA.code, .int .i64 YA.num, .slice f2 YA.am.length i2, .slice g2 YA.fl.length j2] 36);have hbw := below_via HDO.out.2 hb2;have K5 := hideIt (G5.out.keep hbw);have K8 : Hid (MB w.heap.size V3.heap.size YM a2 c2 b2 d2 _) := ⟨t1, (HDO.out.1.m.keep hb2).base HB4.out.size⟩;have C7 := hideIt (blkK B7.out hbw);have C9 := hideIt t2;have M8 : Hid (MdlOwn W4.heap.size _ (.slice a2 YM.a.length c2) (.slice b2 YM.l.length d2) YM) := HDO.out.1.m.keep hb2;have N5 := hideIt (Mdl.keep G5.out.md.at_ (Below.refl _ _));have D5 := hideIt hbw;have HX5 := hideIt (blkK HX4.out hbw);have HB5 := hideIt (below_via HB4.out hbw);have HBZ := hideIt HB4.out.size;clear p0 p1 pf pz r0 r1 r2 r3 r4 r5 r6 r7 r8 r9 r10 rf rz t1 t2 t3 hb2 hbw G5 G6 B7 HX4 HDO HD2 HB4
 go_upto_region 6 with fail
 generalize (World.alloc (World.alloc _ _) (.cells #[.int .i64 YA.code, .int .i64 YA.num, .slice f2 YA.am.length i2, .slice g2 YA.fl.length j2] 36)) = W5 at *;obtain ⟨⟨k0, k1, k2, k3⟩, kf, kz⟩ := at4 C7.out
 by_cases h0 : ZA.code = 0
 ·obtain ⟨i, hi, hacct, h8, hy0, hyM⟩ := HPL.out h0;subst hyM;rw [h0] at k0;have hiM : i < M.a.length := by omega
  have hMb := hideIt (set_back hiM);generalize hBB : (⟨M.a.set i ⟨(M.a.getD i Lg.zA).l, (M.a.getD i Lg.zA).ct + 2⟩, M.l⟩ : MdlV) = YM at *;have hYl : YM.a.length = M.a.length := by rw [← hBB, List.length_set]
  have hYll : YM.l = M.l := by rw [← hBB]
  obtain ⟨ga, hga⟩ : ∃ g, a = some ⟨g, 0, none⟩ := by
   obtain ⟨⟨xs, hx, ha⟩, -⟩ := K5.out.md;have hxl : M.a.length = xs.length := by rw [← hx, List.length_map]
   rw [hxl] at ha;exact row_addr ha.row (by omega)
  obtain ⟨gb, hgb⟩ : ∃ g, a2 = some ⟨g, 0, none⟩ := by
   obtain ⟨⟨xs, hx, ha⟩, -⟩ := K8.out.md;have hxl : YM.a.length = xs.length := by rw [← hx, List.length_map]
   rw [hxl] at ha;exact row_addr ha.row (by omega)
  subst hga hgb;have q5 := K5.out.md.ct_at hiM;have q8 := K8.out.md.ct_at (i := i) (by omega);generalize hct0 : (M.a.getD i Lg.zA).ct = ct at *;have hd0 := (Below.refl W5.heap.size W5).drew;obtain ⟨hput, cs, hblk⟩ := (M8.out.keep hd0).putN (i := i) (by omega) ct;have hne8 := ty_ne (K8.out.keep hd0).box hblk (by decide);have hne5 := ty_ne (K5.out.keep hd0).box hblk (by decide);have hgB : W4.heap.size ≤ gb := by
   obtain ⟨⟨xs, hx, ha⟩, -⟩ := M8.out;have hxl : YM.a.length = xs.length := by rw [← hx, List.length_map]
   rw [hxl] at ha;exact (row_blk ha.row).2
  have hMeq : (⟨YM.a.set i ⟨(YM.a.getD i Lg.zA).l, ct⟩, YM.l⟩ : MdlV) = M := by
   rw [← hBB];exact hMb.out
  have hsw : W5.drew.setCell ⟨gb, i * 2 + 1, none⟩ (.int .i64 ct) = (W5.setCell ⟨gb, i * 2 + 1, none⟩ (.int .i64 ct)).drew := rfl;have HFIN : Hid (Mdl (W5.setCell ⟨gb, i * 2 + 1, none⟩ (.int .i64 ct)).drew (.slice (some ⟨gb, 0, none⟩) 8 c2) (.slice b2 M.l.length d2) M ∧ Mdl (W5.setCell ⟨gb, i * 2 + 1, none⟩ (.int .i64 ct)).drew (.slice (some ⟨ga, 0, none⟩) 8 c) (.slice b M.l.length d) M ∧ (W5.setCell ⟨gb, i * 2 + 1, none⟩ (.int .i64 ct)).drew.heap[V3.heap.size]? = some (.cells #[.slice (some ⟨gb, 0, none⟩) 8 c2, .slice b2 M.l.length d2] 30 (0, 0)) ∧ (W5.setCell ⟨gb, i * 2 + 1, none⟩ (.int .i64 ct)).drew.heap[V1.heap.size]? = some (.cells #[.slice (some ⟨ga, 0, none⟩) 8 c, .slice b M.l.length d] 30 (0, 0)) ∧ Below w.heap.size w (W5.setCell ⟨gb, i * 2 + 1, none⟩ (.int .i64 ct)).drew) := by
   rw [← hsw];rw [hMeq] at hput;have hn := N5.out.keep (belowSet (j := i * 2 + 1) (.int .i64 ct) (below_via D5.out hd0) hgB);have x8 := setOther (j := i * 2 + 1) (.int .i64 ct) (K8.out.keep hd0).box hne8;have x5 := setOther (j := i * 2 + 1) (.int .i64 ct) (K5.out.keep hd0).box hne5;have hp := hput.at_;rw [hYl, hYll, h8] at hp x8;rw [h8] at hn x5
   exact ⟨hp, hn, x8, x5, belowSet _ (below_via HB5.out hd0) (Nat.le_trans HBZ.out hgB)⟩
  have hcl := free_at hblk (i * 2 + 1);obtain ⟨⟨p0, p1⟩, pf, pz⟩ := at2 K8.out.box;obtain ⟨⟨u0, u1⟩, uf, uz⟩ := at2 K5.out.box;obtain ⟨⟨s0, s1, s2, s3⟩, sf, sz⟩ := at4 C9.out;obtain ⟨⟨r0, r1, r2, r3, r4, r5, r6, r7, r8, r9, r10⟩, rf, rz⟩ := at11 HX5.out;rw [hYl, h8] at p0;rw [h8] at u0;rw [hy0] at s0;rw [hacct] at r1;have hw : IntKind.i64.wrap ((i : Int) + 1 - 1) = (i : Int) := by rw [IntKind.wrap_i64]; omega
  have hi8 : (i : Int) < 8 := by omega
  have hi0 : (0 : Int) ≤ (i : Int) := by omega
  clear hput hblk hne8 hne5 hgB hMeq hd0 M8 N5 D5 K5 K8 C7 C9 HX5 HPL hMb hYl hYll k1 k2 k3 pf uf rf sf
  go_upto_region 10 with fail
  go_region
  clear p0 p1 u0 u1 s0 s1 s2 s3 r0 r1 r2 r3 r4 r5 r6 r7 r8 r9 r10 rz sz uz pz hcl q5 q8 k0 kf kz;clear hsw;generalize (World.drew (World.setCell W5 _ _)) = G at *;obtain ⟨⟨p0, p1⟩, pf, pz⟩ := at2 HFIN.out.2.2.1;obtain ⟨⟨u0, u1⟩, uf, uz⟩ := at2 HFIN.out.2.2.2.1
  go_wp2_with fail
  refine (sameM_is _ _ _ _ M _ HFIN.out.1 HFIN.out.2.1).mono ?_;rintro e W6 ⟨rfl, hb⟩;dsimp only;have HB6 := hideIt (below_via HFIN.out.2.2.2.2 hb);clear p0 p1 pf pz u0 u1 uf uz hb
  go_wp2_with fail
  refine (HL.out _ HB6.out).mono ?_;rintro e w3 ⟨rfl, hb⟩;have HF := hideIt (below_via HB6.out hb);clear hb;go_wp2;go_ret
  exact ⟨rfl, HF.out⟩
 ·have h0b : (ZA.code == 0) = false := beq_eq_false_iff_ne.2 h0;clear K5 K8 C7 C9 HX5 HPL k1 k2 k3
  go_wp2_with fail
  refine (HL.out _ HB5.out).mono ?_;rintro e w3 ⟨rfl, hb⟩;have HF := hideIt (below_via HB5.out hb);clear hb;go_wp2;go_ret
  exact ⟨rfl, HF.out⟩
end Go.Proofs.YtiinigifjdpicaaGreatDoor
