/- Texts of my own, laid together. -/
import Derived.Test.YtiinigifjdpicaaGreatDoorMz22
namespace Go.Proofs.YtiinigifjdpicaaGreatDoor
open Go.RowKit
set_option linter.all false
set_option maxRecDepth 100000 in
set_option maxHeartbeats 32000000 in
theorem rejects_walk (v : Value) (l : List ReqV) (r : ReqV) (w : World) (h : Reqs w v l) (hF : Se.Forms w) : Calls Tryz.prog 3 #[v, .agg (Se.reqC r)] w fun e w' => e = .returned (.bool true) ∧ Below w.heap.size w w' := by
  have hb0 := below1 w (.cells (Se.reqC r) 26)
  have HX0 := hideIt (heap_alloc_new w (.cells (Se.reqC r) 26))
  have HP := hideIt (played_is v l _ (h.keep hb0) (hF.keep hb0))
  have HFO := hideIt (fun W (hW : Below w.heap.size w W) => hF.keep hW)
  have HB0 := hideIt hb0
  have HL := hideIt (fun W (hW : Below w.heap.size w W) => live_is W (hF.keep hW))
  clear h hF hb0
  generalize plyM (l.take 40) = M at *
  have HD := hideIt (fun va vl W (hm : Mdl W va vl M) (hf : Se.Forms W) => do_is va vl M r W hm hf)
  have HRJ := hideIt (fun h => do_rej (M := M) (r := r) h)
  generalize doM M r = Z at *
  obtain ⟨ZM, ZA⟩ := Z
  simp only at HRJ
  unfold Se.reqC at HX0 HB0 HD HP HL ⊢
  go_enter Tryz.func3, Tryz.ntmps3
  go_upto_region 1 with fail
  generalize (World.alloc w (.cells #[.int .i64 r.kind, .int .i64 r.acct, .int .i64 r.lane, .int .i64 r.asset, .int .i64 r.side, .int .i64 r.price, .int .i64 r.n, .bool r.now, .int .i64 r.key.1, .int .i64 r.key.2, .int .i64 r.dst] 26)) = W0 at *
  go_wp2_with fail
  refine HP.out.mono ?_
  rintro e V1 ⟨a, c, b, d, rfl, ho, hb⟩
  dsimp only
  have hb1 := below1 V1 (.cells #[.slice a M.a.length c, .slice b M.l.length d] 30)
  have HM5 : Hid (MB w.heap.size V1.heap.size M a c b d (V1.alloc (.cells #[.slice a M.a.length c, .slice b M.l.length d] 30))) := ⟨heap_alloc_new V1 _, (ho.keep hb1).base HB0.out.size⟩
  have HX1 := hideIt (blkK (blkK HX0.out hb) hb1)
  have HB1 := hideIt (below_via HB0.out (below_via hb hb1))
  clear HX0 HB0 HP ho hb hb1
  go_upto_region 2 with fail
  generalize (World.alloc V1 _) = W1 at *
  obtain ⟨⟨p0, p1⟩, pf, pz⟩ := at2 HM5.out.box
  obtain ⟨⟨r0, r1, r2, r3, r4, r5, r6, r7, r8, r9, r10⟩, rf, rz⟩ := at11 HX1.out
  go_wp2_with fail
  refine (HD.out _ _ _ HM5.out.md.at_ (HFO.out _ HB1.out)).mono ?_
  rintro e V2 ⟨a1, c1, b1, d1, f1, i1, g1, j1, rfl, HDO⟩
  dsimp only
  have hb2 := below2 V2 (.cells #[.slice a1 ZM.a.length c1, .slice b1 ZM.l.length d1] 30) (.cells (ansC ZA f1 i1 g1 j1) 36)
  obtain ⟨t1, t2, t3⟩ := two_heap V2 (.cells #[.slice a1 ZM.a.length c1, .slice b1 ZM.l.length d1] 30) (.cells (ansC ZA f1 i1 g1 j1) 36)
  have hbw := below_via HDO.out.2 hb2
  have HM5' := hideIt (HM5.out.keep hbw)
  have HX2 := hideIt (blkK HX1.out hbw)
  have HB2 := hideIt (below_via HB1.out hbw)
  have HM6 : Hid (MB w.heap.size V2.heap.size ZM a1 c1 b1 d1 _) := ⟨t1, (HDO.out.1.m.keep hb2).base HB1.out.size⟩
  have HA7 := hideIt t2
  have HAM := hideIt (own_sgot (bytes := 16) (own_keep HDO.out.1.am hb2) HDO.out.1.sa)
  have HFL := hideIt (own_sgot (bytes := 32) (own_keep HDO.out.1.fl hb2) HDO.out.1.sf)
  clear p0 p1 pf pz r0 r1 r2 r3 r4 r5 r6 r7 r8 r9 r10 rf rz t1 t2 t3 hb2 hbw HM5 HX1 HB1 HDO
  have HM5 := HM5'
  clear HM5'
  unfold ansC at *
  go_upto_region 3 with fail
  generalize (World.alloc (World.alloc _ _) (.cells #[.int .i64 ZA.code, .int .i64 ZA.num, .slice f1 ZA.am.length i1, .slice g1 ZA.fl.length j1] 36)) = W2 at *
  obtain ⟨⟨k0, k1, k2, k3⟩, kf, kz⟩ := at4 HA7.out
  by_cases h0 : ZA.code = 0
  · rw [h0] at k0
    clear HM5 HX2 HM6 HA7 HAM HFL HRJ HD k1 k2 k3
    go_wp2_with fail
    refine (HL.out _ HB2.out).mono ?_
    rintro e w3 ⟨rfl, hb⟩
    have HF := hideIt (below_via HB2.out hb)
    clear hb
    go_wp2
    go_ret
    exact ⟨rfl, HF.out⟩
  · obtain ⟨e0, -, -, -⟩ := HRJ.out h0
    subst e0
    clear HRJ
    have h0b : (ZA.code == 0) = false := beq_eq_false_iff_ne.2 h0
    go_upto_region 5 with fail
    obtain ⟨⟨p0, p1⟩, pf, pz⟩ := at2 HM6.out.box
    obtain ⟨⟨r0, r1, r2, r3, r4, r5, r6, r7, r8, r9, r10⟩, rf, rz⟩ := at11 HX2.out
    clear k0 k1 k2 k3 kf kz
    go_wp2_with fail
    refine (HD.out _ _ _ HM6.out.md.at_ (HFO.out _ HB2.out)).mono ?_
    rintro e V3 ⟨a2, c2, b2, d2, f2, i2, g2, j2, rfl, HDO⟩
    dsimp only
    have hb2 := below2 V3 (.cells #[.slice a2 ZM.a.length c2, .slice b2 ZM.l.length d2] 30) (.cells #[.int .i64 ZA.code, .int .i64 ZA.num, .slice f2 ZA.am.length i2, .slice g2 ZA.fl.length j2] 36)
    obtain ⟨t1, t2, t3⟩ := two_heap V3 (.cells #[.slice a2 ZM.a.length c2, .slice b2 ZM.l.length d2] 30) (.cells #[.int .i64 ZA.code, .int .i64 ZA.num, .slice f2 ZA.am.length i2, .slice g2 ZA.fl.length j2] 36)
    have hbw := below_via HDO.out.2 hb2
    have G5 := hideIt (HM5.out.keep hbw)
    have G6 := hideIt (HM6.out.keep hbw)
    have G8 : Hid (MB w.heap.size V3.heap.size ZM a2 c2 b2 d2 _) := ⟨t1, (HDO.out.1.m.keep hb2).base HB2.out.size⟩
    have B7 := hideIt (blkK HA7.out hbw)
    have B9 := hideIt t2
    have AM7 := hideIt (HAM.out.keep hbw)
    have FL7 := hideIt (HFL.out.keep hbw)
    have AM9 := hideIt (own_sgot (bytes := 16) (own_keep HDO.out.1.am hb2) HDO.out.1.sa)
    have FL9 := hideIt (own_sgot (bytes := 32) (own_keep HDO.out.1.fl hb2) HDO.out.1.sf)
    have HB3 := hideIt (below_via HB2.out hbw)
    clear p0 p1 pf pz r0 r1 r2 r3 r4 r5 r6 r7 r8 r9 r10 rf rz t1 t2 t3 hb2 hbw HM5 HX2 HM6 HA7 HAM HFL HD HDO HB2
    go_upto_region 6 with fail
    generalize (World.alloc (World.alloc V3 _) (.cells #[.int .i64 ZA.code, .int .i64 ZA.num, .slice f2 ZA.am.length i2, .slice g2 ZA.fl.length j2] 36)) = W3 at *
    obtain ⟨⟨s0, s1⟩, sf, sz⟩ := at2 G6.out.box
    obtain ⟨⟨u0, u1⟩, uf, uz⟩ := at2 G5.out.box
    go_wp2_with fail
    refine (sameM_is _ _ _ _ ZM _ G6.out.md.at_ G5.out.md.at_).mono ?_
    rintro e W4 ⟨rfl, hb⟩
    dsimp only
    have G5' := hideIt (G5.out.keep hb)
    have G8' := hideIt (G8.out.keep hb)
    have HB4 := hideIt (below_via HB3.out hb)
    have HBA := hideIt hb
    clear s0 s1 sf sz u0 u1 uf uz G6 G5 G8 hb HB3
    obtain ⟨⟨s0, s1⟩, sf, sz⟩ := at2 G8'.out.box
    obtain ⟨⟨u0, u1⟩, uf, uz⟩ := at2 G5'.out.box
    go_wp2_with fail
    refine (sameM_is _ _ _ _ ZM _ G8'.out.md.at_ G5'.out.md.at_).mono ?_
    rintro e W5 ⟨rfl, hb⟩
    dsimp only
    have HBB := hideIt (below_via HBA.out hb)
    have HB5 := hideIt (below_via HB4.out hb)
    clear s0 s1 sf sz u0 u1 uf uz G5' G8' hb HB4 HBA
    obtain ⟨⟨s0, s1, s2, s3⟩, sf, sz⟩ := at4 (blkK B7.out HBB.out)
    obtain ⟨⟨u0, u1, u2, u3⟩, uf, uz⟩ := at4 (blkK B9.out HBB.out)
    go_wp2_with fail
    refine (sameAn_is _ _ _ _ _ _ ZA.am ZA.fl _ (AM7.out.keep HBB.out) (AM9.out.keep HBB.out) (FL7.out.keep HBB.out) (FL9.out.keep HBB.out)).mono ?_
    rintro e W6 ⟨rfl, hb⟩
    dsimp only
    have HB6 := hideIt (below_via HB5.out hb)
    clear s0 s1 s2 s3 sf sz u0 u1 u2 u3 uf uz hb HB5 AM7 AM9 FL7 FL9 B7 B9 HBB
    go_wp2_with fail
    refine (HL.out _ HB6.out).mono ?_
    rintro e w3 ⟨rfl, hb⟩
    have HF := hideIt (below_via HB6.out hb)
    clear hb
    go_wp2
    go_ret
    exact ⟨rfl, HF.out⟩
end Go.Proofs.YtiinigifjdpicaaGreatDoor
