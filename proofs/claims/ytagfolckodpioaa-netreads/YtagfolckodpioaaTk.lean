/- A packet is taken out: walked. -/
import Derived.Test.YtagfolckodpioaaDp
namespace Go.Proofs.Ytagfolckodpioaa.K2
open Go.RowKit Go.Maps Go.Proofs.Ytagfolckodpioaa
set_option linter.all false
def delP (f : Pks) (x : PkV) : Pks := fun y => if eqP y x = true then none else f y
theorem PM.drop {w : World} {mb c : Nat} {f : Pks} (h : PM w mb c f) (x : PkV) (hx : PkOk x) (ty : TypeId) : ∃ w', (Builtin.delete_ #[87, 56] ty #[.map (some mb), pkV x]).run Try.prog w = .ok (.tuple #[]) w' ∧ PM w' mb c (delP f x) ∧ w.grownBy w' (some mb) := by
  obtain ⟨n, D, h1, h2, h3, h4, h5⟩ := h
  obtain ⟨w', hrun, hown, hturn⟩ := h2.drop pk_keyed Try.underlying87 (pk_key x hx) ty
  have hne : ∀ y : PkV, PkOk y → ¬ eqP y x = true → pkK y ≠ pkK x := fun y hy hn e => hn (by rw [pk_inj hy hx e]; exact eqP_self x)
  refine ⟨w', hrun, ⟨n, _, h1, hown, fun y hy q hq z => ?_, fun y hy hq z => ?_, fun kl hkl => ?_⟩, hturn.grown⟩
  · unfold delP at hq
    by_cases e : eqP y x = true
    · rw [if_pos e] at hq
      cases hq
    · rw [if_neg e] at hq
      exact (atKey_del_other (hne y hy e) z).trans (h3 y hy q hq z)
  · unfold delP at hq
    by_cases e : eqP y x = true
    · have e' := eqP_eq e
      subst e'
      exact atKey_del_same z
    · rw [if_neg e] at hq
      exact (atKey_del_other (hne y hy e) z).trans (h4 y hy hq z)
  · by_cases e : kl = pkK x
    · rw [e, has_del_same] at hkl
      cases hkl
    · rw [has_del_other e] at hkl
      exact h5 kl hkl
theorem NA.taken {B n mb : Nat} {room sent taken : Int} {l : List PkV} {row : Value} {c : Nat} {f : Pks} {W : World} (h : NA B n mb room sent taken l row c f W) (s : Int) : NA B n mb room sent s l row c f (W.setCell ⟨n, 4, none⟩ (.int .i64 s)) :=
  ⟨heap_set h.blk 4 _, own_cell h.own h.blk (by decide), h.mp.block (setOther _ rfl (h.mp.nb h.blk))⟩
/-- What is counted when one is taken. -/
def tkP (f : Pks) (p : PkV) : Pks := if pg f p - 1 = 0 then delP (updP f p (pg f p - 1)) p else updP f p (pg f p - 1)
set_option maxHeartbeats 4000000 in
theorem double_no (B n mb : Nat) (room sent taken : Int) (l : List PkV) (row : Value) (c : Nat) (f : Pks) (i : Int) (w : World) (h : NA B n mb room sent taken l row c f w) (hl : l.length ≤ 3000) (hno : ¬ (wiB i 0 ((l.length : Int) - 1) = true ∧ (l.length : Int) < room)) : Calls Try.prog 23 #[.pointer (some ⟨n, 0, none⟩), .int .i64 i] w fun e w' => e = .returned (.int .i64 (if wiB i 0 ((l.length : Int) - 1) = true then 50 else 51)) ∧ Below w.heap.size w w' := by
  obtain ⟨ra, rc, rfl⟩ := own_len h.own
  have HHA := hideIt (has_any n i room sent taken ra l.length rc mb w (by omega) h.blk)
  have HFU := hideIt (full_any n room sent taken ra l.length rc mb w h.blk)
  clear h
  cases hw : wiB i 0 ((l.length : Int) - 1) with
  | false =>
    rw [hw] at HHA
    rw [if_neg (by decide)]
    clear hno HFU hw
    go_enter Try.func23, Try.ntmps23
    go_wp2_with fail
    refine HHA.out.mono ?_
    rintro e w1 ⟨rfl, rfl⟩
    dsimp only
    go_wp2
    go_ret
    exact ⟨rfl, Below.refl _ _⟩
  | true =>
    rw [hw] at HHA
    rw [if_pos rfl]
    have hfd : decide (room ≤ (l.length : Int)) = true := decide_eq_true (by
      by_cases c : (l.length : Int) < room
      · exact absurd ⟨hw, c⟩ hno
      · omega)
    rw [hfd] at HFU
    clear hno hw hfd
    go_enter Try.func23, Try.ntmps23
    go_wp2_with fail
    refine HHA.out.mono ?_
    rintro e w1 ⟨rfl, rfl⟩
    dsimp only
    go_wp2_with fail
    refine HFU.out.mono ?_
    rintro e w2 ⟨rfl, hb⟩
    dsimp only
    have B2 := hideIt hb
    clear hb HFU HHA
    go_wp2
    go_ret
    exact ⟨rfl, B2.out⟩
set_option maxHeartbeats 8000000 in
set_option maxRecDepth 100000 in
theorem take_ok (B n mb : Nat) (room sent taken : Int) (l : List PkV) (row : Value) (c : Nat) (f : Pks) (i : Nat) (w : World) (h : NA B n mb room sent taken l row c f w) (hB : B ≤ w.heap.size) (hn : B ≤ n) (hm : B ≤ mb) (hl : l.length ≤ 3000) (hc : c ≤ 100000) (hf : ∀ x, 0 ≤ pg f x ∧ pg f x ≤ 1000000) (hs : 0 ≤ taken ∧ taken ≤ 1000000000) (p : PkV) (hi : l[i]? = some p) (hp : PkOk p) : Calls Try.prog 21 #[.pointer (some ⟨n, 0, none⟩), .int .i64 i] w fun e w' => e = .returned (.tuple #[pkV p, .int .i64 0]) ∧ (∃ row', NA B n mb room sent (taken + 1) (l.take i ++ l.drop (i + 1)) row' (c + 1) (tkP f p) w') ∧ Below B w w' := by
  obtain ⟨hil, hie⟩ := List.getElem?_eq_some_iff.1 hi
  have HPE := hideIt hie
  clear hie hi
  have HNE : Hid (∀ k, row.ownBlock = some k → k < w.heap.size) := fun k e => (h.own.lt _ e).2
  have hnK : n < w.heap.size := (Array.getElem?_eq_some_iff.1 h.blk).1
  have hmK : mb < w.heap.size := h.mp.lt
  have hb0 := below1 w (.cells #[.int .i64 0, .int .i64 0, .string ⟨#[]⟩] 56)
  have N0 := hideIt (h.keep hb0)
  have R0 := hideIt (heap_alloc_new w (.cells #[.int .i64 0, .int .i64 0, .string ⟨#[]⟩] 56))
  have B0 := hideIt hb0
  have hfp := hf p
  clear h hb0
  obtain ⟨ra, rc, rfl⟩ := own_len N0.out.own
  have hwi : wiB (i : Int) 0 ((l.length : Int) - 1) = true := by unfold wiB; simp; omega
  go_enter Try.func21, Try.ntmps21
  go_upto_region 1 with fail
  generalize w.alloc (.cells #[.int .i64 0, .int .i64 0, .string ⟨#[]⟩] 56) = W0 at *
  have HHA := hideIt (has_any n i room sent taken ra l.length rc mb W0 (by omega) N0.out.blk)
  rw [hwi] at HHA
  go_wp2_with fail
  refine HHA.out.mono ?_
  rintro e w1 ⟨rfl, rfl⟩
  dsimp only
  clear HHA hwi
  obtain ⟨⟨c0, c1, c2, c3, c4⟩, cf, cz⟩ := five5_at N0.out.blk
  have hG : SGot 3 32 pkE w1 (.slice ra l.length rc) l := own_sgot N0.out.own (by omega)
  obtain ⟨h8, a', c', e, hcap, hr⟩ := hG
  simp only [Value.slice.injEq, true_and] at e
  obtain ⟨rfl, rfl⟩ := e
  obtain ⟨g, off, hra, hgl, hcc⟩ := hr (by omega)
  have q0 : w1.cell? ⟨g, off + i * 3, none⟩ = some (.int .i64 p.frm) := by
    rw [hcc (i * 3) (by omega), ← HPE.out]
    exact celC_get pkE_len l i hil 0 (by omega)
  have q1 : w1.cell? ⟨g, off + i * 3 + 1, none⟩ = some (.int .i64 p.dst) := by
    rw [show off + i * 3 + 1 = off + (i * 3 + 1) by omega, hcc (i * 3 + 1) (by omega), ← HPE.out]
    exact celC_get pkE_len l i hil 1 (by omega)
  have q2 : w1.cell? ⟨g, off + i * 3 + 2, none⟩ = some (.string p.text) := by
    rw [show off + i * 3 + 2 = off + (i * 3 + 2) by omega, hcc (i * 3 + 2) (by omega), ← HPE.out]
    exact celC_get pkE_len l i hil 2 (by omega)
  clear hcc hr
  have hiI : (i : Int) < (l.length : Int) := by omega
  have hi0 : (0 : Int) ≤ (i : Int) := by omega
  subst hra
  have hb2 := below1 w1 (.cells #[.int .i64 p.frm, .int .i64 p.dst, .string p.text] 56)
  have N2 := hideIt (N0.out.keep hb2)
  have R2 := hideIt (blkK R0.out hb2)
  have K2 := hideIt (heap_alloc_new w1 (.cells #[.int .i64 p.frm, .int .i64 p.dst, .string p.text] 56))
  have B2 := hideIt (below_via B0.out hb2)
  have hk2 : w.heap.size < w1.heap.size := (Array.getElem?_eq_some_iff.1 R0.out).1
  clear hb2 N0 R0 B0
  go_upto_region 4 with fail
  clear c0 c1 c2 c3 c4 cf cz q0 q1 q2 hgl
  generalize w1.alloc (.cells #[.int .i64 p.frm, .int .i64 p.dst, .string p.text] 56) = W2 at *
  generalize w1.heap.size = K at *
  have hwi1 : IntKind.i64.wrap ((i : Int) + 1) = ((i + 1 : Nat) : Int) := by rw [IntKind.wrap_i64]; omega
  obtain ⟨⟨c0, c1, c2, c3, c4⟩, cf, cz⟩ := five5_at N2.out.blk
  have HDL := hideIt (deleteP_is B i (i + 1) rfl (.slice (some ⟨g, off, none⟩) l.length rc) l W2 N2.out.own hil)
  go_wp2_with fail
  refine HDL.out.mono ?_
  rintro e w3 ⟨v', rfl, ho, hgr, hob⟩
  dsimp only
  obtain ⟨va, vc, rfl⟩ := own_len ho
  have hk3 := box_type hgr N2.out.own N2.out.blk (by decide)
  have N4 := hideIt (N2.out.row hgr ho)
  have hK3 : w3.heap[K]? = some (.cells #[.int .i64 p.frm, .int .i64 p.dst, .string p.text] 56 (0, 0)) := (hgr.block K (Array.getElem?_eq_some_iff.1 K2.out).1 (fun e => by have := HNE.out K e.symm; omega)).trans K2.out
  have hR3 : w3.heap[w.heap.size]? = some (.cells #[.int .i64 0, .int .i64 0, .string ⟨#[]⟩] 56 (0, 0)) := (hgr.block w.heap.size (Array.getElem?_eq_some_iff.1 R2.out).1 (fun e => by have := HNE.out _ e.symm; omega)).trans R2.out
  have B4 : Hid (Below B w (w3.setCell ⟨n, 1, none⟩ (.slice va (l.take i ++ l.drop (i + 1)).length vc))) := by
    refine belowSet _ ((B2.out.mono hB).trans ?_) hn
    exact (Out.ofGrown (F := fun k => B ≤ k) hgr (fun k e => (N2.out.own.lt k e).1)).below (Nat.le_trans hB B2.out.size) (fun k e => e)
  have K4 : Hid ((w3.setCell ⟨n, 1, none⟩ (.slice va (l.take i ++ l.drop (i + 1)).length vc)).heap[K]? = some (.cells #[.int .i64 p.frm, .int .i64 p.dst, .string p.text] 56 (0, 0))) := setOther _ hK3 (by omega)
  have R4 : Hid ((w3.setCell ⟨n, 1, none⟩ (.slice va (l.take i ++ l.drop (i + 1)).length vc)).heap[w.heap.size]? = some (.cells #[.int .i64 0, .int .i64 0, .string ⟨#[]⟩] 56 (0, 0))) := setOther _ hR3 (by omega)
  clear c0 c1 c2 c3 c4 cf cz hwi1
  obtain ⟨⟨c0, c1, c2, c3, c4⟩, cf, cz⟩ := five5_at hk3
  have HNR : Hid ((Value.slice va (l.take i ++ l.drop (i + 1)).length vc).ownBlock ≠ some w.heap.size) := fun e => by
    rw [hob] at e
    have := HNE.out _ e
    omega
  clear ho hgr hob N2 K2 R2 B2 HDL hk3 hK3 hR3 HNE
  generalize hl2 : (l.take i ++ l.drop (i + 1)) = l2 at *
  have HL2 := hideIt hl2
  clear hl2
  go_upto_region 5 with fail
  clear c0 c1 c2 c3 c4 cf cz
  generalize w3.setCell ⟨n, 1, none⟩ (.slice va l2.length vc) = W4 at *
  have hPM : PM W4.drew mb c f := N4.out.mp.block rfl
  have hl0 := hPM.look p hp
  obtain ⟨v0, st, w6, w7, hme, hl1, hes, hM, hg7, hg6⟩ := hPM.entry (by omega) p hp (pg f p - 1)
  have N4d : NA B n mb room sent taken l2 (.slice va l2.length vc) c f W4.drew := N4.out.keep (Below.refl _ _).drew
  have N7 := hideIt (N4d.map hg7 hM)
  have hz4 : B ≤ W4.heap.size := by have := B4.out.size; omega
  have B7 : Hid (Below B w w7) := by
    refine B4.out.trans (((Below.refl B W4).drew).trans ?_)
    exact (Out.ofGrown (F := fun k => B ≤ k) hg7 (fun k e => by simp only [Option.some.injEq] at e; omega)).below hz4 (fun k e => e)
  have hmbK : K ≠ mb := fun e => hPM.nb (show W4.drew.heap[K]? = _ from K4.out) e.symm
  have hmbR : w.heap.size ≠ mb := by omega
  have K7 : Hid (w7.heap[K]? = some (.cells #[.int .i64 p.frm, .int .i64 p.dst, .string p.text] 56 (0, 0))) := (hg7.block K (Array.getElem?_eq_some_iff.1 K4.out).1 (fun e => hmbK (by simpa using e))).trans K4.out
  have R7 : Hid (w7.heap[w.heap.size]? = some (.cells #[.int .i64 0, .int .i64 0, .string ⟨#[]⟩] 56 (0, 0))) := (hg7.block w.heap.size (Array.getElem?_eq_some_iff.1 R4.out).1 (fun e => hmbR (by simpa using e))).trans R4.out
  have h6n := (hg6.block n (Array.getElem?_eq_some_iff.1 N4d.blk).1 (fun e => hPM.nb N4d.blk (by simpa using e.symm))).trans N4d.blk
  have h6K := (hg6.block K (Array.getElem?_eq_some_iff.1 K4.out).1 (fun e => hmbK (by simpa using e))).trans K4.out
  obtain ⟨⟨s0, s1, s2, s3, s4⟩, sf, sz⟩ := five5_at h6n
  obtain ⟨t0, t1, t2, tf, tz⟩ := three_at h6K
  obtain ⟨⟨c0, c1, c2, c3, c4⟩, cf, cz⟩ := five5_at N4.out.blk
  obtain ⟨b0, b1, b2, bf, bz⟩ := three_at K4.out
  have hw2 : IntKind.i64.wrap (pg f p - 1) = pg f p - 1 := by rw [IntKind.wrap_i64]; omega
  have hpg : (f p).getD 0 = pg f p := rfl
  rw [hpg] at hl0
  change _ = Result.ok (Value.tuple #[v0, Value.int .i64 st]) w6 at hme
  change (Instr.entryStore 87 (.map (some mb)) (Value.int .i64 st) (.int .i64 (pg f p - 1))).run Try.prog w6 = .ok () w7 at hes
  unfold pkV at hme hl0 hl1
  clear hM hg7 hg6 N4 N4d hPM h6n h6K K4 R4 B4 hpg
  go_cut [38] from 30 to 38 (fun _ wx => w7 = wx)
  case first =>
    clear N7 B7 K7 R7
    go_region
    all_goals go_wp2_with fail
    all_goals go_meet
    all_goals rfl
  case rest =>
  subst hcut
  clear hme hl0 hl1 hes s0 s1 s2 s3 s4 sf sz t0 t1 t2 tf tz c0 c1 c2 c3 c4 cf cz b0 b1 b2 bf bz hw2
  have hl7 := (show PM w7.drew mb (c + 1) (updP f p (pg f p - 1)) from N7.out.mp.block rfl).look p hp
  have hu7 : (updP f p (pg f p - 1) p).getD 0 = pg f p - 1 := by unfold updP; rw [if_pos (eqP_self p)]; rfl
  rw [hu7] at hl7
  unfold pkV at hl7
  have HTK : Hid (tkP f p = if pg f p - 1 = 0 then delP (updP f p (pg f p - 1)) p else updP f p (pg f p - 1)) := rfl
  obtain ⟨⟨c0, c1, c2, c3, c4⟩, cf, cz⟩ := five5_at N7.out.blk
  obtain ⟨b0, b1, b2, bf, bz⟩ := three_at K7.out
  go_upto_region 6 with fail
  go_cut [45] from 39 to 45 (fun u wx => u = .bool (pg f p - 1 == 0) ∧ w7.drew = wx)
  case first =>
    clear N7 B7 K7 R7
    generalize pg f p - 1 = qq at *
    go_region
    all_goals go_wp2_with fail
    all_goals go_meet
    all_goals first | exact ⟨rfl, rfl⟩ | exact ⟨by simp, rfl⟩
  case rest =>
  obtain ⟨rfl, rfl⟩ := hcut
  clear hl7 c0 c1 c2 c3 c4 cf cz b0 b1 b2 bf bz hu7
  have N8 := hideIt (N7.out.keep (Below.refl _ _).drew)
  have K8 := hideIt (blkK K7.out (Below.refl _ _).drew)
  have R8 := hideIt (blkK R7.out (Below.refl _ _).drew)
  have B8 : Hid (Below B w w7.drew) := B7.out.drew
  clear N7 K7 R7 B7
  generalize w7.drew = W8 at *
  by_cases hz : pg f p - 1 = 0
  · have hzq : (pg f p - 1 == 0) = true := by simpa using hz
    have HTK2 := HTK.out
    rw [if_pos hz] at HTK2
    clear HTK
    have HTK := hideIt HTK2
    clear HTK2
    have hPM : PM W8.drew mb (c + 1) (updP f p (pg f p - 1)) := N8.out.mp.block rfl
    obtain ⟨w9, hdel, hM9, hg9⟩ := hPM.drop p hp 0
    have N8d : NA B n mb room sent taken l2 (.slice va l2.length vc) (c + 1) (updP f p (pg f p - 1)) W8.drew := N8.out.keep (Below.refl _ _).drew
    have N9 := hideIt (N8d.map hg9 hM9)
    have hz8 : B ≤ W8.heap.size := by have := B8.out.size; omega
    have B9 : Hid (Below B w w9) := by
      refine B8.out.trans (((Below.refl B W8).drew).trans ?_)
      exact (Out.ofGrown (F := fun k => B ≤ k) hg9 (fun k e => by simp only [Option.some.injEq] at e; omega)).below hz8 (fun k e => e)
    have K9 : Hid (w9.heap[K]? = some (.cells #[.int .i64 p.frm, .int .i64 p.dst, .string p.text] 56 (0, 0))) := (hg9.block K (Array.getElem?_eq_some_iff.1 K8.out).1 (fun e => hmbK (by simpa using e))).trans K8.out
    have R9 : Hid (w9.heap[w.heap.size]? = some (.cells #[.int .i64 0, .int .i64 0, .string ⟨#[]⟩] 56 (0, 0))) := (hg9.block w.heap.size (Array.getElem?_eq_some_iff.1 R8.out).1 (fun e => hmbR (by simpa using e))).trans R8.out
    obtain ⟨⟨c0, c1, c2, c3, c4⟩, cf, cz⟩ := five5_at N8.out.blk
    obtain ⟨b0, b1, b2, bf, bz⟩ := three_at K8.out
    unfold pkV at hdel
    clear hM9 hg9 N8 N8d K8 R8 B8 hPM hz8
    generalize pg f p - 1 = qq at *
    go_upto_region 7 with fail
    go_region
    all_goals
      clear hdel c0 c1 c2 c3 c4 cf cz b0 b1 b2 bf bz
      generalize w9 = W9 at *
      obtain ⟨⟨c0, c1, c2, c3, c4⟩, cf, cz⟩ := five5_at N9.out.blk
      have HAT := hideIt (atomAdd_is n 4 taken W9 c4 (cf 4) hs.1 (by omega))
      go_wp2_with fail
      refine HAT.out.mono ?_
      rintro e w10 ⟨⟨v, rfl⟩, rfl⟩
      dsimp only
      have N10 := hideIt (N9.out.taken (taken + 1))
      have B10 : Hid (Below B w (W9.setCell ⟨n, 4, none⟩ (.int .i64 (taken + 1)))) := belowSet _ B9.out hn
      have K10 : Hid ((W9.setCell ⟨n, 4, none⟩ (.int .i64 (taken + 1))).heap[K]? = some (.cells #[.int .i64 p.frm, .int .i64 p.dst, .string p.text] 56 (0, 0))) := setOther _ K9.out (by omega)
      have R10 : Hid ((W9.setCell ⟨n, 4, none⟩ (.int .i64 (taken + 1))).heap[w.heap.size]? = some (.cells #[.int .i64 0, .int .i64 0, .string ⟨#[]⟩] 56 (0, 0))) := setOther _ R9.out (by omega)
      clear N9 B9 K9 R9 HAT c0 c1 c2 c3 c4 cf cz
      go_upto_region 9 with fail
      generalize W9.setCell ⟨n, 4, none⟩ (.int .i64 (taken + 1)) = W10 at *
      obtain ⟨b0, b1, b2, bf, bz⟩ := three_at K10.out
      obtain ⟨r0, r1, r2, rf, rz⟩ := three_at R10.out
      have hRK : w.heap.size ≠ K := by omega
      have hKR : K ≠ w.heap.size := by omega
      have R11 := hideIt (heap_set (heap_set (heap_set R10.out 0 (.int .i64 p.frm)) 1 (.int .i64 p.dst)) 2 (.string p.text))
      have B11 : Hid (Below B w (((W10.setCell ⟨w.heap.size, 0, none⟩ (.int .i64 p.frm)).setCell ⟨w.heap.size, 1, none⟩ (.int .i64 p.dst)).setCell ⟨w.heap.size, 2, none⟩ (.string p.text))) := belowSet _ (belowSet _ (belowSet _ B10.out hB) hB) hB
      have N11 := hideIt (((N10.out.box (j := 0) (v := .int .i64 p.frm) HNR.out (by omega) (by omega)).box (j := 1) (v := .int .i64 p.dst) HNR.out (by omega) (by omega)).box (j := 2) (v := .string p.text) HNR.out (by omega) (by omega))
      clear N10 B10 K10 R10
      go_wp2
      revert R11 B11 N11
      generalize (World.setCell _ ⟨w.heap.size, 2, none⟩ _) = WF
      intro R11 B11 N11
      exact bodyPost_ret (v := .tuple #[pkV p, .int .i64 0]) (by simp [results, Try.results21, go_sem, cell_at R11.out, pkV]) rfl ⟨rfl, ⟨_, by rw [HL2.out, HTK.out]; exact N11.out⟩, B11.out⟩
  · have hzq : (pg f p - 1 == 0) = false := by simpa using hz
    have HTK2 := HTK.out
    rw [if_neg hz] at HTK2
    clear HTK
    have HTK := hideIt HTK2
    clear HTK2
    generalize pg f p - 1 = qq at *
    have N9 := N8
    have K9 := K8
    have R9 := R8
    have B9 := B8
    clear N8 K8 R8 B8
    generalize W8 = W9 at *
    obtain ⟨⟨c0, c1, c2, c3, c4⟩, cf, cz⟩ := five5_at N9.out.blk
    have HAT := hideIt (atomAdd_is n 4 taken W9 c4 (cf 4) hs.1 (by omega))
    go_wp2_with fail
    refine HAT.out.mono ?_
    rintro e w10 ⟨⟨v, rfl⟩, rfl⟩
    dsimp only
    have N10 := hideIt (N9.out.taken (taken + 1))
    have B10 : Hid (Below B w (W9.setCell ⟨n, 4, none⟩ (.int .i64 (taken + 1)))) := belowSet _ B9.out hn
    have K10 : Hid ((W9.setCell ⟨n, 4, none⟩ (.int .i64 (taken + 1))).heap[K]? = some (.cells #[.int .i64 p.frm, .int .i64 p.dst, .string p.text] 56 (0, 0))) := setOther _ K9.out (by omega)
    have R10 : Hid ((W9.setCell ⟨n, 4, none⟩ (.int .i64 (taken + 1))).heap[w.heap.size]? = some (.cells #[.int .i64 0, .int .i64 0, .string ⟨#[]⟩] 56 (0, 0))) := setOther _ R9.out (by omega)
    clear N9 B9 K9 R9 HAT c0 c1 c2 c3 c4 cf cz
    go_upto_region 9 with fail
    generalize W9.setCell ⟨n, 4, none⟩ (.int .i64 (taken + 1)) = W10 at *
    obtain ⟨b0, b1, b2, bf, bz⟩ := three_at K10.out
    obtain ⟨r0, r1, r2, rf, rz⟩ := three_at R10.out
    have hRK : w.heap.size ≠ K := by omega
    have hKR : K ≠ w.heap.size := by omega
    have R11 := hideIt (heap_set (heap_set (heap_set R10.out 0 (.int .i64 p.frm)) 1 (.int .i64 p.dst)) 2 (.string p.text))
    have B11 : Hid (Below B w (((W10.setCell ⟨w.heap.size, 0, none⟩ (.int .i64 p.frm)).setCell ⟨w.heap.size, 1, none⟩ (.int .i64 p.dst)).setCell ⟨w.heap.size, 2, none⟩ (.string p.text))) := belowSet _ (belowSet _ (belowSet _ B10.out hB) hB) hB
    have N11 := hideIt (((N10.out.box (j := 0) (v := .int .i64 p.frm) HNR.out (by omega) (by omega)).box (j := 1) (v := .int .i64 p.dst) HNR.out (by omega) (by omega)).box (j := 2) (v := .string p.text) HNR.out (by omega) (by omega))
    clear N10 B10 K10 R10
    go_wp2
    revert R11 B11 N11
    generalize (World.setCell _ ⟨w.heap.size, 2, none⟩ _) = WF
    intro R11 B11 N11
    exact bodyPost_ret (v := .tuple #[pkV p, .int .i64 0]) (by simp [results, Try.results21, go_sem, cell_at R11.out, pkV]) rfl ⟨rfl, ⟨_, by rw [HL2.out, HTK.out]; exact N11.out⟩, B11.out⟩
end Go.Proofs.Ytagfolckodpioaa.K2
