/- The document's trades, walked. -/
import Derived.Test.YtpfdmjphoeljiaaRTk
namespace Go.Proofs.Ytpfdmjphoeljiaa
open Go.RowKit
set_option linter.all false

def TrdBack1 (B P : Nat) (cl : Bool) (nx : Int) (bids : List OrdV) (xi xa xp : Int) (R : List OrdV × Int × List OweV × List FillV × Bool) (bv : Value) (w : World) (e : Ending) (w' : World) : Prop :=
  e = .returned (.tuple #[]) ∧ ∃ tv o f, TD B P ⟨cl, nx, bids, R.1, R.2.2.1⟩ ⟨xi, xa, xp, R.2.1⟩ 1 R.2.2.2.1 R.2.2.2.2 bv (tv) (o) (f) w' ∧ Below B w w' ∧ GO 123 R.2.2.1 ∧ (0 ≤ R.2.1 ∧ R.2.1 ≤ 1000000) ∧ R.1.length ≤ 40 ∧ R.2.2.2.1.length ≤ 41
/-- The loop's state. -/
structure LS1 (w : World) (B P : Nat) (cl : Bool) (nx : Int) (bids : List OrdV) (xi xa xp xl : Int) (RES : List OrdV × Int × List OweV × List FillV × Bool) (bv : Value) (T : List OrdV) (left : Int) (ow : List OweV) (F : List FillV) (ok : Bool) (tv o f : Value) (W : World) : Prop where
  td : TD B P ⟨cl, nx, bids, T, ow⟩ ⟨xi, xa, xp, left⟩ 1 F ok bv (tv) (o) (f) W
  res : RES = if ok = true then trD 1 ⟨xi, xa, xp, xl⟩ T left ow F else (T, left, ow, F, false)
  okt : OkT T
  acc : AccT T
  lef : 0 ≤ left ∧ left ≤ 1000000
  go : GO (3 * F.length) ow
  cnt : F.length + T.length + (if 0 < left then 1 else 0) ≤ 41
  len : T.length ≤ 40
  bel : Below B w W
set_option maxHeartbeats 32000000 in
set_option maxRecDepth 100000 in
theorem rTrades1_is (B P : Nat) (cl : Bool) (nx : Int) (bids T0 : List OrdV) (ow0 : List OweV) (xi xa xp xl : Int) (bv tv0 o0 f0 : Value) (w : World) (h : TD B P ⟨cl, nx, bids, T0, ow0⟩ ⟨xi, xa, xp, xl⟩ 1 [] true bv (tv0) (o0) (f0) w) (hP : B ≤ P) (hB : B ≤ w.heap.size) (hot : OkT T0) (hat : AccT T0) (hlT : T0.length ≤ 40) (hxa : 1 ≤ xa ∧ xa ≤ 8) (hxp : 1 ≤ xp ∧ xp ≤ 1000000) (hxl : 1 ≤ xl ∧ xl ≤ 1000000) (hgo : GO 0 ow0) :
    Calls Try.prog 29 #[.pointer (some ⟨P, 0, none⟩)] w (TrdBack1 B P cl nx bids xi xa xp (trD 1 ⟨xi, xa, xp, xl⟩ T0 xl ow0 []) bv w) := by
  have S0 : Hid (LS1 w B P cl nx bids xi xa xp xl (trD 1 ⟨xi, xa, xp, xl⟩ T0 xl ow0 []) bv T0 xl ow0 [] true tv0 o0 f0 w) := ⟨h, by simp, hot, hat, by omega, hgo, by split <;> simp <;> omega, hlT, Below.refl _ _⟩
  have HBs : Hid (B ≤ w.heap.size ∧ B ≤ P) := ⟨hB, hP⟩
  generalize trD 1 ⟨xi, xa, xp, xl⟩ T0 xl ow0 [] = RES at *
  clear h hot hat hgo hB hP
  go_enter Try.func29, Try.ntmps29
  go_wp2
  go_loopg [2] (T0.length + (if 0 < xl then 1 else 0)) (fun gg _ wr => ∃ (T : List OrdV) (left : Int) (ow : List OweV) (F : List FillV) (ok : Bool) (tv o f : Value), T.length + (if 0 < left then 1 else 0) ≤ gg ∧ Hid (LS1 w B P cl nx bids xi xa xp xl RES bv T left ow F ok tv o f wr))
  case atStart => exact ⟨_, _, _, _, _, _, _, _, Nat.le_refl _, S0⟩
  case round =>
    clear S0
    obtain ⟨T, left, ow, F, ok, tv, o, f, hgg, S⟩ := hrel
    obtain ⟨ta, tc, rfl⟩ := own_len S.out.td.oa
    obtain ⟨oa, oc, rfl⟩ := own_len S.out.td.oo
    obtain ⟨fa, fc, rfl⟩ := own_len S.out.td.fl
    obtain ⟨⟨c0, c1, c2, c3, c4, c5, c6, c7, c8, c9, c10, c11⟩, cf, cz⟩ := S.out.td.cells
    dsimp only at c0 c1 c2 c3 c4 c5 c6 c7 c8 c9 c10 c11 ta tc
    have HEND : Hid (∀ W, Below wr.heap.size wr W → RES = (T, left, ow, F, ok) → TrdBack1 B P cl nx bids xi xa xp RES bv w (.returned (.tuple #[])) W) := fun W hW e => by
      subst e
      have hc := S.out.cnt
      exact ⟨rfl, _, _, _, S.out.td.keep hW, S.out.bel.trans (hW.mono (Nat.le_trans HBs.out.1 S.out.bel.size)), S.out.go.up (by split at hc <;> omega), S.out.lef, S.out.len, by dsimp only; split at hc <;> omega⟩
    cases ok with
    | false =>
      have HR : Hid (RES = (T, left, ow, F, false)) := by show _ = _; have := S.out.res; simpa using this
      have HF := hideIt (HEND.out _ (Below.refl _ _) HR.out)
      clear S HEND HR
      by_cases hl : 0 < left
      · go_wp2
        exact bodyPost_end (results_none rfl _ _ _) rfl HF.out
      · go_wp2
        exact bodyPost_end (results_none rfl _ _ _) rfl HF.out
    | true =>
    have HRT : Hid (RES = trD 1 ⟨xi, xa, xp, xl⟩ T left ow F) := by show _ = _; have := S.out.res; simpa using this
    by_cases hl : 0 < left
    · cases T with
      | nil =>
        have HF := hideIt (HEND.out _ (Below.refl _ _) (by rw [HRT.out]; rfl))
        clear S HEND HRT
        go_wp2
        exact bodyPost_end (results_none rfl _ _ _) rfl HF.out
      | cons r rs =>
        have HPR := hideIt (S.out.okt r (by simp))
        have HPA := hideIt (S.out.acc r (by simp))
        have HROW : Hid (Ords wr (.slice ta (r :: rs).length tc) (r :: rs)) := own_sgot S.out.td.oa (by have := S.out.len; omega)
        have hcap := HROW.out.cap
        obtain ⟨ad, cd, e, -, hr⟩ := HROW.out.ords
        simp only [Value.slice.injEq] at e
        obtain ⟨rfl, -, rfl⟩ := e
        obtain ⟨g, off, rfl, hgl, q0, q1, q2, q3⟩ := hr 0 (by simp)
        clear hr
        simp only [List.getElem_cons_zero, Nat.zero_mul, Nat.add_zero] at q0 q1 q2 q3
        obtain ⟨ri, ra, rp, rl⟩ := r
        dsimp only at q0 q1 q2 q3 HPR HPA
        have htp : (0 : Int) < (((⟨ri, ra, rp, rl⟩ :: rs : List OrdV).length : Nat) : Int) := by simp
        have htN : 0 < (⟨ri, ra, rp, rl⟩ :: rs : List OrdV).length := by simp
        have htz : ((((⟨ri, ra, rp, rl⟩ :: rs : List OrdV).length : Nat) : Int) == 0) = false := by simp; omega
        have hb1 := below1 wr (.cells #[.int .i64 ri, .int .i64 ra, .int .i64 rp, .int .i64 rl] 49)
        have hlt1 := S.out.td.lt (Nat.le_refl wr.heap.size)
        have SL := hideIt (show B ≤ wr.heap.size from Nat.le_trans HBs.out.1 S.out.bel.size)
        have X1 : Hid (BX w B P wr.heap.size ⟨cl, nx, bids, (⟨ri, ra, rp, rl⟩ :: rs), ow⟩ ⟨xi, xa, xp, left⟩ 1 F true bv (.slice (some ⟨g, off, none⟩) (⟨ri, ra, rp, rl⟩ :: rs : List OrdV).length tc) (.slice oa ow.length oc) (.slice fa F.length fc) ⟨ri, ra, rp, rl⟩ (wr.alloc (.cells #[.int .i64 ri, .int .i64 ra, .int .i64 rp, .int .i64 rl] 49))) := ⟨S.out.td.keep hb1, heap_alloc_new wr _, hlt1.2.1, hlt1.2.2.1, hlt1.1, S.out.bel.trans (hb1.mono SL.out), HBs.out.2, SL.out, Nat.le_trans SL.out hb1.size⟩
        have SS : Hid (OkT rs ∧ AccT rs ∧ (0 ≤ left ∧ left ≤ 1000000) ∧ GO (3 * F.length) ow ∧ F.length + (rs.length + 1) + 1 ≤ 41 ∧ rs.length + 1 ≤ 40) := ⟨fun y hy => S.out.okt y (by simp [hy]), fun y hy => S.out.acc y (by simp [hy]), S.out.lef, S.out.go, by have := S.out.cnt; rw [if_pos hl] at this; simpa using this, by simpa using S.out.len⟩
        have HE2 := hideIt (fun W (hW : Below (wr.alloc (.cells #[.int .i64 ri, .int .i64 ra, .int .i64 rp, .int .i64 rl] 49)).heap.size (wr.alloc (.cells #[.int .i64 ri, .int .i64 ra, .int .i64 rp, .int .i64 rl] 49)) W) => HEND.out W (below_via hb1 hW))
        have HTN : Hid ((⟨ri, ra, rp, rl⟩ :: rs : List OrdV).length = rs.length + 1) := by show _ = _; simp
        clear hb1 HROW S HEND hlt1
        generalize hTl : (⟨ri, ra, rp, rl⟩ :: rs : List OrdV).length = tn at *
        have HTL := hideIt hTl
        clear hTl
        go_upto_region 6 with fail
        clear c0 c1 c2 c3 c4 c5 c6 c7 c8 c9 c10 c11 cf cz q0 q1 q2 q3 hgl
        generalize wr.alloc (.cells #[.int .i64 ri, .int .i64 ra, .int .i64 rp, .int .i64 rl] 49) = W1 at *
        generalize wr.heap.size = KX at *
        obtain ⟨⟨c0, c1, c2, c3, c4, c5, c6, c7, c8, c9, c10, c11⟩, cf, cz⟩ := X1.out.td.cells
        obtain ⟨⟨k0, k1, k2, k3⟩, kf, kz⟩ := four5_at X1.out.bx
        dsimp only at c0 c1 c2 c3 c4 c5 c6 c7 c8 c9 c10 c11 k0 k1 k2 k3
        cases hm : meetB 1 xp rp
        · have hmt : xp < rp := by unfold meetB at hm; simpa using hm
          have hmd : decide (xp < rp) = true := decide_eq_true hmt
          have HR : Hid (RES = (⟨ri, ra, rp, rl⟩ :: rs, left, ow, F, true)) := by
            show _ = _
            rw [HRT.out]
            unfold trD
            rw [if_neg (by simp [hm])]
          have HE3 := hideIt (fun W hW => HE2.out W hW HR.out)
          clear HR HRT HE2 hm X1
          go_quiet (fail)
          go_wp2
          exact bodyPost_end (results_none rfl _ _ _) rfl (HE3.out _ (below_drewN (Below.refl _ _) _))
        · have hmt : ¬ xp < rp := by unfold meetB at hm; simpa using hm
          have hmd : decide (xp < rp) = false := decide_eq_false hmt
          clear HE2
          go_quiet (fail)
          have X2 := hideIt (X1.out.keep (below_drewN (Below.refl _ _) nq))
          clear X1 c0 c1 c2 c3 c4 c5 c6 c7 c8 c9 c10 c11 cf cz k0 k1 k2 k3 kf kz
          generalize W1.drewN nq = W2 at *
          obtain ⟨⟨c0, c1, c2, c3, c4, c5, c6, c7, c8, c9, c10, c11⟩, cf, cz⟩ := X2.out.td.cells
          obtain ⟨⟨k0, k1, k2, k3⟩, kf, kz⟩ := four5_at X2.out.bx
          dsimp only at c0 c1 c2 c3 c4 c5 c6 c7 c8 c9 c10 c11 k0 k1 k2 k3
          obtain ⟨n, hn⟩ : ∃ n, n = min left rl := ⟨_, rfl⟩
          have HN := hideIt hn
          clear hn
          go_upto_region 7 with fail
          go_cut [4] from 73 to 80 (fun u wx => u = .int .i64 n ∧ W2.drew = wx)
          case first =>
            go_region
            all_goals go_wp2_with fail
            all_goals go_meet
            all_goals exact ⟨by rw [HN.out]; congr 1; omega, rfl⟩
          case rest =>
          obtain ⟨rfl, rfl⟩ := hcut
          have X3 := hideIt (X2.out.keep (Below.refl _ _).drew)
          clear X2 c0 c1 c2 c3 c4 c5 c6 c7 c8 c9 c10 c11 cf cz k0 k1 k2 k3 kf kz
          generalize W2.drew = W3 at *
          have hnb : 1 ≤ n ∧ n ≤ 1000000 ∧ n ≤ left ∧ n ≤ rl := by
            have h1 := HPR.out
            have h2 := SS.out.2.2.1
            have h3 := HN.out
            omega
          obtain ⟨⟨c0, c1, c2, c3, c4, c5, c6, c7, c8, c9, c10, c11⟩, cf, cz⟩ := X3.out.td.cells
          obtain ⟨⟨k0, k1, k2, k3⟩, kf, kz⟩ := four5_at X3.out.bx
          dsimp only at c0 c1 c2 c3 c4 c5 c6 c7 c8 c9 c10 c11 k0 k1 k2 k3
          go_upto_region 8 with fail
          go_cut [5] from 81 to 91 (fun u wx => u = .pointer (some ⟨W3.heap.size, 0, none⟩) ∧ Hid (Below W3.heap.size W3 wx ∧ wx.heap[W3.heap.size]? = some (.cells #[.int .i64 xa, .int .i64 ra, .int .i64 rp, .int .i64 n] 68 (0, 0))))
          case first =>
            go_region
            all_goals go_wp2_with fail
            all_goals go_meet
            all_goals first | exact ⟨rfl, (below1 _ _).drew, heap_alloc_new _ _⟩ | exact ⟨rfl, below_via (Below.refl _ _).drew (below1 _ _), heap_alloc_new _ _⟩
          case rest =>
          obtain ⟨rfl, HF4⟩ := hcut
          have X4 := hideIt (X3.out.keep HF4.out.1)
          have KF4 := hideIt HF4.out.2
          have NF4 : Hid ((Value.slice fa F.length fc).ownBlock ≠ some W3.heap.size ∧ B ≤ W3.heap.size) := ⟨fun e => by have := (X3.out.td.fl.lt _ e).2; omega, X3.out.sz⟩
          clear X3 HF4 c0 c1 c2 c3 c4 c5 c6 c7 c8 c9 c10 c11 cf cz k0 k1 k2 k3 kf kz
          generalize W3.heap.size = KF at *
          generalize hW4 : wc = W4 at *
          clear hW4
          have hbw : IntKind.i64.wrap (xp - rp) = xp - rp := by rw [IntKind.wrap_i64]; have := HPR.out; omega
          obtain ⟨⟨c0, c1, c2, c3, c4, c5, c6, c7, c8, c9, c10, c11⟩, cf, cz⟩ := X4.out.td.cells
          obtain ⟨⟨k0, k1, k2, k3⟩, kf, kz⟩ := four5_at X4.out.bx
          obtain ⟨⟨f0, f1, f2, f3⟩, ff, fz⟩ := four5_at KF4.out
          dsimp only at c0 c1 c2 c3 c4 c5 c6 c7 c8 c9 c10 c11 k0 k1 k2 k3
          go_upto_region 9 with fail
          go_quiet (fail)
          have X5 := hideIt (X4.out.keep (below_drewN (Below.refl _ _) nq))
          have KF5 := hideIt (blkK KF4.out (below_drewN (Below.refl _ _) nq))
          clear X4 KF4 c0 c1 c2 c3 c4 c5 c6 c7 c8 c9 c10 c11 cf cz k0 k1 k2 k3 kf kz f0 f1 f2 f3 ff fz
          generalize W4.drewN nq = W5 at *
          obtain ⟨⟨c0, c1, c2, c3, c4, c5, c6, c7, c8, c9, c10, c11⟩, cf, cz⟩ := X5.out.td.cells
          obtain ⟨⟨k0, k1, k2, k3⟩, kf, kz⟩ := four5_at X5.out.bx
          obtain ⟨⟨f0, f1, f2, f3⟩, ff, fz⟩ := four5_at KF5.out
          dsimp only at c0 c1 c2 c3 c4 c5 c6 c7 c8 c9 c10 c11 k0 k1 k2 k3
          have X6 := X5
          have KF6 := KF5
          clear X5 KF5
          generalize W5 = W6 at *
          go_upto_region 14 with fail
          have HFO : Hid (FillOk ⟨xa, ra, rp, n⟩) := ⟨hxa, HPA.out, HPR.out.1, by dsimp only; omega⟩
          have HDL : Hid (∀ W, Below W6.heap.size W6 W → Calls Try.prog 60 #[.slice oa ow.length oc, .agg #[.int .i64 xa, .int .i64 ra, .int .i64 rp, .int .i64 n], .int .i64 (xp - rp)] W fun e w' => ∃ va vc, e = .returned (.tuple #[.slice va (dealD ⟨xa, ra, rp, n⟩ (xp - rp) ow).1.length vc, .bool (dealD ⟨xa, ra, rp, n⟩ (xp - rp) ow).2]) ∧ Hid (w'.ownsRow B 66 3 (.slice va (dealD ⟨xa, ra, rp, n⟩ (xp - rp) ow).1.length vc) (dealD ⟨xa, ra, rp, n⟩ (xp - rp) ow).1.length (celC oweE (dealD ⟨xa, ra, rp, n⟩ (xp - rp) ow).1) ∧ BX w B P KX ⟨cl, nx, bids, (⟨ri, ra, rp, rl⟩ :: rs), ow⟩ ⟨xi, xa, xp, left⟩ 1 F true bv (.slice (some ⟨g, off, none⟩) tn tc) (.slice oa ow.length oc) (.slice fa F.length fc) ⟨ri, ra, rp, rl⟩ w' ∧ w'.heap[KF]? = some (.cells #[.int .i64 xa, .int .i64 ra, .int .i64 rp, .int .i64 n] 68 (0, 0))) ∧ w'.cell? ⟨P, 4, none⟩ = some (.slice oa ow.length oc) ∧ w'.cell? ⟨P, 11, none⟩ = some (.bool true) ∧ w'.frozen? ⟨P, 4, none⟩ = false ∧ w'.frozen? ⟨P, 11, none⟩ = false ∧ P < w'.heap.size) := by
            intro W hW
            have hX := X6.out.keep hW
            have hg := SS.out.2.2.2.1
            have hc := SS.out.2.2.2.2.1
            refine (rDeal_is (c := 3 * F.length) (.slice oa ow.length oc) ow ⟨xa, ra, rp, n⟩ (xp - rp) W (own_sgot hX.td.oo (by have := hg.few.1; omega)) hg (by omega) HFO.out (by have := HPR.out; omega)).mono ?_
            rintro e w' ⟨va, vc, rfl, ho, hb⟩
            have hX' := hX.keep hb
            obtain ⟨⟨_, _, _, _, d4, _, _, _, _, _, _, d11⟩, df, dz⟩ := hX'.td.cells
            exact ⟨va, vc, rfl, ⟨own_base ho hX.sz, hX', blkK (blkK KF6.out hW) hb⟩, d4, d11, df 4, df 11, dz⟩
          generalize hDD : dealD ⟨xa, ra, rp, n⟩ (xp - rp) ow = DD at *
          have HDD := hideIt hDD
          clear hDD
          obtain ⟨dl, dk⟩ := DD
          dsimp only at HDL
          go_cut [131] from 114 to 131 (fun _ wx => ∃ va vc, Hid (BX w B P KX ⟨cl, nx, bids, (⟨ri, ra, rp, rl⟩ :: rs), dl⟩ ⟨xi, xa, xp, left⟩ 1 F dk bv (.slice (some ⟨g, off, none⟩) tn tc) (.slice va dl.length vc) (.slice fa F.length fc) ⟨ri, ra, rp, rl⟩ wx ∧ wx.heap[KF]? = some (.cells #[.int .i64 xa, .int .i64 ra, .int .i64 rp, .int .i64 n] 68 (0, 0))))
          case first =>
            clear X6 KF6 HFO SS HPR HPA HRT HN HBs
            go_region_with (first | (go_at_call 60; refine (HDL.out _ (by first | exact Below.refl _ _ | exact (Below.refl _ _).drew)).mono ?_; rintro e w7 ⟨va, vc, rfl, HQ, d4, d11, e4, e11, dz⟩; clear HDL))
            all_goals go_wp2_with fail
            all_goals go_meet
            all_goals first | exact ⟨va, vc, (HQ.out.2.1.setO HQ.out.1).setK dk, setOther _ (setOther _ HQ.out.2.2 (ty_ne HQ.out.2.2 HQ.out.2.1.td.pb (by decide))) (ty_ne HQ.out.2.2 HQ.out.2.1.td.pb (by decide))⟩ | exact ⟨va, vc, (HQ.out.2.1.setK dk).setO (own_cell HQ.out.1 HQ.out.2.1.td.pb (by decide)), setOther _ (setOther _ HQ.out.2.2 (ty_ne HQ.out.2.2 HQ.out.2.1.td.pb (by decide))) (ty_ne HQ.out.2.2 HQ.out.2.1.td.pb (by decide))⟩
          case rest =>
          obtain ⟨va, vc, H7⟩ := hcut
          have X7 := hideIt H7.out.1
          have KF7 := hideIt H7.out.2
          clear H7 X6 KF6 HDL HFO c0 c1 c2 c3 c4 c5 c6 c7 c8 c9 c10 c11 cf cz k0 k1 k2 k3 kf kz f0 f1 f2 f3 ff fz
          generalize hW7 : wc = W7 at *
          clear hW7
          obtain ⟨fa8, fc8, w8, hrun, hX8, hb8, e8, ef8, ez8⟩ := X7.out.app ⟨xa, ra, rp, n⟩ (by have := SS.out.2.2.2.2.1; omega) KF7.out NF4.out.1
          have X8 := hideIt hX8
          have HRUN := hideIt hrun
          unfold filE at HRUN
          dsimp only at HRUN
          clear hrun hX8 hb8
          obtain ⟨⟨c0, c1, c2, c3, c4, c5, c6, c7, c8, c9, c10, c11⟩, cf, cz⟩ := X7.out.td.cells
          obtain ⟨⟨f0, f1, f2, f3⟩, ff, fz⟩ := four5_at KF7.out
          dsimp only at c0 c1 c2 c3 c4 c5 c6 c7 c8 c9 c10 c11
          have nP7 : P ≠ W7.heap.size := by omega
          have nF7 : KF ≠ W7.heap.size := by omega
          go_upto_region 15 with fail
          go_cut [139] from 132 to 141 (fun _ wx => w8.setCell ⟨P, 10, none⟩ (.slice fa8 (F.length + 1) fc8) = wx)
          case first =>
            clear X7 KF7 X8 SS HPR HPA HRT HN HBs HDD NF4
            go_region_law (refine step_app_runK rfl _ _ 29 29 rfl _ _ rfl rfl HRUN.out ?_)
            all_goals go_wp2_with fail
            all_goals go_meet
            all_goals rfl
          case rest =>
          subst hcut
          clear X7 KF7 HRUN e8 ef8 ez8 nP7 nF7 c0 c1 c2 c3 c4 c5 c6 c7 c8 c9 c10 c11 cf cz f0 f1 f2 f3 ff fz
          generalize w8.setCell ⟨P, 10, none⟩ (.slice fa8 (F.length + 1) fc8) = W8 at *
          have X9 := hideIt ((X8.out.left (left - n)).xleft (rl - n))
          obtain ⟨⟨c0, c1, c2, c3, c4, c5, c6, c7, c8, c9, c10, c11⟩, cf, cz⟩ := X8.out.td.cells
          obtain ⟨⟨k0, k1, k2, k3⟩, kf, kz⟩ := four5_at X8.out.bx
          dsimp only at c0 c1 c2 c3 c4 c5 c6 c7 c8 c9 c10 c11 k0 k1 k2 k3 X9
          have hPX : P ≠ KX := X8.out.nP
          have hPX2 := hPX.symm
          have hw1 : IntKind.i64.wrap (left - n) = left - n := by rw [IntKind.wrap_i64]; have := SS.out.2.2.1; omega
          have hw2 : IntKind.i64.wrap (rl - n) = rl - n := by rw [IntKind.wrap_i64]; have := HPR.out; omega
          clear X8
          go_upto_region 18 with fail
          clear c0 c1 c2 c3 c4 c5 c6 c7 c8 c9 c10 c11 cf cz k0 k1 k2 k3 kf kz
          generalize (W8.setCell ⟨P, 8, none⟩ (.int .i64 (left - n))).setCell ⟨KX, 3, none⟩ (.int .i64 (rl - n)) = W9 at *
          obtain ⟨⟨c0, c1, c2, c3, c4, c5, c6, c7, c8, c9, c10, c11⟩, cf, cz⟩ := X9.out.td.cells
          obtain ⟨⟨k0, k1, k2, k3⟩, kf, kz⟩ := four5_at X9.out.bx
          dsimp only at c0 c1 c2 c3 c4 c5 c6 c7 c8 c9 c10 c11 k0 k1 k2 k3
          have htc : (tn : Int) ≤ (tc : Int) := by omega
          have ht1 : (1 : Int) ≤ (tn : Int) := by omega
          have ht1c : (1 : Int) ≤ (tc : Int) := by omega
          obtain ⟨hst1, hst2⟩ := trD_step (s := 1) (x := ⟨xi, xa, xp, xl⟩) (r := ⟨ri, ra, rp, rl⟩) (rs := rs) (F := F) hl hm HN.out ((by simp [setF, setB, setS, btD] : dealD (setF 1 ⟨xi, xa, xp, xl⟩ ⟨ri, ra, rp, rl⟩ n) (btD 1 ⟨xi, xa, xp, xl⟩ ⟨ri, ra, rp, rl⟩) ow = dealD ⟨xa, ra, rp, n⟩ (xp - rp) ow).trans HDD.out)
          have HST1 := hideIt hst1
          have HST2 := hideIt hst2
          clear hst1 hst2
          have HGO : Hid (GO (3 * F.length + 3) dl) := by
            have h1 := SS.out.2.2.2.1.deal (f := ⟨xa, ra, rp, n⟩) (better := (xp - rp)) ⟨hxa, HPA.out, HPR.out.1, by dsimp only; omega⟩ ⟨Int.mul_nonneg (by omega) (by dsimp only; omega), by have := Int.mul_le_mul (show xp - rp ≤ 1000000 by have := HPR.out; omega) (show n ≤ 1000000 by omega) (by omega) (by omega : (0 : Int) ≤ 1000000); dsimp only; omega⟩ ⟨mul_pos1 HPR.out.1.1 hnb.1, by have := Int.mul_le_mul HPR.out.1.2 (show n ≤ 1000000 by omega) (by omega) (by omega : (0 : Int) ≤ 1000000); dsimp only; omega⟩
            rw [HDD.out] at h1
            exact h1
          have hRS : Ords W9 (.slice (if tc = 1 then some ⟨g, off, none⟩ else some ⟨g, off + 4, none⟩) (tn - 1) (tc - 1)) rs := by
            have h1 := X9.out.td.oa
            dsimp only at h1
            have e := HTL.out
            rw [← e]
            rw [← e] at h1
            exact restA (w := w) X9.out.sz h1 SS.out.2.2.2.2.2
          have HRS0 := hideIt hRS
          clear hRS
          by_cases htc1 : tc = 1
          · have HRS : Hid (Ords W9 (.slice (some ⟨g, off, none⟩) (tn - 1) 0) rs) := by
              have := HRS0.out
              rw [if_pos htc1, htc1] at this
              exact this
            have htc2 : tc - 1 = 0 := by omega
            clear HRS0
            by_cases hz : rl - n = 0
            · have hzI : ¬ 0 < rl - n := by omega
              obtain ⟨a', c', w', hrun, ho', hb'⟩ := runA X9.out.sz HRS.out (by have := SS.out.2.2.2.2.2; omega)
              have HRUN := hideIt hrun
              have X10 := hideIt (X9.out.keep hb')
              have HO := hideIt ho'
              clear hrun ho' hb' HRS
              go_upto_region 22 with (at_builtin; refine Lib.wpList_append_run _ rfl _ _ _ _ rfl _ _ rfl rfl _ _ HRUN.out ?_)
              clear HRUN X9 c0 c1 c2 c3 c4 c5 c6 c7 c8 c9 c10 c11 cf cz k0 k1 k2 k3 kf kz
              obtain ⟨⟨c0, c1, c2, c3, c4, c5, c6, c7, c8, c9, c10, c11⟩, cf, cz⟩ := X10.out.td.cells
              dsimp only at c0 c1 c2 c3 c4 c5 c6 c7 c8 c9 c10 c11
              have HLS : Hid (LS1 w B P cl nx bids xi xa xp xl RES bv rs (left - n) dl (F ++ [⟨xa, ra, rp, n⟩]) dk (.slice a' rs.length c') (.slice va dl.length vc) (.slice fa8 (F.length + 1) fc8) (w'.setCell ⟨P, 3, none⟩ (.slice a' rs.length c'))) := by
                refine ⟨X10.out.td.asks HO.out, ?_, SS.out.1, SS.out.2.1, ⟨by omega, by have := SS.out.2.2.1; omega⟩, ?_, ?_, by have := SS.out.2.2.2.2.2; omega, belowSet _ X10.out.bel X10.out.hP⟩
                · rw [HRT.out, HST1.out hz]
                  simp [setF, setB, setS]
                · have e : 3 * (F ++ [(⟨xa, ra, rp, n⟩ : FillV)]).length = 3 * F.length + 3 := by simp; omega
                  rw [e]
                  exact HGO.out
                · have := SS.out.2.2.2.2.1
                  simp
                  split <;> omega
              clear X10 HO HGO HST1 HST2 HRT HDD
              go_wp2
              go_roundg (rs.length + (if 0 < left - n then 1 else 0))
              case measure =>
                rw [if_pos hl] at hgg
                have := HTN.out
                split <;> omega
              case rel => exact ⟨_, _, _, _, _, _, _, _, Nat.le_refl _, HLS⟩
            · have hzI : 0 < rl - n := by omega
              obtain ⟨a1, d1, w1, a', c', w', hrun1, hrun, ho', hb'⟩ := runB (x := ⟨ri, ra, rp, rl - n⟩) X9.out.sz HRS.out SS.out.2.2.2.2.2
              have HRUN := hideIt hrun
              have HRUN1 := hideIt hrun1
              simp only [ordE] at HRUN1
              have X10 := hideIt (X9.out.keep hb')
              have HO := hideIt ho'
              clear hrun hrun1 ho' hb' HRS
              go_upto_region 21 with (at_builtin; refine Lib.wpList_append_run _ rfl _ _ _ _ rfl _ _ rfl rfl _ _ HRUN1.out ?_)
              clear HRUN1
              go_upto_region 22 with (at_builtin; refine Lib.wpList_append_run _ rfl _ _ _ _ rfl _ _ rfl rfl _ _ HRUN.out ?_)
              clear HRUN X9 c0 c1 c2 c3 c4 c5 c6 c7 c8 c9 c10 c11 cf cz k0 k1 k2 k3 kf kz
              obtain ⟨⟨c0, c1, c2, c3, c4, c5, c6, c7, c8, c9, c10, c11⟩, cf, cz⟩ := X10.out.td.cells
              dsimp only at c0 c1 c2 c3 c4 c5 c6 c7 c8 c9 c10 c11
              have h0n : left - n = 0 := by have := HN.out; omega
              have HLS : Hid (LS1 w B P cl nx bids xi xa xp xl RES bv (⟨ri, ra, rp, rl - n⟩ :: rs) (left - n) dl (F ++ [⟨xa, ra, rp, n⟩]) dk (.slice a' (rs.length + 1) c') (.slice va dl.length vc) (.slice fa8 (F.length + 1) fc8) (w'.setCell ⟨P, 3, none⟩ (.slice a' (rs.length + 1) c'))) := by
                refine ⟨X10.out.td.asks HO.out, ?_, ?_, ?_, ⟨by omega, by have := SS.out.2.2.1; omega⟩, ?_, ?_, by have := SS.out.2.2.2.2.2; simp; omega, belowSet _ X10.out.bel X10.out.hP⟩
                · rw [HRT.out, HST2.out hz]
                  simp [setF, setB, setS]
                · intro y hy
                  rcases List.mem_cons.1 hy with rfl | hy
                  · have := HPR.out
                    exact ⟨this.1, by dsimp only; omega⟩
                  · exact SS.out.1 y hy
                · intro y hy
                  rcases List.mem_cons.1 hy with rfl | hy
                  · exact HPA.out
                  · exact SS.out.2.1 y hy
                · have e : 3 * (F ++ [(⟨xa, ra, rp, n⟩ : FillV)]).length = 3 * F.length + 3 := by simp; omega
                  rw [e]
                  exact HGO.out
                · have := SS.out.2.2.2.2.1
                  rw [h0n]
                  simp
                  omega
              have h0I : ¬ 0 < left - n := by omega
              clear X10 HO HGO HST1 HST2 HRT HDD h0n
              go_wp2
              go_roundg (rs.length + 1)
              case measure =>
                rw [if_pos hl] at hgg
                have := HTN.out
                omega
              case rel => exact ⟨_, _, _, _, _, _, _, _, by rw [if_neg (by omega)]; simp, HLS⟩
          · have HRS : Hid (Ords W9 (.slice (some ⟨g, off + 4, none⟩) (tn - 1) (tc - 1)) rs) := by
              have := HRS0.out
              rw [if_neg htc1] at this
              exact this
            clear HRS0
            by_cases hz : rl - n = 0
            · have hzI : ¬ 0 < rl - n := by omega
              obtain ⟨a', c', w', hrun, ho', hb'⟩ := runA X9.out.sz HRS.out (by have := SS.out.2.2.2.2.2; omega)
              have HRUN := hideIt hrun
              have X10 := hideIt (X9.out.keep hb')
              have HO := hideIt ho'
              clear hrun ho' hb' HRS
              go_upto_region 22 with (at_builtin; refine Lib.wpList_append_run _ rfl _ _ _ _ rfl _ _ rfl rfl _ _ HRUN.out ?_)
              clear HRUN X9 c0 c1 c2 c3 c4 c5 c6 c7 c8 c9 c10 c11 cf cz k0 k1 k2 k3 kf kz
              obtain ⟨⟨c0, c1, c2, c3, c4, c5, c6, c7, c8, c9, c10, c11⟩, cf, cz⟩ := X10.out.td.cells
              dsimp only at c0 c1 c2 c3 c4 c5 c6 c7 c8 c9 c10 c11
              have HLS : Hid (LS1 w B P cl nx bids xi xa xp xl RES bv rs (left - n) dl (F ++ [⟨xa, ra, rp, n⟩]) dk (.slice a' rs.length c') (.slice va dl.length vc) (.slice fa8 (F.length + 1) fc8) (w'.setCell ⟨P, 3, none⟩ (.slice a' rs.length c'))) := by
                refine ⟨X10.out.td.asks HO.out, ?_, SS.out.1, SS.out.2.1, ⟨by omega, by have := SS.out.2.2.1; omega⟩, ?_, ?_, by have := SS.out.2.2.2.2.2; omega, belowSet _ X10.out.bel X10.out.hP⟩
                · rw [HRT.out, HST1.out hz]
                  simp [setF, setB, setS]
                · have e : 3 * (F ++ [(⟨xa, ra, rp, n⟩ : FillV)]).length = 3 * F.length + 3 := by simp; omega
                  rw [e]
                  exact HGO.out
                · have := SS.out.2.2.2.2.1
                  simp
                  split <;> omega
              clear X10 HO HGO HST1 HST2 HRT HDD
              go_wp2
              go_roundg (rs.length + (if 0 < left - n then 1 else 0))
              case measure =>
                rw [if_pos hl] at hgg
                have := HTN.out
                split <;> omega
              case rel => exact ⟨_, _, _, _, _, _, _, _, Nat.le_refl _, HLS⟩
            · have hzI : 0 < rl - n := by omega
              obtain ⟨a1, d1, w1, a', c', w', hrun1, hrun, ho', hb'⟩ := runB (x := ⟨ri, ra, rp, rl - n⟩) X9.out.sz HRS.out SS.out.2.2.2.2.2
              have HRUN := hideIt hrun
              have HRUN1 := hideIt hrun1
              simp only [ordE] at HRUN1
              have X10 := hideIt (X9.out.keep hb')
              have HO := hideIt ho'
              clear hrun hrun1 ho' hb' HRS
              go_upto_region 21 with (at_builtin; refine Lib.wpList_append_run _ rfl _ _ _ _ rfl _ _ rfl rfl _ _ HRUN1.out ?_)
              clear HRUN1
              go_upto_region 22 with (at_builtin; refine Lib.wpList_append_run _ rfl _ _ _ _ rfl _ _ rfl rfl _ _ HRUN.out ?_)
              clear HRUN X9 c0 c1 c2 c3 c4 c5 c6 c7 c8 c9 c10 c11 cf cz k0 k1 k2 k3 kf kz
              obtain ⟨⟨c0, c1, c2, c3, c4, c5, c6, c7, c8, c9, c10, c11⟩, cf, cz⟩ := X10.out.td.cells
              dsimp only at c0 c1 c2 c3 c4 c5 c6 c7 c8 c9 c10 c11
              have h0n : left - n = 0 := by have := HN.out; omega
              have HLS : Hid (LS1 w B P cl nx bids xi xa xp xl RES bv (⟨ri, ra, rp, rl - n⟩ :: rs) (left - n) dl (F ++ [⟨xa, ra, rp, n⟩]) dk (.slice a' (rs.length + 1) c') (.slice va dl.length vc) (.slice fa8 (F.length + 1) fc8) (w'.setCell ⟨P, 3, none⟩ (.slice a' (rs.length + 1) c'))) := by
                refine ⟨X10.out.td.asks HO.out, ?_, ?_, ?_, ⟨by omega, by have := SS.out.2.2.1; omega⟩, ?_, ?_, by have := SS.out.2.2.2.2.2; simp; omega, belowSet _ X10.out.bel X10.out.hP⟩
                · rw [HRT.out, HST2.out hz]
                  simp [setF, setB, setS]
                · intro y hy
                  rcases List.mem_cons.1 hy with rfl | hy
                  · have := HPR.out
                    exact ⟨this.1, by dsimp only; omega⟩
                  · exact SS.out.1 y hy
                · intro y hy
                  rcases List.mem_cons.1 hy with rfl | hy
                  · exact HPA.out
                  · exact SS.out.2.1 y hy
                · have e : 3 * (F ++ [(⟨xa, ra, rp, n⟩ : FillV)]).length = 3 * F.length + 3 := by simp; omega
                  rw [e]
                  exact HGO.out
                · have := SS.out.2.2.2.2.1
                  rw [h0n]
                  simp
                  omega
              have h0I : ¬ 0 < left - n := by omega
              clear X10 HO HGO HST1 HST2 HRT HDD h0n
              go_wp2
              go_roundg (rs.length + 1)
              case measure =>
                rw [if_pos hl] at hgg
                have := HTN.out
                omega
              case rel => exact ⟨_, _, _, _, _, _, _, _, by rw [if_neg (by omega)]; simp, HLS⟩
    · have HF := hideIt (HEND.out _ (Below.refl _ _) (by rw [HRT.out]; cases T with | nil => rfl | cons r rs => (unfold trD; rw [if_neg (fun hc => hl hc.1)])))
      clear S HEND HRT
      go_wp2
      exact bodyPost_end (results_none rfl _ _ _) rfl HF.out
end Go.Proofs.Ytpfdmjphoeljiaa
