/- The document's disk is crashed (D7). -/
import Derived.Test.YtpgimffghaelhaaRefC
import Derived.Test.YtpgimffghaelhaaCrash
namespace Go.Proofs.Ytpgimffghaelhaa
open Go.RowKit Go.Maps

theorem crashSeg_zero (f : Nat → Seg) (keep : List Int) : crashSeg f keep 0 = f := by funext k; simp [crashSeg]
theorem crashSeg_now (f : Nat → Seg) (keep : List Int) (t : Nat) : crashSeg f keep t t = f t := by simp [crashSeg]
theorem crashSeg_step (f : Nat → Seg) (keep : List Int) (t : Nat) : put (crashSeg f keep t) t (crashAt f keep t) = crashSeg f keep (t + 1) := by
  funext k
  unfold put crashSeg
  by_cases e : k = t
  · subst e; simp
  · simp only [e, if_false]
    by_cases h : k < t
    · rw [if_pos h, if_pos (by omega)]
    · rw [if_neg h, if_neg (by omega)]
theorem crashSeg_skip (f : Nat → Seg) (keep : List Int) (t : Nat) (h : waits (f t) = 0) : crashSeg f keep (t + 1) = crashSeg f keep t := by
  rw [← crashSeg_step]
  have e : crashAt f keep t = crashSeg f keep t t := by rw [crashSeg_now]; unfold crashAt; rw [if_pos h]
  rw [e]
  exact put_self _ _
theorem crash_goodS {S : St} (hg : good S) (keep : List Int) : good (crashS S keep) := by
  obtain ⟨g1, g2, g3, g4, g5⟩ := hg
  have hl : ∀ k, (crashSeg S.seg keep 1000 k).bytes.length ≤ (S.seg k).bytes.length ∧ (crashSeg S.seg keep 1000 k).safe ≤ (crashSeg S.seg keep 1000 k).bytes.length := by
    intro k
    unfold crashSeg
    split
    · exact crashAt_len S.seg keep k (g2 k)
    · exact ⟨Nat.le_refl _, g2 k⟩
  exact ⟨g1, fun k => (hl k).2, Nat.le_trans (tot_mono _ S.seg (fun k => (hl k).1) 1000) g3, by simp [crashS], by simp [crashS]⟩
set_option maxHeartbeats 4000000 in
set_option maxRecDepth 100000 in
theorem refCrash_is {w : World} {F : Nat → Prop} {q : Nat} {S : St} {N : Nat} (h : RefAt w F q S N) (hN : N + 1 < 1099511627776) (a0 : Option Addr) (keep : List Int) (ck : Nat) (hK : Keep w F a0 keep) :
    Calls Try.prog 42 #[.pointer (some ⟨q, 0, none⟩), .slice a0 keep.length ck] w fun e w' => e = .returned (.int .i64 (crashN S : Int)) ∧ RefAt w' F q (crashS S keep) (N + 1) ∧ Out F w w' := by
  obtain ⟨bb, sb, cb, cc, hc, hg, ra, rN⟩ := h
  have hgood := crash_goodS hg keep
  obtain ⟨g1, g2, g3, g4, g5⟩ := hg
  have hinq := hc.inq
  have hinb := hc.inb
  have hins := hc.ins
  have HC := hideIt hc
  have HK := hideIt hK
  have HG := hideIt hgood
  clear hc hK hgood
  go_enter Try.func42, Try.ntmps42
  go_wp2
  go_loopw [5, 6] (fun n v wr => ∃ t : Nat, t ≤ 1000 ∧ v = .int .i64 (t : Int) ∧ n = .int .i64 (waiting S.seg t : Int) ∧ Hid (RCore wr F q bb sb cb cc S.room S.fuse S.age (crashSeg S.seg keep t)) ∧ Hid (Out F w wr)) (fun _ v _ => 1000 - (intOf v).toNat)
  case atStart => exact ⟨0, by omega, rfl, by simp [waiting], by rw [crashSeg_zero]; exact HC, Out.refl _ _⟩
  case round =>
    obtain ⟨t, htl, rfl, rfl, HCr, HO⟩ := hrel
    have c1 : wr.cell? ⟨q, 1, none⟩ = some (.slice (some ⟨bb, 0, none⟩) 1000 cb) := by rw [cell_at HCr.out.cells]; rfl
    have c2 : wr.cell? ⟨q, 2, none⟩ = some (.slice (some ⟨sb, 0, none⟩) 1000 cc) := by rw [cell_at HCr.out.cells]; rfl
    have hwl := waiting_le S.seg t
    by_cases hlt : t < 1000
    · have hlt' : (t : Int) < 1000 := by omega
      have hx := HCr.out.text t hlt
      have hs := HCr.out.safe t hlt
      have hfT := HCr.out.freeT t
      unfold bytesV at hx
      rw [crashSeg_now] at hx hs
      have hsx : (⟨(S.seg t).bytes.toArray⟩ : ByteArray).size = (S.seg t).bytes.length := by simp [ByteArray.size]
      have hone := tot_one S.seg t 1000 hlt
      have hsf := g2 t
      have hst := waiting_succ S.seg t
      have hcs := crashSeg_step S.seg keep t
      have hb1 : (⟨(S.seg t).bytes.toArray⟩ : ByteArray).size ≤ 1048576 := by rw [hsx]; omega
      have hb2 : (S.seg t).safe ≤ 1048576 := by omega
      by_cases hw : waits (S.seg t) = 0
      · have hw0 : (((⟨(S.seg t).bytes.toArray⟩ : ByteArray).size : Int) - ((S.seg t).safe : Int) == 0) = true := beq_iff_eq.2 (by unfold waits at hw; rw [hsx]; omega)
        have Hst := hideIt hst
        have Hsk := hideIt (crashSeg_skip S.seg keep t hw)
        have Hw := hideIt hw
        generalize (⟨(S.seg t).bytes.toArray⟩ : ByteArray) = tx at *
        clear hst hcs hw hsx
        go_wp2
        go_quiet (fail)
        go_wp2
        go_roundw
        case rel =>
          refine ⟨t + 1, by omega, by go_num, ?_, ?_, ?_⟩
          · rw [Hst.out, if_pos Hw.out]; rfl
          · rw [Hsk.out]; exact HCr.out.keep (fun _ _ _ => rfl)
          · exact HO.out.trans (Out.ofBelow (F := F) (below_drewN (Below.refl _ _) _)) (fun _ _ h => h)
        case measure => simp [intOf]; omega
      · have hw0 : (((⟨(S.seg t).bytes.toArray⟩ : ByteArray).size : Int) - ((S.seg t).safe : Int) == 0) = false := beq_eq_false_iff_ne.2 (by unfold waits at hw; rw [hsx]; omega)
        have hsu := surv_le keep (waiting S.seg t) (waits (S.seg t))
        have hcat : crashAt S.seg keep t = crashOne (S.seg t) ((S.seg t).safe + surv keep (waiting S.seg t) (waits (S.seg t))) := by unfold crashAt; rw [if_neg hw]
        have hKr := HK.out.out HO.out (fun _ _ h => h)
        obtain ⟨kb, ko, hkk⟩ := hKr
        by_cases hn1 : waiting S.seg t < keep.length
        · obtain ⟨rfl, hkb, _, ck0, ck1, ck2⟩ := hkk (waiting S.seg t) hn1
          have hn1' : (waiting S.seg t : Int) < (keep.length : Int) := by omega
          have hsvd : surv keep (waiting S.seg t) (waits (S.seg t)) = min (keep[waiting S.seg t]).toNat (waits (S.seg t)) := by unfold surv; rw [dif_pos hn1]
          generalize hki : keep[waiting S.seg t] = ki at *
          by_cases hn2 : 0 < ki
          · obtain ⟨m, hmd⟩ : ∃ m, m = (S.seg t).safe + surv keep (waiting S.seg t) (waits (S.seg t)) := ⟨_, rfl⟩
            have hkv : min ki (((⟨(S.seg t).bytes.toArray⟩ : ByteArray).size : Int) - ((S.seg t).safe : Int)) = ((m : Int) - ((S.seg t).safe : Int)) := by
              rw [hsx]
              unfold waits at hsvd hmd
              omega
            have hadd : ((S.seg t).safe : Int) + ((m : Int) - ((S.seg t).safe : Int)) = (m : Int) := by omega
            have hmb : m ≤ (S.seg t).bytes.length := by unfold waits at hsu hmd; omega
            rw [← hmd] at hcat
            clear hsu hsvd hmd
            have HTx := hideIt (ext_takeR (S.seg t).bytes m)
            have Hst := hideIt hst
            have Hcs := hideIt hcs
            have Hcat := hideIt hcat
            have Hw := hideIt hw
            have hmx : ((m : Nat) : Int) ≤ ((⟨(S.seg t).bytes.toArray⟩ : ByteArray).size : Int) := by rw [hsx]; omega
            have hszt : (⟨((S.seg t).bytes.take m).toArray⟩ : ByteArray).size = m := by simp [ByteArray.size]; omega
            have hszt2 : (⟨((S.seg t).bytes.take m).toArray⟩ : ByteArray).size ≤ 1048576 := by rw [hszt]; omega
            generalize htx : (⟨(S.seg t).bytes.toArray⟩ : ByteArray) = tx at *
            have Htx := hideIt htx
            generalize hwq : waiting S.seg t = wq at *
            have Hszt := hideIt hszt
            have Hwq := hideIt hwq
            clear hst hcs hw hsx hcat hkk htx hszt hwq hn1 hki
            go_wp2
            go_quiet (fail)
            go_wp2
            go_upto_region 10 with fail
            generalize hWd : wr.drewN _ = W
            have hWC : RCore W F q bb sb cb cc S.room S.fuse S.age (crashSeg S.seg keep t) := by rw [← hWd]; exact HCr.out.keep (fun _ _ _ => rfl)
            have hWo : Out F w W := by rw [← hWd]; exact HO.out.trans (Out.ofBelow (F := F) (below_drewN (Below.refl _ _) _)) (fun _ _ h => h)
            have d1 : W.cell? ⟨q, 1, none⟩ = some (.slice (some ⟨bb, 0, none⟩) 1000 cb) := by rw [← hWd]; exact c1
            have d2 : W.cell? ⟨q, 2, none⟩ = some (.slice (some ⟨sb, 0, none⟩) 1000 cc) := by rw [← hWd]; exact c2
            have d3 : W.cell? ⟨bb, t, none⟩ = some (.string tx) := by rw [← hWd]; exact hx
            have d4 : W.cell? ⟨sb, t, none⟩ = some (.int .i64 ((S.seg t).safe : Int)) := by rw [← hWd]; exact hs
            have d5 : W.frozen? ⟨bb, t, none⟩ = false := by rw [← hWd]; exact hfT
            have HWC := hideIt hWC
            have HWo := hideIt hWo
            clear hWd hWC hWo c1 c2 hx hs hfT HCr HO
            go_region
            have hX := HWC.out.setText t ((S.seg t).bytes.take m)
            rw [crashSeg_now] at hX
            have hX1 := hX
            rw [← HTx.out] at hX1
            have HX := hideIt (hX1.keep (w' := (W.setCell ⟨bb, t, none⟩ (.string (tx.extract 0 m))).drew) (fun _ _ _ => rfl))
            have HXo := hideIt ((HWo.out.trans (Out.ofSet (F := F) W ⟨bb, t, none⟩ (.string (tx.extract 0 m)) hinb) (fun _ _ h => h)).trans (Out.ofDrew (F := F) _) (fun _ _ h => h))
            generalize (W.setCell ⟨bb, t, none⟩ (.string (tx.extract 0 m))).drew = X at *
            have x1 : X.cell? ⟨q, 1, none⟩ = some (.slice (some ⟨bb, 0, none⟩) 1000 cb) := by rw [cell_at HX.out.cells]; rfl
            have x2 : X.cell? ⟨q, 2, none⟩ = some (.slice (some ⟨sb, 0, none⟩) 1000 cc) := by rw [cell_at HX.out.cells]; rfl
            have xt : X.cell? ⟨bb, t, none⟩ = some (.string ⟨((S.seg t).bytes.take m).toArray⟩) := by
              have := HX.out.text t hlt
              simpa [bytesV, put_same] using this
            have xs : X.cell? ⟨sb, t, none⟩ = some (.int .i64 ((S.seg t).safe : Int)) := by
              have := HX.out.safe t hlt
              rwa [put_same] at this
            have xf := HX.out.freeS t
            have hY := HX.out.setSafe t m
            have eput : put (put (crashSeg S.seg keep t) t ⟨(S.seg t).bytes.take m, (S.seg t).safe⟩) t ⟨(put (crashSeg S.seg keep t) t ⟨(S.seg t).bytes.take m, (S.seg t).safe⟩ t).bytes, m⟩ = crashSeg S.seg keep (t + 1) := by
              rw [← Hcs.out, Hcat.out]
              funext j
              unfold put crashOne
              by_cases e : j = t <;> simp [e]
            rw [eput] at hY
            have hszt := Hszt.out
            generalize htz : (⟨((S.seg t).bytes.take m).toArray⟩ : ByteArray) = tz at *
            rw [← hszt] at hY
            have HY := hideIt (hY.keep (w' := (X.setCell ⟨sb, t, none⟩ (.int .i64 (tz.size : Int))).drew) (fun _ _ _ => rfl))
            have HYo := hideIt ((HXo.out.trans (Out.ofSet (F := F) X ⟨sb, t, none⟩ (.int .i64 (tz.size : Int)) hins) (fun _ _ h => h)).trans (Out.ofDrew (F := F) _) (fun _ _ h => h))
            clear d1 d2 d3 d4 d5 hX hX1 hY eput hszt htz HTx Hszt
            go_upto_region 11 with fail
            go_region
            go_wp2
            go_roundw
            case rel =>
              refine ⟨t + 1, by omega, by go_num, ?_, HY, HYo⟩
              rw [Hst.out, if_neg Hw.out]
              go_num
            case measure => simp [intOf]; omega
          · have hs0 : surv keep (waiting S.seg t) (waits (S.seg t)) = 0 := by rw [hsvd]; omega
            rw [hs0, Nat.add_zero] at hcat
            clear hsu hsvd hs0
            have HTx := hideIt (ext_takeR (S.seg t).bytes (S.seg t).safe)
            have Hst := hideIt hst
            have Hcs := hideIt hcs
            have Hcat := hideIt hcat
            have Hw := hideIt hw
            have hmx : (((S.seg t).safe : Nat) : Int) ≤ ((⟨(S.seg t).bytes.toArray⟩ : ByteArray).size : Int) := by rw [hsx]; omega
            have hszt : (⟨((S.seg t).bytes.take (S.seg t).safe).toArray⟩ : ByteArray).size = (S.seg t).safe := by simp [ByteArray.size]; omega
            have hszt2 : (⟨((S.seg t).bytes.take (S.seg t).safe).toArray⟩ : ByteArray).size ≤ 1048576 := by rw [hszt]; omega
            generalize htx : (⟨(S.seg t).bytes.toArray⟩ : ByteArray) = tx at *
            have Htx := hideIt htx
            generalize hwq : waiting S.seg t = wq at *
            have Hszt := hideIt hszt
            have Hwq := hideIt hwq
            clear hst hcs hw hsx hcat hkk htx hszt hwq hn1 hki
            go_wp2
            go_quiet (fail)
            go_wp2
            go_upto_region 10 with fail
            generalize hWd : wr.drewN _ = W
            have hWC : RCore W F q bb sb cb cc S.room S.fuse S.age (crashSeg S.seg keep t) := by rw [← hWd]; exact HCr.out.keep (fun _ _ _ => rfl)
            have hWo : Out F w W := by rw [← hWd]; exact HO.out.trans (Out.ofBelow (F := F) (below_drewN (Below.refl _ _) _)) (fun _ _ h => h)
            have d1 : W.cell? ⟨q, 1, none⟩ = some (.slice (some ⟨bb, 0, none⟩) 1000 cb) := by rw [← hWd]; exact c1
            have d2 : W.cell? ⟨q, 2, none⟩ = some (.slice (some ⟨sb, 0, none⟩) 1000 cc) := by rw [← hWd]; exact c2
            have d3 : W.cell? ⟨bb, t, none⟩ = some (.string tx) := by rw [← hWd]; exact hx
            have d4 : W.cell? ⟨sb, t, none⟩ = some (.int .i64 ((S.seg t).safe : Int)) := by rw [← hWd]; exact hs
            have d5 : W.frozen? ⟨bb, t, none⟩ = false := by rw [← hWd]; exact hfT
            have HWC := hideIt hWC
            have HWo := hideIt hWo
            clear hWd hWC hWo c1 c2 hx hs hfT HCr HO
            go_region
            have hX := HWC.out.setText t ((S.seg t).bytes.take (S.seg t).safe)
            rw [crashSeg_now] at hX
            have hX1 := hX
            rw [← HTx.out] at hX1
            have HX := hideIt (hX1.keep (w' := (W.setCell ⟨bb, t, none⟩ (.string (tx.extract 0 (S.seg t).safe))).drew) (fun _ _ _ => rfl))
            have HXo := hideIt ((HWo.out.trans (Out.ofSet (F := F) W ⟨bb, t, none⟩ (.string (tx.extract 0 (S.seg t).safe)) hinb) (fun _ _ h => h)).trans (Out.ofDrew (F := F) _) (fun _ _ h => h))
            generalize (W.setCell ⟨bb, t, none⟩ (.string (tx.extract 0 (S.seg t).safe))).drew = X at *
            have x1 : X.cell? ⟨q, 1, none⟩ = some (.slice (some ⟨bb, 0, none⟩) 1000 cb) := by rw [cell_at HX.out.cells]; rfl
            have x2 : X.cell? ⟨q, 2, none⟩ = some (.slice (some ⟨sb, 0, none⟩) 1000 cc) := by rw [cell_at HX.out.cells]; rfl
            have xt : X.cell? ⟨bb, t, none⟩ = some (.string ⟨((S.seg t).bytes.take (S.seg t).safe).toArray⟩) := by
              have := HX.out.text t hlt
              simpa [bytesV, put_same] using this
            have xs : X.cell? ⟨sb, t, none⟩ = some (.int .i64 ((S.seg t).safe : Int)) := by
              have := HX.out.safe t hlt
              rwa [put_same] at this
            have xf := HX.out.freeS t
            have hY := HX.out.setSafe t (S.seg t).safe
            have eput : put (put (crashSeg S.seg keep t) t ⟨(S.seg t).bytes.take (S.seg t).safe, (S.seg t).safe⟩) t ⟨(put (crashSeg S.seg keep t) t ⟨(S.seg t).bytes.take (S.seg t).safe, (S.seg t).safe⟩ t).bytes, (S.seg t).safe⟩ = crashSeg S.seg keep (t + 1) := by
              rw [← Hcs.out, Hcat.out]
              funext j
              unfold put crashOne
              by_cases e : j = t <;> simp [e]
            rw [eput] at hY
            have hszt := Hszt.out
            generalize htz : (⟨((S.seg t).bytes.take (S.seg t).safe).toArray⟩ : ByteArray) = tz at *
            rw [← hszt] at hY
            have HY := hideIt (hY.keep (w' := (X.setCell ⟨sb, t, none⟩ (.int .i64 (tz.size : Int))).drew) (fun _ _ _ => rfl))
            have HYo := hideIt ((HXo.out.trans (Out.ofSet (F := F) X ⟨sb, t, none⟩ (.int .i64 (tz.size : Int)) hins) (fun _ _ h => h)).trans (Out.ofDrew (F := F) _) (fun _ _ h => h))
            clear d1 d2 d3 d4 d5 hX hX1 hY eput hszt htz HTx Hszt
            go_upto_region 11 with fail
            go_region
            go_wp2
            go_roundw
            case rel =>
              refine ⟨t + 1, by omega, by go_num, ?_, HY, HYo⟩
              rw [Hst.out, if_neg Hw.out]
              go_num
            case measure => simp [intOf]; omega
        · have hn1' : ¬ (waiting S.seg t : Int) < (keep.length : Int) := by omega
          have hs0 : surv keep (waiting S.seg t) (waits (S.seg t)) = 0 := by unfold surv; rw [dif_neg hn1]
          rw [hs0, Nat.add_zero] at hcat
          clear hsu hs0
          have HTx := hideIt (ext_takeR (S.seg t).bytes (S.seg t).safe)
          have Hst := hideIt hst
          have Hcs := hideIt hcs
          have Hcat := hideIt hcat
          have Hw := hideIt hw
          have hmx : (((S.seg t).safe : Nat) : Int) ≤ ((⟨(S.seg t).bytes.toArray⟩ : ByteArray).size : Int) := by rw [hsx]; omega
          have hszt : (⟨((S.seg t).bytes.take (S.seg t).safe).toArray⟩ : ByteArray).size = (S.seg t).safe := by simp [ByteArray.size]; omega
          have hszt2 : (⟨((S.seg t).bytes.take (S.seg t).safe).toArray⟩ : ByteArray).size ≤ 1048576 := by rw [hszt]; omega
          generalize htx : (⟨(S.seg t).bytes.toArray⟩ : ByteArray) = tx at *
          have Htx := hideIt htx
          generalize hwq : waiting S.seg t = wq at *
          have Hszt := hideIt hszt
          have Hwq := hideIt hwq
          clear hst hcs hw hsx hcat hkk htx hszt hwq hn1
          go_wp2
          go_quiet (fail)
          go_wp2
          go_upto_region 10 with fail
          generalize hWd : wr.drewN _ = W
          have hWC : RCore W F q bb sb cb cc S.room S.fuse S.age (crashSeg S.seg keep t) := by rw [← hWd]; exact HCr.out.keep (fun _ _ _ => rfl)
          have hWo : Out F w W := by rw [← hWd]; exact HO.out.trans (Out.ofBelow (F := F) (below_drewN (Below.refl _ _) _)) (fun _ _ h => h)
          have d1 : W.cell? ⟨q, 1, none⟩ = some (.slice (some ⟨bb, 0, none⟩) 1000 cb) := by rw [← hWd]; exact c1
          have d2 : W.cell? ⟨q, 2, none⟩ = some (.slice (some ⟨sb, 0, none⟩) 1000 cc) := by rw [← hWd]; exact c2
          have d3 : W.cell? ⟨bb, t, none⟩ = some (.string tx) := by rw [← hWd]; exact hx
          have d4 : W.cell? ⟨sb, t, none⟩ = some (.int .i64 ((S.seg t).safe : Int)) := by rw [← hWd]; exact hs
          have d5 : W.frozen? ⟨bb, t, none⟩ = false := by rw [← hWd]; exact hfT
          have HWC := hideIt hWC
          have HWo := hideIt hWo
          clear hWd hWC hWo c1 c2 hx hs hfT HCr HO
          go_region
          have hX := HWC.out.setText t ((S.seg t).bytes.take (S.seg t).safe)
          rw [crashSeg_now] at hX
          have hX1 := hX
          rw [← HTx.out] at hX1
          have HX := hideIt (hX1.keep (w' := (W.setCell ⟨bb, t, none⟩ (.string (tx.extract 0 (S.seg t).safe))).drew) (fun _ _ _ => rfl))
          have HXo := hideIt ((HWo.out.trans (Out.ofSet (F := F) W ⟨bb, t, none⟩ (.string (tx.extract 0 (S.seg t).safe)) hinb) (fun _ _ h => h)).trans (Out.ofDrew (F := F) _) (fun _ _ h => h))
          generalize (W.setCell ⟨bb, t, none⟩ (.string (tx.extract 0 (S.seg t).safe))).drew = X at *
          have x1 : X.cell? ⟨q, 1, none⟩ = some (.slice (some ⟨bb, 0, none⟩) 1000 cb) := by rw [cell_at HX.out.cells]; rfl
          have x2 : X.cell? ⟨q, 2, none⟩ = some (.slice (some ⟨sb, 0, none⟩) 1000 cc) := by rw [cell_at HX.out.cells]; rfl
          have xt : X.cell? ⟨bb, t, none⟩ = some (.string ⟨((S.seg t).bytes.take (S.seg t).safe).toArray⟩) := by
            have := HX.out.text t hlt
            simpa [bytesV, put_same] using this
          have xs : X.cell? ⟨sb, t, none⟩ = some (.int .i64 ((S.seg t).safe : Int)) := by
            have := HX.out.safe t hlt
            rwa [put_same] at this
          have xf := HX.out.freeS t
          have hY := HX.out.setSafe t (S.seg t).safe
          have eput : put (put (crashSeg S.seg keep t) t ⟨(S.seg t).bytes.take (S.seg t).safe, (S.seg t).safe⟩) t ⟨(put (crashSeg S.seg keep t) t ⟨(S.seg t).bytes.take (S.seg t).safe, (S.seg t).safe⟩ t).bytes, (S.seg t).safe⟩ = crashSeg S.seg keep (t + 1) := by
            rw [← Hcs.out, Hcat.out]
            funext j
            unfold put crashOne
            by_cases e : j = t <;> simp [e]
          rw [eput] at hY
          have hszt := Hszt.out
          generalize htz : (⟨((S.seg t).bytes.take (S.seg t).safe).toArray⟩ : ByteArray) = tz at *
          rw [← hszt] at hY
          have HY := hideIt (hY.keep (w' := (X.setCell ⟨sb, t, none⟩ (.int .i64 (tz.size : Int))).drew) (fun _ _ _ => rfl))
          have HYo := hideIt ((HXo.out.trans (Out.ofSet (F := F) X ⟨sb, t, none⟩ (.int .i64 (tz.size : Int)) hins) (fun _ _ h => h)).trans (Out.ofDrew (F := F) _) (fun _ _ h => h))
          clear d1 d2 d3 d4 d5 hX hX1 hY eput hszt htz HTx Hszt
          go_upto_region 11 with fail
          go_region
          go_wp2
          go_roundw
          case rel =>
            refine ⟨t + 1, by omega, by go_num, ?_, HY, HYo⟩
            rw [Hst.out, if_neg Hw.out]
            go_num
          case measure => simp [intOf]; omega
    · have hlt' : ¬ (t : Int) < 1000 := by omega
      obtain rfl : t = 1000 := by omega
      have c3 : wr.cell? ⟨q, 3, none⟩ = some (.int .i64 S.fuse) := by rw [cell_at HCr.out.cells]; rfl
      have c4 : wr.cell? ⟨q, 4, none⟩ = some (.int .i64 (S.age : Int)) := by rw [cell_at HCr.out.cells]; rfl
      have f3 := free_at HCr.out.cells 3
      have f4 := free_at HCr.out.cells 4
      have HE := hideIt ((HCr.out.setFuse (-1)).setAge (S.age + 1))
      have eage : ((S.age + 1 : Nat) : Int) = (S.age : Int) + 1 := by omega
      rw [eage] at HE
      clear eage
      go_wp2
      go_ret
      refine ⟨rfl, ⟨bb, sb, cb, cc, HE.out, HG.out, ?_, by omega⟩, ?_⟩
      · show S.age + 1 ≤ N + 1
        omega
      · exact (HO.out.trans (Out.ofSet (F := F) wr ⟨q, 3, none⟩ _ hinq) (fun _ _ h => h)).trans (Out.ofSet (F := F) _ ⟨q, 4, none⟩ _ hinq) (fun _ _ h => h)
end Go.Proofs.Ytpgimffghaelhaa
