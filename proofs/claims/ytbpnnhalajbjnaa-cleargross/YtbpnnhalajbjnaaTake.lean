/- clear.Take, walked. -/
import Derived.Test.YtbpnnhalajbjnaaPart
import Derived.Test.YtbpnnhalajbjnaaSm
import Derived.Test.YtbpnnhalajbjnaaCheck
import Derived.Test.YtbpnnhalajbjnaaRCo
namespace Go.Proofs.Ytbpnnhalajbjnaa
open Go.RowKit
set_option linter.all false
def zLn : LaneV := ⟨false, 0, [], [], []⟩
def takR (L : LaneV) (acc : Int) : LaneV × List AmV × Int := if chkB L = false then (zLn, [], 130) else if wiB acc 1 8 = false then (zLn, [], 1) else (⟨L.call, L.next, L.bids, L.asks, lefA acc L.owed⟩, takA acc L.owed, 0)
def TkB (X : LaneV × List AmV × Int) (w : World) (e : Ending) (w' : World) : Prop := ∃ b a o u, e = .returned (.tuple #[laneV X.1 b a o, u, .int .i64 X.2.2]) ∧ w'.ownsRow w.heap.size 47 4 b X.1.bids.length (celC ordE X.1.bids) ∧ w'.ownsRow w.heap.size 47 4 a X.1.asks.length (celC ordE X.1.asks) ∧ w'.ownsRow w.heap.size 45 3 o X.1.owed.length (celC oweE X.1.owed) ∧ w'.ownsRow w.heap.size 52 2 u X.2.1.length (celC amE X.2.1) ∧ Below w.heap.size w w'
theorem five5_at {w : World} {p : Nat} {t : TypeId} {a b c d e : Value} (h : w.heap[p]? = some (.cells #[a, b, c, d, e] t (0, 0))) : (w.cell? ⟨p, 0, none⟩ = some a ∧ w.cell? ⟨p, 1, none⟩ = some b ∧ w.cell? ⟨p, 2, none⟩ = some c ∧ w.cell? ⟨p, 3, none⟩ = some d ∧ w.cell? ⟨p, 4, none⟩ = some e) ∧ (∀ j, w.frozen? ⟨p, j, none⟩ = false) ∧ p < w.heap.size :=
  ⟨⟨by rw [cell_at h]; rfl, by rw [cell_at h]; rfl, by rw [cell_at h]; rfl, by rw [cell_at h]; rfl, by rw [cell_at h]; rfl⟩, fun j => free_at h j, (Array.getElem?_eq_some_iff.1 h).1⟩
set_option maxHeartbeats 16000000 in
set_option maxRecDepth 100000 in
theorem take_is (L : LaneV) (b a o : Value) (acc : Int) (w : World) (h : Lan w L b a o) : Calls Try.prog 15 #[laneV L b a o, .int .i64 acc] w (TkB (takR L acc) w) := by
  have X0 := hideIt (CB.first w L b a o)
  have HC := hideIt (check_is L b a o _ (h.keep X0.out.bel))
  have HAC := hideIt (fun W => cAccount_is acc W)
  have HPA := hideIt (fun W (hW : Below w.heap.size w W) => parted_is o L.owed acc W (h.keep hW).owed)
  have HCB := hideIt (fun W (hW : Below w.heap.size w W) => cloneO_is b L.bids W (h.keep hW).bids)
  have HCA := hideIt (fun W (hW : Below w.heap.size w W) => cloneO_is a L.asks W (h.keep hW).asks)
  obtain ⟨ba, bc, rfl⟩ := h.bids.slice
  obtain ⟨aa, ac, rfl⟩ := h.asks.slice
  obtain ⟨oa, oc, rfl⟩ := h.owed.slice
  clear h
  cases hk : chkB L
  · have HR : Hid (takR L acc = (zLn, [], 130)) := by show _ = _; unfold takR; rw [if_pos hk]
    rw [show chkI L = 130 by unfold chkI; rw [hk]; rfl] at HC
    generalize takR L acc = RX at *
    unfold laneV laneA at *
    obtain ⟨cl, nx, bids, asks, owed⟩ := L
    simp only at *
    clear hk HPA HCB HCA HAC
    go_enter Try.func15, Try.ntmps15
    go_wp2_with fail
    refine HC.out.mono ?_
    rintro e w1 ⟨rfl, hb⟩
    dsimp only
    have X1 := hideIt (X0.out.keep hb)
    clear hb X0 HC
    obtain ⟨⟨r0, r1, r2, r3, r4⟩, rf, rl⟩ := five5_at X1.out.res
    have HP := hideIt (X1.out.put (.bool false) (.int .i64 0) (.slice none 0 0) (.slice none 0 0) (.slice none 0 0))
    go_wp2
    revert HP
    generalize (World.setCell _ ⟨w.heap.size + 1, 4, none⟩ _) = W
    intro HP
    exact bodyPost_ret (v := .tuple #[laneV zLn (.slice none 0 0) (.slice none 0 0) (.slice none 0 0), .slice none 0 0, .int .i64 130]) (by simp [results, Try.results15, go_sem, cell_at HP.out.1, laneV, laneA, zLn]) rfl (by unfold TkB; rw [HR.out]; exact ⟨_, _, _, _, rfl, own_nil _ _, own_nil _ _, own_nil _ _, own_nil _ _, HP.out.2⟩)
  · rw [show chkI L = 0 by unfold chkI; rw [hk]; rfl] at HC
    cases ha : wiB acc 1 8
    · have HR : Hid (takR L acc = (zLn, [], 1)) := by show _ = _; unfold takR; rw [if_neg (by simp [hk]), if_pos ha]
      rw [ha] at HAC
      generalize takR L acc = RX at *
      unfold laneV laneA at *
      obtain ⟨cl, nx, bids, asks, owed⟩ := L
      simp only at *
      clear hk ha HPA HCB HCA
      go_enter Try.func15, Try.ntmps15
      go_wp2_with fail
      refine HC.out.mono ?_
      rintro e w1 ⟨rfl, hb⟩
      dsimp only
      have X1 := hideIt (X0.out.keep hb)
      clear hb X0 HC
      go_wp2_with fail
      refine (HAC.out _).mono ?_
      rintro e wq ⟨rfl, hwq⟩
      replace hwq := hwq.symm
      subst hwq
      dsimp only
      clear HAC
      obtain ⟨⟨r0, r1, r2, r3, r4⟩, rf, rl⟩ := five5_at X1.out.res
      have HP := hideIt (X1.out.put (.bool false) (.int .i64 0) (.slice none 0 0) (.slice none 0 0) (.slice none 0 0))
      go_wp2
      revert HP
      generalize (World.setCell _ ⟨w.heap.size + 1, 4, none⟩ _) = W
      intro HP
      exact bodyPost_ret (v := .tuple #[laneV zLn (.slice none 0 0) (.slice none 0 0) (.slice none 0 0), .slice none 0 0, .int .i64 1]) (by simp [results, Try.results15, go_sem, cell_at HP.out.1, laneV, laneA, zLn]) rfl (by unfold TkB; rw [HR.out]; exact ⟨_, _, _, _, rfl, own_nil _ _, own_nil _ _, own_nil _ _, own_nil _ _, HP.out.2⟩)
    · have HR : Hid (takR L acc = (⟨L.call, L.next, L.bids, L.asks, lefA acc L.owed⟩, takA acc L.owed, 0)) := by show _ = _; unfold takR; rw [if_neg (by simp [hk]), if_neg (by simp [ha])]
      rw [ha] at HAC
      generalize takR L acc = RX at *
      unfold laneV laneA at *
      obtain ⟨cl, nx, bids, asks, owed⟩ := L
      simp only at *
      generalize takA acc owed = TA at *
      generalize lefA acc owed = TL1 at *
      clear hk ha
      go_enter Try.func15, Try.ntmps15
      go_wp2_with fail
      refine HC.out.mono ?_
      rintro e w1 ⟨rfl, hb⟩
      dsimp only
      have X1 := hideIt (X0.out.keep hb)
      clear hb X0 HC
      go_wp2_with fail
      refine (HAC.out _).mono ?_
      rintro e wq ⟨rfl, hwq⟩
      replace hwq := hwq.symm
      subst hwq
      dsimp only
      clear HAC
      obtain ⟨x0, x1, x2, x3, x4⟩ := X1.out.cells
      simp only at x0 x1 x2 x3 x4
      go_wp2_with fail
      refine (HPA.out _ X1.out.bel).mono ?_
      rintro e w2 ⟨ta, tc, la, lc, rfl, hTL⟩
      dsimp only
      have X2 := hideIt (X1.out.keep hTL.bel)
      have RA := hideIt (own_base hTL.ra X1.out.size)
      have RL := hideIt (own_base hTL.rl X1.out.size)
      clear hTL X1 HPA x0 x1 x2 x3 x4
      obtain ⟨x0, x1, x2, x3, x4⟩ := X2.out.cells
      obtain ⟨⟨r0, r1, r2, r3, r4⟩, rf, rl⟩ := five5_at X2.out.res
      simp only at x0 x1 x2 x3 x4
      have z2 : w.heap.size < w2.heap.size := by have := X2.out.size; omega
      have HB2 : Hid (∀ W, Below w2.heap.size w2 W → Calls Try.prog 30 #[.slice ba bids.length bc] W fun e w' => ∃ q k, e = .returned (.slice q bids.length k) ∧ Hid (w'.ownsRow (w.heap.size + 2) 47 4 (.slice q bids.length k) bids.length (celC ordE bids) ∧ Below W.heap.size W w') ∧ Hid (Below w2.heap.size w2 w') ∧ (w'.cell? ⟨w.heap.size, 0, none⟩ = some (.bool cl) ∧ w'.cell? ⟨w.heap.size, 1, none⟩ = some (.int .i64 nx) ∧ w'.cell? ⟨w.heap.size, 2, none⟩ = some (.slice ba bids.length bc) ∧ w'.cell? ⟨w.heap.size, 3, none⟩ = some (.slice aa asks.length ac)) ∧ w.heap.size < w'.heap.size ∧ (w'.cell? ⟨w.heap.size + 1, 0, none⟩ = some (.bool false) ∧ w'.cell? ⟨w.heap.size + 1, 1, none⟩ = some (.int .i64 0) ∧ w'.cell? ⟨w.heap.size + 1, 2, none⟩ = some (.slice none 0 0) ∧ w'.cell? ⟨w.heap.size + 1, 3, none⟩ = some (.slice none 0 0) ∧ w'.cell? ⟨w.heap.size + 1, 4, none⟩ = some (.slice none 0 0)) ∧ (∀ j, w'.frozen? ⟨w.heap.size + 1, j, none⟩ = false) ∧ w.heap.size + 1 < w'.heap.size) := by
        intro W hW
        have hX := X2.out.keep hW
        refine (HCB.out W hX.bel).mono ?_
        rintro e w' ⟨v', rfl, ho, hb⟩
        obtain ⟨q, k, rfl⟩ := own_len ho
        have hX' := hX.keep hb
        obtain ⟨y0, y1, y2, y3, -⟩ := hX'.cells
        obtain ⟨⟨s0, s1, s2, s3, s4⟩, sf, sz⟩ := five5_at hX'.res
        exact ⟨q, k, rfl, ⟨own_base ho hX.size, hb⟩, below_via hW hb, ⟨y0, y1, y2, y3⟩, by have := hX'.size; omega, ⟨s0, s1, s2, s3, s4⟩, sf, sz⟩
      have HA2 : Hid (∀ W, Below w2.heap.size w2 W → Calls Try.prog 30 #[.slice aa asks.length ac] W fun e w' => ∃ q k, e = .returned (.slice q asks.length k) ∧ Hid (w'.ownsRow (w.heap.size + 2) 47 4 (.slice q asks.length k) asks.length (celC ordE asks) ∧ Below W.heap.size W w') ∧ Hid (Below w2.heap.size w2 w') ∧ (w'.cell? ⟨w.heap.size, 0, none⟩ = some (.bool cl) ∧ w'.cell? ⟨w.heap.size, 1, none⟩ = some (.int .i64 nx) ∧ w'.cell? ⟨w.heap.size, 2, none⟩ = some (.slice ba bids.length bc) ∧ w'.cell? ⟨w.heap.size, 3, none⟩ = some (.slice aa asks.length ac)) ∧ w.heap.size < w'.heap.size ∧ (w'.cell? ⟨w.heap.size + 1, 0, none⟩ = some (.bool false) ∧ w'.cell? ⟨w.heap.size + 1, 1, none⟩ = some (.int .i64 0) ∧ w'.cell? ⟨w.heap.size + 1, 2, none⟩ = some (.slice none 0 0) ∧ w'.cell? ⟨w.heap.size + 1, 3, none⟩ = some (.slice none 0 0) ∧ w'.cell? ⟨w.heap.size + 1, 4, none⟩ = some (.slice none 0 0)) ∧ (∀ j, w'.frozen? ⟨w.heap.size + 1, j, none⟩ = false) ∧ w.heap.size + 1 < w'.heap.size) := by
        intro W hW
        have hX := X2.out.keep hW
        refine (HCA.out W hX.bel).mono ?_
        rintro e w' ⟨v', rfl, ho, hb⟩
        obtain ⟨q, k, rfl⟩ := own_len ho
        have hX' := hX.keep hb
        obtain ⟨y0, y1, y2, y3, -⟩ := hX'.cells
        obtain ⟨⟨s0, s1, s2, s3, s4⟩, sf, sz⟩ := five5_at hX'.res
        exact ⟨q, k, rfl, ⟨own_base ho hX.size, hb⟩, below_via hW hb, ⟨y0, y1, y2, y3⟩, by have := hX'.size; omega, ⟨s0, s1, s2, s3, s4⟩, sf, sz⟩
      clear HCB HCA
      have nr : w.heap.size ≠ w.heap.size + 1 := by omega
      clear x4
      go_upto_region 7 with fail
      go_region_held3 (fun W => W.cell? ⟨w.heap.size, 0, none⟩ = some (.bool cl) ∧ W.cell? ⟨w.heap.size, 1, none⟩ = some (.int .i64 nx) ∧ W.cell? ⟨w.heap.size, 2, none⟩ = some (.slice ba bids.length bc) ∧ W.cell? ⟨w.heap.size, 3, none⟩ = some (.slice aa asks.length ac)) (go_keep) (first | (go_at_call 30; refine (HB2.out _ (by first | exact Below.refl _ _ | exact (Below.refl _ _).drew | exact HWa.out)).mono ?_; rintro e w3 ⟨q1, m1, rfl, HQ1, HWb, ⟨i0, i1, i2, i3⟩, iz, ⟨s0, s1, s2, s3, s4⟩, sf, sz⟩; clear HB2) | (go_at_call 30; refine (HA2.out _ (by first | exact Below.refl _ _ | exact (Below.refl _ _).drew | exact HWb.out)).mono ?_; rintro e w4 ⟨q2, m2, rfl, HQ2, HWa, ⟨j0, j1, j2, j3⟩, jz, ⟨u0, u1, u2, u3, u4⟩, uf, uz⟩; clear HA2))
      all_goals
        first
        | (have XF := hideIt (X2.out.keep HWa.out)
           have HPT := hideIt (XF.out.put (.bool cl) (.int .i64 nx) (.slice q1 bids.length m1) (.slice q2 asks.length m2) (.slice la TL1.length lc))
           have HRW : Hid ((((((w4.setCell ⟨w.heap.size + 1, 0, none⟩ (.bool cl)).setCell ⟨w.heap.size + 1, 1, none⟩ (.int .i64 nx)).setCell ⟨w.heap.size + 1, 2, none⟩ (.slice q1 bids.length m1)).setCell ⟨w.heap.size + 1, 3, none⟩ (.slice q2 asks.length m2)).setCell ⟨w.heap.size + 1, 4, none⟩ (.slice la TL1.length lc)).ownsRow (w.heap.size + 2) 47 4 (.slice q1 bids.length m1) bids.length (celC ordE bids) ∧ (((((w4.setCell ⟨w.heap.size + 1, 0, none⟩ (.bool cl)).setCell ⟨w.heap.size + 1, 1, none⟩ (.int .i64 nx)).setCell ⟨w.heap.size + 1, 2, none⟩ (.slice q1 bids.length m1)).setCell ⟨w.heap.size + 1, 3, none⟩ (.slice q2 asks.length m2)).setCell ⟨w.heap.size + 1, 4, none⟩ (.slice la TL1.length lc)).ownsRow (w.heap.size + 2) 47 4 (.slice q2 asks.length m2) asks.length (celC ordE asks) ∧ (((((w4.setCell ⟨w.heap.size + 1, 0, none⟩ (.bool cl)).setCell ⟨w.heap.size + 1, 1, none⟩ (.int .i64 nx)).setCell ⟨w.heap.size + 1, 2, none⟩ (.slice q1 bids.length m1)).setCell ⟨w.heap.size + 1, 3, none⟩ (.slice q2 asks.length m2)).setCell ⟨w.heap.size + 1, 4, none⟩ (.slice la TL1.length lc)).ownsRow (w.heap.size + 2) 45 3 (.slice la TL1.length lc) TL1.length (celC oweE TL1) ∧ (((((w4.setCell ⟨w.heap.size + 1, 0, none⟩ (.bool cl)).setCell ⟨w.heap.size + 1, 1, none⟩ (.int .i64 nx)).setCell ⟨w.heap.size + 1, 2, none⟩ (.slice q1 bids.length m1)).setCell ⟨w.heap.size + 1, 3, none⟩ (.slice q2 asks.length m2)).setCell ⟨w.heap.size + 1, 4, none⟩ (.slice la TL1.length lc)).ownsRow (w.heap.size + 2) 52 2 (.slice ta TA.length tc) TA.length (celC amE TA)) := ⟨own_five (own_keep HQ1.out.1 HQ2.out.2) XF.out.res (by decide) _ _ _ _ _, own_five HQ2.out.1 XF.out.res (by decide) _ _ _ _ _, own_five (own_keep RL.out HWa.out) XF.out.res (by decide) _ _ _ _ _, own_five (own_keep RA.out HWa.out) XF.out.res (by decide) _ _ _ _ _⟩
           clear XF X2 HQ1 HQ2 RA RL
           go_wp2
           revert HPT HRW
           generalize (World.setCell _ ⟨w.heap.size + 1, 4, none⟩ _) = WF
           intro HPT HRW
           exact bodyPost_ret (v := .tuple #[.agg #[.bool cl, .int .i64 nx, .slice q1 bids.length m1, .slice q2 asks.length m2, .slice la TL1.length lc], .slice ta TA.length tc, .int .i64 0]) (by simp [results, Try.results15, go_sem, cell_at HPT.out.1, laneA]) rfl (by unfold TkB; rw [HR.out]; exact ⟨_, _, _, _, rfl, own_base HRW.out.1 (by omega), own_base HRW.out.2.1 (by omega), own_base HRW.out.2.2.1 (by omega), own_base HRW.out.2.2.2 (by omega), by first | exact HPT.out.2 | exact HPT.out.2.drew⟩))
        | (have XF := hideIt (X2.out.keep HWb.out)
           have HPT := hideIt (XF.out.put (.bool cl) (.int .i64 nx) (.slice q1 bids.length m1) (.slice q2 asks.length m2) (.slice la TL1.length lc))
           have HRW : Hid ((((((w3.setCell ⟨w.heap.size + 1, 0, none⟩ (.bool cl)).setCell ⟨w.heap.size + 1, 1, none⟩ (.int .i64 nx)).setCell ⟨w.heap.size + 1, 2, none⟩ (.slice q1 bids.length m1)).setCell ⟨w.heap.size + 1, 3, none⟩ (.slice q2 asks.length m2)).setCell ⟨w.heap.size + 1, 4, none⟩ (.slice la TL1.length lc)).ownsRow (w.heap.size + 2) 47 4 (.slice q1 bids.length m1) bids.length (celC ordE bids) ∧ (((((w3.setCell ⟨w.heap.size + 1, 0, none⟩ (.bool cl)).setCell ⟨w.heap.size + 1, 1, none⟩ (.int .i64 nx)).setCell ⟨w.heap.size + 1, 2, none⟩ (.slice q1 bids.length m1)).setCell ⟨w.heap.size + 1, 3, none⟩ (.slice q2 asks.length m2)).setCell ⟨w.heap.size + 1, 4, none⟩ (.slice la TL1.length lc)).ownsRow (w.heap.size + 2) 47 4 (.slice q2 asks.length m2) asks.length (celC ordE asks) ∧ (((((w3.setCell ⟨w.heap.size + 1, 0, none⟩ (.bool cl)).setCell ⟨w.heap.size + 1, 1, none⟩ (.int .i64 nx)).setCell ⟨w.heap.size + 1, 2, none⟩ (.slice q1 bids.length m1)).setCell ⟨w.heap.size + 1, 3, none⟩ (.slice q2 asks.length m2)).setCell ⟨w.heap.size + 1, 4, none⟩ (.slice la TL1.length lc)).ownsRow (w.heap.size + 2) 45 3 (.slice la TL1.length lc) TL1.length (celC oweE TL1) ∧ (((((w3.setCell ⟨w.heap.size + 1, 0, none⟩ (.bool cl)).setCell ⟨w.heap.size + 1, 1, none⟩ (.int .i64 nx)).setCell ⟨w.heap.size + 1, 2, none⟩ (.slice q1 bids.length m1)).setCell ⟨w.heap.size + 1, 3, none⟩ (.slice q2 asks.length m2)).setCell ⟨w.heap.size + 1, 4, none⟩ (.slice la TL1.length lc)).ownsRow (w.heap.size + 2) 52 2 (.slice ta TA.length tc) TA.length (celC amE TA)) := ⟨own_five HQ1.out.1 XF.out.res (by decide) _ _ _ _ _, own_five (own_keep HQ2.out.1 HQ1.out.2) XF.out.res (by decide) _ _ _ _ _, own_five (own_keep RL.out HWb.out) XF.out.res (by decide) _ _ _ _ _, own_five (own_keep RA.out HWb.out) XF.out.res (by decide) _ _ _ _ _⟩
           clear XF X2 HQ1 HQ2 RA RL
           go_wp2
           revert HPT HRW
           generalize (World.setCell _ ⟨w.heap.size + 1, 4, none⟩ _) = WF
           intro HPT HRW
           exact bodyPost_ret (v := .tuple #[.agg #[.bool cl, .int .i64 nx, .slice q1 bids.length m1, .slice q2 asks.length m2, .slice la TL1.length lc], .slice ta TA.length tc, .int .i64 0]) (by simp [results, Try.results15, go_sem, cell_at HPT.out.1, laneA]) rfl (by unfold TkB; rw [HR.out]; exact ⟨_, _, _, _, rfl, own_base HRW.out.1 (by omega), own_base HRW.out.2.1 (by omega), own_base HRW.out.2.2.1 (by omega), own_base HRW.out.2.2.2 (by omega), by first | exact HPT.out.2 | exact HPT.out.2.drew⟩))
end Go.Proofs.Ytbpnnhalajbjnaa
