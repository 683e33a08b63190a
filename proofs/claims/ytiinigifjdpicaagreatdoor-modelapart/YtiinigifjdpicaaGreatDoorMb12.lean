/- Texts of my own, laid together. -/
import Derived.Test.YtiinigifjdpicaaGreatDoorPx00
import Derived.Test.YtiinigifjdpicaaGreatDoorPx01
import Derived.Test.YtiinigifjdpicaaGreatDoorMb00
import Derived.Test.YtiinigifjdpicaaGreatDoorPx06
import Derived.Test.YtiinigifjdpicaaGreatDoorMb06
import Derived.Test.YtiinigifjdpicaaGreatDoorMb11
import Derived.Test.YtiinigifjdpicaaGreatDoorPx08
import Derived.Test.YtiinigifjdpicaaGreatDoorMb10
namespace Go.Proofs.YtiinigifjdpicaaGreatDoor
open Go.RowKit
set_option linter.all false
set_option maxHeartbeats 1000000 in
theorem cWithin_is (x lo hi : Int) (w : World) : Calls Tryz.prog 177 #[.int .i64 x, .int .i64 lo, .int .i64 hi] w fun e w' => e = .returned (.bool (wiB x lo hi)) ∧ w' = w := by
 unfold wiB
 go_enter Tryz.func177, Tryz.ntmps177
 by_cases h1 : lo ≤ x
 ·by_cases h2 : x ≤ hi
  ·go_wp2;go_ret
   exact ⟨by simp [h1, h2], rfl⟩
  ·go_wp2;go_ret
   exact ⟨by simp [h2], rfl⟩
 ·go_wp2;go_ret
  exact ⟨by simp; omega, rfl⟩
set_option maxHeartbeats 1000000 in
theorem cAccount_is (x : Int) (w : World) : Calls Tryz.prog 151 #[.int .i64 x] w fun e w' => e = .returned (.bool (wiB x 1 8)) ∧ w' = w := by
 have H := hideIt (fun W => cWithin_is x 1 8 W)
 go_enter Tryz.func151, Tryz.ntmps151
 go_wp2_with fail
 refine (H.out _).mono ?_;rintro e w1 ⟨rfl, rfl⟩;go_wp2;go_ret
 exact ⟨rfl, rfl⟩
def zLt : LaneV := ⟨false, 0, [], [], []⟩
def takR (L : LaneV) (acc : Int) : LaneV × List AmV × Int := if chkB L = false then (zLt, [], 130) else if wiB acc 1 8 = false then (zLt, [], 1) else (⟨L.call, L.next, L.bids, L.asks, lefA acc L.owed⟩, takA acc L.owed, 0)
def TkB (X : LaneV × List AmV × Int) (w : World) (e : Ending) (w' : World) : Prop := ∃ b a o u, e = .returned (.tuple #[laneV X.1 b a o, u, .int .i64 X.2.2]) ∧ w'.ownsRow w.heap.size 115 4 b X.1.bids.length (celC ordE X.1.bids) ∧ w'.ownsRow w.heap.size 115 4 a X.1.asks.length (celC ordE X.1.asks) ∧ w'.ownsRow w.heap.size 61 3 o X.1.owed.length (celC oweE X.1.owed) ∧ w'.ownsRow w.heap.size 53 2 u X.2.1.length (celC amE X.2.1) ∧ Below w.heap.size w w'
theorem five5T_at {w : World} {p : Nat} {t : TypeId} {a b c d e : Value} (h : w.heap[p]? = some (.cells #[a, b, c, d, e] t (0, 0))) : (w.cell? ⟨p, 0, none⟩ = some a ∧ w.cell? ⟨p, 1, none⟩ = some b ∧ w.cell? ⟨p, 2, none⟩ = some c ∧ w.cell? ⟨p, 3, none⟩ = some d ∧ w.cell? ⟨p, 4, none⟩ = some e) ∧ (∀ j, w.frozen? ⟨p, j, none⟩ = false) ∧ p < w.heap.size :=
 ⟨⟨by rw [cell_at h]; rfl, by rw [cell_at h]; rfl, by rw [cell_at h]; rfl, by rw [cell_at h]; rfl, by rw [cell_at h]; rfl⟩, fun j => free_at h j, (Array.getElem?_eq_some_iff.1 h).1⟩
set_option maxHeartbeats 16000000 in
set_option maxRecDepth 100000 in
theorem take_is (L : LaneV) (b a o : Value) (acc : Int) (w : World) (h : Lan w L b a o) : Calls Tryz.prog 126 #[laneV L b a o, .int .i64 acc] w (TkB (takR L acc) w) := by
  have X0 := hideIt (CB.first w L b a o);have HC := hideIt (check_is L b a o _ (h.keep X0.out.bel));have HAC := hideIt (fun W => cAccount_is acc W);have HPA := hideIt (fun W (hW : Below w.heap.size w W) => parted_is o L.owed acc W (h.keep hW).owed);have HCB := hideIt (fun W (hW : Below w.heap.size w W) => cloneO_is b L.bids W (h.keep hW).bids);have HCA := hideIt (fun W (hW : Below w.heap.size w W) => cloneO_is a L.asks W (h.keep hW).asks);obtain ⟨ba, bc, rfl⟩ := h.bids.slice;obtain ⟨aa, ac, rfl⟩ := h.asks.slice;obtain ⟨oa, oc, rfl⟩ := h.owed.slice;clear h;cases hk : chkB L
  · have HR : Hid (takR L acc = (zLt, [], 130)) := by show _ = _; unfold takR; rw [if_pos hk]
    rw [show chkI L = 130 by unfold chkI; rw [hk]; rfl] at HC
    generalize takR L acc = RX at *;unfold laneV laneA at *;obtain ⟨cl, nx, bids, asks, owed⟩ := L;simp only at *;clear hk HPA HCB HCA HAC
    go_enter Tryz.func126, Tryz.ntmps126
    go_wp2_with fail
    refine HC.out.mono ?_;rintro e w1 ⟨rfl, hb⟩;dsimp only;have X1 := hideIt (X0.out.keep hb);clear hb X0 HC;obtain ⟨⟨r0, r1, r2, r3, r4⟩, rf, rl⟩ := five5T_at X1.out.res;have HP := hideIt (X1.out.put (.bool false) (.int .i64 0) (.slice none 0 0) (.slice none 0 0) (.slice none 0 0));go_wp2
    revert HP
    generalize (World.setCell _ ⟨w.heap.size + 1, 4, none⟩ _) = W;intro HP;exact bodyPost_ret (v := .tuple #[laneV zLt (.slice none 0 0) (.slice none 0 0) (.slice none 0 0), .slice none 0 0, .int .i64 130]) (by simp [results, Tryz.results126, go_sem, cell_at HP.out.1, laneV, laneA, zLt]) rfl (by unfold TkB; rw [HR.out]; exact ⟨_, _, _, _, rfl, own_nil _ _, own_nil _ _, own_nil _ _, own_nil _ _, HP.out.2⟩)
  · rw [show chkI L = 0 by unfold chkI; rw [hk]; rfl] at HC
    cases ha : wiB acc 1 8
    · have HR : Hid (takR L acc = (zLt, [], 1)) := by show _ = _; unfold takR; rw [if_neg (by simp [hk]), if_pos ha]
      rw [ha] at HAC;generalize takR L acc = RX at *;unfold laneV laneA at *;obtain ⟨cl, nx, bids, asks, owed⟩ := L;simp only at *;clear hk ha HPA HCB HCA
      go_enter Tryz.func126, Tryz.ntmps126
      go_wp2_with fail
      refine HC.out.mono ?_;rintro e w1 ⟨rfl, hb⟩;dsimp only;have X1 := hideIt (X0.out.keep hb);clear hb X0 HC
      go_wp2_with fail
      refine (HAC.out _).mono ?_;rintro e wq ⟨rfl, hwq⟩;replace hwq := hwq.symm;subst hwq;dsimp only;clear HAC;obtain ⟨⟨r0, r1, r2, r3, r4⟩, rf, rl⟩ := five5T_at X1.out.res;have HP := hideIt (X1.out.put (.bool false) (.int .i64 0) (.slice none 0 0) (.slice none 0 0) (.slice none 0 0));go_wp2
      revert HP
      generalize (World.setCell _ ⟨w.heap.size + 1, 4, none⟩ _) = W;intro HP;exact bodyPost_ret (v := .tuple #[laneV zLt (.slice none 0 0) (.slice none 0 0) (.slice none 0 0), .slice none 0 0, .int .i64 1]) (by simp [results, Tryz.results126, go_sem, cell_at HP.out.1, laneV, laneA, zLt]) rfl (by unfold TkB; rw [HR.out]; exact ⟨_, _, _, _, rfl, own_nil _ _, own_nil _ _, own_nil _ _, own_nil _ _, HP.out.2⟩)
    · have HR : Hid (takR L acc = (⟨L.call, L.next, L.bids, L.asks, lefA acc L.owed⟩, takA acc L.owed, 0)) := by show _ = _; unfold takR; rw [if_neg (by simp [hk]), if_neg (by simp [ha])]
      rw [ha] at HAC;generalize takR L acc = RX at *;unfold laneV laneA at *;obtain ⟨cl, nx, bids, asks, owed⟩ := L;simp only at *;generalize takA acc owed = TA at *;generalize lefA acc owed = TL1 at *;clear hk ha
      go_enter Tryz.func126, Tryz.ntmps126
      go_wp2_with fail
      refine HC.out.mono ?_;rintro e w1 ⟨rfl, hb⟩;dsimp only;have X1 := hideIt (X0.out.keep hb);clear hb X0 HC
      go_wp2_with fail
      refine (HAC.out _).mono ?_;rintro e wq ⟨rfl, hwq⟩;replace hwq := hwq.symm;subst hwq;dsimp only;clear HAC;obtain ⟨x0, x1, x2, x3, x4⟩ := X1.out.cells;simp only at x0 x1 x2 x3 x4
      go_wp2_with fail
      refine (HPA.out _ X1.out.bel).mono ?_;rintro e w2 ⟨ta, tc, la, lc, rfl, hTL⟩;dsimp only;have X2 := hideIt (X1.out.keep hTL.bel);have RA := hideIt (own_base hTL.ra X1.out.size);have RL := hideIt (own_base hTL.rl X1.out.size);clear hTL X1 HPA x0 x1 x2 x3 x4;obtain ⟨x0, x1, x2, x3, x4⟩ := X2.out.cells;obtain ⟨⟨r0, r1, r2, r3, r4⟩, rf, rl⟩ := five5T_at X2.out.res;simp only at x0 x1 x2 x3 x4;have z2 : w.heap.size < w2.heap.size := by have := X2.out.size; omega
      have HB2 : Hid (∀ W, Below w2.heap.size w2 W → Calls Tryz.prog 72 #[.slice ba bids.length bc] W fun e w' => ∃ q k, e = .returned (.slice q bids.length k) ∧ Hid (w'.ownsRow (w.heap.size + 2) 115 4 (.slice q bids.length k) bids.length (celC ordE bids) ∧ Below W.heap.size W w') ∧ Hid (Below w2.heap.size w2 w') ∧ (w'.cell? ⟨w.heap.size, 0, none⟩ = some (.bool cl) ∧ w'.cell? ⟨w.heap.size, 1, none⟩ = some (.int .i64 nx) ∧ w'.cell? ⟨w.heap.size, 2, none⟩ = some (.slice ba bids.length bc) ∧ w'.cell? ⟨w.heap.size, 3, none⟩ = some (.slice aa asks.length ac)) ∧ w.heap.size < w'.heap.size ∧ (w'.cell? ⟨w.heap.size + 1, 0, none⟩ = some (.bool false) ∧ w'.cell? ⟨w.heap.size + 1, 1, none⟩ = some (.int .i64 0) ∧ w'.cell? ⟨w.heap.size + 1, 2, none⟩ = some (.slice none 0 0) ∧ w'.cell? ⟨w.heap.size + 1, 3, none⟩ = some (.slice none 0 0) ∧ w'.cell? ⟨w.heap.size + 1, 4, none⟩ = some (.slice none 0 0)) ∧ (∀ j, w'.frozen? ⟨w.heap.size + 1, j, none⟩ = false) ∧ w.heap.size + 1 < w'.heap.size) := by
        intro W hW;have hX := X2.out.keep hW;refine (HCB.out W hX.bel).mono ?_;rintro e w' ⟨v', rfl, ho, hb⟩;obtain ⟨q, k, rfl⟩ := own_len ho;have hX' := hX.keep hb;obtain ⟨y0, y1, y2, y3, -⟩ := hX'.cells;obtain ⟨⟨s0, s1, s2, s3, s4⟩, sf, sz⟩ := five5T_at hX'.res
        exact ⟨q, k, rfl, ⟨own_base ho hX.size, hb⟩, below_via hW hb, ⟨y0, y1, y2, y3⟩, by have := hX'.size; omega, ⟨s0, s1, s2, s3, s4⟩, sf, sz⟩
      have HA2 : Hid (∀ W, Below w2.heap.size w2 W → Calls Tryz.prog 72 #[.slice aa asks.length ac] W fun e w' => ∃ q k, e = .returned (.slice q asks.length k) ∧ Hid (w'.ownsRow (w.heap.size + 2) 115 4 (.slice q asks.length k) asks.length (celC ordE asks) ∧ Below W.heap.size W w') ∧ Hid (Below w2.heap.size w2 w') ∧ (w'.cell? ⟨w.heap.size, 0, none⟩ = some (.bool cl) ∧ w'.cell? ⟨w.heap.size, 1, none⟩ = some (.int .i64 nx) ∧ w'.cell? ⟨w.heap.size, 2, none⟩ = some (.slice ba bids.length bc) ∧ w'.cell? ⟨w.heap.size, 3, none⟩ = some (.slice aa asks.length ac)) ∧ w.heap.size < w'.heap.size ∧ (w'.cell? ⟨w.heap.size + 1, 0, none⟩ = some (.bool false) ∧ w'.cell? ⟨w.heap.size + 1, 1, none⟩ = some (.int .i64 0) ∧ w'.cell? ⟨w.heap.size + 1, 2, none⟩ = some (.slice none 0 0) ∧ w'.cell? ⟨w.heap.size + 1, 3, none⟩ = some (.slice none 0 0) ∧ w'.cell? ⟨w.heap.size + 1, 4, none⟩ = some (.slice none 0 0)) ∧ (∀ j, w'.frozen? ⟨w.heap.size + 1, j, none⟩ = false) ∧ w.heap.size + 1 < w'.heap.size) := by
        intro W hW;have hX := X2.out.keep hW;refine (HCA.out W hX.bel).mono ?_;rintro e w' ⟨v', rfl, ho, hb⟩;obtain ⟨q, k, rfl⟩ := own_len ho;have hX' := hX.keep hb;obtain ⟨y0, y1, y2, y3, -⟩ := hX'.cells;obtain ⟨⟨s0, s1, s2, s3, s4⟩, sf, sz⟩ := five5T_at hX'.res
        exact ⟨q, k, rfl, ⟨own_base ho hX.size, hb⟩, below_via hW hb, ⟨y0, y1, y2, y3⟩, by have := hX'.size; omega, ⟨s0, s1, s2, s3, s4⟩, sf, sz⟩
      clear HCB HCA;have nr : w.heap.size ≠ w.heap.size + 1 := by omega
      clear x4
      go_upto_region 7 with fail
      go_region_held3 (fun W => W.cell? ⟨w.heap.size, 0, none⟩ = some (.bool cl) ∧ W.cell? ⟨w.heap.size, 1, none⟩ = some (.int .i64 nx) ∧ W.cell? ⟨w.heap.size, 2, none⟩ = some (.slice ba bids.length bc) ∧ W.cell? ⟨w.heap.size, 3, none⟩ = some (.slice aa asks.length ac)) (go_keep) (first | (go_at_call 72; refine (HB2.out _ (by first | exact Below.refl _ _ | exact (Below.refl _ _).drew | exact HWa.out)).mono ?_; rintro e w3 ⟨q1, m1, rfl, HQ1, HWb, ⟨i0, i1, i2, i3⟩, iz, ⟨s0, s1, s2, s3, s4⟩, sf, sz⟩; clear HB2) | (go_at_call 72; refine (HA2.out _ (by first | exact Below.refl _ _ | exact (Below.refl _ _).drew | exact HWb.out)).mono ?_; rintro e w4 ⟨q2, m2, rfl, HQ2, HWa, ⟨j0, j1, j2, j3⟩, jz, ⟨u0, u1, u2, u3, u4⟩, uf, uz⟩; clear HA2))
      all_goals
        first
        | (have XF := hideIt (X2.out.keep HWa.out)
           have HPT := hideIt (XF.out.put (.bool cl) (.int .i64 nx) (.slice q1 bids.length m1) (.slice q2 asks.length m2) (.slice la TL1.length lc));have HRW : Hid ((((((w4.setCell ⟨w.heap.size + 1, 0, none⟩ (.bool cl)).setCell ⟨w.heap.size + 1, 1, none⟩ (.int .i64 nx)).setCell ⟨w.heap.size + 1, 2, none⟩ (.slice q1 bids.length m1)).setCell ⟨w.heap.size + 1, 3, none⟩ (.slice q2 asks.length m2)).setCell ⟨w.heap.size + 1, 4, none⟩ (.slice la TL1.length lc)).ownsRow (w.heap.size + 2) 115 4 (.slice q1 bids.length m1) bids.length (celC ordE bids) ∧ (((((w4.setCell ⟨w.heap.size + 1, 0, none⟩ (.bool cl)).setCell ⟨w.heap.size + 1, 1, none⟩ (.int .i64 nx)).setCell ⟨w.heap.size + 1, 2, none⟩ (.slice q1 bids.length m1)).setCell ⟨w.heap.size + 1, 3, none⟩ (.slice q2 asks.length m2)).setCell ⟨w.heap.size + 1, 4, none⟩ (.slice la TL1.length lc)).ownsRow (w.heap.size + 2) 115 4 (.slice q2 asks.length m2) asks.length (celC ordE asks) ∧ (((((w4.setCell ⟨w.heap.size + 1, 0, none⟩ (.bool cl)).setCell ⟨w.heap.size + 1, 1, none⟩ (.int .i64 nx)).setCell ⟨w.heap.size + 1, 2, none⟩ (.slice q1 bids.length m1)).setCell ⟨w.heap.size + 1, 3, none⟩ (.slice q2 asks.length m2)).setCell ⟨w.heap.size + 1, 4, none⟩ (.slice la TL1.length lc)).ownsRow (w.heap.size + 2) 61 3 (.slice la TL1.length lc) TL1.length (celC oweE TL1) ∧ (((((w4.setCell ⟨w.heap.size + 1, 0, none⟩ (.bool cl)).setCell ⟨w.heap.size + 1, 1, none⟩ (.int .i64 nx)).setCell ⟨w.heap.size + 1, 2, none⟩ (.slice q1 bids.length m1)).setCell ⟨w.heap.size + 1, 3, none⟩ (.slice q2 asks.length m2)).setCell ⟨w.heap.size + 1, 4, none⟩ (.slice la TL1.length lc)).ownsRow (w.heap.size + 2) 53 2 (.slice ta TA.length tc) TA.length (celC amE TA)) := ⟨own_five (own_keep HQ1.out.1 HQ2.out.2) XF.out.res (by decide) _ _ _ _ _, own_five HQ2.out.1 XF.out.res (by decide) _ _ _ _ _, own_five (own_keep RL.out HWa.out) XF.out.res (by decide) _ _ _ _ _, own_five (own_keep RA.out HWa.out) XF.out.res (by decide) _ _ _ _ _⟩;clear XF X2 HQ1 HQ2 RA RL;go_wp2
           revert HPT HRW
           generalize (World.setCell _ ⟨w.heap.size + 1, 4, none⟩ _) = WF;intro HPT HRW;exact bodyPost_ret (v := .tuple #[.agg #[.bool cl, .int .i64 nx, .slice q1 bids.length m1, .slice q2 asks.length m2, .slice la TL1.length lc], .slice ta TA.length tc, .int .i64 0]) (by simp [results, Tryz.results126, go_sem, cell_at HPT.out.1, laneA]) rfl (by unfold TkB; rw [HR.out]; exact ⟨_, _, _, _, rfl, own_base HRW.out.1 (by omega), own_base HRW.out.2.1 (by omega), own_base HRW.out.2.2.1 (by omega), own_base HRW.out.2.2.2 (by omega), by first | exact HPT.out.2 | exact HPT.out.2.drew⟩))
        | (have XF := hideIt (X2.out.keep HWb.out)
           have HPT := hideIt (XF.out.put (.bool cl) (.int .i64 nx) (.slice q1 bids.length m1) (.slice q2 asks.length m2) (.slice la TL1.length lc));have HRW : Hid ((((((w3.setCell ⟨w.heap.size + 1, 0, none⟩ (.bool cl)).setCell ⟨w.heap.size + 1, 1, none⟩ (.int .i64 nx)).setCell ⟨w.heap.size + 1, 2, none⟩ (.slice q1 bids.length m1)).setCell ⟨w.heap.size + 1, 3, none⟩ (.slice q2 asks.length m2)).setCell ⟨w.heap.size + 1, 4, none⟩ (.slice la TL1.length lc)).ownsRow (w.heap.size + 2) 115 4 (.slice q1 bids.length m1) bids.length (celC ordE bids) ∧ (((((w3.setCell ⟨w.heap.size + 1, 0, none⟩ (.bool cl)).setCell ⟨w.heap.size + 1, 1, none⟩ (.int .i64 nx)).setCell ⟨w.heap.size + 1, 2, none⟩ (.slice q1 bids.length m1)).setCell ⟨w.heap.size + 1, 3, none⟩ (.slice q2 asks.length m2)).setCell ⟨w.heap.size + 1, 4, none⟩ (.slice la TL1.length lc)).ownsRow (w.heap.size + 2) 115 4 (.slice q2 asks.length m2) asks.length (celC ordE asks) ∧ (((((w3.setCell ⟨w.heap.size + 1, 0, none⟩ (.bool cl)).setCell ⟨w.heap.size + 1, 1, none⟩ (.int .i64 nx)).setCell ⟨w.heap.size + 1, 2, none⟩ (.slice q1 bids.length m1)).setCell ⟨w.heap.size + 1, 3, none⟩ (.slice q2 asks.length m2)).setCell ⟨w.heap.size + 1, 4, none⟩ (.slice la TL1.length lc)).ownsRow (w.heap.size + 2) 61 3 (.slice la TL1.length lc) TL1.length (celC oweE TL1) ∧ (((((w3.setCell ⟨w.heap.size + 1, 0, none⟩ (.bool cl)).setCell ⟨w.heap.size + 1, 1, none⟩ (.int .i64 nx)).setCell ⟨w.heap.size + 1, 2, none⟩ (.slice q1 bids.length m1)).setCell ⟨w.heap.size + 1, 3, none⟩ (.slice q2 asks.length m2)).setCell ⟨w.heap.size + 1, 4, none⟩ (.slice la TL1.length lc)).ownsRow (w.heap.size + 2) 53 2 (.slice ta TA.length tc) TA.length (celC amE TA)) := ⟨own_five HQ1.out.1 XF.out.res (by decide) _ _ _ _ _, own_five (own_keep HQ2.out.1 HQ1.out.2) XF.out.res (by decide) _ _ _ _ _, own_five (own_keep RL.out HWb.out) XF.out.res (by decide) _ _ _ _ _, own_five (own_keep RA.out HWb.out) XF.out.res (by decide) _ _ _ _ _⟩;clear XF X2 HQ1 HQ2 RA RL;go_wp2
           revert HPT HRW
           generalize (World.setCell _ ⟨w.heap.size + 1, 4, none⟩ _) = WF;intro HPT HRW;exact bodyPost_ret (v := .tuple #[.agg #[.bool cl, .int .i64 nx, .slice q1 bids.length m1, .slice q2 asks.length m2, .slice la TL1.length lc], .slice ta TA.length tc, .int .i64 0]) (by simp [results, Tryz.results126, go_sem, cell_at HPT.out.1, laneA]) rfl (by unfold TkB; rw [HR.out]; exact ⟨_, _, _, _, rfl, own_base HRW.out.1 (by omega), own_base HRW.out.2.1 (by omega), own_base HRW.out.2.2.1 (by omega), own_base HRW.out.2.2.2 (by omega), by first | exact HPT.out.2 | exact HPT.out.2.drew⟩))
abbrev ReqV := Se.ReqV
structure AnsV where
 code : Int
 num : Int
 am : List AmtV
 fl : List FillV
structure StV where
 a : List AccV
 l : List LaneV
 s : Nat → Int
 num : Int
 am : List AmtV
 fl : List FillV
abbrev wr64 (x : Int) : Int := RowKit.wrap64 x
def assQ (q : Int) (e : AmV) : Nat := (if e.asset = 1 then q else e.asset).toNat
def addT (q : Int) : List AmV → (Nat → Int) → (Nat → Int)
 | [], s => s
 | e :: l, s => addT q l (Lg.upS s (assQ q e) (wr64 (s (assQ q e) + e.n)))
def aboveB {α : Type} (f : α → Int) (l : List α) (most : Int) : Bool := l.any (fun e => decide (most < f e))
def payF : List AmtV → AccV → AccV × Int
 | [], A => (A, 0)
 | e :: l, A => if (Lg.credL A e.k e.n).2 = 0 then payF l (Lg.credL A e.k e.n).1 else (A, (Lg.credL A e.k e.n).2)
def brA_ (r : ReqV) : Int := if r.side = 1 then 0 else r.lane
def brN_ (r : ReqV) : Int := if r.side = 1 then r.price * r.n else r.n
def accD (S : StV) (i : Nat) : AccV := S.a.getD i Lg.zA
def lanD (S : StV) (i : Nat) : LaneV := S.l.getD i zLane
def stAcc (r : ReqV) (i : Nat) (S : StV) : StV × Int :=
 if r.kind = 1 then ({S with a := S.a.set i (Lg.credL (accD S i) r.asset r.n).1}, (Lg.credL (accD S i) r.asset r.n).2)
 else if r.kind = 3 then ({S with a := S.a.set i (Lg.debL (accD S i) (brA_ r) (brN_ r)).1}, (Lg.debL (accD S i) (brA_ r) (brN_ r)).2)
 else if r.kind = 2 then ({S with a := S.a.set i (Lg.debL (accD S i) r.asset r.n).1}, (Lg.debL (accD S i) r.asset r.n).2)
 else if r.kind = 7 then (if aboveB Lg.AmtV.n (accD S i).l 4503599627370496 || decide (999999900 < (accD S i).ct) then (S, 6) else ({S with a := S.a.set i (payF (Lg.pre S.s 4) (accD S i)).1, am := Lg.pre S.s 4}, (payF (Lg.pre S.s 4) (accD S i)).2))
 else if r.kind = 8 then ({S with am := (accD S i).l}, 0)
 else (S, 0)
def stLan (r : ReqV) (i : Nat) (q : Int) (S : StV) : StV × Int :=
 if r.kind = 3 then ({S with l := S.l.set i (placeL (lanD S i) r.acct r.side r.price r.n r.now).1, fl := (placeL (lanD S i) r.acct r.side r.price r.n r.now).2.1, num := (placeL (lanD S i) r.acct r.side r.price r.n r.now).2.2.1}, (placeL (lanD S i) r.acct r.side r.price r.n r.now).2.2.2)
 else if r.kind = 4 then ({S with l := S.l.set i (canR (lanD S i) r.acct r.n).1, num := (canR (lanD S i) r.acct r.n).2.1}, (canR (lanD S i) r.acct r.n).2.2)
 else if r.kind = 5 then ({S with l := S.l.set i (calR (lanD S i)).1}, (calR (lanD S i)).2)
 else if r.kind = 6 then ({S with l := S.l.set i (uncR (lanD S i)).1, fl := (uncR (lanD S i)).2.1}, (uncR (lanD S i)).2.2)
 else if r.kind = 7 then (if decide ((takR (lanD S i) r.acct).2.2 ≠ 0) || aboveB AmV.n (takR (lanD S i) r.acct).2.1 1125899906842624 then (S, 6) else ({S with l := S.l.set i (takR (lanD S i) r.acct).1, s := addT q (takR (lanD S i) r.acct).2.1 S.s}, 0))
 else (S, 0)
def stAt (r : ReqV) (k : Int × Int) (S : StV) : StV × Int :=
 if r.kind = 9 then (S, 0) else if k.1 = 1 then stAcc r (k.2 - 1).toNat S else stLan r (k.2 - 1).toNat k.2 S
def runT (r : ReqV) : List (Int × Int) → StV → StV × Int
 | [], S => (S, 0)
 | k :: ks, S => if (stAt r k S).2 = 0 then runT r ks (stAt r k S).1 else stAt r k S
def turL (r : ReqV) : List (Int × Int) := if r.kind = 7 then (Se.keysB r).drop 1 ++ (Se.keysB r).take 1 else Se.keysB r
def mayM (M : MdlV) : Bool := decide (M.a.length = 8) && (decide (M.l.length = 3) && (M.a.all Lg.accB && M.l.all chkB))
def st0 (M : MdlV) : StV := ⟨M.a, M.l, fun _ => 0, 0, [], []⟩
def doM (M : MdlV) (r : ReqV) : MdlV × AnsV :=
 if mayM M && Se.fitsB r then (if (runT r (turL r) (st0 M)).2 = 0 then (⟨(runT r (turL r) (st0 M)).1.a, (runT r (turL r) (st0 M)).1.l⟩, ⟨0, (runT r (turL r) (st0 M)).1.num, (runT r (turL r) (st0 M)).1.am, (runT r (turL r) (st0 M)).1.fl⟩) else (M, ⟨6, 0, [], []⟩))
 else (M, ⟨1, 0, [], []⟩)
def Sml (L : LaneV) : Prop := L.bids.length ≤ 40 ∧ L.asks.length ≤ 40 ∧ L.owed.length ≤ 40
theorem sml_chk {L : LaneV} (h : chkB L = true) : Sml L := by
 have hm := chk_may h;have ho := hm.ow;unfold OkO at ho
 exact ⟨hm.lb, hm.la, by have := ho.1; omega⟩
theorem sml_zero : Sml ⟨false, 0, [], [], []⟩ := by unfold Sml; simp
theorem place_zero {L : LaneV} {acc s price n : Int} {now : Bool} (h : (placeL L acc s price n now).2.2.2 ≠ 0) : (placeL L acc s price n now).1 = zLane ∧ (placeL L acc s price n now).2.1 = [] := ⟨(place_bad h).1, (place_bad h).2.1⟩
theorem can_zero {L : LaneV} {acc id : Int} (h : (canR L acc id).2.2 ≠ 0) : (canR L acc id).1 = zLane := by
 unfold canR at h ⊢
 split
 ·rename_i hk
  rw [if_pos hk] at h
  split
  ·rfl
  ·rename_i Mx hc
   rw [hc] at h;simp only at h ⊢
   split
   ·rfl
   ·rename_i ho
    rw [if_neg ho] at h
    simp at h
 ·rfl
theorem cal_may {L : LaneV} (h : (calR L).2 = 0) : chkB L = true ∧ L.call = false ∧ chkB (calR L).1 = true ∧ (calR L).1 = ⟨true, L.next, L.bids, L.asks, L.owed⟩ := by
 unfold calR at h ⊢
 split
 ·rename_i h0
  have hk := rf_chk h0;refine ⟨hk.1, hk.2, ?_, rfl⟩;have hb := (chk_bok _).1 hk.1;exact (chk_bok _).2 ⟨hb.next, hb.sb, hb.sa, hb.nd, .inl rfl, hb.ow⟩
 ·rename_i h0
  rw [if_neg h0] at h;exact absurd h h0
theorem cal_zero {L : LaneV} (h : (calR L).2 ≠ 0) : (calR L).1 = zLn := by
 unfold calR at h ⊢
 split
 ·rename_i h0
  rw [if_pos h0] at h;exact absurd rfl h
 ·rfl
theorem unc_may {L : LaneV} (h : (uncR L).2.2 = 0) : chkB L = true ∧ L.call = true ∧ chkB (uncR L).1 = true ∧ holM (uncR L).1 = holM L ∧ holG (uncR L).1 = holG L ∧ (uncR L).2.1.length ≤ 80 := by
 unfold uncR at h ⊢
 by_cases h0 : rfE L true = 0
 ·rw [if_pos h0] at h ⊢
  by_cases ho : ovrD (trdC (clL L).1 80 L.bids L.asks (clL L).2.1 (clsOf L.owed) []).2.2.1 = true
  ·rw [if_pos ho] at h
   simp at h
  ·rw [if_neg ho] at h ⊢;have hk := rf_chk h0;have hF := trd_facts hk.1;have e : sumN (trdC (clL L).1 80 L.bids L.asks (clL L).2.1 (clsOf L.owed) []).2.2.2 = (clL L).2.1 := by have := hF.vol; omega
   have hl := hF.len;have hcb := hF.cb;have hca := hF.ca;rw [e] at hcb hca;have ho2 : ¬ ovrC (trdC (clL L).1 80 L.bids L.asks (clL L).2.1 (clsOf L.owed) []).2.2.1 := fun c => ho ((ovrD_iff _).2 c)
   have hm := cleared_may hk.1 ho2;have hh := cleared_holds hk.1;rw [← hcb, ← hca] at hm hh
   exact ⟨hk.1, hk.2, hm, hh.1, hh.2, by simp only; omega⟩
 ·rw [if_neg h0] at h;exact absurd h h0
theorem unc_zero {L : LaneV} (h : (uncR L).2.2 ≠ 0) : (uncR L).1 = zLn ∧ (uncR L).2.1 = [] := by
 unfold uncR at h ⊢
 by_cases h0 : rfE L true = 0
 ·rw [if_pos h0] at h ⊢
  by_cases ho : ovrD (trdC (clL L).1 80 L.bids L.asks (clL L).2.1 (clsOf L.owed) []).2.2.1 = true
  ·rw [if_pos ho]
   exact ⟨rfl, rfl⟩
  ·rw [if_neg ho] at h;exact absurd rfl h
 ·rw [if_neg h0]
  exact ⟨rfl, rfl⟩
theorem left_chk {L : LaneV} {acc : Int} (h : chkB L = true) : chkB ⟨L.call, L.next, L.bids, L.asks, lefA acc L.owed⟩ = true := by
 have hb := (chk_bok _).1 h;refine (chk_bok _).2 ⟨hb.next, hb.sb, hb.sa, hb.nd, hb.cr, ?_⟩;have ho := hb.ow;unfold owedB at ho ⊢;simp only [Bool.and_eq_true, Bool.not_eq_true', List.any_eq_false] at ho ⊢;refine ⟨fun z hz => ho.1 z ((List.mem_filter.1 hz).1), ?_⟩;exact pair_ow ((ow_pairC ho.2).sublist List.filter_sublist)
theorem tak_may {L : LaneV} {acc : Int} (h : (takR L acc).2.2 = 0) : chkB L = true ∧ (1 ≤ acc ∧ acc ≤ 8) ∧ takR L acc = (⟨L.call, L.next, L.bids, L.asks, lefA acc L.owed⟩, takA acc L.owed, 0) ∧ chkB (takR L acc).1 = true := by
 unfold takR at h ⊢
 split
 ·rename_i h0
  rw [if_pos h0] at h
  simp at h
 ·rename_i h0
  rw [if_neg h0] at h
  split
  ·rename_i h1
   rw [if_pos h1] at h
   simp at h
  ·rename_i h1
   have hk : chkB L = true := by simpa using h0
   exact ⟨hk, wiB_in (by simpa using h1), rfl, left_chk hk⟩
theorem tak_mem {L : LaneV} {acc : Int} (h : chkB L = true) : ∀ e ∈ takA acc L.owed, (e.asset = 0 ∨ e.asset = 1) ∧ 1 ≤ e.n ∧ e.n ≤ 9007199254740992 := by
 intro e he;unfold takA at he;obtain ⟨o, ho, rfl⟩ := List.mem_map.1 he;have ho := (List.mem_filter.1 ho).1;have hb := ((chk_bok _).1 h).ow;unfold owedB at hb;simp only [Bool.and_eq_true, Bool.not_eq_true', List.any_eq_false] at hb;have h2 := hb.1 o ho;unfold stoB at h2;simp only [Bool.or_eq_true, not_or, Bool.not_eq_true', Bool.not_eq_false] at h2;have h3 := wiB_in h2.1.2;have h4 := wiB_in h2.2
 simp only
 omega
theorem place_sml (L : LaneV) (acc s price n : Int) (now : Bool) : Sml (placeL L acc s price n now).1 := by
 by_cases h : (placeL L acc s price n now).2.2.2 = 0
 ·exact sml_chk (placeL_may h)
 ·rw [(place_zero h).1];exact sml_zero
theorem can_sml (L : LaneV) (acc id : Int) : Sml (canR L acc id).1 := by
 by_cases h : (canR L acc id).2.2 = 0
 ·exact sml_chk (canR_may h)
 ·rw [can_zero h];exact sml_zero
theorem cal_sml (L : LaneV) : Sml (calR L).1 := by
 by_cases h : (calR L).2 = 0
 ·exact sml_chk (cal_may h).2.2.1
 ·rw [cal_zero h];exact sml_zero
theorem unc_sml (L : LaneV) : Sml (uncR L).1 := by
 by_cases h : (uncR L).2.2 = 0
 ·exact sml_chk (unc_may h).2.2.1
 ·rw [(unc_zero h).1];exact sml_zero
theorem place_fl (L : LaneV) (acc s price n : Int) (now : Bool) : (placeL L acc s price n now).2.1.length ≤ 40 := by
 by_cases h : (placeL L acc s price n now).2.2.2 = 0
 ·rw [placeL_eq h]
  simp only
  obtain ⟨hr, _, _⟩ := place_ok h;obtain ⟨h1, h2, h3, h4, h5, h6, h7, h8⟩ := refE_ok hr;have hm := chk_may h1;unfold plT;cases L.call
  ·have hT : OkT (sideL L (if s = 1 then 2 else 1)) ∧ (sideL L (if s = 1 then 2 else 1)).length ≤ 40 := by
    rcases h2 with rfl | rfl
    ·exact ⟨hm.ta, hm.la⟩
    ·exact ⟨hm.tb, hm.lb⟩
   have := (trL_ok s ⟨L.next, acc, price, n⟩ (by simp only; omega) (sideL L (if s = 1 then 2 else 1)) n L.owed [] 0 hm.ow hT.1 (by omega)).2.2.1
   simp only [List.length_nil, Nat.zero_add] at this;exact Nat.le_trans this hT.2
  ·simp
 ·rw [(place_zero h).2]
  simp
theorem unc_fl (L : LaneV) : (uncR L).2.1.length ≤ 80 := by
 by_cases h : (uncR L).2.2 = 0
 ·exact (unc_may h).2.2.2.2.2
 ·rw [(unc_zero h).2]
  simp
structure WkX where
 A : List AccX
 ga : Nat
 ca : Nat
 L : List LanX
 gl : Nat
 cl : Nat
 r : ReqV
 s : Nat → Int
 num : Int
 fm : Option Addr
 cm : Nat
 am : List AmtV
 ff : Option Addr
 cf : Nat
 fl : List FillV
 kv : Value
 ks : List (Int × Int)
def WkX.st (X : WkX) : StV := ⟨X.A.map AccX.v, X.L.map LanX.v, X.s, X.num, X.am, X.fl⟩
def WkX.fx (X : WkX) : ReqV × Nat × Nat × Nat × Nat × Value × List (Int × Int) := (X.r, X.ga, X.ca, X.gl, X.cl, X.kv, X.ks)
def wkA (X : WkX) : Array Value := #[.slice (some ⟨X.ga, 0, none⟩) X.A.length X.ca, .slice (some ⟨X.gl, 0, none⟩) X.L.length X.cl, .int .i64 X.r.kind, .int .i64 X.r.acct, .int .i64 X.r.lane, .int .i64 X.r.asset, .int .i64 X.r.side, .int .i64 X.r.price, .int .i64 X.r.n, .bool X.r.now, .int .i64 X.r.key.1, .int .i64 X.r.key.2, .int .i64 X.r.dst, .int .i64 (X.s 0), .int .i64 (X.s 1), .int .i64 (X.s 2), .int .i64 (X.s 3), .int .i64 0, .int .i64 X.num, .slice X.fm X.am.length X.cm, .slice X.ff X.fl.length X.cf]
structure WK (w : World) (K : Nat) (X : WkX) (wx : World) : Prop where
 box : wx.heap[K]? = some (.cells (wkA X) 69 (0, 0))
 ac : AccsOwn w.heap.size wx (.slice (some ⟨X.ga, 0, none⟩) X.A.length X.ca) X.A
 ln : LnsOwn w.heap.size wx (.slice (some ⟨X.gl, 0, none⟩) X.L.length X.cl) X.L
 am : wx.ownsRow w.heap.size 53 2 (.slice X.fm X.am.length X.cm) X.am.length (celC amtE X.am)
 fl : wx.ownsRow w.heap.size 106 4 (.slice X.ff X.fl.length X.cf) X.fl.length (celC filE X.fl)
 ky : wx.ownsRow w.heap.size 24 2 X.kv X.ks.length (Se.celC Se.keyE X.ks)
 sam : X.am.length * 16 ≤ 140737488355328
 sfl : X.fl.length * 32 ≤ 140737488355328
 hK : w.heap.size ≤ K
 bel : Below w.heap.size w wx
theorem WK.keep {w wx wy : World} {K : Nat} {X : WkX} (h : WK w K X wx) (hb : Below wx.heap.size wx wy) : WK w K X wy :=
 ⟨blkK h.box hb, h.ac.keep hb, h.ln.keep hb, own_keep h.am hb, own_keep h.fl hb, own_keep h.ky hb, h.sam, h.sfl, h.hK, below_via h.bel hb⟩
theorem WK.drewN {w wx : World} {K : Nat} {X : WkX} (h : WK w K X wx) (n : Nat) : WK w K X (wx.drewN n) := h.keep (Lg.bN (Below.refl _ wx) n)
theorem row_blk {w : World} {B n k g cap : Nat} {e : TypeId} {xs : List Value} (ho : w.ownsRow B e k (.slice (some ⟨g, 0, none⟩) n cap) n xs) : (∃ cs, w.heap[g]? = some (.cells cs e (0, 0))) ∧ B ≤ g := by
 obtain ⟨h1, ⟨hv, _⟩ | ⟨g', cap', cur, hv, hb, hg, _⟩⟩ := ho
 ·cases hv
 ·simp only [Value.slice.injEq, Option.some.injEq, Addr.mk.injEq] at hv;obtain ⟨⟨rfl, _⟩, _, rfl⟩ := hv
  exact ⟨⟨_, hg⟩, hb⟩
theorem ty_ne {W : World} {b k : Nat} {cs cur : Array Value} {t e : TypeId} (h : W.heap[b]? = some (.cells cs t (0, 0))) (hg : W.heap[k]? = some (.cells cur e (0, 0))) (hne : t ≠ e) : b ≠ k := by
 rintro rfl;rw [h] at hg
 simp at hg
 exact hne hg.2
theorem WK.put {w wx : World} {K : Nat} {X Y : WkX} (h : WK w K X wx) (j : Nat) (u : Value) (he : (wkA X).setIfInBounds j u = wkA Y) (h1 : Y.A = X.A) (h2 : Y.ga = X.ga) (h3 : Y.ca = X.ca) (h4 : Y.L = X.L) (h5 : Y.gl = X.gl) (h6 : Y.cl = X.cl) (h7 : Y.kv = X.kv) (h8 : Y.ks = X.ks)
  (ha : wx.ownsRow w.heap.size 53 2 (.slice Y.fm Y.am.length Y.cm) Y.am.length (celC amtE Y.am)) (hf : wx.ownsRow w.heap.size 106 4 (.slice Y.ff Y.fl.length Y.cf) Y.fl.length (celC filE Y.fl)) (sa : Y.am.length * 16 ≤ 140737488355328) (sf : Y.fl.length * 32 ≤ 140737488355328) :
  WK w K Y (wx.setCell ⟨K, j, none⟩ u) := by
 obtain ⟨yA, yga, yca, yL, ygl, ycl, yr, ys, ynum, yfm, ycm, yam, yff, ycf, yfl, ykv, yks⟩ := Y;simp only at h1 h2 h3 h4 h5 h6 h7 h8;subst h1 h2 h3 h4 h5 h6 h7 h8
 exact ⟨he ▸ heap_set h.box j u, h.ac.set h.box (by decide) (by decide), h.ln.set h.box (by decide) (by decide) (by decide), own_cell ha h.box (by decide), own_cell hf h.box (by decide), own_cell h.ky h.box (by decide), sa, sf, h.hK, belowSet u h.bel h.hK⟩
theorem WK.setNum {w wx : World} {K : Nat} {X : WkX} (h : WK w K X wx) (n : Int) : WK w K {X with num := n} (wx.setCell ⟨K, 18, none⟩ (.int .i64 n)) :=
 h.put 18 _ rfl rfl rfl rfl rfl rfl rfl rfl rfl h.am h.fl h.sam h.sfl
theorem WK.setAm {w wx : World} {K : Nat} {X : WkX} (h : WK w K X wx) (f : Option Addr) (c : Nat) (l : List AmtV) (ha : wx.ownsRow w.heap.size 53 2 (.slice f l.length c) l.length (celC amtE l)) (sa : l.length * 16 ≤ 140737488355328) : WK w K {X with fm := f, cm := c, am := l} (wx.setCell ⟨K, 19, none⟩ (.slice f l.length c)) :=
 h.put 19 _ rfl rfl rfl rfl rfl rfl rfl rfl rfl ha h.fl sa h.sfl
theorem WK.setFl {w wx : World} {K : Nat} {X : WkX} (h : WK w K X wx) (f : Option Addr) (c : Nat) (l : List FillV) (hf : wx.ownsRow w.heap.size 106 4 (.slice f l.length c) l.length (celC filE l)) (sf : l.length * 32 ≤ 140737488355328) : WK w K {X with ff := f, cf := c, fl := l} (wx.setCell ⟨K, 20, none⟩ (.slice f l.length c)) :=
 h.put 20 _ rfl rfl rfl rfl rfl rfl rfl rfl rfl h.am hf h.sam sf
theorem WK.setS {w wx : World} {K : Nat} {X : WkX} (h : WK w K X wx) (t : Nat) (ht : t < 4) (n : Int) : WK w K {X with s := Lg.upS X.s t n} (wx.setCell ⟨K, 13 + t, none⟩ (.int .i64 n)) := by
 refine h.put (13 + t) _ ?_ rfl rfl rfl rfl rfl rfl rfl rfl h.am h.fl h.sam h.sfl
 rcases (by omega : t = 0 ∨ t = 1 ∨ t = 2 ∨ t = 3) with rfl | rfl | rfl | rfl <;> rfl
theorem WK.putA {w wx : World} {K i : Nat} {X : WkX} (h : WK w K X wx) (hi : i < X.A.length) (x : AccX) (hx : AccOwn w.heap.size wx x) :
  WK w K {X with A := X.A.set i x} ((wx.setCell ⟨X.ga, i * 2, none⟩ (.slice x.fa x.v.l.length x.fc)).setCell ⟨X.ga, i * 2 + 1, none⟩ (.int .i64 x.v.ct)) := by
 obtain ⟨⟨cs, hg⟩, hgB⟩ := row_blk h.ac.row;have hne := ty_ne h.box hg (by decide);have g1 := heap_set hg (i * 2) (.slice x.fa x.v.l.length x.fc);refine ⟨?_, h.ac.put hi x hx, (h.ln.set hg (by decide) (by decide) (by decide)).set g1 (by decide) (by decide) (by decide), ?_, own_cell (own_cell h.fl hg (by decide)) g1 (by decide), own_cell (own_cell h.ky hg (by decide)) g1 (by decide), h.sam, h.sfl, h.hK, belowSet _ (belowSet _ h.bel hgB) hgB⟩
 ·have e : wkA {X with A := X.A.set i x} = wkA X := by simp only [wkA, List.length_set]
  rw [e];exact setOther _ (setOther _ h.box hne) hne
 ·exact own_cell (own_cell h.am hg (by decide)) g1 (by decide)
theorem WK.putL {w wx : World} {K i : Nat} {X : WkX} (h : WK w K X wx) (hi : i < X.L.length) (x : LanX) (hx : LanOwn w.heap.size wx x) :
  WK w K {X with L := X.L.set i x} (((((wx.setCell ⟨X.gl, i * 5, none⟩ (.bool x.v.call)).setCell ⟨X.gl, i * 5 + 1, none⟩ (.int .i64 x.v.next)).setCell ⟨X.gl, i * 5 + 2, none⟩ (.slice x.ba x.v.bids.length x.bc)).setCell ⟨X.gl, i * 5 + 3, none⟩ (.slice x.aa x.v.asks.length x.ac)).setCell ⟨X.gl, i * 5 + 4, none⟩ (.slice x.oa x.v.owed.length x.oc)) := by
 obtain ⟨⟨cs, hg⟩, hgB⟩ := row_blk h.ln.row;have hne := ty_ne h.box hg (by decide);have g1 := heap_set hg (i * 5) (.bool x.v.call);have g2 := heap_set g1 (i * 5 + 1) (.int .i64 x.v.next);have g3 := heap_set g2 (i * 5 + 2) (.slice x.ba x.v.bids.length x.bc);have g4 := heap_set g3 (i * 5 + 3) (.slice x.aa x.v.asks.length x.ac);refine ⟨?_, ((((h.ac.set hg (by decide) (by decide)).set g1 (by decide) (by decide)).set g2 (by decide) (by decide)).set g3 (by decide) (by decide)).set g4 (by decide) (by decide), h.ln.put hi x hx, own_cell (own_cell (own_cell (own_cell (own_cell h.am hg (by decide)) g1 (by decide)) g2 (by decide)) g3 (by decide)) g4 (by decide), own_cell (own_cell (own_cell (own_cell (own_cell h.fl hg (by decide)) g1 (by decide)) g2 (by decide)) g3 (by decide)) g4 (by decide), own_cell (own_cell (own_cell (own_cell (own_cell h.ky hg (by decide)) g1 (by decide)) g2 (by decide)) g3 (by decide)) g4 (by decide), h.sam, h.sfl, h.hK, belowSet _ (belowSet _ (belowSet _ (belowSet _ (belowSet _ h.bel hgB) hgB) hgB) hgB) hgB⟩;have e : wkA {X with L := X.L.set i x} = wkA X := by simp only [wkA, List.length_set]
 rw [e];exact setOther _ (setOther _ (setOther _ (setOther _ (setOther _ h.box hne) hne) hne) hne) hne
theorem WK.acc {w wx : World} {K i : Nat} {X : WkX} (h : WK w K X wx) (hi : i < X.A.length) : (wx.cell? ⟨X.ga, i * 2, none⟩ = some (.slice (X.A[i]).fa (X.A[i]).v.l.length (X.A[i]).fc) ∧ wx.cell? ⟨X.ga, i * 2 + 1, none⟩ = some (.int .i64 (X.A[i]).v.ct)) ∧ (∀ j, wx.frozen? ⟨X.ga, j, none⟩ = false) ∧ X.ga < wx.heap.size ∧ Amts wx (.slice (X.A[i]).fa (X.A[i]).v.l.length (X.A[i]).fc) (X.A[i]).v.l := by
 obtain ⟨⟨cs, hg⟩, hgB⟩ := row_blk h.ac.row;obtain ⟨a, c, e, _, hr⟩ := h.ac.at_.two;obtain ⟨b, off, ha, hb, c0, c1⟩ := hr i hi;simp only [Value.slice.injEq] at e;rw [← e.1] at ha;simp only [Option.some.injEq, Addr.mk.injEq] at ha;obtain ⟨rfl, rfl, _⟩ := ha;rw [Nat.zero_add] at c0 c1
 exact ⟨⟨c0, c1⟩, fun j => free_at hg j, hb, h.ac.at_.at_ _ (List.getElem_mem hi)⟩
theorem WK.lan {w wx : World} {K i : Nat} {X : WkX} (h : WK w K X wx) (hi : i < X.L.length) : (wx.cell? ⟨X.gl, i * 5, none⟩ = some (.bool (X.L[i]).v.call) ∧ wx.cell? ⟨X.gl, i * 5 + 1, none⟩ = some (.int .i64 (X.L[i]).v.next) ∧ wx.cell? ⟨X.gl, i * 5 + 2, none⟩ = some (.slice (X.L[i]).ba (X.L[i]).v.bids.length (X.L[i]).bc) ∧ wx.cell? ⟨X.gl, i * 5 + 3, none⟩ = some (.slice (X.L[i]).aa (X.L[i]).v.asks.length (X.L[i]).ac) ∧ wx.cell? ⟨X.gl, i * 5 + 4, none⟩ = some (.slice (X.L[i]).oa (X.L[i]).v.owed.length (X.L[i]).oc)) ∧ (∀ j, wx.frozen? ⟨X.gl, j, none⟩ = false) ∧ X.gl < wx.heap.size ∧ LanAt wx X.L[i] := by
 obtain ⟨⟨cs, hg⟩, hgB⟩ := row_blk h.ln.row;obtain ⟨a, c, e, _, hr⟩ := h.ln.at_.five;obtain ⟨b, off, ha, hb, c0, c1, c2, c3, c4⟩ := hr i hi;simp only [Value.slice.injEq] at e;rw [← e.1] at ha;simp only [Option.some.injEq, Addr.mk.injEq] at ha;obtain ⟨rfl, rfl, _⟩ := ha;rw [Nat.zero_add] at c0 c1 c2 c3 c4
 exact ⟨⟨c0, c1, c2, c3, c4⟩, fun j => free_at hg j, hb, h.ln.at_.at_ _ (List.getElem_mem hi)⟩
def WkB (w : World) (K : Nat) (X : WkX) (Z : StV × Int) (e : Ending) (w' : World) : Prop := ∃ X' : WkX, e = .returned (.int .i64 Z.2) ∧ X'.st = Z.1 ∧ X'.fx = X.fx ∧ X'.A.length = X.A.length ∧ X'.L.length = X.L.length ∧ WK w K X' w'
theorem accD_at {X : WkX} {i : Nat} (hi : i < X.A.length) : accD X.st i = (X.A[i]).v := by
 unfold accD WkX.st
 simp [List.getD_eq_getElem?_getD, List.getElem?_map, List.getElem?_eq_getElem hi]
theorem lanD_at {X : WkX} {i : Nat} (hi : i < X.L.length) : lanD X.st i = (X.L[i]).v := by
 unfold lanD WkX.st
 simp [List.getD_eq_getElem?_getD, List.getElem?_map, List.getElem?_eq_getElem hi]
theorem st_setA {X : WkX} {i : Nat} {x : AccX} : WkX.st {X with A := X.A.set i x} = {X.st with a := X.st.a.set i x.v} := by
 simp [WkX.st, List.map_set]
theorem st_setL {X : WkX} {i : Nat} {x : LanX} : WkX.st {X with L := X.L.set i x} = {X.st with l := X.st.l.set i x.v} := by
 simp [WkX.st, List.map_set]
theorem SGot.amts {w : World} {v : Value} {l : List AmtV} (h : Amts w v l) : ∃ a c, v = .slice a l.length c ∧ l.length * 16 ≤ 140737488355328 ∧ ∀ i (h : i < l.length), ∃ b off, a = some ⟨b, off, none⟩ ∧ b < w.heap.size ∧ w.cell? ⟨b, off + i * 2, none⟩ = some (.int .i64 (l[i]).k) ∧ w.cell? ⟨b, off + i * 2 + 1, none⟩ = some (.int .i64 (l[i]).n) := by
 obtain ⟨h8, a, c, e, hc, hr⟩ := h;refine ⟨a, c, e, h8, fun i hi => ?_⟩;obtain ⟨b, off, ha, hb, hcell⟩ := hr (by omega);have g := celC_get amtK l i hi
 exact ⟨b, off, ha, hb, (hcell (i * 2) (by omega)).trans (g 0 (by omega)), (hcell (i * 2 + 1) (by omega)).trans (g 1 (by omega))⟩
set_option maxHeartbeats 4000000 in
theorem indexAm_is (g : Nat) (lb : Array Value) (eg : ∀ args w, (callFunc g args).run Tryz.prog w = .ok (.enter g args) w) (v : Value) (l : List AmtV) (p : AmtV → Bool) (w : World) (h : Amts w v l) (hp : ∀ x ∈ l, ∀ W, Below w.heap.size w W → Calls Tryz.prog g (#[.agg (amtE x).toArray] ++ lb) W fun e w' => e = .returned (.bool (p x)) ∧ Below w.heap.size w w') :
  Calls Tryz.prog 169 #[v, .func (.func g) #[] lb] w fun e w' => e = .returned (.int .i64 (idxI p l)) ∧ Below w.heap.size w w' := by
 obtain ⟨a, c, rfl, h8, hr⟩ := h.amts;have HH := hideIt hr;have HP := hideIt hp;clear hr h hp
 go_enter Tryz.func169, Tryz.ntmps169
 go_wp2
 go_loopw [5, 8] (fun _ v wr => ∃ t : Nat, v = .int .i64 t ∧ t ≤ l.length ∧ Hid (l.findIdx? p = ((l.drop t).findIdx? p).map (· + t) ∧ Below w.heap.size w wr)) (fun _ v _ => l.length - (intOf v).toNat)
 case atStart => exact ⟨0, rfl, Nat.zero_le _, hideIt ⟨by simp, Below.refl _ _⟩⟩
 case round =>
  obtain ⟨t, rfl, ht, HR⟩ := hrel
  by_cases hlt : t < l.length
  ·have hltI : (t : Int) < (l.length : Int) := by omega
   have ht0 : (0 : Int) ≤ (t : Int) := by omega
   have hw : IntKind.i64.wrap ((t : Int) + 1) = (t : Int) + 1 := by rw [IntKind.wrap_i64]; omega
   obtain ⟨b, off, rfl, hbl, q0, q1⟩ := HH.out t hlt;have hB := HR.out.2;have hBS := hB.size;have hblr : b < wr.heap.size := by omega
   have c0 := ((HR.out.2).cell (p := ⟨b, off + t * 2, none⟩) hbl).trans q0;have c1 := ((HR.out.2).cell (p := ⟨b, off + t * 2 + 1, none⟩) hbl).trans q1;clear q0 q1;have HC := hideIt (HP.out l[t] (List.getElem_mem hlt) wr hB);clear HH HP hB hBS hbl;cases hq : p l[t]
   ·rw [hq] at HC;have HF : Hid (l.findIdx? p = ((l.drop (t + 1)).findIdx? p).map (· + (t + 1))) := by
     show _ = _
     rw [HR.out.1, fi_miss hlt hq, Option.map_map]
     congr 1
     funext x
     simp only [Function.comp];omega
    clear HR hq;generalize l[t] = en at *;obtain ⟨k1, n1⟩ := en;unfold amtE at HC
    (try dsimp only at c0 c1 HC)
    go_wp2_with fail
    refine HC.out.mono ?_;rintro e w' ⟨rfl, hb'⟩;dsimp only;go_wp2
    go_roundw
    case rel => exact ⟨t + 1, by go_num, by omega, hideIt ⟨HF.out, hb'⟩⟩
    case measure => simp [intOf]; omega
   ·rw [hq] at HC;have HF : Hid (idxI p l = (t : Int)) := by
     show _ = _
     unfold idxI;rw [HR.out.1, fi_hit hlt hq]
     simp
    clear HR hq;generalize l[t] = en at *;obtain ⟨k1, n1⟩ := en;unfold amtE at HC
    (try dsimp only at c0 c1 HC)
    go_wp2_with fail
    refine HC.out.mono ?_;rintro e w' ⟨rfl, hb'⟩;dsimp only;go_wp2;go_ret
    exact ⟨by rw [HF.out]; rfl, hb'⟩
  ·have hltI : ¬ (t : Int) < (l.length : Int) := by omega
   have HF : Hid (idxI p l = -1) := by
    show _ = _
    unfold idxI;rw [HR.out.1, List.drop_of_length_le (by omega)]
    rfl
   have HB := hideIt HR.out.2;clear HR HP HH;go_wp2;go_ret
   exact ⟨by rw [HF.out]; rfl, HB.out⟩
set_option maxHeartbeats 4000000 in
theorem containsAm_is (g : Nat) (lb : Array Value) (eg : ∀ args w, (callFunc g args).run Tryz.prog w = .ok (.enter g args) w) (v : Value) (l : List AmtV) (p : AmtV → Bool) (w : World) (h : Amts w v l) (hp : ∀ x ∈ l, ∀ W, Below w.heap.size w W → Calls Tryz.prog g (#[.agg (amtE x).toArray] ++ lb) W fun e w' => e = .returned (.bool (p x)) ∧ Below w.heap.size w w') :
  Calls Tryz.prog 136 #[v, .func (.func g) #[] lb] w fun e w' => e = .returned (.bool (l.any p)) ∧ Below w.heap.size w w' := by
 have HC := hideIt (indexAm_is g lb eg v l p w h hp);obtain ⟨a, c, rfl, h8, hr⟩ := h.amts;clear hr h hp;have HE := hideIt (idx_any p l);generalize idxI p l = r at *;generalize l.any p = q at *
 go_enter Tryz.func136, Tryz.ntmps136
 go_wp2_with fail
 refine HC.out.mono ?_;rintro e w1 ⟨rfl, hb⟩;dsimp only;go_wp2;go_ret
 exact ⟨by rw [HE.out]; rfl, hb⟩
set_option maxHeartbeats 4000000 in
theorem indexAc_is (g : Nat) (lb : Array Value) (eg : ∀ args w, (callFunc g args).run Tryz.prog w = .ok (.enter g args) w) (v : Value) (l : List AccX) (p : AccX → Bool) (w : World) (h : Accs w v l) (hp : ∀ x ∈ l, ∀ W, Below w.heap.size w W → Calls Tryz.prog g (#[.agg (accE x).toArray] ++ lb) W fun e w' => e = .returned (.bool (p x)) ∧ Below w.heap.size w w') :
  Calls Tryz.prog 61 #[v, .func (.func g) #[] lb] w fun e w' => e = .returned (.int .i64 (idxI p l)) ∧ Below w.heap.size w w' := by
 obtain ⟨a, c, rfl, h8, hr⟩ := h.two;have HH := hideIt hr;have HP := hideIt hp;clear hr h hp
 go_enter Tryz.func61, Tryz.ntmps61
 go_wp2
 go_loopw [5, 8] (fun _ v wr => ∃ t : Nat, v = .int .i64 t ∧ t ≤ l.length ∧ Hid (l.findIdx? p = ((l.drop t).findIdx? p).map (· + t) ∧ Below w.heap.size w wr)) (fun _ v _ => l.length - (intOf v).toNat)
 case atStart => exact ⟨0, rfl, Nat.zero_le _, hideIt ⟨by simp, Below.refl _ _⟩⟩
 case round =>
  obtain ⟨t, rfl, ht, HR⟩ := hrel
  by_cases hlt : t < l.length
  ·have hltI : (t : Int) < (l.length : Int) := by omega
   have ht0 : (0 : Int) ≤ (t : Int) := by omega
   have hw : IntKind.i64.wrap ((t : Int) + 1) = (t : Int) + 1 := by rw [IntKind.wrap_i64]; omega
   obtain ⟨b, off, rfl, hbl, q0, q1⟩ := HH.out t hlt;have hB := HR.out.2;have hBS := hB.size;have hblr : b < wr.heap.size := by omega
   have c0 := ((HR.out.2).cell (p := ⟨b, off + t * 2, none⟩) hbl).trans q0;have c1 := ((HR.out.2).cell (p := ⟨b, off + t * 2 + 1, none⟩) hbl).trans q1;clear q0 q1;have HC := hideIt (HP.out l[t] (List.getElem_mem hlt) wr hB);clear HH HP hB hBS hbl;cases hq : p l[t]
   ·rw [hq] at HC;have HF : Hid (l.findIdx? p = ((l.drop (t + 1)).findIdx? p).map (· + (t + 1))) := by
     show _ = _
     rw [HR.out.1, fi_miss hlt hq, Option.map_map]
     congr 1
     funext x
     simp only [Function.comp];omega
    clear HR hq;generalize l[t] = en at *;obtain ⟨⟨k1, n1⟩, f1, f2⟩ := en;unfold accE at HC
    (try dsimp only at c0 c1 HC)
    go_wp2_with fail
    refine HC.out.mono ?_;rintro e w' ⟨rfl, hb'⟩;dsimp only;go_wp2
    go_roundw
    case rel => exact ⟨t + 1, by go_num, by omega, hideIt ⟨HF.out, hb'⟩⟩
    case measure => simp [intOf]; omega
   ·rw [hq] at HC;have HF : Hid (idxI p l = (t : Int)) := by
     show _ = _
     unfold idxI;rw [HR.out.1, fi_hit hlt hq]
     simp
    clear HR hq;generalize l[t] = en at *;obtain ⟨⟨k1, n1⟩, f1, f2⟩ := en;unfold accE at HC
    (try dsimp only at c0 c1 HC)
    go_wp2_with fail
    refine HC.out.mono ?_;rintro e w' ⟨rfl, hb'⟩;dsimp only;go_wp2;go_ret
    exact ⟨by rw [HF.out]; rfl, hb'⟩
  ·have hltI : ¬ (t : Int) < (l.length : Int) := by omega
   have HF : Hid (idxI p l = -1) := by
    show _ = _
    unfold idxI;rw [HR.out.1, List.drop_of_length_le (by omega)]
    rfl
   have HB := hideIt HR.out.2;clear HR HP HH;go_wp2;go_ret
   exact ⟨by rw [HF.out]; rfl, HB.out⟩
set_option maxHeartbeats 4000000 in
theorem containsAc_is (g : Nat) (lb : Array Value) (eg : ∀ args w, (callFunc g args).run Tryz.prog w = .ok (.enter g args) w) (v : Value) (l : List AccX) (p : AccX → Bool) (w : World) (h : Accs w v l) (hp : ∀ x ∈ l, ∀ W, Below w.heap.size w W → Calls Tryz.prog g (#[.agg (accE x).toArray] ++ lb) W fun e w' => e = .returned (.bool (p x)) ∧ Below w.heap.size w w') :
  Calls Tryz.prog 36 #[v, .func (.func g) #[] lb] w fun e w' => e = .returned (.bool (l.any p)) ∧ Below w.heap.size w w' := by
 have HC := hideIt (indexAc_is g lb eg v l p w h hp);obtain ⟨a, c, rfl, h8, hr⟩ := h.two;clear hr h hp;have HE := hideIt (idx_any p l);generalize idxI p l = r at *;generalize l.any p = q at *
 go_enter Tryz.func36, Tryz.ntmps36
 go_wp2_with fail
 refine HC.out.mono ?_;rintro e w1 ⟨rfl, hb⟩;dsimp only;go_wp2;go_ret
 exact ⟨by rw [HE.out]; rfl, hb⟩
set_option maxHeartbeats 4000000 in
theorem indexLn_is (g : Nat) (lb : Array Value) (eg : ∀ args w, (callFunc g args).run Tryz.prog w = .ok (.enter g args) w) (v : Value) (l : List LanX) (p : LanX → Bool) (w : World) (h : Lns w v l) (hp : ∀ x ∈ l, ∀ W, Below w.heap.size w W → Calls Tryz.prog g (#[.agg (lanE x).toArray] ++ lb) W fun e w' => e = .returned (.bool (p x)) ∧ Below w.heap.size w w') :
  Calls Tryz.prog 64 #[v, .func (.func g) #[] lb] w fun e w' => e = .returned (.int .i64 (idxI p l)) ∧ Below w.heap.size w w' := by
 obtain ⟨a, c, rfl, h8, hr⟩ := h.five;have HH := hideIt hr;have HP := hideIt hp;clear hr h hp
 go_enter Tryz.func64, Tryz.ntmps64
 go_wp2
 go_loopw [5, 8] (fun _ v wr => ∃ t : Nat, v = .int .i64 t ∧ t ≤ l.length ∧ Hid (l.findIdx? p = ((l.drop t).findIdx? p).map (· + t) ∧ Below w.heap.size w wr)) (fun _ v _ => l.length - (intOf v).toNat)
 case atStart => exact ⟨0, rfl, Nat.zero_le _, hideIt ⟨by simp, Below.refl _ _⟩⟩
 case round =>
  obtain ⟨t, rfl, ht, HR⟩ := hrel
  by_cases hlt : t < l.length
  ·have hltI : (t : Int) < (l.length : Int) := by omega
   have ht0 : (0 : Int) ≤ (t : Int) := by omega
   have hw : IntKind.i64.wrap ((t : Int) + 1) = (t : Int) + 1 := by rw [IntKind.wrap_i64]; omega
   obtain ⟨b, off, rfl, hbl, q0, q1, q2, q3, q4⟩ := HH.out t hlt;have hB := HR.out.2;have hBS := hB.size;have hblr : b < wr.heap.size := by omega
   have c0 := ((HR.out.2).cell (p := ⟨b, off + t * 5, none⟩) hbl).trans q0;have c1 := ((HR.out.2).cell (p := ⟨b, off + t * 5 + 1, none⟩) hbl).trans q1;have c2 := ((HR.out.2).cell (p := ⟨b, off + t * 5 + 2, none⟩) hbl).trans q2;have c3 := ((HR.out.2).cell (p := ⟨b, off + t * 5 + 3, none⟩) hbl).trans q3;have c4 := ((HR.out.2).cell (p := ⟨b, off + t * 5 + 4, none⟩) hbl).trans q4;clear q0 q1 q2 q3 q4;have HC := hideIt (HP.out l[t] (List.getElem_mem hlt) wr hB);clear HH HP hB hBS hbl;cases hq : p l[t]
   ·rw [hq] at HC;have HF : Hid (l.findIdx? p = ((l.drop (t + 1)).findIdx? p).map (· + (t + 1))) := by
     show _ = _
     rw [HR.out.1, fi_miss hlt hq, Option.map_map]
     congr 1
     funext x
     simp only [Function.comp];omega
    clear HR hq;generalize l[t] = en at *;obtain ⟨⟨k1, n1, l1, l2, l3⟩, f1, f2, f3, f4, f5, f6⟩ := en;unfold lanE at HC
    (try dsimp only at c0 c1 c2 c3 c4 HC)
    go_wp2_with fail
    refine HC.out.mono ?_;rintro e w' ⟨rfl, hb'⟩;dsimp only;go_wp2
    go_roundw
    case rel => exact ⟨t + 1, by go_num, by omega, hideIt ⟨HF.out, hb'⟩⟩
    case measure => simp [intOf]; omega
   ·rw [hq] at HC;have HF : Hid (idxI p l = (t : Int)) := by
     show _ = _
     unfold idxI;rw [HR.out.1, fi_hit hlt hq]
     simp
    clear HR hq;generalize l[t] = en at *;obtain ⟨⟨k1, n1, l1, l2, l3⟩, f1, f2, f3, f4, f5, f6⟩ := en;unfold lanE at HC
    (try dsimp only at c0 c1 c2 c3 c4 HC)
    go_wp2_with fail
    refine HC.out.mono ?_;rintro e w' ⟨rfl, hb'⟩;dsimp only;go_wp2;go_ret
    exact ⟨by rw [HF.out]; rfl, hb'⟩
  ·have hltI : ¬ (t : Int) < (l.length : Int) := by omega
   have HF : Hid (idxI p l = -1) := by
    show _ = _
    unfold idxI;rw [HR.out.1, List.drop_of_length_le (by omega)]
    rfl
   have HB := hideIt HR.out.2;clear HR HP HH;go_wp2;go_ret
   exact ⟨by rw [HF.out]; rfl, HB.out⟩
set_option maxHeartbeats 4000000 in
theorem containsLn_is (g : Nat) (lb : Array Value) (eg : ∀ args w, (callFunc g args).run Tryz.prog w = .ok (.enter g args) w) (v : Value) (l : List LanX) (p : LanX → Bool) (w : World) (h : Lns w v l) (hp : ∀ x ∈ l, ∀ W, Below w.heap.size w W → Calls Tryz.prog g (#[.agg (lanE x).toArray] ++ lb) W fun e w' => e = .returned (.bool (p x)) ∧ Below w.heap.size w w') :
  Calls Tryz.prog 39 #[v, .func (.func g) #[] lb] w fun e w' => e = .returned (.bool (l.any p)) ∧ Below w.heap.size w w' := by
 have HC := hideIt (indexLn_is g lb eg v l p w h hp);obtain ⟨a, c, rfl, h8, hr⟩ := h.five;clear hr h hp;have HE := hideIt (idx_any p l);generalize idxI p l = r at *;generalize l.any p = q at *
 go_enter Tryz.func39, Tryz.ntmps39
 go_wp2_with fail
 refine HC.out.mono ?_;rintro e w1 ⟨rfl, hb⟩;dsimp only;go_wp2;go_ret
 exact ⟨by rw [HE.out]; rfl, hb⟩
end Go.Proofs.YtiinigifjdpicaaGreatDoor
