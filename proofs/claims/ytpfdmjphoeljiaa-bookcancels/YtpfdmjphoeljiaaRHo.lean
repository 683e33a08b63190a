/- The document's Holds. -/
import Derived.Test.YtpfdmjphoeljiaaRCh
import Derived.Test.YtpfdmjphoeljiaaHld
namespace Go.Proofs.Ytpfdmjphoeljiaa
open Go.RowKit
set_option linter.all false
set_option maxHeartbeats 8000000 in
set_option maxRecDepth 100000 in
theorem rHolds_is (L : LaneV) (b a o : Value) (w : World) (h : Lan w L b a o) : Calls Try.prog 15 #[laneV L b a o] w fun e w' => e = .returned (.tuple #[.int .i64 (holR L).1, .int .i64 (holR L).2.1, .int .i64 (holR L).2.2]) ∧ Below w.heap.size w w' := by
  have HB0 := hideIt (below1 w (.cells (laneA L b a o) 25))
  have HX0 := hideIt (heap_alloc_new w (.cells (laneA L b a o) 25))
  have HC := hideIt (rCheck_is L b a o _ (h.keep HB0.out))
  obtain ⟨ba, bc, rfl, b8, hb⟩ := h.bids.ords
  obtain ⟨aa, ac, rfl, a8, ha⟩ := h.asks.ords
  obtain ⟨oa, oc, rfl, o8, ho⟩ := h.owed.owes
  have HB := hideIt hb
  have HA := hideIt ha
  have HO := hideIt ho
  clear h hb ha ho
  unfold laneV holR
  unfold laneA at *
  obtain ⟨⟨c0, c1, c2, c3, c4⟩, -, cl0⟩ := five_at HX0.out
  cases hk : chkB L
  · rw [show chkI L = 130 by unfold chkI; rw [hk]; rfl] at HC
    simp only [Bool.false_eq_true, if_false]
    clear hk
    go_enter Try.func15, Try.ntmps15
    go_wp2_with fail
    refine HC.out.mono ?_
    rintro e w1 ⟨rfl, hb⟩
    dsimp only
    have HB1 := hideIt (below_via HB0.out hb)
    clear hb
    go_wp2
    go_ret3
    exact ⟨rfl, HB1.out⟩
  · have hm := chk_may hk
    rw [show chkI L = 0 by unfold chkI; rw [hk]; rfl] at HC
    have HTB := hideIt hm.tb
    have HTA := hideIt hm.ta
    have HLP := hideIt (fun t => sumP_b40 hm.tb hm.lb t)
    have HLQ := hideIt (fun t => sumQ_b40 hm.ta hm.la t)
    have HLA := hideIt (fun (a : Int) t => sumA_b16 (a := a) hm.ow t)
    have HOY : Hid (∀ y ∈ L.owed, (0 ≤ y.asset ∧ y.asset ≤ 1) ∧ (0 ≤ y.n ∧ y.n ≤ 9007199254740992)) := fun y hy => by
      have h1 := (owed_owok ((chk_bok L).1 hk).ow).2 y hy
      have h2 := hm.ow.2 y hy
      omega
    simp only [if_true]
    unfold holM holG
    clear hk hm
    go_enter Try.func15, Try.ntmps15
    go_wp2_with fail
    refine HC.out.mono ?_
    rintro e w1 ⟨rfl, hb⟩
    dsimp only
    have HB1 := hideIt (below_via HB0.out hb)
    have HX1 := hideIt (blkK HX0.out hb)
    clear hb HC HB0 HX0 c0 c1 c2 c3 c4 cl0
    go_upto_region 6 with fail
    go_loopw [5, 7] (fun u v wr => ∃ (t : Nat) (sm : Int), u = .int .i64 sm ∧ v = .int .i64 t ∧ t ≤ L.bids.length ∧ Hid (Below w1.heap.size w1 wr ∧ sm = sumP (L.bids.take t))) (fun _ v _ => L.bids.length - (intOf v).toNat)
    case atStart => exact ⟨0, 0, rfl, rfl, Nat.zero_le _, hideIt ⟨Below.refl _ _, by simp [sumP]⟩⟩
    case round =>
      obtain ⟨t, sm, rfl, rfl, ht, HR⟩ := hrel
      by_cases hlt : t < L.bids.length
      · have hltI : (t : Int) < (L.bids.length : Int) := by omega
        have ht0 : (0 : Int) ≤ (t : Int) := by omega
        have hw2 : IntKind.i64.wrap ((t : Int) + 1) = ((t + 1 : Nat) : Int) := by rw [IntKind.wrap_i64]; omega
        have hBw := below_via HB1.out HR.out.1
        obtain ⟨⟨c0, c1, c2, c3, c4⟩, -, cl0⟩ := five_at (blkK HX1.out HR.out.1)
        have HBR := hideIt HR.out.1
        obtain ⟨kb, off, rfl, hbl, q0, q1, q2, q3⟩ := HB.out t hlt
        have hblr : kb < wr.heap.size := Nat.lt_of_lt_of_le hbl hBw.size
        have d2 := (hBw.cell (p := ⟨kb, off + t * 4 + 2, none⟩) hbl).trans q2
        have d3 := (hBw.cell (p := ⟨kb, off + t * 4 + 3, none⟩) hbl).trans q3
        have HST := hideIt (sumP_take hlt)
        have s0 := HLP.out t
        have hsm := HR.out.2
        have hpr := HTB.out _ (List.getElem_mem hlt)
        have hmb := mul_bd hpr.1 hpr.2
        clear q0 q1 q2 q3 hBw HR
        generalize L.bids[t] = ge at *
        obtain ⟨_, _, gp, gl⟩ := ge
        dsimp only at d2 d3 HST hmb
        have hw3 : IntKind.i64.wrap (gp * gl) = gp * gl := by rw [IntKind.wrap_i64]; omega
        have hw4 : IntKind.i64.wrap (sm + gp * gl) = sm + gp * gl := by rw [IntKind.wrap_i64]; omega
        have HNX : Hid (sm + gp * gl = sumP (L.bids.take (t + 1))) := by
          show _ = _
          rw [HST.out]
          omega
        clear hsm s0 HST hpr
        go_upto_region 8 with fail
        go_quiet (fail)
        go_wp2
        go_roundw
        case rel => exact ⟨t + 1, _, rfl, by go_num, by omega, hideIt ⟨below_drewN HBR.out _, HNX.out⟩⟩
        case measure => simp [intOf]; omega
      have hltI : ¬ (t : Int) < (L.bids.length : Int) := by omega
      have het : L.bids.take t = L.bids := List.take_of_length_le (by omega)
      rw [het] at HR
      obtain ⟨⟨c0, c1, c2, c3, c4⟩, -, cl0⟩ := five_at (blkK HX1.out HR.out.1)
      have HSP := hideIt HR.out.2
      have R1 := hideIt HR.out.1
      have sB := HLP.out L.bids.length
      rw [List.take_of_length_le (Nat.le_refl _), ← HSP.out] at sB
      clear HR het ht HLP HTB HB
      generalize sm = mP at *
      go_upto_region 10 with fail
      clear c0 c1 c2 c3 c4 cl0 hltI
      go_loopw [6, 8] (fun u v wr2 => ∃ (t : Nat) (sm : Int), u = .int .i64 sm ∧ v = .int .i64 t ∧ t ≤ L.asks.length ∧ Hid (Below w1.heap.size w1 wr2 ∧ sm = sumQ (L.asks.take t))) (fun _ v _ => L.asks.length - (intOf v).toNat)
      case atStart => exact ⟨0, 0, rfl, rfl, Nat.zero_le _, hideIt ⟨R1.out, by simp [sumQ]⟩⟩
      case round =>
        clear R1
        obtain ⟨t, sm, rfl, rfl, ht, HR⟩ := hrel
        by_cases hlt : t < L.asks.length
        · have hltI : (t : Int) < (L.asks.length : Int) := by omega
          have ht0 : (0 : Int) ≤ (t : Int) := by omega
          have hw2 : IntKind.i64.wrap ((t : Int) + 1) = ((t + 1 : Nat) : Int) := by rw [IntKind.wrap_i64]; omega
          have hBw := below_via HB1.out HR.out.1
          obtain ⟨⟨c0, c1, c2, c3, c4⟩, -, cl0⟩ := five_at (blkK HX1.out HR.out.1)
          have HBR := hideIt HR.out.1
          obtain ⟨kb, off, rfl, hbl, q0, q1, q2, q3⟩ := HA.out t hlt
          have hblr : kb < wr.heap.size := Nat.lt_of_lt_of_le hbl hBw.size
          have d3 := (hBw.cell (p := ⟨kb, off + t * 4 + 3, none⟩) hbl).trans q3
          have HST := hideIt (sumQ_take hlt)
          have s0 := HLQ.out t
          have hsm := HR.out.2
          have hpr := HTA.out _ (List.getElem_mem hlt)
          clear q0 q1 q2 q3 hBw HR
          generalize L.asks[t] = ge at *
          obtain ⟨_, _, gp, gl⟩ := ge
          dsimp only at d3 HST hpr
          have hw4 : IntKind.i64.wrap (sm + gl) = sm + gl := by rw [IntKind.wrap_i64]; omega
          have HNX : Hid (sm + gl = sumQ (L.asks.take (t + 1))) := by
            show _ = _
            rw [HST.out]
            omega
          clear hsm s0 HST hpr
          go_wp2
          go_roundw
          case rel => exact ⟨t + 1, _, rfl, by go_num, by omega, hideIt ⟨HBR.out, HNX.out⟩⟩
          case measure => simp [intOf]; omega
        have hltI : ¬ (t : Int) < (L.asks.length : Int) := by omega
        have het : L.asks.take t = L.asks := List.take_of_length_le (by omega)
        rw [het] at HR
        obtain ⟨⟨c0, c1, c2, c3, c4⟩, -, cl0⟩ := five_at (blkK HX1.out HR.out.1)
        have HSQ := hideIt HR.out.2
        have R1 := hideIt HR.out.1
        have sA := HLQ.out L.asks.length
        rw [List.take_of_length_le (Nat.le_refl _), ← HSQ.out] at sA
        clear HR het ht HLQ HTA HA
        generalize sm = mQ at *
        go_upto_region 14 with fail
        clear c0 c1 c2 c3 c4 cl0 hltI
        go_loopw [5, 6, 9] (fun u1 u2 v wr3 => ∃ (t : Nat) (m1 m2 : Int), u1 = .int .i64 m1 ∧ u2 = .int .i64 m2 ∧ v = .int .i64 t ∧ t ≤ L.owed.length ∧ Hid (Below w1.heap.size w1 wr3 ∧ m1 = mP + sumA 0 (L.owed.take t) ∧ m2 = mQ + sumA 1 (L.owed.take t))) (fun _ _ v _ => L.owed.length - (intOf v).toNat)
        case atStart => exact ⟨0, mP, mQ, rfl, rfl, rfl, Nat.zero_le _, hideIt ⟨R1.out, by simp [sumA], by simp [sumA]⟩⟩
        case round =>
          clear R1
          obtain ⟨t, m1, m2, rfl, rfl, rfl, ht, HR⟩ := hrel
          by_cases hlt : t < L.owed.length
          · have hltI : (t : Int) < (L.owed.length : Int) := by omega
            have ht0 : (0 : Int) ≤ (t : Int) := by omega
            have hw2 : IntKind.i64.wrap ((t : Int) + 1) = ((t + 1 : Nat) : Int) := by rw [IntKind.wrap_i64]; omega
            have hBw := below_via HB1.out HR.out.1
            obtain ⟨⟨c0, c1, c2, c3, c4⟩, -, cl0⟩ := five_at (blkK HX1.out HR.out.1)
            have HBR := hideIt HR.out.1
            obtain ⟨kb, off, rfl, hbl, q0, q1, q2⟩ := HO.out t hlt
            have hblr : kb < wr.heap.size := Nat.lt_of_lt_of_le hbl hBw.size
            have d1 := (hBw.cell (p := ⟨kb, off + t * 3 + 1, none⟩) hbl).trans q1
            have d2 := (hBw.cell (p := ⟨kb, off + t * 3 + 2, none⟩) hbl).trans q2
            have HS0 := hideIt (sumA_take (a := 0) hlt)
            have HS1 := hideIt (sumA_take (a := 1) hlt)
            have s0 := HLA.out 0 t
            have s1 := HLA.out 1 t
            have hm1 := HR.out.2.1
            have hm2 := HR.out.2.2
            have hy := HOY.out _ (List.getElem_mem hlt)
            clear q0 q1 q2 hBw HR
            generalize L.owed[t] = ge at *
            obtain ⟨_, es, en⟩ := ge
            dsimp only at d1 d2 HS0 HS1 hy
            have hes : es = 0 ∨ es = 1 := by omega
            rcases hes with rfl | rfl
            · have hw4 : IntKind.i64.wrap (m1 + en) = m1 + en := by rw [IntKind.wrap_i64]; omega
              have HNX : Hid (m1 + en = mP + sumA 0 (L.owed.take (t + 1)) ∧ m2 = mQ + sumA 1 (L.owed.take (t + 1))) := by
                show _ ∧ _
                rw [HS0.out, HS1.out]
                simp
                omega
              clear hm1 hm2 s0 s1 HS0 HS1
              go_wp2
              go_roundw
              case rel => exact ⟨t + 1, _, _, rfl, rfl, by go_num, by omega, hideIt ⟨HBR.out, HNX.out⟩⟩
              case measure => simp [intOf]; omega
            · have hw4 : IntKind.i64.wrap (m2 + en) = m2 + en := by rw [IntKind.wrap_i64]; omega
              have HNX : Hid (m1 = mP + sumA 0 (L.owed.take (t + 1)) ∧ m2 + en = mQ + sumA 1 (L.owed.take (t + 1))) := by
                show _ ∧ _
                rw [HS0.out, HS1.out]
                simp
                omega
              clear hm1 hm2 s0 s1 HS0 HS1
              go_wp2
              go_roundw
              case rel => exact ⟨t + 1, _, _, rfl, rfl, by go_num, by omega, hideIt ⟨HBR.out, HNX.out⟩⟩
              case measure => simp [intOf]; omega
          have hltI : ¬ (t : Int) < (L.owed.length : Int) := by omega
          have het : L.owed.take t = L.owed := List.take_of_length_le (by omega)
          rw [het, HSP.out, HSQ.out] at HR
          obtain ⟨⟨c0, c1, c2, c3, c4⟩, -, cl0⟩ := five_at (blkK HX1.out HR.out.1)
          have HF := hideIt HR.out.2
          have R1 := hideIt (below_via HB1.out HR.out.1)
          clear HR het ht HLA HO HSP HSQ sA sB
          go_wp2
          go_ret3
          exact ⟨by rw [← HF.out.1, ← HF.out.2]; rfl, R1.out⟩
end Go.Proofs.Ytpfdmjphoeljiaa
