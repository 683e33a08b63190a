/- The statement on what a book holds, walked. -/
import Derived.Test.YtlffcoefejhabaaAwK
namespace Go.Proofs.Ytlffcoefejhabaa
open Go.RowKit
set_option linter.all false
set_option maxHeartbeats 16000000 in
set_option maxRecDepth 100000 in
theorem hold_walk (L : LaneV) (b a o : Value) (acc s price n : Int) (now : Bool) (w : World) (h : Lan w L b a o) : Calls Try.prog 7 #[laneV L b a o, .agg #[.int .i64 acc, .int .i64 s, .int .i64 price, .int .i64 n, .bool now]] w fun e w' => e = .returned (.bool true) ∧ Below w.heap.size w w' := by
  have HV := hideIt (fun W => live_is W)
  have HP := hideIt (fun W hL => place_is L b a o acc s price n now W hL)
  have HH := hideIt (fun L b a o W hL => holds_is L b a o W hL)
  have A0 := hideIt (AW.first acc s price n now h)
  have NB := hideIt (fun h => now_bad (L := L) (acc := acc) (s := s) (price := price) (n := n) (now := now) h)
  have NO := hideIt (fun h => And.intro (placeL_may (L := L) (acc := acc) (s := s) (price := price) (n := n) (now := now) h) (And.intro (hold_placed h) (refE_ok (place_ok h).1)))
  have HCA := hideIt (fun L1 b1 a1 o1 id W hL => cancel_is L1 b1 a1 o1 acc id W hL)
  have hlen := place_len (L := L)
  unfold PlBack laneV laneA at HP
  unfold CnBack laneV laneA at HCA
  unfold laneV laneA at HH
  unfold laneV laneA
  obtain ⟨ba, bc, rfl⟩ := h.bids.slice
  obtain ⟨aa, ac, rfl⟩ := h.asks.slice
  obtain ⟨oa, oc, rfl⟩ := h.owed.slice
  clear h hlen
  generalize placeL L acc s price n now = PX at *
  obtain ⟨L1, F, id, er⟩ := PX
  simp only at NB NO HP
  obtain ⟨⟨i0, i1, i2, i3, i4⟩, _, _⟩ := five_at A0.out.b2
  obtain ⟨⟨d0, d1, d2, d3, d4⟩, _, _⟩ := five_at A0.out.b3
  go_enter Try.func7, Try.ntmps7
  go_wp2_with fail
  refine (HP.out _ A0.out.la).mono ?_
  rintro e w3 ⟨b1, a1, o1, f1, rfl, hob, hoa, hoo, hfl, hb⟩
  dsimp only
  obtain ⟨b1a, b1c, rfl⟩ := own_len hob
  obtain ⟨a1a, a1c, rfl⟩ := own_len hoa
  obtain ⟨o1a, o1c, rfl⟩ := own_len hoo
  have hb4 := below1 w3 (.cells #[.bool L1.call, .int .i64 L1.next, .slice b1a L1.bids.length b1c, .slice a1a L1.asks.length a1c, .slice o1a L1.owed.length o1c] 25)
  have hbb := below_via hb hb4
  have A4 := hideIt (A0.out.keep hbb)
  have HPM := hideIt (fun h => PW.new (L := L1) h hob hoa hoo)
  clear hob hoa hoo hfl hb hb4 hbb A0 HP i0 i1 i2 i3 i4 d0 d1 d2 d3 d4
  go_upto_region 2 with fail
  generalize w3.alloc (.cells #[.bool L1.call, .int .i64 L1.next, .slice b1a L1.bids.length b1c, .slice a1a L1.asks.length a1c, .slice o1a L1.owed.length o1c] 25) = w4 at *
  generalize w3.heap.size = k5 at *
  by_cases he : er = 0
  · subst he
    obtain ⟨hk1, ⟨hp1, hp2⟩, hk, hs, hpr, hn, _⟩ := NO.out rfl
    have hbd := hol_bd hk
    have P4 := hideIt (HPM.out hk1)
    have HHL := hideIt (HH.out L _ _ _ _ A4.out.la)
    rw [show holR L = (holM L, holG L, 0) by unfold holR; rw [if_pos hk]] at HHL
    have HHM := hideIt (fun W hL => HH.out L1 (.slice b1a L1.bids.length b1c) (.slice a1a L1.asks.length a1c) (.slice o1a L1.owed.length o1c) W hL)
    rw [show holR L1 = (holM L1, holG L1, 0) by unfold holR; rw [if_pos hk1], hp1, hp2] at HHM
    simp only at HHL HHM
    have HCC := hideIt (can_cases L1 acc id hk1)
    have HCM := hideIt (fun h => canR_may (L := L1) (acc := acc) (id := id) h)
    replace HCA := hideIt (fun W hL => HCA.out L1 (.slice b1a L1.bids.length b1c) (.slice a1a L1.asks.length a1c) (.slice o1a L1.owed.length o1c) id W hL)
    have hmn := mul_bd hpr hn
    clear NO NB HPM
    generalize holM L = hm at *
    generalize holG L = hg at *
    clear hk
    rcases hs with rfl | rfl
    · simp only [if_true, Int.add_zero] at hp1 hp2 HHM
      obtain ⟨⟨i0, i1, i2, i3, i4⟩, _, _⟩ := five_at A4.out.b2
      go_wp2_with fail
      refine HHL.out.mono ?_
      rintro e w5 ⟨rfl, hb⟩
      dsimp only
      have A5 := hideIt (A4.out.keep hb)
      have P5 := hideIt (P4.out.keep hb)
      clear hb A4 P4 HHL i0 i1 i2 i3 i4
      obtain ⟨⟨i0, i1, i2, i3, i4⟩, _, _⟩ := five_at P5.out.bk
      go_wp2_with fail
      refine (HHM.out _ P5.out.la).mono ?_
      rintro e w6 ⟨rfl, hb⟩
      dsimp only
      have A6 := hideIt (A5.out.keep hb)
      have P6 := hideIt (P5.out.keep hb)
      clear hb A5 P5 HHM i0 i1 i2 i3 i4
      obtain ⟨⟨d0, d1, d2, d3, d4⟩, _, _⟩ := five_at A6.out.b3
      have hw1 : IntKind.i64.wrap (price * n) = price * n := by rw [IntKind.wrap_i64]; omega
      have hw2 : IntKind.i64.wrap (hm + price * n) = hm + price * n := by rw [IntKind.wrap_i64]; omega
      have hw3 : IntKind.i64.wrap (hg + n) = hg + n := by rw [IntKind.wrap_i64]; omega
      go_upto_region 13 with fail
      clear d0 d1 d2 d3 d4
      generalize hcr : canR L1 acc id = CX at *
      obtain ⟨N, lf, ce⟩ := CX
      simp only at HCC HCM
      clear hcr
      obtain ⟨⟨i0, i1, i2, i3, i4⟩, _, _⟩ := five_at P6.out.bk
      obtain ⟨⟨d0, d1, d2, d3, d4⟩, _, _⟩ := five_at A6.out.b3
      have HCN := hideIt (HCA.out _ P6.out.la)
      clear HCA
      go_wp2_with fail
      refine HCN.out.mono ?_
      rintro e w7 ⟨b2, a2, o2, rfl, hob, hoa, hoo, hb⟩
      dsimp only
      obtain ⟨b2a, b2c, rfl⟩ := own_len hob
      obtain ⟨a2a, a2c, rfl⟩ := own_len hoa
      obtain ⟨o2a, o2c, rfl⟩ := own_len hoo
      have hb8 := below1 w7 (.cells #[.bool N.call, .int .i64 N.next, .slice b2a N.bids.length b2c, .slice a2a N.asks.length a2c, .slice o2a N.owed.length o2c] 25)
      have hbb := below_via hb hb8
      have A8 := hideIt (A6.out.keep hbb)
      have HPN := hideIt (fun h => PW.new (L := N) h hob hoa hoo)
      clear hob hoa hoo hb hb8 hbb A6 P6 HCN i0 i1 i2 i3 i4 d0 d1 d2 d3 d4
      go_upto_region 14 with fail
      generalize w7.alloc (.cells #[.bool N.call, .int .i64 N.next, .slice b2a N.bids.length b2c, .slice a2a N.asks.length a2c, .slice o2a N.owed.length o2c] 25) = w8 at *
      generalize w7.heap.size = k15 at *
      rcases HCC.out with rfl | rfl | ⟨rfl, hn1, hn2⟩
      · go_wp2_with fail
        refine (HV.out _).mono ?_
        rintro e wl ⟨rfl, hb⟩
        dsimp only
        have HB := hideIt (below_via A8.out.bel hb)
        clear hb
        go_wp2
        go_ret
        exact ⟨rfl, HB.out⟩
      · go_wp2_with fail
        refine (HV.out _).mono ?_
        rintro e wl ⟨rfl, hb⟩
        dsimp only
        have HB := hideIt (below_via A8.out.bel hb)
        clear hb
        go_wp2
        go_ret
        exact ⟨rfl, HB.out⟩
      · have hkN := HCM.out rfl
        have P8 := hideIt (HPN.out hkN)
        have HHN := hideIt (HH.out N _ _ _ _ P8.out.la)
        rw [show holR N = (holM N, holG N, 0) by unfold holR; rw [if_pos hkN], hn1, hn2, hp1, hp2] at HHN
        simp only at HHN
        obtain ⟨⟨i0, i1, i2, i3, i4⟩, _, _⟩ := five_at P8.out.bk
        clear HPN HH hn1 hn2 hp1 hp2 hkN HCM P8
        go_wp2_with fail
        refine HHN.out.mono ?_
        rintro e w9 ⟨rfl, hb⟩
        dsimp only
        have A9 := hideIt (A8.out.keep hb)
        clear hb A8 HHN i0 i1 i2 i3 i4
        go_wp2_with fail
        refine (HV.out _).mono ?_
        rintro e wl ⟨rfl, hb⟩
        dsimp only
        have HB := hideIt (below_via A9.out.bel hb)
        clear hb
        go_wp2
        go_ret
        exact ⟨rfl, HB.out⟩
    · simp only [show ¬ (2 : Int) = 1 by omega, if_false, Int.add_zero] at hp1 hp2 HHM
      obtain ⟨⟨i0, i1, i2, i3, i4⟩, _, _⟩ := five_at A4.out.b2
      go_wp2_with fail
      refine HHL.out.mono ?_
      rintro e w5 ⟨rfl, hb⟩
      dsimp only
      have A5 := hideIt (A4.out.keep hb)
      have P5 := hideIt (P4.out.keep hb)
      clear hb A4 P4 HHL i0 i1 i2 i3 i4
      obtain ⟨⟨i0, i1, i2, i3, i4⟩, _, _⟩ := five_at P5.out.bk
      go_wp2_with fail
      refine (HHM.out _ P5.out.la).mono ?_
      rintro e w6 ⟨rfl, hb⟩
      dsimp only
      have A6 := hideIt (A5.out.keep hb)
      have P6 := hideIt (P5.out.keep hb)
      clear hb A5 P5 HHM i0 i1 i2 i3 i4
      obtain ⟨⟨d0, d1, d2, d3, d4⟩, _, _⟩ := five_at A6.out.b3
      have hw1 : IntKind.i64.wrap (price * n) = price * n := by rw [IntKind.wrap_i64]; omega
      have hw2 : IntKind.i64.wrap (hm + price * n) = hm + price * n := by rw [IntKind.wrap_i64]; omega
      have hw3 : IntKind.i64.wrap (hg + n) = hg + n := by rw [IntKind.wrap_i64]; omega
      go_upto_region 13 with fail
      clear d0 d1 d2 d3 d4
      generalize hcr : canR L1 acc id = CX at *
      obtain ⟨N, lf, ce⟩ := CX
      simp only at HCC HCM
      clear hcr
      obtain ⟨⟨i0, i1, i2, i3, i4⟩, _, _⟩ := five_at P6.out.bk
      obtain ⟨⟨d0, d1, d2, d3, d4⟩, _, _⟩ := five_at A6.out.b3
      have HCN := hideIt (HCA.out _ P6.out.la)
      clear HCA
      go_wp2_with fail
      refine HCN.out.mono ?_
      rintro e w7 ⟨b2, a2, o2, rfl, hob, hoa, hoo, hb⟩
      dsimp only
      obtain ⟨b2a, b2c, rfl⟩ := own_len hob
      obtain ⟨a2a, a2c, rfl⟩ := own_len hoa
      obtain ⟨o2a, o2c, rfl⟩ := own_len hoo
      have hb8 := below1 w7 (.cells #[.bool N.call, .int .i64 N.next, .slice b2a N.bids.length b2c, .slice a2a N.asks.length a2c, .slice o2a N.owed.length o2c] 25)
      have hbb := below_via hb hb8
      have A8 := hideIt (A6.out.keep hbb)
      have HPN := hideIt (fun h => PW.new (L := N) h hob hoa hoo)
      clear hob hoa hoo hb hb8 hbb A6 P6 HCN i0 i1 i2 i3 i4 d0 d1 d2 d3 d4
      go_upto_region 14 with fail
      generalize w7.alloc (.cells #[.bool N.call, .int .i64 N.next, .slice b2a N.bids.length b2c, .slice a2a N.asks.length a2c, .slice o2a N.owed.length o2c] 25) = w8 at *
      generalize w7.heap.size = k15 at *
      rcases HCC.out with rfl | rfl | ⟨rfl, hn1, hn2⟩
      · go_wp2_with fail
        refine (HV.out _).mono ?_
        rintro e wl ⟨rfl, hb⟩
        dsimp only
        have HB := hideIt (below_via A8.out.bel hb)
        clear hb
        go_wp2
        go_ret
        exact ⟨rfl, HB.out⟩
      · go_wp2_with fail
        refine (HV.out _).mono ?_
        rintro e wl ⟨rfl, hb⟩
        dsimp only
        have HB := hideIt (below_via A8.out.bel hb)
        clear hb
        go_wp2
        go_ret
        exact ⟨rfl, HB.out⟩
      · have hkN := HCM.out rfl
        have P8 := hideIt (HPN.out hkN)
        have HHN := hideIt (HH.out N _ _ _ _ P8.out.la)
        rw [show holR N = (holM N, holG N, 0) by unfold holR; rw [if_pos hkN], hn1, hn2, hp1, hp2] at HHN
        simp only at HHN
        obtain ⟨⟨i0, i1, i2, i3, i4⟩, _, _⟩ := five_at P8.out.bk
        clear HPN HH hn1 hn2 hp1 hp2 hkN HCM P8
        go_wp2_with fail
        refine HHN.out.mono ?_
        rintro e w9 ⟨rfl, hb⟩
        dsimp only
        have A9 := hideIt (A8.out.keep hb)
        clear hb A8 HHN i0 i1 i2 i3 i4
        go_wp2_with fail
        refine (HV.out _).mono ?_
        rintro e wl ⟨rfl, hb⟩
        dsimp only
        have HB := hideIt (below_via A9.out.bel hb)
        clear hb
        go_wp2
        go_ret
        exact ⟨rfl, HB.out⟩
  · have h0 := NB.out he
    subst h0
    go_wp2_with fail
    refine (HV.out _).mono ?_
    rintro e wl ⟨rfl, hb⟩
    dsimp only
    have HB := hideIt (below_via A4.out.bel hb)
    clear hb
    go_wp2
    go_ret
    exact ⟨rfl, HB.out⟩
end Go.Proofs.Ytlffcoefejhabaa
