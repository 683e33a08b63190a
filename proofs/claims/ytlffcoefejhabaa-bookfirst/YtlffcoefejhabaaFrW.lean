/- The statement on the older of two orders, walked. -/
import Derived.Test.YtlffcoefejhabaaOwK
import Derived.Test.YtlffcoefejhabaaFrP
namespace Go.Proofs.Ytlffcoefejhabaa
open Go.RowKit
set_option linter.all false
set_option maxHeartbeats 16000000 in
set_option maxRecDepth 100000 in
theorem first_walk (L : LaneV) (b a o : Value) (acc s price n : Int) (now : Bool) (c : Int) (w : World) (h : Lan w L b a o) : Calls Try.prog 5 #[laneV L b a o, .agg #[.int .i64 acc, .int .i64 s, .int .i64 price, .int .i64 n, .bool now], .int .i64 c] w fun e w' => e = .returned (.bool true) ∧ Below w.heap.size w w' := by
  have HV := hideIt (fun W => live_is W)
  have HC := hideIt (fun W hL => check_is L b a o W hL)
  have HP := hideIt (fun L b a o s n now W hL => place_is L b a o acc s price n now W hL)
  have HCA := hideIt (fun L1 b1 a1 o1 id W hL => cancel_is L1 b1 a1 o1 acc id W hL)
  have A0 := hideIt (AW.first acc s price n now h)
  unfold PlBack laneV laneA at HP
  unfold CnBack laneV laneA at HCA
  unfold laneV laneA at HC
  unfold laneV laneA
  obtain ⟨ba, bc, rfl⟩ := h.bids.slice
  obtain ⟨aa, ac, rfl⟩ := h.asks.slice
  obtain ⟨oa, oc, rfl⟩ := h.owed.slice
  clear h
  obtain ⟨⟨i0, i1, i2, i3, i4⟩, _, _⟩ := five_at A0.out.b2
  cases hk : chkB L
  · rw [show chkI L = 130 by unfold chkI; rw [hk]; rfl] at HC
    go_enter Try.func5, Try.ntmps5
    go_wp2_with fail
    refine (HC.out _ A0.out.la).mono ?_
    rintro e w1 ⟨rfl, hb⟩
    dsimp only
    have A1 := hideIt (A0.out.keep hb)
    clear hb A0 HC i0 i1 i2 i3 i4
    obtain ⟨⟨i0, i1, i2, i3, i4⟩, _, _⟩ := five_at A1.out.b2
    obtain ⟨⟨d0, d1, d2, d3, d4⟩, _, _⟩ := five_at A1.out.b3
    skip
    go_wp2_with fail
    refine (HV.out _).mono ?_
    rintro e wl ⟨rfl, hb⟩
    dsimp only
    have HB := hideIt (below_via A1.out.bel hb)
    clear hb
    go_wp2
    go_ret
    exact ⟨rfl, HB.out⟩
  rw [show chkI L = 0 by unfold chkI; rw [hk]; rfl] at HC
  by_cases hct : L.call = true
  · have HCT := hideIt hct
    clear hct hk
    go_enter Try.func5, Try.ntmps5
    go_wp2_with fail
    refine (HC.out _ A0.out.la).mono ?_
    rintro e w1 ⟨rfl, hb⟩
    dsimp only
    have A1 := hideIt (A0.out.keep hb)
    clear hb A0 HC i0 i1 i2 i3 i4
    obtain ⟨⟨i0, i1, i2, i3, i4⟩, _, _⟩ := five_at A1.out.b2
    obtain ⟨⟨d0, d1, d2, d3, d4⟩, _, _⟩ := five_at A1.out.b3
    replace i0 := i0.trans (show some (Value.bool L.call) = some (Value.bool true) by rw [HCT.out])
    go_wp2_with fail
    refine (HV.out _).mono ?_
    rintro e wl ⟨rfl, hb⟩
    dsimp only
    have HB := hideIt (below_via A1.out.bel hb)
    clear hb
    go_wp2
    go_ret
    exact ⟨rfl, HB.out⟩
  have hc : L.call = false := by simpa using hct
  clear hct
  have HCF := hideIt hc
  clear hc
  cases now
  rotate_left
  · go_enter Try.func5, Try.ntmps5
    go_wp2_with fail
    refine (HC.out _ A0.out.la).mono ?_
    rintro e w1 ⟨rfl, hb⟩
    dsimp only
    have A1 := hideIt (A0.out.keep hb)
    clear hb A0 HC i0 i1 i2 i3 i4
    obtain ⟨⟨i0, i1, i2, i3, i4⟩, _, _⟩ := five_at A1.out.b2
    obtain ⟨⟨d0, d1, d2, d3, d4⟩, _, _⟩ := five_at A1.out.b3
    replace i0 := i0.trans (show some (Value.bool L.call) = some (Value.bool false) by rw [HCF.out])
    go_wp2_with fail
    refine (HV.out _).mono ?_
    rintro e wl ⟨rfl, hb⟩
    dsimp only
    have HB := hideIt (below_via A1.out.bel hb)
    clear hb
    go_wp2
    go_ret
    exact ⟨rfl, HB.out⟩
  by_cases hn1 : n < 1
  · go_enter Try.func5, Try.ntmps5
    go_wp2_with fail
    refine (HC.out _ A0.out.la).mono ?_
    rintro e w1 ⟨rfl, hb⟩
    dsimp only
    have A1 := hideIt (A0.out.keep hb)
    clear hb A0 HC i0 i1 i2 i3 i4
    obtain ⟨⟨i0, i1, i2, i3, i4⟩, _, _⟩ := five_at A1.out.b2
    obtain ⟨⟨d0, d1, d2, d3, d4⟩, _, _⟩ := five_at A1.out.b3
    replace i0 := i0.trans (show some (Value.bool L.call) = some (Value.bool false) by rw [HCF.out])
    go_wp2_with fail
    refine (HV.out _).mono ?_
    rintro e wl ⟨rfl, hb⟩
    dsimp only
    have HB := hideIt (below_via A1.out.bel hb)
    clear hb
    go_wp2
    go_ret
    exact ⟨rfl, HB.out⟩
  by_cases hn2 : 1000000 < n
  · go_enter Try.func5, Try.ntmps5
    go_wp2_with fail
    refine (HC.out _ A0.out.la).mono ?_
    rintro e w1 ⟨rfl, hb⟩
    dsimp only
    have A1 := hideIt (A0.out.keep hb)
    clear hb A0 HC i0 i1 i2 i3 i4
    obtain ⟨⟨i0, i1, i2, i3, i4⟩, _, _⟩ := five_at A1.out.b2
    obtain ⟨⟨d0, d1, d2, d3, d4⟩, _, _⟩ := five_at A1.out.b3
    replace i0 := i0.trans (show some (Value.bool L.call) = some (Value.bool false) by rw [HCF.out])
    go_wp2_with fail
    refine (HV.out _).mono ?_
    rintro e wl ⟨rfl, hb⟩
    dsimp only
    have HB := hideIt (below_via A1.out.bel hb)
    clear hb
    go_wp2
    go_ret
    exact ⟨rfl, HB.out⟩
  by_cases hc1 : c < 1
  · go_enter Try.func5, Try.ntmps5
    go_wp2_with fail
    refine (HC.out _ A0.out.la).mono ?_
    rintro e w1 ⟨rfl, hb⟩
    dsimp only
    have A1 := hideIt (A0.out.keep hb)
    clear hb A0 HC i0 i1 i2 i3 i4
    obtain ⟨⟨i0, i1, i2, i3, i4⟩, _, _⟩ := five_at A1.out.b2
    obtain ⟨⟨d0, d1, d2, d3, d4⟩, _, _⟩ := five_at A1.out.b3
    replace i0 := i0.trans (show some (Value.bool L.call) = some (Value.bool false) by rw [HCF.out])
    go_wp2_with fail
    refine (HV.out _).mono ?_
    rintro e wl ⟨rfl, hb⟩
    dsimp only
    have HB := hideIt (below_via A1.out.bel hb)
    clear hb
    go_wp2
    go_ret
    exact ⟨rfl, HB.out⟩
  by_cases hc2 : n < c
  · go_enter Try.func5, Try.ntmps5
    go_wp2_with fail
    refine (HC.out _ A0.out.la).mono ?_
    rintro e w1 ⟨rfl, hb⟩
    dsimp only
    have A1 := hideIt (A0.out.keep hb)
    clear hb A0 HC i0 i1 i2 i3 i4
    obtain ⟨⟨i0, i1, i2, i3, i4⟩, _, _⟩ := five_at A1.out.b2
    obtain ⟨⟨d0, d1, d2, d3, d4⟩, _, _⟩ := five_at A1.out.b3
    replace i0 := i0.trans (show some (Value.bool L.call) = some (Value.bool false) by rw [HCF.out])
    go_wp2_with fail
    refine (HV.out _).mono ?_
    rintro e wl ⟨rfl, hb⟩
    dsimp only
    have HB := hideIt (below_via A1.out.bel hb)
    clear hb
    go_wp2
    go_ret
    exact ⟨rfl, HB.out⟩
  have hk1 : 1 ≤ c ∧ c ≤ n := by omega
  go_enter Try.func5, Try.ntmps5
  go_wp2_with fail
  refine (HC.out _ A0.out.la).mono ?_
  rintro e w1 ⟨rfl, hb⟩
  dsimp only
  have A1 := hideIt (A0.out.keep hb)
  clear hb A0 HC i0 i1 i2 i3 i4
  obtain ⟨⟨i0, i1, i2, i3, i4⟩, _, _⟩ := five_at A1.out.b2
  obtain ⟨⟨d0, d1, d2, d3, d4⟩, _, _⟩ := five_at A1.out.b3
  have I0 := hideIt i0
  replace i0 := i0.trans (show some (Value.bool L.call) = some (Value.bool false) by rw [HCF.out])
  have HPA := hideIt (fun W hL => HP.out L (.slice ba L.bids.length bc) (.slice aa L.asks.length ac) (.slice oa L.owed.length oc) s n false W hL)
  have HPB := hideIt (fun b a o W hL => HP.out (placeL L acc s price n false).1 b a o s n false W hL)
  have HPC := hideIt (fun b a o W hL => HP.out (placeL (placeL L acc s price n false).1 acc s price n false).1 b a o (3 - s) c true W hL)
  have FP := hideIt (fun h1 f1 h2 f2 h3 => first_plain (L := L) (acc := acc) (s := s) (price := price) (n := n) (k := c) HCF.out hk1 h1 f1 h2 f2 h3)
  have LA1 := hideIt (fun B q b a o W h => place_lan (L := L) (acc := acc) (s := s) (price := price) (n := n) (now := false) (B := B) (k := q) (b := b) (a := a) (o := o) (W := W) h)
  have LB1 := hideIt (fun B q b a o W h => place_lan (L := (placeL L acc s price n false).1) (acc := acc) (s := s) (price := price) (n := n) (now := false) (B := B) (k := q) (b := b) (a := a) (o := o) (W := W) h)
  have LC1 := hideIt (fun B q b a o W h => place_lan (L := (placeL (placeL L acc s price n false).1 acc s price n false).1) (acc := acc) (s := 3 - s) (price := price) (n := c) (now := true) (B := B) (k := q) (b := b) (a := a) (o := o) (W := W) h)
  have SD := hideIt (fun h => (refE_ok (L := L) (acc := acc) (s := s) (price := price) (n := n) (now := false) (place_ok h).1).2.1)
  clear HP hk
  generalize placeL (placeL (placeL L acc s price n false).1 acc s price n false).1 acc (3 - s) price c true = CX at *
  generalize placeL (placeL L acc s price n false).1 acc s price n false = BX at *
  generalize placeL L acc s price n false = AX at *
  obtain ⟨MA, FA, iA, rA⟩ := AX
  obtain ⟨MB, FB, iB, rB⟩ := BX
  obtain ⟨MC, FC, iC, rC⟩ := CX
  simp only at HPA HPB HPC FP LA1 LB1 LC1 SD
  go_upto_region 3 with fail
  replace i0 := I0.out
  clear I0
  go_wp2_with fail
  refine (HPA.out _ A1.out.la).mono ?_
  rintro e w3 ⟨b1, a1, o1, f1, rfl, hob, hoa, hoo, hfl, hb⟩
  dsimp only
  obtain ⟨xb, xbc, rfl⟩ := own_len hob
  obtain ⟨xa, xac, rfl⟩ := own_len hoa
  obtain ⟨xo, xoc, rfl⟩ := own_len hoo
  obtain ⟨xf, xfc, rfl⟩ := own_len hfl
  have hb1 := below1 w3 (.cells #[.bool MA.call, .int .i64 MA.next, .slice xb MA.bids.length xbc, .slice xa MA.asks.length xac, .slice xo MA.owed.length xoc] 25)
  have hbb := below_via hb hb1
  have Ox := hideIt (OW.new (L := MA) hob hoa hoo)
  have A2 := hideIt (A1.out.keep hbb)
  clear hob hoa hoo hfl hb hb1 hbb A1 HPA i0 i1 i2 i3 i4 d0 d1 d2 d3 d4
  go_upto_region 4 with fail
  generalize w3.alloc (.cells #[.bool MA.call, .int .i64 MA.next, .slice xb MA.bids.length xbc, .slice xa MA.asks.length xac, .slice xo MA.owed.length xoc] 25) = w4 at *
  generalize w3.heap.size = k7 at *
  obtain ⟨⟨i0, i1, i2, i3, i4⟩, _, _⟩ := five_at Ox.out.bk
  obtain ⟨⟨d0, d1, d2, d3, d4⟩, _, _⟩ := five_at A2.out.b3
  have HPB1 := hideIt (HPB.out _ _ _ _ (LA1.out _ _ _ _ _ _ Ox.out))
  clear HPB LA1
  go_wp2_with fail
  refine HPB1.out.mono ?_
  rintro e w5 ⟨b1, a1, o1, f1, rfl, hob, hoa, hoo, hfl, hb⟩
  dsimp only
  obtain ⟨yb, ybc, rfl⟩ := own_len hob
  obtain ⟨ya, yac, rfl⟩ := own_len hoa
  obtain ⟨yo, yoc, rfl⟩ := own_len hoo
  obtain ⟨yf, yfc, rfl⟩ := own_len hfl
  have hb1 := below1 w5 (.cells #[.bool MB.call, .int .i64 MB.next, .slice yb MB.bids.length ybc, .slice ya MB.asks.length yac, .slice yo MB.owed.length yoc] 25)
  have hbb := below_via hb hb1
  have Oy := hideIt (OW.new (L := MB) hob hoa hoo)
  have A3 := hideIt (A2.out.keep hbb)
  clear hob hoa hoo hfl hb hb1 hbb A2 Ox HPB1 i0 i1 i2 i3 i4 d0 d1 d2 d3 d4
  go_upto_region 5 with fail
  generalize w5.alloc (.cells #[.bool MB.call, .int .i64 MB.next, .slice yb MB.bids.length ybc, .slice ya MB.asks.length yac, .slice yo MB.owed.length yoc] 25) = w6 at *
  generalize w5.heap.size = k11 at *
  by_cases eA : rA = 0
  rotate_left
  · go_wp2_with fail
    refine (HV.out _).mono ?_
    rintro e wl ⟨rfl, hb⟩
    dsimp only
    have HB := hideIt (below_via A3.out.bel hb)
    clear hb
    go_wp2
    go_ret
    exact ⟨rfl, HB.out⟩
  by_cases eB : rB = 0
  rotate_left
  · go_wp2_with fail
    refine (HV.out _).mono ?_
    rintro e wl ⟨rfl, hb⟩
    dsimp only
    have HB := hideIt (below_via A3.out.bel hb)
    clear hb
    go_wp2
    go_ret
    exact ⟨rfl, HB.out⟩
  by_cases fA : 0 < FA.length
  · have g1 : (0 : Int) < (FA.length : Int) := by omega
    have g2 : decide (0 < FA.length) = true := decide_eq_true (by omega)
    go_wp2_with fail
    refine (HV.out _).mono ?_
    rintro e wl ⟨rfl, hb⟩
    dsimp only
    have HB := hideIt (below_via A3.out.bel hb)
    clear hb
    go_wp2
    go_ret
    exact ⟨rfl, HB.out⟩
  by_cases fB : 0 < FB.length
  · have g1 : (0 : Int) < (FB.length : Int) := by omega
    have g2 : decide (0 < FB.length) = true := decide_eq_true (by omega)
    have p1 : ¬ (0 : Int) < (FA.length : Int) := by omega
    have p2 : decide (0 < FA.length) = false := decide_eq_false (by omega)
    go_wp2_with fail
    refine (HV.out _).mono ?_
    rintro e wl ⟨rfl, hb⟩
    dsimp only
    have HB := hideIt (below_via A3.out.bel hb)
    clear hb
    go_wp2
    go_ret
    exact ⟨rfl, HB.out⟩
  have p1 : ¬ (0 : Int) < (FA.length : Int) := by omega
  have p2 : decide (0 < FA.length) = false := decide_eq_false (by omega)
  have p3 : ¬ (0 : Int) < (FB.length : Int) := by omega
  have p4 : decide (0 < FB.length) = false := decide_eq_false (by omega)
  have zA : FA = [] := List.eq_nil_of_length_eq_zero (by omega)
  have zB : FB = [] := List.eq_nil_of_length_eq_zero (by omega)
  subst eA eB
  have hs := SD.out rfl
  have hw3 : IntKind.i64.wrap (3 - s) = 3 - s := by rw [IntKind.wrap_i64]; omega
  have HFP := hideIt (fun h3 => FP.out rfl zA rfl zB h3)
  clear FP SD zA zB
  obtain ⟨⟨i0, i1, i2, i3, i4⟩, _, _⟩ := five_at Oy.out.bk
  obtain ⟨⟨d0, d1, d2, d3, d4⟩, _, _⟩ := five_at A3.out.b3
  have HPC1 := hideIt (HPC.out _ _ _ _ (LB1.out _ _ _ _ _ _ Oy.out))
  clear HPC LB1
  go_wp2_with fail
  refine HPC1.out.mono ?_
  rintro e w7 ⟨b1, a1, o1, f1, rfl, hob, hoa, hoo, hfl, hb⟩
  dsimp only
  obtain ⟨zb, zbc, rfl⟩ := own_len hob
  obtain ⟨za, zac, rfl⟩ := own_len hoa
  obtain ⟨zo, zoc, rfl⟩ := own_len hoo
  obtain ⟨zf, zfc, rfl⟩ := own_len hfl
  have hb1 := below1 w7 (.cells #[.bool MC.call, .int .i64 MC.next, .slice zb MC.bids.length zbc, .slice za MC.asks.length zac, .slice zo MC.owed.length zoc] 25)
  have hbb := below_via hb hb1
  have Oz := hideIt (OW.new (L := MC) hob hoa hoo)
  have A4 := hideIt (A3.out.keep hbb)
  clear hob hoa hoo hfl hb hb1 hbb A3 Oy HPC1 i0 i1 i2 i3 i4 d0 d1 d2 d3 d4
  go_upto_region 8 with fail
  generalize w7.alloc (.cells #[.bool MC.call, .int .i64 MC.next, .slice zb MC.bids.length zbc, .slice za MC.asks.length zac, .slice zo MC.owed.length zoc] 25) = w8 at *
  generalize w7.heap.size = k15 at *
  clear p1 p2 p3 p4 fA fB
  by_cases eC : rC = 0
  rotate_left
  · go_wp2_with fail
    refine (HV.out _).mono ?_
    rintro e wl ⟨rfl, hb⟩
    dsimp only
    have HB := hideIt (below_via A4.out.bel hb)
    clear hb
    go_wp2
    go_ret
    exact ⟨rfl, HB.out⟩
  subst eC
  obtain ⟨HX, HY⟩ := HFP.out rfl
  replace HY := hideIt HY
  have HC2 := hideIt (fun W hL => HCA.out MC (.slice zb MC.bids.length zbc) (.slice za MC.asks.length zac) (.slice zo MC.owed.length zoc) iB W hL)
  have HC1 := hideIt (fun W hL => HCA.out MC (.slice zb MC.bids.length zbc) (.slice za MC.asks.length zac) (.slice zo MC.owed.length zoc) iA W hL)
  have LZ := hideIt (LC1.out _ _ _ _ _ _ Oz.out)
  clear HCA HFP LC1
  generalize canR MC acc iB = XB at *
  generalize canR MC acc iA = XA at *
  obtain ⟨NB, lB, qB⟩ := XB
  obtain ⟨NA, lA, qA⟩ := XA
  simp only at HX HY HC1 HC2
  obtain ⟨⟨i0, i1, i2, i3, i4⟩, _, _⟩ := five_at Oz.out.bk
  obtain ⟨⟨d0, d1, d2, d3, d4⟩, _, _⟩ := five_at A4.out.b3
  go_wp2_with fail
  refine (HC2.out _ LZ.out).mono ?_
  rintro e w9 ⟨b1, a1, o1, rfl, hob, hoa, hoo, hb⟩
  dsimp only
  obtain ⟨ub, ubc, rfl⟩ := own_len hob
  obtain ⟨ua, uac, rfl⟩ := own_len hoa
  obtain ⟨uo, uoc, rfl⟩ := own_len hoo
  have hb1 := below1 w9 (.cells #[.bool NB.call, .int .i64 NB.next, .slice ub NB.bids.length ubc, .slice ua NB.asks.length uac, .slice uo NB.owed.length uoc] 25)
  have hbb := below_via hb hb1
  have A5 := hideIt (A4.out.keep hbb)
  have Oz5 := hideIt (Oz.out.keep hbb)
  have LZ5 := hideIt (LZ.out.keep hbb)
  clear hob hoa hoo hb hb1 hbb A4 Oz LZ HC2 i0 i1 i2 i3 i4 d0 d1 d2 d3 d4
  go_upto_region 11 with fail
  generalize w9.alloc (.cells #[.bool NB.call, .int .i64 NB.next, .slice ub NB.bids.length ubc, .slice ua NB.asks.length uac, .slice uo NB.owed.length uoc] 25) = w10 at *
  generalize w9.heap.size = k19 at *
  obtain ⟨⟨i0, i1, i2, i3, i4⟩, _, _⟩ := five_at Oz5.out.bk
  obtain ⟨⟨d0, d1, d2, d3, d4⟩, _, _⟩ := five_at A5.out.b3
  go_wp2_with fail
  refine (HC1.out _ LZ5.out).mono ?_
  rintro e w11 ⟨b1, a1, o1, rfl, hob, hoa, hoo, hb⟩
  dsimp only
  obtain ⟨vb, vbc, rfl⟩ := own_len hob
  obtain ⟨va, vac, rfl⟩ := own_len hoa
  obtain ⟨vo, voc, rfl⟩ := own_len hoo
  have hb1 := below1 w11 (.cells #[.bool NA.call, .int .i64 NA.next, .slice vb NA.bids.length vbc, .slice va NA.asks.length vac, .slice vo NA.owed.length voc] 25)
  have hbb := below_via hb hb1
  have A6 := hideIt (A5.out.keep hbb)
  clear hob hoa hoo hb hb1 hbb A5 Oz5 LZ5 HC1 i0 i1 i2 i3 i4 d0 d1 d2 d3 d4
  go_upto_region 12 with fail
  generalize w11.alloc (.cells #[.bool NA.call, .int .i64 NA.next, .slice vb NA.bids.length vbc, .slice va NA.asks.length vac, .slice vo NA.owed.length voc] 25) = w12 at *
  generalize w11.heap.size = k22 at *
  obtain ⟨⟨d0, d1, d2, d3, d4⟩, _, _⟩ := five_at A6.out.b3
  by_cases eq : qA = 0
  · have hle := HY.out eq
    subst eq
    clear HY
    rcases HX with rfl | ⟨rfl, rfl⟩
    · go_wp2_with fail
      refine (HV.out _).mono ?_
      rintro e wl ⟨rfl, hb⟩
      dsimp only
      have HB := hideIt (below_via A6.out.bel hb)
      clear hb
      go_wp2
      go_ret
      exact ⟨rfl, HB.out⟩
    · go_wp2_with fail
      refine (HV.out _).mono ?_
      rintro e wl ⟨rfl, hb⟩
      dsimp only
      have HB := hideIt (below_via A6.out.bel hb)
      clear hb
      go_wp2
      go_ret
      exact ⟨rfl, HB.out⟩
  · clear HY
    rcases HX with rfl | ⟨rfl, rfl⟩
    · go_wp2_with fail
      refine (HV.out _).mono ?_
      rintro e wl ⟨rfl, hb⟩
      dsimp only
      have HB := hideIt (below_via A6.out.bel hb)
      clear hb
      go_wp2
      go_ret
      exact ⟨rfl, HB.out⟩
    · go_wp2_with fail
      refine (HV.out _).mono ?_
      rintro e wl ⟨rfl, hb⟩
      dsimp only
      have HB := hideIt (below_via A6.out.bel hb)
      clear hb
      go_wp2
      go_ret
      exact ⟨rfl, HB.out⟩
end Go.Proofs.Ytlffcoefejhabaa
