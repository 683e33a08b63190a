/- The statement on an order in two parts, walked. -/
import Derived.Test.YtlffcoefejhabaaOwK
import Derived.Test.YtlffcoefejhabaaSpN
namespace Go.Proofs.Ytlffcoefejhabaa
open Go.RowKit
set_option linter.all false
set_option maxHeartbeats 16000000 in
set_option maxRecDepth 100000 in
theorem split_walk (L : LaneV) (b a o : Value) (acc s price n : Int) (now : Bool) (c : Int) (hci : i64B c) (w : World) (h : Lan w L b a o) : Calls Try.prog 4 #[laneV L b a o, .agg #[.int .i64 acc, .int .i64 s, .int .i64 price, .int .i64 n, .bool now], .int .i64 c] w fun e w' => e = .returned (.bool true) ∧ Below w.heap.size w w' := by
  have HV := hideIt (fun W => live_is W)
  have HP := hideIt (fun L b a o n W hL => place_is L b a o acc s price n true W hL)
  have PLN := hideIt (fun L n => place_len' L acc s price n true)
  have A0 := hideIt (AW.first acc s price n now h)
  unfold PlBack laneV laneA at HP
  unfold laneV laneA
  obtain ⟨ba, bc, rfl⟩ := h.bids.slice
  obtain ⟨aa, ac, rfl⟩ := h.asks.slice
  obtain ⟨oa, oc, rfl⟩ := h.owed.slice
  clear h
  obtain ⟨⟨i0, i1, i2, i3, i4⟩, _, _⟩ := five_at A0.out.b2
  obtain ⟨⟨d0, d1, d2, d3, d4⟩, _, _⟩ := five_at A0.out.b3
  by_cases hn1 : n < 2
  · go_enter Try.func4, Try.ntmps4
    go_wp2_with fail
    refine (HV.out _).mono ?_
    rintro e wl ⟨rfl, hb⟩
    dsimp only
    have HB := hideIt (below_via A0.out.bel hb)
    clear hb
    go_wp2
    go_ret
    exact ⟨rfl, HB.out⟩
  by_cases hn2 : 1000000 < n
  · go_enter Try.func4, Try.ntmps4
    go_wp2_with fail
    refine (HV.out _).mono ?_
    rintro e wl ⟨rfl, hb⟩
    dsimp only
    have HB := hideIt (below_via A0.out.bel hb)
    clear hb
    go_wp2
    go_ret
    exact ⟨rfl, HB.out⟩
  by_cases hct : L.call = true
  · replace i0 := i0.trans (show some (Value.bool L.call) = some (Value.bool true) by rw [hct])
    clear hct
    go_enter Try.func4, Try.ntmps4
    go_wp2_with fail
    refine (HV.out _).mono ?_
    rintro e wl ⟨rfl, hb⟩
    dsimp only
    have HB := hideIt (below_via A0.out.bel hb)
    clear hb
    go_wp2
    go_ret
    exact ⟨rfl, HB.out⟩
  · have hc : L.call = false := by simpa using hct
    replace i0 := i0.trans (show some (Value.bool L.call) = some (Value.bool false) by rw [hc])
    clear hct
    have HCF := hideIt hc
    clear hc
    obtain ⟨A, hA0, hA1, hA2⟩ : ∃ A : Int, (c < 0 → A = -(c + 1)) ∧ (¬ c < 0 → A = c) ∧ (0 ≤ A ∧ A ≤ 9223372036854775807) := by
      unfold i64B at hci
      by_cases e : c < 0
      · exact ⟨-(c + 1), fun _ => rfl, fun h => absurd e h, by omega⟩
      · exact ⟨c, fun h => absurd h e, fun _ => rfl, by omega⟩
    obtain ⟨j, hj⟩ : ∃ j : Nat, A.tmod (n - 1) = (j : Int) := Int.eq_ofNat_of_zero_le (Int.tmod_nonneg _ hA2.1)
    have hjl : (j : Int) < n - 1 := by
      have := Int.tmod_lt_of_pos A (show (0 : Int) < n - 1 by omega)
      omega
    have hw1 : IntKind.i64.wrap (n - 1) = n - 1 := by rw [IntKind.wrap_i64]; omega
    have hwj : IntKind.i64.wrap (j : Int) = (j : Int) := by rw [IntKind.wrap_i64]; omega
    have hwb : IntKind.i64.wrap (1 + (j : Int)) = 1 + (j : Int) := by rw [IntKind.wrap_i64]; omega
    have hnz : ¬ (n - 1 = 0) := by omega
    by_cases hneg : c < 0
    · have eA := hA0 hneg
      have hwn : IntKind.i64.wrap (c + 1) = c + 1 := by unfold i64B at hci; rw [IntKind.wrap_i64]; omega
      have hwm : IntKind.i64.wrap (-(c + 1)) = A := by rw [eA]; unfold i64B at hci; rw [IntKind.wrap_i64]; omega
      clear hA0 hA1 eA
      go_enter Try.func4, Try.ntmps4
      go_upto_region 6 with fail
      generalize (w.alloc (.cells #[.bool L.call, .int .i64 L.next, .slice ba L.bids.length bc, .slice aa L.asks.length ac, .slice oa L.owed.length oc] 25)).alloc (.cells #[.int .i64 acc, .int .i64 s, .int .i64 price, .int .i64 n, .bool now] 27) = w2 at *
      have hj0 : (0 : Int) ≤ (j : Int) := by omega
      clear i0 i1 i2 i3 i4 d0 d1 d2 d3 d4 hj hA2 hw1 hwj hwb hnz hneg hwn hwm hci
      generalize (j : Int) = j at *
      have hwnk : IntKind.i64.wrap (n - (1 + j)) = n - (1 + j) := by rw [IntKind.wrap_i64]; omega
      generalize hk : 1 + j = k at *
      have hk1 : 1 ≤ k ∧ k < n := by omega
      clear hk
      have HPA := hideIt (fun W hL => HP.out L (.slice ba L.bids.length bc) (.slice aa L.asks.length ac) (.slice oa L.owed.length oc) n W hL)
      have HPB := hideIt (fun W hL => HP.out L (.slice ba L.bids.length bc) (.slice aa L.asks.length ac) (.slice oa L.owed.length oc) k W hL)
      have HPC := hideIt (fun b a o W hL => HP.out (placeL L acc s price k true).1 b a o (n - k) W hL)
      have SS := hideIt (fun h1 h2 h3 => split_same (L := L) (acc := acc) (s := s) (price := price) HCF.out hk1 h1 h2 h3)
      have LB := hideIt (fun B q b a o W h => place_lan (L := L) (acc := acc) (s := s) (price := price) (n := k) (now := true) (B := B) (k := q) (b := b) (a := a) (o := o) (W := W) h)
      have SA := hideIt (fun h => place_srv (L := L) (acc := acc) (s := s) (price := price) (n := n) (now := true) h)
      have SB := hideIt (fun h => place_srv (L := L) (acc := acc) (s := s) (price := price) (n := k) (now := true) h)
      have SC := hideIt (fun h => place_srv (L := (placeL L acc s price k true).1) (acc := acc) (s := s) (price := price) (n := n - k) (now := true) h)
      have KA := hideIt (fun h => placeL_may (L := L) (acc := acc) (s := s) (price := price) (n := n) (now := true) h)
      have KC := hideIt (fun h => placeL_may (L := (placeL L acc s price k true).1) (acc := acc) (s := s) (price := price) (n := n - k) (now := true) h)
      have lA : Hid ((placeL L acc s price n true).2.1.length ≤ 40) := PLN.out L n
      have lB : Hid ((placeL L acc s price k true).2.1.length ≤ 40) := PLN.out L k
      have lC : Hid ((placeL (placeL L acc s price k true).1 acc s price (n - k) true).2.1.length ≤ 40) := PLN.out _ _
      clear HP PLN
      generalize placeL (placeL L acc s price k true).1 acc s price (n - k) true = CX at *
      generalize placeL L acc s price k true = BX at *
      generalize placeL L acc s price n true = AX at *
      obtain ⟨LA, FA, iA, rA⟩ := AX
      obtain ⟨LB1, FB, iB, rB⟩ := BX
      obtain ⟨LC, FC, iC, rC⟩ := CX
      simp only at HPA HPB HPC SS LB SA SB SC KA KC lA lB lC
      obtain ⟨⟨i0, i1, i2, i3, i4⟩, _, _⟩ := five_at A0.out.b2
      obtain ⟨⟨d0, d1, d2, d3, d4⟩, _, _⟩ := five_at A0.out.b3
      go_wp2_with fail
      refine (HPA.out _ A0.out.la).mono ?_
      rintro e w3 ⟨b1, a1, o1, f1, rfl, hob, hoa, hoo, hfl, hb⟩
      dsimp only
      obtain ⟨xb, xbc, rfl⟩ := own_len hob
      obtain ⟨xa, xac, rfl⟩ := own_len hoa
      obtain ⟨xo, xoc, rfl⟩ := own_len hoo
      obtain ⟨xf, xfc, rfl⟩ := own_len hfl
      have hb1 := below1 w3 (.cells #[.bool LA.call, .int .i64 LA.next, .slice xb LA.bids.length xbc, .slice xa LA.asks.length xac, .slice xo LA.owed.length xoc] 25)
      have hbb := below_via hb hb1
      have Ox := hideIt (OW.new (L := LA) hob hoa hoo)
      have Gx := hideIt (own_keep hfl hb1)
      have hszx := hbb.size
      have A1 := hideIt (A0.out.keep hbb)
      have hk7 : w.heap.size ≤ w3.heap.size := Nat.le_trans A0.out.bel.size hb.size
      clear hob hoa hoo hfl hb hb1 hbb A0 HPA i0 i1 i2 i3 i4 d0 d1 d2 d3 d4
      go_upto_region 7 with fail
      generalize w3.alloc (.cells #[.bool LA.call, .int .i64 LA.next, .slice xb LA.bids.length xbc, .slice xa LA.asks.length xac, .slice xo LA.owed.length xoc] 25) = w4 at *
      generalize w3.heap.size = k7 at *
      obtain ⟨⟨i0, i1, i2, i3, i4⟩, _, _⟩ := five_at A1.out.b2
      obtain ⟨⟨d0, d1, d2, d3, d4⟩, _, _⟩ := five_at A1.out.b3
      go_wp2_with fail
      refine (HPB.out _ A1.out.la).mono ?_
      rintro e w5 ⟨b1, a1, o1, f1, rfl, hob, hoa, hoo, hfl, hb⟩
      dsimp only
      obtain ⟨yb, ybc, rfl⟩ := own_len hob
      obtain ⟨ya, yac, rfl⟩ := own_len hoa
      obtain ⟨yo, yoc, rfl⟩ := own_len hoo
      obtain ⟨yf, yfc, rfl⟩ := own_len hfl
      have hb1 := below1 w5 (.cells #[.bool LB1.call, .int .i64 LB1.next, .slice yb LB1.bids.length ybc, .slice ya LB1.asks.length yac, .slice yo LB1.owed.length yoc] 25)
      have hbb := below_via hb hb1
      have Oy := hideIt (OW.new (L := LB1) hob hoa hoo)
      have Gy := hideIt (own_keep hfl hb1)
      have hszy := hbb.size
      have A2 := hideIt (A1.out.keep hbb)
      have Ox2 := hideIt (Ox.out.keep hbb)
      have Gx2 := hideIt (own_keep Gx.out hbb)
      clear hob hoa hoo hfl hb hb1 hbb A1 Ox Gx HPB i0 i1 i2 i3 i4 d0 d1 d2 d3 d4
      go_upto_region 8 with fail
      generalize w5.alloc (.cells #[.bool LB1.call, .int .i64 LB1.next, .slice yb LB1.bids.length ybc, .slice ya LB1.asks.length yac, .slice yo LB1.owed.length yoc] 25) = w6 at *
      generalize w5.heap.size = k11 at *
      obtain ⟨⟨i0, i1, i2, i3, i4⟩, _, _⟩ := five_at Oy.out.bk
      obtain ⟨⟨d0, d1, d2, d3, d4⟩, _, _⟩ := five_at A2.out.b3
      have HPC1 := hideIt (HPC.out _ _ _ _ (LB.out _ _ _ _ _ _ Oy.out))
      clear HPC LB
      go_wp2_with fail
      refine HPC1.out.mono ?_
      rintro e w7 ⟨b1, a1, o1, f1, rfl, hob, hoa, hoo, hfl, hb⟩
      dsimp only
      obtain ⟨zb, zbc, rfl⟩ := own_len hob
      obtain ⟨za, zac, rfl⟩ := own_len hoa
      obtain ⟨zo, zoc, rfl⟩ := own_len hoo
      obtain ⟨zf, zfc, rfl⟩ := own_len hfl
      have hb1 := below1 w7 (.cells #[.bool LC.call, .int .i64 LC.next, .slice zb LC.bids.length zbc, .slice za LC.asks.length zac, .slice zo LC.owed.length zoc] 25)
      have hbb := below_via hb hb1
      have Oz := hideIt (OW.new (L := LC) hob hoa hoo)
      have Gz := hideIt (own_keep hfl hb1)
      have hszz := hbb.size
      have A3 := hideIt (A2.out.keep hbb)
      have Ox3 := hideIt (Ox2.out.keep hbb)
      have Gx3 := hideIt (own_sgot (bytes := 32) (own_keep Gx2.out hbb) (by have := lA.out; omega))
      have Gy3 := hideIt (own_sgot (bytes := 32) (own_keep Gy.out hbb) (by have := lB.out; omega))
      have Gz3 := hideIt (own_sgot (bytes := 32) Gz.out (by have := lC.out; omega))
      have n7 : w7.heap.size ≠ k7 := by have := (Array.getElem?_eq_some_iff.1 Ox2.out.bk).1; have := hb.size; omega
      clear hob hoa hoo hfl hb hb1 hbb A2 Ox2 Oy Gx2 Gy Gz HPC1 lA lB lC i0 i1 i2 i3 i4 d0 d1 d2 d3 d4
      go_upto_region 9 with fail
      generalize w7.alloc (.cells #[.bool LC.call, .int .i64 LC.next, .slice zb LC.bids.length zbc, .slice za LC.asks.length zac, .slice zo LC.owed.length zoc] 25) = w8 at *
      generalize w7.heap.size = k15 at *
      have HBA := hideIt A3.out.bel
      clear A3
      by_cases eA : rA = 0
      rotate_left
      · go_wp2_with fail
        refine (HV.out _).mono ?_
        rintro e wl ⟨rfl, hb⟩
        dsimp only
        have HB := hideIt (below_via HBA.out hb)
        clear hb
        go_wp2
        go_ret
        exact ⟨rfl, HB.out⟩
      by_cases eB : rB = 0
      rotate_left
      · go_wp2_with fail
        refine (HV.out _).mono ?_
        rintro e wl ⟨rfl, hb⟩
        dsimp only
        have HB := hideIt (below_via HBA.out hb)
        clear hb
        go_wp2
        go_ret
        exact ⟨rfl, HB.out⟩
      by_cases eC : rC = 0
      rotate_left
      · go_wp2_with fail
        refine (HV.out _).mono ?_
        rintro e wl ⟨rfl, hb⟩
        dsimp only
        have HB := hideIt (below_via HBA.out hb)
        clear hb
        go_wp2
        go_ret
        exact ⟨rfl, HB.out⟩
      subst eA eB eC
      obtain ⟨hsum, hEq⟩ := SS.out rfl rfl rfl
      obtain ⟨_, _, hnA, hsA⟩ := SA.out rfl
      obtain ⟨_, _, hnB, hsB⟩ := SB.out rfl
      obtain ⟨_, _, hnC, hsC⟩ := SC.out rfl
      have HSA := hideIt (fun i => srv_sum hsA i)
      have HSB := hideIt (fun i => srv_sum hsB i)
      have HSC := hideIt (fun i => srv_sum hsC i)
      have HKA := hideIt (KA.out rfl)
      have HKC := hideIt (KC.out rfl)
      have HSUM := hideIt hsum
      obtain ⟨x1, x2, ex, _, hrx⟩ := Gx3.out.fils
      obtain ⟨y1, y2, ey, _, hry⟩ := Gy3.out.fils
      obtain ⟨z1, z2, ez, _, hrz⟩ := Gz3.out.fils
      simp only [Value.slice.injEq, true_and] at ex ey ez
      obtain ⟨rfl, rfl⟩ := ex
      obtain ⟨rfl, rfl⟩ := ey
      obtain ⟨rfl, rfl⟩ := ez
      have HX := hideIt hrx
      have HY := hideIt hry
      have HZ := hideIt hrz
      have HEQ := hideIt hEq
      clear SS SA SB SC KA KC hsum hEq hsA hsB hsC hrx hry hrz Gx3 Gy3 Gz3
      go_upto_region 13 with fail
      go_loopw [19, 20] (fun u v wr => ∃ (t : Nat) (sm : Int), u = .int .i64 sm ∧ v = .int .i64 t ∧ t ≤ FA.length ∧ Hid (Below w8.heap.size w8 wr ∧ sm = 0 + sumG (FA.take t))) (fun _ v _ => FA.length - (intOf v).toNat)
      case atStart => exact ⟨0, 0, rfl, rfl, Nat.zero_le _, hideIt ⟨Below.refl _ _, by simp [sumG]⟩⟩
      case round =>
        obtain ⟨t, sm, rfl, rfl, ht, HR⟩ := hrel
        by_cases hlt : t < FA.length
        · have hltI : (t : Int) < ((FA).length : Int) := by omega
          have ht0 : (0 : Int) ≤ (t : Int) := by omega
          have hw2 : IntKind.i64.wrap ((t : Int) + 1) = ((t + 1 : Nat) : Int) := by rw [IntKind.wrap_i64]; omega
          obtain ⟨fb, fo, rfl, fl, _, _, _, e3⟩ := HX.out t hlt
          have fl' : fb < wr.heap.size := Nat.lt_of_lt_of_le fl HR.out.1.size
          have f3 := (HR.out.1.cell (p := ⟨fb, fo + t * 4 + 3, none⟩) fl).trans e3
          have hsm := HR.out.2
          have s0 := HSA.out t
          have s1 := HSA.out (t + 1)
          rw [sum_step hlt] at s1
          have HST := hideIt (sum_step hlt)
          have HBR := hideIt HR.out.1
          clear HR e3
          generalize FA[t] = ge at *
          obtain ⟨_, _, _, m⟩ := ge
          dsimp only at f3 s1 HST
          have hsw : IntKind.i64.wrap (sm + m) = sm + m := by rw [IntKind.wrap_i64]; omega
          have HNX : Hid (sm + m = 0 + sumG ((FA).take (t + 1))) := by
            show _ = _
            rw [HST.out]
            omega
          clear hsm s0 s1 HST
          go_wp2
          go_roundw
          case rel => exact ⟨t + 1, sm + m, rfl, by go_num, by omega, hideIt ⟨HBR.out, HNX.out⟩⟩
          case measure => simp [intOf]; omega
        have hltI : ¬ (t : Int) < (FA.length : Int) := by omega
        have het : FA.take t = FA := List.take_of_length_le (by omega)
        rw [het] at HR
        have HA := hideIt HR.out.2
        have R1 := hideIt HR.out.1
        clear HR hltI het HX HSA ht
        generalize t = t1 at *
        generalize sm = smA at *
        go_upto_region 18 with fail
        go_loopw [21, 22] (fun u v wr2 => ∃ (t : Nat) (sm : Int), u = .int .i64 sm ∧ v = .int .i64 t ∧ t ≤ FB.length ∧ Hid (Below w8.heap.size w8 wr2 ∧ sm = 0 + sumG (FB.take t))) (fun _ v _ => FB.length - (intOf v).toNat)
        case atStart => exact ⟨0, 0, rfl, rfl, Nat.zero_le _, hideIt ⟨R1.out, by simp [sumG]⟩⟩
        case round =>
          clear R1
          obtain ⟨t, sm, rfl, rfl, ht, HR⟩ := hrel
          by_cases hlt : t < FB.length
          · have hltI : (t : Int) < ((FB).length : Int) := by omega
            have ht0 : (0 : Int) ≤ (t : Int) := by omega
            have hw2 : IntKind.i64.wrap ((t : Int) + 1) = ((t + 1 : Nat) : Int) := by rw [IntKind.wrap_i64]; omega
            obtain ⟨fb, fo, rfl, fl, _, _, _, e3⟩ := HY.out t hlt
            have fl' : fb < wr.heap.size := Nat.lt_of_lt_of_le fl HR.out.1.size
            have f3 := (HR.out.1.cell (p := ⟨fb, fo + t * 4 + 3, none⟩) fl).trans e3
            have hsm := HR.out.2
            have s0 := HSB.out t
            have s1 := HSB.out (t + 1)
            rw [sum_step hlt] at s1
            have HST := hideIt (sum_step hlt)
            have HBR := hideIt HR.out.1
            clear HR e3
            generalize FB[t] = ge at *
            obtain ⟨_, _, _, m⟩ := ge
            dsimp only at f3 s1 HST
            have hsw : IntKind.i64.wrap (sm + m) = sm + m := by rw [IntKind.wrap_i64]; omega
            have HNX : Hid (sm + m = 0 + sumG ((FB).take (t + 1))) := by
              show _ = _
              rw [HST.out]
              omega
            clear hsm s0 s1 HST
            go_wp2
            go_roundw
            case rel => exact ⟨t + 1, sm + m, rfl, by go_num, by omega, hideIt ⟨HBR.out, HNX.out⟩⟩
            case measure => simp [intOf]; omega
          have hltI : ¬ (t : Int) < (FB.length : Int) := by omega
          have het : FB.take t = FB := List.take_of_length_le (by omega)
          rw [het] at HR
          have sB := HSB.out FB.length
          rw [List.take_of_length_le (Nat.le_refl _)] at sB
          have HB := hideIt HR.out.2
          have R1 := hideIt HR.out.1
          clear HR hltI het HY HSB ht
          generalize t = t2 at *
          generalize sm = smB at *
          go_upto_region 22 with fail
          go_loopw [21, 23] (fun u v wr2 => ∃ (t : Nat) (sm : Int), u = .int .i64 sm ∧ v = .int .i64 t ∧ t ≤ FC.length ∧ Hid (Below w8.heap.size w8 wr2 ∧ sm = sumG FB + sumG (FC.take t))) (fun _ v _ => FC.length - (intOf v).toNat)
          case atStart => exact ⟨0, smB, rfl, rfl, Nat.zero_le _, hideIt ⟨R1.out, by rw [HB.out]; simp [sumG]⟩⟩
          case round =>
            clear R1 HB
            obtain ⟨t, sm, rfl, rfl, ht, HR⟩ := hrel
            by_cases hlt : t < FC.length
            · have hltI : (t : Int) < ((FC).length : Int) := by omega
              have ht0 : (0 : Int) ≤ (t : Int) := by omega
              have hw2 : IntKind.i64.wrap ((t : Int) + 1) = ((t + 1 : Nat) : Int) := by rw [IntKind.wrap_i64]; omega
              obtain ⟨fb, fo, rfl, fl, _, _, _, e3⟩ := HZ.out t hlt
              have fl' : fb < wr.heap.size := Nat.lt_of_lt_of_le fl HR.out.1.size
              have f3 := (HR.out.1.cell (p := ⟨fb, fo + t * 4 + 3, none⟩) fl).trans e3
              have hsm := HR.out.2
              have s0 := HSC.out t
              have s1 := HSC.out (t + 1)
              rw [sum_step hlt] at s1
              have HST := hideIt (sum_step hlt)
              have HBR := hideIt HR.out.1
              clear HR e3
              generalize FC[t] = ge at *
              obtain ⟨_, _, _, m⟩ := ge
              dsimp only at f3 s1 HST
              have hsw : IntKind.i64.wrap (sm + m) = sm + m := by rw [IntKind.wrap_i64]; omega
              have HNX : Hid (sm + m = sumG FB + sumG ((FC).take (t + 1))) := by
                show _ = _
                rw [HST.out]
                omega
              clear hsm s0 s1 HST
              go_wp2
              go_roundw
              case rel => exact ⟨t + 1, sm + m, rfl, by go_num, by omega, hideIt ⟨HBR.out, HNX.out⟩⟩
              case measure => simp [intOf]; omega
            have hltI : ¬ (t : Int) < (FC.length : Int) := by omega
            have het : FC.take t = FC := List.take_of_length_le (by omega)
            rw [het] at HR
            have e1 : smA = sm := by have h1 := HA.out; have h2 := HR.out.2; have h3 := HSUM.out; omega
            subst e1
            have R1 := hideIt HR.out.1
            clear HR het HZ HSC ht HA HSUM sB
            have OX := hideIt (Ox3.out.keep R1.out)
            have OZ := hideIt (Oz.out.keep R1.out)
            have HBR := hideIt (below_via HBA.out R1.out)
            clear R1 HBA Ox3 Oz
            obtain ⟨⟨i0, i1, i2, i3, i4⟩, zf, zl⟩ := five_at OX.out.bk
            obtain ⟨⟨d0, d1, d2, d3, d4⟩, _, zl2⟩ := five_at OZ.out.bk
            have OX2 := hideIt (OX.out.next LC.next)
            have OZ2 := hideIt (OZ.out.other OX.out.bk n7 1 (.int .i64 LC.next))
            have BX2 := hideIt (belowSet (.int .i64 LC.next) (j := 1) HBR.out hk7)
            clear OX OZ HBR
            rw [HEQ.out] at OX2
            have HQ := hideIt (sameL_is LC (.slice xb LA.bids.length xbc) (.slice xa LA.asks.length xac) (.slice xo LA.owed.length xoc) (.slice zb LC.bids.length zbc) (.slice za LC.asks.length zac) (.slice zo LC.owed.length zoc) _ (OX2.out.lan HKC.out) (OZ2.out.lan HKC.out))
            unfold laneV laneA at HQ
            obtain ⟨⟨g0, g1, g2, g3, g4⟩, _, _⟩ := five_at OX2.out.bk
            obtain ⟨⟨h0, h1, h2, h3, h4⟩, _, _⟩ := five_at OZ2.out.bk
            clear OX2 OZ2 HEQ HKA HKC
            go_upto_region 26 with fail
            clear i0 i1 i2 i3 i4 d0 d1 d2 d3 d4 zf zl zl2
            generalize wr.setCell ⟨k7, 1, none⟩ (.int .i64 LC.next) = W9 at *
            go_wp2_with fail
            refine HQ.out.mono ?_
            rintro e wq ⟨rfl, hb⟩
            dsimp only
            have BQ := hideIt (below_via BX2.out hb)
            clear hb HQ BX2 g0 g1 g2 g3 g4 h0 h1 h2 h3 h4
            go_wp2_with fail
            refine (HV.out _).mono ?_
            rintro e wl ⟨rfl, hb⟩
            dsimp only
            have HB := hideIt (below_via BQ.out hb)
            clear hb
            go_wp2
            go_ret
            exact ⟨rfl, HB.out⟩
    · have eA := hA1 hneg
      subst eA
      clear hA0 hA1
      go_enter Try.func4, Try.ntmps4
      go_upto_region 6 with fail
      generalize (w.alloc (.cells #[.bool L.call, .int .i64 L.next, .slice ba L.bids.length bc, .slice aa L.asks.length ac, .slice oa L.owed.length oc] 25)).alloc (.cells #[.int .i64 acc, .int .i64 s, .int .i64 price, .int .i64 n, .bool now] 27) = w2 at *
      have hj0 : (0 : Int) ≤ (j : Int) := by omega
      clear i0 i1 i2 i3 i4 d0 d1 d2 d3 d4 hj hA2 hw1 hwj hwb hnz hneg hci
      generalize (j : Int) = j at *
      have hwnk : IntKind.i64.wrap (n - (1 + j)) = n - (1 + j) := by rw [IntKind.wrap_i64]; omega
      generalize hk : 1 + j = k at *
      have hk1 : 1 ≤ k ∧ k < n := by omega
      clear hk
      have HPA := hideIt (fun W hL => HP.out L (.slice ba L.bids.length bc) (.slice aa L.asks.length ac) (.slice oa L.owed.length oc) n W hL)
      have HPB := hideIt (fun W hL => HP.out L (.slice ba L.bids.length bc) (.slice aa L.asks.length ac) (.slice oa L.owed.length oc) k W hL)
      have HPC := hideIt (fun b a o W hL => HP.out (placeL L acc s price k true).1 b a o (n - k) W hL)
      have SS := hideIt (fun h1 h2 h3 => split_same (L := L) (acc := acc) (s := s) (price := price) HCF.out hk1 h1 h2 h3)
      have LB := hideIt (fun B q b a o W h => place_lan (L := L) (acc := acc) (s := s) (price := price) (n := k) (now := true) (B := B) (k := q) (b := b) (a := a) (o := o) (W := W) h)
      have SA := hideIt (fun h => place_srv (L := L) (acc := acc) (s := s) (price := price) (n := n) (now := true) h)
      have SB := hideIt (fun h => place_srv (L := L) (acc := acc) (s := s) (price := price) (n := k) (now := true) h)
      have SC := hideIt (fun h => place_srv (L := (placeL L acc s price k true).1) (acc := acc) (s := s) (price := price) (n := n - k) (now := true) h)
      have KA := hideIt (fun h => placeL_may (L := L) (acc := acc) (s := s) (price := price) (n := n) (now := true) h)
      have KC := hideIt (fun h => placeL_may (L := (placeL L acc s price k true).1) (acc := acc) (s := s) (price := price) (n := n - k) (now := true) h)
      have lA : Hid ((placeL L acc s price n true).2.1.length ≤ 40) := PLN.out L n
      have lB : Hid ((placeL L acc s price k true).2.1.length ≤ 40) := PLN.out L k
      have lC : Hid ((placeL (placeL L acc s price k true).1 acc s price (n - k) true).2.1.length ≤ 40) := PLN.out _ _
      clear HP PLN
      generalize placeL (placeL L acc s price k true).1 acc s price (n - k) true = CX at *
      generalize placeL L acc s price k true = BX at *
      generalize placeL L acc s price n true = AX at *
      obtain ⟨LA, FA, iA, rA⟩ := AX
      obtain ⟨LB1, FB, iB, rB⟩ := BX
      obtain ⟨LC, FC, iC, rC⟩ := CX
      simp only at HPA HPB HPC SS LB SA SB SC KA KC lA lB lC
      obtain ⟨⟨i0, i1, i2, i3, i4⟩, _, _⟩ := five_at A0.out.b2
      obtain ⟨⟨d0, d1, d2, d3, d4⟩, _, _⟩ := five_at A0.out.b3
      go_wp2_with fail
      refine (HPA.out _ A0.out.la).mono ?_
      rintro e w3 ⟨b1, a1, o1, f1, rfl, hob, hoa, hoo, hfl, hb⟩
      dsimp only
      obtain ⟨xb, xbc, rfl⟩ := own_len hob
      obtain ⟨xa, xac, rfl⟩ := own_len hoa
      obtain ⟨xo, xoc, rfl⟩ := own_len hoo
      obtain ⟨xf, xfc, rfl⟩ := own_len hfl
      have hb1 := below1 w3 (.cells #[.bool LA.call, .int .i64 LA.next, .slice xb LA.bids.length xbc, .slice xa LA.asks.length xac, .slice xo LA.owed.length xoc] 25)
      have hbb := below_via hb hb1
      have Ox := hideIt (OW.new (L := LA) hob hoa hoo)
      have Gx := hideIt (own_keep hfl hb1)
      have hszx := hbb.size
      have A1 := hideIt (A0.out.keep hbb)
      have hk7 : w.heap.size ≤ w3.heap.size := Nat.le_trans A0.out.bel.size hb.size
      clear hob hoa hoo hfl hb hb1 hbb A0 HPA i0 i1 i2 i3 i4 d0 d1 d2 d3 d4
      go_upto_region 7 with fail
      generalize w3.alloc (.cells #[.bool LA.call, .int .i64 LA.next, .slice xb LA.bids.length xbc, .slice xa LA.asks.length xac, .slice xo LA.owed.length xoc] 25) = w4 at *
      generalize w3.heap.size = k7 at *
      obtain ⟨⟨i0, i1, i2, i3, i4⟩, _, _⟩ := five_at A1.out.b2
      obtain ⟨⟨d0, d1, d2, d3, d4⟩, _, _⟩ := five_at A1.out.b3
      go_wp2_with fail
      refine (HPB.out _ A1.out.la).mono ?_
      rintro e w5 ⟨b1, a1, o1, f1, rfl, hob, hoa, hoo, hfl, hb⟩
      dsimp only
      obtain ⟨yb, ybc, rfl⟩ := own_len hob
      obtain ⟨ya, yac, rfl⟩ := own_len hoa
      obtain ⟨yo, yoc, rfl⟩ := own_len hoo
      obtain ⟨yf, yfc, rfl⟩ := own_len hfl
      have hb1 := below1 w5 (.cells #[.bool LB1.call, .int .i64 LB1.next, .slice yb LB1.bids.length ybc, .slice ya LB1.asks.length yac, .slice yo LB1.owed.length yoc] 25)
      have hbb := below_via hb hb1
      have Oy := hideIt (OW.new (L := LB1) hob hoa hoo)
      have Gy := hideIt (own_keep hfl hb1)
      have hszy := hbb.size
      have A2 := hideIt (A1.out.keep hbb)
      have Ox2 := hideIt (Ox.out.keep hbb)
      have Gx2 := hideIt (own_keep Gx.out hbb)
      clear hob hoa hoo hfl hb hb1 hbb A1 Ox Gx HPB i0 i1 i2 i3 i4 d0 d1 d2 d3 d4
      go_upto_region 8 with fail
      generalize w5.alloc (.cells #[.bool LB1.call, .int .i64 LB1.next, .slice yb LB1.bids.length ybc, .slice ya LB1.asks.length yac, .slice yo LB1.owed.length yoc] 25) = w6 at *
      generalize w5.heap.size = k11 at *
      obtain ⟨⟨i0, i1, i2, i3, i4⟩, _, _⟩ := five_at Oy.out.bk
      obtain ⟨⟨d0, d1, d2, d3, d4⟩, _, _⟩ := five_at A2.out.b3
      have HPC1 := hideIt (HPC.out _ _ _ _ (LB.out _ _ _ _ _ _ Oy.out))
      clear HPC LB
      go_wp2_with fail
      refine HPC1.out.mono ?_
      rintro e w7 ⟨b1, a1, o1, f1, rfl, hob, hoa, hoo, hfl, hb⟩
      dsimp only
      obtain ⟨zb, zbc, rfl⟩ := own_len hob
      obtain ⟨za, zac, rfl⟩ := own_len hoa
      obtain ⟨zo, zoc, rfl⟩ := own_len hoo
      obtain ⟨zf, zfc, rfl⟩ := own_len hfl
      have hb1 := below1 w7 (.cells #[.bool LC.call, .int .i64 LC.next, .slice zb LC.bids.length zbc, .slice za LC.asks.length zac, .slice zo LC.owed.length zoc] 25)
      have hbb := below_via hb hb1
      have Oz := hideIt (OW.new (L := LC) hob hoa hoo)
      have Gz := hideIt (own_keep hfl hb1)
      have hszz := hbb.size
      have A3 := hideIt (A2.out.keep hbb)
      have Ox3 := hideIt (Ox2.out.keep hbb)
      have Gx3 := hideIt (own_sgot (bytes := 32) (own_keep Gx2.out hbb) (by have := lA.out; omega))
      have Gy3 := hideIt (own_sgot (bytes := 32) (own_keep Gy.out hbb) (by have := lB.out; omega))
      have Gz3 := hideIt (own_sgot (bytes := 32) Gz.out (by have := lC.out; omega))
      have n7 : w7.heap.size ≠ k7 := by have := (Array.getElem?_eq_some_iff.1 Ox2.out.bk).1; have := hb.size; omega
      clear hob hoa hoo hfl hb hb1 hbb A2 Ox2 Oy Gx2 Gy Gz HPC1 lA lB lC i0 i1 i2 i3 i4 d0 d1 d2 d3 d4
      go_upto_region 9 with fail
      generalize w7.alloc (.cells #[.bool LC.call, .int .i64 LC.next, .slice zb LC.bids.length zbc, .slice za LC.asks.length zac, .slice zo LC.owed.length zoc] 25) = w8 at *
      generalize w7.heap.size = k15 at *
      have HBA := hideIt A3.out.bel
      clear A3
      by_cases eA : rA = 0
      rotate_left
      · go_wp2_with fail
        refine (HV.out _).mono ?_
        rintro e wl ⟨rfl, hb⟩
        dsimp only
        have HB := hideIt (below_via HBA.out hb)
        clear hb
        go_wp2
        go_ret
        exact ⟨rfl, HB.out⟩
      by_cases eB : rB = 0
      rotate_left
      · go_wp2_with fail
        refine (HV.out _).mono ?_
        rintro e wl ⟨rfl, hb⟩
        dsimp only
        have HB := hideIt (below_via HBA.out hb)
        clear hb
        go_wp2
        go_ret
        exact ⟨rfl, HB.out⟩
      by_cases eC : rC = 0
      rotate_left
      · go_wp2_with fail
        refine (HV.out _).mono ?_
        rintro e wl ⟨rfl, hb⟩
        dsimp only
        have HB := hideIt (below_via HBA.out hb)
        clear hb
        go_wp2
        go_ret
        exact ⟨rfl, HB.out⟩
      subst eA eB eC
      obtain ⟨hsum, hEq⟩ := SS.out rfl rfl rfl
      obtain ⟨_, _, hnA, hsA⟩ := SA.out rfl
      obtain ⟨_, _, hnB, hsB⟩ := SB.out rfl
      obtain ⟨_, _, hnC, hsC⟩ := SC.out rfl
      have HSA := hideIt (fun i => srv_sum hsA i)
      have HSB := hideIt (fun i => srv_sum hsB i)
      have HSC := hideIt (fun i => srv_sum hsC i)
      have HKA := hideIt (KA.out rfl)
      have HKC := hideIt (KC.out rfl)
      have HSUM := hideIt hsum
      obtain ⟨x1, x2, ex, _, hrx⟩ := Gx3.out.fils
      obtain ⟨y1, y2, ey, _, hry⟩ := Gy3.out.fils
      obtain ⟨z1, z2, ez, _, hrz⟩ := Gz3.out.fils
      simp only [Value.slice.injEq, true_and] at ex ey ez
      obtain ⟨rfl, rfl⟩ := ex
      obtain ⟨rfl, rfl⟩ := ey
      obtain ⟨rfl, rfl⟩ := ez
      have HX := hideIt hrx
      have HY := hideIt hry
      have HZ := hideIt hrz
      have HEQ := hideIt hEq
      clear SS SA SB SC KA KC hsum hEq hsA hsB hsC hrx hry hrz Gx3 Gy3 Gz3
      go_upto_region 13 with fail
      go_loopw [19, 20] (fun u v wr => ∃ (t : Nat) (sm : Int), u = .int .i64 sm ∧ v = .int .i64 t ∧ t ≤ FA.length ∧ Hid (Below w8.heap.size w8 wr ∧ sm = 0 + sumG (FA.take t))) (fun _ v _ => FA.length - (intOf v).toNat)
      case atStart => exact ⟨0, 0, rfl, rfl, Nat.zero_le _, hideIt ⟨Below.refl _ _, by simp [sumG]⟩⟩
      case round =>
        obtain ⟨t, sm, rfl, rfl, ht, HR⟩ := hrel
        by_cases hlt : t < FA.length
        · have hltI : (t : Int) < ((FA).length : Int) := by omega
          have ht0 : (0 : Int) ≤ (t : Int) := by omega
          have hw2 : IntKind.i64.wrap ((t : Int) + 1) = ((t + 1 : Nat) : Int) := by rw [IntKind.wrap_i64]; omega
          obtain ⟨fb, fo, rfl, fl, _, _, _, e3⟩ := HX.out t hlt
          have fl' : fb < wr.heap.size := Nat.lt_of_lt_of_le fl HR.out.1.size
          have f3 := (HR.out.1.cell (p := ⟨fb, fo + t * 4 + 3, none⟩) fl).trans e3
          have hsm := HR.out.2
          have s0 := HSA.out t
          have s1 := HSA.out (t + 1)
          rw [sum_step hlt] at s1
          have HST := hideIt (sum_step hlt)
          have HBR := hideIt HR.out.1
          clear HR e3
          generalize FA[t] = ge at *
          obtain ⟨_, _, _, m⟩ := ge
          dsimp only at f3 s1 HST
          have hsw : IntKind.i64.wrap (sm + m) = sm + m := by rw [IntKind.wrap_i64]; omega
          have HNX : Hid (sm + m = 0 + sumG ((FA).take (t + 1))) := by
            show _ = _
            rw [HST.out]
            omega
          clear hsm s0 s1 HST
          go_wp2
          go_roundw
          case rel => exact ⟨t + 1, sm + m, rfl, by go_num, by omega, hideIt ⟨HBR.out, HNX.out⟩⟩
          case measure => simp [intOf]; omega
        have hltI : ¬ (t : Int) < (FA.length : Int) := by omega
        have het : FA.take t = FA := List.take_of_length_le (by omega)
        rw [het] at HR
        have HA := hideIt HR.out.2
        have R1 := hideIt HR.out.1
        clear HR hltI het HX HSA ht
        generalize t = t1 at *
        generalize sm = smA at *
        go_upto_region 18 with fail
        go_loopw [21, 22] (fun u v wr2 => ∃ (t : Nat) (sm : Int), u = .int .i64 sm ∧ v = .int .i64 t ∧ t ≤ FB.length ∧ Hid (Below w8.heap.size w8 wr2 ∧ sm = 0 + sumG (FB.take t))) (fun _ v _ => FB.length - (intOf v).toNat)
        case atStart => exact ⟨0, 0, rfl, rfl, Nat.zero_le _, hideIt ⟨R1.out, by simp [sumG]⟩⟩
        case round =>
          clear R1
          obtain ⟨t, sm, rfl, rfl, ht, HR⟩ := hrel
          by_cases hlt : t < FB.length
          · have hltI : (t : Int) < ((FB).length : Int) := by omega
            have ht0 : (0 : Int) ≤ (t : Int) := by omega
            have hw2 : IntKind.i64.wrap ((t : Int) + 1) = ((t + 1 : Nat) : Int) := by rw [IntKind.wrap_i64]; omega
            obtain ⟨fb, fo, rfl, fl, _, _, _, e3⟩ := HY.out t hlt
            have fl' : fb < wr.heap.size := Nat.lt_of_lt_of_le fl HR.out.1.size
            have f3 := (HR.out.1.cell (p := ⟨fb, fo + t * 4 + 3, none⟩) fl).trans e3
            have hsm := HR.out.2
            have s0 := HSB.out t
            have s1 := HSB.out (t + 1)
            rw [sum_step hlt] at s1
            have HST := hideIt (sum_step hlt)
            have HBR := hideIt HR.out.1
            clear HR e3
            generalize FB[t] = ge at *
            obtain ⟨_, _, _, m⟩ := ge
            dsimp only at f3 s1 HST
            have hsw : IntKind.i64.wrap (sm + m) = sm + m := by rw [IntKind.wrap_i64]; omega
            have HNX : Hid (sm + m = 0 + sumG ((FB).take (t + 1))) := by
              show _ = _
              rw [HST.out]
              omega
            clear hsm s0 s1 HST
            go_wp2
            go_roundw
            case rel => exact ⟨t + 1, sm + m, rfl, by go_num, by omega, hideIt ⟨HBR.out, HNX.out⟩⟩
            case measure => simp [intOf]; omega
          have hltI : ¬ (t : Int) < (FB.length : Int) := by omega
          have het : FB.take t = FB := List.take_of_length_le (by omega)
          rw [het] at HR
          have sB := HSB.out FB.length
          rw [List.take_of_length_le (Nat.le_refl _)] at sB
          have HB := hideIt HR.out.2
          have R1 := hideIt HR.out.1
          clear HR hltI het HY HSB ht
          generalize t = t2 at *
          generalize sm = smB at *
          go_upto_region 22 with fail
          go_loopw [21, 23] (fun u v wr2 => ∃ (t : Nat) (sm : Int), u = .int .i64 sm ∧ v = .int .i64 t ∧ t ≤ FC.length ∧ Hid (Below w8.heap.size w8 wr2 ∧ sm = sumG FB + sumG (FC.take t))) (fun _ v _ => FC.length - (intOf v).toNat)
          case atStart => exact ⟨0, smB, rfl, rfl, Nat.zero_le _, hideIt ⟨R1.out, by rw [HB.out]; simp [sumG]⟩⟩
          case round =>
            clear R1 HB
            obtain ⟨t, sm, rfl, rfl, ht, HR⟩ := hrel
            by_cases hlt : t < FC.length
            · have hltI : (t : Int) < ((FC).length : Int) := by omega
              have ht0 : (0 : Int) ≤ (t : Int) := by omega
              have hw2 : IntKind.i64.wrap ((t : Int) + 1) = ((t + 1 : Nat) : Int) := by rw [IntKind.wrap_i64]; omega
              obtain ⟨fb, fo, rfl, fl, _, _, _, e3⟩ := HZ.out t hlt
              have fl' : fb < wr.heap.size := Nat.lt_of_lt_of_le fl HR.out.1.size
              have f3 := (HR.out.1.cell (p := ⟨fb, fo + t * 4 + 3, none⟩) fl).trans e3
              have hsm := HR.out.2
              have s0 := HSC.out t
              have s1 := HSC.out (t + 1)
              rw [sum_step hlt] at s1
              have HST := hideIt (sum_step hlt)
              have HBR := hideIt HR.out.1
              clear HR e3
              generalize FC[t] = ge at *
              obtain ⟨_, _, _, m⟩ := ge
              dsimp only at f3 s1 HST
              have hsw : IntKind.i64.wrap (sm + m) = sm + m := by rw [IntKind.wrap_i64]; omega
              have HNX : Hid (sm + m = sumG FB + sumG ((FC).take (t + 1))) := by
                show _ = _
                rw [HST.out]
                omega
              clear hsm s0 s1 HST
              go_wp2
              go_roundw
              case rel => exact ⟨t + 1, sm + m, rfl, by go_num, by omega, hideIt ⟨HBR.out, HNX.out⟩⟩
              case measure => simp [intOf]; omega
            have hltI : ¬ (t : Int) < (FC.length : Int) := by omega
            have het : FC.take t = FC := List.take_of_length_le (by omega)
            rw [het] at HR
            have e1 : smA = sm := by have h1 := HA.out; have h2 := HR.out.2; have h3 := HSUM.out; omega
            subst e1
            have R1 := hideIt HR.out.1
            clear HR het HZ HSC ht HA HSUM sB
            have OX := hideIt (Ox3.out.keep R1.out)
            have OZ := hideIt (Oz.out.keep R1.out)
            have HBR := hideIt (below_via HBA.out R1.out)
            clear R1 HBA Ox3 Oz
            obtain ⟨⟨i0, i1, i2, i3, i4⟩, zf, zl⟩ := five_at OX.out.bk
            obtain ⟨⟨d0, d1, d2, d3, d4⟩, _, zl2⟩ := five_at OZ.out.bk
            have OX2 := hideIt (OX.out.next LC.next)
            have OZ2 := hideIt (OZ.out.other OX.out.bk n7 1 (.int .i64 LC.next))
            have BX2 := hideIt (belowSet (.int .i64 LC.next) (j := 1) HBR.out hk7)
            clear OX OZ HBR
            rw [HEQ.out] at OX2
            have HQ := hideIt (sameL_is LC (.slice xb LA.bids.length xbc) (.slice xa LA.asks.length xac) (.slice xo LA.owed.length xoc) (.slice zb LC.bids.length zbc) (.slice za LC.asks.length zac) (.slice zo LC.owed.length zoc) _ (OX2.out.lan HKC.out) (OZ2.out.lan HKC.out))
            unfold laneV laneA at HQ
            obtain ⟨⟨g0, g1, g2, g3, g4⟩, _, _⟩ := five_at OX2.out.bk
            obtain ⟨⟨h0, h1, h2, h3, h4⟩, _, _⟩ := five_at OZ2.out.bk
            clear OX2 OZ2 HEQ HKA HKC
            go_upto_region 26 with fail
            clear i0 i1 i2 i3 i4 d0 d1 d2 d3 d4 zf zl zl2
            generalize wr.setCell ⟨k7, 1, none⟩ (.int .i64 LC.next) = W9 at *
            go_wp2_with fail
            refine HQ.out.mono ?_
            rintro e wq ⟨rfl, hb⟩
            dsimp only
            have BQ := hideIt (below_via BX2.out hb)
            clear hb HQ BX2 g0 g1 g2 g3 g4 h0 h1 h2 h3 h4
            go_wp2_with fail
            refine (HV.out _).mono ?_
            rintro e wl ⟨rfl, hb⟩
            dsimp only
            have HB := hideIt (below_via BQ.out hb)
            clear hb
            go_wp2
            go_ret
            exact ⟨rfl, HB.out⟩
end Go.Proofs.Ytlffcoefejhabaa
