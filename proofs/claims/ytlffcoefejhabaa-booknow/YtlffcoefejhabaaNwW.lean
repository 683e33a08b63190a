/- The statement on an order that is for now alone, walked. -/
import Derived.Test.YtlffcoefejhabaaAwK
namespace Go.Proofs.Ytlffcoefejhabaa
open Go.RowKit
set_option linter.all false
set_option maxHeartbeats 16000000 in
set_option maxRecDepth 100000 in
theorem now_walk (L : LaneV) (b a o : Value) (acc s price n : Int) (now : Bool) (w : World) (h : Lan w L b a o) : Calls Try.prog 3 #[laneV L b a o, .agg #[.int .i64 acc, .int .i64 s, .int .i64 price, .int .i64 n, .bool now]] w fun e w' => e = .returned (.bool true) ∧ Below w.heap.size w w' := by
  have HV := hideIt (fun W => live_is W)
  have HP := hideIt (fun W hL => place_is L b a o acc s price n true W hL)
  have A0 := hideIt (AW.first acc s price n now h)
  have NB := hideIt (fun h => now_bad (L := L) (acc := acc) (s := s) (price := price) (n := n) (now := true) h)
  have NO := hideIt (fun h => And.intro (placeL_may (L := L) (acc := acc) (s := s) (price := price) (n := n) (now := true) h) (now_out h))
  have HCA := hideIt (fun L1 b1 a1 o1 id W hL => cancel_is L1 b1 a1 o1 acc id W hL)
  unfold PlBack laneV laneA at HP
  unfold CnBack laneV laneA at HCA
  unfold laneV laneA
  obtain ⟨ba, bc, rfl⟩ := h.bids.slice
  obtain ⟨aa, ac, rfl⟩ := h.asks.slice
  obtain ⟨oa, oc, rfl⟩ := h.owed.slice
  clear h
  generalize placeL L acc s price n true = PX at *
  obtain ⟨L1, F, id, er⟩ := PX
  simp only at NB NO HP
  obtain ⟨⟨i0, i1, i2, i3, i4⟩, _, _⟩ := five_at A0.out.b2
  obtain ⟨⟨d0, d1, d2, d3, d4⟩, _, _⟩ := five_at A0.out.b3
  go_enter Try.func3, Try.ntmps3
  go_wp2_with fail
  refine (HP.out _ A0.out.la).mono ?_
  rintro e w3 ⟨b1, a1, o1, f1, rfl, hob, hoa, hoo, hfl, hb⟩
  dsimp only
  obtain ⟨b1a, b1c, rfl⟩ := own_len hob
  obtain ⟨a1a, a1c, rfl⟩ := own_len hoa
  obtain ⟨o1a, o1c, rfl⟩ := own_len hoo
  have hb4 := below1 w3 (.cells #[.bool L1.call, .int .i64 L1.next, .slice b1a L1.bids.length b1c, .slice a1a L1.asks.length a1c, .slice o1a L1.owed.length o1c] 25)
  have hbb := below_via hb hb4
  have A4 := hideIt (A0.out.keep hbb)
  have HPM := hideIt (fun h => PW.new (L := L1) h hob hoa hoo)
  clear hob hoa hoo hfl hb hb4 hbb A0 HP i0 i1 i2 i3 i4 d0 d1 d2 d3 d4
  go_upto_region 2 with fail
  generalize w3.alloc (.cells #[.bool L1.call, .int .i64 L1.next, .slice b1a L1.bids.length b1c, .slice a1a L1.asks.length a1c, .slice o1a L1.owed.length o1c] 25) = w4 at *
  generalize w3.heap.size = k5 at *
  by_cases he : er = 0
  · subst he
    obtain ⟨hk1, hid, hc, hsd⟩ := NO.out rfl
    subst hid
    have P4 := hideIt (HPM.out hk1)
    replace HCA := hideIt (fun W hL => HCA.out L1 (.slice b1a L1.bids.length b1c) (.slice a1a L1.asks.length a1c) (.slice o1a L1.owed.length o1c) L.next W hL)
    clear NO NB HPM hk1
    generalize canR L1 acc L.next = CX at *
    obtain ⟨N, lf, ce⟩ := CX
    simp only at hc HCA
    subst hc
    obtain ⟨⟨i0, i1, i2, i3, i4⟩, _, _⟩ := five_at P4.out.bk
    obtain ⟨⟨d0, d1, d2, d3, d4⟩, _, _⟩ := five_at A4.out.b3
    have HCN := hideIt (HCA.out _ P4.out.la)
    clear HCA
    go_wp2_with fail
    refine HCN.out.mono ?_
    rintro e w7 ⟨b2, a2, o2, rfl, hob, hoa, hoo, hb⟩
    dsimp only
    obtain ⟨b2a, b2c, rfl⟩ := own_len hob
    obtain ⟨a2a, a2c, rfl⟩ := own_len hoa
    obtain ⟨o2a, o2c, rfl⟩ := own_len hoo
    have hb8 := below1 w7 (.cells #[.bool N.call, .int .i64 N.next, .slice b2a N.bids.length b2c, .slice a2a N.asks.length a2c, .slice o2a N.owed.length o2c] 25)
    have hbb := below_via hb hb8
    have A8 := hideIt (A4.out.keep hbb)
    have P8 := hideIt (P4.out.keep hbb)
    clear hob hoa hoo hb hb8 hbb A4 P4 HCN i0 i1 i2 i3 i4 d0 d1 d2 d3 d4
    go_upto_region 5 with fail
    generalize w7.alloc (.cells #[.bool N.call, .int .i64 N.next, .slice b2a N.bids.length b2c, .slice a2a N.asks.length a2c, .slice o2a N.owed.length o2c] 25) = w8 at *
    generalize w7.heap.size = k15 at *
    obtain ⟨cl, nx, bids, asks, owed⟩ := L
    obtain ⟨cl1, nx1, bids1, asks1, owed1⟩ := L1
    simp only at hsd A8 P8
    rcases hsd with ⟨rfl, rfl⟩ | ⟨rfl, rfl⟩
    · obtain ⟨x1, x2, ex, x8, hr⟩ := A8.out.la.bids.ords
      obtain ⟨y1, y2, ey, y8, hr'⟩ := P8.out.la.bids.ords
      simp only [Value.slice.injEq, true_and] at ex ey
      obtain ⟨rfl, rfl⟩ := ex
      obtain ⟨rfl, rfl⟩ := ey
      have HH := hideIt hr
      have HM := hideIt hr'
      have HBA := hideIt A8.out.bel
      clear hr hr'
      obtain ⟨⟨i0, i1, i2, i3, i4⟩, _, _⟩ := five_at A8.out.b2
      obtain ⟨⟨j0, j1, j2, j3, j4⟩, _, _⟩ := five_at P8.out.bk
      obtain ⟨⟨d0, d1, d2, d3, d4⟩, _, _⟩ := five_at A8.out.b3
      go_upto_region 12 with fail
      clear i0 i1 i2 i3 i4 j0 j1 j2 j3 j4 d0 d1 d2 d3 d4 A8 P8
      generalize bids1 = l at *
      go_wp2
      go_loopw [14] (fun v wr => ∃ t : Nat, v = .int .i64 t ∧ t ≤ l.length ∧ Hid (Below w8.heap.size w8 wr)) (fun v _ => l.length - (intOf v).toNat)
      case atStart => exact ⟨0, rfl, Nat.zero_le _, hideIt (Below.refl _ _)⟩
      case round =>
        obtain ⟨t, rfl, ht, HR⟩ := hrel
        by_cases hlt : t < l.length
        · have hltI : (t : Int) < (l.length : Int) := by omega
          have ht0 : (0 : Int) ≤ (t : Int) := by omega
          have hw : IntKind.i64.wrap ((t : Int) + 1) = ((t + 1 : Nat) : Int) := by rw [IntKind.wrap_i64]; omega
          have hB := HR.out
          obtain ⟨b, off, rfl, hbl, q0, q1, q2, q3⟩ := HH.out t hlt
          have hblr : b < wr.heap.size := Nat.lt_of_lt_of_le hbl hB.size
          have c0 := (hB.cell (p := ⟨b, off + t * 4, none⟩) hbl).trans q0
          have c1 := (hB.cell (p := ⟨b, off + t * 4 + 1, none⟩) hbl).trans q1
          have c2 := (hB.cell (p := ⟨b, off + t * 4 + 2, none⟩) hbl).trans q2
          have c3 := (hB.cell (p := ⟨b, off + t * 4 + 3, none⟩) hbl).trans q3
          clear q0 q1 q2 q3
          obtain ⟨b', off', rfl, hbl', q0, q1, q2, q3⟩ := HM.out t hlt
          have hblr' : b' < wr.heap.size := Nat.lt_of_lt_of_le hbl' hB.size
          have d0 := (hB.cell (p := ⟨b', off' + t * 4, none⟩) hbl').trans q0
          have d1 := (hB.cell (p := ⟨b', off' + t * 4 + 1, none⟩) hbl').trans q1
          have d2 := (hB.cell (p := ⟨b', off' + t * 4 + 2, none⟩) hbl').trans q2
          have d3 := (hB.cell (p := ⟨b', off' + t * 4 + 3, none⟩) hbl').trans q3
          clear q0 q1 q2 q3 hB HH HM
          generalize l[t] = en at *
          obtain ⟨x, y, z, u⟩ := en
          dsimp only at c0 c1 c2 c3 d0 d1 d2 d3
          have q1 := fun W => neq36 x y z u W
          go_wp2_with fail
          go_quiet (fail)
          go_wp2
          go_roundw
          case rel => exact ⟨t + 1, by go_num, by omega, hideIt (below_drewN HR.out _)⟩
          case measure => simp [intOf]; omega
        · have hltI : ¬ (t : Int) < (l.length : Int) := by omega
          have HBR := hideIt (below_via HBA.out HR.out)
          clear HH HM HR HBA
          go_wp2_with fail
          refine (HV.out _).mono ?_
          rintro e wl ⟨rfl, hb⟩
          dsimp only
          have HB := hideIt (below_via HBR.out hb)
          clear hb
          go_wp2
          go_ret
          exact ⟨rfl, HB.out⟩
    · obtain ⟨x1, x2, ex, x8, hr⟩ := A8.out.la.asks.ords
      obtain ⟨y1, y2, ey, y8, hr'⟩ := P8.out.la.asks.ords
      simp only [Value.slice.injEq, true_and] at ex ey
      obtain ⟨rfl, rfl⟩ := ex
      obtain ⟨rfl, rfl⟩ := ey
      have HH := hideIt hr
      have HM := hideIt hr'
      have HBA := hideIt A8.out.bel
      clear hr hr'
      obtain ⟨⟨i0, i1, i2, i3, i4⟩, _, _⟩ := five_at A8.out.b2
      obtain ⟨⟨j0, j1, j2, j3, j4⟩, _, _⟩ := five_at P8.out.bk
      obtain ⟨⟨d0, d1, d2, d3, d4⟩, _, _⟩ := five_at A8.out.b3
      go_upto_region 12 with fail
      clear i0 i1 i2 i3 i4 j0 j1 j2 j3 j4 d0 d1 d2 d3 d4 A8 P8
      generalize asks1 = l at *
      go_wp2
      go_loopw [14] (fun v wr => ∃ t : Nat, v = .int .i64 t ∧ t ≤ l.length ∧ Hid (Below w8.heap.size w8 wr)) (fun v _ => l.length - (intOf v).toNat)
      case atStart => exact ⟨0, rfl, Nat.zero_le _, hideIt (Below.refl _ _)⟩
      case round =>
        obtain ⟨t, rfl, ht, HR⟩ := hrel
        by_cases hlt : t < l.length
        · have hltI : (t : Int) < (l.length : Int) := by omega
          have ht0 : (0 : Int) ≤ (t : Int) := by omega
          have hw : IntKind.i64.wrap ((t : Int) + 1) = ((t + 1 : Nat) : Int) := by rw [IntKind.wrap_i64]; omega
          have hB := HR.out
          obtain ⟨b, off, rfl, hbl, q0, q1, q2, q3⟩ := HH.out t hlt
          have hblr : b < wr.heap.size := Nat.lt_of_lt_of_le hbl hB.size
          have c0 := (hB.cell (p := ⟨b, off + t * 4, none⟩) hbl).trans q0
          have c1 := (hB.cell (p := ⟨b, off + t * 4 + 1, none⟩) hbl).trans q1
          have c2 := (hB.cell (p := ⟨b, off + t * 4 + 2, none⟩) hbl).trans q2
          have c3 := (hB.cell (p := ⟨b, off + t * 4 + 3, none⟩) hbl).trans q3
          clear q0 q1 q2 q3
          obtain ⟨b', off', rfl, hbl', q0, q1, q2, q3⟩ := HM.out t hlt
          have hblr' : b' < wr.heap.size := Nat.lt_of_lt_of_le hbl' hB.size
          have d0 := (hB.cell (p := ⟨b', off' + t * 4, none⟩) hbl').trans q0
          have d1 := (hB.cell (p := ⟨b', off' + t * 4 + 1, none⟩) hbl').trans q1
          have d2 := (hB.cell (p := ⟨b', off' + t * 4 + 2, none⟩) hbl').trans q2
          have d3 := (hB.cell (p := ⟨b', off' + t * 4 + 3, none⟩) hbl').trans q3
          clear q0 q1 q2 q3 hB HH HM
          generalize l[t] = en at *
          obtain ⟨x, y, z, u⟩ := en
          dsimp only at c0 c1 c2 c3 d0 d1 d2 d3
          have q1 := fun W => neq36 x y z u W
          go_wp2_with fail
          go_quiet (fail)
          go_wp2
          go_roundw
          case rel => exact ⟨t + 1, by go_num, by omega, hideIt (below_drewN HR.out _)⟩
          case measure => simp [intOf]; omega
        · have hltI : ¬ (t : Int) < (l.length : Int) := by omega
          have HBR := hideIt (below_via HBA.out HR.out)
          clear HH HM HR HBA
          go_wp2_with fail
          refine (HV.out _).mono ?_
          rintro e wl ⟨rfl, hb⟩
          dsimp only
          have HB := hideIt (below_via HBR.out hb)
          clear hb
          go_wp2
          go_ret
          exact ⟨rfl, HB.out⟩
  · have h0 := NB.out he
    subst h0
    go_wp2_with fail
    refine (HV.out _).mono ?_
    rintro e wl ⟨rfl, hb⟩
    dsimp only
    have HB := hideIt (below_via A4.out.bel hb)
    clear hb
    go_wp2
    go_ret
    exact ⟨rfl, HB.out⟩
end Go.Proofs.Ytlffcoefejhabaa
