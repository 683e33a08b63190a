/- The statement on tables that stay sound, walked. -/
import Derived.Test.YtgfpeknhabbkbaaSdP
import Derived.Test.YtgfpeknhabbkbaaPlay
namespace Go.Proofs.Ytgfpeknhabbkbaa
open Go.RowKit
set_option linter.all false
/-- The table's box, the oldest one's box. -/
structure ST (w : World) (A O : Nat) (T : TabV) (h v : Value) (f : TxnV) (wx : World) : Prop where
  box : wx.heap[A]? = some (.cells #[h, v] 24 (0, 0))
  old : wx.heap[O]? = some (.cells #[.int .i64 f.1, .int .i64 f.2] 28 (0, 0))
  own : TabOwn w.heap.size T h v wx
  bel : Below w.heap.size w wx
  lA : w.heap.size ≤ A
  lO : w.heap.size ≤ O
theorem ST.keep {w wx wy : World} {A O : Nat} {T : TabV} {h v : Value} {f : TxnV} (a : ST w A O T h v f wx) (hb : Below wx.heap.size wx wy) : ST w A O T h v f wy :=
  ⟨(hb.block _ (Array.getElem?_eq_some_iff.1 a.box).1).trans a.box, (hb.block _ (Array.getElem?_eq_some_iff.1 a.old).1).trans a.old, a.own.keep hb, below_via a.bel hb, a.lA, a.lO⟩
theorem ST.ne {w wx : World} {A O : Nat} {T : TabV} {h v : Value} {f : TxnV} (a : ST w A O T h v f wx) : A ≠ O := fun e => by
  have := a.box
  rw [e, a.old] at this
  simp at this
theorem ST.set {w wx : World} {A O : Nat} {T : TabV} {h v : Value} {f : TxnV} (a : ST w A O T h v f wx) (g : TxnV) : ST w A O T h v g ((wx.setCell ⟨O, 0, none⟩ (.int .i64 g.1)).setCell ⟨O, 1, none⟩ (.int .i64 g.2)) :=
  ⟨setOther _ (setOther _ a.box a.ne) a.ne, put2 a.old _ _, ⟨own_cell (own_cell a.own.oh a.old (by decide)) (heap_set a.old 0 _) (by decide), own_cell (own_cell a.own.ov a.old (by decide)) (heap_set a.old 0 _) (by decide)⟩, belowSet _ (belowSet _ a.bel a.lO) a.lO, a.lA, a.lO⟩
set_option maxHeartbeats 16000000 in
set_option maxRecDepth 100000 in
theorem sound_walk (v0 : Value) (l : List StepV) (w : World) (h0 : Stps w v0 l) : Calls Try.prog 7 #[v0] w fun e w' => e = .returned (.bool true) ∧ Below w.heap.size w w' := by
  have HP := hideIt (played_is v0 l w h0)
  have HV := hideIt (fun W => live_is W)
  have HM := hideIt (play_may l)
  have HO := hideIt (fun a b c d W => older_is a b c d W)
  unfold PlayBack at HP
  obtain ⟨va0, vc0, rfl⟩ := h0.slice
  clear h0
  generalize playL l = T at *
  have hsm := HM.out.small
  go_enter Try.func7, Try.ntmps7
  go_wp2_with fail
  refine HP.out.mono ?_
  rintro e w1 ⟨h1, v1, rfl, ho, hb⟩
  dsimp only
  obtain ⟨ta, tc, rfl⟩ := own_len ho.oh
  obtain ⟨ua, uc, rfl⟩ := own_len ho.ov
  have hb1 := below1 w1 (.cells #[.slice ta T.held.length tc, .slice ua T.wait.length uc] 24)
  have O1 := hideIt (ho.keep hb1)
  have N1 := hideIt (heap_alloc_new w1 (.cells #[.slice ta T.held.length tc, .slice ua T.wait.length uc] 24))
  have B1' := hideIt (below_via hb hb1)
  have lA : w.heap.size ≤ w1.heap.size := hb.size
  clear hb hb1 ho HP
  go_upto_region 2 with fail
  generalize w1.alloc (.cells #[.slice ta T.held.length tc, .slice ua T.wait.length uc] 24) = W1 at *
  generalize w1.heap.size = A at *
  have HCK := hideIt (check_is T _ _ W1 (O1.out.tab hsm.1 hsm.2))
  rw [show chkI T = 0 by unfold chkI; rw [if_pos ((chk_iff T).2 HM.out)]] at HCK
  obtain ⟨x0, x1, -, -, xl⟩ := two_at N1.out
  go_wp2_with fail
  refine HCK.out.mono ?_
  rintro e w2 ⟨rfl, hb⟩
  dsimp only
  have hb2 := below1 w2 (.cells #[.int .i64 0, .int .i64 0] 28)
  have X0 : Hid (ST w A w2.heap.size T (.slice ta T.held.length tc) (.slice ua T.wait.length uc) zT (w2.alloc (.cells #[.int .i64 0, .int .i64 0] 28))) := ⟨(hb2.block _ (Nat.lt_of_lt_of_le xl hb.size)).trans ((hb.block _ xl).trans N1.out), heap_alloc_new w2 _, (O1.out.keep hb).keep hb2, below_via (below_via B1'.out hb) hb2, lA, (below_via B1'.out hb).size⟩
  clear hb hb2 x0 x1 xl HCK N1 O1 B1'
  go_upto_region 6 with fail
  generalize w2.alloc (.cells #[.int .i64 0, .int .i64 0] 28) = W2 at *
  generalize w2.heap.size = O at *
  have hwl : IntKind.i64.wrap ((T.held.length : Int) + (T.wait.length : Int)) = (T.held.length : Int) + (T.wait.length : Int) := by rw [IntKind.wrap_i64]; omega
  go_loopw [5] (fun v5 wr => ∃ i : Nat, v5 = .int .i64 i ∧ i ≤ T.held.length + T.wait.length ∧ Hid (ST w A O T (.slice ta T.held.length tc) (.slice ua T.wait.length uc) (oldL ((namL T).take i)) wr)) (fun v _ => T.held.length + T.wait.length - (intOf v).toNat)
  case atStart => exact ⟨0, rfl, Nat.zero_le _, hideIt (by simpa [oldL] using X0.out)⟩
  case round =>
    clear X0
    obtain ⟨i, rfl, hi, HR⟩ := hrel
    have X := hideIt HR.out
    clear HR
    obtain ⟨x0, x1, -, -, xl⟩ := two_at X.out.box
    by_cases hlt : i < T.held.length + T.wait.length
    · have hiw : IntKind.i64.wrap ((i : Int) + 1) = ((i + 1 : Nat) : Int) := by rw [IntKind.wrap_i64]; omega
      have hltI : (i : Int) < (T.held.length : Int) + (T.wait.length : Int) := by omega
      have hi0 : (0 : Int) ≤ (i : Int) := by omega
      have HL := hideIt (old_step (l := namL T) (t := i) (by rw [nam_len]; exact hlt))
      generalize oldL ((namL T).take i) = f at *
      obtain ⟨fc, fq⟩ := f
      by_cases hh : i < T.held.length
      · have hhI : (i : Int) < (T.held.length : Int) := by omega
        have hnm : (namL T)[i]'(by rw [nam_len]; exact hlt) = T.held[i].2 := by
          unfold namL
          rw [List.getElem_append_left (by simpa using hh)]
          simp
        rw [hnm] at HL
        obtain ⟨a', c', e, h8, hr⟩ := (X.out.own.tab hsm.1 hsm.2).held.hols
        simp only [Value.slice.injEq, true_and] at e
        obtain ⟨rfl, rfl⟩ := e
        obtain ⟨b, off, rfl, hbl, q0, q1, q2, q3⟩ := hr i hh
        clear hr hnm
        generalize T.held[i] = en at *
        obtain ⟨⟨xk, xn⟩, ⟨xc, xq⟩⟩ := en
        dsimp only at q0 q1 q2 q3 HL
        have X4 := hideIt (X.out.keep (below1 wr (.cells #[.int .i64 xc, .int .i64 xq] 28)))
        have N4 := hideIt (heap_alloc_new wr (.cells #[.int .i64 xc, .int .i64 xq] 28))
        clear X
        go_upto_region 12 with fail
        generalize wr.alloc (.cells #[.int .i64 xc, .int .i64 xq] 28) = W4 at *
        generalize wr.heap.size = K4 at *
        obtain ⟨u0, u1, -, -, ul⟩ := two_at N4.out
        obtain ⟨s0, s1, sf0, sf1, sl⟩ := two_at X4.out.old
        clear x0 x1 xl q0 q1 q2 q3 hbl
        have HC := hideIt (HO.out xc xq fc fq)
        have HZ2 := hideIt HL.out
        cases hz : ((fc, fq) == zT)
        · have e1 : ∀ W, (binOp .eql 28 (.agg #[.int .i64 fc, .int .i64 fq]) (.agg #[.int .i64 0, .int .i64 0])).run Try.prog W = .ok (.bool false) W := fun W => by rw [eq28]; rw [show ((fc, fq) == ((0, 0) : TxnV)) = ((fc, fq) == zT) from rfl, hz]
          cases hq : oldB (xc, xq) (fc, fq)
          · rw [hq] at HC
            have HE : Hid (oldL ((namL T).take (i + 1)) = (fc, fq)) := by
              show oldL _ = _
              rw [HL.out]
              unfold oldF
              rw [hz, hq]
              simp
            clear hz hq HL HZ2
            go_wp2_with fail
            refine (HC.out _).mono ?_
            rintro e w6 ⟨rfl, hb⟩
            dsimp only
            have X6 := hideIt (X4.out.keep hb)
            clear hb
            go_wp2
            go_roundw
            case rel => exact ⟨i + 1, by go_num, by omega, hideIt (by rw [HE.out]; exact X6.out)⟩
            case measure => simp [intOf]; omega
          · rw [hq] at HC
            have HE : Hid (oldL ((namL T).take (i + 1)) = (xc, xq)) := by
              show oldL _ = _
              rw [HL.out]
              unfold oldF
              rw [hz, hq]
              simp
            clear hz hq HL HZ2
            go_wp2_with fail
            refine (HC.out _).mono ?_
            rintro e w6 ⟨rfl, hb⟩
            dsimp only
            have X6 := hideIt (X4.out.keep hb)
            have N6 := hideIt ((hb.block _ (Array.getElem?_eq_some_iff.1 N4.out).1).trans N4.out)
            clear hb
            obtain ⟨u0, u1, -, -, ul⟩ := two_at N6.out
            obtain ⟨s0, s1, sf0, sf1, sl⟩ := two_at X6.out.old
            have Z := hideIt (X6.out.set (xc, xq))
            go_wp2
            go_roundw
            case rel => exact ⟨i + 1, by go_num, by omega, hideIt (by rw [HE.out]; exact Z.out)⟩
            case measure => simp [intOf]; omega
        · have e1 : ∀ W, (binOp .eql 28 (.agg #[.int .i64 fc, .int .i64 fq]) (.agg #[.int .i64 0, .int .i64 0])).run Try.prog W = .ok (.bool true) W := fun W => by rw [eq28]; rw [show ((fc, fq) == ((0, 0) : TxnV)) = ((fc, fq) == zT) from rfl, hz]
          have HE : Hid (oldL ((namL T).take (i + 1)) = (xc, xq)) := by
            show oldL _ = _
            rw [HL.out]
            unfold oldF
            rw [hz]
            simp
          clear hz HL HZ2 HC
          have Z := hideIt (X4.out.set (xc, xq))
          go_wp2
          go_roundw
          case rel => exact ⟨i + 1, by go_num, by omega, hideIt (by rw [HE.out]; exact Z.out)⟩
          case measure => simp [intOf]; omega
      · have hhI : ¬ (i : Int) < (T.held.length : Int) := by omega
        obtain ⟨d, hd⟩ : ∃ d, i = T.held.length + d := ⟨i - T.held.length, by omega⟩
        have hdl : d < T.wait.length := by omega
        have hnm : (namL T)[i]'(by rw [nam_len]; exact hlt) = T.wait[d].2 := by
          unfold namL
          rw [List.getElem_append_right (by simp; omega)]
          simp [hd]
        rw [hnm] at HL
        have hdw : IntKind.i64.wrap ((i : Int) - (T.held.length : Int)) = (d : Int) := by rw [IntKind.wrap_i64]; omega
        have hd0 : (0 : Int) ≤ (d : Int) := by omega
        have hdI : (d : Int) < (T.wait.length : Int) := by omega
        obtain ⟨a', c', e, h8, hr⟩ := (X.out.own.tab hsm.1 hsm.2).wait.hols
        simp only [Value.slice.injEq, true_and] at e
        obtain ⟨rfl, rfl⟩ := e
        obtain ⟨b, off, rfl, hbl, q0, q1, q2, q3⟩ := hr d hdl
        have HD := hideIt hd
        clear hr hnm hd
        generalize T.wait[d] = en at *
        obtain ⟨⟨xk, xn⟩, ⟨xc, xq⟩⟩ := en
        dsimp only at q0 q1 q2 q3 HL
        have X4 := hideIt (X.out.keep (below1 wr (.cells #[.int .i64 xc, .int .i64 xq] 28)))
        have N4 := hideIt (heap_alloc_new wr (.cells #[.int .i64 xc, .int .i64 xq] 28))
        clear X
        go_upto_region 12 with fail
        generalize wr.alloc (.cells #[.int .i64 xc, .int .i64 xq] 28) = W4 at *
        generalize wr.heap.size = K4 at *
        obtain ⟨u0, u1, -, -, ul⟩ := two_at N4.out
        obtain ⟨s0, s1, sf0, sf1, sl⟩ := two_at X4.out.old
        clear x0 x1 xl q0 q1 q2 q3 hbl
        have HC := hideIt (HO.out xc xq fc fq)
        have HZ2 := hideIt HL.out
        cases hz : ((fc, fq) == zT)
        · have e1 : ∀ W, (binOp .eql 28 (.agg #[.int .i64 fc, .int .i64 fq]) (.agg #[.int .i64 0, .int .i64 0])).run Try.prog W = .ok (.bool false) W := fun W => by rw [eq28]; rw [show ((fc, fq) == ((0, 0) : TxnV)) = ((fc, fq) == zT) from rfl, hz]
          cases hq : oldB (xc, xq) (fc, fq)
          · rw [hq] at HC
            have HE : Hid (oldL ((namL T).take (i + 1)) = (fc, fq)) := by
              show oldL _ = _
              rw [HL.out]
              unfold oldF
              rw [hz, hq]
              simp
            clear hz hq HL HZ2
            go_wp2_with fail
            refine (HC.out _).mono ?_
            rintro e w6 ⟨rfl, hb⟩
            dsimp only
            have X6 := hideIt (X4.out.keep hb)
            clear hb
            go_wp2
            go_roundw
            case rel => exact ⟨i + 1, by go_num, by omega, hideIt (by rw [HE.out]; exact X6.out)⟩
            case measure => simp [intOf]; omega
          · rw [hq] at HC
            have HE : Hid (oldL ((namL T).take (i + 1)) = (xc, xq)) := by
              show oldL _ = _
              rw [HL.out]
              unfold oldF
              rw [hz, hq]
              simp
            clear hz hq HL HZ2
            go_wp2_with fail
            refine (HC.out _).mono ?_
            rintro e w6 ⟨rfl, hb⟩
            dsimp only
            have X6 := hideIt (X4.out.keep hb)
            have N6 := hideIt ((hb.block _ (Array.getElem?_eq_some_iff.1 N4.out).1).trans N4.out)
            clear hb
            obtain ⟨u0, u1, -, -, ul⟩ := two_at N6.out
            obtain ⟨s0, s1, sf0, sf1, sl⟩ := two_at X6.out.old
            have Z := hideIt (X6.out.set (xc, xq))
            go_wp2
            go_roundw
            case rel => exact ⟨i + 1, by go_num, by omega, hideIt (by rw [HE.out]; exact Z.out)⟩
            case measure => simp [intOf]; omega
        · have e1 : ∀ W, (binOp .eql 28 (.agg #[.int .i64 fc, .int .i64 fq]) (.agg #[.int .i64 0, .int .i64 0])).run Try.prog W = .ok (.bool true) W := fun W => by rw [eq28]; rw [show ((fc, fq) == ((0, 0) : TxnV)) = ((fc, fq) == zT) from rfl, hz]
          have HE : Hid (oldL ((namL T).take (i + 1)) = (xc, xq)) := by
            show oldL _ = _
            rw [HL.out]
            unfold oldF
            rw [hz]
            simp
          clear hz HL HZ2 HC
          have Z := hideIt (X4.out.set (xc, xq))
          go_wp2
          go_roundw
          case rel => exact ⟨i + 1, by go_num, by omega, hideIt (by rw [HE.out]; exact Z.out)⟩
          case measure => simp [intOf]; omega
    · have hltI : ¬ (i : Int) < (T.held.length : Int) + (T.wait.length : Int) := by omega
      have hE : (namL T).take i = namL T := List.take_of_length_le (by rw [nam_len]; omega)
      rw [hE] at X
      have HWN := hideIt (wounds_is T _ _ wr (X.out.own.tab hsm.1 hsm.2))
      unfold HolsBack at HWN
      have HSD := hideIt (sound_wn HM.out)
      have hwn := wn_len T
      clear hE
      generalize oldL (namL T) = f at *
      obtain ⟨fc, fq⟩ := f
      generalize wnL T = wl at *
      go_upto_region 14 with fail
      go_wp2_with fail
      refine HWN.out.mono ?_
      rintro e w5 ⟨h5, rfl, ho5, hb5⟩
      dsimp only
      obtain ⟨ga, gc, rfl⟩ := own_len ho5
      have X5 := hideIt (X.out.keep hb5)
      have O5 := hideIt ho5
      clear ho5 hb5 HWN X x0 x1 xl
      go_upto_region 16 with fail
      go_loopw [8] (fun v8 wr => ∃ i : Nat, v8 = .int .i64 i ∧ i ≤ wl.length ∧ Hid (Below w5.heap.size w5 wr)) (fun v _ => wl.length - (intOf v).toNat)
      case atStart => exact ⟨0, rfl, Nat.zero_le _, hideIt (Below.refl _ _)⟩
      case round =>
        obtain ⟨i, rfl, hi2, HR⟩ := hrel
        by_cases hil : i < wl.length
        · have hilI : (i : Int) < (wl.length : Int) := by omega
          have hi0 : (0 : Int) ≤ (i : Int) := by omega
          have hiw : IntKind.i64.wrap ((i : Int) + 1) = ((i + 1 : Nat) : Int) := by rw [IntKind.wrap_i64]; omega
          have X6 := hideIt (X5.out.keep HR.out)
          obtain ⟨a', c', e, h8, hr⟩ := (own_sgot (bytes := 32) (enc := holE) (own_keep O5.out HR.out) (by omega)).hols
          simp only [Value.slice.injEq, true_and] at e
          obtain ⟨rfl, rfl⟩ := e
          obtain ⟨wb, wo, rfl, hwl2, y0, y1, y2, y3⟩ := hr i hil
          have hS := HSD.out wl[i] (List.getElem_mem hil)
          have HB6 := hideIt HR.out
          clear hr HR
          generalize wl[i] = en at *
          obtain ⟨⟨p0, p1⟩, ⟨p2, p3⟩⟩ := en
          dsimp only at y0 y1 y2 y3 hS
          have e1 : ∀ W, (binOp .eql 28 (.agg #[.int .i64 p2, .int .i64 p3]) (.agg #[.int .i64 fc, .int .i64 fq])).run Try.prog W = .ok (.bool false) W := fun W => by rw [eq28, beq_eq_false_iff_ne.2 hS.1]
          have HA := hideIt hS.2
          clear hS
          obtain ⟨s0, s1, -, -, sl⟩ := two_at X6.out.old
          go_wp2_with fail
          go_region
          go_upto_region 22 with fail
          clear s0 s1 sl
          have HB7 := hideIt (below_via HB6.out (Below.refl _ wr).drew)
          have X7 := hideIt (X6.out.keep (Below.refl _ wr).drew)
          have hwl3 : wb < wr.drew.heap.size := hwl2
          have Y : Hid (wr.drew.cell? ⟨wb, wo + i * 4, none⟩ = some (.int .i64 p0) ∧ wr.drew.cell? ⟨wb, wo + i * 4 + 1, none⟩ = some (.int .i64 p1) ∧ wr.drew.cell? ⟨wb, wo + i * 4 + 2, none⟩ = some (.int .i64 p2) ∧ wr.drew.cell? ⟨wb, wo + i * 4 + 3, none⟩ = some (.int .i64 p3)) := ⟨y0, y1, y2, y3⟩
          clear y0 y1 y2 y3 hwl2 X6 HB6
          generalize wr.drew = W6 at *
          go_loopw [9, 10] (fun v9 v10 wi => ∃ (j : Nat) (fd : Bool), v9 = .bool fd ∧ v10 = .int .i64 j ∧ j ≤ T.wait.length ∧ Hid (Below W6.heap.size W6 wi ∧ fd = (T.wait.take j).any (fun y => y.1 == (p0, p1) && oldB y.2 (p2, p3)))) (fun _ v _ => T.wait.length - (intOf v).toNat)
          case atStart => exact ⟨0, false, rfl, rfl, Nat.zero_le _, hideIt ⟨Below.refl _ _, by simp⟩⟩
          case round =>
            obtain ⟨j, fd, rfl, rfl, hj, HJ⟩ := hrel
            have X8 := hideIt (X7.out.keep HJ.out.1)
            obtain ⟨x0, x1, -, -, xl⟩ := two_at X8.out.box
            by_cases hjl : j < T.wait.length
            · have hjI : (j : Int) < (T.wait.length : Int) := by omega
              have hj0 : (0 : Int) ≤ (j : Int) := by omega
              have hjw : IntKind.i64.wrap ((j : Int) + 1) = ((j + 1 : Nat) : Int) := by rw [IntKind.wrap_i64]; omega
              obtain ⟨a', c', e, h8, hr⟩ := (X8.out.own.tab hsm.1 hsm.2).wait.hols
              simp only [Value.slice.injEq, true_and] at e
              obtain ⟨rfl, rfl⟩ := e
              obtain ⟨b, off, rfl, hbl, q0, q1, q2, q3⟩ := hr j hjl
              have HT : Hid ((T.wait.take (j + 1)).any (fun y => y.1 == (p0, p1) && oldB y.2 (p2, p3)) = (fd || ((T.wait[j].1 == (p0, p1)) && oldB T.wait[j].2 (p2, p3)))) := by
                show List.any _ _ = _
                rw [List.take_succ_eq_append_getElem hjl, List.any_append, HJ.out.2]
                simp
              have hwl2 : wb < wr.heap.size := Nat.lt_of_lt_of_le hwl3 HJ.out.1.size
              have y0 := (HJ.out.1.cell (p := ⟨wb, wo + i * 4, none⟩) hwl3).trans Y.out.1
              have y1 := (HJ.out.1.cell (p := ⟨wb, wo + i * 4 + 1, none⟩) hwl3).trans Y.out.2.1
              have y2 := (HJ.out.1.cell (p := ⟨wb, wo + i * 4 + 2, none⟩) hwl3).trans Y.out.2.2.1
              have y3 := (HJ.out.1.cell (p := ⟨wb, wo + i * 4 + 3, none⟩) hwl3).trans Y.out.2.2.2
              have HB8 := hideIt HJ.out.1
              clear hr HJ X8
              generalize T.wait[j] = en at *
              obtain ⟨⟨x, y⟩, ⟨z, u⟩⟩ := en
              dsimp only at q0 q1 q2 q3 HT
              go_upto_region 24 with fail
              have hwl := hwl2
              cases fd
              · cases hq : ((x, y) == (p0, p1))
                · have e2 : ∀ W, (binOp .eql 26 (.agg #[.int .i64 x, .int .i64 y]) (.agg #[.int .i64 p0, .int .i64 p1])).run Try.prog W = .ok (.bool false) W := fun W => by rw [eq26, hq]
                  refine wp_region_held_drew (S := (fun W => W.cell? ⟨A, 1, none⟩ = some (.slice (some ⟨b, off, none⟩) T.wait.length uc) ∧ W.cell? ⟨b, off + j * 4, none⟩ = some (.int .i64 x) ∧ W.cell? ⟨b, off + j * 4 + 1, none⟩ = some (.int .i64 y) ∧ W.cell? ⟨b, off + j * 4 + 2, none⟩ = some (.int .i64 z) ∧ W.cell? ⟨b, off + j * 4 + 3, none⟩ = some (.int .i64 u) ∧ W.cell? ⟨wb, wo + i * 4, none⟩ = some (.int .i64 p0) ∧ W.cell? ⟨wb, wo + i * 4 + 1, none⟩ = some (.int .i64 p1) ∧ W.cell? ⟨wb, wo + i * 4 + 2, none⟩ = some (.int .i64 p2) ∧ W.cell? ⟨wb, wo + i * 4 + 3, none⟩ = some (.int .i64 p3))) (by kernel_rfl) ⟨x1, q0, q1, q2, q3, y0, y1, y2, y3⟩ (fun hHeld => ?_)
                  refine wpAnyH_take (i := 0) (oi := ⟨some 80, _, _, _, _, _⟩) (v := ?_) rfl (by kernel_rfl) (by kernel_rfl) (by kernel_rfl) (fun _ _ _ h => h) (Or.inl ⟨by rfl, ?_⟩) (by assumption) ?_
                  rotate_left
                  · intro w5 hSw
                    (try dsimp only at hSw)
                    go_simp
                    (try with_reducible rfl)
                  try simp only [Act.put, List.setIfInBounds_toArray, List.set_cons_zero, List.set_cons_succ]
                  refine wpAnyH_take (i := 1) (oi := ⟨some 81, _, _, _, _, _⟩) (v := ?_) rfl (by kernel_rfl) (by kernel_rfl) (by kernel_rfl) (fun _ _ _ h => h) (Or.inl ⟨by rfl, ?_⟩) (by assumption) ?_
                  rotate_left
                  · intro w5 hSw
                    (try dsimp only at hSw)
                    go_simp
                    (try with_reducible rfl)
                  try simp only [Act.put, List.setIfInBounds_toArray, List.set_cons_zero, List.set_cons_succ]
                  refine wpAnyH_take (i := 2) (oi := ⟨some 82, _, _, _, _, _⟩) (v := ?_) rfl (by kernel_rfl) (by kernel_rfl) (by kernel_rfl) (fun _ _ _ h => h) (Or.inl ⟨by rfl, ?_⟩) (by assumption) ?_
                  rotate_left
                  · intro w5 hSw
                    (try dsimp only at hSw)
                    go_simp
                    (try with_reducible rfl)
                  try simp only [Act.put, List.setIfInBounds_toArray, List.set_cons_zero, List.set_cons_succ]
                  refine wpAnyH_take (i := 3) (oi := ⟨some 83, _, _, _, _, _⟩) (v := ?_) rfl (by kernel_rfl) (by kernel_rfl) (by kernel_rfl) (fun _ _ _ h => h) (Or.inl ⟨by rfl, ?_⟩) (by assumption) ?_
                  rotate_left
                  · intro w5 hSw
                    (try dsimp only at hSw)
                    go_simp
                    (try with_reducible rfl)
                  try simp only [Act.put, List.setIfInBounds_toArray, List.set_cons_zero, List.set_cons_succ]
                  refine wpAnyH_take (i := 4) (oi := ⟨some 84, _, _, _, _, _⟩) (v := ?_) rfl (by kernel_rfl) (by kernel_rfl) (by kernel_rfl) (fun _ _ _ h => h) (Or.inl ⟨by rfl, ?_⟩) (by assumption) ?_
                  rotate_left
                  · intro w5 hSw
                    (try dsimp only at hSw)
                    go_simp
                    (try with_reducible rfl)
                  try simp only [Act.put, List.setIfInBounds_toArray, List.set_cons_zero, List.set_cons_succ]
                  refine wpAnyH_take (i := 5) (oi := ⟨some 85, _, _, _, _, _⟩) (v := ?_) rfl (by kernel_rfl) (by kernel_rfl) (by kernel_rfl) (fun _ _ _ h => h) (Or.inl ⟨by rfl, ?_⟩) (by assumption) ?_
                  rotate_left
                  · intro w5 hSw
                    (try dsimp only at hSw)
                    go_simp
                    (try with_reducible rfl)
                  try simp only [Act.put, List.setIfInBounds_toArray, List.set_cons_zero, List.set_cons_succ]
                  refine wpAnyH_take (i := 6) (oi := ⟨some 86, _, _, _, _, _⟩) (v := ?_) rfl (by kernel_rfl) (by kernel_rfl) (by kernel_rfl) (fun _ _ _ h => h) (Or.inl ⟨by rfl, ?_⟩) (by assumption) ?_
                  rotate_left
                  · intro w5 hSw
                    (try dsimp only at hSw)
                    go_simp
                    (try with_reducible rfl)
                  try simp only [Act.put, List.setIfInBounds_toArray, List.set_cons_zero, List.set_cons_succ]
                  refine wpAnyH_take (i := 7) (oi := ⟨some 87, _, _, _, _, _⟩) (v := ?_) rfl (by kernel_rfl) (by kernel_rfl) (by kernel_rfl) (fun _ _ _ h => h) (Or.inl ⟨by rfl, ?_⟩) (by assumption) ?_
                  rotate_left
                  · intro w5 hSw
                    (try dsimp only at hSw)
                    go_simp
                    (try with_reducible rfl)
                  try simp only [Act.put, List.setIfInBounds_toArray, List.set_cons_zero, List.set_cons_succ]
                  refine wpAnyH_take (i := 8) (oi := ⟨some 88, _, _, _, _, _⟩) (v := ?_) rfl (by kernel_rfl) (by kernel_rfl) (by kernel_rfl) (fun _ _ _ h => h) (Or.inl ⟨by rfl, ?_⟩) (by assumption) ?_
                  rotate_left
                  · intro w5 hSw
                    (try dsimp only at hSw)
                    go_simp
                    (try with_reducible rfl)
                  try simp only [Act.put, List.setIfInBounds_toArray, List.set_cons_zero, List.set_cons_succ]
                  refine wpAnyH_take (i := 9) (oi := ⟨some 89, _, _, _, _, _⟩) (v := ?_) rfl (by kernel_rfl) (by kernel_rfl) (by kernel_rfl) (fun _ _ _ h => h) (Or.inl ⟨by rfl, ?_⟩) (by assumption) ?_
                  rotate_left
                  · intro w5 hSw
                    (try dsimp only at hSw)
                    go_simp
                    (try with_reducible rfl)
                  try simp only [Act.put, List.setIfInBounds_toArray, List.set_cons_zero, List.set_cons_succ]
                  refine wpAnyH_take (i := 10) (oi := ⟨some 90, _, _, _, _, _⟩) (v := ?_) rfl (by kernel_rfl) (by kernel_rfl) (by kernel_rfl) (fun _ _ _ h => h) (Or.inl ⟨by rfl, ?_⟩) (by assumption) ?_
                  rotate_left
                  · intro w5 hSw
                    (try dsimp only at hSw)
                    go_simp
                    (try with_reducible rfl)
                  try simp only [Act.put, List.setIfInBounds_toArray, List.set_cons_zero, List.set_cons_succ]
                  refine wpAnyH_take (i := 11) (oi := ⟨some 91, _, _, _, _, _⟩) (v := ?_) rfl (by kernel_rfl) (by kernel_rfl) (by kernel_rfl) (fun _ _ _ h => h) (Or.inl ⟨by rfl, ?_⟩) (by assumption) ?_
                  rotate_left
                  · intro w5 hSw
                    (try dsimp only at hSw)
                    go_simp
                    (try with_reducible rfl)
                  try simp only [Act.put, List.setIfInBounds_toArray, List.set_cons_zero, List.set_cons_succ]
                  refine wpAnyH_take (i := 12) (oi := ⟨some 92, _, _, _, _, _⟩) (v := ?_) rfl (by kernel_rfl) (by kernel_rfl) (by kernel_rfl) (fun _ _ _ h => h) (Or.inl ⟨by rfl, ?_⟩) (by assumption) ?_
                  rotate_left
                  · intro w5 hSw
                    (try dsimp only at hSw)
                    go_simp
                    (try with_reducible rfl)
                  try simp only [Act.put, List.setIfInBounds_toArray, List.set_cons_zero, List.set_cons_succ]
                  refine wpAnyH_take (i := 13) (oi := ⟨some 93, _, _, _, _, _⟩) (v := ?_) rfl (by kernel_rfl) (by kernel_rfl) (by kernel_rfl) (fun _ _ _ h => h) (Or.inl ⟨by rfl, ?_⟩) (by assumption) ?_
                  rotate_left
                  · intro w5 hSw
                    (try dsimp only at hSw)
                    go_simp
                    (try with_reducible rfl)
                  try simp only [Act.put, List.setIfInBounds_toArray, List.set_cons_zero, List.set_cons_succ]
                  refine wpAnyH_take (i := 14) (oi := ⟨some 94, _, _, _, _, _⟩) (v := ?_) rfl (by kernel_rfl) (by kernel_rfl) (by kernel_rfl) (fun _ _ _ h => h) (Or.inl ⟨by rfl, ?_⟩) (by assumption) ?_
                  rotate_left
                  · intro w5 hSw
                    (try dsimp only at hSw)
                    go_simp
                    (try with_reducible rfl)
                  try simp only [Act.put, List.setIfInBounds_toArray, List.set_cons_zero, List.set_cons_succ]
                  refine wpAnyH_take (i := 15) (oi := ⟨some 95, _, _, _, _, _⟩) (v := undef) rfl (by kernel_rfl) (by kernel_rfl) (by kernel_rfl) (fun _ _ _ h => h) (Or.inr ⟨by rfl, rfl⟩) (by assumption) ?_
                  try simp only [Act.put, List.setIfInBounds_toArray, List.set_cons_zero, List.set_cons_succ]
                  refine wpAnyH_take (i := 16) (oi := ⟨some 96, _, _, _, _, _⟩) (v := undef) rfl (by kernel_rfl) (by kernel_rfl) (by kernel_rfl) (fun _ _ _ h => h) (Or.inr ⟨by rfl, rfl⟩) (by assumption) ?_
                  try simp only [Act.put, List.setIfInBounds_toArray, List.set_cons_zero, List.set_cons_succ]
                  refine wpAnyH_take (i := 17) (oi := ⟨some 97, _, _, _, _, _⟩) (v := undef) rfl (by kernel_rfl) (by kernel_rfl) (by kernel_rfl) (fun _ _ _ h => h) (Or.inr ⟨by rfl, rfl⟩) (by assumption) ?_
                  try simp only [Act.put, List.setIfInBounds_toArray, List.set_cons_zero, List.set_cons_succ]
                  refine wpAnyH_take (i := 18) (oi := ⟨some 98, _, _, _, _, _⟩) (v := undef) rfl (by kernel_rfl) (by kernel_rfl) (by kernel_rfl) (fun _ _ _ h => h) (Or.inr ⟨by rfl, rfl⟩) (by assumption) ?_
                  try simp only [Act.put, List.setIfInBounds_toArray, List.set_cons_zero, List.set_cons_succ]
                  refine wpAnyH_take (i := 19) (oi := ⟨some 99, _, _, _, _, _⟩) (v := undef) rfl (by kernel_rfl) (by kernel_rfl) (by kernel_rfl) (fun _ _ _ h => h) (Or.inr ⟨by rfl, rfl⟩) (by assumption) ?_
                  try simp only [Act.put, List.setIfInBounds_toArray, List.set_cons_zero, List.set_cons_succ]
                  refine wpAnyH_take (i := 20) (oi := ⟨some 100, _, _, _, _, _⟩) (v := undef) rfl (by kernel_rfl) (by kernel_rfl) (by kernel_rfl) (fun _ _ _ h => h) (Or.inr ⟨by rfl, rfl⟩) (by assumption) ?_
                  try simp only [Act.put, List.setIfInBounds_toArray, List.set_cons_zero, List.set_cons_succ]
                  refine wpAnyH_take (i := 21) (oi := ⟨some 101, _, _, _, _, _⟩) (v := undef) rfl (by kernel_rfl) (by kernel_rfl) (by kernel_rfl) (fun _ _ _ h => h) (Or.inr ⟨by rfl, rfl⟩) (by assumption) ?_
                  try simp only [Act.put, List.setIfInBounds_toArray, List.set_cons_zero, List.set_cons_succ]
                  refine wpAnyH_take (i := 22) (oi := ⟨some 102, _, _, _, _, _⟩) (v := undef) rfl (by kernel_rfl) (by kernel_rfl) (by kernel_rfl) (fun _ _ _ h => h) (Or.inr ⟨by rfl, rfl⟩) (by assumption) ?_
                  try simp only [Act.put, List.setIfInBounds_toArray, List.set_cons_zero, List.set_cons_succ]
                  refine wpAnyH_take (i := 23) (oi := ⟨some 103, _, _, _, _, _⟩) (v := undef) rfl (by kernel_rfl) (by kernel_rfl) (by kernel_rfl) (fun _ _ _ h => h) (Or.inr ⟨by rfl, rfl⟩) (by assumption) ?_
                  try simp only [Act.put, List.setIfInBounds_toArray, List.set_cons_zero, List.set_cons_succ]
                  refine wpAnyH_take (i := 24) (oi := ⟨some 104, _, _, _, _, _⟩) (v := undef) rfl (by kernel_rfl) (by kernel_rfl) (by kernel_rfl) (fun _ _ _ h => h) (Or.inr ⟨by rfl, rfl⟩) (by assumption) ?_
                  try simp only [Act.put, List.setIfInBounds_toArray, List.set_cons_zero, List.set_cons_succ]
                  refine wpAnyH_take (i := 25) (oi := ⟨some 105, _, _, _, _, _⟩) (v := undef) rfl (by kernel_rfl) (by kernel_rfl) (by kernel_rfl) (fun _ _ _ h => h) (Or.inr ⟨by rfl, rfl⟩) (by assumption) ?_
                  try simp only [Act.put, List.setIfInBounds_toArray, List.set_cons_zero, List.set_cons_succ]
                  refine wpAnyH_take (i := 26) (oi := ⟨some 106, _, _, _, _, _⟩) (v := undef) rfl (by kernel_rfl) (by kernel_rfl) (by kernel_rfl) (fun _ _ _ h => h) (Or.inr ⟨by rfl, rfl⟩) (by assumption) ?_
                  try simp only [Act.put, List.setIfInBounds_toArray, List.set_cons_zero, List.set_cons_succ]
                  refine wpAnyH_take (i := 27) (oi := ⟨some 107, _, _, _, _, _⟩) (v := ?_) rfl (by kernel_rfl) (by kernel_rfl) (by kernel_rfl) (fun _ _ _ h => h) (Or.inl ⟨by rfl, ?_⟩) (by assumption) ?_
                  rotate_left
                  · intro w5 hSw
                    (try dsimp only at hSw)
                    go_simp
                    (try with_reducible rfl)
                  try simp only [Act.put, List.setIfInBounds_toArray, List.set_cons_zero, List.set_cons_succ]
                  refine wpAnyH_take (i := 28) (oi := ⟨some 108, _, _, _, _, _⟩) (v := ?_) rfl (by kernel_rfl) (by kernel_rfl) (by kernel_rfl) (fun _ _ _ h => h) (Or.inl ⟨by rfl, ?_⟩) (by assumption) ?_
                  rotate_left
                  · intro w5 hSw
                    (try dsimp only at hSw)
                    go_simp
                    (try with_reducible rfl)
                  try simp only [Act.put, List.setIfInBounds_toArray, List.set_cons_zero, List.set_cons_succ]
                  refine wpAnyH_take (i := 29) (oi := ⟨some 9, _, _, _, _, _⟩) (v := ?_) rfl (by kernel_rfl) (by kernel_rfl) (by kernel_rfl) (fun _ _ _ h => h) (Or.inl ⟨by rfl, ?_⟩) (by assumption) ?_
                  rotate_left
                  · intro w5 hSw
                    (try dsimp only at hSw)
                    go_simp
                    (try with_reducible rfl)
                  try simp only [Act.put, List.setIfInBounds_toArray, List.set_cons_zero, List.set_cons_succ]
                  refine wpAnyH_done (by kernel_rfl) ?_ _
                  go_wp2
                  go_roundw
                  case rel => exact ⟨j + 1, false, rfl, by go_num, by omega, hideIt ⟨below_via HB8.out ((Below.refl _ _).drew), by rw [HT.out, hq]; rfl⟩⟩
                  case measure => simp [intOf]; omega
                · have e2 : ∀ W, (binOp .eql 26 (.agg #[.int .i64 x, .int .i64 y]) (.agg #[.int .i64 p0, .int .i64 p1])).run Try.prog W = .ok (.bool true) W := fun W => by rw [eq26, hq]
                  have HO := hideIt (fun W => older_is z u p2 p3 W)
                  refine wp_region_held_drew (S := (fun W => W.cell? ⟨A, 1, none⟩ = some (.slice (some ⟨b, off, none⟩) T.wait.length uc) ∧ W.cell? ⟨b, off + j * 4, none⟩ = some (.int .i64 x) ∧ W.cell? ⟨b, off + j * 4 + 1, none⟩ = some (.int .i64 y) ∧ W.cell? ⟨b, off + j * 4 + 2, none⟩ = some (.int .i64 z) ∧ W.cell? ⟨b, off + j * 4 + 3, none⟩ = some (.int .i64 u) ∧ W.cell? ⟨wb, wo + i * 4, none⟩ = some (.int .i64 p0) ∧ W.cell? ⟨wb, wo + i * 4 + 1, none⟩ = some (.int .i64 p1) ∧ W.cell? ⟨wb, wo + i * 4 + 2, none⟩ = some (.int .i64 p2) ∧ W.cell? ⟨wb, wo + i * 4 + 3, none⟩ = some (.int .i64 p3))) (by kernel_rfl) ⟨x1, q0, q1, q2, q3, y0, y1, y2, y3⟩ (fun hHeld => ?_)
                  refine wpAnyH_take (i := 0) (oi := ⟨some 80, _, _, _, _, _⟩) (v := ?_) rfl (by kernel_rfl) (by kernel_rfl) (by kernel_rfl) (fun _ _ _ h => h) (Or.inl ⟨by rfl, ?_⟩) (by assumption) ?_
                  rotate_left
                  · intro w5 hSw
                    (try dsimp only at hSw)
                    go_simp
                    (try with_reducible rfl)
                  try simp only [Act.put, List.setIfInBounds_toArray, List.set_cons_zero, List.set_cons_succ]
                  refine wpAnyH_take (i := 1) (oi := ⟨some 81, _, _, _, _, _⟩) (v := ?_) rfl (by kernel_rfl) (by kernel_rfl) (by kernel_rfl) (fun _ _ _ h => h) (Or.inl ⟨by rfl, ?_⟩) (by assumption) ?_
                  rotate_left
                  · intro w5 hSw
                    (try dsimp only at hSw)
                    go_simp
                    (try with_reducible rfl)
                  try simp only [Act.put, List.setIfInBounds_toArray, List.set_cons_zero, List.set_cons_succ]
                  refine wpAnyH_take (i := 2) (oi := ⟨some 82, _, _, _, _, _⟩) (v := ?_) rfl (by kernel_rfl) (by kernel_rfl) (by kernel_rfl) (fun _ _ _ h => h) (Or.inl ⟨by rfl, ?_⟩) (by assumption) ?_
                  rotate_left
                  · intro w5 hSw
                    (try dsimp only at hSw)
                    go_simp
                    (try with_reducible rfl)
                  try simp only [Act.put, List.setIfInBounds_toArray, List.set_cons_zero, List.set_cons_succ]
                  refine wpAnyH_take (i := 3) (oi := ⟨some 83, _, _, _, _, _⟩) (v := ?_) rfl (by kernel_rfl) (by kernel_rfl) (by kernel_rfl) (fun _ _ _ h => h) (Or.inl ⟨by rfl, ?_⟩) (by assumption) ?_
                  rotate_left
                  · intro w5 hSw
                    (try dsimp only at hSw)
                    go_simp
                    (try with_reducible rfl)
                  try simp only [Act.put, List.setIfInBounds_toArray, List.set_cons_zero, List.set_cons_succ]
                  refine wpAnyH_take (i := 4) (oi := ⟨some 84, _, _, _, _, _⟩) (v := ?_) rfl (by kernel_rfl) (by kernel_rfl) (by kernel_rfl) (fun _ _ _ h => h) (Or.inl ⟨by rfl, ?_⟩) (by assumption) ?_
                  rotate_left
                  · intro w5 hSw
                    (try dsimp only at hSw)
                    go_simp
                    (try with_reducible rfl)
                  try simp only [Act.put, List.setIfInBounds_toArray, List.set_cons_zero, List.set_cons_succ]
                  refine wpAnyH_take (i := 5) (oi := ⟨some 85, _, _, _, _, _⟩) (v := ?_) rfl (by kernel_rfl) (by kernel_rfl) (by kernel_rfl) (fun _ _ _ h => h) (Or.inl ⟨by rfl, ?_⟩) (by assumption) ?_
                  rotate_left
                  · intro w5 hSw
                    (try dsimp only at hSw)
                    go_simp
                    (try with_reducible rfl)
                  try simp only [Act.put, List.setIfInBounds_toArray, List.set_cons_zero, List.set_cons_succ]
                  refine wpAnyH_take (i := 6) (oi := ⟨some 86, _, _, _, _, _⟩) (v := ?_) rfl (by kernel_rfl) (by kernel_rfl) (by kernel_rfl) (fun _ _ _ h => h) (Or.inl ⟨by rfl, ?_⟩) (by assumption) ?_
                  rotate_left
                  · intro w5 hSw
                    (try dsimp only at hSw)
                    go_simp
                    (try with_reducible rfl)
                  try simp only [Act.put, List.setIfInBounds_toArray, List.set_cons_zero, List.set_cons_succ]
                  refine wpAnyH_take (i := 7) (oi := ⟨some 87, _, _, _, _, _⟩) (v := ?_) rfl (by kernel_rfl) (by kernel_rfl) (by kernel_rfl) (fun _ _ _ h => h) (Or.inl ⟨by rfl, ?_⟩) (by assumption) ?_
                  rotate_left
                  · intro w5 hSw
                    (try dsimp only at hSw)
                    go_simp
                    (try with_reducible rfl)
                  try simp only [Act.put, List.setIfInBounds_toArray, List.set_cons_zero, List.set_cons_succ]
                  refine wpAnyH_take (i := 8) (oi := ⟨some 88, _, _, _, _, _⟩) (v := ?_) rfl (by kernel_rfl) (by kernel_rfl) (by kernel_rfl) (fun _ _ _ h => h) (Or.inl ⟨by rfl, ?_⟩) (by assumption) ?_
                  rotate_left
                  · intro w5 hSw
                    (try dsimp only at hSw)
                    go_simp
                    (try with_reducible rfl)
                  try simp only [Act.put, List.setIfInBounds_toArray, List.set_cons_zero, List.set_cons_succ]
                  refine wpAnyH_take (i := 9) (oi := ⟨some 89, _, _, _, _, _⟩) (v := ?_) rfl (by kernel_rfl) (by kernel_rfl) (by kernel_rfl) (fun _ _ _ h => h) (Or.inl ⟨by rfl, ?_⟩) (by assumption) ?_
                  rotate_left
                  · intro w5 hSw
                    (try dsimp only at hSw)
                    go_simp
                    (try with_reducible rfl)
                  try simp only [Act.put, List.setIfInBounds_toArray, List.set_cons_zero, List.set_cons_succ]
                  refine wpAnyH_take (i := 10) (oi := ⟨some 90, _, _, _, _, _⟩) (v := ?_) rfl (by kernel_rfl) (by kernel_rfl) (by kernel_rfl) (fun _ _ _ h => h) (Or.inl ⟨by rfl, ?_⟩) (by assumption) ?_
                  rotate_left
                  · intro w5 hSw
                    (try dsimp only at hSw)
                    go_simp
                    (try with_reducible rfl)
                  try simp only [Act.put, List.setIfInBounds_toArray, List.set_cons_zero, List.set_cons_succ]
                  refine wpAnyH_take (i := 11) (oi := ⟨some 91, _, _, _, _, _⟩) (v := ?_) rfl (by kernel_rfl) (by kernel_rfl) (by kernel_rfl) (fun _ _ _ h => h) (Or.inl ⟨by rfl, ?_⟩) (by assumption) ?_
                  rotate_left
                  · intro w5 hSw
                    (try dsimp only at hSw)
                    go_simp
                    (try with_reducible rfl)
                  try simp only [Act.put, List.setIfInBounds_toArray, List.set_cons_zero, List.set_cons_succ]
                  refine wpAnyH_take (i := 12) (oi := ⟨some 92, _, _, _, _, _⟩) (v := ?_) rfl (by kernel_rfl) (by kernel_rfl) (by kernel_rfl) (fun _ _ _ h => h) (Or.inl ⟨by rfl, ?_⟩) (by assumption) ?_
                  rotate_left
                  · intro w5 hSw
                    (try dsimp only at hSw)
                    go_simp
                    (try with_reducible rfl)
                  try simp only [Act.put, List.setIfInBounds_toArray, List.set_cons_zero, List.set_cons_succ]
                  refine wpAnyH_take (i := 13) (oi := ⟨some 93, _, _, _, _, _⟩) (v := ?_) rfl (by kernel_rfl) (by kernel_rfl) (by kernel_rfl) (fun _ _ _ h => h) (Or.inl ⟨by rfl, ?_⟩) (by assumption) ?_
                  rotate_left
                  · intro w5 hSw
                    (try dsimp only at hSw)
                    go_simp
                    (try with_reducible rfl)
                  try simp only [Act.put, List.setIfInBounds_toArray, List.set_cons_zero, List.set_cons_succ]
                  refine wpAnyH_take (i := 14) (oi := ⟨some 94, _, _, _, _, _⟩) (v := ?_) rfl (by kernel_rfl) (by kernel_rfl) (by kernel_rfl) (fun _ _ _ h => h) (Or.inl ⟨by rfl, ?_⟩) (by assumption) ?_
                  rotate_left
                  · intro w5 hSw
                    (try dsimp only at hSw)
                    go_simp
                    (try with_reducible rfl)
                  try simp only [Act.put, List.setIfInBounds_toArray, List.set_cons_zero, List.set_cons_succ]
                  refine wpAnyH_take (i := 15) (oi := ⟨some 95, _, _, _, _, _⟩) (v := ?_) rfl (by kernel_rfl) (by kernel_rfl) (by kernel_rfl) (fun _ _ _ h => h) (Or.inl ⟨by rfl, ?_⟩) (by assumption) ?_
                  rotate_left
                  · intro w5 hSw
                    (try dsimp only at hSw)
                    go_simp
                    (try with_reducible rfl)
                  try simp only [Act.put, List.setIfInBounds_toArray, List.set_cons_zero, List.set_cons_succ]
                  refine wpAnyH_take (i := 16) (oi := ⟨some 96, _, _, _, _, _⟩) (v := ?_) rfl (by kernel_rfl) (by kernel_rfl) (by kernel_rfl) (fun _ _ _ h => h) (Or.inl ⟨by rfl, ?_⟩) (by assumption) ?_
                  rotate_left
                  · intro w5 hSw
                    (try dsimp only at hSw)
                    go_simp
                    (try with_reducible rfl)
                  try simp only [Act.put, List.setIfInBounds_toArray, List.set_cons_zero, List.set_cons_succ]
                  refine wpAnyH_take (i := 17) (oi := ⟨some 97, _, _, _, _, _⟩) (v := ?_) rfl (by kernel_rfl) (by kernel_rfl) (by kernel_rfl) (fun _ _ _ h => h) (Or.inl ⟨by rfl, ?_⟩) (by assumption) ?_
                  rotate_left
                  · intro w5 hSw
                    (try dsimp only at hSw)
                    go_simp
                    (try with_reducible rfl)
                  try simp only [Act.put, List.setIfInBounds_toArray, List.set_cons_zero, List.set_cons_succ]
                  refine wpAnyH_take (i := 18) (oi := ⟨some 98, _, _, _, _, _⟩) (v := ?_) rfl (by kernel_rfl) (by kernel_rfl) (by kernel_rfl) (fun _ _ _ h => h) (Or.inl ⟨by rfl, ?_⟩) (by assumption) ?_
                  rotate_left
                  · intro w5 hSw
                    (try dsimp only at hSw)
                    go_simp
                    (try with_reducible rfl)
                  try simp only [Act.put, List.setIfInBounds_toArray, List.set_cons_zero, List.set_cons_succ]
                  refine wpAnyH_take (i := 19) (oi := ⟨some 99, _, _, _, _, _⟩) (v := ?_) rfl (by kernel_rfl) (by kernel_rfl) (by kernel_rfl) (fun _ _ _ h => h) (Or.inl ⟨by rfl, ?_⟩) (by assumption) ?_
                  rotate_left
                  · intro w5 hSw
                    (try dsimp only at hSw)
                    go_simp
                    (try with_reducible rfl)
                  try simp only [Act.put, List.setIfInBounds_toArray, List.set_cons_zero, List.set_cons_succ]
                  refine wpAnyH_take (i := 20) (oi := ⟨some 100, _, _, _, _, _⟩) (v := ?_) rfl (by kernel_rfl) (by kernel_rfl) (by kernel_rfl) (fun _ _ _ h => h) (Or.inl ⟨by rfl, ?_⟩) (by assumption) ?_
                  rotate_left
                  · intro w5 hSw
                    (try dsimp only at hSw)
                    go_simp
                    (try with_reducible rfl)
                  try simp only [Act.put, List.setIfInBounds_toArray, List.set_cons_zero, List.set_cons_succ]
                  refine wpAnyH_take (i := 21) (oi := ⟨some 101, _, _, _, _, _⟩) (v := ?_) rfl (by kernel_rfl) (by kernel_rfl) (by kernel_rfl) (fun _ _ _ h => h) (Or.inl ⟨by rfl, ?_⟩) (by assumption) ?_
                  rotate_left
                  · intro w5 hSw
                    (try dsimp only at hSw)
                    go_simp
                    (try with_reducible rfl)
                  try simp only [Act.put, List.setIfInBounds_toArray, List.set_cons_zero, List.set_cons_succ]
                  refine wpAnyH_take (i := 22) (oi := ⟨some 102, _, _, _, _, _⟩) (v := ?_) rfl (by kernel_rfl) (by kernel_rfl) (by kernel_rfl) (fun _ _ _ h => h) (Or.inl ⟨by rfl, ?_⟩) (by assumption) ?_
                  rotate_left
                  · intro w5 hSw
                    (try dsimp only at hSw)
                    go_simp
                    (try with_reducible rfl)
                  try simp only [Act.put, List.setIfInBounds_toArray, List.set_cons_zero, List.set_cons_succ]
                  refine wpAnyH_take (i := 23) (oi := ⟨some 103, _, _, _, _, _⟩) (v := ?_) rfl (by kernel_rfl) (by kernel_rfl) (by kernel_rfl) (fun _ _ _ h => h) (Or.inl ⟨by rfl, ?_⟩) (by assumption) ?_
                  rotate_left
                  · intro w5 hSw
                    (try dsimp only at hSw)
                    go_simp
                    (try with_reducible rfl)
                  try simp only [Act.put, List.setIfInBounds_toArray, List.set_cons_zero, List.set_cons_succ]
                  refine wpAnyH_take (i := 24) (oi := ⟨some 104, _, _, _, _, _⟩) (v := ?_) rfl (by kernel_rfl) (by kernel_rfl) (by kernel_rfl) (fun _ _ _ h => h) (Or.inl ⟨by rfl, ?_⟩) (by assumption) ?_
                  rotate_left
                  · intro w5 hSw
                    (try dsimp only at hSw)
                    go_simp
                    (try with_reducible rfl)
                  try simp only [Act.put, List.setIfInBounds_toArray, List.set_cons_zero, List.set_cons_succ]
                  refine wpAnyH_take (i := 25) (oi := ⟨some 105, _, _, _, _, _⟩) (v := ?_) rfl (by kernel_rfl) (by kernel_rfl) (by kernel_rfl) (fun _ _ _ h => h) (Or.inl ⟨by rfl, ?_⟩) (by assumption) ?_
                  rotate_left
                  · intro w5 hSw
                    (try dsimp only at hSw)
                    go_simp
                    (try with_reducible rfl)
                  try simp only [Act.put, List.setIfInBounds_toArray, List.set_cons_zero, List.set_cons_succ]
                  refine wpAnyH_ready (rs := [26]) (by kernel_rfl) (by simp) ?_
                  refine AllReadyH.cons (o := ⟨some 106, _, _, _, _, _⟩) rfl (fun K1 hK1 => ?_) AllReadyH.nil
                  go_simp
                  go_at_call 22
                  refine (HO.out _).mono ?_
                  rintro e w7 ⟨rfl, hb7⟩
                  refine hK1.out _ _ ⟨(hb7.cell (p := ⟨A, 1, none⟩) xl).trans x1, (hb7.cell (p := ⟨b, off + j * 4, none⟩) hbl).trans q0, (hb7.cell (p := ⟨b, off + j * 4 + 1, none⟩) hbl).trans q1, (hb7.cell (p := ⟨b, off + j * 4 + 2, none⟩) hbl).trans q2, (hb7.cell (p := ⟨b, off + j * 4 + 3, none⟩) hbl).trans q3, (hb7.cell (p := ⟨wb, wo + i * 4, none⟩) hwl).trans y0, (hb7.cell (p := ⟨wb, wo + i * 4 + 1, none⟩) hwl).trans y1, (hb7.cell (p := ⟨wb, wo + i * 4 + 2, none⟩) hwl).trans y2, (hb7.cell (p := ⟨wb, wo + i * 4 + 3, none⟩) hwl).trans y3⟩ (fun hHeld7 => ?_)
                  clear hK1 K1
                  try simp only [Act.put, List.setIfInBounds_toArray, List.set_cons_zero, List.set_cons_succ]
                  refine wpAnyH_take (i := 27) (oi := ⟨some 107, _, _, _, _, _⟩) (v := ?_) rfl (by kernel_rfl) (by kernel_rfl) (by kernel_rfl) (fun _ _ _ h => h) (Or.inl ⟨by rfl, ?_⟩) (by assumption) ?_
                  rotate_left
                  · intro w5 hSw
                    (try dsimp only at hSw)
                    go_simp
                    (try with_reducible rfl)
                  try simp only [Act.put, List.setIfInBounds_toArray, List.set_cons_zero, List.set_cons_succ]
                  refine wpAnyH_take (i := 28) (oi := ⟨some 108, _, _, _, _, _⟩) (v := ?_) rfl (by kernel_rfl) (by kernel_rfl) (by kernel_rfl) (fun _ _ _ h => h) (Or.inl ⟨by rfl, ?_⟩) (by assumption) ?_
                  rotate_left
                  · intro w5 hSw
                    (try dsimp only at hSw)
                    go_simp
                    (try with_reducible rfl)
                  try simp only [Act.put, List.setIfInBounds_toArray, List.set_cons_zero, List.set_cons_succ]
                  refine wpAnyH_take (i := 29) (oi := ⟨some 9, _, _, _, _, _⟩) (v := ?_) rfl (by kernel_rfl) (by kernel_rfl) (by kernel_rfl) (fun _ _ _ h => h) (Or.inl ⟨by rfl, ?_⟩) (by assumption) ?_
                  rotate_left
                  · intro w5 hSw
                    (try dsimp only at hSw)
                    go_simp
                    (try with_reducible rfl)
                  try simp only [Act.put, List.setIfInBounds_toArray, List.set_cons_zero, List.set_cons_succ]
                  refine wpAnyH_done (by kernel_rfl) ?_ _
                  go_wp2
                  go_roundw
                  case rel => exact ⟨j + 1, oldB (z, u) (p2, p3), rfl, by go_num, by omega, hideIt ⟨below_via HB8.out (below_via (Below.refl _ _).drew hb7), by rw [HT.out, hq]; rfl⟩⟩
                  case measure => simp [intOf]; omega
              · skip
                refine wp_region_held_drew (S := (fun W => W.cell? ⟨A, 1, none⟩ = some (.slice (some ⟨b, off, none⟩) T.wait.length uc) ∧ W.cell? ⟨b, off + j * 4, none⟩ = some (.int .i64 x) ∧ W.cell? ⟨b, off + j * 4 + 1, none⟩ = some (.int .i64 y) ∧ W.cell? ⟨b, off + j * 4 + 2, none⟩ = some (.int .i64 z) ∧ W.cell? ⟨b, off + j * 4 + 3, none⟩ = some (.int .i64 u) ∧ W.cell? ⟨wb, wo + i * 4, none⟩ = some (.int .i64 p0) ∧ W.cell? ⟨wb, wo + i * 4 + 1, none⟩ = some (.int .i64 p1) ∧ W.cell? ⟨wb, wo + i * 4 + 2, none⟩ = some (.int .i64 p2) ∧ W.cell? ⟨wb, wo + i * 4 + 3, none⟩ = some (.int .i64 p3))) (by kernel_rfl) ⟨x1, q0, q1, q2, q3, y0, y1, y2, y3⟩ (fun hHeld => ?_)
                refine wpAnyH_take (i := 0) (oi := ⟨some 80, _, _, _, _, _⟩) (v := ?_) rfl (by kernel_rfl) (by kernel_rfl) (by kernel_rfl) (fun _ _ _ h => h) (Or.inl ⟨by rfl, ?_⟩) (by assumption) ?_
                rotate_left
                · intro w5 hSw
                  (try dsimp only at hSw)
                  go_simp
                  (try with_reducible rfl)
                try simp only [Act.put, List.setIfInBounds_toArray, List.set_cons_zero, List.set_cons_succ]
                refine wpAnyH_take (i := 1) (oi := ⟨some 81, _, _, _, _, _⟩) (v := ?_) rfl (by kernel_rfl) (by kernel_rfl) (by kernel_rfl) (fun _ _ _ h => h) (Or.inl ⟨by rfl, ?_⟩) (by assumption) ?_
                rotate_left
                · intro w5 hSw
                  (try dsimp only at hSw)
                  go_simp
                  (try with_reducible rfl)
                try simp only [Act.put, List.setIfInBounds_toArray, List.set_cons_zero, List.set_cons_succ]
                refine wpAnyH_take (i := 2) (oi := ⟨some 82, _, _, _, _, _⟩) (v := undef) rfl (by kernel_rfl) (by kernel_rfl) (by kernel_rfl) (fun _ _ _ h => h) (Or.inr ⟨by rfl, rfl⟩) (by assumption) ?_
                try simp only [Act.put, List.setIfInBounds_toArray, List.set_cons_zero, List.set_cons_succ]
                refine wpAnyH_take (i := 3) (oi := ⟨some 83, _, _, _, _, _⟩) (v := undef) rfl (by kernel_rfl) (by kernel_rfl) (by kernel_rfl) (fun _ _ _ h => h) (Or.inr ⟨by rfl, rfl⟩) (by assumption) ?_
                try simp only [Act.put, List.setIfInBounds_toArray, List.set_cons_zero, List.set_cons_succ]
                refine wpAnyH_take (i := 4) (oi := ⟨some 84, _, _, _, _, _⟩) (v := undef) rfl (by kernel_rfl) (by kernel_rfl) (by kernel_rfl) (fun _ _ _ h => h) (Or.inr ⟨by rfl, rfl⟩) (by assumption) ?_
                try simp only [Act.put, List.setIfInBounds_toArray, List.set_cons_zero, List.set_cons_succ]
                refine wpAnyH_take (i := 5) (oi := ⟨some 85, _, _, _, _, _⟩) (v := undef) rfl (by kernel_rfl) (by kernel_rfl) (by kernel_rfl) (fun _ _ _ h => h) (Or.inr ⟨by rfl, rfl⟩) (by assumption) ?_
                try simp only [Act.put, List.setIfInBounds_toArray, List.set_cons_zero, List.set_cons_succ]
                refine wpAnyH_take (i := 6) (oi := ⟨some 86, _, _, _, _, _⟩) (v := undef) rfl (by kernel_rfl) (by kernel_rfl) (by kernel_rfl) (fun _ _ _ h => h) (Or.inr ⟨by rfl, rfl⟩) (by assumption) ?_
                try simp only [Act.put, List.setIfInBounds_toArray, List.set_cons_zero, List.set_cons_succ]
                refine wpAnyH_take (i := 7) (oi := ⟨some 87, _, _, _, _, _⟩) (v := undef) rfl (by kernel_rfl) (by kernel_rfl) (by kernel_rfl) (fun _ _ _ h => h) (Or.inr ⟨by rfl, rfl⟩) (by assumption) ?_
                try simp only [Act.put, List.setIfInBounds_toArray, List.set_cons_zero, List.set_cons_succ]
                refine wpAnyH_take (i := 8) (oi := ⟨some 88, _, _, _, _, _⟩) (v := undef) rfl (by kernel_rfl) (by kernel_rfl) (by kernel_rfl) (fun _ _ _ h => h) (Or.inr ⟨by rfl, rfl⟩) (by assumption) ?_
                try simp only [Act.put, List.setIfInBounds_toArray, List.set_cons_zero, List.set_cons_succ]
                refine wpAnyH_take (i := 9) (oi := ⟨some 89, _, _, _, _, _⟩) (v := undef) rfl (by kernel_rfl) (by kernel_rfl) (by kernel_rfl) (fun _ _ _ h => h) (Or.inr ⟨by rfl, rfl⟩) (by assumption) ?_
                try simp only [Act.put, List.setIfInBounds_toArray, List.set_cons_zero, List.set_cons_succ]
                refine wpAnyH_take (i := 10) (oi := ⟨some 90, _, _, _, _, _⟩) (v := undef) rfl (by kernel_rfl) (by kernel_rfl) (by kernel_rfl) (fun _ _ _ h => h) (Or.inr ⟨by rfl, rfl⟩) (by assumption) ?_
                try simp only [Act.put, List.setIfInBounds_toArray, List.set_cons_zero, List.set_cons_succ]
                refine wpAnyH_take (i := 11) (oi := ⟨some 91, _, _, _, _, _⟩) (v := undef) rfl (by kernel_rfl) (by kernel_rfl) (by kernel_rfl) (fun _ _ _ h => h) (Or.inr ⟨by rfl, rfl⟩) (by assumption) ?_
                try simp only [Act.put, List.setIfInBounds_toArray, List.set_cons_zero, List.set_cons_succ]
                refine wpAnyH_take (i := 12) (oi := ⟨some 92, _, _, _, _, _⟩) (v := undef) rfl (by kernel_rfl) (by kernel_rfl) (by kernel_rfl) (fun _ _ _ h => h) (Or.inr ⟨by rfl, rfl⟩) (by assumption) ?_
                try simp only [Act.put, List.setIfInBounds_toArray, List.set_cons_zero, List.set_cons_succ]
                refine wpAnyH_take (i := 13) (oi := ⟨some 93, _, _, _, _, _⟩) (v := undef) rfl (by kernel_rfl) (by kernel_rfl) (by kernel_rfl) (fun _ _ _ h => h) (Or.inr ⟨by rfl, rfl⟩) (by assumption) ?_
                try simp only [Act.put, List.setIfInBounds_toArray, List.set_cons_zero, List.set_cons_succ]
                refine wpAnyH_take (i := 14) (oi := ⟨some 94, _, _, _, _, _⟩) (v := undef) rfl (by kernel_rfl) (by kernel_rfl) (by kernel_rfl) (fun _ _ _ h => h) (Or.inr ⟨by rfl, rfl⟩) (by assumption) ?_
                try simp only [Act.put, List.setIfInBounds_toArray, List.set_cons_zero, List.set_cons_succ]
                refine wpAnyH_take (i := 15) (oi := ⟨some 95, _, _, _, _, _⟩) (v := undef) rfl (by kernel_rfl) (by kernel_rfl) (by kernel_rfl) (fun _ _ _ h => h) (Or.inr ⟨by rfl, rfl⟩) (by assumption) ?_
                try simp only [Act.put, List.setIfInBounds_toArray, List.set_cons_zero, List.set_cons_succ]
                refine wpAnyH_take (i := 16) (oi := ⟨some 96, _, _, _, _, _⟩) (v := undef) rfl (by kernel_rfl) (by kernel_rfl) (by kernel_rfl) (fun _ _ _ h => h) (Or.inr ⟨by rfl, rfl⟩) (by assumption) ?_
                try simp only [Act.put, List.setIfInBounds_toArray, List.set_cons_zero, List.set_cons_succ]
                refine wpAnyH_take (i := 17) (oi := ⟨some 97, _, _, _, _, _⟩) (v := undef) rfl (by kernel_rfl) (by kernel_rfl) (by kernel_rfl) (fun _ _ _ h => h) (Or.inr ⟨by rfl, rfl⟩) (by assumption) ?_
                try simp only [Act.put, List.setIfInBounds_toArray, List.set_cons_zero, List.set_cons_succ]
                refine wpAnyH_take (i := 18) (oi := ⟨some 98, _, _, _, _, _⟩) (v := undef) rfl (by kernel_rfl) (by kernel_rfl) (by kernel_rfl) (fun _ _ _ h => h) (Or.inr ⟨by rfl, rfl⟩) (by assumption) ?_
                try simp only [Act.put, List.setIfInBounds_toArray, List.set_cons_zero, List.set_cons_succ]
                refine wpAnyH_take (i := 19) (oi := ⟨some 99, _, _, _, _, _⟩) (v := undef) rfl (by kernel_rfl) (by kernel_rfl) (by kernel_rfl) (fun _ _ _ h => h) (Or.inr ⟨by rfl, rfl⟩) (by assumption) ?_
                try simp only [Act.put, List.setIfInBounds_toArray, List.set_cons_zero, List.set_cons_succ]
                refine wpAnyH_take (i := 20) (oi := ⟨some 100, _, _, _, _, _⟩) (v := undef) rfl (by kernel_rfl) (by kernel_rfl) (by kernel_rfl) (fun _ _ _ h => h) (Or.inr ⟨by rfl, rfl⟩) (by assumption) ?_
                try simp only [Act.put, List.setIfInBounds_toArray, List.set_cons_zero, List.set_cons_succ]
                refine wpAnyH_take (i := 21) (oi := ⟨some 101, _, _, _, _, _⟩) (v := undef) rfl (by kernel_rfl) (by kernel_rfl) (by kernel_rfl) (fun _ _ _ h => h) (Or.inr ⟨by rfl, rfl⟩) (by assumption) ?_
                try simp only [Act.put, List.setIfInBounds_toArray, List.set_cons_zero, List.set_cons_succ]
                refine wpAnyH_take (i := 22) (oi := ⟨some 102, _, _, _, _, _⟩) (v := undef) rfl (by kernel_rfl) (by kernel_rfl) (by kernel_rfl) (fun _ _ _ h => h) (Or.inr ⟨by rfl, rfl⟩) (by assumption) ?_
                try simp only [Act.put, List.setIfInBounds_toArray, List.set_cons_zero, List.set_cons_succ]
                refine wpAnyH_take (i := 23) (oi := ⟨some 103, _, _, _, _, _⟩) (v := undef) rfl (by kernel_rfl) (by kernel_rfl) (by kernel_rfl) (fun _ _ _ h => h) (Or.inr ⟨by rfl, rfl⟩) (by assumption) ?_
                try simp only [Act.put, List.setIfInBounds_toArray, List.set_cons_zero, List.set_cons_succ]
                refine wpAnyH_take (i := 24) (oi := ⟨some 104, _, _, _, _, _⟩) (v := undef) rfl (by kernel_rfl) (by kernel_rfl) (by kernel_rfl) (fun _ _ _ h => h) (Or.inr ⟨by rfl, rfl⟩) (by assumption) ?_
                try simp only [Act.put, List.setIfInBounds_toArray, List.set_cons_zero, List.set_cons_succ]
                refine wpAnyH_take (i := 25) (oi := ⟨some 105, _, _, _, _, _⟩) (v := undef) rfl (by kernel_rfl) (by kernel_rfl) (by kernel_rfl) (fun _ _ _ h => h) (Or.inr ⟨by rfl, rfl⟩) (by assumption) ?_
                try simp only [Act.put, List.setIfInBounds_toArray, List.set_cons_zero, List.set_cons_succ]
                refine wpAnyH_take (i := 26) (oi := ⟨some 106, _, _, _, _, _⟩) (v := undef) rfl (by kernel_rfl) (by kernel_rfl) (by kernel_rfl) (fun _ _ _ h => h) (Or.inr ⟨by rfl, rfl⟩) (by assumption) ?_
                try simp only [Act.put, List.setIfInBounds_toArray, List.set_cons_zero, List.set_cons_succ]
                refine wpAnyH_take (i := 27) (oi := ⟨some 107, _, _, _, _, _⟩) (v := undef) rfl (by kernel_rfl) (by kernel_rfl) (by kernel_rfl) (fun _ _ _ h => h) (Or.inr ⟨by rfl, rfl⟩) (by assumption) ?_
                try simp only [Act.put, List.setIfInBounds_toArray, List.set_cons_zero, List.set_cons_succ]
                refine wpAnyH_take (i := 28) (oi := ⟨some 108, _, _, _, _, _⟩) (v := ?_) rfl (by kernel_rfl) (by kernel_rfl) (by kernel_rfl) (fun _ _ _ h => h) (Or.inl ⟨by rfl, ?_⟩) (by assumption) ?_
                rotate_left
                · intro w5 hSw
                  (try dsimp only at hSw)
                  go_simp
                  (try with_reducible rfl)
                try simp only [Act.put, List.setIfInBounds_toArray, List.set_cons_zero, List.set_cons_succ]
                refine wpAnyH_take (i := 29) (oi := ⟨some 9, _, _, _, _, _⟩) (v := ?_) rfl (by kernel_rfl) (by kernel_rfl) (by kernel_rfl) (fun _ _ _ h => h) (Or.inl ⟨by rfl, ?_⟩) (by assumption) ?_
                rotate_left
                · intro w5 hSw
                  (try dsimp only at hSw)
                  go_simp
                  (try with_reducible rfl)
                try simp only [Act.put, List.setIfInBounds_toArray, List.set_cons_zero, List.set_cons_succ]
                refine wpAnyH_done (by kernel_rfl) ?_ _
                go_wp2
                go_roundw
                case rel => exact ⟨j + 1, true, rfl, by go_num, by omega, hideIt ⟨below_via HB8.out ((Below.refl _ _).drew), by rw [HT.out]; rfl⟩⟩
                case measure => simp [intOf]; omega
            · have hjI : ¬ (j : Int) < (T.wait.length : Int) := by omega
              have hE : T.wait.take j = T.wait := List.take_of_length_le (by omega)
              have hfd := HJ.out.2
              rw [hE, HA.out] at hfd
              subst hfd
              have HB9 := hideIt (below_via HB7.out HJ.out.1)
              clear HJ X7 X8 hE HB7 Y
              go_wp2
              go_roundw
              case rel => exact ⟨i + 1, by go_num, by omega, HB9⟩
              case measure => simp [intOf]; omega
        · have hilI : ¬ (i : Int) < (wl.length : Int) := by omega
          have HB := hideIt (X5.out.keep HR.out).bel
          clear X5 O5 HR
          go_wp2_with fail
          refine (HV.out _).mono ?_
          rintro e w9 ⟨rfl, hb⟩
          dsimp only
          have HB9 := hideIt (below_via HB.out hb)
          clear hb
          go_wp2
          go_ret
          exact ⟨rfl, HB9.out⟩
end Go.Proofs.Ytgfpeknhabbkbaa
