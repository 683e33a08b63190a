/- The statement that in the end nobody waits, walked. -/
import Derived.Test.YtgfpeknhabbkbabDrW
import Derived.Test.YtgfpeknhabbkbabIdW
namespace Go.Proofs.Ytgfpeknhabbkbab
open Go.RowKit
set_option linter.all false
/-- The table's box. -/
structure ET (w : World) (A : Nat) (T : TabV) (h v : Value) (wx : World) : Prop where
  box : wx.heap[A]? = some (.cells #[h, v] 25 (0, 0))
  own : TabOwn w.heap.size T h v wx
  bel : Below w.heap.size w wx
  lA : w.heap.size ≤ A
  may : MayT T
theorem ET.keep {w wx wy : World} {A : Nat} {T : TabV} {h v : Value} (a : ET w A T h v wx) (hb : Below wx.heap.size wx wy) : ET w A T h v wy :=
  ⟨(hb.block _ (Array.getElem?_eq_some_iff.1 a.box).1).trans a.box, a.own.keep hb, below_via a.bel hb, a.lA, a.may⟩
theorem ET.tab {w wx : World} {A : Nat} {T : TabV} {h v : Value} (a : ET w A T h v wx) : Tab wx T h v := a.own.tab a.may.small.1 a.may.small.2
theorem ET.set29 {w wx : World} {A O : Nat} {T : TabV} {h v z0 z1 : Value} (a : ET w A T h v wx) (hO : wx.heap[O]? = some (.cells #[z0, z1] 29 (0, 0))) (lO : w.heap.size ≤ O) (x0 x1 : Value) : ET w A T h v ((wx.setCell ⟨O, 0, none⟩ x0).setCell ⟨O, 1, none⟩ x1) := by
  have ne : A ≠ O := fun e => by
    have := a.box
    rw [e, hO] at this
    simp at this
  exact ⟨setOther _ (setOther _ a.box ne) ne, ⟨own_cell (own_cell a.own.oh hO (by decide)) (heap_set hO 0 _) (by decide), own_cell (own_cell a.own.ov hO (by decide)) (heap_set hO 0 _) (by decide)⟩, belowSet _ (belowSet _ a.bel lO) lO, a.lA, a.may⟩
theorem ET.put {w wx : World} {A : Nat} {T T2 : TabV} {h v h2 v2 : Value} (a : ET w A T h v wx) (ho : TabOwn w.heap.size T2 h2 v2 wx) (hm : MayT T2) : ET w A T2 h2 v2 ((wx.setCell ⟨A, 0, none⟩ h2).setCell ⟨A, 1, none⟩ v2) :=
  ⟨put2 a.box h2 v2, ⟨own_cell (own_cell ho.oh a.box (by decide)) (heap_set a.box 0 h2) (by decide), own_cell (own_cell ho.ov a.box (by decide)) (heap_set a.box 0 h2) (by decide)⟩, belowSet _ (belowSet _ a.bel a.lA) a.lA, a.lA, hm⟩
set_option maxHeartbeats 16000000 in
set_option maxRecDepth 100000 in
theorem ends_walk (v0 : Value) (l : List StepV) (w : World) (h0 : Stps w v0 l) : Calls Try.prog 3 #[v0] w fun e w' => e = .returned (.bool true) ∧ Below w.heap.size w w' := by
  have HP := hideIt (played_is v0 l w h0)
  have HV := hideIt (fun W => live_is W)
  have HM := hideIt (play_may l)
  have HFW := hideIt (play_few l)
  unfold PlayBack at HP
  obtain ⟨va0, vc0, rfl⟩ := h0.slice
  clear h0
  generalize playL l = T0 at *
  go_enter Try.func3, Try.ntmps3
  go_wp2_with fail
  refine HP.out.mono ?_
  rintro e w1 ⟨h1, v1, rfl, ho, hb⟩
  dsimp only
  obtain ⟨ta, tc, rfl⟩ := own_len ho.oh
  obtain ⟨ua, uc, rfl⟩ := own_len ho.ov
  have hb1 := below1 w1 (.cells #[.slice ta T0.held.length tc, .slice ua T0.wait.length uc] 25)
  have X0 : Hid (ET w w1.heap.size T0 (.slice ta T0.held.length tc) (.slice ua T0.wait.length uc) (w1.alloc (.cells #[.slice ta T0.held.length tc, .slice ua T0.wait.length uc] 25))) := ⟨heap_alloc_new w1 _, ho.keep hb1, below_via hb hb1, hb.size, HM.out⟩
  clear ho hb hb1 HP HM
  go_upto_region 3 with fail
  generalize w1.alloc (.cells #[.slice ta T0.held.length tc, .slice ua T0.wait.length uc] 25) = W1 at *
  generalize w1.heap.size = A at *
  go_loopw [4] (fun v4 wr => ∃ n : Nat, v4 = .int .i64 n ∧ Hid (∃ T h v, ET w A T h v wr ∧ totL T + n ≤ 60)) (fun v _ => 130 - (intOf v).toNat)
  case atStart => exact ⟨0, rfl, hideIt ⟨_, _, _, X0.out, by have := HFW.out; omega⟩⟩
  case round =>
    clear X0
    obtain ⟨n, rfl, HR⟩ := hrel
    obtain ⟨T, h, v, X', hn60⟩ := HR.out
    have X := hideIt X'
    clear HR X'
    obtain ⟨ha, hc, rfl⟩ := own_len X.out.own.oh
    obtain ⟨va, vc, rfl⟩ := own_len X.out.own.ov
    obtain ⟨x0, x1, -, -, xl⟩ := two_at X.out.box
    have hnI : (n : Int) < 130 := by omega
    have hnw : IntKind.i64.wrap ((n : Int) + 1) = ((n + 1 : Nat) : Int) := by rw [IntKind.wrap_i64]; omega
    by_cases hw : T.wait.length = 0
    · have hwI : ¬ (0 : Int) < (T.wait.length : Int) := by omega
      have hwE : ((T.wait.length : Int) == 0) = true := by simp [hw]
      rw [hw] at x1
      simp only [hw] at hwI hwE ⊢
      go_wp2_with fail
      refine (HV.out _).mono ?_
      rintro e w9 ⟨rfl, hb⟩
      dsimp only
      have HB9 := hideIt (below_via X.out.bel hb)
      clear hb
      go_wp2
      go_ret
      exact ⟨rfl, HB9.out⟩
    · have hwI : (0 : Int) < (T.wait.length : Int) := by omega
      have hwN : T.wait ≠ [] := fun e => hw (by rw [e]; rfl)
      have HGH := hideIt (gone_holds X.out.may hwN)
      have hgz := gone_ne X.out.may hwN
      have HGN : Hid (goneL T = match wnL T with | x :: _ => x.2 | [] => idleL T) := rfl
      have HW := hideIt (fun W hW => wounds_is T (.slice ha T.held.length hc) (.slice va T.wait.length vc) W hW)
      have HID := hideIt (fun W hW => idle_is T (.slice ha T.held.length hc) (.slice va T.wait.length vc) W hW)
      have HDR := hideIt (fun g0 g1 W hW hex => drop_is T (.slice ha T.held.length hc) (.slice va T.wait.length vc) g0 g1 W hW X.out.may hex)
      unfold HolsBack at HW
      generalize idleL T = il at *
      obtain ⟨i0, i1⟩ := il
      have hsm := X.out.may.small
      have hwl : (wnL T).length ≤ T.held.length := by
        unfold wnL
        split
        · exact List.length_filter_le _ _
        · simp
      generalize wnL T = wl at *
      generalize goneL T = gt at *
      go_upto_region 5 with fail
      go_wp2_with fail
      refine (HW.out _ X.out.tab).mono ?_
      rintro e w5 ⟨h5, rfl, ho5, hb5⟩
      dsimp only
      obtain ⟨ga, gc, rfl⟩ := own_len ho5
      have O5 := hideIt ho5
      have X5 := hideIt (X.out.keep hb5)
      clear ho5 hb5 HW X x0 x1 xl
      go_upto_region 6 with fail
      obtain ⟨x0, x1, -, -, xl⟩ := two_at X5.out.box
      go_wp2_with fail
      refine (HID.out _ X5.out.tab).mono ?_
      rintro e w6 ⟨rfl, hb6⟩
      dsimp only
      have hb7 := below_via hb6 (below1 w6 (.cells #[.int .i64 i0, .int .i64 i1] 29))
      have X7 := hideIt (X5.out.keep hb7)
      have O7 := hideIt (own_keep O5.out hb7)
      have N7 := hideIt (heap_alloc_new w6 (.cells #[.int .i64 i0, .int .i64 i1] 29))
      have lO : w.heap.size ≤ w6.heap.size := Nat.le_trans X5.out.bel.size hb6.size
      clear hb6 hb7 X5 O5 HID x0 x1 xl
      go_upto_region 7 with fail
      generalize w6.alloc (.cells #[.int .i64 i0, .int .i64 i1] 29) = W7 at *
      generalize w6.heap.size = O at *
      cases wl with
      | nil =>
        have hg : gt = (i0, i1) := HGN.out
        subst hg
        have e3 : ∀ W, (binOp .eql 29 (.agg #[.int .i64 i0, .int .i64 i1]) (.agg #[.int .i64 0, .int .i64 0])).run Try.prog W = .ok (.bool false) W := fun W => (eq28 i0 i1 0 0 W).trans (by rw [show ((i0, i1) == ((0, 0) : TxnV)) = false from beq_eq_false_iff_ne.2 hgz])
        obtain ⟨s0, s1, -, -, sl⟩ := two_at N7.out
        simp only [List.length_nil]
        go_upto_region 11 with fail
        clear s0 s1 sl
        have HD := hideIt (HDR.out i0 i1 W7 X7.out.tab HGH.out)
        unfold DropBack at HD
        have HDE := hideIt (drop_end X7.out.may HGH.out)
        generalize dropL T (i0, i1) = T2 at *
        obtain ⟨x0, x1, xf0, xf1, xl⟩ := two_at X7.out.box
        obtain ⟨s0, s1, -, -, sl⟩ := two_at N7.out
        go_wp2_with fail
        refine HD.out.mono ?_
        rintro e w9 ⟨h2, v2, rfl, ho, hb⟩
        dsimp only
        obtain ⟨ha2, hc2, rfl⟩ := own_len ho.oh
        obtain ⟨va2, vc2, rfl⟩ := own_len ho.ov
        have X9 := hideIt (X7.out.keep hb)
        have Z := hideIt (X9.out.put (T2 := T2) ⟨own_base ho.oh X7.out.bel.size, own_base ho.ov X7.out.bel.size⟩ HDE.out.1)
        clear x0 x1 xf0 xf1 xl s0 s1 sl ho hb
        obtain ⟨x0, x1, xf0, xf1, xl⟩ := two_at X9.out.box
        go_wp2
        go_roundw
        case rel => exact ⟨n + 1, by go_num, hideIt ⟨_, _, _, Z.out, by have := HDE.out.2; omega⟩⟩
        case measure => simp [intOf]; omega
      | cons y r =>
        have hg : gt = y.2 := HGN.out
        subst hg
        obtain ⟨⟨y0, y1⟩, ⟨g0, g1⟩⟩ := y
        dsimp only at hgz HGH
        obtain ⟨gb, go, gcc, e⟩ := row_s O7.out (by omega) 0 (by simp)
        simp only [Value.slice.injEq, true_and] at e
        obtain ⟨rfl, rfl⟩ := e
        obtain ⟨gl, -, -, q2, q3⟩ := row_c O7.out (by omega) 0 (by simp)
        simp only [Nat.zero_mul, Nat.add_zero, List.getElem_cons_zero] at q2 q3
        have e3 : ∀ W, (binOp .eql 29 (.agg #[.int .i64 g0, .int .i64 g1]) (.agg #[.int .i64 0, .int .i64 0])).run Try.prog W = .ok (.bool false) W := fun W => (eq28 g0 g1 0 0 W).trans (by rw [show ((g0, g1) == ((0, 0) : TxnV)) = false from beq_eq_false_iff_ne.2 hgz])
        have hpos : (0 : Int) < (((((y0, y1), (g0, g1)) :: r : List HoldV).length : Nat) : Int) := by simp
        obtain ⟨s0, s1, sf0, sf1, sl⟩ := two_at N7.out
        have X8 := hideIt (X7.out.set29 N7.out lO (.int .i64 g0) (.int .i64 g1))
        have N8 := hideIt (put2 N7.out (.int .i64 g0) (.int .i64 g1))
        go_upto_region 9 with fail
        clear s0 s1 sf0 sf1 sl q2 q3 gl X7 N7 O7
        generalize (W7.setCell ⟨O, 0, none⟩ (.int .i64 g0)).setCell ⟨O, 1, none⟩ (.int .i64 g1) = W8 at *
        obtain ⟨s0, s1, -, -, sl⟩ := two_at N8.out
        go_upto_region 11 with fail
        clear s0 s1 sl
        have HD := hideIt (HDR.out g0 g1 W8 X8.out.tab HGH.out)
        unfold DropBack at HD
        have HDE := hideIt (drop_end X8.out.may HGH.out)
        generalize dropL T (g0, g1) = T2 at *
        obtain ⟨x0, x1, xf0, xf1, xl⟩ := two_at X8.out.box
        obtain ⟨s0, s1, -, -, sl⟩ := two_at N8.out
        go_wp2_with fail
        refine HD.out.mono ?_
        rintro e w9 ⟨h2, v2, rfl, ho, hb⟩
        dsimp only
        obtain ⟨ha2, hc2, rfl⟩ := own_len ho.oh
        obtain ⟨va2, vc2, rfl⟩ := own_len ho.ov
        have X9 := hideIt (X8.out.keep hb)
        have Z := hideIt (X9.out.put (T2 := T2) ⟨own_base ho.oh X8.out.bel.size, own_base ho.ov X8.out.bel.size⟩ HDE.out.1)
        clear x0 x1 xf0 xf1 xl s0 s1 sl ho hb
        obtain ⟨x0, x1, xf0, xf1, xl⟩ := two_at X9.out.box
        go_wp2
        go_roundw
        case rel => exact ⟨n + 1, by go_num, hideIt ⟨_, _, _, Z.out, by have := HDE.out.2; omega⟩⟩
        case measure => simp [intOf]; omega
end Go.Proofs.Ytgfpeknhabbkbab
