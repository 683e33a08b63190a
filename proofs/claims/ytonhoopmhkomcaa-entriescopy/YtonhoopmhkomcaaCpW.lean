/- The statement on a log that is sent all of another one, walked. -/
import Derived.Test.YtonhoopmhkomcaaCpP
import Derived.Test.YtonhoopmhkomcaaAvP
namespace Go.Proofs.Ytonhoopmhkomcaa
open Go.RowKit
theorem from_all {L : LogV} (h : mayB L = true) (j : Nat) (hj : j ≤ L.l.length) : fromL L (L.bi + j + 1) 400 = L.l.drop j := by
  have hin := mayB_in h
  unfold fromL
  rw [h, Bool.true_and]
  cases hb : hasB L (L.bi + j + 1)
  · simp only [Bool.false_and, Bool.false_eq_true, if_false]
    have hn : ¬ (L.bi + 1 ≤ L.bi + j + 1 ∧ L.bi + j + 1 ≤ lasI L) := of_decide_eq_false hb
    unfold lasI at hn
    rw [List.drop_of_length_le (by omega)]
  · rw [show (true && decide ((1 : Int) ≤ 400)) = true from rfl, if_pos rfl]
    rw [show (L.bi + j + 1 - L.bi - 1).toNat = j by omega]
    exact List.take_of_length_le (by rw [List.length_drop]; show _ ≤ 400; omega)
theorem fld23a (a b : Int) (w : World) : (Instr.field 23 (.agg #[.int .i64 a, .int .i64 b]) 0).run Try.prog w = .ok (.int .i64 a) w := by
  simp [Instr.field, run_underlying Try.underlying23, go_sem, asAgg]
theorem neq23n {a b c d : Int} (h : ¬ (a = c ∧ b = d)) (w : World) : (binOp .neq 23 (.agg #[.int .i64 a, .int .i64 b]) (.agg #[.int .i64 c, .int .i64 d])).run Try.prog w = .ok (.bool true) w := by
  rw [neq23]
  have : (a == c && b == d) = false := by
    cases h1 : (a == c && b == d)
    · rfl
    · simp only [Bool.and_eq_true, beq_iff_eq] at h1
      exact absurd h1 h
  rw [this]
  rfl
theorem LX.first {w : World} {L M : LogV} {g k : Value} (h : EGot w g L.l) (hk : EGot w k M.l) : LX w (w.heap.size + 1) L M g k ((w.alloc (.cells (logA L g) 26)).alloc (.cells (logA M k) 26)) := by
  have ht := two_heap w (.cells (logA L g) 26) (.cells (logA M k) 26)
  have hb := below2 w (.cells (logA L g) 26) (.cells (logA M k) 26)
  exact ⟨⟨ht.1, h.keep hb⟩, ⟨ht.2.1, hk.keep hb⟩, hb⟩
theorem belN (w : World) (n : Nat) : Below w.heap.size w (w.drewN n) := ⟨rfl, rfl, rfl, Nat.le_refl _, fun _ _ => rfl⟩
set_option maxHeartbeats 16000000 in
set_option maxRecDepth 100000 in
theorem copy_walk (L M : LogV) (g k : Value) (at0 : Int) (w : World) (h : EGot w g L.l) (hk : EGot w k M.l) (hat : i64B at0) : Calls Try.prog 8 #[logV L g, logV M k, .int .i64 at0] w fun e w' => e = .returned (.bool true) ∧ Below w.heap.size w w' := by
  have HL := hideIt (fun W => live8_is W)
  have V0 := hideIt (LX.first (L := L) (M := M) h hk)
  have HC1 := hideIt (fun W (hW : EGot W g L.l) => check_is L g W hW)
  have HC2 := hideIt (fun W (hW : EGot W k M.l) => check_is M k W hW)
  have h8 := h.1
  have hk8 := hk.1
  obtain ⟨ga, gc, rfl⟩ := h.slice
  obtain ⟨ka, kc, rfl⟩ := hk.slice
  cases hL : mayB L
  · rw [show chkI L = 80 by simp [chkI, hL]] at HC1
    unfold logV logA at *
    obtain ⟨bi, bt, l, cm⟩ := L
    obtain ⟨mbi, mbt, ml, mcm⟩ := M
    simp only at HC1 V0 ⊢
    clear h hk HC2 hL
    go_enter Try.func8, Try.ntmps8
    go_wp2_with fail
    refine (HC1.out _ V0.out.e0.got).mono ?_
    rintro e w1 ⟨rfl, hbl⟩
    dsimp only
    have V1 := hideIt (V0.out.keep hbl)
    clear hbl V0 HC1
    obtain ⟨c0, c1, c2, c3, d0, d1, d2, d3⟩ := V1.out.eight
    simp only at c0 c1 c2 c3 d0 d1 d2 d3
    have B1 := hideIt V1.out.bel
    go_wp2_with fail
    refine (HL.out _).mono ?_
    rintro e w99 ⟨rfl, hbl⟩
    dsimp only
    have HB := hideIt (below_via B1.out hbl)
    clear hbl
    go_wp2
    go_ret
    exact ⟨rfl, HB.out⟩
  · rw [show chkI L = 0 by simp [chkI, hL]] at HC1
    cases hM : mayB M
    · rw [show chkI M = 80 by simp [chkI, hM]] at HC2
      unfold logV logA at *
      obtain ⟨bi, bt, l, cm⟩ := L
      obtain ⟨mbi, mbt, ml, mcm⟩ := M
      simp only at HC1 HC2 V0 ⊢
      clear h hk hL hM
      go_enter Try.func8, Try.ntmps8
      go_wp2_with fail
      refine (HC1.out _ V0.out.e0.got).mono ?_
      rintro e w1 ⟨rfl, hbl⟩
      dsimp only
      have V1 := hideIt (V0.out.keep hbl)
      clear hbl V0 HC1
      obtain ⟨c0, c1, c2, c3, d0, d1, d2, d3⟩ := V1.out.eight
      simp only at c0 c1 c2 c3 d0 d1 d2 d3
      go_wp2_with fail
      refine (HC2.out _ V1.out.e1.got).mono ?_
      rintro e w2 ⟨rfl, hbl⟩
      dsimp only
      have V2 := hideIt (V1.out.keep hbl)
      clear hbl V1 HC2 c0 c1 c2 c3 d0 d1 d2 d3
      obtain ⟨c0, c1, c2, c3, d0, d1, d2, d3⟩ := V2.out.eight
      simp only at c0 c1 c2 c3 d0 d1 d2 d3
      have B1 := hideIt V2.out.bel
      go_wp2_with fail
      refine (HL.out _).mono ?_
      rintro e w99 ⟨rfl, hbl⟩
      dsimp only
      have HB := hideIt (below_via B1.out hbl)
      clear hbl
      go_wp2
      go_ret
      exact ⟨rfl, HB.out⟩
    · rw [show chkI M = 0 by simp [chkI, hM]] at HC2
      by_cases hbb : L.bi = M.bi ∧ L.bt = M.bt
      · by_cases hcb : L.cm = L.bi
        · obtain ⟨hb1, hb2⟩ := hbb
          obtain ⟨A, hA0, hA1, hA2⟩ : ∃ A : Int, (at0 < 0 → A = -(at0 + 1)) ∧ (¬ at0 < 0 → A = at0) ∧ (0 ≤ A ∧ A ≤ 9223372036854775807) := by
            unfold i64B at hat
            by_cases c : at0 < 0
            · exact ⟨-(at0 + 1), fun _ => rfl, fun h => absurd c h, by omega⟩
            · exact ⟨at0, fun h => absurd h c, fun _ => rfl, by omega⟩
          obtain ⟨j, hj⟩ : ∃ j : Nat, A.tmod ((M.l.length : Int) + 1) = (j : Int) := Int.eq_ofNat_of_zero_le (Int.tmod_nonneg _ hA2.1)
          have hjl : j ≤ M.l.length := by
            have := Int.tmod_lt_of_pos A (show (0 : Int) < (M.l.length : Int) + 1 by omega)
            omega
          have hiM := mayB_in hM
          have hTM : termL M (M.bi + j) = (tmN M.bt M.l j, true) := term_of hM ((hasM_iff _ _ _).2 ⟨j, hjl, rfl, rfl⟩)
          have HTL := hideIt (fun W (hW : EGot W (.slice ga L.l.length gc) L.l) => termAt_is L (.slice ga L.l.length gc) (M.bi + j) W hW)
          have HTM := hideIt (fun W (hW : EGot W (.slice ka M.l.length kc) M.l) => termAt_is M (.slice ka M.l.length kc) (M.bi + j) W hW)
          have HHM := hideIt (hasM_term hL (M.bi + j) (tmN M.bt M.l j))
          have HCP := hideIt (fun hh => copy_plain hL hM hb1 hcb j hjl hh)
          have HFR := hideIt (fun W (hW : EGot W (.slice ka M.l.length kc) M.l) => from_is M (.slice ka M.l.length kc) (M.bi + j + 1) 400 W hW ⟨⟨by unfold lasI at hiM; omega, by unfold lasI at hiM; omega⟩, ⟨by decide, by decide⟩⟩)
          rw [from_all hM j hjl] at HFR
          unfold EntsBack at HFR
          have hfl : (M.l.drop j).length * 32 ≤ 140737488355328 := by rw [List.length_drop]; omega
          have HAC := hideIt (fun W kx (hW : EGot W (.slice ga L.l.length gc) L.l) (hV : EGot W kx (M.l.drop j)) => accept_is L (.slice ga L.l.length gc) kx (M.bi + j) (tmN M.bt M.l j) (M.l.drop j) 0 W hW hV)
          have l1 := acc_len L (M.bi + j) (tmN M.bt M.l j) (M.l.drop j) 0
          have HLA := hideIt (fun W (hW : EGot W (.slice ka M.l.length kc) M.l) => last_is M (.slice ka M.l.length kc) W hW)
          have hla : lastL M = (lasI M, (lasM M).2) := by
            unfold lastL
            rw [hM, if_pos rfl]
            rcases Nat.eq_zero_or_pos M.l.length with h0 | h0
            · unfold lasM markL
              rw [if_pos (by unfold lasI; omega)]
              simp only [Prod.mk.injEq, and_true]
              unfold lasI
              omega
            · unfold lasM markL
              rw [if_neg (by unfold lasI; omega)]
              have hb : hasB M (lasI M) = true := decide_eq_true (by unfold lasI; omega)
              rw [hb]
              rfl
          rw [hla] at HLA
          rw [hTM] at HTM
          have HTT := hideIt (fun i W (hW : EGot W (.slice ka M.l.length kc) M.l) => termAt_is M (.slice ka M.l.length kc) i W hW)
          have HTX := hideIt (fun X i W gx (hW : EGot W gx (LogV.l X)) => termAt_is X gx i W hW)
          have hlm : lasI M = M.bi + (M.l.length : Int) := rfl
          generalize accL L (M.bi + j) (tmN M.bt M.l j) (M.l.drop j) 0 = XX at *
          obtain ⟨X, nn, ok, x⟩ := XX
          simp only at HCP l1
          have LXX : Hid (X.l.length * 32 ≤ 140737488355328) := by
            show _ ≤ _
            omega
          have HFL := hideIt hfl
          generalize M.l.drop j = D at *
          generalize tmN M.bt M.l j = tb at *
          generalize termL L (M.bi + j) = te at *
          obtain ⟨ta, is⟩ := te
          generalize (lasM M).2 = lm2 at *
          generalize hli : lasI M = li at *
          unfold AccBack at HAC
          unfold logV logA at *
          obtain ⟨bi, bt, l, cm⟩ := L
          obtain ⟨mbi, mbt, ml, mcm⟩ := M
          simp only at HC1 HC2 V0 HTL HTM HHM HCP HFR HAC HLA HTT hb1 hb2 hcb hj hjl hlm hiM ⊢
          subst hb1 hb2 hcb
          have n1 := neq23r cm bt
          have hcc : (cm != cm) = false := by simp
          have hbr : 0 ≤ cm ∧ cm ≤ 1000000 := hiM.1
          have hmr : ml.length ≤ 400 := hiM.2.2.1
          have hw1 : IntKind.i64.wrap ((ml.length : Int) + 1) = (ml.length : Int) + 1 := by rw [IntKind.wrap_i64]; omega
          have hwj : IntKind.i64.wrap (j : Int) = (j : Int) := by rw [IntKind.wrap_i64]; omega
          have hwb : IntKind.i64.wrap (cm + (j : Int)) = cm + (j : Int) := by rw [IntKind.wrap_i64]; omega
          have hwc : IntKind.i64.wrap (cm + (j : Int) + 1) = cm + (j : Int) + 1 := by rw [IntKind.wrap_i64]; omega
          have hnz : ¬ ((ml.length : Int) + 1 = 0) := by omega
          have nf := fld23a li lm2
          clear h hk hL hM hiM hTM hfl l1 hli hk8 h8 hla
          by_cases hneg : at0 < 0
          · have eA := hA0 hneg
            have hwn : IntKind.i64.wrap (at0 + 1) = at0 + 1 := by unfold i64B at hat; rw [IntKind.wrap_i64]; omega
            have hwm : IntKind.i64.wrap (-(at0 + 1)) = A := by rw [eA]; unfold i64B at hat; rw [IntKind.wrap_i64]; omega
            clear hA0 hA1 eA
            go_enter Try.func8, Try.ntmps8
            go_wp2_with fail
            refine (HC1.out _ V0.out.e0.got).mono ?_
            rintro e w1 ⟨rfl, hbl⟩
            dsimp only
            have V1 := hideIt (V0.out.keep hbl)
            clear hbl V0 HC1
            obtain ⟨c0, c1, c2, c3, d0, d1, d2, d3⟩ := V1.out.eight
            simp only at c0 c1 c2 c3 d0 d1 d2 d3
            go_wp2_with fail
            refine (HC2.out _ V1.out.e1.got).mono ?_
            rintro e w2 ⟨rfl, hbl⟩
            dsimp only
            have V2 := hideIt (V1.out.keep hbl)
            clear hbl V1 HC2 c0 c1 c2 c3 d0 d1 d2 d3
            obtain ⟨c0, c1, c2, c3, d0, d1, d2, d3⟩ := V2.out.eight
            simp only at c0 c1 c2 c3 d0 d1 d2 d3
            go_upto_region 5 with fail
            go_quiet (fail)
            have V3 := hideIt (V2.out.keep (belN w2 nq))
            generalize w2.drewN nq = w3 at *
            clear V2 c0 c1 c2 c3 d0 d1 d2 d3
            obtain ⟨c0, c1, c2, c3, d0, d1, d2, d3⟩ := V3.out.eight
            simp only at c0 c1 c2 c3 d0 d1 d2 d3
            go_wp2_with fail
            refine (HTL.out _ V3.out.e0.got).mono ?_
            rintro e w4 ⟨rfl, hbl⟩
            dsimp only
            have V4 := hideIt (V3.out.keep hbl)
            clear hbl V3 HTL c0 c1 c2 c3 d0 d1 d2 d3
            obtain ⟨c0, c1, c2, c3, d0, d1, d2, d3⟩ := V4.out.eight
            simp only at c0 c1 c2 c3 d0 d1 d2 d3
            go_wp2_with fail
            refine (HTM.out _ V4.out.e1.got).mono ?_
            rintro e w5 ⟨rfl, hbl⟩
            dsimp only
            have V5 := hideIt (V4.out.keep hbl)
            clear hbl V4 HTM c0 c1 c2 c3 d0 d1 d2 d3
            cases is
            · have B1 := hideIt V5.out.bel
              clear HHM HCP HFR HAC HLA HTT HTX V5
              go_wp2_with fail
              refine (HL.out _).mono ?_
              rintro e w99 ⟨rfl, hbl⟩
              dsimp only
              have HB := hideIt (below_via B1.out hbl)
              clear hbl
              go_wp2
              go_ret
              exact ⟨rfl, HB.out⟩
            · by_cases hta : ta = tb
              · subst hta
                have hcp := HCP.out (by rw [HHM.out]; simp)
                have ntt : (ta != ta) = false := by simp
                clear HCP HHM
                obtain ⟨c0, c1, c2, c3, d0, d1, d2, d3⟩ := V5.out.eight
                simp only at c0 c1 c2 c3 d0 d1 d2 d3
                go_wp2_with fail
                refine (HFR.out _ V5.out.e1.got).mono ?_
                rintro e w6 ⟨kx, rfl, ho, hbl⟩
                dsimp only
                have V6 := hideIt (V5.out.keep hbl)
                have E6 := hideIt (own_egot ho HFL.out)
                clear hbl V5 HFR c0 c1 c2 c3 d0 d1 d2 d3 ho
                obtain ⟨c0, c1, c2, c3, d0, d1, d2, d3⟩ := V6.out.eight
                simp only at c0 c1 c2 c3 d0 d1 d2 d3
                go_wp2_with fail
                refine (HAC.out _ _ V6.out.e0.got E6.out).mono ?_
                rintro e w7 ⟨gx, rfl, ho, hbl⟩
                dsimp only
                obtain ⟨xa, xc, rfl⟩ := own_len ho
                have C7 := hideIt (below_via hbl (below1 w7 (.cells #[.int .i64 X.bi, .int .i64 X.bt, .slice xa X.l.length xc, .int .i64 X.cm] 26)))
                have V8 := hideIt (V6.out.keep C7.out)
                have X8 := hideIt (Ent.new ho LXX.out)
                clear ho hbl HAC C7 V6 E6 HFL LXX c0 c1 c2 c3 d0 d1 d2 d3
                go_upto_region 12 with fail
                unfold logA at X8
                generalize w7.alloc (.cells #[.int .i64 X.bi, .int .i64 X.bt, .slice xa X.l.length xc, .int .i64 X.cm] 26) = w8 at *
                generalize w7.heap.size = k7 at *
                rcases hcp with hx2 | ⟨hx0, hok, hnn, hall⟩
                · subst hx2
                  have B1 := hideIt V8.out.bel
                  clear HLA HTT HTX V8 X8
                  go_wp2_with fail
                  refine (HL.out _).mono ?_
                  rintro e w99 ⟨rfl, hbl⟩
                  dsimp only
                  have HB := hideIt (below_via B1.out hbl)
                  clear hbl
                  go_wp2
                  go_ret
                  exact ⟨rfl, HB.out⟩
                · subst hx0 hok hnn
                  have HLM := hideIt hlm
                  clear hlm
                  have nll : (nn != nn) = false := by simp
                  obtain ⟨c0, c1, c2, c3, d0, d1, d2, d3⟩ := V8.out.eight
                  simp only at c0 c1 c2 c3 d0 d1 d2 d3
                  go_wp2_with fail
                  refine (HLA.out _ V8.out.e1.got).mono ?_
                  rintro e w9 ⟨rfl, hbl⟩
                  dsimp only
                  have V9 := hideIt (V8.out.keep hbl)
                  have X9 := hideIt (X8.out.keep hbl)
                  clear hbl V8 X8 HLA c0 c1 c2 c3 d0 d1 d2 d3
                  have HALL := hideIt hall
                  clear hall
                  go_upto_region 17 with fail
                  go_loopw [16] (fun v wr => ∃ t : Nat, v = .int .i64 (cm + (j : Int) + (t : Int)) ∧ j + t ≤ ml.length + 1 ∧ Hid (LX w (w.heap.size + 1) ⟨cm, bt, l, cm⟩ ⟨cm, bt, ml, mcm⟩ (.slice ga l.length gc) (.slice ka ml.length kc) wr ∧ Ent wr k7 X (.slice xa X.l.length xc))) (fun v _ => (nn + 1 - intOf v).toNat)
                  case atStart => exact ⟨0, by simp, by omega, ⟨V9.out, X9.out⟩⟩
                  case round =>
                    obtain ⟨t, rfl, ht, HW⟩ := hrel
                    by_cases hlt : j + t ≤ ml.length
                    · have hltI : cm + (j : Int) + (t : Int) ≤ nn := by have := HLM.out; omega
                      have HX1 := hideIt (HTX.out X (cm + (j : Int) + (t : Int)))
                      have HM1 := hideIt (HTT.out (cm + (j : Int) + (t : Int)))
                      have EQ := HALL.out (cm + (j : Int) + (t : Int)) (by omega) hltI
                      have hwt : IntKind.i64.wrap (cm + (j : Int) + (t : Int) + 1) = cm + (j : Int) + (t : Int) + 1 := by rw [IntKind.wrap_i64]; omega
                      generalize termL X (cm + (j : Int) + (t : Int)) = p at *
                      obtain ⟨p1, p2⟩ := p
                      generalize termL ⟨cm, bt, ml, mcm⟩ (cm + (j : Int) + (t : Int)) = q at *
                      obtain ⟨q1, q2⟩ := q
                      simp only at EQ HX1 HM1
                      subst EQ
                      have npp : (p1 != p1) = false := by simp
                      have V10 := hideIt HW.out.1
                      have X10 := hideIt HW.out.2
                      clear HTX HTT HALL HW V9 X9
                      obtain ⟨x0, x1, x2, x3⟩ := X10.out.cells
                      go_wp2_with fail
                      refine (HX1.out _ _ X10.out.got).mono ?_
                      rintro e w11 ⟨rfl, hbl⟩
                      dsimp only
                      have V11 := hideIt (V10.out.keep hbl)
                      have X11 := hideIt (X10.out.keep hbl)
                      clear hbl V10 X10 HX1 x0 x1 x2 x3
                      obtain ⟨c0, c1, c2, c3, d0, d1, d2, d3⟩ := V11.out.eight
                      simp only at c0 c1 c2 c3 d0 d1 d2 d3
                      go_wp2_with fail
                      refine (HM1.out _ V11.out.e1.got).mono ?_
                      rintro e w12 ⟨rfl, hbl⟩
                      dsimp only
                      have V12 := hideIt (V11.out.keep hbl)
                      have X12 := hideIt (X11.out.keep hbl)
                      clear hbl V11 X11 HM1 c0 c1 c2 c3 d0 d1 d2 d3
                      go_wp2
                      go_roundw
                      case rel => exact ⟨t + 1, by go_num, by omega, ⟨V12.out, X12.out⟩⟩
                      case measure => simp [intOf]; omega
                    · have hltI : ¬ cm + (j : Int) + (t : Int) ≤ nn := by have := HLM.out; omega
                      have B1 := hideIt HW.out.1.bel
                      clear HTX HTT HALL V9 X9 HW
                      go_wp2_with fail
                      refine (HL.out _).mono ?_
                      rintro e w99 ⟨rfl, hbl⟩
                      dsimp only
                      have HB := hideIt (below_via B1.out hbl)
                      clear hbl
                      go_wp2
                      go_ret
                      exact ⟨rfl, HB.out⟩
              · have ntt : (ta != tb) = true := by simp [hta]
                have B1 := hideIt V5.out.bel
                clear HHM HCP HFR HAC HLA HTT HTX V5
                go_wp2_with fail
                refine (HL.out _).mono ?_
                rintro e w99 ⟨rfl, hbl⟩
                dsimp only
                have HB := hideIt (below_via B1.out hbl)
                clear hbl
                go_wp2
                go_ret
                exact ⟨rfl, HB.out⟩
          · have eA := hA1 hneg
            subst eA
            clear hA0 hA1
            go_enter Try.func8, Try.ntmps8
            go_wp2_with fail
            refine (HC1.out _ V0.out.e0.got).mono ?_
            rintro e w1 ⟨rfl, hbl⟩
            dsimp only
            have V1 := hideIt (V0.out.keep hbl)
            clear hbl V0 HC1
            obtain ⟨c0, c1, c2, c3, d0, d1, d2, d3⟩ := V1.out.eight
            simp only at c0 c1 c2 c3 d0 d1 d2 d3
            go_wp2_with fail
            refine (HC2.out _ V1.out.e1.got).mono ?_
            rintro e w2 ⟨rfl, hbl⟩
            dsimp only
            have V2 := hideIt (V1.out.keep hbl)
            clear hbl V1 HC2 c0 c1 c2 c3 d0 d1 d2 d3
            obtain ⟨c0, c1, c2, c3, d0, d1, d2, d3⟩ := V2.out.eight
            simp only at c0 c1 c2 c3 d0 d1 d2 d3
            go_upto_region 5 with fail
            go_quiet (fail)
            have V3 := hideIt (V2.out.keep (belN w2 nq))
            generalize w2.drewN nq = w3 at *
            clear V2 c0 c1 c2 c3 d0 d1 d2 d3
            obtain ⟨c0, c1, c2, c3, d0, d1, d2, d3⟩ := V3.out.eight
            simp only at c0 c1 c2 c3 d0 d1 d2 d3
            go_wp2_with fail
            refine (HTL.out _ V3.out.e0.got).mono ?_
            rintro e w4 ⟨rfl, hbl⟩
            dsimp only
            have V4 := hideIt (V3.out.keep hbl)
            clear hbl V3 HTL c0 c1 c2 c3 d0 d1 d2 d3
            obtain ⟨c0, c1, c2, c3, d0, d1, d2, d3⟩ := V4.out.eight
            simp only at c0 c1 c2 c3 d0 d1 d2 d3
            go_wp2_with fail
            refine (HTM.out _ V4.out.e1.got).mono ?_
            rintro e w5 ⟨rfl, hbl⟩
            dsimp only
            have V5 := hideIt (V4.out.keep hbl)
            clear hbl V4 HTM c0 c1 c2 c3 d0 d1 d2 d3
            cases is
            · have B1 := hideIt V5.out.bel
              clear HHM HCP HFR HAC HLA HTT HTX V5
              go_wp2_with fail
              refine (HL.out _).mono ?_
              rintro e w99 ⟨rfl, hbl⟩
              dsimp only
              have HB := hideIt (below_via B1.out hbl)
              clear hbl
              go_wp2
              go_ret
              exact ⟨rfl, HB.out⟩
            · by_cases hta : ta = tb
              · subst hta
                have hcp := HCP.out (by rw [HHM.out]; simp)
                have ntt : (ta != ta) = false := by simp
                clear HCP HHM
                obtain ⟨c0, c1, c2, c3, d0, d1, d2, d3⟩ := V5.out.eight
                simp only at c0 c1 c2 c3 d0 d1 d2 d3
                go_wp2_with fail
                refine (HFR.out _ V5.out.e1.got).mono ?_
                rintro e w6 ⟨kx, rfl, ho, hbl⟩
                dsimp only
                have V6 := hideIt (V5.out.keep hbl)
                have E6 := hideIt (own_egot ho HFL.out)
                clear hbl V5 HFR c0 c1 c2 c3 d0 d1 d2 d3 ho
                obtain ⟨c0, c1, c2, c3, d0, d1, d2, d3⟩ := V6.out.eight
                simp only at c0 c1 c2 c3 d0 d1 d2 d3
                go_wp2_with fail
                refine (HAC.out _ _ V6.out.e0.got E6.out).mono ?_
                rintro e w7 ⟨gx, rfl, ho, hbl⟩
                dsimp only
                obtain ⟨xa, xc, rfl⟩ := own_len ho
                have C7 := hideIt (below_via hbl (below1 w7 (.cells #[.int .i64 X.bi, .int .i64 X.bt, .slice xa X.l.length xc, .int .i64 X.cm] 26)))
                have V8 := hideIt (V6.out.keep C7.out)
                have X8 := hideIt (Ent.new ho LXX.out)
                clear ho hbl HAC C7 V6 E6 HFL LXX c0 c1 c2 c3 d0 d1 d2 d3
                go_upto_region 12 with fail
                unfold logA at X8
                generalize w7.alloc (.cells #[.int .i64 X.bi, .int .i64 X.bt, .slice xa X.l.length xc, .int .i64 X.cm] 26) = w8 at *
                generalize w7.heap.size = k7 at *
                rcases hcp with hx2 | ⟨hx0, hok, hnn, hall⟩
                · subst hx2
                  have B1 := hideIt V8.out.bel
                  clear HLA HTT HTX V8 X8
                  go_wp2_with fail
                  refine (HL.out _).mono ?_
                  rintro e w99 ⟨rfl, hbl⟩
                  dsimp only
                  have HB := hideIt (below_via B1.out hbl)
                  clear hbl
                  go_wp2
                  go_ret
                  exact ⟨rfl, HB.out⟩
                · subst hx0 hok hnn
                  have HLM := hideIt hlm
                  clear hlm
                  have nll : (nn != nn) = false := by simp
                  obtain ⟨c0, c1, c2, c3, d0, d1, d2, d3⟩ := V8.out.eight
                  simp only at c0 c1 c2 c3 d0 d1 d2 d3
                  go_wp2_with fail
                  refine (HLA.out _ V8.out.e1.got).mono ?_
                  rintro e w9 ⟨rfl, hbl⟩
                  dsimp only
                  have V9 := hideIt (V8.out.keep hbl)
                  have X9 := hideIt (X8.out.keep hbl)
                  clear hbl V8 X8 HLA c0 c1 c2 c3 d0 d1 d2 d3
                  have HALL := hideIt hall
                  clear hall
                  go_upto_region 17 with fail
                  go_loopw [16] (fun v wr => ∃ t : Nat, v = .int .i64 (cm + (j : Int) + (t : Int)) ∧ j + t ≤ ml.length + 1 ∧ Hid (LX w (w.heap.size + 1) ⟨cm, bt, l, cm⟩ ⟨cm, bt, ml, mcm⟩ (.slice ga l.length gc) (.slice ka ml.length kc) wr ∧ Ent wr k7 X (.slice xa X.l.length xc))) (fun v _ => (nn + 1 - intOf v).toNat)
                  case atStart => exact ⟨0, by simp, by omega, ⟨V9.out, X9.out⟩⟩
                  case round =>
                    obtain ⟨t, rfl, ht, HW⟩ := hrel
                    by_cases hlt : j + t ≤ ml.length
                    · have hltI : cm + (j : Int) + (t : Int) ≤ nn := by have := HLM.out; omega
                      have HX1 := hideIt (HTX.out X (cm + (j : Int) + (t : Int)))
                      have HM1 := hideIt (HTT.out (cm + (j : Int) + (t : Int)))
                      have EQ := HALL.out (cm + (j : Int) + (t : Int)) (by omega) hltI
                      have hwt : IntKind.i64.wrap (cm + (j : Int) + (t : Int) + 1) = cm + (j : Int) + (t : Int) + 1 := by rw [IntKind.wrap_i64]; omega
                      generalize termL X (cm + (j : Int) + (t : Int)) = p at *
                      obtain ⟨p1, p2⟩ := p
                      generalize termL ⟨cm, bt, ml, mcm⟩ (cm + (j : Int) + (t : Int)) = q at *
                      obtain ⟨q1, q2⟩ := q
                      simp only at EQ HX1 HM1
                      subst EQ
                      have npp : (p1 != p1) = false := by simp
                      have V10 := hideIt HW.out.1
                      have X10 := hideIt HW.out.2
                      clear HTX HTT HALL HW V9 X9
                      obtain ⟨x0, x1, x2, x3⟩ := X10.out.cells
                      go_wp2_with fail
                      refine (HX1.out _ _ X10.out.got).mono ?_
                      rintro e w11 ⟨rfl, hbl⟩
                      dsimp only
                      have V11 := hideIt (V10.out.keep hbl)
                      have X11 := hideIt (X10.out.keep hbl)
                      clear hbl V10 X10 HX1 x0 x1 x2 x3
                      obtain ⟨c0, c1, c2, c3, d0, d1, d2, d3⟩ := V11.out.eight
                      simp only at c0 c1 c2 c3 d0 d1 d2 d3
                      go_wp2_with fail
                      refine (HM1.out _ V11.out.e1.got).mono ?_
                      rintro e w12 ⟨rfl, hbl⟩
                      dsimp only
                      have V12 := hideIt (V11.out.keep hbl)
                      have X12 := hideIt (X11.out.keep hbl)
                      clear hbl V11 X11 HM1 c0 c1 c2 c3 d0 d1 d2 d3
                      go_wp2
                      go_roundw
                      case rel => exact ⟨t + 1, by go_num, by omega, ⟨V12.out, X12.out⟩⟩
                      case measure => simp [intOf]; omega
                    · have hltI : ¬ cm + (j : Int) + (t : Int) ≤ nn := by have := HLM.out; omega
                      have B1 := hideIt HW.out.1.bel
                      clear HTX HTT HALL V9 X9 HW
                      go_wp2_with fail
                      refine (HL.out _).mono ?_
                      rintro e w99 ⟨rfl, hbl⟩
                      dsimp only
                      have HB := hideIt (below_via B1.out hbl)
                      clear hbl
                      go_wp2
                      go_ret
                      exact ⟨rfl, HB.out⟩
              · have ntt : (ta != tb) = true := by simp [hta]
                have B1 := hideIt V5.out.bel
                clear HHM HCP HFR HAC HLA HTT HTX V5
                go_wp2_with fail
                refine (HL.out _).mono ?_
                rintro e w99 ⟨rfl, hbl⟩
                dsimp only
                have HB := hideIt (below_via B1.out hbl)
                clear hbl
                go_wp2
                go_ret
                exact ⟨rfl, HB.out⟩
        · have hcn : (L.cm != L.bi) = true := by simp [hcb]
          obtain ⟨hb1, hb2⟩ := hbb
          unfold logV logA at *
          obtain ⟨bi, bt, l, cm⟩ := L
          obtain ⟨mbi, mbt, ml, mcm⟩ := M
          simp only at HC1 HC2 V0 hb1 hb2 hcn ⊢
          subst hb1 hb2
          have n1 := neq23r bi bt
          clear h hk hL hM hcb
          go_enter Try.func8, Try.ntmps8
          go_wp2_with fail
          refine (HC1.out _ V0.out.e0.got).mono ?_
          rintro e w1 ⟨rfl, hbl⟩
          dsimp only
          have V1 := hideIt (V0.out.keep hbl)
          clear hbl V0 HC1
          obtain ⟨c0, c1, c2, c3, d0, d1, d2, d3⟩ := V1.out.eight
          simp only at c0 c1 c2 c3 d0 d1 d2 d3
          go_wp2_with fail
          refine (HC2.out _ V1.out.e1.got).mono ?_
          rintro e w2 ⟨rfl, hbl⟩
          dsimp only
          have V2 := hideIt (V1.out.keep hbl)
          clear hbl V1 HC2 c0 c1 c2 c3 d0 d1 d2 d3
          obtain ⟨c0, c1, c2, c3, d0, d1, d2, d3⟩ := V2.out.eight
          simp only at c0 c1 c2 c3 d0 d1 d2 d3
          have B1 := hideIt V2.out.bel
          go_wp2_with fail
          refine (HL.out _).mono ?_
          rintro e w99 ⟨rfl, hbl⟩
          dsimp only
          have HB := hideIt (below_via B1.out hbl)
          clear hbl
          go_wp2
          go_ret
          exact ⟨rfl, HB.out⟩
      · unfold logV logA at *
        obtain ⟨bi, bt, l, cm⟩ := L
        obtain ⟨mbi, mbt, ml, mcm⟩ := M
        simp only at HC1 HC2 V0 hbb ⊢
        have n1 := neq23n hbb
        clear h hk hL hM hbb
        go_enter Try.func8, Try.ntmps8
        go_wp2_with fail
        refine (HC1.out _ V0.out.e0.got).mono ?_
        rintro e w1 ⟨rfl, hbl⟩
        dsimp only
        have V1 := hideIt (V0.out.keep hbl)
        clear hbl V0 HC1
        obtain ⟨c0, c1, c2, c3, d0, d1, d2, d3⟩ := V1.out.eight
        simp only at c0 c1 c2 c3 d0 d1 d2 d3
        go_wp2_with fail
        refine (HC2.out _ V1.out.e1.got).mono ?_
        rintro e w2 ⟨rfl, hbl⟩
        dsimp only
        have V2 := hideIt (V1.out.keep hbl)
        clear hbl V1 HC2 c0 c1 c2 c3 d0 d1 d2 d3
        obtain ⟨c0, c1, c2, c3, d0, d1, d2, d3⟩ := V2.out.eight
        simp only at c0 c1 c2 c3 d0 d1 d2 d3
        have B1 := hideIt V2.out.bel
        go_wp2_with fail
        refine (HL.out _).mono ?_
        rintro e w99 ⟨rfl, hbl⟩
        dsimp only
        have HB := hideIt (below_via B1.out hbl)
        clear hbl
        go_wp2
        go_ret
        exact ⟨rfl, HB.out⟩
end Go.Proofs.Ytonhoopmhkomcaa
