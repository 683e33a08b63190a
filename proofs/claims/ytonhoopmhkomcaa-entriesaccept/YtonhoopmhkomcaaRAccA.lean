/- A log that is sent entries: the document, where the mark is there. -/
import Derived.Test.YtonhoopmhkomcaaRAccC
namespace Go.Proofs.Ytonhoopmhkomcaa
open Go.RowKit
set_option maxHeartbeats 400000000 in
set_option maxRecDepth 100000 in
theorem rAcc_a (L : LogV) (g k : Value) (pi pt : Int) (es : List EntV) (cc : Int) (w : World) (h : EGot w g L.l) (hk : EGot w k es) (hes : (es.length + 400) * 32 ≤ 150000000000000) (hm : mayB L = true) (ha : argB pi pt es cc = true) (hbi : L.bi ≤ pi) (h5 : hasM L pi pt = true) : Calls Try.prog 25 #[logV L g, .agg #[.int .i64 pi, .int .i64 pt], k, .int .i64 cc] w (AccBack (accL L pi pt es cc) w) := by
  have T0 := hideIt (LMR.first w L g pi pt)
  have H1 := hideIt (fun wx (hx : Below w.heap.size w wx) => rCheck_is L g wx (h.keep hx))
  have HMK := hideIt (fun wx => rMark_is pi pt wx)
  have HWI := hideIt (fun wx => rwithin_is cc 0 1000000 wx)
  have HRW := hideIt (fun wx (hx : Below w.heap.size w wx) => rRows_is k es pt wx (hk.keep hx))
  have HCO := hideIt (fun wx (hx : Below w.heap.size w wx) => copy_is L g wx (h.keep hx))
  have HTP := hideIt (fun i wx (hx : Below w.heap.size w wx) => rTermAt_is L g i wx (h.keep hx))
  unfold LogBack at HCO
  unfold AccBack
  have hh := hideIt h
  have hkk := hideIt hk
  rw [show chkI L = 0 by simp [chkI, hm]] at H1
  have hin := mayB_in hm
  have ha2 := ha
  unfold argB at ha2
  simp only [Bool.and_eq_true] at ha2
  obtain ⟨⟨h2, h3⟩, h4⟩ := ha2
  rw [h2] at HMK
  rw [h3] at HWI
  rw [h4] at HRW
  obtain ⟨⟨hp1, hp2⟩, -⟩ := mkB_in h2
  have hE8 := hk.1
  have hcin : 0 ≤ cc ∧ cc ≤ 1000000 := of_decide_eq_true h3
  have hto : IntKind.i64.wrap (pi + (es.length : Int)) = pi + (es.length : Int) := by rw [IntKind.wrap_i64]; omega
  have HHT := hideIt (hasM_term hm pi pt)
  have hf := HHT.out
  rw [h5] at hf
  have HTQ := hideIt (HTP.out pi)
  have hte : termL L pi = (pt, true) := by
    revert hf
    generalize termL L pi = te
    obtain ⟨ta, is⟩ := te
    intro hf
    simp only at hf
    have := hf.symm
    simp only [Bool.and_eq_true, beq_iff_eq] at this
    rw [this.1, this.2]
  rw [hte] at HTQ
  clear HHT hf hte
  have hpp : (pt != pt) = false := by simp
  have hpl : pi ≤ lasI L := ((hasM_in h5).2)
  have hng : ¬ (L.bi ≤ pi ∧ hasM L pi pt = false) := (by rw [h5]; simp)
  have HALL := hideIt (fun hp => acc_all (cc := cc) hm ha hng hp)
  have HOLD := hideIt (fun t ht hp hc => acc_old (cc := cc) hm ha hng t ht hp hc)
  have HNEW := hideIt (fun t ht hp hc q hq => acc_new (cc := cc) hm ha hng hpl t ht hp hc q hq)
  have HPD := hideIt (passR_drop L es pi)
  have HPB := hideIt (passR_base L es pi)
  have HHT2 := hideIt (fun x t => hasM_term hm x t)
  have HROW := hideIt (fun D v wx (hD : EGot wx v D) => rRows_is v D L.bt wx hD)
  have hbb : 0 ≤ L.bi ∧ L.bi ≤ 1000000 := hin.1
  have hll : L.l.length ≤ 400 := hin.2.2.1
  have HEND : Hid (∀ D v wx, EGot wx v D → D.length ≤ 400 → Calls Try.prog 30 #[logV ⟨L.bi, L.bt, D, L.cm⟩ v] wx fun e w' => e = .returned (.int .i64 (L.bi + (D.length : Int))) ∧ w' = wx.alloc (.cells (logA ⟨L.bi, L.bt, D, L.cm⟩ v) 26)) := fun D v wx hD hl => rEnd_is ⟨L.bi, L.bt, D, L.cm⟩ v wx hD ⟨by simp only; omega, by simp only; omega, by simp only; omega⟩
  have hcap : ∃ a c, g = .slice a L.l.length c ∧ L.l.length ≤ c ∧ c ≤ 9223372036854775807 ∧ (a = none → L.l.length = 0) := by
    obtain ⟨_, a, c, e, hcc, hr⟩ := h
    unfold maxLen at hcc
    refine ⟨a, c, e, hcc.1, hcc.2, fun ha => ?_⟩
    rcases Nat.eq_zero_or_pos L.l.length with h0 | h0
    · exact h0
    · obtain ⟨b, off, e2, _⟩ := hr h0
      rw [ha] at e2
      cases e2
  obtain ⟨a, c, rfl, hc1, hc2, hc3⟩ := hcap
  have HQP : Hid (∀ q, q ≤ L.l.length → ∀ wx, Below w.heap.size w wx → EGot wx (.slice a q c) (L.l.take q)) := fun q hq wx hx => by
    have := (h.keep hx).part 0 q c (by omega) ⟨by omega, by unfold maxLen; omega⟩ a (fun _ b off e => by rw [e, Nat.zero_mul, Nat.add_zero])
    rwa [List.drop_zero] at this
  obtain ⟨ka, kc, e, h8, hr⟩ := hk.open
  subst e
  have hkc := hk.cap
  unfold maxLen at hkc
  have HKP : Hid (∀ t, t < es.length → ∀ b off, ka = some ⟨b, off, none⟩ → ∀ wx, Below w.heap.size w wx → EGot wx (.slice (some ⟨b, off + t * 3, none⟩) (es.length - t) (kc - t)) (es.drop t)) := fun t ht b off e wx hx => by
    subst e
    have := (hk.keep hx).part t (es.length - t) (kc - t) (by omega) ⟨by omega, by unfold maxLen; omega⟩ (some ⟨b, off + t * 3, none⟩) (fun _ b off e => by simp only [Option.some.injEq, Addr.mk.injEq] at e; rw [e.1, e.2.1])
    rwa [List.take_of_length_le (by rw [List.length_drop]; omega)] at this
  have HH := hideIt hr
  have HIN := hideIt (And.intro hin.2.2.2.1 hin.2.2.2.2.1)
  generalize accL L pi pt es cc = R at *
  unfold logV logA at *
  obtain ⟨bi, bt, l, cm⟩ := L
  simp only at H1 T0 HCO HTP HEND HIN HROW HQP HALL HOLD HNEW HPD hbi hbb hll hc1 hc3 hpl ⊢
  clear h hk hh hkk hm hin ha h2 h3 h4 hng hr
  clear h5
  (try simp only at HTQ)
  go_enter Try.func25, Try.ntmps25
  go_wp2_with fail
  refine (H1.out _ T0.out.bel).mono ?_
  rintro e w1 ⟨rfl, hbl⟩
  dsimp only
  have T1 := hideIt (T0.out.keep hbl)
  obtain ⟨c0, c1, c2, c3, d0, d1⟩ := T1.out.cells
  simp only at c0 c1 c2 c3
  clear hbl T0 H1
  go_wp2_with fail
  refine (HMK.out _).mono ?_
  rintro e w2 ⟨rfl, hbl⟩
  dsimp only
  have T2 := hideIt (T1.out.keep hbl)
  clear hbl T1 c0 c1 c2 c3 d0 d1
  obtain ⟨c0, c1, c2, c3, d0, d1⟩ := T2.out.cells
  simp only at c0 c1 c2 c3
  go_wp2_with fail
  refine (HWI.out _).mono ?_
  rintro e w2 ⟨rfl, rfl⟩
  dsimp only
  go_wp2_with fail
  refine (HRW.out _ T2.out.bel).mono ?_
  rintro e w3 ⟨rfl, hbl⟩
  dsimp only
  have T3 := hideIt (T2.out.keep hbl)
  clear hbl T2 c0 c1 c2 c3 d0 d1
  obtain ⟨c0, c1, c2, c3, d0, d1⟩ := T3.out.cells
  simp only at c0 c1 c2 c3
  clear HMK HWI HRW
  go_wp2_with fail
  refine (HCO.out _ T3.out.bel).mono ?_
  rintro e w4 ⟨gn, rfl, ho, hbl⟩
  dsimp only
  obtain ⟨na, nc, rfl⟩ := own_len ho
  have T4 := hideIt (T3.out.keep (below_via hbl (below1 w4 (.cells #[.int .i64 bi, .int .i64 bt, .slice na l.length nc, .int .i64 cm] 26))))
  have X4 := hideIt (heap_alloc_new w4 (.cells #[.int .i64 bi, .int .i64 bt, .slice na l.length nc, .int .i64 cm] 26))
  have O4 := hideIt (own_base (own_keep ho (below1 w4 (.cells #[.int .i64 bi, .int .i64 bt, .slice na l.length nc, .int .i64 cm] 26))) T3.out.size)
  have S4 : Hid (w.heap.size + 3 ≤ w4.heap.size) := Nat.le_trans T3.out.size hbl.size
  clear ho hbl HCO T3 c0 c1 c2 c3 d0 d1
  go_upto_region 6 with fail
  generalize w4.alloc (.cells #[.int .i64 bi, .int .i64 bt, .slice na l.length nc, .int .i64 cm] 26) = w5 at *
  generalize w4.heap.size = k4 at *
  obtain ⟨c0, c1, c2, c3, d0, d1⟩ := T4.out.cells
  simp only at c0 c1 c2 c3
  go_wp2_with fail
  refine (HTQ.out _ T4.out.bel).mono ?_
  rintro e w6 ⟨rfl, hbl⟩
  dsimp only
  have T6 := hideIt (T4.out.keep hbl)
  have X6 : Hid (w6.heap[k4]? = some (.cells #[.int .i64 bi, .int .i64 bt, .slice na l.length nc, .int .i64 cm] 26 (0, 0))) := (hbl.block k4 ((Array.getElem?_eq_some_iff.1 X4.out).1)).trans X4.out
  have O6 := hideIt (own_keep O4.out hbl)
  clear hbl T4 X4 O4 c0 c1 c2 c3 d0 d1 HTQ
  obtain ⟨c0, c1, c2, c3, d0, d1⟩ := T6.out.cells
  simp only at c0 c1 c2 c3
  go_upto_region 12 with fail
  clear c0 c1 c2 c3 d0 d1
  go_loopw [16] (fun v wr => ∃ t : Nat, v = .int .i64 t ∧ t ≤ es.length ∧ Hid (passR ⟨bi, bt, l, cm⟩ pi es = t + passR ⟨bi, bt, l, cm⟩ (pi + t) (es.drop t) ∧ Below w6.heap.size w6 wr)) (fun v _ => es.length - (intOf v).toNat)
  case atStart => exact ⟨0, rfl, Nat.zero_le _, hideIt ⟨by simp, Below.refl _ _⟩⟩
  case round =>
    obtain ⟨t, rfl, ht, HR⟩ := hrel
    have T7 := hideIt (T6.out.keep HR.out.2)
    have X7 : Hid (wr.heap[k4]? = some (.cells #[.int .i64 bi, .int .i64 bt, .slice na l.length nc, .int .i64 cm] 26 (0, 0))) := (HR.out.2.block k4 ((Array.getElem?_eq_some_iff.1 X6.out).1)).trans X6.out
    have O7 := hideIt (own_keep O6.out HR.out.2)
    obtain ⟨c0, c1, c2, c3, d0, d1⟩ := T7.out.cells
    simp only at c0 c1 c2 c3
    clear c0 c1 c2 c3 d0 d1
    clear T6 X6 O6
    by_cases hlt : t < es.length
    · have hltI : (t : Int) < (es.length : Int) := by omega
      have ht0 : (0 : Int) ≤ (t : Int) := by omega
      obtain ⟨b, off, rfl, hbl, q0, q1, q2⟩ := HH.out t hlt
      have HBB := hideIt hbl
      have HRD := hideIt (HPD.out t hlt)
      replace HKP := hideIt (HKP.out t hlt b off rfl)
      generalize es[t] = en at *
      obtain ⟨et, ek, ex⟩ := en
      simp only at q0 HRD
      have Q0 := hideIt q0
      obtain ⟨ix, hix⟩ : ∃ ix : Int, ix = pi + t + 1 := ⟨_, rfl⟩
      rw [← hix] at HRD
      have HIX := hideIt hix
      have hw1 : IntKind.i64.wrap (pi + 1) = pi + 1 := by rw [IntKind.wrap_i64]; omega
      have hw2 : IntKind.i64.wrap (pi + 1 + (t : Int)) = ix := by rw [IntKind.wrap_i64]; omega
      have hw3 : IntKind.i64.wrap ((t : Int) + 1) = (t : Int) + 1 := by rw [IntKind.wrap_i64]; omega
      clear q0 q1 q2 hbl hix HH HPD
      by_cases h1 : ix ≤ bi
      · have HF : Hid (passR ⟨bi, bt, l, cm⟩ pi es = (t + 1 : Nat) + passR ⟨bi, bt, l, cm⟩ (pi + (t + 1 : Nat)) (es.drop (t + 1))) := by
          show _ = _
          rw [HR.out.1, HRD.out, if_pos (.inl h1), show pi + ((t + 1 : Nat) : Int) = ix by have := HIX.out; omega]
          omega
        have B7 := hideIt HR.out.2
        clear HR HRD HALL HOLD HNEW HPB HHT2 HQP HKP HTP HEND HROW HIN Q0
        have y0 : wr.cell? ⟨k4, 0, none⟩ = some (.int .i64 bi) := by rw [cell_at X7.out]; rfl
        have y1 : wr.cell? ⟨k4, 1, none⟩ = some (.int .i64 bt) := by rw [cell_at X7.out]; rfl
        have y2 : wr.cell? ⟨k4, 2, none⟩ = some (.slice na l.length nc) := by rw [cell_at X7.out]; rfl
        have y3 : wr.cell? ⟨k4, 3, none⟩ = some (.int .i64 cm) := by rw [cell_at X7.out]; rfl
        obtain ⟨c0, c1, c2, c3, d0, d1⟩ := T7.out.cells
        simp only at c0 c1 c2 c3
        have hk1 : k4 < wr.heap.size := (Array.getElem?_eq_some_iff.1 X7.out).1
        have hs0 := T7.out.size
        have hs1 : w.heap.size < wr.heap.size := by omega
        have hs2 : w.heap.size + 1 < wr.heap.size := by omega
        clear hs0
        clear T7 X7 O7
        go_wp2
        go_roundw
        case rel => exact ⟨t + 1, by go_num, by omega, hideIt ⟨HF.out, B7.out⟩⟩
        case measure => simp [intOf]; omega
      · have h1I : ¬ (ix ≤ bi) := h1
        replace HTP := hideIt (HTP.out ix)
        have HHM := hideIt (HHT2.out ix et)
        generalize termL ⟨bi, bt, l, cm⟩ ix = te at *
        obtain ⟨ta, is⟩ := te
        simp only at HTP HHM
        have y0 : wr.cell? ⟨k4, 0, none⟩ = some (.int .i64 bi) := by rw [cell_at X7.out]; rfl
        have y1 : wr.cell? ⟨k4, 1, none⟩ = some (.int .i64 bt) := by rw [cell_at X7.out]; rfl
        have y2 : wr.cell? ⟨k4, 2, none⟩ = some (.slice na l.length nc) := by rw [cell_at X7.out]; rfl
        have y3 : wr.cell? ⟨k4, 3, none⟩ = some (.int .i64 cm) := by rw [cell_at X7.out]; rfl
        obtain ⟨c0, c1, c2, c3, d0, d1⟩ := T7.out.cells
        simp only at c0 c1 c2 c3
        have hk1 : k4 < wr.heap.size := (Array.getElem?_eq_some_iff.1 X7.out).1
        have hs0 := T7.out.size
        have hs1 : w.heap.size < wr.heap.size := by omega
        have hs2 : w.heap.size + 1 < wr.heap.size := by omega
        clear hs0
        by_cases hse : is = true ∧ ta = et
        · obtain ⟨hs1', hs2'⟩ := hse
          subst hs1' hs2'
          have HF : Hid (passR ⟨bi, bt, l, cm⟩ pi es = (t + 1 : Nat) + passR ⟨bi, bt, l, cm⟩ (pi + (t + 1 : Nat)) (es.drop (t + 1))) := by
            show _ = _
            rw [HR.out.1, HRD.out, if_pos (.inr (by rw [HHM.out]; simp)), show pi + ((t + 1 : Nat) : Int) = ix by have := HIX.out; omega]
            omega
          have htt : (ta == ta) = true := by simp
          clear HRD HHM HALL HOLD HNEW HPB HHT2 HQP HKP HEND HROW HIN
          go_wp2_with fail
          refine (HTP.out _ T7.out.bel).mono ?_
          rintro e w8 ⟨rfl, hbl⟩
          dsimp only
          have B8 := hideIt (below_via HR.out.2 hbl)
          have e0 := ((T7.out.keep hbl).bel.cell (p := ⟨b, off + t * 3, none⟩) HBB.out).trans Q0.out
          clear hbl HR T7 X7 O7 c0 c1 c2 c3 d0 d1 y0 y1 y2 y3 hk1 hs1 hs2 HTP Q0
          go_wp2
          go_roundw
          case rel => exact ⟨t + 1, by go_num, by omega, hideIt ⟨HF.out, B8.out⟩⟩
          case measure => simp [intOf]; omega
        · have HF : Hid (passR ⟨bi, bt, l, cm⟩ pi es = t) := by
            show _ = _
            rw [HR.out.1, HRD.out, if_neg (fun hc => by
              rcases hc with hc | hc
              · exact h1 hc
              · rw [HHM.out] at hc
                simp only [Bool.and_eq_true, beq_iff_eq] at hc
                exact hse hc)]
            rfl
          clear HRD HHM HALL HHT2 HIN HR HPB
          go_wp2_with fail
          refine (HTP.out _ T7.out.bel).mono ?_
          rintro e w8 ⟨rfl, hbl⟩
          dsimp only
          have T8 := hideIt (T7.out.keep hbl)
          have X8 : Hid (w8.heap[k4]? = some (.cells #[.int .i64 bi, .int .i64 bt, .slice na l.length nc, .int .i64 cm] 26 (0, 0))) := (hbl.block k4 hk1).trans X7.out
          have e0 := (T8.out.bel.cell (p := ⟨b, off + t * 3, none⟩) HBB.out).trans Q0.out
          clear hbl T7 X7 O7 c0 c1 c2 c3 d0 d1 y0 y1 y2 y3 hk1 hs1 hs2 HTP Q0
          go_upto_region 17 with fail
          go_cut [100] from 91 to 100 (fun v wx => v = .bool false ∧ w8 = wx)
          case first =>
            cases is
            · go_wp2
              go_meet
              exact ⟨rfl, rfl⟩
            · have hne : (ta == et) = false := beq_eq_false_iff_ne.2 (fun h => hse ⟨rfl, h⟩)
              go_wp2
              go_meet
              exact ⟨rfl, rfl⟩
          case rest =>
          obtain ⟨rfl, rfl⟩ := hcut
          clear hse
          have y0 : w8.cell? ⟨k4, 0, none⟩ = some (.int .i64 bi) := by rw [cell_at X8.out]; rfl
          have y1 : w8.cell? ⟨k4, 1, none⟩ = some (.int .i64 bt) := by rw [cell_at X8.out]; rfl
          have y2 : w8.cell? ⟨k4, 2, none⟩ = some (.slice na l.length nc) := by rw [cell_at X8.out]; rfl
          have y3 : w8.cell? ⟨k4, 3, none⟩ = some (.int .i64 cm) := by rw [cell_at X8.out]; rfl
          obtain ⟨c0, c1, c2, c3, d0, d1⟩ := T8.out.cells
          simp only at c0 c1 c2 c3
          have hk1 : k4 < w8.heap.size := (Array.getElem?_eq_some_iff.1 X8.out).1
          have hs0 := T8.out.size
          have hs1 : w.heap.size < w8.heap.size := by omega
          have hs2 : w.heap.size + 1 < w8.heap.size := by omega
          clear hs0
          by_cases hcx : ix ≤ cm
          · have HE1 : Hid (R = (zL, 0, false, 80)) := HOLD.out t hlt HF.out (by have := HIX.out; omega)
            clear HOLD HNEW HQP HKP HEND HROW X8
            obtain ⟨z0, z1, z2, z3, zf⟩ := T8.out.zero
            have HP := T8.out.put (.int .i64 0) (.int .i64 0) (.slice none 0 0) (.int .i64 0)
            obtain ⟨e1, e2⟩ := HP.out
            clear HP T8
            go_wp2
            try rw [Exit.noGoto_ret]
            revert e1 e2
            generalize (World.setCell _ ⟨w.heap.size + 2, 3, none⟩ _) = W
            intro e1 e2
            exact bodyPost_ret (v := .tuple #[logV zL (.slice none 0 0), .int .i64 0, .bool false, .int .i64 80]) (by simp [results, Try.results25, go_sem, cell_at e1, logV, logA, zL]) rfl ⟨_, by rw [HE1.out]; rfl, by rw [HE1.out]; exact own_nil _ _, e2⟩
          · have hcI : ¬ (ix ≤ cm) := hcx
            obtain ⟨q, hq⟩ : ∃ q : Nat, bi + (q : Int) = pi + t := by
              have := HIX.out
              exact ⟨(pi + t - bi).toNat, by omega⟩
            obtain ⟨hql, hE⟩ := HNEW.out t hlt HF.out (by have := HIX.out; omega) q hq
            have HE := hideIt hE
            have hwa : IntKind.i64.wrap (ix - bi) = ix - bi := by have := HIX.out; rw [IntKind.wrap_i64]; omega
            have hwb : IntKind.i64.wrap (ix - bi - 1) = (q : Int) := by have := HIX.out; rw [IntKind.wrap_i64]; omega
            have qq0 : (0 : Int) ≤ (q : Int) := by omega
            have qq1 : (q : Int) ≤ (c : Int) := by omega
            have hlq : (l.take q).length = q := by rw [List.length_take]; omega
            have hld : (es.drop t).length = es.length - t := List.length_drop
            have TA := hideIt (T8.out.setO (b := k4) (j := 2) S4.out (.slice none 0 0)).drew
            have XA : Hid ((w8.setCell ⟨k4, 2, none⟩ (.slice none 0 0)).drew.heap[k4]? = some (.cells #[.int .i64 bi, .int .i64 bt, .slice none 0 0, .int .i64 cm] 26 (0, 0))) := heap_set X8.out 2 (.slice none 0 0)
            obtain ⟨v1, w9, hrun, how, hgr⟩ := run_app (w8.setCell ⟨k4, 2, none⟩ (.slice none 0 0)).drew 24 (w.heap.size + 3) (.slice none 0 0) [] (l.take q) (.slice a q c) TA.out.size (own_nil _ _) (HQP.out q hql _ TA.out.bel) (by rw [hlq, List.length_nil]; omega)
            have T9 := hideIt (TA.out.grow (own_nil _ _) (Nat.le_refl _) hgr)
            have X9 := hideIt (nblk_grow XA.out (own_nil _ (w.heap.size + 3)) hgr)
            rw [List.nil_append] at how
            obtain ⟨va, vc, rfl⟩ := own_len how
            rw [hlq] at how hrun
            have HRUN := hideIt hrun
            have T10 := hideIt (T9.out.setO (b := k4) (j := 2) S4.out (.slice va q vc))
            have X10 := hideIt (heap_set X9.out 2 (.slice va q vc))
            have O10 := hideIt (own_nei (j := 2) (u := .slice va q vc) how X9.out)
            have xf : ∀ j, w8.frozen? ⟨k4, j, none⟩ = false := fun j => free_at X8.out j
            clear hE hq hrun how hgr HNEW HOLD HF HIX hcx
            go_upto_region 21 with fail
            clear c0 c1 c2 c3 d0 d1 y0 y1 y2 y3 hk1 hs1 hs2 xf X8 T8 e0
            generalize w8.setCell ⟨k4, 2, none⟩ (.slice none 0 0) = wA at *
            obtain ⟨c0, c1, c2, c3, d0, d1⟩ := TA.out.cells
            simp only at c0 c1 c2 c3
            have y2 : wA.drew.cell? ⟨k4, 2, none⟩ = some (.slice none 0 0) := by rw [cell_at XA.out]; rfl
            have y9 : w9.cell? ⟨k4, 2, none⟩ = some (.slice none 0 0) := by rw [cell_at X9.out]; rfl
            have f9 : ∀ j, w9.frozen? ⟨k4, j, none⟩ = false := fun j => free_at X9.out j
            go_cut [118] from 107 to 119 (fun _ wx => wx = w9.setCell ⟨k4, 2, none⟩ (.slice va q vc))
            case first =>
              go_region_law (refine step_run rfl _ _ 24 24 rfl rfl rfl rfl HRUN.out ?_)
              all_goals go_wp2_with fail
              all_goals go_meet
              all_goals rfl
            case rest =>
            subst hcut
            clear c0 c1 c2 c3 d0 d1 y2 y9 f9 HRUN TA XA T9 X9
            generalize w9.setCell ⟨k4, 2, none⟩ (.slice va q vc) = w10 at *
            have TB := hideIt T10.out.drew
            have O10' : Hid (w10.drew.ownsRow (w.heap.size + 3) 40 3 (.slice va q vc) (l.take q).length (entC (l.take q))) := by
              show World.ownsRow _ _ _ _ _ _ _
              rw [hlq]
              exact own_keep O10.out (Below.refl _ w10).drew
            have hbd : (q + (es.length - t)) * 32 ≤ 150000000000000 := by omega
            obtain ⟨v2, w11, hrun, how, hgr⟩ := run_app w10.drew 24 (w.heap.size + 3) (.slice va q vc) (l.take q) (es.drop t) (.slice (some ⟨b, off + t * 3, none⟩) (es.length - t) (kc - t)) TB.out.size O10'.out (HKP.out _ TB.out.bel) (by rw [hlq, hld]; exact hbd)
            have T11 := hideIt (TB.out.grow O10'.out (Nat.le_refl _) hgr)
            have X11 := hideIt (nblk_grow (wx := w10.drew) X10.out O10'.out hgr)
            have HD8 : Hid ((l.take q ++ es.drop t).length * 32 ≤ 150000000000000) := by
              show _ ≤ _
              rw [List.length_append, hlq, hld]
              exact hbd
            generalize l.take q ++ es.drop t = D at *
            obtain ⟨ra, rc, rfl⟩ := own_len how
            have HRUN := hideIt hrun
            have T12 := hideIt (T11.out.setO (b := k4) (j := 2) S4.out (.slice ra D.length rc))
            have X12 := hideIt (heap_set X11.out 2 (.slice ra D.length rc))
            have O12 := hideIt (own_nei (j := 2) (u := .slice ra D.length rc) how X11.out)
            have n1 : (t : Int) ≤ (es.length : Int) := by omega
            have n2 : (es.length : Int) ≤ (kc : Int) := by omega
            have n3 : ¬ (kc = t) := by omega
            have y2 : w10.cell? ⟨k4, 2, none⟩ = some (.slice va q vc) := by rw [cell_at X10.out]; rfl
            have y9 : w11.cell? ⟨k4, 2, none⟩ = some (.slice va q vc) := by rw [cell_at X11.out]; rfl
            have f9 : ∀ j, w11.frozen? ⟨k4, j, none⟩ = false := fun j => free_at X11.out j
            have hk1 : k4 < w10.heap.size := (Array.getElem?_eq_some_iff.1 X10.out).1
            clear hrun how hgr O10 O10' hbd hlq hld HQP HKP TB
            go_upto_region 22 with fail
            go_cut [125] from 120 to 126 (fun _ wx => wx = w11.setCell ⟨k4, 2, none⟩ (.slice ra D.length rc))
            case first =>
              go_region_law (refine step_run rfl _ _ 24 24 rfl rfl rfl rfl HRUN.out ?_)
              all_goals go_wp2_with fail
              all_goals go_meet
              all_goals rfl
            case rest =>
            subst hcut
            clear y2 y9 f9 hk1 HRUN T10 X10 T11 X11
            generalize w11.setCell ⟨k4, 2, none⟩ (.slice ra D.length rc) = w12 at *
            cases hro : rowsB D bt
            · have HE1 : Hid (R = (zL, 0, false, 80)) := by
                show _ = _
                rw [HE.out]
                unfold endL
                rw [if_pos hro]
              clear HE HEND
              have E9 := hideIt (own_egot O12.out HD8.out)
              replace HROW := hideIt (HROW.out D _ _ E9.out)
              rw [hro] at HROW
              clear hro
              have y0 : w12.cell? ⟨k4, 0, none⟩ = some (.int .i64 bi) := by rw [cell_at X12.out]; rfl
              have y1 : w12.cell? ⟨k4, 1, none⟩ = some (.int .i64 bt) := by rw [cell_at X12.out]; rfl
              have y2 : w12.cell? ⟨k4, 2, none⟩ = some (.slice ra D.length rc) := by rw [cell_at X12.out]; rfl
              have y3 : w12.cell? ⟨k4, 3, none⟩ = some (.int .i64 cm) := by rw [cell_at X12.out]; rfl
              obtain ⟨c0, c1, c2, c3, d0, d1⟩ := T12.out.cells
              simp only at c0 c1 c2 c3
              have hk1 : k4 < w12.heap.size := (Array.getElem?_eq_some_iff.1 X12.out).1
              have hs0 := T12.out.size
              have hs1 : w.heap.size < w12.heap.size := by omega
              have hs2 : w.heap.size + 1 < w12.heap.size := by omega
              clear hs0
              go_wp2_with fail
              refine HROW.out.mono ?_
              rintro e w20 ⟨rfl, hbl⟩
              dsimp only
              have T20 := hideIt (T12.out.keep hbl)
              have X20 : Hid (w20.heap[k4]? = some (.cells #[.int .i64 bi, .int .i64 bt, .slice ra D.length rc, .int .i64 cm] 26 (0, 0))) := (hbl.block k4 ((Array.getElem?_eq_some_iff.1 X12.out).1)).trans X12.out
              have O20 := hideIt (own_keep O12.out hbl)
              clear hbl HROW E9 T12 X12 O12 y0 y1 y2 y3 c0 c1 c2 c3 d0 d1 hk1 hs1 hs2
              have y0 : w20.cell? ⟨k4, 0, none⟩ = some (.int .i64 bi) := by rw [cell_at X20.out]; rfl
              have y1 : w20.cell? ⟨k4, 1, none⟩ = some (.int .i64 bt) := by rw [cell_at X20.out]; rfl
              have y2 : w20.cell? ⟨k4, 2, none⟩ = some (.slice ra D.length rc) := by rw [cell_at X20.out]; rfl
              have y3 : w20.cell? ⟨k4, 3, none⟩ = some (.int .i64 cm) := by rw [cell_at X20.out]; rfl
              obtain ⟨c0, c1, c2, c3, d0, d1⟩ := T20.out.cells
              simp only at c0 c1 c2 c3
              have hk1 : k4 < w20.heap.size := (Array.getElem?_eq_some_iff.1 X20.out).1
              have hs0 := T20.out.size
              have hs1 : w.heap.size < w20.heap.size := by omega
              have hs2 : w.heap.size + 1 < w20.heap.size := by omega
              clear hs0
              obtain ⟨z0, z1, z2, z3, zf⟩ := T20.out.zero
              have HP := T20.out.put (.int .i64 0) (.int .i64 0) (.slice none 0 0) (.int .i64 0)
              obtain ⟨e1, e2⟩ := HP.out
              clear HP T20
              go_wp2
              try rw [Exit.noGoto_ret]
              revert e1 e2
              generalize (World.setCell _ ⟨w.heap.size + 2, 3, none⟩ _) = W
              intro e1 e2
              exact bodyPost_ret (v := .tuple #[logV zL (.slice none 0 0), .int .i64 0, .bool false, .int .i64 80]) (by simp [results, Try.results25, go_sem, cell_at e1, logV, logA, zL]) rfl ⟨_, by rw [HE1.out]; rfl, by rw [HE1.out]; exact own_nil _ _, e2⟩
            · by_cases h4 : 400 < D.length
              · have HE1 : Hid (R = (zL, 0, false, 2)) := by
                  show _ = _
                  rw [HE.out]
                  unfold endL
                  rw [if_neg (by rw [hro]; simp), if_pos h4]
                have h4I : (400 : Int) < (D.length : Int) := by omega
                clear HE HEND
                have E9 := hideIt (own_egot O12.out HD8.out)
                replace HROW := hideIt (HROW.out D _ _ E9.out)
                rw [hro] at HROW
                clear hro
                have y0 : w12.cell? ⟨k4, 0, none⟩ = some (.int .i64 bi) := by rw [cell_at X12.out]; rfl
                have y1 : w12.cell? ⟨k4, 1, none⟩ = some (.int .i64 bt) := by rw [cell_at X12.out]; rfl
                have y2 : w12.cell? ⟨k4, 2, none⟩ = some (.slice ra D.length rc) := by rw [cell_at X12.out]; rfl
                have y3 : w12.cell? ⟨k4, 3, none⟩ = some (.int .i64 cm) := by rw [cell_at X12.out]; rfl
                obtain ⟨c0, c1, c2, c3, d0, d1⟩ := T12.out.cells
                simp only at c0 c1 c2 c3
                have hk1 : k4 < w12.heap.size := (Array.getElem?_eq_some_iff.1 X12.out).1
                have hs0 := T12.out.size
                have hs1 : w.heap.size < w12.heap.size := by omega
                have hs2 : w.heap.size + 1 < w12.heap.size := by omega
                clear hs0
                go_wp2_with fail
                refine HROW.out.mono ?_
                rintro e w20 ⟨rfl, hbl⟩
                dsimp only
                have T20 := hideIt (T12.out.keep hbl)
                have X20 : Hid (w20.heap[k4]? = some (.cells #[.int .i64 bi, .int .i64 bt, .slice ra D.length rc, .int .i64 cm] 26 (0, 0))) := (hbl.block k4 ((Array.getElem?_eq_some_iff.1 X12.out).1)).trans X12.out
                have O20 := hideIt (own_keep O12.out hbl)
                clear hbl HROW E9 T12 X12 O12 y0 y1 y2 y3 c0 c1 c2 c3 d0 d1 hk1 hs1 hs2
                have y0 : w20.cell? ⟨k4, 0, none⟩ = some (.int .i64 bi) := by rw [cell_at X20.out]; rfl
                have y1 : w20.cell? ⟨k4, 1, none⟩ = some (.int .i64 bt) := by rw [cell_at X20.out]; rfl
                have y2 : w20.cell? ⟨k4, 2, none⟩ = some (.slice ra D.length rc) := by rw [cell_at X20.out]; rfl
                have y3 : w20.cell? ⟨k4, 3, none⟩ = some (.int .i64 cm) := by rw [cell_at X20.out]; rfl
                obtain ⟨c0, c1, c2, c3, d0, d1⟩ := T20.out.cells
                simp only at c0 c1 c2 c3
                have hk1 : k4 < w20.heap.size := (Array.getElem?_eq_some_iff.1 X20.out).1
                have hs0 := T20.out.size
                have hs1 : w.heap.size < w20.heap.size := by omega
                have hs2 : w.heap.size + 1 < w20.heap.size := by omega
                clear hs0
                obtain ⟨z0, z1, z2, z3, zf⟩ := T20.out.zero
                have HP := T20.out.put (.int .i64 0) (.int .i64 0) (.slice none 0 0) (.int .i64 0)
                obtain ⟨e1, e2⟩ := HP.out
                clear HP T20
                go_wp2
                try rw [Exit.noGoto_ret]
                revert e1 e2
                generalize (World.setCell _ ⟨w.heap.size + 2, 3, none⟩ _) = W
                intro e1 e2
                exact bodyPost_ret (v := .tuple #[logV zL (.slice none 0 0), .int .i64 0, .bool false, .int .i64 2]) (by simp [results, Try.results25, go_sem, cell_at e1, logV, logA, zL]) rfl ⟨_, by rw [HE1.out]; rfl, by rw [HE1.out]; exact own_nil _ _, e2⟩
              · have h4I : ¬ ((400 : Int) < (D.length : Int)) := by omega
                replace HEND := hideIt (fun v wx hD => HEND.out D v wx hD (by omega))
                by_cases h5 : 1000000 < bi + (D.length : Int)
                · have HE1 : Hid (R = (zL, 0, false, 2)) := by
                    show _ = _
                    rw [HE.out]
                    unfold endL
                    rw [if_neg (by rw [hro]; simp), if_neg h4, if_pos h5]
                  clear HE
                  have E9 := hideIt (own_egot O12.out HD8.out)
                  replace HROW := hideIt (HROW.out D _ _ E9.out)
                  rw [hro] at HROW
                  clear hro
                  have y0 : w12.cell? ⟨k4, 0, none⟩ = some (.int .i64 bi) := by rw [cell_at X12.out]; rfl
                  have y1 : w12.cell? ⟨k4, 1, none⟩ = some (.int .i64 bt) := by rw [cell_at X12.out]; rfl
                  have y2 : w12.cell? ⟨k4, 2, none⟩ = some (.slice ra D.length rc) := by rw [cell_at X12.out]; rfl
                  have y3 : w12.cell? ⟨k4, 3, none⟩ = some (.int .i64 cm) := by rw [cell_at X12.out]; rfl
                  obtain ⟨c0, c1, c2, c3, d0, d1⟩ := T12.out.cells
                  simp only at c0 c1 c2 c3
                  have hk1 : k4 < w12.heap.size := (Array.getElem?_eq_some_iff.1 X12.out).1
                  have hs0 := T12.out.size
                  have hs1 : w.heap.size < w12.heap.size := by omega
                  have hs2 : w.heap.size + 1 < w12.heap.size := by omega
                  clear hs0
                  go_wp2_with fail
                  refine HROW.out.mono ?_
                  rintro e w20 ⟨rfl, hbl⟩
                  dsimp only
                  have T20 := hideIt (T12.out.keep hbl)
                  have X20 : Hid (w20.heap[k4]? = some (.cells #[.int .i64 bi, .int .i64 bt, .slice ra D.length rc, .int .i64 cm] 26 (0, 0))) := (hbl.block k4 ((Array.getElem?_eq_some_iff.1 X12.out).1)).trans X12.out
                  have O20 := hideIt (own_keep O12.out hbl)
                  clear hbl HROW E9 T12 X12 O12 y0 y1 y2 y3 c0 c1 c2 c3 d0 d1 hk1 hs1 hs2
                  have y0 : w20.cell? ⟨k4, 0, none⟩ = some (.int .i64 bi) := by rw [cell_at X20.out]; rfl
                  have y1 : w20.cell? ⟨k4, 1, none⟩ = some (.int .i64 bt) := by rw [cell_at X20.out]; rfl
                  have y2 : w20.cell? ⟨k4, 2, none⟩ = some (.slice ra D.length rc) := by rw [cell_at X20.out]; rfl
                  have y3 : w20.cell? ⟨k4, 3, none⟩ = some (.int .i64 cm) := by rw [cell_at X20.out]; rfl
                  obtain ⟨c0, c1, c2, c3, d0, d1⟩ := T20.out.cells
                  simp only at c0 c1 c2 c3
                  have hk1 : k4 < w20.heap.size := (Array.getElem?_eq_some_iff.1 X20.out).1
                  have hs0 := T20.out.size
                  have hs1 : w.heap.size < w20.heap.size := by omega
                  have hs2 : w.heap.size + 1 < w20.heap.size := by omega
                  clear hs0
                  go_wp2_with fail
                  refine (HEND.out _ _ (own_egot O20.out HD8.out)).mono ?_
                  rintro e w21 ⟨rfl, rfl⟩
                  dsimp only
                  have T21 := hideIt (T20.out.keep (below1 w20 (.cells #[.int .i64 bi, .int .i64 bt, .slice ra D.length rc, .int .i64 cm] 26)))
                  clear c0 c1 c2 c3 d0 d1 y0 y1 y2 y3 X20 O20 T20 HEND hk1 hs1 hs2
                  generalize w20.alloc (.cells #[.int .i64 bi, .int .i64 bt, .slice ra D.length rc, .int .i64 cm] 26) = w21 at *
                  obtain ⟨z0, z1, z2, z3, zf⟩ := T21.out.zero
                  have HP := T21.out.put (.int .i64 0) (.int .i64 0) (.slice none 0 0) (.int .i64 0)
                  obtain ⟨e1, e2⟩ := HP.out
                  clear HP T21
                  go_wp2
                  try rw [Exit.noGoto_ret]
                  revert e1 e2
                  generalize (World.setCell _ ⟨w.heap.size + 2, 3, none⟩ _) = W
                  intro e1 e2
                  exact bodyPost_ret (v := .tuple #[logV zL (.slice none 0 0), .int .i64 0, .bool false, .int .i64 2]) (by simp [results, Try.results25, go_sem, cell_at e1, logV, logA, zL]) rfl ⟨_, by rw [HE1.out]; rfl, by rw [HE1.out]; exact own_nil _ _, e2⟩
                · have HE1 : Hid (R = (⟨bi, bt, D, max cm (min cc (pi + (es.length : Int)))⟩, max (pi + (es.length : Int)) bi, true, 0)) := by
                    show _ = _
                    rw [HE.out]
                    unfold endL
                    rw [if_neg (by rw [hro]; simp), if_neg h4, if_neg h5]
                  have h4I : ¬ ((400 : Int) < (D.length : Int)) := by omega
                  have h5I : ¬ ((1000000 : Int) < bi + (D.length : Int)) := h5
                  clear HE
                  have E9 := hideIt (own_egot O12.out HD8.out)
                  replace HROW := hideIt (HROW.out D _ _ E9.out)
                  rw [hro] at HROW
                  clear hro
                  have y0 : w12.cell? ⟨k4, 0, none⟩ = some (.int .i64 bi) := by rw [cell_at X12.out]; rfl
                  have y1 : w12.cell? ⟨k4, 1, none⟩ = some (.int .i64 bt) := by rw [cell_at X12.out]; rfl
                  have y2 : w12.cell? ⟨k4, 2, none⟩ = some (.slice ra D.length rc) := by rw [cell_at X12.out]; rfl
                  have y3 : w12.cell? ⟨k4, 3, none⟩ = some (.int .i64 cm) := by rw [cell_at X12.out]; rfl
                  obtain ⟨c0, c1, c2, c3, d0, d1⟩ := T12.out.cells
                  simp only at c0 c1 c2 c3
                  have hk1 : k4 < w12.heap.size := (Array.getElem?_eq_some_iff.1 X12.out).1
                  have hs0 := T12.out.size
                  have hs1 : w.heap.size < w12.heap.size := by omega
                  have hs2 : w.heap.size + 1 < w12.heap.size := by omega
                  clear hs0
                  go_wp2_with fail
                  refine HROW.out.mono ?_
                  rintro e w20 ⟨rfl, hbl⟩
                  dsimp only
                  have T20 := hideIt (T12.out.keep hbl)
                  have X20 : Hid (w20.heap[k4]? = some (.cells #[.int .i64 bi, .int .i64 bt, .slice ra D.length rc, .int .i64 cm] 26 (0, 0))) := (hbl.block k4 ((Array.getElem?_eq_some_iff.1 X12.out).1)).trans X12.out
                  have O20 := hideIt (own_keep O12.out hbl)
                  clear hbl HROW E9 T12 X12 O12 y0 y1 y2 y3 c0 c1 c2 c3 d0 d1 hk1 hs1 hs2
                  have y0 : w20.cell? ⟨k4, 0, none⟩ = some (.int .i64 bi) := by rw [cell_at X20.out]; rfl
                  have y1 : w20.cell? ⟨k4, 1, none⟩ = some (.int .i64 bt) := by rw [cell_at X20.out]; rfl
                  have y2 : w20.cell? ⟨k4, 2, none⟩ = some (.slice ra D.length rc) := by rw [cell_at X20.out]; rfl
                  have y3 : w20.cell? ⟨k4, 3, none⟩ = some (.int .i64 cm) := by rw [cell_at X20.out]; rfl
                  obtain ⟨c0, c1, c2, c3, d0, d1⟩ := T20.out.cells
                  simp only at c0 c1 c2 c3
                  have hk1 : k4 < w20.heap.size := (Array.getElem?_eq_some_iff.1 X20.out).1
                  have hs0 := T20.out.size
                  have hs1 : w.heap.size < w20.heap.size := by omega
                  have hs2 : w.heap.size + 1 < w20.heap.size := by omega
                  clear hs0
                  go_wp2_with fail
                  refine (HEND.out _ _ (own_egot O20.out HD8.out)).mono ?_
                  rintro e w21 ⟨rfl, rfl⟩
                  dsimp only
                  have T21 := hideIt (T20.out.keep (below1 w20 (.cells #[.int .i64 bi, .int .i64 bt, .slice ra D.length rc, .int .i64 cm] 26)))
                  have X21 := hideIt ((heap_alloc_old w20 (.cells #[.int .i64 bi, .int .i64 bt, .slice ra D.length rc, .int .i64 cm] 26) hk1).trans X20.out)
                  have O21 := hideIt (own_keep O20.out (below1 w20 (.cells #[.int .i64 bi, .int .i64 bt, .slice ra D.length rc, .int .i64 cm] 26)))
                  clear c0 c1 c2 c3 d0 d1 y0 y1 y2 y3 X20 O20 T20 HEND hk1 hs1 hs2
                  go_upto_region 27 with fail
                  generalize w20.alloc (.cells #[.int .i64 bi, .int .i64 bt, .slice ra D.length rc, .int .i64 cm] 26) = w21 at *
                  have TY := hideIt (T21.out.setO (b := k4) (j := 3) S4.out (.int .i64 (max cm (min cc (pi + (es.length : Int))))))
                  have XY := hideIt (heap_set X21.out 3 (.int .i64 (max cm (min cc (pi + (es.length : Int))))))
                  have OY := hideIt (own_nei (j := 3) (u := .int .i64 (max cm (min cc (pi + (es.length : Int))))) O21.out X21.out)
                  have y0 : w21.cell? ⟨k4, 0, none⟩ = some (.int .i64 bi) := by rw [cell_at X21.out]; rfl
                  have y1 : w21.cell? ⟨k4, 1, none⟩ = some (.int .i64 bt) := by rw [cell_at X21.out]; rfl
                  have y2 : w21.cell? ⟨k4, 2, none⟩ = some (.slice ra D.length rc) := by rw [cell_at X21.out]; rfl
                  have y3 : w21.cell? ⟨k4, 3, none⟩ = some (.int .i64 cm) := by rw [cell_at X21.out]; rfl
                  obtain ⟨c0, c1, c2, c3, d0, d1⟩ := T21.out.cells
                  simp only at c0 c1 c2 c3
                  have hk1 : k4 < w21.heap.size := (Array.getElem?_eq_some_iff.1 X21.out).1
                  have hs0 := T21.out.size
                  have hs1 : w.heap.size < w21.heap.size := by omega
                  have hs2 : w.heap.size + 1 < w21.heap.size := by omega
                  clear hs0
                  have xf : ∀ j, w21.frozen? ⟨k4, j, none⟩ = false := fun j => free_at X21.out j
                  go_upto_region 28 with fail
                  clear y0 y1 y2 y3 xf X21 T21 O21 c0 c1 c2 c3 d0 d1 hk1 hs1 hs2
                  obtain ⟨M, hM⟩ : ∃ M, M = max cm (min cc (pi + (es.length : Int))) := ⟨_, rfl⟩
                  rw [← hM] at TY XY OY HE1 ⊢
                  clear hM
                  generalize w21.setCell ⟨k4, 3, none⟩ (.int .i64 M) = Y at *
                  obtain ⟨c0, c1, c2, c3, d0, d1⟩ := TY.out.cells
                  obtain ⟨z0, z1, z2, z3, zf⟩ := TY.out.zero
                  simp only at c0 c1 c2 c3
                  have y0 : Y.cell? ⟨k4, 0, none⟩ = some (.int .i64 bi) := by rw [cell_at XY.out]; rfl
                  have y1 : Y.cell? ⟨k4, 1, none⟩ = some (.int .i64 bt) := by rw [cell_at XY.out]; rfl
                  have y2 : Y.cell? ⟨k4, 2, none⟩ = some (.slice ra D.length rc) := by rw [cell_at XY.out]; rfl
                  have y3 : Y.cell? ⟨k4, 3, none⟩ = some (.int .i64 M) := by rw [cell_at XY.out]; rfl
                  have HP := TY.out.put (.int .i64 bi) (.int .i64 bt) (.slice ra D.length rc) (.int .i64 M)
                  have e3 := (own4 (R := w.heap.size + 2) (.int .i64 bi) (.int .i64 bt) (.slice ra D.length rc) (.int .i64 M) OY.out (by omega) w.heap.size (by omega))
                  go_region
                  clear c0 c1 c2 c3 d0 d1 z0 z1 z2 z3 zf y0 y1 y2 y3 TY XY OY
                  go_wp2
                  obtain ⟨e1, e2⟩ := HP.out
                  have e4 := e3.out
                  clear HP e3
                  revert e1 e2 e4
                  generalize (World.setCell _ ⟨w.heap.size + 2, 3, none⟩ _) = W
                  intro e1 e2 e4
                  exact bodyPost_ret (v := .tuple #[logV ⟨bi, bt, D, M⟩ (.slice ra D.length rc), .int .i64 (max (pi + (es.length : Int)) bi), .bool true, .int .i64 0]) (by simp [results, Try.results25, go_sem, cell_at e1, logV, logA]) rfl ⟨_, by rw [HE1.out]; rfl, by rw [HE1.out]; exact own_keep e4 (Below.refl _ W).drew, e2.drew⟩
    · have hltI : ¬ (t : Int) < (es.length : Int) := by omega
      have HE : Hid (R = endL ⟨bi, bt, l, cm⟩ l cc (pi + (es.length : Int))) := HALL.out (by
        have := HR.out.1
        rw [List.drop_of_length_le (by omega)] at this
        rw [this]
        show t + 0 = _
        omega)
      have HD8 : Hid (l.length * 32 ≤ 150000000000000) := by
        show _ ≤ _
        omega
      clear HALL HOLD HNEW HPD HPB HHT2 HQP HKP HH HR HTP
      obtain ⟨hro, h5'⟩ := HIN.out
      have h4 : ¬ 400 < l.length := by omega
      have h5 : ¬ 1000000 < bi + (l.length : Int) := by unfold lasI at h5'; simp only at h5'; omega
      replace HEND := hideIt (fun v wx hD => HEND.out l v wx hD (by omega))
      clear h5' HIN
      have HE1 : Hid (R = (⟨bi, bt, l, max cm (min cc (pi + (es.length : Int)))⟩, max (pi + (es.length : Int)) bi, true, 0)) := by
        show _ = _
        rw [HE.out]
        unfold endL
        rw [if_neg (by rw [hro]; simp), if_neg h4, if_neg h5]
      have h4I : ¬ ((400 : Int) < (l.length : Int)) := by omega
      have h5I : ¬ ((1000000 : Int) < bi + (l.length : Int)) := h5
      clear HE
      have E9 := hideIt (own_egot O7.out HD8.out)
      replace HROW := hideIt (HROW.out l _ _ E9.out)
      rw [hro] at HROW
      clear hro
      have y0 : wr.cell? ⟨k4, 0, none⟩ = some (.int .i64 bi) := by rw [cell_at X7.out]; rfl
      have y1 : wr.cell? ⟨k4, 1, none⟩ = some (.int .i64 bt) := by rw [cell_at X7.out]; rfl
      have y2 : wr.cell? ⟨k4, 2, none⟩ = some (.slice na l.length nc) := by rw [cell_at X7.out]; rfl
      have y3 : wr.cell? ⟨k4, 3, none⟩ = some (.int .i64 cm) := by rw [cell_at X7.out]; rfl
      obtain ⟨c0, c1, c2, c3, d0, d1⟩ := T7.out.cells
      simp only at c0 c1 c2 c3
      have hk1 : k4 < wr.heap.size := (Array.getElem?_eq_some_iff.1 X7.out).1
      have hs0 := T7.out.size
      have hs1 : w.heap.size < wr.heap.size := by omega
      have hs2 : w.heap.size + 1 < wr.heap.size := by omega
      clear hs0
      go_wp2_with fail
      refine HROW.out.mono ?_
      rintro e w20 ⟨rfl, hbl⟩
      dsimp only
      have T20 := hideIt (T7.out.keep hbl)
      have X20 : Hid (w20.heap[k4]? = some (.cells #[.int .i64 bi, .int .i64 bt, .slice na l.length nc, .int .i64 cm] 26 (0, 0))) := (hbl.block k4 ((Array.getElem?_eq_some_iff.1 X7.out).1)).trans X7.out
      have O20 := hideIt (own_keep O7.out hbl)
      clear hbl HROW E9 T7 X7 O7 y0 y1 y2 y3 c0 c1 c2 c3 d0 d1 hk1 hs1 hs2
      have y0 : w20.cell? ⟨k4, 0, none⟩ = some (.int .i64 bi) := by rw [cell_at X20.out]; rfl
      have y1 : w20.cell? ⟨k4, 1, none⟩ = some (.int .i64 bt) := by rw [cell_at X20.out]; rfl
      have y2 : w20.cell? ⟨k4, 2, none⟩ = some (.slice na l.length nc) := by rw [cell_at X20.out]; rfl
      have y3 : w20.cell? ⟨k4, 3, none⟩ = some (.int .i64 cm) := by rw [cell_at X20.out]; rfl
      obtain ⟨c0, c1, c2, c3, d0, d1⟩ := T20.out.cells
      simp only at c0 c1 c2 c3
      have hk1 : k4 < w20.heap.size := (Array.getElem?_eq_some_iff.1 X20.out).1
      have hs0 := T20.out.size
      have hs1 : w.heap.size < w20.heap.size := by omega
      have hs2 : w.heap.size + 1 < w20.heap.size := by omega
      clear hs0
      go_wp2_with fail
      refine (HEND.out _ _ (own_egot O20.out HD8.out)).mono ?_
      rintro e w21 ⟨rfl, rfl⟩
      dsimp only
      have T21 := hideIt (T20.out.keep (below1 w20 (.cells #[.int .i64 bi, .int .i64 bt, .slice na l.length nc, .int .i64 cm] 26)))
      have X21 := hideIt ((heap_alloc_old w20 (.cells #[.int .i64 bi, .int .i64 bt, .slice na l.length nc, .int .i64 cm] 26) hk1).trans X20.out)
      have O21 := hideIt (own_keep O20.out (below1 w20 (.cells #[.int .i64 bi, .int .i64 bt, .slice na l.length nc, .int .i64 cm] 26)))
      clear c0 c1 c2 c3 d0 d1 y0 y1 y2 y3 X20 O20 T20 HEND hk1 hs1 hs2
      go_upto_region 27 with fail
      generalize w20.alloc (.cells #[.int .i64 bi, .int .i64 bt, .slice na l.length nc, .int .i64 cm] 26) = w21 at *
      have TY := hideIt (T21.out.setO (b := k4) (j := 3) S4.out (.int .i64 (max cm (min cc (pi + (es.length : Int))))))
      have XY := hideIt (heap_set X21.out 3 (.int .i64 (max cm (min cc (pi + (es.length : Int))))))
      have OY := hideIt (own_nei (j := 3) (u := .int .i64 (max cm (min cc (pi + (es.length : Int))))) O21.out X21.out)
      have y0 : w21.cell? ⟨k4, 0, none⟩ = some (.int .i64 bi) := by rw [cell_at X21.out]; rfl
      have y1 : w21.cell? ⟨k4, 1, none⟩ = some (.int .i64 bt) := by rw [cell_at X21.out]; rfl
      have y2 : w21.cell? ⟨k4, 2, none⟩ = some (.slice na l.length nc) := by rw [cell_at X21.out]; rfl
      have y3 : w21.cell? ⟨k4, 3, none⟩ = some (.int .i64 cm) := by rw [cell_at X21.out]; rfl
      obtain ⟨c0, c1, c2, c3, d0, d1⟩ := T21.out.cells
      simp only at c0 c1 c2 c3
      have hk1 : k4 < w21.heap.size := (Array.getElem?_eq_some_iff.1 X21.out).1
      have hs0 := T21.out.size
      have hs1 : w.heap.size < w21.heap.size := by omega
      have hs2 : w.heap.size + 1 < w21.heap.size := by omega
      clear hs0
      have xf : ∀ j, w21.frozen? ⟨k4, j, none⟩ = false := fun j => free_at X21.out j
      go_upto_region 28 with fail
      clear y0 y1 y2 y3 xf X21 T21 O21 c0 c1 c2 c3 d0 d1 hk1 hs1 hs2
      obtain ⟨M, hM⟩ : ∃ M, M = max cm (min cc (pi + (es.length : Int))) := ⟨_, rfl⟩
      rw [← hM] at TY XY OY HE1 ⊢
      clear hM
      generalize w21.setCell ⟨k4, 3, none⟩ (.int .i64 M) = Y at *
      obtain ⟨c0, c1, c2, c3, d0, d1⟩ := TY.out.cells
      obtain ⟨z0, z1, z2, z3, zf⟩ := TY.out.zero
      simp only at c0 c1 c2 c3
      have y0 : Y.cell? ⟨k4, 0, none⟩ = some (.int .i64 bi) := by rw [cell_at XY.out]; rfl
      have y1 : Y.cell? ⟨k4, 1, none⟩ = some (.int .i64 bt) := by rw [cell_at XY.out]; rfl
      have y2 : Y.cell? ⟨k4, 2, none⟩ = some (.slice na l.length nc) := by rw [cell_at XY.out]; rfl
      have y3 : Y.cell? ⟨k4, 3, none⟩ = some (.int .i64 M) := by rw [cell_at XY.out]; rfl
      have HP := TY.out.put (.int .i64 bi) (.int .i64 bt) (.slice na l.length nc) (.int .i64 M)
      have e3 := (own4 (R := w.heap.size + 2) (.int .i64 bi) (.int .i64 bt) (.slice na l.length nc) (.int .i64 M) OY.out (by omega) w.heap.size (by omega))
      go_region
      clear c0 c1 c2 c3 d0 d1 z0 z1 z2 z3 zf y0 y1 y2 y3 TY XY OY
      go_wp2
      obtain ⟨e1, e2⟩ := HP.out
      have e4 := e3.out
      clear HP e3
      revert e1 e2 e4
      generalize (World.setCell _ ⟨w.heap.size + 2, 3, none⟩ _) = W
      intro e1 e2 e4
      exact bodyPost_ret (v := .tuple #[logV ⟨bi, bt, l, M⟩ (.slice na l.length nc), .int .i64 (max (pi + (es.length : Int)) bi), .bool true, .int .i64 0]) (by simp [results, Try.results25, go_sem, cell_at e1, logV, logA]) rfl ⟨_, by rw [HE1.out]; rfl, by rw [HE1.out]; exact own_keep e4 (Below.refl _ W).drew, e2.drew⟩
end Go.Proofs.Ytonhoopmhkomcaa
