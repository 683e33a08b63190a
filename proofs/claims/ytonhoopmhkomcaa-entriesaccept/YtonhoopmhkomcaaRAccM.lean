/- A log that is sent entries: the document, all ways. -/
import Derived.Test.YtonhoopmhkomcaaRAccA
import Derived.Test.YtonhoopmhkomcaaRAccB
namespace Go.Proofs.Ytonhoopmhkomcaa
open Go.RowKit
set_option maxHeartbeats 64000000 in
set_option maxRecDepth 100000 in
theorem rAccept_is (L : LogV) (g k : Value) (pi pt : Int) (es : List EntV) (cc : Int) (w : World) (h : EGot w g L.l) (hk : EGot w k es) (hes : (es.length + 400) * 32 ≤ 150000000000000) : Calls Try.prog 25 #[logV L g, .agg #[.int .i64 pi, .int .i64 pt], k, .int .i64 cc] w (AccBack (accL L pi pt es cc) w) := by
  have T0 := hideIt (LMR.first w L g pi pt)
  have H1 := hideIt (fun wx (hx : Below w.heap.size w wx) => rCheck_is L g wx (h.keep hx))
  have HMK := hideIt (fun wx => rMark_is pi pt wx)
  have HWI := hideIt (fun wx => rwithin_is cc 0 1000000 wx)
  have HRW := hideIt (fun wx (hx : Below w.heap.size w wx) => rRows_is k es pt wx (hk.keep hx))
  have HCO := hideIt (fun wx (hx : Below w.heap.size w wx) => copy_is L g wx (h.keep hx))
  have HTP := hideIt (fun i wx (hx : Below w.heap.size w wx) => rTermAt_is L g i wx (h.keep hx))
  unfold LogBack at HCO
  unfold AccBack
  have hh := hideIt h
  have hkk := hideIt hk
  cases hm : mayB L
  · rw [show accL L pi pt es cc = (zL, 0, false, 80) by unfold accL; rw [if_pos hm]]
    rw [show chkI L = 80 by simp [chkI, hm]] at H1
    obtain ⟨a, c, rfl⟩ := h.slice
    obtain ⟨ka, kc, rfl⟩ := hk.slice
    unfold logV logA at *
    obtain ⟨bi, bt, l, cm⟩ := L
    simp only at H1 T0 ⊢
    clear h hk hh hkk HMK HWI HRW HCO HTP
    go_enter Try.func25, Try.ntmps25
    go_wp2_with fail
    refine (H1.out _ T0.out.bel).mono ?_
    rintro e w1 ⟨rfl, hbl⟩
    dsimp only
    have T1 := hideIt (T0.out.keep hbl)
    obtain ⟨c0, c1, c2, c3, d0, d1⟩ := T1.out.cells
    simp only at c0 c1 c2 c3
    clear hbl T0 H1
    obtain ⟨z0, z1, z2, z3, zf⟩ := T1.out.zero
    have HP := T1.out.put (.int .i64 0) (.int .i64 0) (.slice none 0 0) (.int .i64 0)
    obtain ⟨e1, e2⟩ := HP.out
    clear HP T1
    go_wp2
    try rw [Exit.noGoto_ret]
    revert e1 e2
    generalize (World.setCell _ ⟨w.heap.size + 2, 3, none⟩ _) = W
    intro e1 e2
    exact bodyPost_ret (v := .tuple #[logV zL (.slice none 0 0), .int .i64 0, .bool false, .int .i64 80]) (by simp [results, Try.results25, go_sem, cell_at e1, logV, logA, zL]) rfl ⟨_, rfl, own_nil _ _, e2⟩
  · rw [show chkI L = 0 by simp [chkI, hm]] at H1
    have hin := mayB_in hm
    cases ha : argB pi pt es cc
    · rw [show accL L pi pt es cc = (zL, 0, false, 1) by unfold accL; rw [if_neg (by rw [hm]; simp), if_pos ha]]
      obtain ⟨a, c, rfl⟩ := h.slice
      obtain ⟨ka, kc, rfl⟩ := hk.slice
      unfold logV logA at *
      obtain ⟨bi, bt, l, cm⟩ := L
      simp only at H1 T0 ⊢
      clear h hk hh hkk HCO HTP hm hin
      unfold argB at ha
      cases h2 : mkB pi pt
      · rw [h2] at HMK
        clear HWI HRW ha
        go_enter Try.func25, Try.ntmps25
        go_wp2_with fail
        refine (H1.out _ T0.out.bel).mono ?_
        rintro e w1 ⟨rfl, hbl⟩
        dsimp only
        have T1 := hideIt (T0.out.keep hbl)
        obtain ⟨c0, c1, c2, c3, d0, d1⟩ := T1.out.cells
        simp only at c0 c1 c2 c3
        clear hbl T0 H1
        go_wp2_with fail
        refine (HMK.out _).mono ?_
        rintro e w2 ⟨rfl, hbl⟩
        dsimp only
        have T2 := hideIt (T1.out.keep hbl)
        clear hbl T1 c0 c1 c2 c3 d0 d1
        obtain ⟨c0, c1, c2, c3, d0, d1⟩ := T2.out.cells
        simp only at c0 c1 c2 c3
        obtain ⟨z0, z1, z2, z3, zf⟩ := T2.out.zero
        have HP := T2.out.put (.int .i64 0) (.int .i64 0) (.slice none 0 0) (.int .i64 0)
        obtain ⟨e1, e2⟩ := HP.out
        clear HP T2
        go_wp2
        try rw [Exit.noGoto_ret]
        revert e1 e2
        generalize (World.setCell _ ⟨w.heap.size + 2, 3, none⟩ _) = W
        intro e1 e2
        exact bodyPost_ret (v := .tuple #[logV zL (.slice none 0 0), .int .i64 0, .bool false, .int .i64 1]) (by simp [results, Try.results25, go_sem, cell_at e1, logV, logA, zL]) rfl ⟨_, rfl, own_nil _ _, e2⟩
      · rw [h2] at HMK ha
        cases h3 : wiB cc 0 1000000
        · rw [h3] at HWI
          clear HRW ha
          go_enter Try.func25, Try.ntmps25
          go_wp2_with fail
          refine (H1.out _ T0.out.bel).mono ?_
          rintro e w1 ⟨rfl, hbl⟩
          dsimp only
          have T1 := hideIt (T0.out.keep hbl)
          obtain ⟨c0, c1, c2, c3, d0, d1⟩ := T1.out.cells
          simp only at c0 c1 c2 c3
          clear hbl T0 H1
          go_wp2_with fail
          refine (HMK.out _).mono ?_
          rintro e w2 ⟨rfl, hbl⟩
          dsimp only
          have T2 := hideIt (T1.out.keep hbl)
          clear hbl T1 c0 c1 c2 c3 d0 d1
          obtain ⟨c0, c1, c2, c3, d0, d1⟩ := T2.out.cells
          simp only at c0 c1 c2 c3
          go_wp2_with fail
          refine (HWI.out _).mono ?_
          rintro e w2 ⟨rfl, rfl⟩
          dsimp only
          obtain ⟨z0, z1, z2, z3, zf⟩ := T2.out.zero
          have HP := T2.out.put (.int .i64 0) (.int .i64 0) (.slice none 0 0) (.int .i64 0)
          obtain ⟨e1, e2⟩ := HP.out
          clear HP T2
          go_wp2
          try rw [Exit.noGoto_ret]
          revert e1 e2
          generalize (World.setCell _ ⟨w.heap.size + 2, 3, none⟩ _) = W
          intro e1 e2
          exact bodyPost_ret (v := .tuple #[logV zL (.slice none 0 0), .int .i64 0, .bool false, .int .i64 1]) (by simp [results, Try.results25, go_sem, cell_at e1, logV, logA, zL]) rfl ⟨_, rfl, own_nil _ _, e2⟩
        · rw [h3] at HWI ha
          simp only [Bool.true_and] at ha
          rw [ha] at HRW
          clear ha
          go_enter Try.func25, Try.ntmps25
          go_wp2_with fail
          refine (H1.out _ T0.out.bel).mono ?_
          rintro e w1 ⟨rfl, hbl⟩
          dsimp only
          have T1 := hideIt (T0.out.keep hbl)
          obtain ⟨c0, c1, c2, c3, d0, d1⟩ := T1.out.cells
          simp only at c0 c1 c2 c3
          clear hbl T0 H1
          go_wp2_with fail
          refine (HMK.out _).mono ?_
          rintro e w2 ⟨rfl, hbl⟩
          dsimp only
          have T2 := hideIt (T1.out.keep hbl)
          clear hbl T1 c0 c1 c2 c3 d0 d1
          obtain ⟨c0, c1, c2, c3, d0, d1⟩ := T2.out.cells
          simp only at c0 c1 c2 c3
          go_wp2_with fail
          refine (HWI.out _).mono ?_
          rintro e w2 ⟨rfl, rfl⟩
          dsimp only
          go_wp2_with fail
          refine (HRW.out _ T2.out.bel).mono ?_
          rintro e w3 ⟨rfl, hbl⟩
          dsimp only
          have T3 := hideIt (T2.out.keep hbl)
          clear hbl T2 c0 c1 c2 c3 d0 d1
          obtain ⟨c0, c1, c2, c3, d0, d1⟩ := T3.out.cells
          simp only at c0 c1 c2 c3
          obtain ⟨z0, z1, z2, z3, zf⟩ := T3.out.zero
          have HP := T3.out.put (.int .i64 0) (.int .i64 0) (.slice none 0 0) (.int .i64 0)
          obtain ⟨e1, e2⟩ := HP.out
          clear HP T3
          go_wp2
          try rw [Exit.noGoto_ret]
          revert e1 e2
          generalize (World.setCell _ ⟨w.heap.size + 2, 3, none⟩ _) = W
          intro e1 e2
          exact bodyPost_ret (v := .tuple #[logV zL (.slice none 0 0), .int .i64 0, .bool false, .int .i64 1]) (by simp [results, Try.results25, go_sem, cell_at e1, logV, logA, zL]) rfl ⟨_, rfl, own_nil _ _, e2⟩
    · have ha2 := ha
      unfold argB at ha2
      simp only [Bool.and_eq_true] at ha2
      obtain ⟨⟨h2, h3⟩, h4⟩ := ha2
      rw [h2] at HMK
      rw [h3] at HWI
      rw [h4] at HRW
      obtain ⟨⟨hp1, hp2⟩, -⟩ := mkB_in h2
      have hE8 := hk.1
      have hcin : 0 ≤ cc ∧ cc ≤ 1000000 := of_decide_eq_true h3
      have hto : IntKind.i64.wrap (pi + (es.length : Int)) = pi + (es.length : Int) := by rw [IntKind.wrap_i64]; omega
      have HHT := hideIt (hasM_term hm pi pt)
      by_cases hbi : L.bi ≤ pi
      · cases h5 : hasM L pi pt
        · rw [show accL L pi pt es cc = (L, 0, false, 0) by unfold accL; rw [if_neg (by rw [hm]; simp), if_neg (by rw [ha]; simp), if_pos ⟨hbi, h5⟩]]
          have hf := HHT.out
          rw [h5] at hf
          replace HTP := hideIt (HTP.out pi)
          generalize termL L pi = te at *
          obtain ⟨ta, is⟩ := te
          simp only at hf HTP
          clear HHT
          obtain ⟨a, c, rfl⟩ := h.slice
          obtain ⟨ka, kc, rfl⟩ := hk.slice
          unfold logV logA at *
          obtain ⟨bi, bt, l, cm⟩ := L
          simp only at H1 T0 HCO HTP hbi ⊢
          clear h hk hh hkk hm hin ha h2 h3 h4 h5
          cases is
          · clear hf
            go_enter Try.func25, Try.ntmps25
            go_wp2_with fail
            refine (H1.out _ T0.out.bel).mono ?_
            rintro e w1 ⟨rfl, hbl⟩
            dsimp only
            have T1 := hideIt (T0.out.keep hbl)
            obtain ⟨c0, c1, c2, c3, d0, d1⟩ := T1.out.cells
            simp only at c0 c1 c2 c3
            clear hbl T0 H1
            go_wp2_with fail
            refine (HMK.out _).mono ?_
            rintro e w2 ⟨rfl, hbl⟩
            dsimp only
            have T2 := hideIt (T1.out.keep hbl)
            clear hbl T1 c0 c1 c2 c3 d0 d1
            obtain ⟨c0, c1, c2, c3, d0, d1⟩ := T2.out.cells
            simp only at c0 c1 c2 c3
            go_wp2_with fail
            refine (HWI.out _).mono ?_
            rintro e w2 ⟨rfl, rfl⟩
            dsimp only
            go_wp2_with fail
            refine (HRW.out _ T2.out.bel).mono ?_
            rintro e w3 ⟨rfl, hbl⟩
            dsimp only
            have T3 := hideIt (T2.out.keep hbl)
            clear hbl T2 c0 c1 c2 c3 d0 d1
            obtain ⟨c0, c1, c2, c3, d0, d1⟩ := T3.out.cells
            simp only at c0 c1 c2 c3
            clear HMK HWI HRW
            go_wp2_with fail
            refine (HCO.out _ T3.out.bel).mono ?_
            rintro e w4 ⟨gn, rfl, ho, hbl⟩
            dsimp only
            obtain ⟨na, nc, rfl⟩ := own_len ho
            have T4 := hideIt (T3.out.keep (below_via hbl (below1 w4 (.cells #[.int .i64 bi, .int .i64 bt, .slice na l.length nc, .int .i64 cm] 26))))
            have X4 := hideIt (heap_alloc_new w4 (.cells #[.int .i64 bi, .int .i64 bt, .slice na l.length nc, .int .i64 cm] 26))
            have O4 := hideIt (own_base (own_keep ho (below1 w4 (.cells #[.int .i64 bi, .int .i64 bt, .slice na l.length nc, .int .i64 cm] 26))) T3.out.size)
            have S4 : Hid (w.heap.size + 3 ≤ w4.heap.size) := Nat.le_trans T3.out.size hbl.size
            clear ho hbl HCO T3 c0 c1 c2 c3 d0 d1
            go_upto_region 6 with fail
            generalize w4.alloc (.cells #[.int .i64 bi, .int .i64 bt, .slice na l.length nc, .int .i64 cm] 26) = w5 at *
            generalize w4.heap.size = k4 at *
            obtain ⟨c0, c1, c2, c3, d0, d1⟩ := T4.out.cells
            simp only at c0 c1 c2 c3
            go_wp2_with fail
            refine (HTP.out _ T4.out.bel).mono ?_
            rintro e w6 ⟨rfl, hbl⟩
            dsimp only
            have B6 := hideIt hbl
            have T6 := hideIt (T4.out.keep hbl)
            have X6 : Hid (w6.heap[k4]? = some (.cells #[.int .i64 bi, .int .i64 bt, .slice na l.length nc, .int .i64 cm] 26 (0, 0))) := (hbl.block k4 ((Array.getElem?_eq_some_iff.1 X4.out).1)).trans X4.out
            have O6 := hideIt (own_keep O4.out hbl)
            clear hbl T4 X4 O4 B6 c0 c1 c2 c3 d0 d1 HTP
            have y0 : w6.cell? ⟨k4, 0, none⟩ = some (.int .i64 bi) := by rw [cell_at X6.out]; rfl
            have y1 : w6.cell? ⟨k4, 1, none⟩ = some (.int .i64 bt) := by rw [cell_at X6.out]; rfl
            have y2 : w6.cell? ⟨k4, 2, none⟩ = some (.slice na l.length nc) := by rw [cell_at X6.out]; rfl
            have y3 : w6.cell? ⟨k4, 3, none⟩ = some (.int .i64 cm) := by rw [cell_at X6.out]; rfl
            obtain ⟨c0, c1, c2, c3, d0, d1⟩ := T6.out.cells
            simp only at c0 c1 c2 c3
            obtain ⟨z0, z1, z2, z3, zf⟩ := T6.out.zero
            have HP := T6.out.put (.int .i64 bi) (.int .i64 bt) (.slice na l.length nc) (.int .i64 cm)
            obtain ⟨e1, e2⟩ := HP.out
            have e3 := (own4 (R := w.heap.size + 2) (.int .i64 bi) (.int .i64 bt) (.slice na l.length nc) (.int .i64 cm) O6.out (by omega) w.heap.size (by omega)).out
            clear HP T6 O6 X6
            go_wp2
            revert e1 e2 e3
            generalize (World.setCell _ ⟨w.heap.size + 2, 3, none⟩ _) = W
            intro e1 e2 e3
            exact bodyPost_ret (v := .tuple #[logV ⟨bi, bt, l, cm⟩ (.slice na l.length nc), .int .i64 0, .bool false, .int .i64 0]) (by simp [results, Try.results25, go_sem, cell_at e1, logV, logA]) rfl ⟨_, rfl, e3, e2⟩
          · have hne : (ta != pt) = true := by
              simp only [Bool.true_and] at hf
              simp [bne, ← hf]
            clear hf
            go_enter Try.func25, Try.ntmps25
            go_wp2_with fail
            refine (H1.out _ T0.out.bel).mono ?_
            rintro e w1 ⟨rfl, hbl⟩
            dsimp only
            have T1 := hideIt (T0.out.keep hbl)
            obtain ⟨c0, c1, c2, c3, d0, d1⟩ := T1.out.cells
            simp only at c0 c1 c2 c3
            clear hbl T0 H1
            go_wp2_with fail
            refine (HMK.out _).mono ?_
            rintro e w2 ⟨rfl, hbl⟩
            dsimp only
            have T2 := hideIt (T1.out.keep hbl)
            clear hbl T1 c0 c1 c2 c3 d0 d1
            obtain ⟨c0, c1, c2, c3, d0, d1⟩ := T2.out.cells
            simp only at c0 c1 c2 c3
            go_wp2_with fail
            refine (HWI.out _).mono ?_
            rintro e w2 ⟨rfl, rfl⟩
            dsimp only
            go_wp2_with fail
            refine (HRW.out _ T2.out.bel).mono ?_
            rintro e w3 ⟨rfl, hbl⟩
            dsimp only
            have T3 := hideIt (T2.out.keep hbl)
            clear hbl T2 c0 c1 c2 c3 d0 d1
            obtain ⟨c0, c1, c2, c3, d0, d1⟩ := T3.out.cells
            simp only at c0 c1 c2 c3
            clear HMK HWI HRW
            go_wp2_with fail
            refine (HCO.out _ T3.out.bel).mono ?_
            rintro e w4 ⟨gn, rfl, ho, hbl⟩
            dsimp only
            obtain ⟨na, nc, rfl⟩ := own_len ho
            have T4 := hideIt (T3.out.keep (below_via hbl (below1 w4 (.cells #[.int .i64 bi, .int .i64 bt, .slice na l.length nc, .int .i64 cm] 26))))
            have X4 := hideIt (heap_alloc_new w4 (.cells #[.int .i64 bi, .int .i64 bt, .slice na l.length nc, .int .i64 cm] 26))
            have O4 := hideIt (own_base (own_keep ho (below1 w4 (.cells #[.int .i64 bi, .int .i64 bt, .slice na l.length nc, .int .i64 cm] 26))) T3.out.size)
            have S4 : Hid (w.heap.size + 3 ≤ w4.heap.size) := Nat.le_trans T3.out.size hbl.size
            clear ho hbl HCO T3 c0 c1 c2 c3 d0 d1
            go_upto_region 6 with fail
            generalize w4.alloc (.cells #[.int .i64 bi, .int .i64 bt, .slice na l.length nc, .int .i64 cm] 26) = w5 at *
            generalize w4.heap.size = k4 at *
            obtain ⟨c0, c1, c2, c3, d0, d1⟩ := T4.out.cells
            simp only at c0 c1 c2 c3
            go_wp2_with fail
            refine (HTP.out _ T4.out.bel).mono ?_
            rintro e w6 ⟨rfl, hbl⟩
            dsimp only
            have B6 := hideIt hbl
            have T6 := hideIt (T4.out.keep hbl)
            have X6 : Hid (w6.heap[k4]? = some (.cells #[.int .i64 bi, .int .i64 bt, .slice na l.length nc, .int .i64 cm] 26 (0, 0))) := (hbl.block k4 ((Array.getElem?_eq_some_iff.1 X4.out).1)).trans X4.out
            have O6 := hideIt (own_keep O4.out hbl)
            clear hbl T4 X4 O4 B6 c0 c1 c2 c3 d0 d1 HTP
            have y0 : w6.cell? ⟨k4, 0, none⟩ = some (.int .i64 bi) := by rw [cell_at X6.out]; rfl
            have y1 : w6.cell? ⟨k4, 1, none⟩ = some (.int .i64 bt) := by rw [cell_at X6.out]; rfl
            have y2 : w6.cell? ⟨k4, 2, none⟩ = some (.slice na l.length nc) := by rw [cell_at X6.out]; rfl
            have y3 : w6.cell? ⟨k4, 3, none⟩ = some (.int .i64 cm) := by rw [cell_at X6.out]; rfl
            obtain ⟨c0, c1, c2, c3, d0, d1⟩ := T6.out.cells
            simp only at c0 c1 c2 c3
            obtain ⟨z0, z1, z2, z3, zf⟩ := T6.out.zero
            have HP := T6.out.put (.int .i64 bi) (.int .i64 bt) (.slice na l.length nc) (.int .i64 cm)
            obtain ⟨e1, e2⟩ := HP.out
            have e3 := (own4 (R := w.heap.size + 2) (.int .i64 bi) (.int .i64 bt) (.slice na l.length nc) (.int .i64 cm) O6.out (by omega) w.heap.size (by omega)).out
            clear HP T6 O6 X6
            go_wp2
            revert e1 e2 e3
            generalize (World.setCell _ ⟨w.heap.size + 2, 3, none⟩ _) = W
            intro e1 e2 e3
            exact bodyPost_ret (v := .tuple #[logV ⟨bi, bt, l, cm⟩ (.slice na l.length nc), .int .i64 0, .bool false, .int .i64 0]) (by simp [results, Try.results25, go_sem, cell_at e1, logV, logA]) rfl ⟨_, rfl, e3, e2⟩
        · exact rAcc_a L g k pi pt es cc w h hk hes hm ha hbi h5
      · exact rAcc_b L g k pi pt es cc w h hk hes hm ha hbi
end Go.Proofs.Ytonhoopmhkomcaa
