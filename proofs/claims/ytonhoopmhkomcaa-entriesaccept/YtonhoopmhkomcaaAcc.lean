/- A log that is sent entries: the program. -/
import Derived.Test.YtonhoopmhkomcaaPut
namespace Go.Proofs.Ytonhoopmhkomcaa
open Go.RowKit
/-- A log, a number, whether, and an error come back. -/
def AccBack (X : LogV × Int × Bool × Int) (w : World) (e : Ending) (w' : World) : Prop := ∃ g, e = .returned (.tuple #[logV X.1 g, .int .i64 X.2.1, .bool X.2.2.1, .int .i64 X.2.2.2]) ∧ w'.ownsRow w.heap.size 40 3 g X.1.l.length (entC X.1.l) ∧ Below w.heap.size w w'
set_option maxHeartbeats 16000000 in
set_option maxRecDepth 100000 in
theorem accept_is (L : LogV) (g k : Value) (pi pt : Int) (es : List EntV) (cc : Int) (w : World) (h : EGot w g L.l) (hk : EGot w k es) : Calls Try.prog 24 #[logV L g, .agg #[.int .i64 pi, .int .i64 pt], k, .int .i64 cc] w (AccBack (accL L pi pt es cc) w) := by
  have T0 := hideIt (LMR.first w L g pi pt)
  have H1 := hideIt (mayBe_is L g _ (h.keep T0.out.bel))
  have HMK := hideIt (fun wx => isMark_is pi pt wx)
  have HWI := hideIt (fun wx => within_is cc 0 1000000 wx)
  have HRW := hideIt (fun wx (hx : Below w.heap.size w wx) => areEntries_is k es pt wx (hk.keep hx))
  unfold AccBack accL
  cases hm : mayB L
  · rw [hm] at H1
    rw [if_pos rfl]
    obtain ⟨a, c, rfl⟩ := h.slice
    obtain ⟨ka, kc, rfl⟩ := hk.slice
    unfold logV logA at *
    obtain ⟨bi, bt, l, cm⟩ := L
    simp only at H1 T0 ⊢
    clear h hk
    go_enter Try.func24, Try.ntmps24
    go_wp2_with fail
    refine H1.out.mono ?_
    rintro e w1 ⟨rfl, hbl⟩
    dsimp only
    have T1 := hideIt (T0.out.keep hbl)
    obtain ⟨c0, c1, c2, c3, d0, d1⟩ := T1.out.cells
    simp only at c0 c1 c2 c3
    clear hbl T0 H1
    obtain ⟨z0, z1, z2, z3, zf⟩ := T1.out.zero
    have HP := T1.out.put (.int .i64 0) (.int .i64 0) (.slice none 0 0) (.int .i64 0)
    obtain ⟨e1, e2⟩ := HP.out
    clear HP T1
    go_wp2
    revert e1 e2
    generalize (World.setCell _ ⟨w.heap.size + 2, 3, none⟩ _) = W
    intro e1 e2
    exact bodyPost_ret (v := .tuple #[logV zL (.slice none 0 0), .int .i64 0, .bool false, .int .i64 80]) (by simp [results, Try.results24, go_sem, cell_at e1, logV, logA, zL]) rfl ⟨_, rfl, own_nil _ _, e2⟩
  · rw [hm] at H1
    rw [if_neg (by simp)]
    have hin := mayB_in hm
    have HHM := hideIt (fun wx (hx : Below w.heap.size w wx) => hasMark_is L g pi pt wx (h.keep hx) (near_may hm))
    have HMI := hideIt (hasM_in (L := L) (i := pi) (t := pt))
    have HPU := hideIt (fun hp hpl her wx (hx : Below w.heap.size w wx) => put_is L g k pi pt es wx (h.keep hx) (hk.keep hx) hm hp hpl her)
    have HPL := hideIt (put_len L pi es hin.2.2.1)
    have HAN := hideIt (fun wx (hx : Below w.heap.size w wx) => anew_is _ _ [L.l] L.l (by simp) _ (LsGot.one (h.keep hx)) (by omega) (by simp) (text_rows hin.2.2.2.1))
    have hE8 := hk.1
    have hlas : lasI L = L.bi + (L.l.length : Int) := rfl
    obtain ⟨a, c, rfl⟩ := h.slice
    obtain ⟨ka, kc, rfl⟩ := hk.slice
    unfold argB
    cases h2 : mkB pi pt
    · rw [h2] at HMK
      simp only [Bool.false_and, if_true]
      unfold logV logA at *
      obtain ⟨bi, bt, l, cm⟩ := L
      simp only at H1 T0 ⊢
      clear h hk hin HHM HMI HPU HPL HAN
      go_enter Try.func24, Try.ntmps24
      go_wp2_with fail
      refine H1.out.mono ?_
      rintro e w1 ⟨rfl, hbl⟩
      dsimp only
      have T1 := hideIt (T0.out.keep hbl)
      obtain ⟨c0, c1, c2, c3, d0, d1⟩ := T1.out.cells
      simp only at c0 c1 c2 c3
      clear hbl T0 H1
      go_wp2_with fail
      refine (HMK.out _).mono ?_
      rintro e w2 ⟨rfl, hbl⟩
      dsimp only
      have T2 := hideIt (T1.out.keep hbl)
      clear hbl T1 c0 c1 c2 c3 d0 d1
      obtain ⟨c0, c1, c2, c3, d0, d1⟩ := T2.out.cells
      simp only at c0 c1 c2 c3
      obtain ⟨z0, z1, z2, z3, zf⟩ := T2.out.zero
      have HP := T2.out.put (.int .i64 0) (.int .i64 0) (.slice none 0 0) (.int .i64 0)
      obtain ⟨e1, e2⟩ := HP.out
      clear HP T2
      go_wp2
      revert e1 e2
      generalize (World.setCell _ ⟨w.heap.size + 2, 3, none⟩ _) = W
      intro e1 e2
      exact bodyPost_ret (v := .tuple #[logV zL (.slice none 0 0), .int .i64 0, .bool false, .int .i64 1]) (by simp [results, Try.results24, go_sem, cell_at e1, logV, logA, zL]) rfl ⟨_, rfl, own_nil _ _, e2⟩
    · rw [h2] at HMK
      cases h3 : wiB cc 0 1000000
      · rw [h3] at HWI
        simp only [Bool.false_and, Bool.and_false, if_true]
        unfold logV logA at *
        obtain ⟨bi, bt, l, cm⟩ := L
        simp only at H1 T0 ⊢
        clear h hk hin HHM HMI HPU HPL HAN
        go_enter Try.func24, Try.ntmps24
        go_wp2_with fail
        refine H1.out.mono ?_
        rintro e w1 ⟨rfl, hbl⟩
        dsimp only
        have T1 := hideIt (T0.out.keep hbl)
        obtain ⟨c0, c1, c2, c3, d0, d1⟩ := T1.out.cells
        simp only at c0 c1 c2 c3
        clear hbl T0 H1
        go_wp2_with fail
        refine (HMK.out _).mono ?_
        rintro e w2 ⟨rfl, hbl⟩
        dsimp only
        have T2 := hideIt (T1.out.keep hbl)
        clear hbl T1 c0 c1 c2 c3 d0 d1
        obtain ⟨c0, c1, c2, c3, d0, d1⟩ := T2.out.cells
        simp only at c0 c1 c2 c3
        go_wp2_with fail
        refine (HWI.out _).mono ?_
        rintro e w3 ⟨rfl, rfl⟩
        dsimp only
        obtain ⟨z0, z1, z2, z3, zf⟩ := T2.out.zero
        have HP := T2.out.put (.int .i64 0) (.int .i64 0) (.slice none 0 0) (.int .i64 0)
        obtain ⟨e1, e2⟩ := HP.out
        clear HP T2
        go_wp2
        revert e1 e2
        generalize (World.setCell _ ⟨w.heap.size + 2, 3, none⟩ _) = W
        intro e1 e2
        exact bodyPost_ret (v := .tuple #[logV zL (.slice none 0 0), .int .i64 0, .bool false, .int .i64 1]) (by simp [results, Try.results24, go_sem, cell_at e1, logV, logA, zL]) rfl ⟨_, rfl, own_nil _ _, e2⟩
      · rw [h3] at HWI
        cases h4 : rowsB es pt
        · rw [h4] at HRW
          simp only [Bool.and_false, if_true]
          unfold logV logA at *
          obtain ⟨bi, bt, l, cm⟩ := L
          simp only at H1 T0 ⊢
          clear h hk hin HHM HMI HPU HPL HAN
          go_enter Try.func24, Try.ntmps24
          go_wp2_with fail
          refine H1.out.mono ?_
          rintro e w1 ⟨rfl, hbl⟩
          dsimp only
          have T1 := hideIt (T0.out.keep hbl)
          obtain ⟨c0, c1, c2, c3, d0, d1⟩ := T1.out.cells
          simp only at c0 c1 c2 c3
          clear hbl T0 H1
          go_wp2_with fail
          refine (HMK.out _).mono ?_
          rintro e w2 ⟨rfl, hbl⟩
          dsimp only
          have T2 := hideIt (T1.out.keep hbl)
          clear hbl T1 c0 c1 c2 c3 d0 d1
          obtain ⟨c0, c1, c2, c3, d0, d1⟩ := T2.out.cells
          simp only at c0 c1 c2 c3
          go_wp2_with fail
          refine (HWI.out _).mono ?_
          rintro e w3 ⟨rfl, rfl⟩
          dsimp only
          go_wp2_with fail
          refine (HRW.out _ T2.out.bel).mono ?_
          rintro e w3 ⟨rfl, hbl⟩
          dsimp only
          have T3 := hideIt (T2.out.keep hbl)
          clear hbl T2 c0 c1 c2 c3 d0 d1
          obtain ⟨c0, c1, c2, c3, d0, d1⟩ := T3.out.cells
          simp only at c0 c1 c2 c3
          obtain ⟨z0, z1, z2, z3, zf⟩ := T3.out.zero
          have HP := T3.out.put (.int .i64 0) (.int .i64 0) (.slice none 0 0) (.int .i64 0)
          obtain ⟨e1, e2⟩ := HP.out
          clear HP T3
          go_wp2
          revert e1 e2
          generalize (World.setCell _ ⟨w.heap.size + 2, 3, none⟩ _) = W
          intro e1 e2
          exact bodyPost_ret (v := .tuple #[logV zL (.slice none 0 0), .int .i64 0, .bool false, .int .i64 1]) (by simp [results, Try.results24, go_sem, cell_at e1, logV, logA, zL]) rfl ⟨_, rfl, own_nil _ _, e2⟩
        · rw [h4] at HRW
          simp only [Bool.and_self, Bool.true_eq_false, if_false]
          have hpin := mkB_in h2
          have hcin : 0 ≤ cc ∧ cc ≤ 1000000 := of_decide_eq_true h3
          obtain ⟨hcin1, hcin2⟩ := hcin
          obtain ⟨⟨hp1, hp2⟩, _⟩ := hpin
          have hto : IntKind.i64.wrap (pi + (es.length : Int)) = pi + (es.length : Int) := by rw [IntKind.wrap_i64]; omega
          by_cases hbi : L.bi ≤ pi
          · cases h5 : hasM L pi pt
            · rw [h5] at HHM
              rw [if_pos ⟨hbi, rfl⟩]
              unfold logV logA at *
              obtain ⟨bi, bt, l, cm⟩ := L
              simp only at H1 T0 HHM HAN hbi ⊢
              clear h hk hin HMI HPU HPL h2 h3 h4 h5 hm
              go_enter Try.func24, Try.ntmps24
              go_wp2_with fail
              refine H1.out.mono ?_
              rintro e w1 ⟨rfl, hbl⟩
              dsimp only
              have T1 := hideIt (T0.out.keep hbl)
              obtain ⟨c0, c1, c2, c3, d0, d1⟩ := T1.out.cells
              simp only at c0 c1 c2 c3
              clear hbl T0 H1
              go_wp2_with fail
              refine (HMK.out _).mono ?_
              rintro e w2 ⟨rfl, hbl⟩
              dsimp only
              have T2 := hideIt (T1.out.keep hbl)
              clear hbl T1 c0 c1 c2 c3 d0 d1
              obtain ⟨c0, c1, c2, c3, d0, d1⟩ := T2.out.cells
              simp only at c0 c1 c2 c3
              go_wp2_with fail
              refine (HWI.out _).mono ?_
              rintro e w3 ⟨rfl, rfl⟩
              dsimp only
              go_wp2_with fail
              refine (HRW.out _ T2.out.bel).mono ?_
              rintro e w3 ⟨rfl, hbl⟩
              dsimp only
              have T3 := hideIt (T2.out.keep hbl)
              clear hbl T2 c0 c1 c2 c3 d0 d1
              obtain ⟨c0, c1, c2, c3, d0, d1⟩ := T3.out.cells
              simp only at c0 c1 c2 c3
              clear HMK HWI HRW
              go_wp2_with fail
              refine (HHM.out _ T3.out.bel).mono ?_
              rintro e w4 ⟨rfl, hbl⟩
              dsimp only
              have T4 := hideIt (T3.out.keep hbl)
              clear hbl T3 c0 c1 c2 c3 d0 d1
              obtain ⟨c0, c1, c2, c3, d0, d1⟩ := T4.out.cells
              simp only at c0 c1 c2 c3
              clear HHM
              go_wp2_with fail
              refine (HAN.out _ T4.out.bel).mono ?_
              rintro e w5 ⟨r, rfl, ho, hbl⟩
              dsimp only
              have T5 := hideIt (T4.out.keep (below_via (below1 w4 _) hbl))
              obtain ⟨ra, rc, rfl⟩ := own_len ho
              have T6 := hideIt (T5.out.setL l (.slice ra l.length rc))
              have HO := hideIt (own_base ho (show w.heap.size + 3 ≤ _ from by have := T4.out.size; simp; omega))
              clear ho hbl T4 HAN c0 c1 c2 c3 d0 d1
              obtain ⟨c0, c1, c2, c3, d0, d1⟩ := T5.out.cells
              have ff := T5.out.free
              simp only at c0 c1 c2 c3
              have HP := T6.out.put (.int .i64 bi) (.int .i64 bt) (.slice ra l.length rc) (.int .i64 cm)
              obtain ⟨z0, z1, z2, z3, zf⟩ := T6.out.zero
              obtain ⟨e1, e2⟩ := HP.out
              have e3 := (own4 (R := w.heap.size + 2) (.int .i64 bi) (.int .i64 bt) (.slice ra l.length rc) (.int .i64 cm) (ownSet (b := w.heap.size) (j := 2) (.slice ra l.length rc) HO.out (by omega)) (by omega) w.heap.size (by omega)).out
              clear HP HO T5 T6
              go_wp2
              revert e1 e2 e3
              generalize (World.setCell _ ⟨w.heap.size + 2, 3, none⟩ _) = W
              intro e1 e2 e3
              exact bodyPost_ret (v := .tuple #[logV ⟨bi, bt, l, cm⟩ (.slice ra l.length rc), .int .i64 0, .bool false, .int .i64 0]) (by simp [results, Try.results24, go_sem, cell_at e1, logV, logA]) rfl ⟨_, rfl, e3, e2⟩
            · rw [h5] at HHM
              rw [if_neg (by simp)]
              replace HPU := hideIt (HPU.out ⟨hp1, hp2⟩ (HMI.out h5).2 h4)
              unfold LogErr at HPU
              generalize putL L pi es = XX at *
              obtain ⟨X, x⟩ := XX
              unfold logV logA at *
              obtain ⟨bi, bt, l, cm⟩ := L
              simp only at H1 T0 HHM HPU HPL hbi hin ⊢
              clear h hk HMI h2 h3 h4 h5 hm HAN
              by_cases hx : x = 0
              · subst hx
                rw [if_neg (by simp)]
                clear hin
                go_enter Try.func24, Try.ntmps24
                go_wp2_with fail
                refine H1.out.mono ?_
                rintro e w1 ⟨rfl, hbl⟩
                dsimp only
                have T1 := hideIt (T0.out.keep hbl)
                obtain ⟨c0, c1, c2, c3, d0, d1⟩ := T1.out.cells
                simp only at c0 c1 c2 c3
                clear hbl T0 H1
                go_wp2_with fail
                refine (HMK.out _).mono ?_
                rintro e w2 ⟨rfl, hbl⟩
                dsimp only
                have T2 := hideIt (T1.out.keep hbl)
                clear hbl T1 c0 c1 c2 c3 d0 d1
                obtain ⟨c0, c1, c2, c3, d0, d1⟩ := T2.out.cells
                simp only at c0 c1 c2 c3
                go_wp2_with fail
                refine (HWI.out _).mono ?_
                rintro e w3 ⟨rfl, rfl⟩
                dsimp only
                go_wp2_with fail
                refine (HRW.out _ T2.out.bel).mono ?_
                rintro e w3 ⟨rfl, hbl⟩
                dsimp only
                have T3 := hideIt (T2.out.keep hbl)
                clear hbl T2 c0 c1 c2 c3 d0 d1
                obtain ⟨c0, c1, c2, c3, d0, d1⟩ := T3.out.cells
                simp only at c0 c1 c2 c3
                clear HMK HWI HRW
                go_wp2_with fail
                refine (HHM.out _ T3.out.bel).mono ?_
                rintro e w4 ⟨rfl, hbl⟩
                dsimp only
                have T4 := hideIt (T3.out.keep hbl)
                clear hbl T3 c0 c1 c2 c3 d0 d1
                obtain ⟨c0, c1, c2, c3, d0, d1⟩ := T4.out.cells
                simp only at c0 c1 c2 c3
                clear HHM
                go_wp2_with fail
                refine (HPU.out _ T4.out.bel).mono ?_
                rintro e w5 ⟨gx, rfl, ho, hbl⟩
                dsimp only
                obtain ⟨xa, xc, rfl⟩ := own_len ho
                have T5 := hideIt (T4.out.keep (below_via hbl (below1 w5 (.cells #[.int .i64 X.bi, .int .i64 X.bt, .slice xa X.l.length xc, .int .i64 X.cm] 26))))
                have X5 := hideIt (heap_alloc_new w5 (.cells #[.int .i64 X.bi, .int .i64 X.bt, .slice xa X.l.length xc, .int .i64 X.cm] 26))
                have BY := belowSet (b := w5.heap.size) (j := 3) (.int .i64 (max cm (min cc (pi + (es.length : Int))))) (below1 w5 (.cells #[.int .i64 X.bi, .int .i64 X.bt, .slice xa X.l.length xc, .int .i64 X.cm] 26)) (Nat.le_refl _)
                have TY := hideIt (T4.out.keep (below_via hbl BY))
                have XY := hideIt (heap_set X5.out 3 (.int .i64 (max cm (min cc (pi + (es.length : Int))))))
                have OY := hideIt (own_base (own_keep ho BY) T4.out.size)
                clear ho hbl HPU T4 c0 c1 c2 c3 d0 d1 BY
                go_upto_region 9 with fail
                generalize w5.alloc (.cells #[.int .i64 X.bi, .int .i64 X.bt, .slice xa X.l.length xc, .int .i64 X.cm] 26) = w6 at *
                generalize w5.heap.size = k5 at *
                obtain ⟨c0, c1, c2, c3, d0, d1⟩ := T5.out.cells
                simp only at c0 c1 c2 c3
                have x3 : w6.cell? ⟨k5, 3, none⟩ = some (.int .i64 X.cm) := by rw [cell_at X5.out]; rfl
                have xf : ∀ j, w6.frozen? ⟨k5, j, none⟩ = false := fun j => free_at X5.out j
                go_upto_region 13 with fail
                clear x3 xf X5 T5 c0 c1 c2 c3 d0 d1
                obtain ⟨M, hM⟩ : ∃ M, M = max cm (min cc (pi + (es.length : Int))) := ⟨_, rfl⟩
                rw [← hM] at TY XY OY ⊢
                have HMM := hideIt hM
                clear hM
                generalize w6.setCell ⟨k5, 3, none⟩ (.int .i64 M) = Y at *
                obtain ⟨c0, c1, c2, c3, d0, d1⟩ := TY.out.cells
                obtain ⟨z0, z1, z2, z3, zf⟩ := TY.out.zero
                simp only at c0 c1 c2 c3
                have y0 : Y.cell? ⟨k5, 0, none⟩ = some (.int .i64 X.bi) := by rw [cell_at XY.out]; rfl
                have y1 : Y.cell? ⟨k5, 1, none⟩ = some (.int .i64 X.bt) := by rw [cell_at XY.out]; rfl
                have y2 : Y.cell? ⟨k5, 2, none⟩ = some (.slice xa X.l.length xc) := by rw [cell_at XY.out]; rfl
                have y3 : Y.cell? ⟨k5, 3, none⟩ = some (.int .i64 M) := by rw [cell_at XY.out]; rfl
                have HP := TY.out.put (.int .i64 X.bi) (.int .i64 X.bt) (.slice xa X.l.length xc) (.int .i64 M)
                have e3 := (own4 (R := w.heap.size + 2) (.int .i64 X.bi) (.int .i64 X.bt) (.slice xa X.l.length xc) (.int .i64 M) OY.out (by omega) w.heap.size (by omega))
                go_region
                clear c0 c1 c2 c3 d0 d1 z0 z1 z2 z3 zf y0 y1 y2 y3 TY XY OY
                go_wp2
                obtain ⟨e1, e2⟩ := HP.out
                have e4 := e3.out
                clear HP e3
                revert e1 e2 e4
                generalize (World.setCell _ ⟨w.heap.size + 2, 3, none⟩ _) = W
                intro e1 e2 e4
                exact bodyPost_ret (v := .tuple #[logV ⟨X.bi, X.bt, X.l, M⟩ (.slice xa X.l.length xc), .int .i64 (max (pi + (es.length : Int)) bi), .bool true, .int .i64 0]) (by simp [results, Try.results24, go_sem, cell_at e1, logV, logA]) rfl ⟨_, by rw [HMM.out]; rfl, own_keep e4 (Below.refl _ W).drew, e2.drew⟩
              · have hxb : (x != 0) = true := by simp [hx]
                rw [if_pos hx]
                clear hx hin
                go_enter Try.func24, Try.ntmps24
                go_wp2_with fail
                refine H1.out.mono ?_
                rintro e w1 ⟨rfl, hbl⟩
                dsimp only
                have T1 := hideIt (T0.out.keep hbl)
                obtain ⟨c0, c1, c2, c3, d0, d1⟩ := T1.out.cells
                simp only at c0 c1 c2 c3
                clear hbl T0 H1
                go_wp2_with fail
                refine (HMK.out _).mono ?_
                rintro e w2 ⟨rfl, hbl⟩
                dsimp only
                have T2 := hideIt (T1.out.keep hbl)
                clear hbl T1 c0 c1 c2 c3 d0 d1
                obtain ⟨c0, c1, c2, c3, d0, d1⟩ := T2.out.cells
                simp only at c0 c1 c2 c3
                go_wp2_with fail
                refine (HWI.out _).mono ?_
                rintro e w3 ⟨rfl, rfl⟩
                dsimp only
                go_wp2_with fail
                refine (HRW.out _ T2.out.bel).mono ?_
                rintro e w3 ⟨rfl, hbl⟩
                dsimp only
                have T3 := hideIt (T2.out.keep hbl)
                clear hbl T2 c0 c1 c2 c3 d0 d1
                obtain ⟨c0, c1, c2, c3, d0, d1⟩ := T3.out.cells
                simp only at c0 c1 c2 c3
                clear HMK HWI HRW
                go_wp2_with fail
                refine (HHM.out _ T3.out.bel).mono ?_
                rintro e w4 ⟨rfl, hbl⟩
                dsimp only
                have T4 := hideIt (T3.out.keep hbl)
                clear hbl T3 c0 c1 c2 c3 d0 d1
                obtain ⟨c0, c1, c2, c3, d0, d1⟩ := T4.out.cells
                simp only at c0 c1 c2 c3
                clear HHM
                go_wp2_with fail
                refine (HPU.out _ T4.out.bel).mono ?_
                rintro e w5 ⟨gx, rfl, ho, hbl⟩
                dsimp only
                obtain ⟨xa, xc, rfl⟩ := own_len ho
                have T5 := hideIt (T4.out.keep (below_via hbl (below1 w5 (.cells #[.int .i64 X.bi, .int .i64 X.bt, .slice xa X.l.length xc, .int .i64 X.cm] 26))))
                have X5 := hideIt (heap_alloc_new w5 (.cells #[.int .i64 X.bi, .int .i64 X.bt, .slice xa X.l.length xc, .int .i64 X.cm] 26))
                have BY := belowSet (b := w5.heap.size) (j := 3) (.int .i64 (max cm (min cc (pi + (es.length : Int))))) (below1 w5 (.cells #[.int .i64 X.bi, .int .i64 X.bt, .slice xa X.l.length xc, .int .i64 X.cm] 26)) (Nat.le_refl _)
                have TY := hideIt (T4.out.keep (below_via hbl BY))
                have XY := hideIt (heap_set X5.out 3 (.int .i64 (max cm (min cc (pi + (es.length : Int))))))
                have OY := hideIt (own_base (own_keep ho BY) T4.out.size)
                clear ho hbl HPU T4 c0 c1 c2 c3 d0 d1 BY
                go_upto_region 9 with fail
                generalize w5.alloc (.cells #[.int .i64 X.bi, .int .i64 X.bt, .slice xa X.l.length xc, .int .i64 X.cm] 26) = w6 at *
                generalize w5.heap.size = k5 at *
                obtain ⟨c0, c1, c2, c3, d0, d1⟩ := T5.out.cells
                simp only at c0 c1 c2 c3
                clear X5 TY XY OY c0 c1 c2 c3 d0 d1
                obtain ⟨z0, z1, z2, z3, zf⟩ := T5.out.zero
                have HP := T5.out.put (.int .i64 0) (.int .i64 0) (.slice none 0 0) (.int .i64 0)
                obtain ⟨e1, e2⟩ := HP.out
                clear HP T5
                go_wp2
                revert e1 e2
                generalize (World.setCell _ ⟨w.heap.size + 2, 3, none⟩ _) = W
                intro e1 e2
                exact bodyPost_ret (v := .tuple #[logV zL (.slice none 0 0), .int .i64 0, .bool false, .int .i64 x]) (by simp [results, Try.results24, go_sem, cell_at e1, logV, logA, zL]) rfl ⟨_, rfl, own_nil _ _, e2⟩
          · have hbiI : pi < L.bi := by omega
            rw [if_neg (fun hc => hbi hc.1)]
            replace HPU := hideIt (HPU.out ⟨hp1, hp2⟩ (by omega) h4)
            unfold LogErr at HPU
            generalize putL L pi es = XX at *
            obtain ⟨X, x⟩ := XX
            unfold logV logA at *
            obtain ⟨bi, bt, l, cm⟩ := L
            simp only at H1 T0 HPU HPL hbi hbiI hin ⊢
            clear h hk HMI h2 h3 h4 hm HAN HHM
            by_cases hx : x = 0
            · subst hx
              rw [if_neg (by simp)]
              clear hin
              go_enter Try.func24, Try.ntmps24
              go_wp2_with fail
              refine H1.out.mono ?_
              rintro e w1 ⟨rfl, hbl⟩
              dsimp only
              have T1 := hideIt (T0.out.keep hbl)
              obtain ⟨c0, c1, c2, c3, d0, d1⟩ := T1.out.cells
              simp only at c0 c1 c2 c3
              clear hbl T0 H1
              go_wp2_with fail
              refine (HMK.out _).mono ?_
              rintro e w2 ⟨rfl, hbl⟩
              dsimp only
              have T2 := hideIt (T1.out.keep hbl)
              clear hbl T1 c0 c1 c2 c3 d0 d1
              obtain ⟨c0, c1, c2, c3, d0, d1⟩ := T2.out.cells
              simp only at c0 c1 c2 c3
              go_wp2_with fail
              refine (HWI.out _).mono ?_
              rintro e w3 ⟨rfl, rfl⟩
              dsimp only
              go_wp2_with fail
              refine (HRW.out _ T2.out.bel).mono ?_
              rintro e w3 ⟨rfl, hbl⟩
              dsimp only
              have T3 := hideIt (T2.out.keep hbl)
              clear hbl T2 c0 c1 c2 c3 d0 d1
              obtain ⟨c0, c1, c2, c3, d0, d1⟩ := T3.out.cells
              simp only at c0 c1 c2 c3
              clear HMK HWI HRW
              go_wp2_with fail
              refine (HPU.out _ T3.out.bel).mono ?_
              rintro e w5 ⟨gx, rfl, ho, hbl⟩
              dsimp only
              obtain ⟨xa, xc, rfl⟩ := own_len ho
              have T5 := hideIt (T3.out.keep (below_via hbl (below1 w5 (.cells #[.int .i64 X.bi, .int .i64 X.bt, .slice xa X.l.length xc, .int .i64 X.cm] 26))))
              have X5 := hideIt (heap_alloc_new w5 (.cells #[.int .i64 X.bi, .int .i64 X.bt, .slice xa X.l.length xc, .int .i64 X.cm] 26))
              have BY := belowSet (b := w5.heap.size) (j := 3) (.int .i64 (max cm (min cc (pi + (es.length : Int))))) (below1 w5 (.cells #[.int .i64 X.bi, .int .i64 X.bt, .slice xa X.l.length xc, .int .i64 X.cm] 26)) (Nat.le_refl _)
              have TY := hideIt (T3.out.keep (below_via hbl BY))
              have XY := hideIt (heap_set X5.out 3 (.int .i64 (max cm (min cc (pi + (es.length : Int))))))
              have OY := hideIt (own_base (own_keep ho BY) T3.out.size)
              clear ho hbl HPU T3 c0 c1 c2 c3 d0 d1 BY
              go_upto_region 9 with fail
              generalize w5.alloc (.cells #[.int .i64 X.bi, .int .i64 X.bt, .slice xa X.l.length xc, .int .i64 X.cm] 26) = w6 at *
              generalize w5.heap.size = k5 at *
              obtain ⟨c0, c1, c2, c3, d0, d1⟩ := T5.out.cells
              simp only at c0 c1 c2 c3
              have x3 : w6.cell? ⟨k5, 3, none⟩ = some (.int .i64 X.cm) := by rw [cell_at X5.out]; rfl
              have xf : ∀ j, w6.frozen? ⟨k5, j, none⟩ = false := fun j => free_at X5.out j
              go_upto_region 13 with fail
              clear x3 xf X5 T5 c0 c1 c2 c3 d0 d1
              obtain ⟨M, hM⟩ : ∃ M, M = max cm (min cc (pi + (es.length : Int))) := ⟨_, rfl⟩
              rw [← hM] at TY XY OY ⊢
              have HMM := hideIt hM
              clear hM
              generalize w6.setCell ⟨k5, 3, none⟩ (.int .i64 M) = Y at *
              obtain ⟨c0, c1, c2, c3, d0, d1⟩ := TY.out.cells
              obtain ⟨z0, z1, z2, z3, zf⟩ := TY.out.zero
              simp only at c0 c1 c2 c3
              have y0 : Y.cell? ⟨k5, 0, none⟩ = some (.int .i64 X.bi) := by rw [cell_at XY.out]; rfl
              have y1 : Y.cell? ⟨k5, 1, none⟩ = some (.int .i64 X.bt) := by rw [cell_at XY.out]; rfl
              have y2 : Y.cell? ⟨k5, 2, none⟩ = some (.slice xa X.l.length xc) := by rw [cell_at XY.out]; rfl
              have y3 : Y.cell? ⟨k5, 3, none⟩ = some (.int .i64 M) := by rw [cell_at XY.out]; rfl
              have HP := TY.out.put (.int .i64 X.bi) (.int .i64 X.bt) (.slice xa X.l.length xc) (.int .i64 M)
              have e3 := (own4 (R := w.heap.size + 2) (.int .i64 X.bi) (.int .i64 X.bt) (.slice xa X.l.length xc) (.int .i64 M) OY.out (by omega) w.heap.size (by omega))
              go_region
              clear c0 c1 c2 c3 d0 d1 z0 z1 z2 z3 zf y0 y1 y2 y3 TY XY OY
              go_wp2
              obtain ⟨e1, e2⟩ := HP.out
              have e4 := e3.out
              clear HP e3
              revert e1 e2 e4
              generalize (World.setCell _ ⟨w.heap.size + 2, 3, none⟩ _) = W
              intro e1 e2 e4
              exact bodyPost_ret (v := .tuple #[logV ⟨X.bi, X.bt, X.l, M⟩ (.slice xa X.l.length xc), .int .i64 (max (pi + (es.length : Int)) bi), .bool true, .int .i64 0]) (by simp [results, Try.results24, go_sem, cell_at e1, logV, logA]) rfl ⟨_, by rw [HMM.out]; rfl, own_keep e4 (Below.refl _ W).drew, e2.drew⟩
            · have hxb : (x != 0) = true := by simp [hx]
              rw [if_pos hx]
              clear hx hin
              go_enter Try.func24, Try.ntmps24
              go_wp2_with fail
              refine H1.out.mono ?_
              rintro e w1 ⟨rfl, hbl⟩
              dsimp only
              have T1 := hideIt (T0.out.keep hbl)
              obtain ⟨c0, c1, c2, c3, d0, d1⟩ := T1.out.cells
              simp only at c0 c1 c2 c3
              clear hbl T0 H1
              go_wp2_with fail
              refine (HMK.out _).mono ?_
              rintro e w2 ⟨rfl, hbl⟩
              dsimp only
              have T2 := hideIt (T1.out.keep hbl)
              clear hbl T1 c0 c1 c2 c3 d0 d1
              obtain ⟨c0, c1, c2, c3, d0, d1⟩ := T2.out.cells
              simp only at c0 c1 c2 c3
              go_wp2_with fail
              refine (HWI.out _).mono ?_
              rintro e w3 ⟨rfl, rfl⟩
              dsimp only
              go_wp2_with fail
              refine (HRW.out _ T2.out.bel).mono ?_
              rintro e w3 ⟨rfl, hbl⟩
              dsimp only
              have T3 := hideIt (T2.out.keep hbl)
              clear hbl T2 c0 c1 c2 c3 d0 d1
              obtain ⟨c0, c1, c2, c3, d0, d1⟩ := T3.out.cells
              simp only at c0 c1 c2 c3
              clear HMK HWI HRW
              go_wp2_with fail
              refine (HPU.out _ T3.out.bel).mono ?_
              rintro e w5 ⟨gx, rfl, ho, hbl⟩
              dsimp only
              obtain ⟨xa, xc, rfl⟩ := own_len ho
              have T5 := hideIt (T3.out.keep (below_via hbl (below1 w5 (.cells #[.int .i64 X.bi, .int .i64 X.bt, .slice xa X.l.length xc, .int .i64 X.cm] 26))))
              have X5 := hideIt (heap_alloc_new w5 (.cells #[.int .i64 X.bi, .int .i64 X.bt, .slice xa X.l.length xc, .int .i64 X.cm] 26))
              have BY := belowSet (b := w5.heap.size) (j := 3) (.int .i64 (max cm (min cc (pi + (es.length : Int))))) (below1 w5 (.cells #[.int .i64 X.bi, .int .i64 X.bt, .slice xa X.l.length xc, .int .i64 X.cm] 26)) (Nat.le_refl _)
              have TY := hideIt (T3.out.keep (below_via hbl BY))
              have XY := hideIt (heap_set X5.out 3 (.int .i64 (max cm (min cc (pi + (es.length : Int))))))
              have OY := hideIt (own_base (own_keep ho BY) T3.out.size)
              clear ho hbl HPU T3 c0 c1 c2 c3 d0 d1 BY
              go_upto_region 9 with fail
              generalize w5.alloc (.cells #[.int .i64 X.bi, .int .i64 X.bt, .slice xa X.l.length xc, .int .i64 X.cm] 26) = w6 at *
              generalize w5.heap.size = k5 at *
              obtain ⟨c0, c1, c2, c3, d0, d1⟩ := T5.out.cells
              simp only at c0 c1 c2 c3
              clear X5 TY XY OY c0 c1 c2 c3 d0 d1
              obtain ⟨z0, z1, z2, z3, zf⟩ := T5.out.zero
              have HP := T5.out.put (.int .i64 0) (.int .i64 0) (.slice none 0 0) (.int .i64 0)
              obtain ⟨e1, e2⟩ := HP.out
              clear HP T5
              go_wp2
              revert e1 e2
              generalize (World.setCell _ ⟨w.heap.size + 2, 3, none⟩ _) = W
              intro e1 e2
              exact bodyPost_ret (v := .tuple #[logV zL (.slice none 0 0), .int .i64 0, .bool false, .int .i64 x]) (by simp [results, Try.results24, go_sem, cell_at e1, logV, logA, zL]) rfl ⟨_, rfl, own_nil _ _, e2⟩
end Go.Proofs.Ytonhoopmhkomcaa
