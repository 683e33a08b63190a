/- Texts of my own, laid together. -/
import Derived.Test.YtcaehfkfohianaaGreatPz08
import Derived.Shelf.Small.Wraps
import Derived.Shelf.Slices.Turned
import Derived.Ground.Names2Prog
import Derived.Shelf.Slices.Clone
import Derived.Ground.SlgmProg
import Derived.Shelf.SortM.Plain
import Derived.Shelf.SortM.SortNone
import Derived.Test.YtcaehfkfohianaaGreatProg
import Derived.Test.YtcaehfkfohianaaGreatPz07
import Derived.Sort.OwnSortedInts
set_option linter.all false
namespace Go.Proofs.YtcaehfkfohianaaGreat
open Go.RowKit
def AccBack (X : LogV × Int × Bool × Int) (w : World) (e : Ending) (w' : World) : Prop := ∃ g, e = .returned (.tuple #[logV X.1 g, .int .i64 X.2.1, .bool X.2.2.1, .int .i64 X.2.2.2]) ∧ w'.ownsRow w.heap.size 55 3 g X.1.l.length (entC X.1.l) ∧ Below w.heap.size w w'
set_option maxHeartbeats 16000000 in
set_option maxRecDepth 100000 in
theorem accept_is (L : LogV) (g k : Value) (pi pt : Int) (es : List EntV) (cc : Int) (w : World) (h : EGot w g L.l) (hk : EGot w k es) : Calls Tryz.prog 195 #[logV L g, .agg #[.int .i64 pi, .int .i64 pt], k, .int .i64 cc] w (AccBack (accL L pi pt es cc) w) := by
 have T0 := hideIt (LMR.first w L g pi pt);have H1 := hideIt (mayBe_is L g _ (h.keep T0.out.bel));have HMK := hideIt (fun wx => isMark_is pi pt wx);have HWI := hideIt (fun wx => within_is cc 0 1000000 wx);have HRW := hideIt (fun wx (hx : Below w.heap.size w wx) => areEntries_is k es pt wx (hk.keep hx));unfold AccBack accL;cases hm : mayB L
 ·rw [hm] at H1;rw [if_pos rfl];obtain ⟨a, c, rfl⟩ := h.slice;obtain ⟨ka, kc, rfl⟩ := hk.slice;unfold logV logA at *;obtain ⟨bi, bt, l, cm⟩ := L;simp only at H1 T0 ⊢;clear h hk
  go_enter Tryz.func195, Tryz.ntmps195
  go_wp2_with fail
  refine H1.out.mono ?_;rintro e w1 ⟨rfl, hbl⟩;dsimp only;have T1 := hideIt (T0.out.keep hbl);obtain ⟨c0, c1, c2, c3, d0, d1⟩ := T1.out.cells;simp only at c0 c1 c2 c3;clear hbl T0 H1;obtain ⟨z0, z1, z2, z3, zf⟩ := T1.out.zero;have HP := T1.out.put (.int .i64 0) (.int .i64 0) (.slice none 0 0) (.int .i64 0);obtain ⟨e1, e2⟩ := HP.out;clear HP T1;go_wp2
  revert e1 e2
  generalize (World.setCell _ ⟨w.heap.size + 2, 3, none⟩ _) = W;intro e1 e2;exact bodyPost_ret (v := .tuple #[logV zL (.slice none 0 0), .int .i64 0, .bool false, .int .i64 80]) (by simp [results, Tryz.results195, go_sem, cell_at e1, logV, logA, zL]) rfl ⟨_, rfl, own_nil _ _, e2⟩
 ·rw [hm] at H1;rw [if_neg (by simp)];have hin := mayB_in hm;have HHM := hideIt (fun wx (hx : Below w.heap.size w wx) => hasMark_is L g pi pt wx (h.keep hx) (near_may hm));have HMI := hideIt (hasM_in (L := L) (i := pi) (t := pt));have HPU := hideIt (fun hp hpl her wx (hx : Below w.heap.size w wx) => put_is L g k pi pt es wx (h.keep hx) (hk.keep hx) hm hp hpl her);have HPL := hideIt (put_len L pi es hin.2.2.1);have HAN := hideIt (fun wx (hx : Below w.heap.size w wx) => anew_is _ _ [L.l] L.l (by simp) _ (LsGot.one (h.keep hx)) (by omega) (by simp) (text_rows hin.2.2.2.1));have hE8 := hk.1;have hlas : lasI L = L.bi + (L.l.length : Int) := rfl;obtain ⟨a, c, rfl⟩ := h.slice;obtain ⟨ka, kc, rfl⟩ := hk.slice;unfold argB;cases h2 : mkB pi pt
  ·rw [h2] at HMK;simp only [Bool.false_and, if_true];unfold logV logA at *;obtain ⟨bi, bt, l, cm⟩ := L;simp only at H1 T0 ⊢;clear h hk hin HHM HMI HPU HPL HAN
   go_enter Tryz.func195, Tryz.ntmps195
   go_wp2_with fail
   refine H1.out.mono ?_;rintro e w1 ⟨rfl, hbl⟩;dsimp only;have T1 := hideIt (T0.out.keep hbl);obtain ⟨c0, c1, c2, c3, d0, d1⟩ := T1.out.cells;simp only at c0 c1 c2 c3;clear hbl T0 H1
   go_wp2_with fail
   refine (HMK.out _).mono ?_;rintro e w2 ⟨rfl, hbl⟩;dsimp only;have T2 := hideIt (T1.out.keep hbl);clear hbl T1 c0 c1 c2 c3 d0 d1;obtain ⟨c0, c1, c2, c3, d0, d1⟩ := T2.out.cells;simp only at c0 c1 c2 c3;obtain ⟨z0, z1, z2, z3, zf⟩ := T2.out.zero;have HP := T2.out.put (.int .i64 0) (.int .i64 0) (.slice none 0 0) (.int .i64 0);obtain ⟨e1, e2⟩ := HP.out;clear HP T2;go_wp2
   revert e1 e2
   generalize (World.setCell _ ⟨w.heap.size + 2, 3, none⟩ _) = W;intro e1 e2;exact bodyPost_ret (v := .tuple #[logV zL (.slice none 0 0), .int .i64 0, .bool false, .int .i64 1]) (by simp [results, Tryz.results195, go_sem, cell_at e1, logV, logA, zL]) rfl ⟨_, rfl, own_nil _ _, e2⟩
  ·rw [h2] at HMK;cases h3 : wiB cc 0 1000000
   ·rw [h3] at HWI;simp only [Bool.false_and, Bool.and_false, if_true];unfold logV logA at *;obtain ⟨bi, bt, l, cm⟩ := L;simp only at H1 T0 ⊢;clear h hk hin HHM HMI HPU HPL HAN
    go_enter Tryz.func195, Tryz.ntmps195
    go_wp2_with fail
    refine H1.out.mono ?_;rintro e w1 ⟨rfl, hbl⟩;dsimp only;have T1 := hideIt (T0.out.keep hbl);obtain ⟨c0, c1, c2, c3, d0, d1⟩ := T1.out.cells;simp only at c0 c1 c2 c3;clear hbl T0 H1
    go_wp2_with fail
    refine (HMK.out _).mono ?_;rintro e w2 ⟨rfl, hbl⟩;dsimp only;have T2 := hideIt (T1.out.keep hbl);clear hbl T1 c0 c1 c2 c3 d0 d1;obtain ⟨c0, c1, c2, c3, d0, d1⟩ := T2.out.cells;simp only at c0 c1 c2 c3
    go_wp2_with fail
    refine (HWI.out _).mono ?_;rintro e w3 ⟨rfl, rfl⟩;dsimp only;obtain ⟨z0, z1, z2, z3, zf⟩ := T2.out.zero;have HP := T2.out.put (.int .i64 0) (.int .i64 0) (.slice none 0 0) (.int .i64 0);obtain ⟨e1, e2⟩ := HP.out;clear HP T2;go_wp2
    revert e1 e2
    generalize (World.setCell _ ⟨w.heap.size + 2, 3, none⟩ _) = W;intro e1 e2;exact bodyPost_ret (v := .tuple #[logV zL (.slice none 0 0), .int .i64 0, .bool false, .int .i64 1]) (by simp [results, Tryz.results195, go_sem, cell_at e1, logV, logA, zL]) rfl ⟨_, rfl, own_nil _ _, e2⟩
   ·rw [h3] at HWI;cases h4 : rowsB es pt
    ·rw [h4] at HRW;simp only [Bool.and_false, if_true];unfold logV logA at *;obtain ⟨bi, bt, l, cm⟩ := L;simp only at H1 T0 ⊢;clear h hk hin HHM HMI HPU HPL HAN
     go_enter Tryz.func195, Tryz.ntmps195
     go_wp2_with fail
     refine H1.out.mono ?_;rintro e w1 ⟨rfl, hbl⟩;dsimp only;have T1 := hideIt (T0.out.keep hbl);obtain ⟨c0, c1, c2, c3, d0, d1⟩ := T1.out.cells;simp only at c0 c1 c2 c3;clear hbl T0 H1
     go_wp2_with fail
     refine (HMK.out _).mono ?_;rintro e w2 ⟨rfl, hbl⟩;dsimp only;have T2 := hideIt (T1.out.keep hbl);clear hbl T1 c0 c1 c2 c3 d0 d1;obtain ⟨c0, c1, c2, c3, d0, d1⟩ := T2.out.cells;simp only at c0 c1 c2 c3
     go_wp2_with fail
     refine (HWI.out _).mono ?_;rintro e w3 ⟨rfl, rfl⟩;dsimp only
     go_wp2_with fail
     refine (HRW.out _ T2.out.bel).mono ?_;rintro e w3 ⟨rfl, hbl⟩;dsimp only;have T3 := hideIt (T2.out.keep hbl);clear hbl T2 c0 c1 c2 c3 d0 d1;obtain ⟨c0, c1, c2, c3, d0, d1⟩ := T3.out.cells;simp only at c0 c1 c2 c3;obtain ⟨z0, z1, z2, z3, zf⟩ := T3.out.zero;have HP := T3.out.put (.int .i64 0) (.int .i64 0) (.slice none 0 0) (.int .i64 0);obtain ⟨e1, e2⟩ := HP.out;clear HP T3;go_wp2
     revert e1 e2
     generalize (World.setCell _ ⟨w.heap.size + 2, 3, none⟩ _) = W;intro e1 e2;exact bodyPost_ret (v := .tuple #[logV zL (.slice none 0 0), .int .i64 0, .bool false, .int .i64 1]) (by simp [results, Tryz.results195, go_sem, cell_at e1, logV, logA, zL]) rfl ⟨_, rfl, own_nil _ _, e2⟩
    ·rw [h4] at HRW;simp only [Bool.and_self, Bool.true_eq_false, if_false];have hpin := mkB_in h2;have hcin : 0 ≤ cc ∧ cc ≤ 1000000 := of_decide_eq_true h3;obtain ⟨hcin1, hcin2⟩ := hcin;obtain ⟨⟨hp1, hp2⟩, _⟩ := hpin;have hto : IntKind.i64.wrap (pi + (es.length : Int)) = pi + (es.length : Int) := by rw [IntKind.wrap_i64]; omega
     by_cases hbi : L.bi ≤ pi
     ·cases h5 : hasM L pi pt
      ·rw [h5] at HHM;rw [if_pos ⟨hbi, rfl⟩];unfold logV logA at *;obtain ⟨bi, bt, l, cm⟩ := L;simp only at H1 T0 HHM HAN hbi ⊢;clear h hk hin HMI HPU HPL h2 h3 h4 h5 hm
       go_enter Tryz.func195, Tryz.ntmps195
       go_wp2_with fail
       refine H1.out.mono ?_;rintro e w1 ⟨rfl, hbl⟩;dsimp only;have T1 := hideIt (T0.out.keep hbl);obtain ⟨c0, c1, c2, c3, d0, d1⟩ := T1.out.cells;simp only at c0 c1 c2 c3;clear hbl T0 H1
       go_wp2_with fail
       refine (HMK.out _).mono ?_;rintro e w2 ⟨rfl, hbl⟩;dsimp only;have T2 := hideIt (T1.out.keep hbl);clear hbl T1 c0 c1 c2 c3 d0 d1;obtain ⟨c0, c1, c2, c3, d0, d1⟩ := T2.out.cells;simp only at c0 c1 c2 c3
       go_wp2_with fail
       refine (HWI.out _).mono ?_;rintro e w3 ⟨rfl, rfl⟩;dsimp only
       go_wp2_with fail
       refine (HRW.out _ T2.out.bel).mono ?_;rintro e w3 ⟨rfl, hbl⟩;dsimp only;have T3 := hideIt (T2.out.keep hbl);clear hbl T2 c0 c1 c2 c3 d0 d1;obtain ⟨c0, c1, c2, c3, d0, d1⟩ := T3.out.cells;simp only at c0 c1 c2 c3;clear HMK HWI HRW
       go_wp2_with fail
       refine (HHM.out _ T3.out.bel).mono ?_;rintro e w4 ⟨rfl, hbl⟩;dsimp only;have T4 := hideIt (T3.out.keep hbl);clear hbl T3 c0 c1 c2 c3 d0 d1;obtain ⟨c0, c1, c2, c3, d0, d1⟩ := T4.out.cells;simp only at c0 c1 c2 c3;clear HHM
       go_wp2_with fail
       refine (HAN.out _ T4.out.bel).mono ?_;rintro e w5 ⟨r, rfl, ho, hbl⟩;dsimp only;have T5 := hideIt (T4.out.keep (below_via (below1 w4 _) hbl));obtain ⟨ra, rc, rfl⟩ := own_len ho;have T6 := hideIt (T5.out.setL l (.slice ra l.length rc));have HO := hideIt (own_base ho (show w.heap.size + 3 ≤ _ from by have := T4.out.size; simp; omega))
       clear ho hbl T4 HAN c0 c1 c2 c3 d0 d1;obtain ⟨c0, c1, c2, c3, d0, d1⟩ := T5.out.cells;have ff := T5.out.free;simp only at c0 c1 c2 c3;have HP := T6.out.put (.int .i64 bi) (.int .i64 bt) (.slice ra l.length rc) (.int .i64 cm);obtain ⟨z0, z1, z2, z3, zf⟩ := T6.out.zero;obtain ⟨e1, e2⟩ := HP.out;have e3 := (own4 (R := w.heap.size + 2) (.int .i64 bi) (.int .i64 bt) (.slice ra l.length rc) (.int .i64 cm) (ownSet (b := w.heap.size) (j := 2) (.slice ra l.length rc) HO.out (by omega)) (by omega) w.heap.size (by omega)).out;clear HP HO T5 T6;go_wp2
       revert e1 e2 e3
       generalize (World.setCell _ ⟨w.heap.size + 2, 3, none⟩ _) = W;intro e1 e2 e3;exact bodyPost_ret (v := .tuple #[logV ⟨bi, bt, l, cm⟩ (.slice ra l.length rc), .int .i64 0, .bool false, .int .i64 0]) (by simp [results, Tryz.results195, go_sem, cell_at e1, logV, logA]) rfl ⟨_, rfl, e3, e2⟩
      ·rw [h5] at HHM;rw [if_neg (by simp)];replace HPU := hideIt (HPU.out ⟨hp1, hp2⟩ (HMI.out h5).2 h4);unfold LogErr at HPU;generalize putL L pi es = XX at *;obtain ⟨X, x⟩ := XX;unfold logV logA at *;obtain ⟨bi, bt, l, cm⟩ := L;simp only at H1 T0 HHM HPU HPL hbi hin ⊢;clear h hk HMI h2 h3 h4 h5 hm HAN
       by_cases hx : x = 0
       ·subst hx;rw [if_neg (by simp)];clear hin
        go_enter Tryz.func195, Tryz.ntmps195
        go_wp2_with fail
        refine H1.out.mono ?_;rintro e w1 ⟨rfl, hbl⟩;dsimp only;have T1 := hideIt (T0.out.keep hbl);obtain ⟨c0, c1, c2, c3, d0, d1⟩ := T1.out.cells;simp only at c0 c1 c2 c3;clear hbl T0 H1
        go_wp2_with fail
        refine (HMK.out _).mono ?_;rintro e w2 ⟨rfl, hbl⟩;dsimp only;have T2 := hideIt (T1.out.keep hbl);clear hbl T1 c0 c1 c2 c3 d0 d1;obtain ⟨c0, c1, c2, c3, d0, d1⟩ := T2.out.cells;simp only at c0 c1 c2 c3
        go_wp2_with fail
        refine (HWI.out _).mono ?_;rintro e w3 ⟨rfl, rfl⟩;dsimp only
        go_wp2_with fail
        refine (HRW.out _ T2.out.bel).mono ?_;rintro e w3 ⟨rfl, hbl⟩;dsimp only;have T3 := hideIt (T2.out.keep hbl);clear hbl T2 c0 c1 c2 c3 d0 d1;obtain ⟨c0, c1, c2, c3, d0, d1⟩ := T3.out.cells;simp only at c0 c1 c2 c3;clear HMK HWI HRW
        go_wp2_with fail
        refine (HHM.out _ T3.out.bel).mono ?_;rintro e w4 ⟨rfl, hbl⟩;dsimp only;have T4 := hideIt (T3.out.keep hbl);clear hbl T3 c0 c1 c2 c3 d0 d1;obtain ⟨c0, c1, c2, c3, d0, d1⟩ := T4.out.cells;simp only at c0 c1 c2 c3;clear HHM
        go_wp2_with fail
        refine (HPU.out _ T4.out.bel).mono ?_;rintro e w5 ⟨gx, rfl, ho, hbl⟩;dsimp only;obtain ⟨xa, xc, rfl⟩ := own_len ho;have T5 := hideIt (T4.out.keep (below_via hbl (below1 w5 (.cells #[.int .i64 X.bi, .int .i64 X.bt, .slice xa X.l.length xc, .int .i64 X.cm] 36))));have X5 := hideIt (heap_alloc_new w5 (.cells #[.int .i64 X.bi, .int .i64 X.bt, .slice xa X.l.length xc, .int .i64 X.cm] 36));have BY := belowSet (b := w5.heap.size) (j := 3) (.int .i64 (max cm (min cc (pi + (es.length : Int))))) (below1 w5 (.cells #[.int .i64 X.bi, .int .i64 X.bt, .slice xa X.l.length xc, .int .i64 X.cm] 36)) (Nat.le_refl _);have TY := hideIt (T4.out.keep (below_via hbl BY));have XY := hideIt (heap_set X5.out 3 (.int .i64 (max cm (min cc (pi + (es.length : Int))))));have OY := hideIt (own_base (own_keep ho BY) T4.out.size);clear ho hbl HPU T4 c0 c1 c2 c3 d0 d1 BY
        go_upto_region 9 with fail
        generalize w5.alloc (.cells #[.int .i64 X.bi, .int .i64 X.bt, .slice xa X.l.length xc, .int .i64 X.cm] 36) = w6 at *;generalize w5.heap.size = k5 at *;obtain ⟨c0, c1, c2, c3, d0, d1⟩ := T5.out.cells;simp only at c0 c1 c2 c3;have x3 : w6.cell? ⟨k5, 3, none⟩ = some (.int .i64 X.cm) := by rw [cell_at X5.out]; rfl
        have xf : ∀ j, w6.frozen? ⟨k5, j, none⟩ = false := fun j => free_at X5.out j
        go_upto_region 13 with fail
        clear x3 xf X5 T5 c0 c1 c2 c3 d0 d1;obtain ⟨M, hM⟩ : ∃ M, M = max cm (min cc (pi + (es.length : Int))) := ⟨_, rfl⟩;rw [← hM] at TY XY OY ⊢;have HMM := hideIt hM;clear hM;generalize w6.setCell ⟨k5, 3, none⟩ (.int .i64 M) = Y at *;obtain ⟨c0, c1, c2, c3, d0, d1⟩ := TY.out.cells;obtain ⟨z0, z1, z2, z3, zf⟩ := TY.out.zero;simp only at c0 c1 c2 c3;have y0 : Y.cell? ⟨k5, 0, none⟩ = some (.int .i64 X.bi) := by rw [cell_at XY.out]; rfl
        have y1 : Y.cell? ⟨k5, 1, none⟩ = some (.int .i64 X.bt) := by rw [cell_at XY.out]; rfl
        have y2 : Y.cell? ⟨k5, 2, none⟩ = some (.slice xa X.l.length xc) := by rw [cell_at XY.out]; rfl
        have y3 : Y.cell? ⟨k5, 3, none⟩ = some (.int .i64 M) := by rw [cell_at XY.out]; rfl
        have HP := TY.out.put (.int .i64 X.bi) (.int .i64 X.bt) (.slice xa X.l.length xc) (.int .i64 M);have e3 := (own4 (R := w.heap.size + 2) (.int .i64 X.bi) (.int .i64 X.bt) (.slice xa X.l.length xc) (.int .i64 M) OY.out (by omega) w.heap.size (by omega))
        go_region
        clear c0 c1 c2 c3 d0 d1 z0 z1 z2 z3 zf y0 y1 y2 y3 TY XY OY;go_wp2;obtain ⟨e1, e2⟩ := HP.out;have e4 := e3.out;clear HP e3
        revert e1 e2 e4
        generalize (World.setCell _ ⟨w.heap.size + 2, 3, none⟩ _) = W;intro e1 e2 e4;exact bodyPost_ret (v := .tuple #[logV ⟨X.bi, X.bt, X.l, M⟩ (.slice xa X.l.length xc), .int .i64 (max (pi + (es.length : Int)) bi), .bool true, .int .i64 0]) (by simp [results, Tryz.results195, go_sem, cell_at e1, logV, logA]) rfl ⟨_, by rw [HMM.out]; rfl, own_keep e4 (Below.refl _ W).drew, e2.drew⟩
       ·have hxb : (x != 0) = true := by simp [hx]
        rw [if_pos hx];clear hx hin
        go_enter Tryz.func195, Tryz.ntmps195
        go_wp2_with fail
        refine H1.out.mono ?_;rintro e w1 ⟨rfl, hbl⟩;dsimp only;have T1 := hideIt (T0.out.keep hbl);obtain ⟨c0, c1, c2, c3, d0, d1⟩ := T1.out.cells;simp only at c0 c1 c2 c3;clear hbl T0 H1
        go_wp2_with fail
        refine (HMK.out _).mono ?_;rintro e w2 ⟨rfl, hbl⟩;dsimp only;have T2 := hideIt (T1.out.keep hbl);clear hbl T1 c0 c1 c2 c3 d0 d1;obtain ⟨c0, c1, c2, c3, d0, d1⟩ := T2.out.cells;simp only at c0 c1 c2 c3
        go_wp2_with fail
        refine (HWI.out _).mono ?_;rintro e w3 ⟨rfl, rfl⟩;dsimp only
        go_wp2_with fail
        refine (HRW.out _ T2.out.bel).mono ?_;rintro e w3 ⟨rfl, hbl⟩;dsimp only;have T3 := hideIt (T2.out.keep hbl);clear hbl T2 c0 c1 c2 c3 d0 d1;obtain ⟨c0, c1, c2, c3, d0, d1⟩ := T3.out.cells;simp only at c0 c1 c2 c3;clear HMK HWI HRW
        go_wp2_with fail
        refine (HHM.out _ T3.out.bel).mono ?_;rintro e w4 ⟨rfl, hbl⟩;dsimp only;have T4 := hideIt (T3.out.keep hbl);clear hbl T3 c0 c1 c2 c3 d0 d1;obtain ⟨c0, c1, c2, c3, d0, d1⟩ := T4.out.cells;simp only at c0 c1 c2 c3;clear HHM
        go_wp2_with fail
        refine (HPU.out _ T4.out.bel).mono ?_;rintro e w5 ⟨gx, rfl, ho, hbl⟩;dsimp only;obtain ⟨xa, xc, rfl⟩ := own_len ho;have T5 := hideIt (T4.out.keep (below_via hbl (below1 w5 (.cells #[.int .i64 X.bi, .int .i64 X.bt, .slice xa X.l.length xc, .int .i64 X.cm] 36))));have X5 := hideIt (heap_alloc_new w5 (.cells #[.int .i64 X.bi, .int .i64 X.bt, .slice xa X.l.length xc, .int .i64 X.cm] 36));have BY := belowSet (b := w5.heap.size) (j := 3) (.int .i64 (max cm (min cc (pi + (es.length : Int))))) (below1 w5 (.cells #[.int .i64 X.bi, .int .i64 X.bt, .slice xa X.l.length xc, .int .i64 X.cm] 36)) (Nat.le_refl _);have TY := hideIt (T4.out.keep (below_via hbl BY));have XY := hideIt (heap_set X5.out 3 (.int .i64 (max cm (min cc (pi + (es.length : Int))))));have OY := hideIt (own_base (own_keep ho BY) T4.out.size);clear ho hbl HPU T4 c0 c1 c2 c3 d0 d1 BY
        go_upto_region 9 with fail
        generalize w5.alloc (.cells #[.int .i64 X.bi, .int .i64 X.bt, .slice xa X.l.length xc, .int .i64 X.cm] 36) = w6 at *;generalize w5.heap.size = k5 at *;obtain ⟨c0, c1, c2, c3, d0, d1⟩ := T5.out.cells;simp only at c0 c1 c2 c3;clear X5 TY XY OY c0 c1 c2 c3 d0 d1;obtain ⟨z0, z1, z2, z3, zf⟩ := T5.out.zero;have HP := T5.out.put (.int .i64 0) (.int .i64 0) (.slice none 0 0) (.int .i64 0);obtain ⟨e1, e2⟩ := HP.out;clear HP T5;go_wp2
        revert e1 e2
        generalize (World.setCell _ ⟨w.heap.size + 2, 3, none⟩ _) = W;intro e1 e2;exact bodyPost_ret (v := .tuple #[logV zL (.slice none 0 0), .int .i64 0, .bool false, .int .i64 x]) (by simp [results, Tryz.results195, go_sem, cell_at e1, logV, logA, zL]) rfl ⟨_, rfl, own_nil _ _, e2⟩
     ·have hbiI : pi < L.bi := by omega
      rw [if_neg (fun hc => hbi hc.1)];replace HPU := hideIt (HPU.out ⟨hp1, hp2⟩ (by omega) h4);unfold LogErr at HPU;generalize putL L pi es = XX at *;obtain ⟨X, x⟩ := XX;unfold logV logA at *;obtain ⟨bi, bt, l, cm⟩ := L;simp only at H1 T0 HPU HPL hbi hbiI hin ⊢;clear h hk HMI h2 h3 h4 hm HAN HHM
      by_cases hx : x = 0
      ·subst hx;rw [if_neg (by simp)];clear hin
       go_enter Tryz.func195, Tryz.ntmps195
       go_wp2_with fail
       refine H1.out.mono ?_;rintro e w1 ⟨rfl, hbl⟩;dsimp only;have T1 := hideIt (T0.out.keep hbl);obtain ⟨c0, c1, c2, c3, d0, d1⟩ := T1.out.cells;simp only at c0 c1 c2 c3;clear hbl T0 H1
       go_wp2_with fail
       refine (HMK.out _).mono ?_;rintro e w2 ⟨rfl, hbl⟩;dsimp only;have T2 := hideIt (T1.out.keep hbl);clear hbl T1 c0 c1 c2 c3 d0 d1;obtain ⟨c0, c1, c2, c3, d0, d1⟩ := T2.out.cells;simp only at c0 c1 c2 c3
       go_wp2_with fail
       refine (HWI.out _).mono ?_;rintro e w3 ⟨rfl, rfl⟩;dsimp only
       go_wp2_with fail
       refine (HRW.out _ T2.out.bel).mono ?_;rintro e w3 ⟨rfl, hbl⟩;dsimp only;have T3 := hideIt (T2.out.keep hbl);clear hbl T2 c0 c1 c2 c3 d0 d1;obtain ⟨c0, c1, c2, c3, d0, d1⟩ := T3.out.cells;simp only at c0 c1 c2 c3;clear HMK HWI HRW
       go_wp2_with fail
       refine (HPU.out _ T3.out.bel).mono ?_;rintro e w5 ⟨gx, rfl, ho, hbl⟩;dsimp only;obtain ⟨xa, xc, rfl⟩ := own_len ho;have T5 := hideIt (T3.out.keep (below_via hbl (below1 w5 (.cells #[.int .i64 X.bi, .int .i64 X.bt, .slice xa X.l.length xc, .int .i64 X.cm] 36))));have X5 := hideIt (heap_alloc_new w5 (.cells #[.int .i64 X.bi, .int .i64 X.bt, .slice xa X.l.length xc, .int .i64 X.cm] 36));have BY := belowSet (b := w5.heap.size) (j := 3) (.int .i64 (max cm (min cc (pi + (es.length : Int))))) (below1 w5 (.cells #[.int .i64 X.bi, .int .i64 X.bt, .slice xa X.l.length xc, .int .i64 X.cm] 36)) (Nat.le_refl _);have TY := hideIt (T3.out.keep (below_via hbl BY));have XY := hideIt (heap_set X5.out 3 (.int .i64 (max cm (min cc (pi + (es.length : Int))))));have OY := hideIt (own_base (own_keep ho BY) T3.out.size);clear ho hbl HPU T3 c0 c1 c2 c3 d0 d1 BY
       go_upto_region 9 with fail
       generalize w5.alloc (.cells #[.int .i64 X.bi, .int .i64 X.bt, .slice xa X.l.length xc, .int .i64 X.cm] 36) = w6 at *;generalize w5.heap.size = k5 at *;obtain ⟨c0, c1, c2, c3, d0, d1⟩ := T5.out.cells;simp only at c0 c1 c2 c3;have x3 : w6.cell? ⟨k5, 3, none⟩ = some (.int .i64 X.cm) := by rw [cell_at X5.out]; rfl
       have xf : ∀ j, w6.frozen? ⟨k5, j, none⟩ = false := fun j => free_at X5.out j
       go_upto_region 13 with fail
       clear x3 xf X5 T5 c0 c1 c2 c3 d0 d1;obtain ⟨M, hM⟩ : ∃ M, M = max cm (min cc (pi + (es.length : Int))) := ⟨_, rfl⟩;rw [← hM] at TY XY OY ⊢;have HMM := hideIt hM;clear hM;generalize w6.setCell ⟨k5, 3, none⟩ (.int .i64 M) = Y at *;obtain ⟨c0, c1, c2, c3, d0, d1⟩ := TY.out.cells;obtain ⟨z0, z1, z2, z3, zf⟩ := TY.out.zero;simp only at c0 c1 c2 c3;have y0 : Y.cell? ⟨k5, 0, none⟩ = some (.int .i64 X.bi) := by rw [cell_at XY.out]; rfl
       have y1 : Y.cell? ⟨k5, 1, none⟩ = some (.int .i64 X.bt) := by rw [cell_at XY.out]; rfl
       have y2 : Y.cell? ⟨k5, 2, none⟩ = some (.slice xa X.l.length xc) := by rw [cell_at XY.out]; rfl
       have y3 : Y.cell? ⟨k5, 3, none⟩ = some (.int .i64 M) := by rw [cell_at XY.out]; rfl
       have HP := TY.out.put (.int .i64 X.bi) (.int .i64 X.bt) (.slice xa X.l.length xc) (.int .i64 M);have e3 := (own4 (R := w.heap.size + 2) (.int .i64 X.bi) (.int .i64 X.bt) (.slice xa X.l.length xc) (.int .i64 M) OY.out (by omega) w.heap.size (by omega))
       go_region
       clear c0 c1 c2 c3 d0 d1 z0 z1 z2 z3 zf y0 y1 y2 y3 TY XY OY;go_wp2;obtain ⟨e1, e2⟩ := HP.out;have e4 := e3.out;clear HP e3
       revert e1 e2 e4
       generalize (World.setCell _ ⟨w.heap.size + 2, 3, none⟩ _) = W;intro e1 e2 e4;exact bodyPost_ret (v := .tuple #[logV ⟨X.bi, X.bt, X.l, M⟩ (.slice xa X.l.length xc), .int .i64 (max (pi + (es.length : Int)) bi), .bool true, .int .i64 0]) (by simp [results, Tryz.results195, go_sem, cell_at e1, logV, logA]) rfl ⟨_, by rw [HMM.out]; rfl, own_keep e4 (Below.refl _ W).drew, e2.drew⟩
      ·have hxb : (x != 0) = true := by simp [hx]
       rw [if_pos hx];clear hx hin
       go_enter Tryz.func195, Tryz.ntmps195
       go_wp2_with fail
       refine H1.out.mono ?_;rintro e w1 ⟨rfl, hbl⟩;dsimp only;have T1 := hideIt (T0.out.keep hbl);obtain ⟨c0, c1, c2, c3, d0, d1⟩ := T1.out.cells;simp only at c0 c1 c2 c3;clear hbl T0 H1
       go_wp2_with fail
       refine (HMK.out _).mono ?_;rintro e w2 ⟨rfl, hbl⟩;dsimp only;have T2 := hideIt (T1.out.keep hbl);clear hbl T1 c0 c1 c2 c3 d0 d1;obtain ⟨c0, c1, c2, c3, d0, d1⟩ := T2.out.cells;simp only at c0 c1 c2 c3
       go_wp2_with fail
       refine (HWI.out _).mono ?_;rintro e w3 ⟨rfl, rfl⟩;dsimp only
       go_wp2_with fail
       refine (HRW.out _ T2.out.bel).mono ?_;rintro e w3 ⟨rfl, hbl⟩;dsimp only;have T3 := hideIt (T2.out.keep hbl);clear hbl T2 c0 c1 c2 c3 d0 d1;obtain ⟨c0, c1, c2, c3, d0, d1⟩ := T3.out.cells;simp only at c0 c1 c2 c3;clear HMK HWI HRW
       go_wp2_with fail
       refine (HPU.out _ T3.out.bel).mono ?_;rintro e w5 ⟨gx, rfl, ho, hbl⟩;dsimp only;obtain ⟨xa, xc, rfl⟩ := own_len ho;have T5 := hideIt (T3.out.keep (below_via hbl (below1 w5 (.cells #[.int .i64 X.bi, .int .i64 X.bt, .slice xa X.l.length xc, .int .i64 X.cm] 36))));have X5 := hideIt (heap_alloc_new w5 (.cells #[.int .i64 X.bi, .int .i64 X.bt, .slice xa X.l.length xc, .int .i64 X.cm] 36));have BY := belowSet (b := w5.heap.size) (j := 3) (.int .i64 (max cm (min cc (pi + (es.length : Int))))) (below1 w5 (.cells #[.int .i64 X.bi, .int .i64 X.bt, .slice xa X.l.length xc, .int .i64 X.cm] 36)) (Nat.le_refl _);have TY := hideIt (T3.out.keep (below_via hbl BY));have XY := hideIt (heap_set X5.out 3 (.int .i64 (max cm (min cc (pi + (es.length : Int))))));have OY := hideIt (own_base (own_keep ho BY) T3.out.size);clear ho hbl HPU T3 c0 c1 c2 c3 d0 d1 BY
       go_upto_region 9 with fail
       generalize w5.alloc (.cells #[.int .i64 X.bi, .int .i64 X.bt, .slice xa X.l.length xc, .int .i64 X.cm] 36) = w6 at *;generalize w5.heap.size = k5 at *;obtain ⟨c0, c1, c2, c3, d0, d1⟩ := T5.out.cells;simp only at c0 c1 c2 c3;clear X5 TY XY OY c0 c1 c2 c3 d0 d1;obtain ⟨z0, z1, z2, z3, zf⟩ := T5.out.zero;have HP := T5.out.put (.int .i64 0) (.int .i64 0) (.slice none 0 0) (.int .i64 0);obtain ⟨e1, e2⟩ := HP.out;clear HP T5;go_wp2
       revert e1 e2
       generalize (World.setCell _ ⟨w.heap.size + 2, 3, none⟩ _) = W;intro e1 e2;exact bodyPost_ret (v := .tuple #[logV zL (.slice none 0 0), .int .i64 0, .bool false, .int .i64 x]) (by simp [results, Tryz.results195, go_sem, cell_at e1, logV, logA, zL]) rfl ⟨_, rfl, own_nil _ _, e2⟩
end Go.Proofs.YtcaehfkfohianaaGreat
namespace Go.Proofs.YtcaehfkfohianaaGreat
open Go.Shelf
def lays114_ren : Go.Shelf.Ren := ⟨fun | 114 => 127 | n => n, fun | 28 => 32 | 3 => 3 | 4 => 4 | 9 => 9 | 20 => 20 | 0 => 0 | n => n, fun | n => n⟩
theorem lays114 : Go.Proofs.Lays.n114 Tryz.prog lays114_ren := {
 mixed := by kernel_rfl
 f114 := Tryz.func127.trans (congrArg some (by kernel_rfl))
 t0 := Tryz.underlying0
 a0 := Tryz.isAgg0
 z0 := Tryz.sizeOf0
 v0 := Tryz.zeroValue0
 t3 := Tryz.underlying3
 a3 := Tryz.isAgg3
 z3 := Tryz.sizeOf3
 v3 := Tryz.zeroValue3
 t4 := Tryz.underlying4
 a4 := Tryz.isAgg4
 z4 := Tryz.sizeOf4
 v4 := Tryz.zeroValue4
 t9 := Tryz.underlying9
 a9 := Tryz.isAgg9
 z9 := Tryz.sizeOf9
 v9 := Tryz.zeroValue9
 t20 := Tryz.underlying20
 a20 := Tryz.isAgg20
 z20 := Tryz.sizeOf20
 v20 := Tryz.zeroValue20
 t28 := Tryz.underlying32
 a28 := Tryz.isAgg32
 z28 := Tryz.sizeOf32
 v28 := Tryz.zeroValue32 }
open Go.Lib in
theorem slices_Min_int (b off n c : Nat) (zs : List Int) (w : World) (hn : 0 < n) (hz : n ≤ zs.length) (hbig : n ≤ 9223372036854775807) (hc : ∀ j, j < zs.length → w.cell? ⟨b, off + j, none⟩ = some (.int .i64 (zs.getD j 0))) :
  Calls Tryz.prog 127 #[.slice (some ⟨b, off, none⟩) n c] w fun e w' => e = .returned (.int .i64 (Lib.minOf (zs.take n))) ∧ w' = w := Any.slices_Min_int lays114 b off n c zs w hn hz hbig hc
def laysNm215_ren : Go.Shelf.Ren := ⟨fun | 15 => 50 | n => n, fun | 22 => 32 | 3 => 3 | 4 => 4 | n => n, fun | n => n⟩
theorem laysNm215 : Go.Proofs.Lays2.n15 Tryz.prog laysNm215_ren := {
 mixed := by kernel_rfl
 f15 := Tryz.func50.trans (congrArg some (by kernel_rfl))
 t3 := Tryz.underlying3
 a3 := Tryz.isAgg3
 z3 := Tryz.sizeOf3
 v3 := Tryz.zeroValue3
 t4 := Tryz.underlying4
 a4 := Tryz.isAgg4
 z4 := Tryz.sizeOf4
 v4 := Tryz.zeroValue4
 t22 := Tryz.underlying32
 a22 := Tryz.isAgg32
 z22 := Tryz.sizeOf32
 v22 := Tryz.zeroValue32
 i3 := by kernel_rfl }
open Go.RowKit Go.Lib in
theorem slices_Clone_int (b off n c : Nat) (zs : List Int) (w : World) (hz : n ≤ zs.length) (hbig : n * 8 ≤ 140737488355328) (hc : ∀ j, j < zs.length → w.cell? ⟨b, off + j, none⟩ = some (.int .i64 (zs.getD j 0))) :
  Calls Tryz.prog 50 #[.slice (some ⟨b, off, none⟩) n c] w fun e w' => ∃ v', e = .returned v' ∧ w'.ownsRow w.heap.size 3 1 v' n ((zs.take n).map (Value.int .i64)) ∧ v' ≠ .slice none 0 0 ∧ Below w.heap.size w w' := Any.slices_Clone_int laysNm215 b off n c zs w hz hbig hc
open Go.RowKit Go.Lib in
theorem slices_Clone_int_nil (n c : Nat) (w : World) :
  Calls Tryz.prog 50 #[.slice none n c] w fun e w' => e = .returned (.slice none 0 0) ∧ w' = w := Any.slices_Clone_int_nil laysNm215 n c w
open Go.RowKit Go.Lib in
theorem slices_Clone_int_zero (a : Addr) (c : Nat) (w : World) :
  Calls Tryz.prog 50 #[.slice (some a) 0 c] w fun e w' => ∃ v', e = .returned v' ∧ w'.ownsRow w.heap.size 3 1 v' 0 [] ∧ v' ≠ .slice none 0 0 ∧ Below w.heap.size w w' := Any.slices_Clone_int_zero laysNm215 a c w
def laysSlM5_f54_ren : Go.Shelf.Ren := ⟨fun | 5 => 201 | 8 => 211 | 7 => 210 | 19 => 222 | 20 => 223 | 10 => 214 | 11 => 215 | 12 => 216 | 13 => 217 | 14 => 218 | 15 => 219 | 16 => 170 | 17 => 220 | 18 => 221 | 30 => 225 | 31 => 226 | 32 => 227 | 33 => 228 | 34 => 229 | 35 => 199 | 40 => 230 | n => n, fun | 23 => 32 | 25 => 3 | 3 => 3 | 32 => 166 | 22 => 32 | 0 => 0 | 44 => 174 | 46 => 177 | 4 => 4 | 36 => 213 | 35 => 212 | 41 => 140 | 5 => 5 | 9 => 9 | 53 => 222 | 57 => 226 | 63 => 228 | 64 => 229 | n => n, fun | n => n⟩
theorem laysSlM5_f54 : Go.Proofs.SlLaysM.n5 Tryz.prog laysSlM5_f54_ren := {
 mixed := by kernel_rfl
 f5 := ⟨Tryz.f201.name, by decide, Tryz.func201.trans (congrArg some (by kernel_rfl))⟩
 f7 := ⟨Tryz.f210.name, by decide, Tryz.func210.trans (congrArg some (by kernel_rfl))⟩
 f8 := Tryz.func211.trans (congrArg some (by kernel_rfl))
 f10 := ⟨Tryz.f214.name, by decide, Tryz.func214.trans (congrArg some (by kernel_rfl))⟩
 f11 := ⟨Tryz.f215.name, by decide, Tryz.func215.trans (congrArg some (by kernel_rfl))⟩
 f12 := ⟨Tryz.f216.name, by decide, Tryz.func216.trans (congrArg some (by kernel_rfl))⟩
 f13 := ⟨Tryz.f217.name, by decide, Tryz.func217.trans (congrArg some (by kernel_rfl))⟩
 f14 := ⟨Tryz.f218.name, by decide, Tryz.func218.trans (congrArg some (by kernel_rfl))⟩
 f15 := ⟨Tryz.f219.name, by decide, Tryz.func219.trans (congrArg some (by kernel_rfl))⟩
 f16 := ⟨Tryz.f170.name, by decide, Tryz.func170.trans (congrArg some (by kernel_rfl))⟩
 f17 := ⟨Tryz.f220.name, by decide, Tryz.func220.trans (congrArg some (by kernel_rfl))⟩
 f18 := ⟨Tryz.f221.name, by decide, Tryz.func221.trans (congrArg some (by kernel_rfl))⟩
 f19 := Tryz.func222.trans (congrArg some (by kernel_rfl))
 f20 := Tryz.func223.trans (congrArg some (by kernel_rfl))
 f30 := ⟨Tryz.f225.name, by decide, Tryz.func225.trans (congrArg some (by kernel_rfl))⟩
 f31 := Tryz.func226.trans (congrArg some (by kernel_rfl))
 f32 := Tryz.func227.trans (congrArg some (by kernel_rfl))
 f33 := ⟨Tryz.f228.name, by decide, Tryz.func228.trans (congrArg some (by kernel_rfl))⟩
 f34 := ⟨Tryz.f229.name, by decide, Tryz.func229.trans (congrArg some (by kernel_rfl))⟩
 f35 := ⟨Tryz.f199.name, by decide, Tryz.func199.trans (congrArg some (by kernel_rfl))⟩
 f40 := ⟨Tryz.f230.name, by decide, Tryz.func230.trans (congrArg some (by kernel_rfl))⟩
 t0 := Tryz.underlying0
 a0 := Tryz.isAgg0
 z0 := Tryz.sizeOf0
 v0 := Tryz.zeroValue0
 t3 := Tryz.underlying3
 a3 := Tryz.isAgg3
 z3 := Tryz.sizeOf3
 v3 := Tryz.zeroValue3
 t4 := Tryz.underlying4
 a4 := Tryz.isAgg4
 z4 := Tryz.sizeOf4
 v4 := Tryz.zeroValue4
 t5 := Tryz.underlying5
 a5 := Tryz.isAgg5
 z5 := Tryz.sizeOf5
 v5 := Tryz.zeroValue5
 t9 := Tryz.underlying9
 a9 := Tryz.isAgg9
 z9 := Tryz.sizeOf9
 v9 := Tryz.zeroValue9
 t22 := Tryz.underlying32
 a22 := Tryz.isAgg32
 z22 := Tryz.sizeOf32
 v22 := Tryz.zeroValue32
 t23 := Tryz.underlying32
 a23 := Tryz.isAgg32
 z23 := Tryz.sizeOf32
 v23 := Tryz.zeroValue32
 t25 := Tryz.underlying3
 a25 := Tryz.isAgg3
 z25 := Tryz.sizeOf3
 v25 := Tryz.zeroValue3
 t32 := Tryz.underlying166
 a32 := Tryz.isAgg166
 z32 := Tryz.sizeOf166
 v32 := Tryz.zeroValue166
 t35 := Tryz.underlying212
 a35 := Tryz.isAgg212
 z35 := Tryz.sizeOf212
 v35 := Tryz.zeroValue212
 t36 := Tryz.underlying213
 a36 := Tryz.isAgg213
 z36 := Tryz.sizeOf213
 v36 := Tryz.zeroValue213
 t41 := Tryz.underlying140
 a41 := Tryz.isAgg140
 z41 := Tryz.sizeOf140
 v41 := Tryz.zeroValue140
 t44 := Tryz.underlying174
 a44 := Tryz.isAgg174
 z44 := Tryz.sizeOf174
 v44 := Tryz.zeroValue174
 t46 := Tryz.underlying177
 a46 := Tryz.isAgg177
 z46 := Tryz.sizeOf177
 v46 := Tryz.zeroValue177
 t53 := Tryz.underlying222
 a53 := Tryz.isAgg222
 z53 := Tryz.sizeOf222
 v53 := Tryz.zeroValue222
 t57 := Tryz.underlying226
 a57 := Tryz.isAgg226
 z57 := Tryz.sizeOf226
 v57 := Tryz.zeroValue226
 t63 := Tryz.underlying228
 a63 := Tryz.isAgg228
 z63 := Tryz.sizeOf228
 v63 := Tryz.zeroValue228
 t64 := Tryz.underlying229
 a64 := Tryz.isAgg229
 z64 := Tryz.sizeOf229
 v64 := Tryz.zeroValue229 }
open Go.Sort Go.RowKit in
theorem slices_Sort_int (blk off cap : Nat) (zs : List Int) (w : World) (hH : Holds (Value.int .i64) w blk off zs.toArray) (hblk : blk < w.heap.size) (hsz : zs.length < 4611686018427387904) :
  Calls Tryz.prog 201 #[.slice (some ⟨blk, off, none⟩) zs.length cap] w fun e w' =>
   e = .returned (.tuple #[]) ∧ ∃ n os, w' = grow (putRow (Value.int .i64) (Sort.ahead w n) blk off (zs.mergeSort fun x y => decide (x ≤ y)).toArray) os := AnyM.slices_Sort_int laysSlM5_f54 blk off cap zs w hH hblk hsz
end Go.Proofs.YtcaehfkfohianaaGreat
namespace Go.Proofs.YtcaehfkfohianaaGreat
open Go.RowKit
def NGot (w : World) (v : Value) (m : List Int) : Prop :=
 m.length * 8 ≤ 140737488355328 ∧ ∃ a c, v = .slice a m.length c ∧ (0 < m.length → ∃ b off, a = some ⟨b, off, none⟩ ∧ b < w.heap.size ∧ ∀ j, j < m.length → w.cell? ⟨b, off + j, none⟩ = some (.int .i64 (m.getD j 0)))
theorem NGot.keep {w w' : World} {v : Value} {m : List Int} (h : NGot w v m) (hb : Below w.heap.size w w') : NGot w' v m := by
 obtain ⟨h8, a, c, rfl, hr⟩ := h;refine ⟨h8, a, c, rfl, fun hp => ?_⟩;obtain ⟨b, off, rfl, hlt, hc⟩ := hr hp
 exact ⟨b, off, rfl, Nat.lt_of_lt_of_le hlt hb.size, fun j hj => (hb.cell hlt).trans (hc j hj)⟩
def sortL (m : List Int) : List Int := m.mergeSort fun x y => decide (x ≤ y)
theorem sortL_len (m : List Int) : (sortL m).length = m.length := List.length_mergeSort m
def midL (m : List Int) : Int := (sortL m).getD ((m.length - 1) / 2) 0
set_option maxHeartbeats 4000000 in
set_option maxRecDepth 100000 in
theorem reached_is (m : List Int) (g : Value) (w : World) (h : NGot w g m) (hn : 1 ≤ m.length ∧ m.length ≤ 7) : Calls Tryz.prog 176 #[g] w fun e w' => e = .returned (.int .i64 (midL m)) ∧ Below w.heap.size w w' := by
 obtain ⟨h8, a, c, rfl, hr⟩ := h;obtain ⟨b, off, rfl, hlt, hc⟩ := hr (by omega);have H1 := hideIt (slices_Clone_int b off m.length c m w (Nat.le_refl _) h8 hc);have HSo := hideIt (fun q cap wx hH hb => slices_Sort_int q 0 cap m wx hH hb (by omega));rw [List.take_of_length_le (Nat.le_refl _)] at H1;have hsl := sortL_len m;obtain ⟨ix, hix⟩ : ∃ ix : Nat, ix = (m.length - 1) / 2 := ⟨_, rfl⟩;have hix2 : ix < m.length := by omega
 have HM : Hid (midL m = (sortL m)[ix]'(by omega)) := by
  show _ = _
  unfold midL;rw [← hix, List.getD, List.getElem?_eq_getElem (by omega)]
  rfl
 have hI1 : ((m.length : Int) - 1).tdiv 2 = (ix : Int) := by
  rw [Int.tdiv_eq_ediv_of_nonneg (by omega)];omega
 have hI2 : (ix : Int) < (m.length : Int) := by omega
 have hI0 : (0 : Int) ≤ (ix : Int) := by omega
 clear hc hr
 go_enter Tryz.func176, Tryz.ntmps176
 go_wp2_with fail
 refine H1.out.mono ?_;rintro e w1 ⟨v1, rfl, ho, hne, hbl⟩;dsimp only;obtain ⟨_, ⟨hv, _⟩ | ⟨q, cap, cur, rfl, hB, hg, hnc, hcm, hs, ht⟩⟩ := ho
 ·exact absurd hv hne
 have hql := (Array.getElem?_eq_some_iff.1 hg).1;rw [Nat.mul_one] at ht;have HH := hideIt (holds_of_blockI hg ht)
 go_wp2_with fail
 refine (HSo.out q cap w1 HH.out hql).mono ?_;rintro e w2 ⟨rfl, N, os, rfl⟩;dsimp only;have ow := ownsRow_sortedI (base := w.heap.size) (n := N) (os := os) (ss := m) (ts := sortL m) hsl hB hg hnc hcm hs;have hbb : Below w.heap.size w (Sort.grow (Sort.putRow (Value.int .i64) (Sort.ahead w1 N) q 0 (sortL m).toArray) os) := below_out hbl (Out.ofGrown (F := fun k => k = q) (grownBy_sortedI (sortL m).toArray) (fun k e => by simpa using e.symm)) (fun k e => by omega);have hce : (Sort.grow (Sort.putRow (Value.int .i64) (Sort.ahead w1 N) q 0 (sortL m).toArray) os).cell? ⟨q, ix, none⟩ = some (.int .i64 (midL m)) := by
  rw [ow.cellAt ix (by omega), HM.out]
  simp [List.getElem?_map, List.getElem?_eq_getElem (show ix < (sortL m).length by omega)]
 have HB := hideIt hbb;clear ow hbb HM HH HSo H1 hne ht hs hg hbl hB;unfold sortL at hce HB;generalize Sort.grow (Sort.putRow (Value.int .i64) (Sort.ahead w1 N) q 0 (m.mergeSort fun x y => decide (x ≤ y)).toArray) os = w2 at *;clear hsl hix;go_wp2;go_ret
 exact ⟨rfl, HB.out⟩
def advB (term : Int) (m : List Int) : Bool := wiB term 1 1000000 && (wiB (m.length : Int) 1 7 && decide (0 ≤ Lib.minOf m))
def advL (L : LogV) (term : Int) (m : List Int) : LogV × Int :=
 if mayB L = false then (zL, 80) else if advB term m = false then (zL, 1) else
 if L.cm < midL m ∧ hasM L (midL m) term = true then (⟨L.bi, L.bt, L.l, midL m⟩, 0) else (L, 0)
structure LR (w : World) (L : LogV) (g : Value) (wx : World) : Prop where
 box : wx.heap[w.heap.size]? = some (.cells (logA L g) 36 (0, 0))
 res : wx.heap[w.heap.size + 1]? = some (.cells #[.int .i64 0, .int .i64 0, .slice none 0 0, .int .i64 0] 36 (0, 0))
 bel : Below w.heap.size w wx
theorem LR.first (w : World) (L : LogV) (g : Value) : LR w L g ((w.alloc (.cells (logA L g) 36)).alloc (.cells #[.int .i64 0, .int .i64 0, .slice none 0 0, .int .i64 0] 36)) := by
 have ht := two_heap w (.cells (logA L g) 36) (.cells #[.int .i64 0, .int .i64 0, .slice none 0 0, .int .i64 0] 36)
 exact ⟨ht.1, ht.2.1, below2 w _ _⟩
theorem LR.size {w wx : World} {L : LogV} {g : Value} (h : LR w L g wx) : w.heap.size + 2 ≤ wx.heap.size := (Array.getElem?_eq_some_iff.1 h.res).1
theorem LR.keep {w wx wy : World} {L : LogV} {g : Value} (h : LR w L g wx) (hb : Below wx.heap.size wx wy) : LR w L g wy := by
 have := h.size
 exact ⟨(hb.block _ (by omega)).trans h.box, (hb.block _ (by omega)).trans h.res, below_via h.bel hb⟩
theorem LR.cells {w wx : World} {L : LogV} {g : Value} (h : LR w L g wx) : wx.cell? ⟨w.heap.size, 0, none⟩ = some (.int .i64 L.bi) ∧ wx.cell? ⟨w.heap.size, 1, none⟩ = some (.int .i64 L.bt) ∧ wx.cell? ⟨w.heap.size, 2, none⟩ = some g ∧ wx.cell? ⟨w.heap.size, 3, none⟩ = some (.int .i64 L.cm) ∧ ∀ j, wx.frozen? ⟨w.heap.size, j, none⟩ = false :=
 ⟨by rw [cell_at h.box]; rfl, by rw [cell_at h.box]; rfl, by rw [cell_at h.box]; rfl, by rw [cell_at h.box]; rfl, fun j => free_at h.box j⟩
theorem LR.zero {w wx : World} {L : LogV} {g : Value} (h : LR w L g wx) : wx.cell? ⟨w.heap.size + 1, 0, none⟩ = some (.int .i64 0) ∧ wx.cell? ⟨w.heap.size + 1, 1, none⟩ = some (.int .i64 0) ∧ wx.cell? ⟨w.heap.size + 1, 2, none⟩ = some (.slice none 0 0) ∧ wx.cell? ⟨w.heap.size + 1, 3, none⟩ = some (.int .i64 0) ∧ ∀ j, wx.frozen? ⟨w.heap.size + 1, j, none⟩ = false :=
 ⟨by rw [cell_at h.res]; rfl, by rw [cell_at h.res]; rfl, by rw [cell_at h.res]; rfl, by rw [cell_at h.res]; rfl, fun j => free_at h.res j⟩
theorem LR.put {w wx : World} {L : LogV} {g : Value} (h : LR w L g wx) (v0 v1 v2 v3 : Value) : Hid (((((wx.setCell ⟨w.heap.size + 1, 0, none⟩ v0).setCell ⟨w.heap.size + 1, 1, none⟩ v1).setCell ⟨w.heap.size + 1, 2, none⟩ v2).setCell ⟨w.heap.size + 1, 3, none⟩ v3).heap[w.heap.size + 1]? = some (.cells #[v0, v1, v2, v3] 36 (0, 0)) ∧ Below w.heap.size w ((((wx.setCell ⟨w.heap.size + 1, 0, none⟩ v0).setCell ⟨w.heap.size + 1, 1, none⟩ v1).setCell ⟨w.heap.size + 1, 2, none⟩ v2).setCell ⟨w.heap.size + 1, 3, none⟩ v3)) :=
 fin4 v0 v1 v2 v3 h.res (by omega) h.bel
theorem LR.setL {w wx : World} {L : LogV} {g : Value} (h : LR w L g wx) (l' : List EntV) (g' : Value) : LR w ⟨L.bi, L.bt, l', L.cm⟩ g' (wx.setCell ⟨w.heap.size, 2, none⟩ g') :=
 ⟨heap_set h.box 2 g', setOther _ h.res (by omega), belowSet _ h.bel (Nat.le_refl _)⟩
theorem LR.setC {w wx : World} {L : LogV} {g : Value} (h : LR w L g wx) (x : Int) : LR w ⟨L.bi, L.bt, L.l, x⟩ g (wx.setCell ⟨w.heap.size, 3, none⟩ (.int .i64 x)) :=
 ⟨heap_set h.box 3 _, setOther _ h.res (by omega), belowSet _ h.bel (Nat.le_refl _)⟩
set_option maxHeartbeats 16000000 in
set_option maxRecDepth 100000 in
theorem advance_is (L : LogV) (g k : Value) (term : Int) (m : List Int) (w : World) (h : EGot w g L.l) (hk : NGot w k m) : Calls Tryz.prog 158 #[logV L g, .int .i64 term, k] w (LogErr (advL L term m) w) := by
 have T0 := hideIt (LR.first w L g);have H1 := hideIt (mayBe_is L g _ (h.keep T0.out.bel));have HW1 := hideIt (fun wx => within_is term 1 1000000 wx);have HW2 := hideIt (fun wx => within_is (m.length : Int) 1 7 wx);unfold LogErr advL;cases hm : mayB L
 ·rw [hm] at H1;rw [if_pos rfl];obtain ⟨a, c, rfl⟩ := h.slice;obtain ⟨_, ka, kc, rfl, _⟩ := hk;unfold logV logA at *;obtain ⟨bi, bt, l, cm⟩ := L;simp only at H1 T0 ⊢;clear h
  go_enter Tryz.func158, Tryz.ntmps158
  go_wp2_with fail
  refine H1.out.mono ?_;rintro e w1 ⟨rfl, hbl⟩;dsimp only;have T1 := hideIt (T0.out.keep hbl);clear hbl T0 H1;obtain ⟨z0, z1, z2, z3, zf⟩ := T1.out.zero;have HP := T1.out.put (.int .i64 0) (.int .i64 0) (.slice none 0 0) (.int .i64 0);obtain ⟨e1, e2⟩ := HP.out;clear HP T1;go_wp2
  revert e1 e2
  generalize (World.setCell _ ⟨w.heap.size + 1, 3, none⟩ _) = W;intro e1 e2;exact bodyPost_ret (v := .tuple #[logV zL (.slice none 0 0), .int .i64 80]) (by simp [results, Tryz.results158, go_sem, cell_at e1, logV, logA, zL]) rfl ⟨_, rfl, own_nil _ _, e2⟩
 ·rw [hm] at H1;rw [if_neg (by simp)];have hin := mayB_in hm;have HAN := hideIt (fun wx (hx : Below w.heap.size w wx) => anew_is _ _ [L.l] L.l (by simp) _ (LsGot.one (h.keep hx)) (by omega) (by simp) (text_rows hin.2.2.2.1));have HRE := hideIt (fun hn wx (hx : Below w.heap.size w wx) => reached_is m k wx (hk.keep hx) hn);have HHM := hideIt (fun x g' wx hg => hasMark_is L g' x term wx hg (near_may hm));have HMI : Hid (0 < m.length → ∀ wx, Below w.heap.size w wx → Calls Tryz.prog 127 #[k] wx fun e w' => e = .returned (.int .i64 (Lib.minOf m)) ∧ w' = wx) := fun hp wx hx => by
   obtain ⟨h8, ka, kc, rfl, hr⟩ := hk.keep hx;obtain ⟨b, off, rfl, _, hc⟩ := hr hp;have := slices_Min_int b off m.length kc m wx hp (Nat.le_refl _) (by omega) hc
   rwa [List.take_of_length_le (Nat.le_refl _)] at this
  obtain ⟨a, c, rfl⟩ := h.slice;obtain ⟨_, ka, kc, rfl, _⟩ := hk;unfold advB;cases h2 : wiB term 1 1000000
  ·rw [h2] at HW1;simp only [Bool.false_and, if_true];unfold logV logA at *;obtain ⟨bi, bt, l, cm⟩ := L;simp only at H1 T0 ⊢;clear h hin HAN HRE HHM HMI
   go_enter Tryz.func158, Tryz.ntmps158
   go_wp2_with fail
   refine H1.out.mono ?_;rintro e w1 ⟨rfl, hbl⟩;dsimp only;have T1 := hideIt (T0.out.keep hbl);clear hbl T0 H1
   go_wp2_with fail
   refine (HW1.out _).mono ?_;rintro e w2 ⟨rfl, rfl⟩;dsimp only;obtain ⟨z0, z1, z2, z3, zf⟩ := T1.out.zero;have HP := T1.out.put (.int .i64 0) (.int .i64 0) (.slice none 0 0) (.int .i64 0);obtain ⟨e1, e2⟩ := HP.out;clear HP T1;go_wp2
   revert e1 e2
   generalize (World.setCell _ ⟨w.heap.size + 1, 3, none⟩ _) = W;intro e1 e2;exact bodyPost_ret (v := .tuple #[logV zL (.slice none 0 0), .int .i64 1]) (by simp [results, Tryz.results158, go_sem, cell_at e1, logV, logA, zL]) rfl ⟨_, rfl, own_nil _ _, e2⟩
  ·rw [h2] at HW1;cases h3 : wiB (m.length : Int) 1 7
   ·rw [h3] at HW2;simp only [Bool.false_and, Bool.and_false, if_true];unfold logV logA at *;obtain ⟨bi, bt, l, cm⟩ := L;simp only at H1 T0 ⊢;clear h hin HAN HRE HHM HMI
    go_enter Tryz.func158, Tryz.ntmps158
    go_wp2_with fail
    refine H1.out.mono ?_;rintro e w1 ⟨rfl, hbl⟩;dsimp only;have T1 := hideIt (T0.out.keep hbl);clear hbl T0 H1
    go_wp2_with fail
    refine (HW1.out _).mono ?_;rintro e w2 ⟨rfl, rfl⟩;dsimp only
    go_wp2_with fail
    refine (HW2.out _).mono ?_;rintro e w2 ⟨rfl, rfl⟩;dsimp only;obtain ⟨z0, z1, z2, z3, zf⟩ := T1.out.zero;have HP := T1.out.put (.int .i64 0) (.int .i64 0) (.slice none 0 0) (.int .i64 0);obtain ⟨e1, e2⟩ := HP.out;clear HP T1;go_wp2
    revert e1 e2
    generalize (World.setCell _ ⟨w.heap.size + 1, 3, none⟩ _) = W;intro e1 e2;exact bodyPost_ret (v := .tuple #[logV zL (.slice none 0 0), .int .i64 1]) (by simp [results, Tryz.results158, go_sem, cell_at e1, logV, logA, zL]) rfl ⟨_, rfl, own_nil _ _, e2⟩
   ·rw [h3] at HW2;have hml : 1 ≤ (m.length : Int) ∧ (m.length : Int) ≤ 7 := of_decide_eq_true h3;replace HMI := hideIt (HMI.out (by omega));replace HRE := hideIt (HRE.out (by omega));generalize Lib.minOf m = mn at *
    by_cases h4 : mn < 0
    ·rw [decide_eq_false (show ¬ (0 ≤ mn) by omega)];simp only [Bool.and_false, if_true];unfold logV logA at *;obtain ⟨bi, bt, l, cm⟩ := L;simp only at H1 T0 ⊢;clear h hin HAN HRE HHM
     go_enter Tryz.func158, Tryz.ntmps158
     go_wp2_with fail
     refine H1.out.mono ?_;rintro e w1 ⟨rfl, hbl⟩;dsimp only;have T1 := hideIt (T0.out.keep hbl);clear hbl T0 H1
     go_wp2_with fail
     refine (HW1.out _).mono ?_;rintro e w2 ⟨rfl, rfl⟩;dsimp only
     go_wp2_with fail
     refine (HW2.out _).mono ?_;rintro e w2 ⟨rfl, rfl⟩;dsimp only
     go_wp2_with fail
     refine (HMI.out _ T1.out.bel).mono ?_;rintro e w2 ⟨rfl, rfl⟩;dsimp only;obtain ⟨z0, z1, z2, z3, zf⟩ := T1.out.zero;have HP := T1.out.put (.int .i64 0) (.int .i64 0) (.slice none 0 0) (.int .i64 0);obtain ⟨e1, e2⟩ := HP.out;clear HP T1;go_wp2
     revert e1 e2
     generalize (World.setCell _ ⟨w.heap.size + 1, 3, none⟩ _) = W;intro e1 e2;exact bodyPost_ret (v := .tuple #[logV zL (.slice none 0 0), .int .i64 1]) (by simp [results, Tryz.results158, go_sem, cell_at e1, logV, logA, zL]) rfl ⟨_, rfl, own_nil _ _, e2⟩
    ·have h4I : 0 ≤ mn := by omega
     rw [decide_eq_true h4I];simp only [Bool.and_self, Bool.true_eq_false, if_false];generalize midL m = x at *;have hl4 := hin.2.2.1
     by_cases h5 : L.cm < x
     ·cases h6 : hasM L x term
      ·rw [if_neg (by simp)];replace HHM := hideIt (HHM.out x);rw [h6] at HHM;unfold logV logA at *;obtain ⟨bi, bt, l, cm⟩ := L;simp only at H1 T0 HAN HHM hl4 h5 ⊢;clear h hin h2 h3 h6 hm hml
       go_enter Tryz.func158, Tryz.ntmps158
       go_wp2_with fail
       refine H1.out.mono ?_;rintro e w1 ⟨rfl, hbl⟩;dsimp only;have T1 := hideIt (T0.out.keep hbl);clear hbl T0 H1
       go_wp2_with fail
       refine (HW1.out _).mono ?_;rintro e w2 ⟨rfl, rfl⟩;dsimp only
       go_wp2_with fail
       refine (HW2.out _).mono ?_;rintro e w2 ⟨rfl, rfl⟩;dsimp only
       go_wp2_with fail
       refine (HMI.out _ T1.out.bel).mono ?_;rintro e w2 ⟨rfl, rfl⟩;dsimp only;obtain ⟨c0, c1, c2, c3, ff⟩ := T1.out.cells;simp only at c0 c1 c2 c3;clear HW1 HW2 HMI
       go_wp2_with fail
       refine (HAN.out _ T1.out.bel).mono ?_;rintro e w5 ⟨r, rfl, ho, hbl⟩;dsimp only;have T5 := hideIt (T1.out.keep (below_via (below1 _ _) hbl));obtain ⟨ra, rc, rfl⟩ := own_len ho;have T6 := hideIt (T5.out.setL l (.slice ra l.length rc));have E6 := hideIt (own_egot (ownSet (b := w.heap.size) (j := 2) (.slice ra l.length rc) (own_base ho (show w.heap.size + 2 ≤ _ from by have := T1.out.size; simp; omega)) (by omega)) (by omega))
       have O6 := hideIt (ownSet (b := w.heap.size) (j := 2) (.slice ra l.length rc) (own_base ho (show w.heap.size + 2 ≤ _ from by have := T1.out.size; simp; omega)) (by omega))
       clear ho hbl T1 HAN c0 c1 c2 c3 ff;obtain ⟨c0, c1, c2, c3, ff⟩ := T5.out.cells;simp only at c0 c1 c2 c3
       go_upto_region 6 with fail
       generalize w5.setCell ⟨w.heap.size, 2, none⟩ (.slice ra l.length rc) = w6 at *;clear T5 c0 c1 c2 c3 ff
       go_wp2_with fail
       refine (HRE.out _ T6.out.bel).mono ?_;rintro e w7 ⟨rfl, hbl⟩;dsimp only;have T7 := hideIt (T6.out.keep hbl);have E7 := hideIt (E6.out.keep hbl);have HO := hideIt (own_keep O6.out hbl);clear hbl T6 E6 O6 HRE;obtain ⟨c0, c1, c2, c3, ff⟩ := T7.out.cells;simp only at c0 c1 c2 c3
       go_wp2_with fail
       refine (HHM.out _ _ E7.out).mono ?_;rintro e w8 ⟨rfl, hbl⟩;dsimp only;have T8 := hideIt (T7.out.keep hbl);replace HO := hideIt (own_keep HO.out hbl);clear hbl T7 E7 HHM c0 c1 c2 c3 ff;obtain ⟨c0, c1, c2, c3, ff⟩ := T8.out.cells;simp only at c0 c1 c2 c3;have HP := T8.out.put (.int .i64 bi) (.int .i64 bt) (.slice ra l.length rc) (.int .i64 cm);obtain ⟨z0, z1, z2, z3, zf⟩ := T8.out.zero;obtain ⟨e1, e2⟩ := HP.out;have e3 := (own4 (R := w.heap.size + 1) (.int .i64 bi) (.int .i64 bt) (.slice ra l.length rc) (.int .i64 cm) HO.out (by omega) w.heap.size (by omega)).out;clear HP HO;go_wp2
       revert e1 e2 e3
       generalize (World.setCell _ ⟨w.heap.size + 1, 3, none⟩ _) = W;intro e1 e2 e3;exact bodyPost_ret (v := .tuple #[logV ⟨bi, bt, l, cm⟩ (.slice ra l.length rc), .int .i64 0]) (by simp [results, Tryz.results158, go_sem, cell_at e1, logV, logA]) rfl ⟨_, rfl, e3, e2⟩
      ·rw [if_pos ⟨h5, rfl⟩];replace HHM := hideIt (HHM.out x);rw [h6] at HHM;unfold logV logA at *;obtain ⟨bi, bt, l, cm⟩ := L;simp only at H1 T0 HAN HHM hl4 h5 ⊢;clear h hin h2 h3 h6 hm hml
       go_enter Tryz.func158, Tryz.ntmps158
       go_wp2_with fail
       refine H1.out.mono ?_;rintro e w1 ⟨rfl, hbl⟩;dsimp only;have T1 := hideIt (T0.out.keep hbl);clear hbl T0 H1
       go_wp2_with fail
       refine (HW1.out _).mono ?_;rintro e w2 ⟨rfl, rfl⟩;dsimp only
       go_wp2_with fail
       refine (HW2.out _).mono ?_;rintro e w2 ⟨rfl, rfl⟩;dsimp only
       go_wp2_with fail
       refine (HMI.out _ T1.out.bel).mono ?_;rintro e w2 ⟨rfl, rfl⟩;dsimp only;obtain ⟨c0, c1, c2, c3, ff⟩ := T1.out.cells;simp only at c0 c1 c2 c3;clear HW1 HW2 HMI
       go_wp2_with fail
       refine (HAN.out _ T1.out.bel).mono ?_;rintro e w5 ⟨r, rfl, ho, hbl⟩;dsimp only;have T5 := hideIt (T1.out.keep (below_via (below1 _ _) hbl));obtain ⟨ra, rc, rfl⟩ := own_len ho;have T6 := hideIt (T5.out.setL l (.slice ra l.length rc));have E6 := hideIt (own_egot (ownSet (b := w.heap.size) (j := 2) (.slice ra l.length rc) (own_base ho (show w.heap.size + 2 ≤ _ from by have := T1.out.size; simp; omega)) (by omega)) (by omega))
       have O6 := hideIt (ownSet (b := w.heap.size) (j := 2) (.slice ra l.length rc) (own_base ho (show w.heap.size + 2 ≤ _ from by have := T1.out.size; simp; omega)) (by omega))
       clear ho hbl T1 HAN c0 c1 c2 c3 ff;obtain ⟨c0, c1, c2, c3, ff⟩ := T5.out.cells;simp only at c0 c1 c2 c3
       go_upto_region 6 with fail
       generalize w5.setCell ⟨w.heap.size, 2, none⟩ (.slice ra l.length rc) = w6 at *;clear T5 c0 c1 c2 c3 ff
       go_wp2_with fail
       refine (HRE.out _ T6.out.bel).mono ?_;rintro e w7 ⟨rfl, hbl⟩;dsimp only;have T7 := hideIt (T6.out.keep hbl);have E7 := hideIt (E6.out.keep hbl);have HO := hideIt (own_keep O6.out hbl);clear hbl T6 E6 O6 HRE;obtain ⟨c0, c1, c2, c3, ff⟩ := T7.out.cells;simp only at c0 c1 c2 c3
       go_wp2_with fail
       refine (HHM.out _ _ E7.out).mono ?_;rintro e w8 ⟨rfl, hbl⟩;dsimp only;have T8 := hideIt (T7.out.keep hbl);replace HO := hideIt (ownSet (b := w.heap.size) (j := 3) (.int .i64 x) (own_keep HO.out hbl) (by omega));clear hbl T7 E7 HHM c0 c1 c2 c3 ff;obtain ⟨c0, c1, c2, c3, ff⟩ := T8.out.cells;simp only at c0 c1 c2 c3;have T9 := hideIt (T8.out.setC x)
       go_upto_region 9 with fail
       generalize w8.setCell ⟨w.heap.size, 3, none⟩ (.int .i64 x) = w9 at *;clear c0 c1 c2 c3 ff T8;obtain ⟨c0, c1, c2, c3, ff⟩ := T9.out.cells;simp only at c0 c1 c2 c3;have HP := T9.out.put (.int .i64 bi) (.int .i64 bt) (.slice ra l.length rc) (.int .i64 x);obtain ⟨z0, z1, z2, z3, zf⟩ := T9.out.zero;obtain ⟨e1, e2⟩ := HP.out;have e3 := (own4 (R := w.heap.size + 1) (.int .i64 bi) (.int .i64 bt) (.slice ra l.length rc) (.int .i64 x) HO.out (by omega) w.heap.size (by omega)).out;clear HP HO;go_wp2
       revert e1 e2 e3
       generalize (World.setCell _ ⟨w.heap.size + 1, 3, none⟩ _) = W;intro e1 e2 e3;exact bodyPost_ret (v := .tuple #[logV ⟨bi, bt, l, x⟩ (.slice ra l.length rc), .int .i64 0]) (by simp [results, Tryz.results158, go_sem, cell_at e1, logV, logA]) rfl ⟨_, rfl, e3, e2⟩
     ·have h5I : x ≤ L.cm := by omega
      rw [if_neg (fun hc => h5 hc.1)];unfold logV logA at *;obtain ⟨bi, bt, l, cm⟩ := L;simp only at H1 T0 HAN hl4 h5 h5I ⊢;clear h hin h2 h3 hm hml HHM
      go_enter Tryz.func158, Tryz.ntmps158
      go_wp2_with fail
      refine H1.out.mono ?_;rintro e w1 ⟨rfl, hbl⟩;dsimp only;have T1 := hideIt (T0.out.keep hbl);clear hbl T0 H1
      go_wp2_with fail
      refine (HW1.out _).mono ?_;rintro e w2 ⟨rfl, rfl⟩;dsimp only
      go_wp2_with fail
      refine (HW2.out _).mono ?_;rintro e w2 ⟨rfl, rfl⟩;dsimp only
      go_wp2_with fail
      refine (HMI.out _ T1.out.bel).mono ?_;rintro e w2 ⟨rfl, rfl⟩;dsimp only;obtain ⟨c0, c1, c2, c3, ff⟩ := T1.out.cells;simp only at c0 c1 c2 c3;clear HW1 HW2 HMI
      go_wp2_with fail
      refine (HAN.out _ T1.out.bel).mono ?_;rintro e w5 ⟨r, rfl, ho, hbl⟩;dsimp only;have T5 := hideIt (T1.out.keep (below_via (below1 _ _) hbl));obtain ⟨ra, rc, rfl⟩ := own_len ho;have T6 := hideIt (T5.out.setL l (.slice ra l.length rc));have E6 := hideIt (own_egot (ownSet (b := w.heap.size) (j := 2) (.slice ra l.length rc) (own_base ho (show w.heap.size + 2 ≤ _ from by have := T1.out.size; simp; omega)) (by omega)) (by omega))
      have O6 := hideIt (ownSet (b := w.heap.size) (j := 2) (.slice ra l.length rc) (own_base ho (show w.heap.size + 2 ≤ _ from by have := T1.out.size; simp; omega)) (by omega))
      clear ho hbl T1 HAN c0 c1 c2 c3 ff;obtain ⟨c0, c1, c2, c3, ff⟩ := T5.out.cells;simp only at c0 c1 c2 c3
      go_upto_region 6 with fail
      generalize w5.setCell ⟨w.heap.size, 2, none⟩ (.slice ra l.length rc) = w6 at *;clear T5 c0 c1 c2 c3 ff
      go_wp2_with fail
      refine (HRE.out _ T6.out.bel).mono ?_;rintro e w7 ⟨rfl, hbl⟩;dsimp only;have T7 := hideIt (T6.out.keep hbl);have E7 := hideIt (E6.out.keep hbl);have HO := hideIt (own_keep O6.out hbl);clear hbl T6 E6 O6 HRE;obtain ⟨c0, c1, c2, c3, ff⟩ := T7.out.cells;simp only at c0 c1 c2 c3;have HP := T7.out.put (.int .i64 bi) (.int .i64 bt) (.slice ra l.length rc) (.int .i64 cm);obtain ⟨z0, z1, z2, z3, zf⟩ := T7.out.zero;obtain ⟨e1, e2⟩ := HP.out;have e3 := (own4 (R := w.heap.size + 1) (.int .i64 bi) (.int .i64 bt) (.slice ra l.length rc) (.int .i64 cm) HO.out (by omega) w.heap.size (by omega)).out;clear HP HO;go_wp2
      revert e1 e2 e3
      generalize (World.setCell _ ⟨w.heap.size + 1, 3, none⟩ _) = W;intro e1 e2 e3;exact bodyPost_ret (v := .tuple #[logV ⟨bi, bt, l, cm⟩ (.slice ra l.length rc), .int .i64 0]) (by simp [results, Tryz.results158, go_sem, cell_at e1, logV, logA]) rfl ⟨_, rfl, e3, e2⟩
end Go.Proofs.YtcaehfkfohianaaGreat
