/- Whether a table may be; what is refused. -/
import Derived.Test.YtilinemcmgjiiaaDoorMay
namespace Go.Proofs.YtilinemcmgjiiaaDoor
open Go.RowKit
set_option linter.all false
def chkB (T : TabV) : Bool := decide (T.held.length + T.wait.length ≤ 200) && (T.held.all holB && (T.wait.all holB && (!(twB [] T.held) && T.wait.all (mwB T))))
def chkI (T : TabV) : Int := if chkB T = true then 0 else 160
set_option maxHeartbeats 8000000 in
set_option maxRecDepth 100000 in
theorem check_is (T : TabV) (h v : Value) (w : World) (hT : Tab w T h v) : Calls Tryd.prog 85 #[.agg #[h, v]] w fun e w' => e = .returned (.int .i64 (chkI T)) ∧ Below w.heap.size w w' := by
  have H1 := hideIt (fun W (hW : Below w.heap.size w W) => size_is T h v W (hT.keep hW))
  have H2 := hideIt (fun W (hW : Below w.heap.size w W) => areHolds_is h T.held W (hT.keep hW).held)
  have H3 := hideIt (fun W (hW : Below w.heap.size w W) => areHolds_is v T.wait W (hT.keep hW).wait)
  have H4 := hideIt (fun W (hW : Below w.heap.size w W) => twice_is T h v W (hT.keep hW))
  have H5 := hideIt (fun W (hW : Below w.heap.size w W) => mayWait_is T h v W (hT.keep hW))
  have hl1 := hT.held.1
  have hl2 := hT.wait.1
  have HE : Hid (chkI T = if chkB T = true then 0 else 160) := rfl
  unfold chkB at HE
  obtain ⟨ha, hc, rfl⟩ := hT.held.slice
  obtain ⟨va, vc, rfl⟩ := hT.wait.slice
  clear hT
  generalize chkI T = res at *
  generalize T.held.all holB = g2 at *
  generalize T.wait.all holB = g3 at *
  generalize twB [] T.held = g4 at *
  generalize T.wait.all (mwB T) = g5 at *
  generalize T.held.length = m at *
  generalize T.wait.length = n at *
  have X0 := hideIt (heap_alloc_new w (.cells #[.slice ha m hc, .slice va n vc] 140))
  have U0 := hideIt (below1 w (.cells #[.slice ha m hc, .slice va n vc] 140))
  by_cases hs : m + n ≤ 200
  · have hsI : (m : Int) + (n : Int) ≤ 200 := by omega
    rw [decide_eq_true hs, Bool.true_and] at HE
    clear hs
    cases g2
    · have HF : Hid (res = 160) := by rw [HE.out]; rfl
      clear HE
      go_enter Tryd.func85, Tryd.ntmps85
      go_wp2_with fail
      refine (H1.out _ U0.out).mono ?_
      rintro e w1 ⟨rfl, hb⟩
      dsimp only
      have X1 := hideIt ((hb.block _ (Array.getElem?_eq_some_iff.1 X0.out).1).trans X0.out)
      have U1 := hideIt (below_via U0.out hb)
      have w1a := (B1.cells X1.out).1
      have w1b := (B1.cells X1.out).2
      clear hb
      go_wp2_with fail
      refine (H2.out _ U1.out).mono ?_
      rintro e w2 ⟨rfl, hb⟩
      dsimp only
      have X2 := hideIt ((hb.block _ (Array.getElem?_eq_some_iff.1 X1.out).1).trans X1.out)
      have U2 := hideIt (below_via U1.out hb)
      have w2a := (B1.cells X2.out).1
      have w2b := (B1.cells X2.out).2
      clear hb
      go_wp2
      go_ret
      exact ⟨by rw [HF.out]; rfl, U2.out⟩
    · cases g3
      · have HF : Hid (res = 160) := by rw [HE.out]; rfl
        clear HE
        go_enter Tryd.func85, Tryd.ntmps85
        go_wp2_with fail
        refine (H1.out _ U0.out).mono ?_
        rintro e w1 ⟨rfl, hb⟩
        dsimp only
        have X1 := hideIt ((hb.block _ (Array.getElem?_eq_some_iff.1 X0.out).1).trans X0.out)
        have U1 := hideIt (below_via U0.out hb)
        have w1a := (B1.cells X1.out).1
        have w1b := (B1.cells X1.out).2
        clear hb
        go_wp2_with fail
        refine (H2.out _ U1.out).mono ?_
        rintro e w2 ⟨rfl, hb⟩
        dsimp only
        have X2 := hideIt ((hb.block _ (Array.getElem?_eq_some_iff.1 X1.out).1).trans X1.out)
        have U2 := hideIt (below_via U1.out hb)
        have w2a := (B1.cells X2.out).1
        have w2b := (B1.cells X2.out).2
        clear hb
        go_wp2_with fail
        refine (H3.out _ U2.out).mono ?_
        rintro e w3 ⟨rfl, hb⟩
        dsimp only
        have X3 := hideIt ((hb.block _ (Array.getElem?_eq_some_iff.1 X2.out).1).trans X2.out)
        have U3 := hideIt (below_via U2.out hb)
        have w3a := (B1.cells X3.out).1
        have w3b := (B1.cells X3.out).2
        clear hb
        go_wp2
        go_ret
        exact ⟨by rw [HF.out]; rfl, U3.out⟩
      · cases g4
        · cases g5
          · have HF : Hid (res = 160) := by rw [HE.out]; rfl
            clear HE
            go_enter Tryd.func85, Tryd.ntmps85
            go_wp2_with fail
            refine (H1.out _ U0.out).mono ?_
            rintro e w1 ⟨rfl, hb⟩
            dsimp only
            have X1 := hideIt ((hb.block _ (Array.getElem?_eq_some_iff.1 X0.out).1).trans X0.out)
            have U1 := hideIt (below_via U0.out hb)
            have w1a := (B1.cells X1.out).1
            have w1b := (B1.cells X1.out).2
            clear hb
            go_wp2_with fail
            refine (H2.out _ U1.out).mono ?_
            rintro e w2 ⟨rfl, hb⟩
            dsimp only
            have X2 := hideIt ((hb.block _ (Array.getElem?_eq_some_iff.1 X1.out).1).trans X1.out)
            have U2 := hideIt (below_via U1.out hb)
            have w2a := (B1.cells X2.out).1
            have w2b := (B1.cells X2.out).2
            clear hb
            go_wp2_with fail
            refine (H3.out _ U2.out).mono ?_
            rintro e w3 ⟨rfl, hb⟩
            dsimp only
            have X3 := hideIt ((hb.block _ (Array.getElem?_eq_some_iff.1 X2.out).1).trans X2.out)
            have U3 := hideIt (below_via U2.out hb)
            have w3a := (B1.cells X3.out).1
            have w3b := (B1.cells X3.out).2
            clear hb
            go_wp2_with fail
            refine (H4.out _ U3.out).mono ?_
            rintro e w4 ⟨rfl, hb⟩
            dsimp only
            have X4 := hideIt ((hb.block _ (Array.getElem?_eq_some_iff.1 X3.out).1).trans X3.out)
            have U4 := hideIt (below_via U3.out hb)
            have w4a := (B1.cells X4.out).1
            have w4b := (B1.cells X4.out).2
            clear hb
            go_wp2_with fail
            refine (H5.out _ U4.out).mono ?_
            rintro e w5 ⟨rfl, hb⟩
            dsimp only
            have X5 := hideIt ((hb.block _ (Array.getElem?_eq_some_iff.1 X4.out).1).trans X4.out)
            have U5 := hideIt (below_via U4.out hb)
            have w5a := (B1.cells X5.out).1
            have w5b := (B1.cells X5.out).2
            clear hb
            go_wp2
            go_ret
            exact ⟨by rw [HF.out]; rfl, U5.out⟩
          · have HF : Hid (res = 0) := by rw [HE.out]; rfl
            clear HE
            go_enter Tryd.func85, Tryd.ntmps85
            go_wp2_with fail
            refine (H1.out _ U0.out).mono ?_
            rintro e w1 ⟨rfl, hb⟩
            dsimp only
            have X1 := hideIt ((hb.block _ (Array.getElem?_eq_some_iff.1 X0.out).1).trans X0.out)
            have U1 := hideIt (below_via U0.out hb)
            have w1a := (B1.cells X1.out).1
            have w1b := (B1.cells X1.out).2
            clear hb
            go_wp2_with fail
            refine (H2.out _ U1.out).mono ?_
            rintro e w2 ⟨rfl, hb⟩
            dsimp only
            have X2 := hideIt ((hb.block _ (Array.getElem?_eq_some_iff.1 X1.out).1).trans X1.out)
            have U2 := hideIt (below_via U1.out hb)
            have w2a := (B1.cells X2.out).1
            have w2b := (B1.cells X2.out).2
            clear hb
            go_wp2_with fail
            refine (H3.out _ U2.out).mono ?_
            rintro e w3 ⟨rfl, hb⟩
            dsimp only
            have X3 := hideIt ((hb.block _ (Array.getElem?_eq_some_iff.1 X2.out).1).trans X2.out)
            have U3 := hideIt (below_via U2.out hb)
            have w3a := (B1.cells X3.out).1
            have w3b := (B1.cells X3.out).2
            clear hb
            go_wp2_with fail
            refine (H4.out _ U3.out).mono ?_
            rintro e w4 ⟨rfl, hb⟩
            dsimp only
            have X4 := hideIt ((hb.block _ (Array.getElem?_eq_some_iff.1 X3.out).1).trans X3.out)
            have U4 := hideIt (below_via U3.out hb)
            have w4a := (B1.cells X4.out).1
            have w4b := (B1.cells X4.out).2
            clear hb
            go_wp2_with fail
            refine (H5.out _ U4.out).mono ?_
            rintro e w5 ⟨rfl, hb⟩
            dsimp only
            have X5 := hideIt ((hb.block _ (Array.getElem?_eq_some_iff.1 X4.out).1).trans X4.out)
            have U5 := hideIt (below_via U4.out hb)
            have w5a := (B1.cells X5.out).1
            have w5b := (B1.cells X5.out).2
            clear hb
            go_wp2
            go_ret
            exact ⟨by rw [HF.out]; rfl, U5.out⟩
        · have HF : Hid (res = 160) := by rw [HE.out]; rfl
          clear HE
          go_enter Tryd.func85, Tryd.ntmps85
          go_wp2_with fail
          refine (H1.out _ U0.out).mono ?_
          rintro e w1 ⟨rfl, hb⟩
          dsimp only
          have X1 := hideIt ((hb.block _ (Array.getElem?_eq_some_iff.1 X0.out).1).trans X0.out)
          have U1 := hideIt (below_via U0.out hb)
          have w1a := (B1.cells X1.out).1
          have w1b := (B1.cells X1.out).2
          clear hb
          go_wp2_with fail
          refine (H2.out _ U1.out).mono ?_
          rintro e w2 ⟨rfl, hb⟩
          dsimp only
          have X2 := hideIt ((hb.block _ (Array.getElem?_eq_some_iff.1 X1.out).1).trans X1.out)
          have U2 := hideIt (below_via U1.out hb)
          have w2a := (B1.cells X2.out).1
          have w2b := (B1.cells X2.out).2
          clear hb
          go_wp2_with fail
          refine (H3.out _ U2.out).mono ?_
          rintro e w3 ⟨rfl, hb⟩
          dsimp only
          have X3 := hideIt ((hb.block _ (Array.getElem?_eq_some_iff.1 X2.out).1).trans X2.out)
          have U3 := hideIt (below_via U2.out hb)
          have w3a := (B1.cells X3.out).1
          have w3b := (B1.cells X3.out).2
          clear hb
          go_wp2_with fail
          refine (H4.out _ U3.out).mono ?_
          rintro e w4 ⟨rfl, hb⟩
          dsimp only
          have X4 := hideIt ((hb.block _ (Array.getElem?_eq_some_iff.1 X3.out).1).trans X3.out)
          have U4 := hideIt (below_via U3.out hb)
          have w4a := (B1.cells X4.out).1
          have w4b := (B1.cells X4.out).2
          clear hb
          go_wp2
          go_ret
          exact ⟨by rw [HF.out]; rfl, U4.out⟩
  · have hsI : ¬ (m : Int) + (n : Int) ≤ 200 := by omega
    rw [decide_eq_false hs, Bool.false_and] at HE
    clear hs
    have HF : Hid (res = 160) := by rw [HE.out]; rfl
    clear HE
    go_enter Tryd.func85, Tryd.ntmps85
    go_wp2_with fail
    refine (H1.out _ U0.out).mono ?_
    rintro e w1 ⟨rfl, hb⟩
    dsimp only
    have X1 := hideIt ((hb.block _ (Array.getElem?_eq_some_iff.1 X0.out).1).trans X0.out)
    have U1 := hideIt (below_via U0.out hb)
    have w1a := (B1.cells X1.out).1
    have w1b := (B1.cells X1.out).2
    clear hb
    go_wp2
    go_ret
    exact ⟨by rw [HF.out]; rfl, U1.out⟩
/-- What is refused. -/
def refE (T : TabV) (k : KeyV) (t : TxnV) : Int := if chkB T = true then (if (keyB k && namB t) = true then 0 else 1) else 160
set_option maxHeartbeats 8000000 in
set_option maxRecDepth 100000 in
theorem refused_is (T : TabV) (h v : Value) (k n c q : Int) (w : World) (hT : Tab w T h v) : Calls Tryd.prog 77 #[.agg #[h, v], .agg #[.int .i64 k, .int .i64 n], .agg #[.int .i64 c, .int .i64 q]] w fun e w' => e = .returned (.int .i64 (refE T (k, n) (c, q))) ∧ Below w.heap.size w w' := by
  have H1 := hideIt (fun W (hW : Below w.heap.size w W) => check_is T h v W (hT.keep hW))
  have H2 := hideIt (fun W => isKey_is k n W)
  have H3 := hideIt (fun W => isName_is c q W)
  have X0 := hideIt (B3.first w (.cells #[h, v] 140) (.cells #[.int .i64 k, .int .i64 n] 37) (.cells #[.int .i64 c, .int .i64 q] 35))
  obtain ⟨ha, hc, rfl⟩ := hT.held.slice
  obtain ⟨va, vc, rfl⟩ := hT.wait.slice
  clear hT
  unfold chkI at H1
  simp only [refE]
  cases hC : chkB T
  · rw [hC] at H1
    simp only [Bool.false_eq_true, if_false] at H1 ⊢
    go_enter Tryd.func77, Tryd.ntmps77
    go_wp2_with fail
    refine (H1.out _ X0.out.bel).mono ?_
    rintro e w1 ⟨rfl, hb⟩
    dsimp only
    have B1 := hideIt (X0.out.keep hb).bel
    clear hb
    go_wp2
    go_ret
    exact ⟨rfl, B1.out⟩
  · rw [hC] at H1
    simp only [if_true] at H1 ⊢
    cases hk : keyB (k, n)
    · rw [hk] at H2
      simp only [Bool.false_and, Bool.false_eq_true, if_false]
      go_enter Tryd.func77, Tryd.ntmps77
      go_wp2_with fail
      refine (H1.out _ X0.out.bel).mono ?_
      rintro e w1 ⟨rfl, hb⟩
      dsimp only
      have X1 := hideIt (X0.out.keep hb)
      have k0 : w1.cell? ⟨w.heap.size + 1, 0, none⟩ = some (.int .i64 k) := by rw [cell_at X1.out.b1]; rfl
      have k1 : w1.cell? ⟨w.heap.size + 1, 1, none⟩ = some (.int .i64 n) := by rw [cell_at X1.out.b1]; rfl
      clear hb
      go_wp2_with fail
      refine (H2.out _).mono ?_
      rintro e w2 ⟨rfl, hb⟩
      dsimp only
      have B2 := hideIt (X1.out.keep hb).bel
      clear hb
      go_wp2
      go_ret
      exact ⟨rfl, B2.out⟩
    · rw [hk] at H2
      cases hn : namB (c, q)
      · rw [hn] at H3
        simp only [Bool.and_false, Bool.false_eq_true, if_false]
        go_enter Tryd.func77, Tryd.ntmps77
        go_wp2_with fail
        refine (H1.out _ X0.out.bel).mono ?_
        rintro e w1 ⟨rfl, hb⟩
        dsimp only
        have X1 := hideIt (X0.out.keep hb)
        have k0 : w1.cell? ⟨w.heap.size + 1, 0, none⟩ = some (.int .i64 k) := by rw [cell_at X1.out.b1]; rfl
        have k1 : w1.cell? ⟨w.heap.size + 1, 1, none⟩ = some (.int .i64 n) := by rw [cell_at X1.out.b1]; rfl
        clear hb
        go_wp2_with fail
        refine (H2.out _).mono ?_
        rintro e w2 ⟨rfl, hb⟩
        dsimp only
        have X2 := hideIt (X1.out.keep hb)
        have t0 : w2.cell? ⟨w.heap.size + 1 + 1, 0, none⟩ = some (.int .i64 c) := by rw [cell_at X2.out.b2]; rfl
        have t1 : w2.cell? ⟨w.heap.size + 1 + 1, 1, none⟩ = some (.int .i64 q) := by rw [cell_at X2.out.b2]; rfl
        clear hb
        go_wp2_with fail
        refine (H3.out _).mono ?_
        rintro e w3 ⟨rfl, hb⟩
        dsimp only
        have B2 := hideIt (X2.out.keep hb).bel
        clear hb
        go_wp2
        go_ret
        exact ⟨rfl, B2.out⟩
      · rw [hn] at H3
        simp only [Bool.and_true, if_true]
        go_enter Tryd.func77, Tryd.ntmps77
        go_wp2_with fail
        refine (H1.out _ X0.out.bel).mono ?_
        rintro e w1 ⟨rfl, hb⟩
        dsimp only
        have X1 := hideIt (X0.out.keep hb)
        have k0 : w1.cell? ⟨w.heap.size + 1, 0, none⟩ = some (.int .i64 k) := by rw [cell_at X1.out.b1]; rfl
        have k1 : w1.cell? ⟨w.heap.size + 1, 1, none⟩ = some (.int .i64 n) := by rw [cell_at X1.out.b1]; rfl
        clear hb
        go_wp2_with fail
        refine (H2.out _).mono ?_
        rintro e w2 ⟨rfl, hb⟩
        dsimp only
        have X2 := hideIt (X1.out.keep hb)
        have t0 : w2.cell? ⟨w.heap.size + 1 + 1, 0, none⟩ = some (.int .i64 c) := by rw [cell_at X2.out.b2]; rfl
        have t1 : w2.cell? ⟨w.heap.size + 1 + 1, 1, none⟩ = some (.int .i64 q) := by rw [cell_at X2.out.b2]; rfl
        clear hb
        go_wp2_with fail
        refine (H3.out _).mono ?_
        rintro e w3 ⟨rfl, hb⟩
        dsimp only
        have B2 := hideIt (X2.out.keep hb).bel
        clear hb
        go_wp2
        go_ret
        exact ⟨rfl, B2.out⟩
end Go.Proofs.YtilinemcmgjiiaaDoor
