/- May a book be? -/
import Derived.Test.YtiinigifjdpicaaGreatDoorUnl
namespace Go.Proofs.YtiinigifjdpicaaGreatDoor
open Go.RowKit
set_option linter.all false
/-- May a book be? -/
def chkB (L : LaneV) : Bool := wiB L.next 1 1000001 && (sideB 1 L.next L.bids && (sideB 2 L.next L.asks && (unlB L && ((L.call || !crossB L) && owedB L.owed))))
def chkI (L : LaneV) : Int := if chkB L then 0 else 130
theorem side_len {s nx : Int} {l : List OrdV} (h : sideB s nx l = true) : l.length ≤ 40 := by
  unfold sideB at h
  simp only [Bool.and_eq_true, decide_eq_true_eq] at h
  exact h.1
set_option maxHeartbeats 16000000 in
set_option maxRecDepth 100000 in
theorem check_is (L : LaneV) (b a o : Value) (w : World) (h : Lan w L b a o) : Calls Tryz.prog 41 #[laneV L b a o] w fun e w' => e = .returned (.int .i64 (chkI L)) ∧ Below w.heap.size w w' := by
  have X0 := hideIt (BoxL.first w L b a o)
  have H1 := hideIt (fun W => within_is L.next 1 1000001 W)
  have H2 := hideIt (fun hn W (hW : Below w.heap.size w W) => areBids_is L b a o W hn (h.keep hW))
  have H3 := hideIt (fun hn W (hW : Below w.heap.size w W) => areAsks_is L b a o W hn (h.keep hW))
  have H4 := hideIt (fun h1 h2 W (hW : Below w.heap.size w W) => areUnlike_is L b a o W (h.keep hW) h1 h2)
  have H5 := hideIt (fun W (hW : Below w.heap.size w W) => isCrossed_is L b a o W (h.keep hW))
  have H6 := hideIt (fun W (hW : Below w.heap.size w W) => areOwed_is o L.owed W (h.keep hW).owed)
  have hL2 := fun h => side_len (s := 1) (nx := L.next) (l := L.bids) h
  have hL3 := fun h => side_len (s := 2) (nx := L.next) (l := L.asks) h
  unfold chkI chkB
  obtain ⟨ba, bc, rfl⟩ := h.bids.slice
  obtain ⟨aa, ac, rfl⟩ := h.asks.slice
  obtain ⟨oa, oc, rfl⟩ := h.owed.slice
  clear h
  generalize sideB 1 L.next L.bids = r2 at *
  generalize sideB 2 L.next L.asks = r3 at *
  generalize unlB L = r4 at *
  generalize crossB L = r5 at *
  generalize owedB L.owed = r6 at *
  unfold laneV laneA at *
  obtain ⟨cl, nx, bids, asks, owed⟩ := L
  simp only at *
  obtain ⟨c0, c1, c2, c3, c4⟩ := X0.out.cells
  simp only at c0 c1 c2 c3 c4
  cases h1 : wiB nx 1 1000001
  · rw [h1] at H1
    clear H2 H3 H4 H5 H6 hL2 hL3
    go_enter Tryz.func41, Tryz.ntmps41
    go_wp2_with fail
    refine (H1.out _).mono ?_
    rintro e w1 ⟨rfl, rfl⟩
    dsimp only
    go_wp2
    go_ret
    exact ⟨by rfl, X0.out.bel⟩
  · rw [h1] at H1
    have hn : 1 ≤ nx ∧ nx ≤ 1000001 := of_decide_eq_true h1
    replace H2 := hideIt (H2.out hn)
    replace H3 := hideIt (H3.out hn)
    clear hn
    cases r2
    · clear H3 H4 H5 H6 hL2 hL3
      go_enter Tryz.func41, Tryz.ntmps41
      go_wp2_with fail
      refine (H1.out _).mono ?_
      rintro e w1 ⟨rfl, rfl⟩
      dsimp only
      go_wp2_with fail
      refine (H2.out _ X0.out.bel).mono ?_
      rintro e w2 ⟨rfl, hb⟩
      dsimp only
      have X2 := hideIt (X0.out.keep hb)
      clear hb H2 X0 c0 c1 c2 c3 c4
      obtain ⟨c0, c1, c2, c3, c4⟩ := X2.out.cells
      simp only at c0 c1 c2 c3 c4
      go_wp2
      go_ret
      exact ⟨by rfl, X2.out.bel⟩
    · cases r3
      · clear H4 H5 H6 hL2 hL3
        go_enter Tryz.func41, Tryz.ntmps41
        go_wp2_with fail
        refine (H1.out _).mono ?_
        rintro e w1 ⟨rfl, rfl⟩
        dsimp only
        go_wp2_with fail
        refine (H2.out _ X0.out.bel).mono ?_
        rintro e w2 ⟨rfl, hb⟩
        dsimp only
        have X2 := hideIt (X0.out.keep hb)
        clear hb H2 X0 c0 c1 c2 c3 c4
        obtain ⟨c0, c1, c2, c3, c4⟩ := X2.out.cells
        simp only at c0 c1 c2 c3 c4
        go_wp2_with fail
        refine (H3.out _ X2.out.bel).mono ?_
        rintro e w3 ⟨rfl, hb⟩
        dsimp only
        have X3 := hideIt (X2.out.keep hb)
        clear hb H3 X2 c0 c1 c2 c3 c4
        obtain ⟨c0, c1, c2, c3, c4⟩ := X3.out.cells
        simp only at c0 c1 c2 c3 c4
        go_wp2
        go_ret
        exact ⟨by rfl, X3.out.bel⟩
      · replace H4 := hideIt (H4.out (hL2 rfl) (hL3 rfl))
        clear hL2 hL3
        cases r4
        · clear H5 H6
          go_enter Tryz.func41, Tryz.ntmps41
          go_wp2_with fail
          refine (H1.out _).mono ?_
          rintro e w1 ⟨rfl, rfl⟩
          dsimp only
          go_wp2_with fail
          refine (H2.out _ X0.out.bel).mono ?_
          rintro e w2 ⟨rfl, hb⟩
          dsimp only
          have X2 := hideIt (X0.out.keep hb)
          clear hb H2 X0 c0 c1 c2 c3 c4
          obtain ⟨c0, c1, c2, c3, c4⟩ := X2.out.cells
          simp only at c0 c1 c2 c3 c4
          go_wp2_with fail
          refine (H3.out _ X2.out.bel).mono ?_
          rintro e w3 ⟨rfl, hb⟩
          dsimp only
          have X3 := hideIt (X2.out.keep hb)
          clear hb H3 X2 c0 c1 c2 c3 c4
          obtain ⟨c0, c1, c2, c3, c4⟩ := X3.out.cells
          simp only at c0 c1 c2 c3 c4
          go_wp2_with fail
          refine (H4.out _ X3.out.bel).mono ?_
          rintro e w4 ⟨rfl, hb⟩
          dsimp only
          have X4 := hideIt (X3.out.keep hb)
          clear hb H4 X3 c0 c1 c2 c3 c4
          obtain ⟨c0, c1, c2, c3, c4⟩ := X4.out.cells
          simp only at c0 c1 c2 c3 c4
          go_wp2
          go_ret
          exact ⟨by rfl, X4.out.bel⟩
        · cases cl
          · cases r5
            · cases r6
              · go_enter Tryz.func41, Tryz.ntmps41
                go_wp2_with fail
                refine (H1.out _).mono ?_
                rintro e w1 ⟨rfl, rfl⟩
                dsimp only
                go_wp2_with fail
                refine (H2.out _ X0.out.bel).mono ?_
                rintro e w2 ⟨rfl, hb⟩
                dsimp only
                have X2 := hideIt (X0.out.keep hb)
                clear hb H2 X0 c0 c1 c2 c3 c4
                obtain ⟨c0, c1, c2, c3, c4⟩ := X2.out.cells
                simp only at c0 c1 c2 c3 c4
                go_wp2_with fail
                refine (H3.out _ X2.out.bel).mono ?_
                rintro e w3 ⟨rfl, hb⟩
                dsimp only
                have X3 := hideIt (X2.out.keep hb)
                clear hb H3 X2 c0 c1 c2 c3 c4
                obtain ⟨c0, c1, c2, c3, c4⟩ := X3.out.cells
                simp only at c0 c1 c2 c3 c4
                go_wp2_with fail
                refine (H4.out _ X3.out.bel).mono ?_
                rintro e w4 ⟨rfl, hb⟩
                dsimp only
                have X4 := hideIt (X3.out.keep hb)
                clear hb H4 X3 c0 c1 c2 c3 c4
                obtain ⟨c0, c1, c2, c3, c4⟩ := X4.out.cells
                simp only at c0 c1 c2 c3 c4
                go_wp2_with fail
                refine (H5.out _ X4.out.bel).mono ?_
                rintro e w5 ⟨rfl, hb⟩
                dsimp only
                have X5 := hideIt (X4.out.keep hb)
                clear hb H5 X4 c0 c1 c2 c3 c4
                obtain ⟨c0, c1, c2, c3, c4⟩ := X5.out.cells
                simp only at c0 c1 c2 c3 c4
                go_wp2_with fail
                refine (H6.out _ X5.out.bel).mono ?_
                rintro e w6 ⟨rfl, hb⟩
                dsimp only
                have X6 := hideIt (X5.out.keep hb)
                clear hb H6 X5 c0 c1 c2 c3 c4
                obtain ⟨c0, c1, c2, c3, c4⟩ := X6.out.cells
                simp only at c0 c1 c2 c3 c4
                go_wp2
                go_ret
                exact ⟨by rfl, X6.out.bel⟩
              · go_enter Tryz.func41, Tryz.ntmps41
                go_wp2_with fail
                refine (H1.out _).mono ?_
                rintro e w1 ⟨rfl, rfl⟩
                dsimp only
                go_wp2_with fail
                refine (H2.out _ X0.out.bel).mono ?_
                rintro e w2 ⟨rfl, hb⟩
                dsimp only
                have X2 := hideIt (X0.out.keep hb)
                clear hb H2 X0 c0 c1 c2 c3 c4
                obtain ⟨c0, c1, c2, c3, c4⟩ := X2.out.cells
                simp only at c0 c1 c2 c3 c4
                go_wp2_with fail
                refine (H3.out _ X2.out.bel).mono ?_
                rintro e w3 ⟨rfl, hb⟩
                dsimp only
                have X3 := hideIt (X2.out.keep hb)
                clear hb H3 X2 c0 c1 c2 c3 c4
                obtain ⟨c0, c1, c2, c3, c4⟩ := X3.out.cells
                simp only at c0 c1 c2 c3 c4
                go_wp2_with fail
                refine (H4.out _ X3.out.bel).mono ?_
                rintro e w4 ⟨rfl, hb⟩
                dsimp only
                have X4 := hideIt (X3.out.keep hb)
                clear hb H4 X3 c0 c1 c2 c3 c4
                obtain ⟨c0, c1, c2, c3, c4⟩ := X4.out.cells
                simp only at c0 c1 c2 c3 c4
                go_wp2_with fail
                refine (H5.out _ X4.out.bel).mono ?_
                rintro e w5 ⟨rfl, hb⟩
                dsimp only
                have X5 := hideIt (X4.out.keep hb)
                clear hb H5 X4 c0 c1 c2 c3 c4
                obtain ⟨c0, c1, c2, c3, c4⟩ := X5.out.cells
                simp only at c0 c1 c2 c3 c4
                go_wp2_with fail
                refine (H6.out _ X5.out.bel).mono ?_
                rintro e w6 ⟨rfl, hb⟩
                dsimp only
                have X6 := hideIt (X5.out.keep hb)
                clear hb H6 X5 c0 c1 c2 c3 c4
                obtain ⟨c0, c1, c2, c3, c4⟩ := X6.out.cells
                simp only at c0 c1 c2 c3 c4
                go_wp2
                go_ret
                exact ⟨by rfl, X6.out.bel⟩
            · clear H6
              go_enter Tryz.func41, Tryz.ntmps41
              go_wp2_with fail
              refine (H1.out _).mono ?_
              rintro e w1 ⟨rfl, rfl⟩
              dsimp only
              go_wp2_with fail
              refine (H2.out _ X0.out.bel).mono ?_
              rintro e w2 ⟨rfl, hb⟩
              dsimp only
              have X2 := hideIt (X0.out.keep hb)
              clear hb H2 X0 c0 c1 c2 c3 c4
              obtain ⟨c0, c1, c2, c3, c4⟩ := X2.out.cells
              simp only at c0 c1 c2 c3 c4
              go_wp2_with fail
              refine (H3.out _ X2.out.bel).mono ?_
              rintro e w3 ⟨rfl, hb⟩
              dsimp only
              have X3 := hideIt (X2.out.keep hb)
              clear hb H3 X2 c0 c1 c2 c3 c4
              obtain ⟨c0, c1, c2, c3, c4⟩ := X3.out.cells
              simp only at c0 c1 c2 c3 c4
              go_wp2_with fail
              refine (H4.out _ X3.out.bel).mono ?_
              rintro e w4 ⟨rfl, hb⟩
              dsimp only
              have X4 := hideIt (X3.out.keep hb)
              clear hb H4 X3 c0 c1 c2 c3 c4
              obtain ⟨c0, c1, c2, c3, c4⟩ := X4.out.cells
              simp only at c0 c1 c2 c3 c4
              go_wp2_with fail
              refine (H5.out _ X4.out.bel).mono ?_
              rintro e w5 ⟨rfl, hb⟩
              dsimp only
              have X5 := hideIt (X4.out.keep hb)
              clear hb H5 X4 c0 c1 c2 c3 c4
              obtain ⟨c0, c1, c2, c3, c4⟩ := X5.out.cells
              simp only at c0 c1 c2 c3 c4
              go_wp2
              go_ret
              exact ⟨by rfl, X5.out.bel⟩
          · clear H5
            cases r6
            · go_enter Tryz.func41, Tryz.ntmps41
              go_wp2_with fail
              refine (H1.out _).mono ?_
              rintro e w1 ⟨rfl, rfl⟩
              dsimp only
              go_wp2_with fail
              refine (H2.out _ X0.out.bel).mono ?_
              rintro e w2 ⟨rfl, hb⟩
              dsimp only
              have X2 := hideIt (X0.out.keep hb)
              clear hb H2 X0 c0 c1 c2 c3 c4
              obtain ⟨c0, c1, c2, c3, c4⟩ := X2.out.cells
              simp only at c0 c1 c2 c3 c4
              go_wp2_with fail
              refine (H3.out _ X2.out.bel).mono ?_
              rintro e w3 ⟨rfl, hb⟩
              dsimp only
              have X3 := hideIt (X2.out.keep hb)
              clear hb H3 X2 c0 c1 c2 c3 c4
              obtain ⟨c0, c1, c2, c3, c4⟩ := X3.out.cells
              simp only at c0 c1 c2 c3 c4
              go_wp2_with fail
              refine (H4.out _ X3.out.bel).mono ?_
              rintro e w4 ⟨rfl, hb⟩
              dsimp only
              have X4 := hideIt (X3.out.keep hb)
              clear hb H4 X3 c0 c1 c2 c3 c4
              obtain ⟨c0, c1, c2, c3, c4⟩ := X4.out.cells
              simp only at c0 c1 c2 c3 c4
              go_wp2_with fail
              refine (H6.out _ X4.out.bel).mono ?_
              rintro e w6 ⟨rfl, hb⟩
              dsimp only
              have X6 := hideIt (X4.out.keep hb)
              clear hb H6 X4 c0 c1 c2 c3 c4
              obtain ⟨c0, c1, c2, c3, c4⟩ := X6.out.cells
              simp only at c0 c1 c2 c3 c4
              go_wp2
              go_ret
              exact ⟨by rfl, X6.out.bel⟩
            · go_enter Tryz.func41, Tryz.ntmps41
              go_wp2_with fail
              refine (H1.out _).mono ?_
              rintro e w1 ⟨rfl, rfl⟩
              dsimp only
              go_wp2_with fail
              refine (H2.out _ X0.out.bel).mono ?_
              rintro e w2 ⟨rfl, hb⟩
              dsimp only
              have X2 := hideIt (X0.out.keep hb)
              clear hb H2 X0 c0 c1 c2 c3 c4
              obtain ⟨c0, c1, c2, c3, c4⟩ := X2.out.cells
              simp only at c0 c1 c2 c3 c4
              go_wp2_with fail
              refine (H3.out _ X2.out.bel).mono ?_
              rintro e w3 ⟨rfl, hb⟩
              dsimp only
              have X3 := hideIt (X2.out.keep hb)
              clear hb H3 X2 c0 c1 c2 c3 c4
              obtain ⟨c0, c1, c2, c3, c4⟩ := X3.out.cells
              simp only at c0 c1 c2 c3 c4
              go_wp2_with fail
              refine (H4.out _ X3.out.bel).mono ?_
              rintro e w4 ⟨rfl, hb⟩
              dsimp only
              have X4 := hideIt (X3.out.keep hb)
              clear hb H4 X3 c0 c1 c2 c3 c4
              obtain ⟨c0, c1, c2, c3, c4⟩ := X4.out.cells
              simp only at c0 c1 c2 c3 c4
              go_wp2_with fail
              refine (H6.out _ X4.out.bel).mono ?_
              rintro e w6 ⟨rfl, hb⟩
              dsimp only
              have X6 := hideIt (X4.out.keep hb)
              clear hb H6 X4 c0 c1 c2 c3 c4
              obtain ⟨c0, c1, c2, c3, c4⟩ := X6.out.cells
              simp only at c0 c1 c2 c3 c4
              go_wp2
              go_ret
              exact ⟨by rfl, X6.out.bel⟩
end Go.Proofs.YtiinigifjdpicaaGreatDoor
