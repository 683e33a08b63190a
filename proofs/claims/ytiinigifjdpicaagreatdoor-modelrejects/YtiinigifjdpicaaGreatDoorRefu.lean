/- The error of an order that is not even begun. -/
import Derived.Test.YtiinigifjdpicaaGreatDoorCheck
import Derived.Test.YtiinigifjdpicaaGreatDoorCop
namespace Go.Proofs.YtiinigifjdpicaaGreatDoor
open Go.RowKit
set_option linter.all false
def sideL (L : LaneV) (s : Int) : List OrdV := if s = 1 then L.bids else L.asks
def argB (acc s price n : Int) : Bool := wiB acc 1 8 && ((decide (s = 1) || decide (s = 2)) && (wiB price 1 1000000 && wiB n 1 1000000))
def refE (L : LaneV) (acc s price n : Int) (now : Bool) : Int :=
  if chkB L = false then 130 else if argB acc s price n = false then 1 else if (now && L.call) = true then 133 else if (sideL L s).length = 40 ∨ 1000000 < L.next then 131 else 0
set_option maxHeartbeats 16000000 in
set_option maxRecDepth 100000 in
theorem refused_is (L : LaneV) (b a o : Value) (acc s price n : Int) (now : Bool) (w : World) (h : Lan w L b a o) : Calls Tryz.prog 110 #[laneV L b a o, .int .i64 acc, .int .i64 s, .int .i64 price, .int .i64 n, .bool now] w fun e w' => e = .returned (.int .i64 (refE L acc s price n now)) ∧ Below w.heap.size w w' := by
  have X0 := hideIt (BoxL.first w L b a o)
  have HCK := hideIt (fun W (hW : Below w.heap.size w W) => check_is L b a o W (h.keep hW))
  have H1 := hideIt (fun W => isAccount_is acc W)
  have H2 := hideIt (fun W => isPrice_is price W)
  have H3 := hideIt (fun W => isSize_is n W)
  have HP1 := hideIt (fun W => sideOf_is w.heap.size 1 W)
  have HP2 := hideIt (fun W => sideOf_is w.heap.size 2 W)
  rw [show sideOff 1 = 2 from rfl] at HP1
  rw [show sideOff 2 = 3 from rfl] at HP2
  unfold refE chkI at *
  obtain ⟨ba, bc, rfl⟩ := h.bids.slice
  obtain ⟨aa, ac, rfl⟩ := h.asks.slice
  obtain ⟨oa, oc, rfl⟩ := h.owed.slice
  clear h
  generalize chkB L = ck at *
  unfold laneV laneA sideL at *
  obtain ⟨cl, nx, bids, asks, owed⟩ := L
  simp only at *
  cases ck
  · clear H1 H2 H3 HP1 HP2
    simp only [Bool.false_eq_true, if_false] at HCK
    rw [if_pos rfl]
    go_enter Tryz.func110, Tryz.ntmps110
    go_upto_region 1 with fail
    obtain ⟨c0, c1, c2, c3, c4⟩ := X0.out.cells
    simp only at c0 c1 c2 c3 c4
    go_wp2_with fail
    refine (HCK.out _ X0.out.bel).mono ?_
    rintro e w1 ⟨rfl, hb⟩
    dsimp only
    have X1 := hideIt (X0.out.keep hb)
    clear hb X0 c0 c1 c2 c3 c4
    obtain ⟨c0, c1, c2, c3, c4⟩ := X1.out.cells
    simp only at c0 c1 c2 c3 c4
    go_wp2
    go_ret
    exact ⟨rfl, X1.out.bel⟩
  · simp only [if_true] at HCK
    rw [if_neg (by simp)]
    unfold argB
    cases h1 : wiB acc 1 8
    · rw [h1] at H1
      clear H2 H3 HP1 HP2
      rw [if_pos (by simp)]
      go_enter Tryz.func110, Tryz.ntmps110
      go_upto_region 1 with fail
      obtain ⟨c0, c1, c2, c3, c4⟩ := X0.out.cells
      simp only at c0 c1 c2 c3 c4
      go_wp2_with fail
      refine (HCK.out _ X0.out.bel).mono ?_
      rintro e w1 ⟨rfl, hb⟩
      dsimp only
      have X1 := hideIt (X0.out.keep hb)
      clear hb X0 c0 c1 c2 c3 c4
      obtain ⟨c0, c1, c2, c3, c4⟩ := X1.out.cells
      simp only at c0 c1 c2 c3 c4
      go_wp2_with fail
      refine (H1.out _).mono ?_
      rintro e w2 ⟨rfl, rfl⟩
      dsimp only
      go_wp2
      go_ret
      exact ⟨rfl, X1.out.bel⟩
    · rw [h1] at H1
      by_cases hs : s = 1 ∨ s = 2
      · cases h2 : wiB price 1 1000000
        · rw [h2] at H2
          clear H3 HP1 HP2
          rw [if_pos (by simp)]
          rcases hs with rfl | rfl
          · go_enter Tryz.func110, Tryz.ntmps110
            go_upto_region 1 with fail
            obtain ⟨c0, c1, c2, c3, c4⟩ := X0.out.cells
            simp only at c0 c1 c2 c3 c4
            go_wp2_with fail
            refine (HCK.out _ X0.out.bel).mono ?_
            rintro e w1 ⟨rfl, hb⟩
            dsimp only
            have X1 := hideIt (X0.out.keep hb)
            clear hb X0 c0 c1 c2 c3 c4
            obtain ⟨c0, c1, c2, c3, c4⟩ := X1.out.cells
            simp only at c0 c1 c2 c3 c4
            go_wp2_with fail
            refine (H1.out _).mono ?_
            rintro e w2 ⟨rfl, rfl⟩
            dsimp only
            go_wp2_with fail
            refine (H2.out _).mono ?_
            rintro e w2 ⟨rfl, rfl⟩
            dsimp only
            go_wp2
            go_ret
            exact ⟨rfl, X1.out.bel⟩
          · go_enter Tryz.func110, Tryz.ntmps110
            go_upto_region 1 with fail
            obtain ⟨c0, c1, c2, c3, c4⟩ := X0.out.cells
            simp only at c0 c1 c2 c3 c4
            go_wp2_with fail
            refine (HCK.out _ X0.out.bel).mono ?_
            rintro e w1 ⟨rfl, hb⟩
            dsimp only
            have X1 := hideIt (X0.out.keep hb)
            clear hb X0 c0 c1 c2 c3 c4
            obtain ⟨c0, c1, c2, c3, c4⟩ := X1.out.cells
            simp only at c0 c1 c2 c3 c4
            go_wp2_with fail
            refine (H1.out _).mono ?_
            rintro e w2 ⟨rfl, rfl⟩
            dsimp only
            go_wp2_with fail
            refine (H2.out _).mono ?_
            rintro e w2 ⟨rfl, rfl⟩
            dsimp only
            go_wp2
            go_ret
            exact ⟨rfl, X1.out.bel⟩
        · rw [h2] at H2
          cases h3 : wiB n 1 1000000
          · rw [h3] at H3
            clear HP1 HP2
            rw [if_pos (by simp)]
            rcases hs with rfl | rfl
            · go_enter Tryz.func110, Tryz.ntmps110
              go_upto_region 1 with fail
              obtain ⟨c0, c1, c2, c3, c4⟩ := X0.out.cells
              simp only at c0 c1 c2 c3 c4
              go_wp2_with fail
              refine (HCK.out _ X0.out.bel).mono ?_
              rintro e w1 ⟨rfl, hb⟩
              dsimp only
              have X1 := hideIt (X0.out.keep hb)
              clear hb X0 c0 c1 c2 c3 c4
              obtain ⟨c0, c1, c2, c3, c4⟩ := X1.out.cells
              simp only at c0 c1 c2 c3 c4
              go_wp2_with fail
              refine (H1.out _).mono ?_
              rintro e w2 ⟨rfl, rfl⟩
              dsimp only
              go_wp2_with fail
              refine (H2.out _).mono ?_
              rintro e w2 ⟨rfl, rfl⟩
              dsimp only
              go_wp2_with fail
              refine (H3.out _).mono ?_
              rintro e w2 ⟨rfl, rfl⟩
              dsimp only
              go_wp2
              go_ret
              exact ⟨rfl, X1.out.bel⟩
            · go_enter Tryz.func110, Tryz.ntmps110
              go_upto_region 1 with fail
              obtain ⟨c0, c1, c2, c3, c4⟩ := X0.out.cells
              simp only at c0 c1 c2 c3 c4
              go_wp2_with fail
              refine (HCK.out _ X0.out.bel).mono ?_
              rintro e w1 ⟨rfl, hb⟩
              dsimp only
              have X1 := hideIt (X0.out.keep hb)
              clear hb X0 c0 c1 c2 c3 c4
              obtain ⟨c0, c1, c2, c3, c4⟩ := X1.out.cells
              simp only at c0 c1 c2 c3 c4
              go_wp2_with fail
              refine (H1.out _).mono ?_
              rintro e w2 ⟨rfl, rfl⟩
              dsimp only
              go_wp2_with fail
              refine (H2.out _).mono ?_
              rintro e w2 ⟨rfl, rfl⟩
              dsimp only
              go_wp2_with fail
              refine (H3.out _).mono ?_
              rintro e w2 ⟨rfl, rfl⟩
              dsimp only
              go_wp2
              go_ret
              exact ⟨rfl, X1.out.bel⟩
          · rw [h3] at H3
            rw [if_neg (by rcases hs with rfl | rfl <;> simp)]
            cases hnc : (now && cl)
            · rw [if_neg (by simp)]
              rcases hs with rfl | rfl
              · rw [show (if (1 : Int) = 1 then bids else asks) = bids from rfl]
                by_cases h4 : bids.length = 40
                · have h4I : (bids.length : Int) = 40 := by omega
                  rw [if_pos (Or.inl h4)]
                  clear h4
                  cases now
                  · go_enter Tryz.func110, Tryz.ntmps110
                    go_upto_region 1 with fail
                    obtain ⟨c0, c1, c2, c3, c4⟩ := X0.out.cells
                    simp only at c0 c1 c2 c3 c4
                    go_wp2_with fail
                    refine (HCK.out _ X0.out.bel).mono ?_
                    rintro e w1 ⟨rfl, hb⟩
                    dsimp only
                    have X1 := hideIt (X0.out.keep hb)
                    clear hb X0 c0 c1 c2 c3 c4
                    obtain ⟨c0, c1, c2, c3, c4⟩ := X1.out.cells
                    simp only at c0 c1 c2 c3 c4
                    go_wp2_with fail
                    refine (H1.out _).mono ?_
                    rintro e w2 ⟨rfl, rfl⟩
                    dsimp only
                    go_wp2_with fail
                    refine (H2.out _).mono ?_
                    rintro e w2 ⟨rfl, rfl⟩
                    dsimp only
                    go_wp2_with fail
                    refine (H3.out _).mono ?_
                    rintro e w2 ⟨rfl, rfl⟩
                    dsimp only
                    go_wp2_with fail
                    refine (HP1.out _).mono ?_
                    rintro e w2 ⟨rfl, rfl⟩
                    dsimp only
                    go_wp2
                    go_ret
                    exact ⟨rfl, X1.out.bel⟩
                  · simp only [Bool.true_and] at hnc
                    subst hnc
                    go_enter Tryz.func110, Tryz.ntmps110
                    go_upto_region 1 with fail
                    obtain ⟨c0, c1, c2, c3, c4⟩ := X0.out.cells
                    simp only at c0 c1 c2 c3 c4
                    go_wp2_with fail
                    refine (HCK.out _ X0.out.bel).mono ?_
                    rintro e w1 ⟨rfl, hb⟩
                    dsimp only
                    have X1 := hideIt (X0.out.keep hb)
                    clear hb X0 c0 c1 c2 c3 c4
                    obtain ⟨c0, c1, c2, c3, c4⟩ := X1.out.cells
                    simp only at c0 c1 c2 c3 c4
                    go_wp2_with fail
                    refine (H1.out _).mono ?_
                    rintro e w2 ⟨rfl, rfl⟩
                    dsimp only
                    go_wp2_with fail
                    refine (H2.out _).mono ?_
                    rintro e w2 ⟨rfl, rfl⟩
                    dsimp only
                    go_wp2_with fail
                    refine (H3.out _).mono ?_
                    rintro e w2 ⟨rfl, rfl⟩
                    dsimp only
                    go_wp2_with fail
                    refine (HP1.out _).mono ?_
                    rintro e w2 ⟨rfl, rfl⟩
                    dsimp only
                    go_wp2
                    go_ret
                    exact ⟨rfl, X1.out.bel⟩
                · have h4I : ¬ (bids.length : Int) = 40 := by omega
                  by_cases h5 : 1000000 < nx
                  · rw [if_pos (Or.inr h5)]
                    clear h4
                    cases now
                    · go_enter Tryz.func110, Tryz.ntmps110
                      go_upto_region 1 with fail
                      obtain ⟨c0, c1, c2, c3, c4⟩ := X0.out.cells
                      simp only at c0 c1 c2 c3 c4
                      go_wp2_with fail
                      refine (HCK.out _ X0.out.bel).mono ?_
                      rintro e w1 ⟨rfl, hb⟩
                      dsimp only
                      have X1 := hideIt (X0.out.keep hb)
                      clear hb X0 c0 c1 c2 c3 c4
                      obtain ⟨c0, c1, c2, c3, c4⟩ := X1.out.cells
                      simp only at c0 c1 c2 c3 c4
                      go_wp2_with fail
                      refine (H1.out _).mono ?_
                      rintro e w2 ⟨rfl, rfl⟩
                      dsimp only
                      go_wp2_with fail
                      refine (H2.out _).mono ?_
                      rintro e w2 ⟨rfl, rfl⟩
                      dsimp only
                      go_wp2_with fail
                      refine (H3.out _).mono ?_
                      rintro e w2 ⟨rfl, rfl⟩
                      dsimp only
                      go_wp2_with fail
                      refine (HP1.out _).mono ?_
                      rintro e w2 ⟨rfl, rfl⟩
                      dsimp only
                      go_wp2
                      go_ret
                      exact ⟨rfl, X1.out.bel⟩
                    · simp only [Bool.true_and] at hnc
                      subst hnc
                      go_enter Tryz.func110, Tryz.ntmps110
                      go_upto_region 1 with fail
                      obtain ⟨c0, c1, c2, c3, c4⟩ := X0.out.cells
                      simp only at c0 c1 c2 c3 c4
                      go_wp2_with fail
                      refine (HCK.out _ X0.out.bel).mono ?_
                      rintro e w1 ⟨rfl, hb⟩
                      dsimp only
                      have X1 := hideIt (X0.out.keep hb)
                      clear hb X0 c0 c1 c2 c3 c4
                      obtain ⟨c0, c1, c2, c3, c4⟩ := X1.out.cells
                      simp only at c0 c1 c2 c3 c4
                      go_wp2_with fail
                      refine (H1.out _).mono ?_
                      rintro e w2 ⟨rfl, rfl⟩
                      dsimp only
                      go_wp2_with fail
                      refine (H2.out _).mono ?_
                      rintro e w2 ⟨rfl, rfl⟩
                      dsimp only
                      go_wp2_with fail
                      refine (H3.out _).mono ?_
                      rintro e w2 ⟨rfl, rfl⟩
                      dsimp only
                      go_wp2_with fail
                      refine (HP1.out _).mono ?_
                      rintro e w2 ⟨rfl, rfl⟩
                      dsimp only
                      go_wp2
                      go_ret
                      exact ⟨rfl, X1.out.bel⟩
                  · rw [if_neg (by omega)]
                    have h4B : ((bids.length : Int) == 40) = false := by simp; omega
                    have h5D : decide ((1000000 : Int) < nx) = false := decide_eq_false h5
                    clear h4
                    cases now
                    · go_enter Tryz.func110, Tryz.ntmps110
                      go_upto_region 1 with fail
                      obtain ⟨c0, c1, c2, c3, c4⟩ := X0.out.cells
                      simp only at c0 c1 c2 c3 c4
                      go_wp2_with fail
                      refine (HCK.out _ X0.out.bel).mono ?_
                      rintro e w1 ⟨rfl, hb⟩
                      dsimp only
                      have X1 := hideIt (X0.out.keep hb)
                      clear hb X0 c0 c1 c2 c3 c4
                      obtain ⟨c0, c1, c2, c3, c4⟩ := X1.out.cells
                      simp only at c0 c1 c2 c3 c4
                      go_wp2_with fail
                      refine (H1.out _).mono ?_
                      rintro e w2 ⟨rfl, rfl⟩
                      dsimp only
                      go_wp2_with fail
                      refine (H2.out _).mono ?_
                      rintro e w2 ⟨rfl, rfl⟩
                      dsimp only
                      go_wp2_with fail
                      refine (H3.out _).mono ?_
                      rintro e w2 ⟨rfl, rfl⟩
                      dsimp only
                      go_wp2_with fail
                      refine (HP1.out _).mono ?_
                      rintro e w2 ⟨rfl, rfl⟩
                      dsimp only
                      go_wp2
                      go_ret
                      exact ⟨rfl, X1.out.bel⟩
                    · simp only [Bool.true_and] at hnc
                      subst hnc
                      go_enter Tryz.func110, Tryz.ntmps110
                      go_upto_region 1 with fail
                      obtain ⟨c0, c1, c2, c3, c4⟩ := X0.out.cells
                      simp only at c0 c1 c2 c3 c4
                      go_wp2_with fail
                      refine (HCK.out _ X0.out.bel).mono ?_
                      rintro e w1 ⟨rfl, hb⟩
                      dsimp only
                      have X1 := hideIt (X0.out.keep hb)
                      clear hb X0 c0 c1 c2 c3 c4
                      obtain ⟨c0, c1, c2, c3, c4⟩ := X1.out.cells
                      simp only at c0 c1 c2 c3 c4
                      go_wp2_with fail
                      refine (H1.out _).mono ?_
                      rintro e w2 ⟨rfl, rfl⟩
                      dsimp only
                      go_wp2_with fail
                      refine (H2.out _).mono ?_
                      rintro e w2 ⟨rfl, rfl⟩
                      dsimp only
                      go_wp2_with fail
                      refine (H3.out _).mono ?_
                      rintro e w2 ⟨rfl, rfl⟩
                      dsimp only
                      go_wp2_with fail
                      refine (HP1.out _).mono ?_
                      rintro e w2 ⟨rfl, rfl⟩
                      dsimp only
                      go_wp2
                      go_ret
                      exact ⟨rfl, X1.out.bel⟩
              · rw [show (if (2 : Int) = 1 then bids else asks) = asks from rfl]
                by_cases h4 : asks.length = 40
                · have h4I : (asks.length : Int) = 40 := by omega
                  rw [if_pos (Or.inl h4)]
                  clear h4
                  cases now
                  · go_enter Tryz.func110, Tryz.ntmps110
                    go_upto_region 1 with fail
                    obtain ⟨c0, c1, c2, c3, c4⟩ := X0.out.cells
                    simp only at c0 c1 c2 c3 c4
                    go_wp2_with fail
                    refine (HCK.out _ X0.out.bel).mono ?_
                    rintro e w1 ⟨rfl, hb⟩
                    dsimp only
                    have X1 := hideIt (X0.out.keep hb)
                    clear hb X0 c0 c1 c2 c3 c4
                    obtain ⟨c0, c1, c2, c3, c4⟩ := X1.out.cells
                    simp only at c0 c1 c2 c3 c4
                    go_wp2_with fail
                    refine (H1.out _).mono ?_
                    rintro e w2 ⟨rfl, rfl⟩
                    dsimp only
                    go_wp2_with fail
                    refine (H2.out _).mono ?_
                    rintro e w2 ⟨rfl, rfl⟩
                    dsimp only
                    go_wp2_with fail
                    refine (H3.out _).mono ?_
                    rintro e w2 ⟨rfl, rfl⟩
                    dsimp only
                    go_wp2_with fail
                    refine (HP2.out _).mono ?_
                    rintro e w2 ⟨rfl, rfl⟩
                    dsimp only
                    go_wp2
                    go_ret
                    exact ⟨rfl, X1.out.bel⟩
                  · simp only [Bool.true_and] at hnc
                    subst hnc
                    go_enter Tryz.func110, Tryz.ntmps110
                    go_upto_region 1 with fail
                    obtain ⟨c0, c1, c2, c3, c4⟩ := X0.out.cells
                    simp only at c0 c1 c2 c3 c4
                    go_wp2_with fail
                    refine (HCK.out _ X0.out.bel).mono ?_
                    rintro e w1 ⟨rfl, hb⟩
                    dsimp only
                    have X1 := hideIt (X0.out.keep hb)
                    clear hb X0 c0 c1 c2 c3 c4
                    obtain ⟨c0, c1, c2, c3, c4⟩ := X1.out.cells
                    simp only at c0 c1 c2 c3 c4
                    go_wp2_with fail
                    refine (H1.out _).mono ?_
                    rintro e w2 ⟨rfl, rfl⟩
                    dsimp only
                    go_wp2_with fail
                    refine (H2.out _).mono ?_
                    rintro e w2 ⟨rfl, rfl⟩
                    dsimp only
                    go_wp2_with fail
                    refine (H3.out _).mono ?_
                    rintro e w2 ⟨rfl, rfl⟩
                    dsimp only
                    go_wp2_with fail
                    refine (HP2.out _).mono ?_
                    rintro e w2 ⟨rfl, rfl⟩
                    dsimp only
                    go_wp2
                    go_ret
                    exact ⟨rfl, X1.out.bel⟩
                · have h4I : ¬ (asks.length : Int) = 40 := by omega
                  by_cases h5 : 1000000 < nx
                  · rw [if_pos (Or.inr h5)]
                    clear h4
                    cases now
                    · go_enter Tryz.func110, Tryz.ntmps110
                      go_upto_region 1 with fail
                      obtain ⟨c0, c1, c2, c3, c4⟩ := X0.out.cells
                      simp only at c0 c1 c2 c3 c4
                      go_wp2_with fail
                      refine (HCK.out _ X0.out.bel).mono ?_
                      rintro e w1 ⟨rfl, hb⟩
                      dsimp only
                      have X1 := hideIt (X0.out.keep hb)
                      clear hb X0 c0 c1 c2 c3 c4
                      obtain ⟨c0, c1, c2, c3, c4⟩ := X1.out.cells
                      simp only at c0 c1 c2 c3 c4
                      go_wp2_with fail
                      refine (H1.out _).mono ?_
                      rintro e w2 ⟨rfl, rfl⟩
                      dsimp only
                      go_wp2_with fail
                      refine (H2.out _).mono ?_
                      rintro e w2 ⟨rfl, rfl⟩
                      dsimp only
                      go_wp2_with fail
                      refine (H3.out _).mono ?_
                      rintro e w2 ⟨rfl, rfl⟩
                      dsimp only
                      go_wp2_with fail
                      refine (HP2.out _).mono ?_
                      rintro e w2 ⟨rfl, rfl⟩
                      dsimp only
                      go_wp2
                      go_ret
                      exact ⟨rfl, X1.out.bel⟩
                    · simp only [Bool.true_and] at hnc
                      subst hnc
                      go_enter Tryz.func110, Tryz.ntmps110
                      go_upto_region 1 with fail
                      obtain ⟨c0, c1, c2, c3, c4⟩ := X0.out.cells
                      simp only at c0 c1 c2 c3 c4
                      go_wp2_with fail
                      refine (HCK.out _ X0.out.bel).mono ?_
                      rintro e w1 ⟨rfl, hb⟩
                      dsimp only
                      have X1 := hideIt (X0.out.keep hb)
                      clear hb X0 c0 c1 c2 c3 c4
                      obtain ⟨c0, c1, c2, c3, c4⟩ := X1.out.cells
                      simp only at c0 c1 c2 c3 c4
                      go_wp2_with fail
                      refine (H1.out _).mono ?_
                      rintro e w2 ⟨rfl, rfl⟩
                      dsimp only
                      go_wp2_with fail
                      refine (H2.out _).mono ?_
                      rintro e w2 ⟨rfl, rfl⟩
                      dsimp only
                      go_wp2_with fail
                      refine (H3.out _).mono ?_
                      rintro e w2 ⟨rfl, rfl⟩
                      dsimp only
                      go_wp2_with fail
                      refine (HP2.out _).mono ?_
                      rintro e w2 ⟨rfl, rfl⟩
                      dsimp only
                      go_wp2
                      go_ret
                      exact ⟨rfl, X1.out.bel⟩
                  · rw [if_neg (by omega)]
                    have h4B : ((asks.length : Int) == 40) = false := by simp; omega
                    have h5D : decide ((1000000 : Int) < nx) = false := decide_eq_false h5
                    clear h4
                    cases now
                    · go_enter Tryz.func110, Tryz.ntmps110
                      go_upto_region 1 with fail
                      obtain ⟨c0, c1, c2, c3, c4⟩ := X0.out.cells
                      simp only at c0 c1 c2 c3 c4
                      go_wp2_with fail
                      refine (HCK.out _ X0.out.bel).mono ?_
                      rintro e w1 ⟨rfl, hb⟩
                      dsimp only
                      have X1 := hideIt (X0.out.keep hb)
                      clear hb X0 c0 c1 c2 c3 c4
                      obtain ⟨c0, c1, c2, c3, c4⟩ := X1.out.cells
                      simp only at c0 c1 c2 c3 c4
                      go_wp2_with fail
                      refine (H1.out _).mono ?_
                      rintro e w2 ⟨rfl, rfl⟩
                      dsimp only
                      go_wp2_with fail
                      refine (H2.out _).mono ?_
                      rintro e w2 ⟨rfl, rfl⟩
                      dsimp only
                      go_wp2_with fail
                      refine (H3.out _).mono ?_
                      rintro e w2 ⟨rfl, rfl⟩
                      dsimp only
                      go_wp2_with fail
                      refine (HP2.out _).mono ?_
                      rintro e w2 ⟨rfl, rfl⟩
                      dsimp only
                      go_wp2
                      go_ret
                      exact ⟨rfl, X1.out.bel⟩
                    · simp only [Bool.true_and] at hnc
                      subst hnc
                      go_enter Tryz.func110, Tryz.ntmps110
                      go_upto_region 1 with fail
                      obtain ⟨c0, c1, c2, c3, c4⟩ := X0.out.cells
                      simp only at c0 c1 c2 c3 c4
                      go_wp2_with fail
                      refine (HCK.out _ X0.out.bel).mono ?_
                      rintro e w1 ⟨rfl, hb⟩
                      dsimp only
                      have X1 := hideIt (X0.out.keep hb)
                      clear hb X0 c0 c1 c2 c3 c4
                      obtain ⟨c0, c1, c2, c3, c4⟩ := X1.out.cells
                      simp only at c0 c1 c2 c3 c4
                      go_wp2_with fail
                      refine (H1.out _).mono ?_
                      rintro e w2 ⟨rfl, rfl⟩
                      dsimp only
                      go_wp2_with fail
                      refine (H2.out _).mono ?_
                      rintro e w2 ⟨rfl, rfl⟩
                      dsimp only
                      go_wp2_with fail
                      refine (H3.out _).mono ?_
                      rintro e w2 ⟨rfl, rfl⟩
                      dsimp only
                      go_wp2_with fail
                      refine (HP2.out _).mono ?_
                      rintro e w2 ⟨rfl, rfl⟩
                      dsimp only
                      go_wp2
                      go_ret
                      exact ⟨rfl, X1.out.bel⟩
            · rw [if_pos rfl]
              simp only [Bool.and_eq_true] at hnc
              obtain ⟨rfl, rfl⟩ := hnc
              clear HP1 HP2
              rcases hs with rfl | rfl
              · go_enter Tryz.func110, Tryz.ntmps110
                go_upto_region 1 with fail
                obtain ⟨c0, c1, c2, c3, c4⟩ := X0.out.cells
                simp only at c0 c1 c2 c3 c4
                go_wp2_with fail
                refine (HCK.out _ X0.out.bel).mono ?_
                rintro e w1 ⟨rfl, hb⟩
                dsimp only
                have X1 := hideIt (X0.out.keep hb)
                clear hb X0 c0 c1 c2 c3 c4
                obtain ⟨c0, c1, c2, c3, c4⟩ := X1.out.cells
                simp only at c0 c1 c2 c3 c4
                go_wp2_with fail
                refine (H1.out _).mono ?_
                rintro e w2 ⟨rfl, rfl⟩
                dsimp only
                go_wp2_with fail
                refine (H2.out _).mono ?_
                rintro e w2 ⟨rfl, rfl⟩
                dsimp only
                go_wp2_with fail
                refine (H3.out _).mono ?_
                rintro e w2 ⟨rfl, rfl⟩
                dsimp only
                go_wp2
                go_ret
                exact ⟨rfl, X1.out.bel⟩
              · go_enter Tryz.func110, Tryz.ntmps110
                go_upto_region 1 with fail
                obtain ⟨c0, c1, c2, c3, c4⟩ := X0.out.cells
                simp only at c0 c1 c2 c3 c4
                go_wp2_with fail
                refine (HCK.out _ X0.out.bel).mono ?_
                rintro e w1 ⟨rfl, hb⟩
                dsimp only
                have X1 := hideIt (X0.out.keep hb)
                clear hb X0 c0 c1 c2 c3 c4
                obtain ⟨c0, c1, c2, c3, c4⟩ := X1.out.cells
                simp only at c0 c1 c2 c3 c4
                go_wp2_with fail
                refine (H1.out _).mono ?_
                rintro e w2 ⟨rfl, rfl⟩
                dsimp only
                go_wp2_with fail
                refine (H2.out _).mono ?_
                rintro e w2 ⟨rfl, rfl⟩
                dsimp only
                go_wp2_with fail
                refine (H3.out _).mono ?_
                rintro e w2 ⟨rfl, rfl⟩
                dsimp only
                go_wp2
                go_ret
                exact ⟨rfl, X1.out.bel⟩
      · have hs1 : ¬ s = 1 := fun e => hs (.inl e)
        have hs2 : ¬ s = 2 := fun e => hs (.inr e)
        clear H2 H3 HP1 HP2 hs
        rw [if_pos (by simp [hs1, hs2])]
        go_enter Tryz.func110, Tryz.ntmps110
        go_upto_region 1 with fail
        obtain ⟨c0, c1, c2, c3, c4⟩ := X0.out.cells
        simp only at c0 c1 c2 c3 c4
        go_wp2_with fail
        refine (HCK.out _ X0.out.bel).mono ?_
        rintro e w1 ⟨rfl, hb⟩
        dsimp only
        have X1 := hideIt (X0.out.keep hb)
        clear hb X0 c0 c1 c2 c3 c4
        obtain ⟨c0, c1, c2, c3, c4⟩ := X1.out.cells
        simp only at c0 c1 c2 c3 c4
        go_wp2_with fail
        refine (H1.out _).mono ?_
        rintro e w2 ⟨rfl, rfl⟩
        dsimp only
        go_wp2
        go_ret
        exact ⟨rfl, X1.out.bel⟩
end Go.Proofs.YtiinigifjdpicaaGreatDoor
