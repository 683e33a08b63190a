/- The document's Check. -/
import Derived.Test.YtgnmghcdfihmgaaRUn
import Derived.Test.YtgnmghcdfihmgaaROw
namespace Go.Proofs.Ytgnmghcdfihmgaa
open Go.RowKit
set_option linter.all false
theorem cross_two {L : LaneV} (hb : 0 < L.bids.length) (ha : 0 < L.asks.length) : crossB L = decide (L.asks[0].price ≤ L.bids[0].price) := by
  unfold crossB
  obtain ⟨cl, nx, bids, asks, owed⟩ := L
  cases bids with
  | nil => simp at hb
  | cons x bs =>
    cases asks with
    | nil => simp at ha
    | cons y ys => rfl
theorem cross_nb {L : LaneV} (h : ¬ 0 < L.bids.length) : crossB L = false := by
  unfold crossB
  obtain ⟨cl, nx, bids, asks, owed⟩ := L
  cases bids with
  | nil => rfl
  | cons x bs => simp at h
theorem cross_na {L : LaneV} (h : ¬ 0 < L.asks.length) : crossB L = false := by
  unfold crossB
  obtain ⟨cl, nx, bids, asks, owed⟩ := L
  cases asks with
  | nil => cases bids <;> rfl
  | cons x bs => simp at h
set_option maxHeartbeats 8000000 in
set_option maxRecDepth 100000 in
theorem rCheck_is (L : LaneV) (b a o : Value) (w : World) (h : Lan w L b a o) : Calls Try.prog 41 #[laneV L b a o] w fun e w' => e = .returned (.int .i64 (chkI L)) ∧ Below w.heap.size w w' := by
  have HB0 := hideIt (below1 w (.cells (laneA L b a o) 25))
  have HX0 := hideIt (heap_alloc_new w (.cells (laneA L b a o) 25))
  have H := hideIt (h.keep HB0.out)
  have HW := hideIt (fun x lo hi W => rWithin_is x lo hi W)
  have HOB := hideIt (fun hn W hW => rOrders_is L b a o 1 b L.bids W (H.out.keep hW).bids hn)
  have HOA := hideIt (fun hn W hW => rOrders_is L b a o 2 a L.asks W (H.out.keep hW).asks hn)
  have HUN := hideIt (fun h1 h2 W hW => rUnlike_is L b a o W (H.out.keep hW) h1 h2)
  have HOW := hideIt (fun W hW => rOwed_is o L.owed W (H.out.keep hW).owed)
  obtain ⟨ba, bc, rfl, -, hrb⟩ := h.bids.ords
  obtain ⟨aa, ac, rfl, -, hra⟩ := h.asks.ords
  obtain ⟨oa, oc, rfl⟩ := h.owed.slice
  have HRB := hideIt hrb
  have HRA := hideIt hra
  clear h hrb hra
  unfold laneV laneA at *
  obtain ⟨⟨c0, c1, c2, c3, c4⟩, -, cl0⟩ := five_at HX0.out
  go_enter Try.func41, Try.ntmps41
  go_upto_region 1 with fail
  generalize w.alloc (.cells #[.bool L.call, .int .i64 L.next, .slice ba L.bids.length bc, .slice aa L.asks.length ac, .slice oa L.owed.length oc] 25) = W0 at *
  go_wp2_with fail
  refine (HW.out _ _ _ _).mono ?_
  rintro e wq ⟨rfl, hwq⟩
  replace hwq := hwq.symm
  subst hwq
  dsimp only
  cases h1 : wiB L.next 1 1000001
  · have HNO : Hid (chkI L = 130) := by
      show _ = _
      unfold chkI chkB
      rw [h1]
      simp
    go_wp2
    go_ret
    exact ⟨by rw [HNO.out]; rfl, HB0.out⟩
  have hn := wiB_in h1
  go_wp2_with fail
  refine (HOB.out hn _ (Below.refl _ _)).mono ?_
  rintro e w1 ⟨rfl, hb1⟩
  dsimp only
  clear c0 c1 c2 c3 c4 cl0
  obtain ⟨⟨c0, c1, c2, c3, c4⟩, -, cl0⟩ := five_at (blkK HX0.out hb1)
  have B1 := hideIt (below_via HB0.out hb1)
  cases h2 : sideB 1 L.next L.bids
  · have HNO : Hid (chkI L = 130) := by
      show _ = _
      unfold chkI chkB
      rw [h1, h2]
      simp
    go_wp2
    go_ret
    exact ⟨by rw [HNO.out]; rfl, B1.out⟩
  go_wp2_with fail
  refine (HOA.out hn _ hb1).mono ?_
  rintro e w2 ⟨rfl, hb2⟩
  dsimp only
  replace hb2 := below_via hb1 hb2
  clear c0 c1 c2 c3 c4 cl0 hb1 B1
  obtain ⟨⟨c0, c1, c2, c3, c4⟩, -, cl0⟩ := five_at (blkK HX0.out hb2)
  have B2 := hideIt (below_via HB0.out hb2)
  cases h3 : sideB 2 L.next L.asks
  · have HNO : Hid (chkI L = 130) := by
      show _ = _
      unfold chkI chkB
      rw [h1, h2, h3]
      simp
    go_wp2
    go_ret
    exact ⟨by rw [HNO.out]; rfl, B2.out⟩
  go_wp2_with fail
  refine (HUN.out (side_len h2) (side_len h3) _ hb2).mono ?_
  rintro e w3 ⟨rfl, hb3⟩
  dsimp only
  replace hb3 := below_via hb2 hb3
  clear c0 c1 c2 c3 c4 cl0 hb2 B2
  obtain ⟨⟨c0, c1, c2, c3, c4⟩, -, cl0⟩ := five_at (blkK HX0.out hb3)
  have B3 := hideIt (below_via HB0.out hb3)
  cases h4 : unlB L
  · have HNO : Hid (chkI L = 130) := by
      show _ = _
      unfold chkI chkB
      rw [h1, h2, h3, h4]
      simp
    go_wp2
    go_ret
    exact ⟨by rw [HNO.out]; rfl, B3.out⟩
  go_wp2_with fail
  refine (HOW.out _ hb3).mono ?_
  rintro e w4 ⟨rfl, hb4⟩
  dsimp only
  replace hb4 := below_via hb3 hb4
  clear c0 c1 c2 c3 c4 cl0 hb3 B3
  obtain ⟨⟨c0, c1, c2, c3, c4⟩, -, cl0⟩ := five_at (blkK HX0.out hb4)
  have B4 := hideIt (below_via HB0.out hb4)
  cases h5 : owedB L.owed
  · have HNO : Hid (chkI L = 130) := by
      show _ = _
      unfold chkI chkB
      rw [h1, h2, h3, h4, h5]
      simp
    go_wp2
    go_ret
    exact ⟨by rw [HNO.out]; rfl, B4.out⟩
  have HCK : Hid (chkB L = (L.call || !crossB L)) := by
    show _ = _
    unfold chkB
    rw [h1, h2, h3, h4, h5]
    simp
  have BB := hideIt (below_via HB0.out hb4)
  clear HW HOB HOA HUN HOW h1 h2 h3 h4 h5 H hb4 HB0 HX0
  by_cases hc : L.call = true
  · replace c0 := c0.trans (show some (Value.bool L.call) = some (Value.bool true) by rw [hc])
    have HC := hideIt hc
    clear hc HRB HRA
    have HF : Hid (chkI L = 0) := by
      show _ = _
      unfold chkI
      rw [HCK.out, HC.out]
      simp
    clear HCK
    go_upto_region 3 with fail
    go_quiet (fail)
    go_wp2
    go_ret
    exact ⟨by rw [HF.out]; rfl, below_drewN B4.out _⟩
  have hcf : L.call = false := by simpa using hc
  replace c0 := c0.trans (show some (Value.bool L.call) = some (Value.bool false) by rw [hcf])
  have HC := hideIt hcf
  clear hc hcf
  by_cases hb : 0 < L.bids.length
  · have g1 : decide (0 < L.bids.length) = true := decide_eq_true hb
    have g2 : (0 : Int) < (L.bids.length : Int) := by omega
    by_cases ha : 0 < L.asks.length
    · have g3 : decide (0 < L.asks.length) = true := decide_eq_true ha
      have g4 : (0 : Int) < (L.asks.length : Int) := by omega
      have HX := hideIt (cross_two hb ha)
      obtain ⟨kb, ob, rfl, hkb, -, -, p0, -⟩ := HRB.out 0 hb
      obtain ⟨ka, oo, rfl, hka, -, -, q0, -⟩ := HRA.out 0 ha
      have z0 := (BB.out.cell (p := ⟨kb, ob + 0 * 4 + 2, none⟩) hkb).trans p0
      have z1 := (BB.out.cell (p := ⟨ka, oo + 0 * 4 + 2, none⟩) hka).trans q0
      have hkbr : kb < w4.heap.size := Nat.lt_of_lt_of_le hkb BB.out.size
      have hkar : ka < w4.heap.size := Nat.lt_of_lt_of_le hka BB.out.size
      simp only [Nat.zero_mul, Nat.add_zero] at z0 z1
      clear HRB HRA p0 q0
      generalize L.bids[0].price = bp at *
      generalize L.asks[0].price = ap at *
      by_cases hx : ap ≤ bp
      · rw [decide_eq_true hx] at HX
        have HF : Hid (chkI L = 130) := by
          show _ = _
          unfold chkI
          rw [HCK.out, HC.out, HX.out]
          simp
        clear HCK
        go_upto_region 3 with fail
        go_quiet (fail)
        go_wp2
        go_ret
        exact ⟨by rw [HF.out]; rfl, below_drewN B4.out _⟩
      · rw [decide_eq_false hx] at HX
        have HF : Hid (chkI L = 0) := by
          show _ = _
          unfold chkI
          rw [HCK.out, HC.out, HX.out]
          simp
        clear HCK
        go_upto_region 3 with fail
        go_quiet (fail)
        go_wp2
        go_ret
        exact ⟨by rw [HF.out]; rfl, below_drewN B4.out _⟩
    · have g3 : decide (0 < L.asks.length) = false := decide_eq_false ha
      have g4 : ¬ (0 : Int) < (L.asks.length : Int) := by omega
      have HX := hideIt (cross_na ha)
      clear HRB HRA
      have HF : Hid (chkI L = 0) := by
        show _ = _
        unfold chkI
        rw [HCK.out, HC.out, HX.out]
        simp
      clear HCK
      go_upto_region 3 with fail
      go_quiet (fail)
      go_wp2
      go_ret
      exact ⟨by rw [HF.out]; rfl, below_drewN B4.out _⟩
  · have g1 : decide (0 < L.bids.length) = false := decide_eq_false hb
    have g2 : ¬ (0 : Int) < (L.bids.length : Int) := by omega
    have HX := hideIt (cross_nb hb)
    clear HRB HRA
    have HF : Hid (chkI L = 0) := by
      show _ = _
      unfold chkI
      rw [HCK.out, HC.out, HX.out]
      simp
    clear HCK
    go_upto_region 3 with fail
    go_quiet (fail)
    go_wp2
    go_ret
    exact ⟨by rw [HF.out]; rfl, below_drewN B4.out _⟩
end Go.Proofs.Ytgnmghcdfihmgaa
