/- auction's refused, walked. -/
import Derived.Test.YtgnmghcdfihmgaaCheck
import Derived.Test.YtgnmghcdfihmgaaRCo
namespace Go.Proofs.Ytgnmghcdfihmgaa
open Go.RowKit
set_option linter.all false
def rfE (L : LaneV) (c : Bool) : Int := if chkB L = false then 130 else if L.call = c then 0 else 140
set_option maxHeartbeats 4000000 in
set_option maxRecDepth 100000 in
theorem aRefused_is (L : LaneV) (b a o : Value) (c : Bool) (w : World) (h : Lan w L b a o) : Calls Try.prog 22 #[laneV L b a o, .bool c] w fun e w' => e = .returned (.int .i64 (rfE L c)) ∧ Below w.heap.size w w' := by
  have X0 := hideIt (BoxL.first w L b a o)
  have HC := hideIt (check_is L b a o _ (h.keep X0.out.bel))
  obtain ⟨ba, bc, rfl⟩ := h.bids.slice
  obtain ⟨aa, ac, rfl⟩ := h.asks.slice
  obtain ⟨oa, oc, rfl⟩ := h.owed.slice
  clear h
  cases hk : chkB L
  · have e : rfE L c = 130 := by unfold rfE; rw [if_pos hk]
    rw [e]
    rw [show chkI L = 130 by unfold chkI; rw [hk]; rfl] at HC
    obtain ⟨c0, c1, c2, c3, c4⟩ := X0.out.cells
    unfold laneV laneA at *
    obtain ⟨cl, nx, bids, asks, owed⟩ := L
    simp only at *
    clear e hk
    go_enter Try.func22, Try.ntmps22
    go_wp2_with fail
    refine HC.out.mono ?_
    rintro e w1 ⟨rfl, hb⟩
    dsimp only
    have X1 := hideIt (X0.out.keep hb)
    clear hb X0 HC c0 c1 c2 c3 c4
    go_wp2
    go_ret
    exact ⟨rfl, X1.out.bel⟩
  · rw [show chkI L = 0 by unfold chkI; rw [hk]; rfl] at HC
    have e : rfE L c = if L.call = c then 0 else 140 := by unfold rfE; rw [if_neg (by simp [hk])]
    rw [e]
    clear e hk
    obtain ⟨cl, nx, bids, asks, owed⟩ := L
    cases cl <;> cases c
    all_goals
      obtain ⟨c0, c1, c2, c3, c4⟩ := X0.out.cells
      unfold laneV laneA at *
      simp only at *
      go_enter Try.func22, Try.ntmps22
      go_wp2_with fail
      refine HC.out.mono ?_
      rintro e w1 ⟨rfl, hb⟩
      dsimp only
      have X1 := hideIt (X0.out.keep hb)
      clear hb X0 HC c0 c1 c2 c3 c4
      obtain ⟨c0, c1, c2, c3, c4⟩ := X1.out.cells
      simp only at c0 c1 c2 c3 c4
      have kz : w.heap.size < w1.heap.size := by have := X1.out.size; omega
      go_wp2
      go_ret
      exact ⟨by first | rfl | simp, X1.out.bel⟩
end Go.Proofs.Ytgnmghcdfihmgaa
