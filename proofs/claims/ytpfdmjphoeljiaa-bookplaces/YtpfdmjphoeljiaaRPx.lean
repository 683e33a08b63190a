/- The document's Place, where it refuses. -/
import Derived.Test.YtpfdmjphoeljiaaDpP
import Derived.Test.YtpfdmjphoeljiaaRCh
import Derived.Test.YtpfdmjphoeljiaaRCa
namespace Go.Proofs.Ytpfdmjphoeljiaa
open Go.RowKit
set_option linter.all false
theorem place_ref {L : LaneV} {acc s price n : Int} {now : Bool} {k : Int} (h : refE L acc s price n now = k) (hk : k ≠ 0) : placeL L acc s price n now = (zLane, [], 0, k) := by
  unfold placeL
  rw [h, if_pos hk]
theorem wi_two (s : Int) : wiB s 1 2 = (decide (s = 1) || decide (s = 2)) := by
  unfold wiB
  by_cases h1 : s = 1
  · subst h1; decide
  · by_cases h2 : s = 2
    · subst h2; decide
    · rw [decide_eq_false h1, decide_eq_false h2, decide_eq_false (by omega)]
      rfl
set_option maxHeartbeats 16000000 in
set_option maxRecDepth 100000 in
theorem rPlaceX_is (L : LaneV) (b a o : Value) (acc s price n : Int) (now : Bool) (w : World) (h : Lan w L b a o) (hr : refE L acc s price n now ≠ 0) : Calls Try.prog 7 #[laneV L b a o, .int .i64 acc, .int .i64 s, .int .i64 price, .int .i64 n, .bool now] w (DpBack (placeL L acc s price n now) w) := by
  have X0 := hideIt (CB.first w L b a o)
  have HC := hideIt (rCheck_is L b a o _ (h.keep X0.out.bel))
  have HWI := hideIt (fun x lo hi W => rWithin_is x lo hi W)
  obtain ⟨ba, bc, rfl⟩ := h.bids.slice
  obtain ⟨aa, ac, rfl⟩ := h.asks.slice
  obtain ⟨oa, oc, rfl⟩ := h.owed.slice
  clear h
  have HRF := hideIt (fun k (h : refE L acc s price n now = k) (hk : k ≠ 0) => place_ref h hk)
  cases hk : chkB L
  · have HR := hideIt (HRF.out 130 (by unfold refE; rw [if_pos hk]) (by decide))
    rw [show chkI L = 130 by unfold chkI; rw [hk]; rfl] at HC
    generalize placeL L acc s price n now = RX at *
    clear hk hr HRF
    unfold laneV laneA at *
    obtain ⟨cl, nx, bids, asks, owed⟩ := L
    simp only at *
    go_enter Try.func7, Try.ntmps7
    go_wp2_with fail
    refine HC.out.mono ?_
    rintro e w5 ⟨rfl, hb⟩
    dsimp only
    have X1 := hideIt (X0.out.keep hb)
    clear hb X0 HC
    obtain ⟨⟨r0, r1, r2, r3, r4⟩, rf, rl⟩ := five5_at X1.out.res
    have HP := hideIt (X1.out.put (.bool false) (.int .i64 0) (.slice none 0 0) (.slice none 0 0) (.slice none 0 0))
    go_wp2
    revert HP
    generalize (World.setCell _ ⟨w.heap.size + 1, 4, none⟩ _) = WF
    intro HP
    exact bodyPost_ret (v := .tuple #[laneV zLane (.slice none 0 0) (.slice none 0 0) (.slice none 0 0), .slice none 0 0, .int .i64 0, .int .i64 130]) (by simp [results, Try.results7, go_sem, cell_at HP.out.1, laneV, laneA, zLane]) rfl (by unfold DpBack; rw [HR.out]; exact ⟨_, _, _, _, rfl, zLan _, own_sgot (own_nil (e := 68) _ 0) (by simp), HP.out.2⟩)
  · rw [show chkI L = 0 by unfold chkI; rw [hk]; rfl] at HC
    have hm := chk_may hk
    have HA : Hid (argB acc s price n = false → placeL L acc s price n now = (zLane, [], 0, 1)) := fun ha => HRF.out 1 (by unfold refE; rw [if_neg (by simp [hk]), if_pos ha]) (by decide)
    have HB : Hid (argB acc s price n = true → (now && L.call) = true → placeL L acc s price n now = (zLane, [], 0, 133)) := fun ha hn => HRF.out 133 (by unfold refE; rw [if_neg (by simp [hk]), if_neg (by simp [ha]), if_pos hn]) (by decide)
    have HD : Hid (argB acc s price n = true → (now && L.call) = false → ((sideL L s).length = 40 ∨ L.next = 1000001) ∧ placeL L acc s price n now = (zLane, [], 0, 131)) := fun ha hn => by
      have hx : (sideL L s).length = 40 ∨ 1000000 < L.next := by
        cases Classical.em ((sideL L s).length = 40 ∨ 1000000 < L.next) with
        | inl h => exact h
        | inr h => exact absurd (by unfold refE; rw [if_neg (by simp [hk]), if_neg (by simp [ha]), if_neg (by simp [hn]), if_neg h]) hr
      refine ⟨hx.imp id (fun h => by have := hm.next; omega), HRF.out 131 (by unfold refE; rw [if_neg (by simp [hk]), if_neg (by simp [ha]), if_neg (by simp [hn]), if_pos hx]) (by decide)⟩
    have hlb := hm.lb
    have hla := hm.la
    have hnx := hm.next
    generalize placeL L acc s price n now = RX at *
    clear hk hr HRF hm
    unfold argB at HA HB HD
    rw [← wi_two] at HA HB HD
    unfold laneV laneA at *
    unfold sideL at HD
    obtain ⟨cl, nx, bids, asks, owed⟩ := L
    simp only at *
    go_enter Try.func7, Try.ntmps7
    go_wp2_with fail
    refine HC.out.mono ?_
    rintro e w5 ⟨rfl, hb⟩
    dsimp only
    have X1 := hideIt (X0.out.keep hb)
    clear hb X0 HC
    obtain ⟨x0, x1, x2, x3, x4⟩ := X1.out.cells
    simp only at x0 x1 x2 x3 x4
    go_wp2_with fail
    refine (HWI.out _ _ _ _).mono ?_
    rintro e wq ⟨rfl, hwq⟩
    replace hwq := hwq.symm
    subst hwq
    dsimp only
    cases h1 : wiB acc 1 8
    · have HR := hideIt (HA.out (by rw [h1]; rfl))
      clear h1 HA HB HD
      obtain ⟨⟨r0, r1, r2, r3, r4⟩, rf, rl⟩ := five5_at X1.out.res
      have HP := hideIt (X1.out.put (.bool false) (.int .i64 0) (.slice none 0 0) (.slice none 0 0) (.slice none 0 0))
      go_wp2
      revert HP
      generalize (World.setCell _ ⟨w.heap.size + 1, 4, none⟩ _) = WF
      intro HP
      exact bodyPost_ret (v := .tuple #[laneV zLane (.slice none 0 0) (.slice none 0 0) (.slice none 0 0), .slice none 0 0, .int .i64 0, .int .i64 1]) (by simp [results, Try.results7, go_sem, cell_at HP.out.1, laneV, laneA, zLane]) rfl (by unfold DpBack; rw [HR.out]; exact ⟨_, _, _, _, rfl, zLan _, own_sgot (own_nil (e := 68) _ 0) (by simp), HP.out.2⟩)
    · go_wp2_with fail
      refine (HWI.out _ _ _ _).mono ?_
      rintro e wq ⟨rfl, hwq⟩
      replace hwq := hwq.symm
      subst hwq
      dsimp only
      cases h2 : wiB s 1 2
      · have HR := hideIt (HA.out (by rw [h1, h2]; rfl))
        clear h1 h2 HA HB HD
        obtain ⟨⟨r0, r1, r2, r3, r4⟩, rf, rl⟩ := five5_at X1.out.res
        have HP := hideIt (X1.out.put (.bool false) (.int .i64 0) (.slice none 0 0) (.slice none 0 0) (.slice none 0 0))
        go_wp2
        revert HP
        generalize (World.setCell _ ⟨w.heap.size + 1, 4, none⟩ _) = WF
        intro HP
        exact bodyPost_ret (v := .tuple #[laneV zLane (.slice none 0 0) (.slice none 0 0) (.slice none 0 0), .slice none 0 0, .int .i64 0, .int .i64 1]) (by simp [results, Try.results7, go_sem, cell_at HP.out.1, laneV, laneA, zLane]) rfl (by unfold DpBack; rw [HR.out]; exact ⟨_, _, _, _, rfl, zLan _, own_sgot (own_nil (e := 68) _ 0) (by simp), HP.out.2⟩)
      · go_wp2_with fail
        refine (HWI.out _ _ _ _).mono ?_
        rintro e wq ⟨rfl, hwq⟩
        replace hwq := hwq.symm
        subst hwq
        dsimp only
        cases h3 : wiB price 1 1000000
        · have HR := hideIt (HA.out (by rw [h1, h2, h3]; rfl))
          clear h1 h2 h3 HA HB HD
          obtain ⟨⟨r0, r1, r2, r3, r4⟩, rf, rl⟩ := five5_at X1.out.res
          have HP := hideIt (X1.out.put (.bool false) (.int .i64 0) (.slice none 0 0) (.slice none 0 0) (.slice none 0 0))
          go_wp2
          revert HP
          generalize (World.setCell _ ⟨w.heap.size + 1, 4, none⟩ _) = WF
          intro HP
          exact bodyPost_ret (v := .tuple #[laneV zLane (.slice none 0 0) (.slice none 0 0) (.slice none 0 0), .slice none 0 0, .int .i64 0, .int .i64 1]) (by simp [results, Try.results7, go_sem, cell_at HP.out.1, laneV, laneA, zLane]) rfl (by unfold DpBack; rw [HR.out]; exact ⟨_, _, _, _, rfl, zLan _, own_sgot (own_nil (e := 68) _ 0) (by simp), HP.out.2⟩)
        · go_wp2_with fail
          refine (HWI.out _ _ _ _).mono ?_
          rintro e wq ⟨rfl, hwq⟩
          replace hwq := hwq.symm
          subst hwq
          dsimp only
          cases h4 : wiB n 1 1000000
          · have HR := hideIt (HA.out (by rw [h1, h2, h3, h4]; rfl))
            clear h1 h2 h3 h4 HA HB HD
            obtain ⟨⟨r0, r1, r2, r3, r4⟩, rf, rl⟩ := five5_at X1.out.res
            have HP := hideIt (X1.out.put (.bool false) (.int .i64 0) (.slice none 0 0) (.slice none 0 0) (.slice none 0 0))
            go_wp2
            revert HP
            generalize (World.setCell _ ⟨w.heap.size + 1, 4, none⟩ _) = WF
            intro HP
            exact bodyPost_ret (v := .tuple #[laneV zLane (.slice none 0 0) (.slice none 0 0) (.slice none 0 0), .slice none 0 0, .int .i64 0, .int .i64 1]) (by simp [results, Try.results7, go_sem, cell_at HP.out.1, laneV, laneA, zLane]) rfl (by unfold DpBack; rw [HR.out]; exact ⟨_, _, _, _, rfl, zLan _, own_sgot (own_nil (e := 68) _ 0) (by simp), HP.out.2⟩)
          · have hsv : s = 1 ∨ s = 2 := by have := wiB_in h2; omega
            have HB2 := hideIt (HB.out (by rw [h1, h2, h3, h4]; rfl))
            have HD2 := hideIt (HD.out (by rw [h1, h2, h3, h4]; rfl))
            clear h1 h2 h3 h4 HA HB HD HWI
            cases cl
            · have hD := HD2.out (by simp)
              rcases hsv with rfl | rfl
              · simp only [if_true] at hD
                have HR := hideIt hD.2
                have hx := hD.1
                clear hD HD2 HB2
                by_cases h40 : bids.length = 40
                · have hg : (40 : Int) ≤ ((bids.length : Nat) : Int) := by omega
                  clear hx
                  cases now
                  · obtain ⟨⟨r0, r1, r2, r3, r4⟩, rf, rl⟩ := five5_at X1.out.res
                    have HP := hideIt (X1.out.put (.bool false) (.int .i64 0) (.slice none 0 0) (.slice none 0 0) (.slice none 0 0))
                    go_wp2
                    revert HP
                    generalize (World.setCell _ ⟨w.heap.size + 1, 4, none⟩ _) = WF
                    intro HP
                    exact bodyPost_ret (v := .tuple #[laneV zLane (.slice none 0 0) (.slice none 0 0) (.slice none 0 0), .slice none 0 0, .int .i64 0, .int .i64 131]) (by simp [results, Try.results7, go_sem, cell_at HP.out.1, laneV, laneA, zLane]) rfl (by unfold DpBack; rw [HR.out]; exact ⟨_, _, _, _, rfl, zLan _, own_sgot (own_nil (e := 68) _ 0) (by simp), HP.out.2⟩)
                  · obtain ⟨⟨r0, r1, r2, r3, r4⟩, rf, rl⟩ := five5_at X1.out.res
                    have HP := hideIt (X1.out.put (.bool false) (.int .i64 0) (.slice none 0 0) (.slice none 0 0) (.slice none 0 0))
                    go_wp2
                    revert HP
                    generalize (World.setCell _ ⟨w.heap.size + 1, 4, none⟩ _) = WF
                    intro HP
                    exact bodyPost_ret (v := .tuple #[laneV zLane (.slice none 0 0) (.slice none 0 0) (.slice none 0 0), .slice none 0 0, .int .i64 0, .int .i64 131]) (by simp [results, Try.results7, go_sem, cell_at HP.out.1, laneV, laneA, zLane]) rfl (by unfold DpBack; rw [HR.out]; exact ⟨_, _, _, _, rfl, zLan _, own_sgot (own_nil (e := 68) _ 0) (by simp), HP.out.2⟩)
                · have hn : nx = 1000001 := by omega
                  have hg : ¬ (40 : Int) ≤ ((bids.length : Nat) : Int) := by omega
                  subst hn
                  clear hx
                  cases now
                  · obtain ⟨⟨r0, r1, r2, r3, r4⟩, rf, rl⟩ := five5_at X1.out.res
                    have HP := hideIt (X1.out.put (.bool false) (.int .i64 0) (.slice none 0 0) (.slice none 0 0) (.slice none 0 0))
                    go_wp2
                    revert HP
                    generalize (World.setCell _ ⟨w.heap.size + 1, 4, none⟩ _) = WF
                    intro HP
                    exact bodyPost_ret (v := .tuple #[laneV zLane (.slice none 0 0) (.slice none 0 0) (.slice none 0 0), .slice none 0 0, .int .i64 0, .int .i64 131]) (by simp [results, Try.results7, go_sem, cell_at HP.out.1, laneV, laneA, zLane]) rfl (by unfold DpBack; rw [HR.out]; exact ⟨_, _, _, _, rfl, zLan _, own_sgot (own_nil (e := 68) _ 0) (by simp), HP.out.2⟩)
                  · obtain ⟨⟨r0, r1, r2, r3, r4⟩, rf, rl⟩ := five5_at X1.out.res
                    have HP := hideIt (X1.out.put (.bool false) (.int .i64 0) (.slice none 0 0) (.slice none 0 0) (.slice none 0 0))
                    go_wp2
                    revert HP
                    generalize (World.setCell _ ⟨w.heap.size + 1, 4, none⟩ _) = WF
                    intro HP
                    exact bodyPost_ret (v := .tuple #[laneV zLane (.slice none 0 0) (.slice none 0 0) (.slice none 0 0), .slice none 0 0, .int .i64 0, .int .i64 131]) (by simp [results, Try.results7, go_sem, cell_at HP.out.1, laneV, laneA, zLane]) rfl (by unfold DpBack; rw [HR.out]; exact ⟨_, _, _, _, rfl, zLan _, own_sgot (own_nil (e := 68) _ 0) (by simp), HP.out.2⟩)
              · simp only [show ((2 : Int) = 1) = False from by decide, if_false] at hD
                have HR := hideIt hD.2
                have hx := hD.1
                clear hD HD2 HB2
                by_cases h40 : asks.length = 40
                · have hg : (40 : Int) ≤ ((asks.length : Nat) : Int) := by omega
                  clear hx
                  cases now
                  · obtain ⟨⟨r0, r1, r2, r3, r4⟩, rf, rl⟩ := five5_at X1.out.res
                    have HP := hideIt (X1.out.put (.bool false) (.int .i64 0) (.slice none 0 0) (.slice none 0 0) (.slice none 0 0))
                    go_wp2
                    revert HP
                    generalize (World.setCell _ ⟨w.heap.size + 1, 4, none⟩ _) = WF
                    intro HP
                    exact bodyPost_ret (v := .tuple #[laneV zLane (.slice none 0 0) (.slice none 0 0) (.slice none 0 0), .slice none 0 0, .int .i64 0, .int .i64 131]) (by simp [results, Try.results7, go_sem, cell_at HP.out.1, laneV, laneA, zLane]) rfl (by unfold DpBack; rw [HR.out]; exact ⟨_, _, _, _, rfl, zLan _, own_sgot (own_nil (e := 68) _ 0) (by simp), HP.out.2⟩)
                  · obtain ⟨⟨r0, r1, r2, r3, r4⟩, rf, rl⟩ := five5_at X1.out.res
                    have HP := hideIt (X1.out.put (.bool false) (.int .i64 0) (.slice none 0 0) (.slice none 0 0) (.slice none 0 0))
                    go_wp2
                    revert HP
                    generalize (World.setCell _ ⟨w.heap.size + 1, 4, none⟩ _) = WF
                    intro HP
                    exact bodyPost_ret (v := .tuple #[laneV zLane (.slice none 0 0) (.slice none 0 0) (.slice none 0 0), .slice none 0 0, .int .i64 0, .int .i64 131]) (by simp [results, Try.results7, go_sem, cell_at HP.out.1, laneV, laneA, zLane]) rfl (by unfold DpBack; rw [HR.out]; exact ⟨_, _, _, _, rfl, zLan _, own_sgot (own_nil (e := 68) _ 0) (by simp), HP.out.2⟩)
                · have hn : nx = 1000001 := by omega
                  have hg : ¬ (40 : Int) ≤ ((asks.length : Nat) : Int) := by omega
                  subst hn
                  clear hx
                  cases now
                  · obtain ⟨⟨r0, r1, r2, r3, r4⟩, rf, rl⟩ := five5_at X1.out.res
                    have HP := hideIt (X1.out.put (.bool false) (.int .i64 0) (.slice none 0 0) (.slice none 0 0) (.slice none 0 0))
                    go_wp2
                    revert HP
                    generalize (World.setCell _ ⟨w.heap.size + 1, 4, none⟩ _) = WF
                    intro HP
                    exact bodyPost_ret (v := .tuple #[laneV zLane (.slice none 0 0) (.slice none 0 0) (.slice none 0 0), .slice none 0 0, .int .i64 0, .int .i64 131]) (by simp [results, Try.results7, go_sem, cell_at HP.out.1, laneV, laneA, zLane]) rfl (by unfold DpBack; rw [HR.out]; exact ⟨_, _, _, _, rfl, zLan _, own_sgot (own_nil (e := 68) _ 0) (by simp), HP.out.2⟩)
                  · obtain ⟨⟨r0, r1, r2, r3, r4⟩, rf, rl⟩ := five5_at X1.out.res
                    have HP := hideIt (X1.out.put (.bool false) (.int .i64 0) (.slice none 0 0) (.slice none 0 0) (.slice none 0 0))
                    go_wp2
                    revert HP
                    generalize (World.setCell _ ⟨w.heap.size + 1, 4, none⟩ _) = WF
                    intro HP
                    exact bodyPost_ret (v := .tuple #[laneV zLane (.slice none 0 0) (.slice none 0 0) (.slice none 0 0), .slice none 0 0, .int .i64 0, .int .i64 131]) (by simp [results, Try.results7, go_sem, cell_at HP.out.1, laneV, laneA, zLane]) rfl (by unfold DpBack; rw [HR.out]; exact ⟨_, _, _, _, rfl, zLan _, own_sgot (own_nil (e := 68) _ 0) (by simp), HP.out.2⟩)
            · cases now
              · have hD := HD2.out (by simp)
                rcases hsv with rfl | rfl
                · simp only [if_true] at hD
                  have HR := hideIt hD.2
                  have hx := hD.1
                  clear hD HD2 HB2
                  by_cases h40 : bids.length = 40
                  · have hg : (40 : Int) ≤ ((bids.length : Nat) : Int) := by omega
                    clear hx
                    obtain ⟨⟨r0, r1, r2, r3, r4⟩, rf, rl⟩ := five5_at X1.out.res
                    have HP := hideIt (X1.out.put (.bool false) (.int .i64 0) (.slice none 0 0) (.slice none 0 0) (.slice none 0 0))
                    go_wp2
                    revert HP
                    generalize (World.setCell _ ⟨w.heap.size + 1, 4, none⟩ _) = WF
                    intro HP
                    exact bodyPost_ret (v := .tuple #[laneV zLane (.slice none 0 0) (.slice none 0 0) (.slice none 0 0), .slice none 0 0, .int .i64 0, .int .i64 131]) (by simp [results, Try.results7, go_sem, cell_at HP.out.1, laneV, laneA, zLane]) rfl (by unfold DpBack; rw [HR.out]; exact ⟨_, _, _, _, rfl, zLan _, own_sgot (own_nil (e := 68) _ 0) (by simp), HP.out.2⟩)
                  · have hn : nx = 1000001 := by omega
                    have hg : ¬ (40 : Int) ≤ ((bids.length : Nat) : Int) := by omega
                    subst hn
                    clear hx
                    obtain ⟨⟨r0, r1, r2, r3, r4⟩, rf, rl⟩ := five5_at X1.out.res
                    have HP := hideIt (X1.out.put (.bool false) (.int .i64 0) (.slice none 0 0) (.slice none 0 0) (.slice none 0 0))
                    go_wp2
                    revert HP
                    generalize (World.setCell _ ⟨w.heap.size + 1, 4, none⟩ _) = WF
                    intro HP
                    exact bodyPost_ret (v := .tuple #[laneV zLane (.slice none 0 0) (.slice none 0 0) (.slice none 0 0), .slice none 0 0, .int .i64 0, .int .i64 131]) (by simp [results, Try.results7, go_sem, cell_at HP.out.1, laneV, laneA, zLane]) rfl (by unfold DpBack; rw [HR.out]; exact ⟨_, _, _, _, rfl, zLan _, own_sgot (own_nil (e := 68) _ 0) (by simp), HP.out.2⟩)
                · simp only [show ((2 : Int) = 1) = False from by decide, if_false] at hD
                  have HR := hideIt hD.2
                  have hx := hD.1
                  clear hD HD2 HB2
                  by_cases h40 : asks.length = 40
                  · have hg : (40 : Int) ≤ ((asks.length : Nat) : Int) := by omega
                    clear hx
                    obtain ⟨⟨r0, r1, r2, r3, r4⟩, rf, rl⟩ := five5_at X1.out.res
                    have HP := hideIt (X1.out.put (.bool false) (.int .i64 0) (.slice none 0 0) (.slice none 0 0) (.slice none 0 0))
                    go_wp2
                    revert HP
                    generalize (World.setCell _ ⟨w.heap.size + 1, 4, none⟩ _) = WF
                    intro HP
                    exact bodyPost_ret (v := .tuple #[laneV zLane (.slice none 0 0) (.slice none 0 0) (.slice none 0 0), .slice none 0 0, .int .i64 0, .int .i64 131]) (by simp [results, Try.results7, go_sem, cell_at HP.out.1, laneV, laneA, zLane]) rfl (by unfold DpBack; rw [HR.out]; exact ⟨_, _, _, _, rfl, zLan _, own_sgot (own_nil (e := 68) _ 0) (by simp), HP.out.2⟩)
                  · have hn : nx = 1000001 := by omega
                    have hg : ¬ (40 : Int) ≤ ((asks.length : Nat) : Int) := by omega
                    subst hn
                    clear hx
                    obtain ⟨⟨r0, r1, r2, r3, r4⟩, rf, rl⟩ := five5_at X1.out.res
                    have HP := hideIt (X1.out.put (.bool false) (.int .i64 0) (.slice none 0 0) (.slice none 0 0) (.slice none 0 0))
                    go_wp2
                    revert HP
                    generalize (World.setCell _ ⟨w.heap.size + 1, 4, none⟩ _) = WF
                    intro HP
                    exact bodyPost_ret (v := .tuple #[laneV zLane (.slice none 0 0) (.slice none 0 0) (.slice none 0 0), .slice none 0 0, .int .i64 0, .int .i64 131]) (by simp [results, Try.results7, go_sem, cell_at HP.out.1, laneV, laneA, zLane]) rfl (by unfold DpBack; rw [HR.out]; exact ⟨_, _, _, _, rfl, zLan _, own_sgot (own_nil (e := 68) _ 0) (by simp), HP.out.2⟩)
              · have HR := hideIt (HB2.out (by simp))
                clear HB2 HD2
                obtain ⟨⟨r0, r1, r2, r3, r4⟩, rf, rl⟩ := five5_at X1.out.res
                have HP := hideIt (X1.out.put (.bool false) (.int .i64 0) (.slice none 0 0) (.slice none 0 0) (.slice none 0 0))
                go_wp2
                revert HP
                generalize (World.setCell _ ⟨w.heap.size + 1, 4, none⟩ _) = WF
                intro HP
                exact bodyPost_ret (v := .tuple #[laneV zLane (.slice none 0 0) (.slice none 0 0) (.slice none 0 0), .slice none 0 0, .int .i64 0, .int .i64 133]) (by simp [results, Try.results7, go_sem, cell_at HP.out.1, laneV, laneA, zLane]) rfl (by unfold DpBack; rw [HR.out]; exact ⟨_, _, _, _, rfl, zLan _, own_sgot (own_nil (e := 68) _ 0) (by simp), HP.out.2⟩)
end Go.Proofs.Ytpfdmjphoeljiaa
