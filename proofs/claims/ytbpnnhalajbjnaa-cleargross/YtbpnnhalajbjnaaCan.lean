/- Cancel, walked. -/
import Derived.Test.YtbpnnhalajbjnaaTkO
import Derived.Test.YtbpnnhalajbjnaaPlT
namespace Go.Proofs.Ytbpnnhalajbjnaa
open Go.RowKit
set_option linter.all false
def canR (L : LaneV) (acc id : Int) : LaneV × Int × Int :=
  if chkB L = true then (match canF L acc id with
    | none => (zLane, 0, 132)
    | some Mx => if overB Mx.1.owed then (zLane, 0, 131) else (Mx.1, Mx.2.left, 0))
  else (zLane, 0, 130)
def CnBack (X : LaneV × Int × Int) (w : World) (e : Ending) (w' : World) : Prop := ∃ b a o, e = .returned (.tuple #[laneV X.1 b a o, .int .i64 X.2.1, .int .i64 X.2.2]) ∧ w'.ownsRow w.heap.size 47 4 b X.1.bids.length (celC ordE X.1.bids) ∧ w'.ownsRow w.heap.size 47 4 a X.1.asks.length (celC ordE X.1.asks) ∧ w'.ownsRow w.heap.size 45 3 o X.1.owed.length (celC oweE X.1.owed) ∧ Below w.heap.size w w'
theorem five5_at {w : World} {p : Nat} {t : TypeId} {a b c d e : Value} (h : w.heap[p]? = some (.cells #[a, b, c, d, e] t (0, 0))) : (w.cell? ⟨p, 0, none⟩ = some a ∧ w.cell? ⟨p, 1, none⟩ = some b ∧ w.cell? ⟨p, 2, none⟩ = some c ∧ w.cell? ⟨p, 3, none⟩ = some d ∧ w.cell? ⟨p, 4, none⟩ = some e) ∧ (∀ j, w.frozen? ⟨p, j, none⟩ = false) ∧ p < w.heap.size :=
  ⟨⟨by rw [cell_at h]; rfl, by rw [cell_at h]; rfl, by rw [cell_at h]; rfl, by rw [cell_at h]; rfl, by rw [cell_at h]; rfl⟩, fun j => free_at h j, (Array.getElem?_eq_some_iff.1 h).1⟩
theorem can_owed {L M : LaneV} {acc id : Int} {x : OrdV} (h : canF L acc id = some (M, x)) : M.owed.length ≤ L.owed.length + 1 := by
  have hl : ∀ a s n, (oweL a s n L.owed).length ≤ L.owed.length + 1 := fun a s n => by
    unfold oweL
    split
    · rw [List.length_modify]; omega
    · unfold laidL
      have := congrArg List.length (List.takeWhile_append_dropWhile (p := (owB · ⟨a, s, n⟩)) (l := L.owed))
      rw [List.length_append] at this ⊢
      rw [List.length_cons]
      omega
  unfold canF at h
  split at h
  · simp only [Option.some.injEq, Prod.mk.injEq] at h
    obtain ⟨rfl, -⟩ := h
    exact hl _ _ _
  · split at h
    · simp only [Option.some.injEq, Prod.mk.injEq] at h
      obtain ⟨rfl, -⟩ := h
      exact hl _ _ _
    · cases h
set_option maxHeartbeats 8000000 in
set_option maxRecDepth 100000 in
theorem cancel_is (L : LaneV) (b a o : Value) (acc id : Int) (w : World) (h : Lan w L b a o) : Calls Try.prog 22 #[laneV L b a o, .int .i64 acc, .int .i64 id] w (CnBack (canR L acc id) w) := by
  have X0 := hideIt (CB.first w L b a o)
  have HC := hideIt (check_is L b a o _ (h.keep X0.out.bel))
  have HCP := hideIt (fun W (hW : Below w.heap.size w W) => copied_is L b a o W (h.keep hW))
  obtain ⟨ba, bc, rfl⟩ := h.bids.slice
  obtain ⟨aa, ac, rfl⟩ := h.asks.slice
  obtain ⟨oa, oc, rfl⟩ := h.owed.slice
  clear h
  cases hk : chkB L
  · have HR : Hid (canR L acc id = (zLane, 0, 130)) := by
      show _ = _
      unfold canR
      rw [hk]
      rfl
    rw [show chkI L = 130 by unfold chkI; rw [hk]; rfl] at HC
    generalize canR L acc id = RX at *
    unfold laneV laneA at *
    obtain ⟨cl, nx, bids, asks, owed⟩ := L
    simp only at *
    clear hk HCP
    go_enter Try.func22, Try.ntmps22
    go_wp2_with fail
    refine HC.out.mono ?_
    rintro e w1 ⟨rfl, hb⟩
    dsimp only
    have X1 := hideIt (X0.out.keep hb)
    clear hb X0 HC
    obtain ⟨⟨r0, r1, r2, r3, r4⟩, rf, rl⟩ := five5_at X1.out.res
    have HP := hideIt (X1.out.put (.bool false) (.int .i64 0) (.slice none 0 0) (.slice none 0 0) (.slice none 0 0))
    go_wp2
    revert HP
    generalize (World.setCell _ ⟨w.heap.size + 1, 4, none⟩ _) = W
    intro HP
    exact bodyPost_ret (v := .tuple #[laneV zLane (.slice none 0 0) (.slice none 0 0) (.slice none 0 0), .int .i64 0, .int .i64 130]) (by simp [results, Try.results22, go_sem, cell_at HP.out.1, laneV, laneA, zLane]) rfl (by unfold CnBack; rw [HR.out]; exact ⟨_, _, _, rfl, own_nil _ _, own_nil _ _, own_nil _ _, HP.out.2⟩)
  · have hm := chk_may hk
    have HR0 : Hid (canR L acc id = match canF L acc id with
      | none => (zLane, 0, 132)
      | some Mx => if overB Mx.1.owed then (zLane, 0, 131) else (Mx.1, Mx.2.left, 0)) := by
      show _ = _
      unfold canR
      rw [if_pos hk]
    rw [show chkI L = 0 by unfold chkI; rw [hk]; rfl] at HC
    have HTK := hideIt (fun D bv av ov W (hW : Deal D (w.heap.size + 2) L [] bv av ov (.slice none 0 0) W) hB => takeOut_is D (w.heap.size + 2) 0 L [] bv av ov (.slice none 0 0) acc id W hW hB hm.ow (by omega) hm.lb hm.la hm.tb hm.ta)
    have HOW := hideIt hm.ow.1
    generalize canR L acc id = RX at *
    have HL : Hid (∃ L', L' = L) := ⟨_, rfl⟩
    clear hk hm
    unfold LaneBack at HCP
    unfold laneV laneA at *
    obtain ⟨cl, nx, bids, asks, owed⟩ := L
    simp only at *
    go_enter Try.func22, Try.ntmps22
    go_wp2_with fail
    refine HC.out.mono ?_
    rintro e w1 ⟨rfl, hb⟩
    dsimp only
    have X1 := hideIt (X0.out.keep hb)
    clear hb X0 HC
    obtain ⟨x0, x1, x2, x3, x4⟩ := X1.out.cells
    simp only at x0 x1 x2 x3 x4
    go_wp2_with fail
    refine (HCP.out _ X1.out.bel).mono ?_
    rintro e w2 ⟨b1, a1, o1, rfl, ob, oa1, oo, hs, hb⟩
    dsimp only
    have hb3 := below1 w2 (.cells #[.bool cl, .int .i64 nx, b1, a1, o1, .slice none 0 0] 87)
    have X3 := hideIt (X1.out.keep (below_via hb hb3))
    have Z1 := X1.out.size
    have D3 : Hid (Deal w2.heap.size (w.heap.size + 2) ⟨cl, nx, bids, asks, owed⟩ [] b1 a1 o1 (.slice none 0 0) (w2.alloc (.cells #[.bool cl, .int .i64 nx, b1, a1, o1, .slice none 0 0] 87))) := ⟨heap_alloc_new w2 _, own_base (own_keep ob hb3) Z1, own_base (own_keep oa1 hb3) Z1, own_base (own_keep oo hb3) Z1, own_nil _ _, hs⟩
    have LD : Hid (w.heap.size + 2 ≤ w2.heap.size) := Nat.le_trans Z1 hb.size
    have Z3 : Hid (w.heap.size + 2 ≤ (w2.alloc (.cells #[.bool cl, .int .i64 nx, b1, a1, o1, .slice none 0 0] 87)).heap.size) := Nat.le_trans LD.out hb3.size
    obtain ⟨b1a, b1c, rfl⟩ := own_len ob
    obtain ⟨a1a, a1c, rfl⟩ := own_len oa1
    obtain ⟨o1a, o1c, rfl⟩ := own_len oo
    clear hb hb3 ob oa1 oo hs Z1 X1 x0 x1 x2 x3 x4 HCP
    go_upto_region 5 with fail
    generalize w2.alloc (.cells #[.bool cl, .int .i64 nx, .slice b1a bids.length b1c, .slice a1a asks.length a1c, .slice o1a owed.length o1c, .slice none 0 0] 87) = W3 at *
    generalize w2.heap.size = D at *
    go_wp2_with fail
    refine (HTK.out D _ _ _ W3 D3.out Z3.out).mono ?_
    rintro e w4 hback
    rcases hback with ⟨M, x, hcf, rfl, b4, a4, o4, q, hD4, hT4, hq⟩ | ⟨hcf, rfl, hb⟩
    · dsimp only
      have hqk : ∀ k, q = some k → w.heap.size + 2 ≤ k := fun k e => by
        rcases hq with rfl | rfl
        · exact (D3.out.ob.lt k e).1
        · exact (D3.out.oa.lt k e).1
      have hb5 := below1 w4 (.cells (ordE x).toArray 47)
      have K5 := hideIt (heap_alloc_new w4 (.cells (ordE x).toArray 47))
      have Y5 : Hid (FSt w D ⟨cl, nx, bids, asks, owed⟩ (.slice ba bids.length bc) (.slice aa asks.length ac) (.slice oa owed.length oc) M [] b4 a4 o4 (.slice none 0 0) (w4.alloc (.cells (ordE x).toArray 47))) := FSt.keep ⟨hD4.box, hD4.ob, hD4.oa, hD4.oo, hD4.fl, X3.out.tcr hT4 LD.out hqk, LD.out⟩ hb5
      have HOL := hideIt (can_owed hcf)
      have LKO : Hid (w.heap.size + 2 ≤ w4.heap.size) := Nat.le_trans Z3.out hT4.size
      rw [hcf] at HR0
      dsimp only at HR0
      obtain ⟨b4a, b4c, rfl⟩ := own_len hD4.ob
      obtain ⟨a4a, a4c, rfl⟩ := own_len hD4.oa
      obtain ⟨o4a, o4c, rfl⟩ := own_len hD4.oo
      clear hD4 hT4 hq hqk hb5 hcf X3 D3 Z3 HTK
      obtain ⟨xi, xac, xp, xl⟩ := x
      unfold ordE at K5 Y5 ⊢
      dsimp only at K5 Y5 HR0 ⊢
      have HOV := hideIt (fun W hW => isOver2_is w D ⟨cl, nx, bids, asks, owed⟩ (.slice ba bids.length bc) (.slice aa asks.length ac) (.slice oa owed.length oc) M [] (.slice b4a M.bids.length b4c) (.slice a4a M.asks.length a4c) (.slice o4a M.owed.length o4c) (.slice none 0 0) W hW (by have := HOL.out; have := HOW.out; dsimp only at *; omega))
      go_upto_region 6 with fail
      generalize w4.alloc (.cells #[.int .i64 xi, .int .i64 xac, .int .i64 xp, .int .i64 xl] 47) = W5 at *
      generalize w4.heap.size = KO at *
      go_wp2_with fail
      refine (HOV.out _ Y5.out).mono ?_
      rintro e w6 ⟨rfl, hb⟩
      dsimp only
      have Y6 := hideIt (Y5.out.keep hb)
      have K6 := (hb.block _ (Array.getElem?_eq_some_iff.1 K5.out).1).trans K5.out
      clear hb Y5 K5 HOV
      cases hov : overB M.owed
      · have HR : Hid (RX = (M, xl, 0)) := by
          show _ = _
          rw [HR0.out, hov]
          rfl
        clear HR0 hov
        obtain ⟨⟨r0, r1, r2, r3, r4⟩, rf, rl⟩ := five5_at Y6.out.cb.res
        obtain ⟨t0, t1, t2, t3, t4, t5⟩ := Y6.out.cells
        obtain ⟨k0, k1, k2, k3, kl⟩ := four_at K6
        have nD : D ≠ w.heap.size + 1 := by have := Y6.out.lD; omega
        have nD2 := nD.symm
        have nK : KO ≠ w.heap.size + 1 := by have := LKO.out; omega
        have nK2 := nK.symm
        have HD := hideIt Y6.out.done
        unfold five5 at HD
        clear Y6 K6 t5 k0 k1 k2
        go_upto_region 10 with fail
        go_region_held3 (fun W => W.cell? ⟨D, 0, none⟩ = some (.bool M.call) ∧ W.cell? ⟨D, 1, none⟩ = some (.int .i64 M.next) ∧ W.cell? ⟨D, 2, none⟩ = some (.slice b4a M.bids.length b4c) ∧ W.cell? ⟨D, 3, none⟩ = some (.slice a4a M.asks.length a4c) ∧ W.cell? ⟨D, 4, none⟩ = some (.slice o4a M.owed.length o4c) ∧ W.cell? ⟨KO, 3, none⟩ = some (.int .i64 xl)) (go_keep) (fail)
        go_wp2
        revert HD
        generalize (World.setCell _ ⟨w.heap.size + 1, 4, none⟩ _) = W
        intro HD
        exact bodyPost_ret (v := .tuple #[.agg #[.bool M.call, .int .i64 M.next, .slice b4a M.bids.length b4c, .slice a4a M.asks.length a4c, .slice o4a M.owed.length o4c], .int .i64 xl, .int .i64 0]) (by simp [results, Try.results22, go_sem, cell_at HD.out.res]) rfl (by unfold CnBack; rw [HR.out]; exact ⟨_, _, _, rfl, HD.out.ob, HD.out.oa, HD.out.oo, HD.out.bel⟩)
      · have HR : Hid (RX = (zLane, 0, 131)) := by
          show _ = _
          rw [HR0.out, hov]
          rfl
        clear HR0 hov
        obtain ⟨⟨r0, r1, r2, r3, r4⟩, rf, rl⟩ := five5_at Y6.out.cb.res
        have HP := hideIt (Y6.out.cb.put (.bool false) (.int .i64 0) (.slice none 0 0) (.slice none 0 0) (.slice none 0 0))
        go_wp2
        revert HP
        generalize (World.setCell _ ⟨w.heap.size + 1, 4, none⟩ _) = W
        intro HP
        exact bodyPost_ret (v := .tuple #[laneV zLane (.slice none 0 0) (.slice none 0 0) (.slice none 0 0), .int .i64 0, .int .i64 131]) (by simp [results, Try.results22, go_sem, cell_at HP.out.1, laneV, laneA, zLane]) rfl (by unfold CnBack; rw [HR.out]; exact ⟨_, _, _, rfl, own_nil _ _, own_nil _ _, own_nil _ _, HP.out.2⟩)
    · dsimp only
      have HR : Hid (RX = (zLane, 0, 132)) := by
        show _ = _
        rw [HR0.out, hcf]
      have X4 := hideIt (X3.out.keep (below_via hb (below1 w4 (.cells #[.int .i64 0, .int .i64 0, .int .i64 0, .int .i64 0] 47))))
      clear hb HR0 hcf X3 D3 Z3 HTK
      go_upto_region 6 with fail
      generalize w4.alloc (.cells #[.int .i64 0, .int .i64 0, .int .i64 0, .int .i64 0] 47) = W4 at *
      generalize w4.heap.size = K4 at *
      obtain ⟨⟨r0, r1, r2, r3, r4⟩, rf, rl⟩ := five5_at X4.out.res
      have HP := hideIt (X4.out.put (.bool false) (.int .i64 0) (.slice none 0 0) (.slice none 0 0) (.slice none 0 0))
      go_wp2
      revert HP
      generalize (World.setCell _ ⟨w.heap.size + 1, 4, none⟩ _) = W
      intro HP
      exact bodyPost_ret (v := .tuple #[laneV zLane (.slice none 0 0) (.slice none 0 0) (.slice none 0 0), .int .i64 0, .int .i64 132]) (by simp [results, Try.results22, go_sem, cell_at HP.out.1, laneV, laneA, zLane]) rfl (by unfold CnBack; rw [HR.out]; exact ⟨_, _, _, rfl, own_nil _ _, own_nil _ _, own_nil _ _, HP.out.2⟩)
end Go.Proofs.Ytbpnnhalajbjnaa
