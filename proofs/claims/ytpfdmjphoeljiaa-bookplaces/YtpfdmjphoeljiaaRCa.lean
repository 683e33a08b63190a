/- The document's Cancel, walked. -/
import Derived.Test.YtpfdmjphoeljiaaRBk
import Derived.Test.YtpfdmjphoeljiaaRCh
namespace Go.Proofs.Ytpfdmjphoeljiaa
open Go.RowKit
set_option linter.all false
def DcBack (X : LaneV × Int × Int) (w : World) (e : Ending) (w' : World) : Prop := ∃ b a o, e = .returned (.tuple #[laneV X.1 b a o, .int .i64 X.2.1, .int .i64 X.2.2]) ∧ Lan w' X.1 b a o ∧ Below w.heap.size w w'
theorem zLan (w : World) : Lan w zLane (.slice none 0 0) (.slice none 0 0) (.slice none 0 0) := ⟨own_sgot (own_nil (e := 49) w 0) (by simp [zLane]), own_sgot (own_nil (e := 49) w 0) (by simp [zLane]), own_sgot (own_nil (e := 66) w 0) (by simp [zLane])⟩
/-- The document's Cancel on its way: the book's box, the result's block, the copy's box. -/
structure DN (w : World) (L : LaneV) (bv av ov : Value) (D : Nat) (M : LaneV) (b a o : Value) (W : World) : Prop where
  cb : CB w L bv av ov W
  out : W.heap[D]? = some (.cells (laneA M b a o) 25 (0, 0))
  lD : w.heap.size + 2 ≤ D
  ob : W.ownsRow (w.heap.size + 2) 49 4 b M.bids.length (celC ordE M.bids)
  oa : W.ownsRow (w.heap.size + 2) 49 4 a M.asks.length (celC ordE M.asks)
  oo : W.ownsRow (w.heap.size + 2) 66 3 o M.owed.length (celC oweE M.owed)
theorem DN.keep {w W W' : World} {L M : LaneV} {bv av ov b a o : Value} {D : Nat} (h : DN w L bv av ov D M b a o W) (hb : Below W.heap.size W W') : DN w L bv av ov D M b a o W' :=
  ⟨h.cb.keep hb, blkK h.out hb, h.lD, own_keep h.ob hb, own_keep h.oa hb, own_keep h.oo hb⟩
theorem CB.other {w wx : World} {L : LaneV} {b a o v : Value} {D j : Nat} (h : CB w L b a o wx) (hD : w.heap.size + 2 ≤ D) : CB w L b a o (wx.setCell ⟨D, j, none⟩ v) :=
  ⟨setOther _ h.box (by omega), setOther _ h.res (by omega), belowSet _ h.bel (by omega), by simpa using h.size⟩
theorem DN.bids {w W : World} {L M : LaneV} {bv av ov b a o v : Value} {D : Nat} {l : List OrdV} (h : DN w L bv av ov D M b a o W) (ho : W.ownsRow (w.heap.size + 2) 49 4 v l.length (celC ordE l)) : DN w L bv av ov D ⟨M.call, M.next, l, M.asks, M.owed⟩ v a o (W.setCell ⟨D, 2, none⟩ v) :=
  ⟨h.cb.other h.lD, heap_set h.out 2 v, h.lD, own_cell ho h.out (by decide), own_cell h.oa h.out (by decide), own_cell h.oo h.out (by decide)⟩
theorem DN.asks {w W : World} {L M : LaneV} {bv av ov b a o v : Value} {D : Nat} {l : List OrdV} (h : DN w L bv av ov D M b a o W) (ho : W.ownsRow (w.heap.size + 2) 49 4 v l.length (celC ordE l)) : DN w L bv av ov D ⟨M.call, M.next, M.bids, l, M.owed⟩ b v o (W.setCell ⟨D, 3, none⟩ v) :=
  ⟨h.cb.other h.lD, heap_set h.out 3 v, h.lD, own_cell h.ob h.out (by decide), own_cell ho h.out (by decide), own_cell h.oo h.out (by decide)⟩
theorem DN.owed {w W : World} {L M : LaneV} {bv av ov b a o v : Value} {D : Nat} {l : List OweV} (h : DN w L bv av ov D M b a o W) (ho : W.ownsRow (w.heap.size + 2) 66 3 v l.length (celC oweE l)) : DN w L bv av ov D ⟨M.call, M.next, M.bids, M.asks, l⟩ b a v (W.setCell ⟨D, 4, none⟩ v) :=
  ⟨h.cb.other h.lD, heap_set h.out 4 v, h.lD, own_cell h.ob h.out (by decide), own_cell h.oa h.out (by decide), own_cell ho h.out (by decide)⟩
structure DnF (w : World) (M : LaneV) (b a o : Value) (W : World) : Prop where
  res : W.heap[w.heap.size + 1]? = some (.cells (laneA M b a o) 25 (0, 0))
  ob : W.ownsRow (w.heap.size + 2) 49 4 b M.bids.length (celC ordE M.bids)
  oa : W.ownsRow (w.heap.size + 2) 49 4 a M.asks.length (celC ordE M.asks)
  oo : W.ownsRow (w.heap.size + 2) 66 3 o M.owed.length (celC oweE M.owed)
  bel : Below w.heap.size w W
theorem DN.done {w W : World} {L M : LaneV} {bv av ov b a o : Value} {D : Nat} (h : DN w L bv av ov D M b a o W) : DnF w M b a o (five5 W (w.heap.size + 1) (.bool M.call) (.int .i64 M.next) b a o) := by
  have hp := h.cb.put (.bool M.call) (.int .i64 M.next) b a o
  exact ⟨hp.1, own_five h.ob h.cb.res (by decide) _ _ _ _ _, own_five h.oa h.cb.res (by decide) _ _ _ _ _, own_five h.oo h.cb.res (by decide) _ _ _ _ _, hp.2⟩
theorem DnF.lan {w W : World} {M : LaneV} {b a o : Value} (h : DnF w M b a o W) (hb : M.bids.length ≤ 1000) (ha : M.asks.length ≤ 1000) (ho : M.owed.length ≤ 1000) : Lan W M b a o := ⟨own_sgot h.ob (by omega), own_sgot h.oa (by omega), own_sgot h.oo (by omega)⟩
/-- What the document's Cancel finds, in plain data. -/
theorem dcan_bid {L : LaneV} {acc id : Int} (hk : chkB L = true) (hf : (wthL acc id L.bids).2.2 = true) :
    ((oweD (wthL acc id L.bids).2.1.acc (brA 1) (brN 1 (wthL acc id L.bids).2.1) L.owed).2 = true → canR L acc id = (⟨L.call, L.next, (wthL acc id L.bids).1, L.asks, (oweD (wthL acc id L.bids).2.1.acc (brA 1) (brN 1 (wthL acc id L.bids).2.1) L.owed).1⟩, (wthL acc id L.bids).2.1.left, 0)) ∧ ((oweD (wthL acc id L.bids).2.1.acc (brA 1) (brN 1 (wthL acc id L.bids).2.1) L.owed).2 = false → canR L acc id = (zLane, 0, 131)) ∧ ((1 ≤ (wthL acc id L.bids).2.1.price ∧ (wthL acc id L.bids).2.1.price ≤ 1000000) ∧ (1 ≤ (wthL acc id L.bids).2.1.left ∧ (wthL acc id L.bids).2.1.left ≤ 1000000)) := by
  have hm := chk_may hk
  have hB := (chk_bok L).1 hk
  have hnd := hB.nd
  have hndb := (List.nodup_append.1 hnd).1
  have hw : wthL acc id L.bids = _ := wth_at acc id L.bids [] hndb
  unfold canR canF
  rw [if_pos hk]
  cases hi : L.bids.findIdx? (outP acc id) with
  | none =>
    rw [hi] at hw
    rw [hw] at hf
    cases hf
  | some i =>
    obtain ⟨hl, hp, -⟩ := List.findIdx?_eq_some_iff_getElem.1 hi
    rw [hi] at hw
    simp only at hw ⊢
    rw [hw]
    simp only [List.nil_append]
    have hg : L.bids.getD i ⟨0, 0, 0, 0⟩ = L.bids[i] := by rw [List.getD_eq_getElem?_getD, List.getElem?_eq_getElem hl, Option.getD_some]
    rw [hg]
    have hr := hm.tb _ (List.getElem_mem hl)
    have hbr : 1 ≤ brN 1 L.bids[i] ∧ brN 1 L.bids[i] ≤ 1000000000000 := by
      unfold brN
      rw [if_pos rfl]
      exact ⟨mul_pos1 hr.1.1 hr.2.1, by
        have := Int.mul_le_mul hr.1.2 hr.2.2 (by omega) (by omega : (0 : Int) ≤ 1000000)
        omega⟩
    have hov : overB L.owed = false := by
      unfold overB
      rw [List.any_eq_false]
      intro y hy
      have := hm.ow.2 y hy
      simp
      omega
    have ho := over_owe (acc := L.bids[i].acc) (asset := 0) (n := brN 1 L.bids[i]) hov (by omega)
    have hD : oweD L.bids[i].acc (brA 1) (brN 1 L.bids[i]) L.owed = (oweL L.bids[i].acc 0 (brN 1 L.bids[i]) L.owed, okL L.bids[i].acc 0 (brN 1 L.bids[i]) L.owed) := by
      unfold oweD
      rw [if_neg (by omega)]
      rfl
    rw [hD]
    simp only
    refine ⟨fun e => ?_, fun e => ?_, hr⟩
    · rw [e, Bool.not_true] at ho
      rw [ho]
      rfl
    · rw [e, Bool.not_false] at ho
      rw [ho]
      rfl
theorem dcan_ask {L : LaneV} {acc id : Int} (hk : chkB L = true) (hb : (wthL acc id L.bids).2.2 = false) (hf : (wthL acc id L.asks).2.2 = true) :
    ((oweD (wthL acc id L.asks).2.1.acc (brA 2) (brN 2 (wthL acc id L.asks).2.1) L.owed).2 = true → canR L acc id = (⟨L.call, L.next, L.bids, (wthL acc id L.asks).1, (oweD (wthL acc id L.asks).2.1.acc (brA 2) (brN 2 (wthL acc id L.asks).2.1) L.owed).1⟩, (wthL acc id L.asks).2.1.left, 0)) ∧ ((oweD (wthL acc id L.asks).2.1.acc (brA 2) (brN 2 (wthL acc id L.asks).2.1) L.owed).2 = false → canR L acc id = (zLane, 0, 131)) ∧ ((1 ≤ (wthL acc id L.asks).2.1.price ∧ (wthL acc id L.asks).2.1.price ≤ 1000000) ∧ (1 ≤ (wthL acc id L.asks).2.1.left ∧ (wthL acc id L.asks).2.1.left ≤ 1000000)) := by
  have hm := chk_may hk
  have hB := (chk_bok L).1 hk
  have hnd := hB.nd
  have hndb := (List.nodup_append.1 hnd).1
  have hnda := (List.nodup_append.1 hnd).2.1
  have hwb : wthL acc id L.bids = _ := wth_at acc id L.bids [] hndb
  have hw : wthL acc id L.asks = _ := wth_at acc id L.asks [] hnda
  unfold canR canF
  rw [if_pos hk]
  cases hib : L.bids.findIdx? (outP acc id) with
  | some i =>
    rw [hib] at hwb
    rw [hwb] at hb
    cases hb
  | none =>
  cases hi : L.asks.findIdx? (outP acc id) with
  | none =>
    rw [hi] at hw
    rw [hw] at hf
    cases hf
  | some i =>
    obtain ⟨hl, hp, -⟩ := List.findIdx?_eq_some_iff_getElem.1 hi
    rw [hi] at hw
    simp only at hw ⊢
    rw [hw]
    simp only [List.nil_append]
    have hg : L.asks.getD i ⟨0, 0, 0, 0⟩ = L.asks[i] := by rw [List.getD_eq_getElem?_getD, List.getElem?_eq_getElem hl, Option.getD_some]
    rw [hg]
    have hr := hm.ta _ (List.getElem_mem hl)
    have hbr : 1 ≤ brN 2 L.asks[i] ∧ brN 2 L.asks[i] ≤ 1000000000000 := by
      unfold brN
      rw [if_neg (by decide)]
      omega
    have hov : overB L.owed = false := by
      unfold overB
      rw [List.any_eq_false]
      intro y hy
      have := hm.ow.2 y hy
      simp
      omega
    have ho := over_owe (acc := L.asks[i].acc) (asset := 1) (n := brN 2 L.asks[i]) hov (by omega)
    have hD : oweD L.asks[i].acc (brA 2) (brN 2 L.asks[i]) L.owed = (oweL L.asks[i].acc 1 (brN 2 L.asks[i]) L.owed, okL L.asks[i].acc 1 (brN 2 L.asks[i]) L.owed) := by
      unfold oweD
      rw [if_neg (by omega)]
      rfl
    rw [hD]
    simp only
    refine ⟨fun e => ?_, fun e => ?_, hr⟩
    · rw [e, Bool.not_true] at ho
      rw [ho]
      rfl
    · rw [e, Bool.not_false] at ho
      rw [ho]
      rfl
theorem dcan_none {L : LaneV} {acc id : Int} (hk : chkB L = true) (hb : (wthL acc id L.bids).2.2 = false) (hf : (wthL acc id L.asks).2.2 = false) : canR L acc id = (zLane, 0, 132) := by
  have hB := (chk_bok L).1 hk
  have hnd := hB.nd
  have hndb := (List.nodup_append.1 hnd).1
  have hnda := (List.nodup_append.1 hnd).2.1
  have hwb : wthL acc id L.bids = _ := wth_at acc id L.bids [] hndb
  have hw : wthL acc id L.asks = _ := wth_at acc id L.asks [] hnda
  unfold canR canF
  rw [if_pos hk]
  cases hib : L.bids.findIdx? (outP acc id) with
  | some i =>
    rw [hib] at hwb
    rw [hwb] at hb
    cases hb
  | none =>
  cases hi : L.asks.findIdx? (outP acc id) with
  | some i =>
    rw [hi] at hw
    rw [hw] at hf
    cases hf
  | none => rfl
set_option maxHeartbeats 16000000 in
set_option maxRecDepth 100000 in
theorem rCancel_is (L : LaneV) (b a o : Value) (acc id : Int) (w : World) (h : Lan w L b a o) : Calls Try.prog 13 #[laneV L b a o, .int .i64 acc, .int .i64 id] w (DcBack (canR L acc id) w) := by
  have X0 := hideIt (CB.first w L b a o)
  have HC := hideIt (rCheck_is L b a o _ (h.keep X0.out.bel))
  have HCP := hideIt (fun W (hW : Below w.heap.size w W) => rCopy_is L b a o W (h.keep hW))
  obtain ⟨ba, bc, rfl⟩ := h.bids.slice
  obtain ⟨aa, ac, rfl⟩ := h.asks.slice
  obtain ⟨oa, oc, rfl⟩ := h.owed.slice
  cases hk : chkB L
  · have HR : Hid (canR L acc id = (zLane, 0, 130)) := by
      show _ = _
      unfold canR
      rw [hk]
      rfl
    rw [show chkI L = 130 by unfold chkI; rw [hk]; rfl] at HC
    generalize canR L acc id = RX at *
    unfold laneV laneA at *
    obtain ⟨cl, nx, bids, asks, owed⟩ := L
    simp only at *
    clear hk HCP h
    go_enter Try.func13, Try.ntmps13
    go_wp2_with fail
    refine HC.out.mono ?_
    rintro e w1 ⟨rfl, hb⟩
    dsimp only
    have X1 := hideIt (X0.out.keep hb)
    clear hb X0 HC
    obtain ⟨⟨r0, r1, r2, r3, r4⟩, rf, rl⟩ := five5_at X1.out.res
    have HP := hideIt (X1.out.put (.bool false) (.int .i64 0) (.slice none 0 0) (.slice none 0 0) (.slice none 0 0))
    go_wp2
    revert HP
    generalize (World.setCell _ ⟨w.heap.size + 1, 4, none⟩ _) = W
    intro HP
    exact bodyPost_ret (v := .tuple #[laneV zLane (.slice none 0 0) (.slice none 0 0) (.slice none 0 0), .int .i64 0, .int .i64 130]) (by simp [results, Try.results13, go_sem, cell_at HP.out.1, laneV, laneA, zLane]) rfl (by unfold DcBack; rw [HR.out]; exact ⟨_, _, _, rfl, zLan _, HP.out.2⟩)
  · have hm := chk_may hk
    have HWB := hideIt (fun W (hW : Below w.heap.size w W) => rWithout_is _ L.bids acc id W (h.keep hW).bids (by have := hm.lb; omega))
    have HWA := hideIt (fun W (hW : Below w.heap.size w W) => rWithout_is _ L.asks acc id W (h.keep hW).asks (by have := hm.la; omega))
    have HGO : Hid (GO 0 L.owed) := ⟨owed_owok ((chk_bok L).1 hk).ow, hm.ow⟩
    have HD1 := hideIt (fun hf => dcan_bid (acc := acc) (id := id) hk hf)
    have HD2 := hideIt (fun hb hf => dcan_ask (acc := acc) (id := id) hk hb hf)
    have HD3 := hideIt (fun hb hf => dcan_none (acc := acc) (id := id) hk hb hf)
    have hlb : (wthL acc id L.bids).1.length ≤ 40 := Nat.le_trans (wth_len1 acc id L.bids ([], zOrd, false)) (by have := hm.lb; simp; omega)
    have hla : (wthL acc id L.asks).1.length ≤ 40 := Nat.le_trans (wth_len1 acc id L.asks ([], zOrd, false)) (by have := hm.la; simp; omega)
    have hmb := hm.lb
    have hma := hm.la
    have hmo := hm.ow.1
    rw [show chkI L = 0 by unfold chkI; rw [hk]; rfl] at HC
    generalize canR L acc id = RX at *
    generalize wthL acc id L.bids = WB at *
    generalize wthL acc id L.asks = WA at *
    clear hk hm h
    unfold LaneBack at HCP
    unfold WtBack at HWB HWA
    unfold laneV laneA at *
    obtain ⟨cl, nx, bids, asks, owed⟩ := L
    obtain ⟨wb, ⟨xi, xa, xp, xl⟩, fb⟩ := WB
    obtain ⟨wa, ⟨yi, ya, yp, yl⟩, fa⟩ := WA
    simp only [ordE] at *
    go_enter Try.func13, Try.ntmps13
    go_wp2_with fail
    refine HC.out.mono ?_
    rintro e w1 ⟨rfl, hb⟩
    dsimp only
    have X1 := hideIt (X0.out.keep hb)
    clear hb X0 HC
    obtain ⟨x0, x1, x2, x3, x4⟩ := X1.out.cells
    simp only at x0 x1 x2 x3 x4
    go_wp2_with fail
    refine (HCP.out _ X1.out.bel).mono ?_
    rintro e w2 ⟨b1, a1, o1, rfl, ob, oa1, oo, hs, hb⟩
    dsimp only
    have hb3 := below1 w2 (.cells #[.bool cl, .int .i64 nx, b1, a1, o1] 25)
    have X3 := hideIt (X1.out.keep (below_via hb hb3))
    have Z1 := X1.out.size
    have N3 : Hid (DN w ⟨cl, nx, bids, asks, owed⟩ (.slice ba bids.length bc) (.slice aa asks.length ac) (.slice oa owed.length oc) w2.heap.size ⟨cl, nx, bids, asks, owed⟩ b1 a1 o1 (w2.alloc (.cells #[.bool cl, .int .i64 nx, b1, a1, o1] 25))) := ⟨X3.out, heap_alloc_new w2 _, Nat.le_trans Z1 hb.size, own_base (own_keep ob hb3) Z1, own_base (own_keep oa1 hb3) Z1, own_base (own_keep oo hb3) Z1⟩
    obtain ⟨b1a, b1c, rfl⟩ := own_len ob
    obtain ⟨a1a, a1c, rfl⟩ := own_len oa1
    obtain ⟨o1a, o1c, rfl⟩ := own_len oo
    clear hb hb3 ob oa1 oo hs Z1 X1 X3 x0 x1 x2 x3 x4 HCP
    go_upto_region 4 with fail
    generalize w2.alloc (.cells #[.bool cl, .int .i64 nx, .slice b1a bids.length b1c, .slice a1a asks.length a1c, .slice o1a owed.length o1c] 25) = W3 at *
    generalize w2.heap.size = D at *
    obtain ⟨x0, x1, x2, x3, x4⟩ := N3.out.cb.cells
    simp only at x0 x1 x2 x3 x4
    go_wp2_with fail
    refine (HWB.out _ N3.out.cb.bel).mono ?_
    rintro e w4 ⟨wba, wbc, rfl, owb, hb⟩
    dsimp only
    have hb4 := below1 w4 (.cells #[.int .i64 xi, .int .i64 xa, .int .i64 xp, .int .i64 xl] 49)
    have N4 := hideIt (N3.out.keep (below_via hb hb4))
    have OB4 := hideIt (own_base (own_keep owb hb4) N3.out.cb.size)
    have K4 := hideIt (heap_alloc_new w4 (.cells #[.int .i64 xi, .int .i64 xa, .int .i64 xp, .int .i64 xl] 49))
    clear hb hb4 owb N3 x0 x1 x2 x3 x4 HWB
    go_upto_region 5 with fail
    generalize w4.alloc (.cells #[.int .i64 xi, .int .i64 xa, .int .i64 xp, .int .i64 xl] 49) = W4 at *
    generalize w4.heap.size = KA at *
    obtain ⟨x0, x1, x2, x3, x4⟩ := N4.out.cb.cells
    simp only at x0 x1 x2 x3 x4
    go_wp2_with fail
    refine (HWA.out _ N4.out.cb.bel).mono ?_
    rintro e w5 ⟨waa, wac, rfl, owa, hb⟩
    dsimp only
    have hb5 := below1 w5 (.cells #[.int .i64 yi, .int .i64 ya, .int .i64 yp, .int .i64 yl] 49)
    have N5 := hideIt (N4.out.keep (below_via hb hb5))
    have OA5 := hideIt (own_base (own_keep owa hb5) N4.out.cb.size)
    have OB5 := hideIt (own_keep OB4.out (below_via hb hb5))
    have K5 := hideIt (blkK K4.out (below_via hb hb5))
    have J5 := hideIt (heap_alloc_new w5 (.cells #[.int .i64 yi, .int .i64 ya, .int .i64 yp, .int .i64 yl] 49))
    clear hb hb5 owa N4 OB4 K4 x0 x1 x2 x3 x4 HWA
    go_upto_region 6 with fail
    generalize w5.alloc (.cells #[.int .i64 yi, .int .i64 ya, .int .i64 yp, .int .i64 yl] 49) = W5 at *
    generalize w5.heap.size = KB at *
    cases fb
    · cases fa
      · have HR := hideIt (HD3.out rfl rfl)
        obtain ⟨⟨r0, r1, r2, r3, r4⟩, rf, rl⟩ := five5_at N5.out.cb.res
        have HP := hideIt (N5.out.cb.put (.bool false) (.int .i64 0) (.slice none 0 0) (.slice none 0 0) (.slice none 0 0))
        go_wp2
        revert HP
        generalize (World.setCell _ ⟨w.heap.size + 1, 4, none⟩ _) = W
        intro HP
        exact bodyPost_ret (v := .tuple #[laneV zLane (.slice none 0 0) (.slice none 0 0) (.slice none 0 0), .int .i64 0, .int .i64 132]) (by simp [results, Try.results13, go_sem, cell_at HP.out.1, laneV, laneA, zLane]) rfl (by unfold DcBack; rw [HR.out]; exact ⟨_, _, _, rfl, zLan _, HP.out.2⟩)
      · obtain ⟨hA1, hA2, hpq⟩ := HD2.out rfl rfl
        have HA1 := hideIt hA1
        have HA2 := hideIt hA2
        have HBK := hideIt (fun u W (hu : Owes W u owed) => rBack_is u owed 2 ⟨yi, ya, yp, yl⟩ W hu HGO.out (by omega) hpq.1 hpq.2)
        have hb6 := below1 W5 (.cells #[.int .i64 yi, .int .i64 ya, .int .i64 yp, .int .i64 yl] 49)
        have N6 := hideIt (N5.out.keep hb6)
        have OA6 := hideIt (own_keep OA5.out hb6)
        have J6 := hideIt (blkK J5.out hb6)
        have O6 := hideIt (heap_alloc_new W5 (.cells #[.int .i64 yi, .int .i64 ya, .int .i64 yp, .int .i64 yl] 49))
        clear hb6
        have hJK : KB ≠ W5.heap.size := by have := (Array.getElem?_eq_some_iff.1 J5.out).1; omega
        have hKZ := N5.out.cb.size
        have hDK : D ≠ W5.heap.size := by have := (Array.getElem?_eq_some_iff.1 N5.out.out).1; omega
        obtain ⟨⟨k0, k1, k2, k3⟩, -, kz⟩ := four5_at K5.out
        obtain ⟨⟨j0, j1, j2, j3⟩, -, jz⟩ := four5_at J5.out
        clear HD1 HD2 HD3 hA1 hA2 OB5
        go_upto_region 14 with fail
        clear k0 k1 k2 k3 kz j0 j1 j2 j3 jz K5 J5 N5 OA5
        generalize W5.alloc (.cells #[.int .i64 yi, .int .i64 ya, .int .i64 yp, .int .i64 yl] 49) = W6 at *
        generalize W5.heap.size = KO at *
        obtain ⟨⟨t0, t1, t2, t3, t4⟩, tf, tl⟩ := five5_at N6.out.out
        obtain ⟨⟨j0, j1, j2, j3⟩, -, jz⟩ := four5_at J6.out
        have hJD : KB ≠ D := fun e => by have h1 := J6.out; rw [e, N6.out.out] at h1; simp at h1
        have hOD : KO ≠ D := fun e => by have h1 := O6.out; rw [e, N6.out.out] at h1; simp at h1
        have N7 := hideIt (N6.out.asks OA6.out)
        have J7 := hideIt (setOther (j := 3) (.slice waa wa.length wac) J6.out hJD)
        have O7 := hideIt (setOther (j := 3) (.slice waa wa.length wac) O6.out hOD)
        clear OA6 N6 J6 O6
        go_upto_region 15 with fail
        clear t0 t1 t2 t3 t4 tf tl j0 j1 j2 j3 jz
        generalize (World.setCell _ ⟨D, 3, none⟩ _) = W7 at *
        obtain ⟨⟨t0, t1, t2, t3, t4⟩, tf, tl⟩ := five5_at N7.out.out
        obtain ⟨⟨j0, j1, j2, j3⟩, -, jz⟩ := four5_at J7.out
        dsimp only at t0 t1 t2 t3 t4
        unfold OweBack at HBK
        have hlo := oweD_len (acc := ya) (asset := brA 2) (n := brN 2 ⟨yi, ya, yp, yl⟩) (l := owed)
        generalize oweD ya (brA 2) (brN 2 ⟨yi, ya, yp, yl⟩) owed = RO2 at *
        obtain ⟨ro, rb⟩ := RO2
        dsimp only [ordE] at HBK HA1 HA2 hlo
        have HL7 : Hid (Owes W7 (.slice o1a owed.length o1c) owed) := own_sgot N7.out.oo (by omega)
        go_wp2_with fail
        refine (HBK.out _ _ HL7.out).mono ?_
        rintro e w8 ⟨ra, rc, rfl, oo8, hb⟩
        dsimp only
        have N8 := hideIt (N7.out.keep hb)
        have O9 := hideIt (setOther (j := 4) (.slice ra ro.length rc) (blkK O7.out hb) hOD)
        have N9 := hideIt (N8.out.owed (own_base oo8 (Nat.le_trans N7.out.cb.size (Nat.le_refl _))))
        clear HL7 HBK oo8 hb N7 J7 O7 t0 t1 t2 t3 t4 tf tl j0 j1 j2 j3 jz
        obtain ⟨⟨t0, t1, t2, t3, t4⟩, tf, tl⟩ := five5_at N8.out.out
        clear N8
        go_upto_region 16 with fail
        clear t0 t1 t2 t3 t4 tf tl
        generalize (World.setCell _ ⟨D, 4, none⟩ _) = W9 at *
        cases rb
        · have HR := hideIt (HA2.out rfl)
          obtain ⟨⟨r0, r1, r2, r3, r4⟩, rf, rl⟩ := five5_at N9.out.cb.res
          have HP := hideIt (N9.out.cb.put (.bool false) (.int .i64 0) (.slice none 0 0) (.slice none 0 0) (.slice none 0 0))
          go_wp2
          revert HP
          generalize (World.setCell _ ⟨w.heap.size + 1, 4, none⟩ _) = W
          intro HP
          exact bodyPost_ret (v := .tuple #[laneV zLane (.slice none 0 0) (.slice none 0 0) (.slice none 0 0), .int .i64 0, .int .i64 131]) (by simp [results, Try.results13, go_sem, cell_at HP.out.1, laneV, laneA, zLane]) rfl (by unfold DcBack; rw [HR.out]; exact ⟨_, _, _, rfl, zLan _, HP.out.2⟩)
        · have HR := hideIt (HA1.out rfl)
          obtain ⟨⟨k0, k1, k2, k3⟩, -, kz⟩ := four5_at O9.out
          obtain ⟨⟨r0, r1, r2, r3, r4⟩, rf, rl⟩ := five5_at N9.out.cb.res
          obtain ⟨⟨t0, t1, t2, t3, t4⟩, -, tl⟩ := five5_at N9.out.out
          have nD : D ≠ w.heap.size + 1 := by have := N9.out.lD; omega
          have nD2 := nD.symm
          have nK : KO ≠ w.heap.size + 1 := fun e => by have h1 := O9.out; rw [e, N9.out.cb.res] at h1; simp at h1
          have nK2 := nK.symm
          have HD := hideIt N9.out.done
          unfold five5 at HD
          dsimp only at HD t0 t1 t2 t3 t4
          clear N9 O9
          go_upto_region 18 with fail
          go_region_held3 (fun W => W.cell? ⟨D, 0, none⟩ = some (.bool cl) ∧ W.cell? ⟨D, 1, none⟩ = some (.int .i64 nx) ∧ W.cell? ⟨D, 2, none⟩ = some (.slice b1a bids.length b1c) ∧ W.cell? ⟨D, 3, none⟩ = some (.slice waa wa.length wac) ∧ W.cell? ⟨D, 4, none⟩ = some (.slice ra ro.length rc) ∧ W.cell? ⟨KO, 3, none⟩ = some (.int .i64 yl)) (go_keep) (fail)
          go_wp2
          revert HD
          generalize (World.setCell _ ⟨w.heap.size + 1, 4, none⟩ _) = WF
          intro HD
          exact bodyPost_ret (v := .tuple #[.agg #[.bool cl, .int .i64 nx, .slice b1a bids.length b1c, .slice waa wa.length wac, .slice ra ro.length rc], .int .i64 yl, .int .i64 0]) (by simp [results, Try.results13, go_sem, cell_at HD.out.res, laneA]) rfl (by unfold DcBack; rw [HR.out]; exact ⟨_, _, _, rfl, by first | exact HD.out.lan (by dsimp only; omega) (by dsimp only; omega) (by dsimp only; omega) | exact (HD.out.lan (by dsimp only; omega) (by dsimp only; omega) (by dsimp only; omega)).keep ((Below.refl _ _).drew), by first | exact HD.out.bel | exact HD.out.bel.drew⟩)
    · obtain ⟨hA1, hA2, hpq⟩ := HD1.out rfl
      have HA1 := hideIt hA1
      have HA2 := hideIt hA2
      have HBK := hideIt (fun u W (hu : Owes W u owed) => rBack_is u owed 1 ⟨xi, xa, xp, xl⟩ W hu HGO.out (by omega) hpq.1 hpq.2)
      have hb6 := below1 W5 (.cells #[.int .i64 xi, .int .i64 xa, .int .i64 xp, .int .i64 xl] 49)
      have N6 := hideIt (N5.out.keep hb6)
      have OB6 := hideIt (own_keep OB5.out hb6)
      have J6 := hideIt (blkK K5.out hb6)
      have O6 := hideIt (heap_alloc_new W5 (.cells #[.int .i64 xi, .int .i64 xa, .int .i64 xp, .int .i64 xl] 49))
      clear hb6
      obtain ⟨⟨k0, k1, k2, k3⟩, -, kz⟩ := four5_at K5.out
      clear HD1 HD2 HD3 hA1 hA2 OA5
      cases fa
      all_goals
        go_upto_region 11 with fail
        clear k0 k1 k2 k3 kz K5 J5 N5 OB5
        generalize W5.alloc (.cells #[.int .i64 xi, .int .i64 xa, .int .i64 xp, .int .i64 xl] 49) = W6 at *
        generalize W5.heap.size = KO at *
        obtain ⟨⟨t0, t1, t2, t3, t4⟩, tf, tl⟩ := five5_at N6.out.out
        obtain ⟨⟨j0, j1, j2, j3⟩, -, jz⟩ := four5_at J6.out
        have hJD : KA ≠ D := fun e => by have h1 := J6.out; rw [e, N6.out.out] at h1; simp at h1
        have hOD : KO ≠ D := fun e => by have h1 := O6.out; rw [e, N6.out.out] at h1; simp at h1
        have N7 := hideIt (N6.out.bids OB6.out)
        have J7 := hideIt (setOther (j := 2) (.slice wba wb.length wbc) J6.out hJD)
        have O7 := hideIt (setOther (j := 2) (.slice wba wb.length wbc) O6.out hOD)
        clear OB6 N6 J6 O6
        go_upto_region 12 with fail
        clear t0 t1 t2 t3 t4 tf tl j0 j1 j2 j3 jz
        generalize (World.setCell _ ⟨D, 2, none⟩ _) = W7 at *
        obtain ⟨⟨t0, t1, t2, t3, t4⟩, tf, tl⟩ := five5_at N7.out.out
        obtain ⟨⟨j0, j1, j2, j3⟩, -, jz⟩ := four5_at J7.out
        dsimp only at t0 t1 t2 t3 t4
        unfold OweBack at HBK
        have hlo := oweD_len (acc := xa) (asset := brA 1) (n := brN 1 ⟨xi, xa, xp, xl⟩) (l := owed)
        generalize oweD xa (brA 1) (brN 1 ⟨xi, xa, xp, xl⟩) owed = RO2 at *
        obtain ⟨ro, rb⟩ := RO2
        dsimp only [ordE] at HBK HA1 HA2 hlo
        have HL7 : Hid (Owes W7 (.slice o1a owed.length o1c) owed) := own_sgot N7.out.oo (by omega)
        go_wp2_with fail
        refine (HBK.out _ _ HL7.out).mono ?_
        rintro e w8 ⟨ra, rc, rfl, oo8, hb⟩
        dsimp only
        have N8 := hideIt (N7.out.keep hb)
        have O9 := hideIt (setOther (j := 4) (.slice ra ro.length rc) (blkK O7.out hb) hOD)
        have N9 := hideIt (N8.out.owed (own_base oo8 (Nat.le_trans N7.out.cb.size (Nat.le_refl _))))
        clear HL7 HBK oo8 hb N7 J7 O7 t0 t1 t2 t3 t4 tf tl j0 j1 j2 j3 jz
        obtain ⟨⟨t0, t1, t2, t3, t4⟩, tf, tl⟩ := five5_at N8.out.out
        clear N8
        go_upto_region 16 with fail
        clear t0 t1 t2 t3 t4 tf tl
        generalize (World.setCell _ ⟨D, 4, none⟩ _) = W9 at *
        cases rb
        · have HR := hideIt (HA2.out rfl)
          obtain ⟨⟨r0, r1, r2, r3, r4⟩, rf, rl⟩ := five5_at N9.out.cb.res
          have HP := hideIt (N9.out.cb.put (.bool false) (.int .i64 0) (.slice none 0 0) (.slice none 0 0) (.slice none 0 0))
          go_wp2
          revert HP
          generalize (World.setCell _ ⟨w.heap.size + 1, 4, none⟩ _) = W
          intro HP
          exact bodyPost_ret (v := .tuple #[laneV zLane (.slice none 0 0) (.slice none 0 0) (.slice none 0 0), .int .i64 0, .int .i64 131]) (by simp [results, Try.results13, go_sem, cell_at HP.out.1, laneV, laneA, zLane]) rfl (by unfold DcBack; rw [HR.out]; exact ⟨_, _, _, rfl, zLan _, HP.out.2⟩)
        · have HR := hideIt (HA1.out rfl)
          obtain ⟨⟨k0, k1, k2, k3⟩, -, kz⟩ := four5_at O9.out
          obtain ⟨⟨r0, r1, r2, r3, r4⟩, rf, rl⟩ := five5_at N9.out.cb.res
          obtain ⟨⟨t0, t1, t2, t3, t4⟩, -, tl⟩ := five5_at N9.out.out
          have nD : D ≠ w.heap.size + 1 := by have := N9.out.lD; omega
          have nD2 := nD.symm
          have nK : KO ≠ w.heap.size + 1 := fun e => by have h1 := O9.out; rw [e, N9.out.cb.res] at h1; simp at h1
          have nK2 := nK.symm
          have HD := hideIt N9.out.done
          unfold five5 at HD
          dsimp only at HD t0 t1 t2 t3 t4
          clear N9 O9
          go_upto_region 18 with fail
          go_region_held3 (fun W => W.cell? ⟨D, 0, none⟩ = some (.bool cl) ∧ W.cell? ⟨D, 1, none⟩ = some (.int .i64 nx) ∧ W.cell? ⟨D, 2, none⟩ = some (.slice wba wb.length wbc) ∧ W.cell? ⟨D, 3, none⟩ = some (.slice a1a asks.length a1c) ∧ W.cell? ⟨D, 4, none⟩ = some (.slice ra ro.length rc) ∧ W.cell? ⟨KO, 3, none⟩ = some (.int .i64 xl)) (go_keep) (fail)
          go_wp2
          revert HD
          generalize (World.setCell _ ⟨w.heap.size + 1, 4, none⟩ _) = WF
          intro HD
          exact bodyPost_ret (v := .tuple #[.agg #[.bool cl, .int .i64 nx, .slice wba wb.length wbc, .slice a1a asks.length a1c, .slice ra ro.length rc], .int .i64 xl, .int .i64 0]) (by simp [results, Try.results13, go_sem, cell_at HD.out.res, laneA]) rfl (by unfold DcBack; rw [HR.out]; exact ⟨_, _, _, rfl, by first | exact HD.out.lan (by dsimp only; omega) (by dsimp only; omega) (by dsimp only; omega) | exact (HD.out.lan (by dsimp only; omega) (by dsimp only; omega) (by dsimp only; omega)).keep ((Below.refl _ _).drew), by first | exact HD.out.bel | exact HD.out.bel.drew⟩)
end Go.Proofs.Ytpfdmjphoeljiaa
