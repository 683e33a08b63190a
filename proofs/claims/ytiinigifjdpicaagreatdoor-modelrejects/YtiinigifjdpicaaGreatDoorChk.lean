/- May these be a side? Is what is owed in order? Do both sides meet? -/
import Derived.Test.YtiinigifjdpicaaGreatDoorOrd
import Derived.Shelf.Abstract
namespace Go.Proofs.YtiinigifjdpicaaGreatDoor
open Go.RowKit
set_option linter.all false
theorem eg49 : ∀ args w, (callFunc 128 args).run Tryz.prog w = .ok (.enter 128 args) w := enters_of Tryz.func128 (by kernel_rfl) rfl
theorem eg54 : ∀ args w, (callFunc 86 args).run Tryz.prog w = .ok (.enter 86 args) w := enters_of Tryz.func86 (by kernel_rfl) rfl
theorem eg60 : ∀ args w, (callFunc 96 args).run Tryz.prog w = .ok (.enter 96 args) w := enters_of Tryz.func96 (by kernel_rfl) rfl
theorem eg62 : ∀ args w, (callFunc 99 args).run Tryz.prog w = .ok (.enter 99 args) w := enters_of Tryz.func99 (by kernel_rfl) rfl
theorem eg59 : ∀ args w, (callFunc 95 args).run Tryz.prog w = .ok (.enter 95 args) w := enters_of Tryz.func95 (by kernel_rfl) rfl
def sideB (s nx : Int) (l : List OrdV) : Bool := decide (l.length ≤ 40) && (!(l.any (strB nx)) && srtB (ahB s) l)
theorem pred54 {nx : Int} (hn : 1 ≤ nx ∧ nx ≤ 1000001) {B : Nat} {w : World} (hB : B < w.heap.size) (hc : w.cell? ⟨B, 1, none⟩ = some (.int .i64 nx)) : PredB 86 #[.pointer (some ⟨B, 0, none⟩)] ordE (strB nx) w := fun W x hW =>
  (strange_is nx hn B x W (Nat.lt_of_lt_of_le hB hW.size) ((hW.cell (p := ⟨B, 1, none⟩) hB).trans hc)).mono (fun _ _ h => ⟨h.1, below_via hW h.2⟩)
theorem cmp49 {s : Int} {B : Nat} {w : World} (hB : B < w.heap.size) (hc : w.cell? ⟨B, 0, none⟩ = some (.int .i64 s)) : CmpB 128 #[.pointer (some ⟨B, 0, none⟩)] ordU (ahB s) w := fun W x y hW =>
  (served1_is s B x y W (Nat.lt_of_lt_of_le hB hW.size) ((hW.cell (p := ⟨B, 0, none⟩) hB).trans hc)).mono (fun _ _ h => ⟨h.1, below_via hW h.2⟩)
theorem pred60 {w : World} : PredB 96 #[] oweE stoB w := fun W x hW => (strangeO_is x W).mono (fun _ _ h => ⟨h.1, below_via hW h.2⟩)
theorem cmp62 {w : World} : CmpB 99 #[] oweU owB w := fun W x y hW => (owedAhead_is x y W).mono (fun _ _ h => ⟨h.1, below_via hW h.2⟩)
def owedB (l : List OweV) : Bool := !(l.any stoB) && srtB owB l
set_option maxHeartbeats 4000000 in
theorem areOwed_is (v : Value) (l : List OweV) (w : World) (h : Owes w v l) : Calls Tryz.prog 69 #[v] w fun e w' => e = .returned (.bool (owedB l)) ∧ Below w.heap.size w w' := by
  have H1 := hideIt (containsW_is 96 #[] eg60 v l stoB w h pred60)
  have H2 := hideIt (fun W (hW : Below w.heap.size w W) => inOrdW_is 99 #[] eg62 v l owB W (h.keep hW) cmp62)
  obtain ⟨a, c, rfl⟩ := h.slice
  unfold owedB
  clear h
  cases h1 : l.any stoB
  · rw [h1] at H1
    go_enter Tryz.func69, Tryz.ntmps69
    go_wp2_with fail
    refine H1.out.mono ?_
    rintro e w1 ⟨rfl, hb⟩
    dsimp only
    have HB := hideIt hb
    clear hb
    go_wp2_with fail
    refine (H2.out _ HB.out).mono ?_
    rintro e w2 ⟨rfl, hb⟩
    dsimp only
    have HC := hideIt (below_via HB.out hb)
    clear hb
    go_wp2
    go_ret
    exact ⟨by simp, HC.out⟩
  · rw [h1] at H1
    go_enter Tryz.func69, Tryz.ntmps69
    go_wp2_with fail
    refine H1.out.mono ?_
    rintro e w1 ⟨rfl, hb⟩
    dsimp only
    have HB := hideIt hb
    clear hb
    go_wp2
    go_ret
    exact ⟨by simp, HB.out⟩
set_option maxHeartbeats 8000000 in
theorem areBids_is (L : LaneV) (b a o : Value) (w : World) (hn : 1 ≤ L.next ∧ L.next ≤ 1000001) (h : Lan w L b a o) : Calls Tryz.prog 66 #[laneV L b a o, .int .i64 1] w fun e w' => e = .returned (.bool (sideB 1 L.next L.bids)) ∧ Below w.heap.size w w' := by
  have HB := hideIt (below1 w (.cells (laneA L b a o) 59))
  have HN := hideIt (heap_alloc_new w (.cells (laneA L b a o) 59))
  have HK := h.keep HB.out
  have HP := hideIt (fun W => sideOf_is w.heap.size 1 W)
  rw [show sideOff 1 = 2 from rfl] at HP
  have H1 := hideIt (containsO_is 86 #[.pointer (some ⟨w.heap.size, 0, none⟩)] eg54 b L.bids (strB L.next) _ HK.bids (pred54 hn (B := w.heap.size) (by simp) (by rw [cell_at HN.out]; rfl)))
  have H3 := hideIt (fun W => served_is 1 W)
  have H2 := hideIt (fun W (hW : Below w.heap.size w W) => inOrdO_is 128 #[.pointer (some ⟨W.heap.size, 0, none⟩)] eg49 b L.bids (ahB 1) (W.alloc (.cells #[.int .i64 1] 3)) ((h.bids.keep hW).keep (below1 _ _)) (cmp49 (by simp) (by simp)))
  unfold sideB
  obtain ⟨ba, bc, rfl⟩ := h.bids.slice
  obtain ⟨aa, ac, rfl⟩ := h.asks.slice
  obtain ⟨oa, oc, rfl⟩ := h.owed.slice
  have hl : L.bids.length * 32 ≤ 140737488355328 := h.bids.1
  unfold laneV laneA at *
  obtain ⟨cl, nx, bids, asks, owed⟩ := L
  simp only at *
  clear h HK
  by_cases h4 : bids.length ≤ 40
  · have h4I : ¬ (40 : Int) < (bids.length : Int) := by omega
    rw [decide_eq_true h4]
    cases h1 : bids.any (strB nx)
    · rw [h1] at H1
      clear hn hl h4
      go_enter Tryz.func66, Tryz.ntmps66
      go_wp2_with fail
      refine (HP.out _).mono ?_
      rintro e w1 ⟨rfl, rfl⟩
      dsimp only
      go_wp2_with fail
      refine H1.out.mono ?_
      rintro e w1 ⟨rfl, hb⟩
      dsimp only
      have HB1 := hideIt (below_via HB.out hb)
      clear hb HB HN H1
      go_wp2_with fail
      refine (H3.out _).mono ?_
      rintro e w2 ⟨rfl, rfl⟩
      dsimp only
      go_wp2_with fail
      refine (H2.out _ HB1.out).mono ?_
      rintro e w2 ⟨rfl, hb⟩
      dsimp only
      have HC := hideIt (below_via (below_via HB1.out (below1 _ _)) hb)
      clear hb
      go_wp2
      go_ret
      exact ⟨by simp, HC.out⟩
    · rw [h1] at H1
      clear hn hl h4
      go_enter Tryz.func66, Tryz.ntmps66
      go_wp2_with fail
      refine (HP.out _).mono ?_
      rintro e w1 ⟨rfl, rfl⟩
      dsimp only
      go_wp2_with fail
      refine H1.out.mono ?_
      rintro e w1 ⟨rfl, hb⟩
      dsimp only
      have HB1 := hideIt (below_via HB.out hb)
      clear hb HB HN H1
      go_wp2
      go_ret
      exact ⟨by simp, HB1.out⟩
  · have h4I : (40 : Int) < (bids.length : Int) := by omega
    rw [decide_eq_false h4]
    clear hn hl h4 H1 H2 H3
    go_enter Tryz.func66, Tryz.ntmps66
    go_wp2_with fail
    refine (HP.out _).mono ?_
    rintro e w1 ⟨rfl, rfl⟩
    dsimp only
    go_wp2
    go_ret
    exact ⟨by simp, HB.out⟩
set_option maxHeartbeats 8000000 in
theorem areAsks_is (L : LaneV) (b a o : Value) (w : World) (hn : 1 ≤ L.next ∧ L.next ≤ 1000001) (h : Lan w L b a o) : Calls Tryz.prog 66 #[laneV L b a o, .int .i64 2] w fun e w' => e = .returned (.bool (sideB 2 L.next L.asks)) ∧ Below w.heap.size w w' := by
  have HB := hideIt (below1 w (.cells (laneA L b a o) 59))
  have HN := hideIt (heap_alloc_new w (.cells (laneA L b a o) 59))
  have HK := h.keep HB.out
  have HP := hideIt (fun W => sideOf_is w.heap.size 2 W)
  rw [show sideOff 2 = 3 from rfl] at HP
  have H1 := hideIt (containsO_is 86 #[.pointer (some ⟨w.heap.size, 0, none⟩)] eg54 a L.asks (strB L.next) _ HK.asks (pred54 hn (B := w.heap.size) (by simp) (by rw [cell_at HN.out]; rfl)))
  have H3 := hideIt (fun W => served_is 2 W)
  have H2 := hideIt (fun W (hW : Below w.heap.size w W) => inOrdO_is 128 #[.pointer (some ⟨W.heap.size, 0, none⟩)] eg49 a L.asks (ahB 2) (W.alloc (.cells #[.int .i64 2] 3)) ((h.asks.keep hW).keep (below1 _ _)) (cmp49 (by simp) (by simp)))
  unfold sideB
  obtain ⟨ba, bc, rfl⟩ := h.bids.slice
  obtain ⟨aa, ac, rfl⟩ := h.asks.slice
  obtain ⟨oa, oc, rfl⟩ := h.owed.slice
  have hl : L.asks.length * 32 ≤ 140737488355328 := h.asks.1
  unfold laneV laneA at *
  obtain ⟨cl, nx, bids, asks, owed⟩ := L
  simp only at *
  clear h HK
  by_cases h4 : asks.length ≤ 40
  · have h4I : ¬ (40 : Int) < (asks.length : Int) := by omega
    rw [decide_eq_true h4]
    cases h1 : asks.any (strB nx)
    · rw [h1] at H1
      clear hn hl h4
      go_enter Tryz.func66, Tryz.ntmps66
      go_wp2_with fail
      refine (HP.out _).mono ?_
      rintro e w1 ⟨rfl, rfl⟩
      dsimp only
      go_wp2_with fail
      refine H1.out.mono ?_
      rintro e w1 ⟨rfl, hb⟩
      dsimp only
      have HB1 := hideIt (below_via HB.out hb)
      clear hb HB HN H1
      go_wp2_with fail
      refine (H3.out _).mono ?_
      rintro e w2 ⟨rfl, rfl⟩
      dsimp only
      go_wp2_with fail
      refine (H2.out _ HB1.out).mono ?_
      rintro e w2 ⟨rfl, hb⟩
      dsimp only
      have HC := hideIt (below_via (below_via HB1.out (below1 _ _)) hb)
      clear hb
      go_wp2
      go_ret
      exact ⟨by simp, HC.out⟩
    · rw [h1] at H1
      clear hn hl h4
      go_enter Tryz.func66, Tryz.ntmps66
      go_wp2_with fail
      refine (HP.out _).mono ?_
      rintro e w1 ⟨rfl, rfl⟩
      dsimp only
      go_wp2_with fail
      refine H1.out.mono ?_
      rintro e w1 ⟨rfl, hb⟩
      dsimp only
      have HB1 := hideIt (below_via HB.out hb)
      clear hb HB HN H1
      go_wp2
      go_ret
      exact ⟨by simp, HB1.out⟩
  · have h4I : (40 : Int) < (asks.length : Int) := by omega
    rw [decide_eq_false h4]
    clear hn hl h4 H1 H2 H3
    go_enter Tryz.func66, Tryz.ntmps66
    go_wp2_with fail
    refine (HP.out _).mono ?_
    rintro e w1 ⟨rfl, rfl⟩
    dsimp only
    go_wp2
    go_ret
    exact ⟨by simp, HB.out⟩
theorem below_drewN {B : Nat} {w w' : World} (h : Below B w w') (n : Nat) : Below B w (w'.drewN n) := ⟨h.os, h.tape, h.output, h.size, h.block⟩
/-- Would both sides trade? -/
def crossB (L : LaneV) : Bool := match L.bids, L.asks with
  | x :: _, y :: _ => decide (y.price ≤ x.price)
  | _, _ => false
set_option maxHeartbeats 8000000 in
theorem isCrossed_is (L : LaneV) (b a o : Value) (w : World) (h : Lan w L b a o) : Calls Tryz.prog 68 #[laneV L b a o] w fun e w' => e = .returned (.bool (crossB L)) ∧ Below w.heap.size w w' := by
  have HB := hideIt (below1 w (.cells (laneA L b a o) 59))
  have hk := h.keep HB.out
  obtain ⟨ba, bc, rfl, b8, hb⟩ := hk.bids.ords
  obtain ⟨aa, ac, rfl, a8, ha⟩ := hk.asks.ords
  obtain ⟨oa, oc, rfl⟩ := h.owed.slice
  unfold laneV laneA crossB at *
  obtain ⟨cl, nx, bids, asks, owed⟩ := L
  simp only at *
  clear h hk
  cases bids with
  | nil =>
    clear hb ha
    have hz : decide ((0 : Int) < (([] : List OrdV).length : Int)) = false := rfl
    have hz2 : decide (0 < ([] : List OrdV).length) = false := rfl
    generalize ([] : List OrdV).length = nb at *
    go_enter Tryz.func68, Tryz.ntmps68
    go_upto_region 1 with fail
    go_quiet (fail)
    go_wp2
    go_ret
    exact ⟨rfl, below_drewN HB.out _⟩
  | cons x bs =>
    cases asks with
    | nil =>
      clear hb ha
      have hp : (0 : Int) < ((x :: bs).length : Int) := by simp
      have hz : decide ((0 : Int) < (([] : List OrdV).length : Int)) = false := rfl
      have hz2 : decide (0 < ([] : List OrdV).length) = false := rfl
      have hpN : 0 < (x :: bs).length := by simp
      generalize ([] : List OrdV).length = na at *
      generalize (x :: bs).length = nb at *
      go_enter Tryz.func68, Tryz.ntmps68
      go_upto_region 1 with fail
      go_quiet (fail)
      go_wp2
      go_ret
      exact ⟨rfl, below_drewN HB.out _⟩
    | cons y ys =>
      obtain ⟨b1, off1, rfl, hl1, -, -, p1, -⟩ := hb 0 (by simp)
      obtain ⟨b2, off2, rfl, hl2, -, -, p2, -⟩ := ha 0 (by simp)
      have hp : (0 : Int) < ((x :: bs).length : Int) := by simp
      have hq : (0 : Int) < ((y :: ys).length : Int) := by simp
      simp only [List.getElem_cons_zero, Nat.zero_mul, Nat.add_zero] at p1 p2
      clear hb ha
      have hpN : 0 < (x :: bs).length := by simp
      have hqN : 0 < (y :: ys).length := by simp
      generalize (x :: bs).length = nb at *
      generalize (y :: ys).length = na at *
      go_enter Tryz.func68, Tryz.ntmps68
      go_upto_region 1 with fail
      go_quiet (fail)
      go_wp2
      go_ret
      exact ⟨rfl, below_drewN HB.out _⟩
end Go.Proofs.YtiinigifjdpicaaGreatDoor
