/- What a book that may be is. -/
import Derived.Test.YtiinigifjdpicaaGreatDoorPlP
namespace Go.Proofs.YtiinigifjdpicaaGreatDoor
open Go.RowKit
set_option linter.all false
theorem wiB_in {x lo hi : Int} (h : wiB x lo hi = true) : lo ≤ x ∧ x ≤ hi := of_decide_eq_true h
structure MayL (L : LaneV) : Prop where
  next : 1 ≤ L.next ∧ L.next ≤ 1000001
  lb : L.bids.length ≤ 40
  la : L.asks.length ≤ 40
  tb : OkT L.bids
  ta : OkT L.asks
  ow : OkO 0 L.owed
theorem side_ok {s nx : Int} {l : List OrdV} (h : sideB s nx l = true) : l.length ≤ 40 ∧ OkT l := by
  unfold sideB at h
  simp only [Bool.and_eq_true, decide_eq_true_eq, Bool.not_eq_true', List.any_eq_false] at h
  refine ⟨h.1, fun r hr => ?_⟩
  have h2 := h.2.1 r hr
  unfold strB at h2
  simp only [Bool.or_eq_true, not_or, Bool.not_eq_true', Bool.not_eq_false] at h2
  exact ⟨wiB_in h2.1.1.2, wiB_in h2.1.2⟩
def keyO (y : OweV) : Int := y.acc * 2 + y.asset
theorem owed_len : ∀ (l : List OweV) (y : OweV), srtB owB (y :: l) = true → (∀ z ∈ y :: l, (1 ≤ z.acc ∧ z.acc ≤ 8) ∧ (0 ≤ z.asset ∧ z.asset ≤ 1)) → ((y :: l).length : Int) ≤ 18 - keyO y
  | [], y, _, h => by
    have := h y (by simp)
    unfold keyO
    simp only [List.length_cons, List.length_nil]
    omega
  | z :: l, y, hs, h => by
    unfold srtB at hs
    simp only [Bool.and_eq_true] at hs
    have ih := owed_len l z hs.2 (fun q hq => h q (List.mem_cons_of_mem _ hq))
    have h1 := h y (by simp)
    have h2 := h z (by simp)
    have h3 := hs.1
    unfold owB at h3
    simp only [Bool.or_eq_true, Bool.and_eq_true, decide_eq_true_eq] at h3
    unfold keyO at *
    simp only [List.length_cons] at *
    push_cast at *
    rcases h3 with h3 | ⟨h3, h4⟩ <;> omega
theorem owed_ok {l : List OweV} (h : owedB l = true) : OkO 0 l := by
  unfold owedB at h
  simp only [Bool.and_eq_true, Bool.not_eq_true', List.any_eq_false] at h
  have hz : ∀ z ∈ l, ((1 ≤ z.acc ∧ z.acc ≤ 8) ∧ (0 ≤ z.asset ∧ z.asset ≤ 1)) ∧ (1 ≤ z.n ∧ z.n ≤ 9007199254740992) := fun z hz => by
    have h2 := h.1 z hz
    unfold stoB at h2
    simp only [Bool.or_eq_true, not_or, Bool.not_eq_true', Bool.not_eq_false] at h2
    exact ⟨⟨wiB_in h2.1.1, wiB_in h2.1.2⟩, wiB_in h2.2⟩
  refine ⟨?_, fun z hz' => by have := hz z hz'; omega⟩
  cases l with
  | nil => simp
  | cons y l =>
    have := owed_len l y h.2 (fun z hz' => (hz z hz').1)
    have hy := hz y (by simp)
    unfold keyO at this
    omega
theorem chk_may {L : LaneV} (h : chkB L = true) : MayL L := by
  unfold chkB at h
  simp only [Bool.and_eq_true] at h
  exact ⟨wiB_in h.1, (side_ok h.2.1).1, (side_ok h.2.2.1).1, (side_ok h.2.1).2, (side_ok h.2.2.1).2, owed_ok h.2.2.2.2.2⟩
theorem refE_ok {L : LaneV} {acc s price n : Int} {now : Bool} (h : refE L acc s price n now = 0) : chkB L = true ∧ (s = 1 ∨ s = 2) ∧ (1 ≤ price ∧ price ≤ 1000000) ∧ (1 ≤ n ∧ n ≤ 1000000) ∧ (now && L.call) = false ∧ (sideL L s).length < 40 ∧ L.next ≤ 1000000 ∧ (1 ≤ acc ∧ acc ≤ 8) := by
  unfold refE at h
  split at h
  · simp at h
  · split at h
    · simp at h
    · split at h
      · simp at h
      · split at h
        · simp at h
        · rename_i h1 h2 h3 h4
          have hc : chkB L = true := by simpa using h1
          have hm := chk_may hc
          have ha : argB acc s price n = true := by simpa using h2
          unfold argB at ha
          simp only [Bool.and_eq_true, Bool.or_eq_true, decide_eq_true_eq] at ha
          have hl : (sideL L s).length ≤ 40 := by unfold sideL; split; exact hm.lb; exact hm.la
          exact ⟨hc, ha.2.1, wiB_in ha.2.2.1, wiB_in ha.2.2.2, by simpa using h3, by omega, by omega, wiB_in ha.1⟩
theorem PS.first {w w2 : World} {L : LaneV} {bv av ov b a o : Value} (acc price n : Int) (h : CB w L bv av ov w2) (hob : w2.ownsRow (w.heap.size + 2) 115 4 b L.bids.length (celC ordE L.bids)) (hoa : w2.ownsRow (w.heap.size + 2) 115 4 a L.asks.length (celC ordE L.asks)) (hoo : w2.ownsRow (w.heap.size + 2) 61 3 o L.owed.length (celC oweE L.owed)) (hs : b.ownBlock = none ∨ b.ownBlock ≠ a.ownBlock) :
    PS w w2.heap.size (w2.heap.size + 1) L bv av ov ⟨L.next, acc, price, n⟩ ⟨L.call, L.next + 1, L.bids, L.asks, L.owed⟩ [] b a o (.slice none 0 0) ((w2.alloc (.cells #[.bool L.call, .int .i64 (L.next + 1), b, a, o, .slice none 0 0] 174)).alloc (.cells (ordE ⟨L.next, acc, price, n⟩).toArray 115)) := by
  have h2 := two_heap w2 (.cells #[.bool L.call, .int .i64 (L.next + 1), b, a, o, .slice none 0 0] 174) (.cells (ordE ⟨L.next, acc, price, n⟩).toArray 115)
  have hb := below2 w2 (.cells #[.bool L.call, .int .i64 (L.next + 1), b, a, o, .slice none 0 0] 174) (.cells (ordE ⟨L.next, acc, price, n⟩).toArray 115)
  have hsz := h.size
  exact ⟨⟨h2.1, own_keep hob hb, own_keep hoa hb, own_keep hoo hb, own_nil _ _, hs⟩, h2.2.1, h.keep hb, by omega, hsz, by omega, fun e => by have := (hob.lt _ e.symm).2; omega, fun e => by have := (hoa.lt _ e.symm).2; omega⟩
/-- The own side has one more. -/
theorem PS.laidB {w wr wv wy : World} {D K : Nat} {L : LaneV} {bv av ov : Value} {x : OrdV} {cl : Bool} {nx : Int} {X T : List OrdV} {ow : List OweV} {X2 : List OrdV} {F : List FillV} {b a o f b2 : Value} (h : PS w D K L bv av ov x ⟨cl, nx, X, T, ow⟩ F b a o f wr) (hv : Below wr.heap.size wr wv) (ho : wy.ownsRow (w.heap.size + 2) 115 4 b2 X2.length (celC ordE X2)) (hg : wv.grownBy wy b.ownBlock) :
    (wy.setCell ⟨D, 2, none⟩ b2).ownsRow (w.heap.size + 2) 115 4 b2 X2.length (celC ordE X2) ∧ (wy.setCell ⟨D, 2, none⟩ b2).ownsRow (w.heap.size + 2) 115 4 a T.length (celC ordE T) ∧ (wy.setCell ⟨D, 2, none⟩ b2).ownsRow (w.heap.size + 2) 61 3 o ow.length (celC oweE ow) ∧ (wy.setCell ⟨D, 2, none⟩ b2).ownsRow (w.heap.size + 2) 106 4 f F.length (celC filE F) ∧ (wy.setCell ⟨D, 2, none⟩ b2).heap[D]? = some (.cells #[.bool cl, .int .i64 nx, b2, a, o, f] 174 (0, 0)) ∧ CB w L bv av ov (wy.setCell ⟨D, 2, none⟩ b2) ∧ wy.cell? ⟨D, 2, none⟩ = some b ∧ wy.frozen? ⟨D, 2, none⟩ = false ∧ D < wy.heap.size := by
  have hk := h.keep hv
  have hbx := box_type hg hk.deal.ob hk.deal.box (by decide)
  have hlD := h.lD
  have hsa : a.ownBlock = none ∨ a.ownBlock ≠ b.ownBlock := by
    rcases hk.deal.sep with e | e
    · cases hq : a.ownBlock with
      | none => exact .inl rfl
      | some q => exact .inr (by rw [e]; simp)
    · exact .inr (fun x => e x.symm)
  refine ⟨own_cell ho hbx (by decide), own_cell (own_nb hg hk.deal.oa hsa) hbx (by decide), own_cell (own_type hg hk.deal.ob hk.deal.oo (by decide)) hbx (by decide), own_cell (own_type hg hk.deal.ob hk.deal.fl (by decide)) hbx (by decide), heap_set hbx 2 b2, ?_, by rw [cell_at hbx]; rfl, free_at hbx 2, (Array.getElem?_eq_some_iff.1 hbx).1⟩
  have hcb := hk.cb.tcr (Tcr.ofGrown (D := D) hg) hlD (fun k e => (hk.deal.ob.lt k e).1)
  exact ⟨setOther _ hcb.box (by omega), setOther _ hcb.res (by omega), belowSet _ hcb.bel (by omega), by simpa using hcb.size⟩
theorem PS.laidA {w wr wv wy : World} {D K : Nat} {L : LaneV} {bv av ov : Value} {x : OrdV} {cl : Bool} {nx : Int} {X T : List OrdV} {ow : List OweV} {X2 : List OrdV} {F : List FillV} {b a o f a2 : Value} (h : PS w D K L bv av ov x ⟨cl, nx, T, X, ow⟩ F b a o f wr) (hv : Below wr.heap.size wr wv) (ho : wy.ownsRow (w.heap.size + 2) 115 4 a2 X2.length (celC ordE X2)) (hg : wv.grownBy wy a.ownBlock) :
    (wy.setCell ⟨D, 3, none⟩ a2).ownsRow (w.heap.size + 2) 115 4 b T.length (celC ordE T) ∧ (wy.setCell ⟨D, 3, none⟩ a2).ownsRow (w.heap.size + 2) 115 4 a2 X2.length (celC ordE X2) ∧ (wy.setCell ⟨D, 3, none⟩ a2).ownsRow (w.heap.size + 2) 61 3 o ow.length (celC oweE ow) ∧ (wy.setCell ⟨D, 3, none⟩ a2).ownsRow (w.heap.size + 2) 106 4 f F.length (celC filE F) ∧ (wy.setCell ⟨D, 3, none⟩ a2).heap[D]? = some (.cells #[.bool cl, .int .i64 nx, b, a2, o, f] 174 (0, 0)) ∧ CB w L bv av ov (wy.setCell ⟨D, 3, none⟩ a2) ∧ wy.cell? ⟨D, 3, none⟩ = some a ∧ wy.frozen? ⟨D, 3, none⟩ = false ∧ D < wy.heap.size := by
  have hk := h.keep hv
  have hbx := box_type hg hk.deal.oa hk.deal.box (by decide)
  have hlD := h.lD
  refine ⟨own_cell (own_nb hg hk.deal.ob hk.deal.sep) hbx (by decide), own_cell ho hbx (by decide), own_cell (own_type hg hk.deal.oa hk.deal.oo (by decide)) hbx (by decide), own_cell (own_type hg hk.deal.oa hk.deal.fl (by decide)) hbx (by decide), heap_set hbx 3 a2, ?_, by rw [cell_at hbx]; rfl, free_at hbx 3, (Array.getElem?_eq_some_iff.1 hbx).1⟩
  have hcb := hk.cb.tcr (Tcr.ofGrown (D := D) hg) hlD (fun k e => (hk.deal.oa.lt k e).1)
  exact ⟨setOther _ hcb.box (by omega), setOther _ hcb.res (by omega), belowSet _ hcb.bel (by omega), by simpa using hcb.size⟩
end Go.Proofs.YtiinigifjdpicaaGreatDoor
