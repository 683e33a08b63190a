/- The deal at its end. -/
import Derived.Test.YtiinigifjdpicaaGreatDoorPlC
namespace Go.Proofs.YtiinigifjdpicaaGreatDoor
open Go.RowKit
set_option linter.all false
structure FSt (w : World) (D : Nat) (L : LaneV) (bv av ov : Value) (M : LaneV) (F : List FillV) (b a o f : Value) (wr : World) : Prop where
  box : wr.heap[D]? = some (.cells #[.bool M.call, .int .i64 M.next, b, a, o, f] 174 (0, 0))
  ob : wr.ownsRow (w.heap.size + 2) 115 4 b M.bids.length (celC ordE M.bids)
  oa : wr.ownsRow (w.heap.size + 2) 115 4 a M.asks.length (celC ordE M.asks)
  oo : wr.ownsRow (w.heap.size + 2) 61 3 o M.owed.length (celC oweE M.owed)
  fl : wr.ownsRow (w.heap.size + 2) 106 4 f F.length (celC filE F)
  cb : CB w L bv av ov wr
  lD : w.heap.size + 2 ≤ D
theorem PS.fin {w wr : World} {D K : Nat} {L : LaneV} {bv av ov : Value} {x : OrdV} {M : LaneV} {F : List FillV} {b a o f : Value} (h : PS w D K L bv av ov x M F b a o f wr) : FSt w D L bv av ov M F b a o f wr := ⟨h.deal.box, h.deal.ob, h.deal.oa, h.deal.oo, h.deal.fl, h.cb, h.lD⟩
theorem FSt.keep {w wr wy : World} {D : Nat} {L : LaneV} {bv av ov : Value} {M : LaneV} {F : List FillV} {b a o f : Value} (h : FSt w D L bv av ov M F b a o f wr) (hb : Below wr.heap.size wr wy) : FSt w D L bv av ov M F b a o f wy :=
  ⟨(hb.block _ (Array.getElem?_eq_some_iff.1 h.box).1).trans h.box, own_keep h.ob hb, own_keep h.oa hb, own_keep h.oo hb, own_keep h.fl hb, h.cb.keep hb, h.lD⟩
theorem FSt.cells {w wr : World} {D : Nat} {L : LaneV} {bv av ov : Value} {M : LaneV} {F : List FillV} {b a o f : Value} (h : FSt w D L bv av ov M F b a o f wr) : wr.cell? ⟨D, 0, none⟩ = some (.bool M.call) ∧ wr.cell? ⟨D, 1, none⟩ = some (.int .i64 M.next) ∧ wr.cell? ⟨D, 2, none⟩ = some b ∧ wr.cell? ⟨D, 3, none⟩ = some a ∧ wr.cell? ⟨D, 4, none⟩ = some o ∧ wr.cell? ⟨D, 5, none⟩ = some f :=
  ⟨by rw [cell_at h.box]; rfl, by rw [cell_at h.box]; rfl, by rw [cell_at h.box]; rfl, by rw [cell_at h.box]; rfl, by rw [cell_at h.box]; rfl, by rw [cell_at h.box]; rfl⟩
set_option maxHeartbeats 4000000 in
theorem isOver2_is (w0 : World) (D : Nat) (L : LaneV) (bv av ov : Value) (M : LaneV) (F : List FillV) (b a o f : Value) (w : World) (h : FSt w0 D L bv av ov M F b a o f w) (hl : M.owed.length ≤ 100000) : Calls Tryz.prog 116 #[.pointer (some ⟨D, 0, none⟩)] w fun e w' => e = .returned (.bool (overB M.owed)) ∧ Below w.heap.size w w' := by
  have H1 := hideIt (containsW_is 144 #[] eg51 o M.owed (fun o => decide (9007199254740992 < o.n)) w (own_sgot (bytes := 24) h.oo (by omega)) pred51)
  have hDl : D < w.heap.size := (Array.getElem?_eq_some_iff.1 h.box).1
  obtain ⟨ga, gc, rfl⟩ := own_len h.oo
  obtain ⟨c0, c1, c2, c3, c4, c5⟩ := h.cells
  clear c0 c1 c2 c3 c5 h
  unfold overB
  generalize (M.owed.any fun o => decide (9007199254740992 < o.n)) = r at *
  go_enter Tryz.func116, Tryz.ntmps116
  go_wp2_with fail
  refine H1.out.mono ?_
  rintro e w1 ⟨rfl, hb⟩
  dsimp only
  go_wp2
  go_ret
  exact ⟨rfl, hb⟩
def five5 (wr : World) (R : Nat) (v0 v1 v2 v3 v4 : Value) : World := ((((wr.setCell ⟨R, 0, none⟩ v0).setCell ⟨R, 1, none⟩ v1).setCell ⟨R, 2, none⟩ v2).setCell ⟨R, 3, none⟩ v3).setCell ⟨R, 4, none⟩ v4
structure Done (w : World) (M : LaneV) (F : List FillV) (b a o f : Value) (W : World) : Prop where
  res : W.heap[w.heap.size + 1]? = some (.cells #[.bool M.call, .int .i64 M.next, b, a, o] 59 (0, 0))
  ob : W.ownsRow w.heap.size 115 4 b M.bids.length (celC ordE M.bids)
  oa : W.ownsRow w.heap.size 115 4 a M.asks.length (celC ordE M.asks)
  oo : W.ownsRow w.heap.size 61 3 o M.owed.length (celC oweE M.owed)
  fl : W.ownsRow w.heap.size 106 4 f F.length (celC filE F)
  bel : Below w.heap.size w W
theorem Done.drew {w W : World} {M : LaneV} {F : List FillV} {b a o f : Value} (h : Done w M F b a o f W) : Done w M F b a o f W.drew := ⟨h.res, h.ob.drew, h.oa.drew, h.oo.drew, h.fl.drew, h.bel.drew⟩
theorem FSt.done {w wr : World} {D : Nat} {L : LaneV} {bv av ov : Value} {M : LaneV} {F : List FillV} {b a o f : Value} (k : FSt w D L bv av ov M F b a o f wr) : Done w M F b a o f (five5 wr (w.heap.size + 1) (.bool M.call) (.int .i64 M.next) b a o).drew := by
  refine Done.drew ?_
  unfold five5
  have h1 := k.cb.put (.bool M.call) (.int .i64 M.next) b a o
  have h2 := own_five k.ob k.cb.res (by decide) (.bool M.call) (.int .i64 M.next) b a o
  have h3 := own_five k.oa k.cb.res (by decide) (.bool M.call) (.int .i64 M.next) b a o
  have h4 := own_five k.oo k.cb.res (by decide) (.bool M.call) (.int .i64 M.next) b a o
  have h5 := own_five k.fl k.cb.res (by decide) (.bool M.call) (.int .i64 M.next) b a o
  revert h1 h2 h3 h4 h5
  generalize (World.setCell _ ⟨w.heap.size + 1, 4, none⟩ _) = W
  intro h1 h2 h3 h4 h5
  exact ⟨h1.1, own_base h2 (by omega), own_base h3 (by omega), own_base h4 (by omega), own_base h5 (by omega), h1.2⟩
theorem Done.back {w W : World} {M : LaneV} {F : List FillV} {b a o f : Value} (h : Done w M F b a o f W) (nx : Int) : PlBack (M, F, nx, 0) w (.returned (.tuple #[laneV M b a o, f, .int .i64 nx, .int .i64 0])) W := ⟨_, _, _, _, rfl, h.ob, h.oa, h.oo, h.fl, h.bel⟩
theorem Done.back2 {w W : World} {cl : Bool} {nx1 nx : Int} {bids asks : List OrdV} {owed : List OweV} {F : List FillV} {b a o f : Value} {RX : LaneV × List FillV × Int × Int} (h : Done w ⟨cl, nx1, bids, asks, owed⟩ F b a o f W) (hR : RX = (⟨cl, nx1, bids, asks, owed⟩, F, nx, 0)) : PlBack RX w (.returned (.tuple #[.agg #[.bool cl, .int .i64 nx1, b, a, o], f, .int .i64 nx, .int .i64 0])) W := by
  rw [hR]
  exact ⟨b, a, o, f, rfl, h.ob, h.oa, h.oo, h.fl, h.bel⟩
theorem Done.res2 {w W : World} {cl : Bool} {nx1 : Int} {bids asks : List OrdV} {owed : List OweV} {F : List FillV} {b a o f : Value} (h : Done w ⟨cl, nx1, bids, asks, owed⟩ F b a o f W) : W.heap[w.heap.size + 1]? = some (.cells #[.bool cl, .int .i64 nx1, b, a, o] 59 (0, 0)) := h.res
theorem PS.laidFB {w wr wv wy : World} {D K : Nat} {L : LaneV} {bv av ov : Value} {x : OrdV} {cl : Bool} {nx : Int} {X T : List OrdV} {ow : List OweV} {X2 : List OrdV} {F : List FillV} {b a o f b2 : Value} (h : PS w D K L bv av ov x ⟨cl, nx, X, T, ow⟩ F b a o f wr) (hv : Below wr.heap.size wr wv) (ho : wy.ownsRow (w.heap.size + 2) 115 4 b2 X2.length (celC ordE X2)) (hg : wv.grownBy wy b.ownBlock) :
    FSt w D L bv av ov ⟨cl, nx, X2, T, ow⟩ F b2 a o f (wy.setCell ⟨D, 2, none⟩ b2) ∧ wy.cell? ⟨D, 2, none⟩ = some b ∧ wy.frozen? ⟨D, 2, none⟩ = false ∧ D < wy.heap.size := by
  obtain ⟨h1, h2, h3, h4, h5, h6, h7, h8, h9⟩ := h.laidB hv ho hg
  exact ⟨⟨h5, h1, h2, h3, h4, h6, h.lD⟩, h7, h8, h9⟩
theorem PS.laidFA {w wr wv wy : World} {D K : Nat} {L : LaneV} {bv av ov : Value} {x : OrdV} {cl : Bool} {nx : Int} {X T : List OrdV} {ow : List OweV} {X2 : List OrdV} {F : List FillV} {b a o f a2 : Value} (h : PS w D K L bv av ov x ⟨cl, nx, T, X, ow⟩ F b a o f wr) (hv : Below wr.heap.size wr wv) (ho : wy.ownsRow (w.heap.size + 2) 115 4 a2 X2.length (celC ordE X2)) (hg : wv.grownBy wy a.ownBlock) :
    FSt w D L bv av ov ⟨cl, nx, T, X2, ow⟩ F b a2 o f (wy.setCell ⟨D, 3, none⟩ a2) ∧ wy.cell? ⟨D, 3, none⟩ = some a ∧ wy.frozen? ⟨D, 3, none⟩ = false ∧ D < wy.heap.size := by
  obtain ⟨h1, h2, h3, h4, h5, h6, h7, h8, h9⟩ := h.laidA hv ho hg
  exact ⟨⟨h5, h1, h2, h3, h4, h6, h.lD⟩, h7, h8, h9⟩
theorem okO_mono {c d : Nat} {l : List OweV} (h : OkO c l) (hd : c ≤ d) : OkO d l := ⟨by have := h.1; omega, fun y hy => by have := h.2 y hy; omega⟩
theorem trL_ok (s : Int) (x : OrdV) (hx : 0 ≤ x.price ∧ x.price ≤ 1000000) : ∀ (T : List OrdV) (left : Int) (ow : List OweV) (F : List FillV) (c : Nat), OkO c ow → OkT T → (0 ≤ left ∧ left ≤ 1000000) → OkO (c + 3 * T.length) (trL s x T left ow F).2.2.1 ∧ (0 ≤ (trL s x T left ow F).2.1 ∧ (trL s x T left ow F).2.1 ≤ 1000000) ∧ (trL s x T left ow F).2.2.2.length ≤ F.length + T.length ∧ (trL s x T left ow F).1.length ≤ T.length
  | [], left, ow, F, c, h, _, hl => ⟨by simpa [trL] using h, by simpa [trL] using hl, by simp [trL], by simp [trL]⟩
  | r :: rs, left, ow, F, c, h, ht, hl => by
    have hr := ht r (by simp)
    unfold trL
    by_cases hm : 0 < left ∧ meetB s x.price r.price = true
    · rw [if_pos hm]
      have hn : 0 ≤ min left r.left ∧ min left r.left ≤ 1000000 ∧ min left r.left ≤ left := by omega
      have hs := okO_set (s := s) (o := x) (r := r) (n := min left r.left) h (by omega) hx (by omega)
      by_cases h0 : r.left - min left r.left = 0
      · rw [if_pos h0]
        have ih := trL_ok s x hx rs (left - min left r.left) (setO s x r (min left r.left) ow) (F ++ [setF s x r (min left r.left)]) (c + 3) hs (fun q hq => ht q (List.mem_cons_of_mem _ hq)) (by omega)
        rw [List.length_append, List.length_singleton] at ih
        rw [List.length_cons]
        refine ⟨okO_mono ih.1 (by omega), ih.2.1, by omega, by omega⟩
      · rw [if_neg h0]
        simp only [List.length_cons, List.length_append, List.length_nil]
        exact ⟨okO_mono hs (by omega), by omega, by omega, by omega⟩
    · rw [if_neg hm]
      simp only
      exact ⟨okO_mono h (by omega), hl, by omega, by omega⟩
end Go.Proofs.YtiinigifjdpicaaGreatDoor
