/- The document's copy of a book. -/
import Derived.Test.YtgnmghcdfihmgaaCop
namespace Go.Proofs.Ytgnmghcdfihmgaa
open Go.RowKit
set_option linter.all false
theorem app_none {t e : TypeId} {z : Value} {k bytes : Nat} (ht : Try.prog.underlying t = some (.slice e)) (hi : (Try.prog.info? e).map (fun i => (i.zero, i.size, i.bytes)) = some (some z, k, bytes)) (w : World) (B : Nat) (v : Value) (n : Nat) (xs : List Value) (hown : w.ownsRow B e k v n xs) (c : Nat) : (Builtin.append_ #[t, t] t #[v, .slice none 0 c]).run Try.prog w = .ok v w := by
  obtain ⟨i, hi, hz0, hz1, hz2⟩ := info_parts hi
  rcases hown.2 with ⟨rfl, rfl⟩ | ⟨g, cap, cur, rfl, _, _, hnc, _⟩
  · simp [Builtin.append_, run_underlying ht, sizeOf, typeInfo, hi, Builtin.lenOf, Builtin.firstCells]
  · simp [Builtin.append_, run_underlying ht, sizeOf, typeInfo, hi, Builtin.lenOf, Builtin.firstCells, hnc, storeCells]
/-- Whatever list behind nothing. -/
theorem app0 {α : Type} {k bytes : Nat} {enc : α → List Value} {t e : TypeId} {z : Value} (hk : ∀ x, (enc x).length = k) (h1 : ∀ x, ∀ u ∈ enc x, u.oneCell' = true) (ht : Try.prog.underlying t = some (.slice e))
    (hi : (Try.prog.info? e).map (fun i => (i.zero, i.size, i.bytes)) = some (some z, k, bytes)) (hz : z.cells.size = k) (hk0 : 0 < k) (hb0 : 8 ≤ bytes) (w : World) (g : Value) (l : List α) (hg : SGot k bytes enc w g l) :
    ∃ a' c' w', (Builtin.append_ #[t, t] t #[.slice none 0 0, g]).run Try.prog w = .ok (.slice a' l.length c') w' ∧ w'.ownsRow w.heap.size e k (.slice a' l.length c') l.length (celC enc l) ∧ Below w.heap.size w w' := by
  obtain ⟨a, c, rfl⟩ := hg.slice
  cases a with
  | none =>
    have h0 : l.length = 0 := by
      obtain ⟨_, a', c', e', _, hr⟩ := hg
      simp only [Value.slice.injEq] at e'
      rcases Nat.eq_zero_or_pos l.length with h0 | h0
      · exact h0
      · obtain ⟨b, off, hb, _⟩ := hr h0
        rw [← e'.1] at hb
        cases hb
    have hl0 : l = [] := List.length_eq_zero_iff.1 h0
    subst hl0
    exact ⟨none, 0, w, app_none ht hi w w.heap.size _ 0 [] (own_nil _ _) c, own_nil _ _, Below.refl _ _⟩
  | some b =>
    obtain ⟨v', w', hrun, how, hgr⟩ := appL hk h1 ht hi hz hk0 hb0 w w.heap.size (.slice none 0 0) [] l b l.length c rfl (Nat.le_refl _) (own_nil _ _) hg (by have := hg.1; simpa using this)
    rw [List.nil_append] at how
    obtain ⟨a', c', rfl⟩ := own_len how
    refine ⟨a', c', w', hrun, how, (Out.ofGrown (F := fun _ => False) hgr (fun k h => by cases h)).below (Nat.le_refl _) (fun _ h => h.elim)⟩
/-- A book in a box, the result's block, the copy's. -/
structure CC (w : World) (L : LaneV) (b a o X Y Z : Value) (W : World) : Prop where
  box : W.heap[w.heap.size]? = some (.cells (laneA L b a o) 25 (0, 0))
  res : W.heap[w.heap.size + 1]? = some (.cells #[.bool false, .int .i64 0, .slice none 0 0, .slice none 0 0, .slice none 0 0] 25 (0, 0))
  out : W.heap[w.heap.size + 2]? = some (.cells #[.bool L.call, .int .i64 L.next, X, Y, Z] 25 (0, 0))
  bel : Below w.heap.size w W
theorem CC.first (w : World) (L : LaneV) (b a o : Value) : CC w L b a o (.slice none 0 0) (.slice none 0 0) (.slice none 0 0) (((w.alloc (.cells (laneA L b a o) 25)).alloc (.cells #[.bool false, .int .i64 0, .slice none 0 0, .slice none 0 0, .slice none 0 0] 25)).alloc (.cells #[.bool L.call, .int .i64 L.next, .slice none 0 0, .slice none 0 0, .slice none 0 0] 25)) := by
  have ht := two_heap w (.cells (laneA L b a o) 25) (.cells #[.bool false, .int .i64 0, .slice none 0 0, .slice none 0 0, .slice none 0 0] 25)
  have hb := below1 ((w.alloc (.cells (laneA L b a o) 25)).alloc (.cells #[.bool false, .int .i64 0, .slice none 0 0, .slice none 0 0, .slice none 0 0] 25)) (.cells #[.bool L.call, .int .i64 L.next, .slice none 0 0, .slice none 0 0, .slice none 0 0] 25)
  refine ⟨(hb.block _ (by rw [ht.2.2]; omega)).trans ht.1, (hb.block _ (by rw [ht.2.2]; omega)).trans ht.2.1, ?_, below_via (below2 w _ _) hb⟩
  have := heap_alloc_new ((w.alloc (.cells (laneA L b a o) 25)).alloc (.cells #[.bool false, .int .i64 0, .slice none 0 0, .slice none 0 0, .slice none 0 0] 25)) (.cells #[.bool L.call, .int .i64 L.next, .slice none 0 0, .slice none 0 0, .slice none 0 0] 25)
  rwa [ht.2.2] at this
theorem CC.keep {w W W' : World} {L : LaneV} {b a o X Y Z : Value} (h : CC w L b a o X Y Z W) (hb : Below W.heap.size W W') : CC w L b a o X Y Z W' :=
  ⟨(hb.block _ (Array.getElem?_eq_some_iff.1 h.box).1).trans h.box, (hb.block _ (Array.getElem?_eq_some_iff.1 h.res).1).trans h.res, (hb.block _ (Array.getElem?_eq_some_iff.1 h.out).1).trans h.out, below_via h.bel hb⟩
theorem CC.x {w W : World} {L : LaneV} {b a o X Y Z : Value} (h : CC w L b a o X Y Z W) (v : Value) : CC w L b a o v Y Z (W.setCell ⟨w.heap.size + 2, 2, none⟩ v) :=
  ⟨setOther _ h.box (by omega), setOther _ h.res (by omega), heap_set h.out 2 v, belowSet _ h.bel (by omega)⟩
theorem CC.y {w W : World} {L : LaneV} {b a o X Y Z : Value} (h : CC w L b a o X Y Z W) (v : Value) : CC w L b a o X v Z (W.setCell ⟨w.heap.size + 2, 3, none⟩ v) :=
  ⟨setOther _ h.box (by omega), setOther _ h.res (by omega), heap_set h.out 3 v, belowSet _ h.bel (by omega)⟩
theorem CC.z {w W : World} {L : LaneV} {b a o X Y Z : Value} (h : CC w L b a o X Y Z W) (v : Value) : CC w L b a o X Y v (W.setCell ⟨w.heap.size + 2, 4, none⟩ v) :=
  ⟨setOther _ h.box (by omega), setOther _ h.res (by omega), heap_set h.out 4 v, belowSet _ h.bel (by omega)⟩
theorem five_at {w : World} {p : Nat} {t : TypeId} {a b c d e : Value} (h : w.heap[p]? = some (.cells #[a, b, c, d, e] t (0, 0))) : (w.cell? ⟨p, 0, none⟩ = some a ∧ w.cell? ⟨p, 1, none⟩ = some b ∧ w.cell? ⟨p, 2, none⟩ = some c ∧ w.cell? ⟨p, 3, none⟩ = some d ∧ w.cell? ⟨p, 4, none⟩ = some e) ∧ (∀ j, w.frozen? ⟨p, j, none⟩ = false) ∧ p < w.heap.size :=
  ⟨⟨by rw [cell_at h]; rfl, by rw [cell_at h]; rfl, by rw [cell_at h]; rfl, by rw [cell_at h]; rfl, by rw [cell_at h]; rfl⟩, fun j => free_at h j, (Array.getElem?_eq_some_iff.1 h).1⟩
set_option maxHeartbeats 8000000 in
set_option maxRecDepth 100000 in
theorem rCopy_is (L : LaneV) (b a o : Value) (w : World) (h : Lan w L b a o) : Calls Try.prog 17 #[laneV L b a o] w (LaneBack L w) := by
  have X0 := hideIt (CC.first w L b a o)
  have H := hideIt h
  obtain ⟨ba, bc, rfl⟩ := h.bids.slice
  obtain ⟨aa, ac, rfl⟩ := h.asks.slice
  obtain ⟨oa, oc, rfl⟩ := h.owed.slice
  clear h
  unfold laneV
  unfold laneA at *
  obtain ⟨cl, nx, bids, asks, owed⟩ := L
  simp only at *
  go_enter Try.func17, Try.ntmps17
  go_upto_region 2 with fail
  generalize ((w.alloc (.cells #[.bool cl, .int .i64 nx, .slice ba bids.length bc, .slice aa asks.length ac, .slice oa owed.length oc] 25)).alloc (.cells #[.bool false, .int .i64 0, .slice none 0 0, .slice none 0 0, .slice none 0 0] 25)).alloc (.cells #[.bool cl, .int .i64 nx, .slice none 0 0, .slice none 0 0, .slice none 0 0] 25) = W0 at *
  obtain ⟨xa, xc, w1, hrun, ho, hb⟩ := app0 (enc := ordE) (t := 22) ordK ord1 Try.underlying22 info36 rfl (by omega) (by omega) W0 _ _ (H.out.keep X0.out.bel).bids
  have HRUN := hideIt hrun
  have K1 := hideIt (X0.out.keep hb)
  have X1 := hideIt (K1.out.x (.slice xa bids.length xc))
  have S0 := hideIt X0.out.bel.size
  have B1 := hideIt (own_base (own_cell (j := 2) (u := .slice xa bids.length xc) ho K1.out.out (by decide)) S0.out)
  obtain ⟨⟨c0, c1, c2, c3, c4⟩, -, cl0⟩ := five_at X0.out.box
  obtain ⟨⟨d0, d1, d2, d3, d4⟩, df, dl⟩ := five_at (p := w.heap.size + 1 + 1) X0.out.out
  obtain ⟨⟨e0, e1, e2, e3, e4⟩, ef, el⟩ := five_at (p := w.heap.size + 1 + 1) K1.out.out
  clear hrun ho hb
  go_upto_region 3 with (at_builtin; refine Lib.wpList_append_run _ rfl _ _ _ _ rfl _ _ rfl rfl _ _ HRUN.out ?_)
  clear c0 c1 c2 c3 c4 cl0 d0 d1 d2 d3 d4 df dl e0 e1 e2 e3 e4 ef el HRUN K1 X0 S0
  show Code.wp _ _ _ _ (w1.setCell ⟨w.heap.size + 2, 2, none⟩ (.slice xa bids.length xc))
  generalize w1.setCell ⟨w.heap.size + 2, 2, none⟩ (.slice xa bids.length xc) = W1 at *
  obtain ⟨ya, yc, w2, hrun, ho, hb⟩ := app0 (enc := ordE) (t := 22) ordK ord1 Try.underlying22 info36 rfl (by omega) (by omega) W1 _ _ (H.out.keep X1.out.bel).asks
  have HRUN := hideIt hrun
  have K1 := hideIt (X1.out.keep hb)
  have X2 := hideIt (K1.out.y (.slice ya asks.length yc))
  have S0 := hideIt X1.out.bel.size
  have SP : Hid ((Value.slice xa bids.length xc).ownBlock = none ∨ (Value.slice xa bids.length xc).ownBlock ≠ (Value.slice ya asks.length yc).ownBlock) := by
    cases hq : (Value.slice xa bids.length xc).ownBlock with
    | none => exact .inl rfl
    | some q =>
      refine .inr (fun e => ?_)
      have h1 := B1.out.lt q hq
      have h2 := ho.lt q e.symm
      omega
  have B2 := hideIt (own_cell (j := 3) (u := .slice ya asks.length yc) (own_keep B1.out hb) K1.out.out (by decide))
  have A2 := hideIt (own_base (own_cell (j := 3) (u := .slice ya asks.length yc) ho K1.out.out (by decide)) S0.out)
  obtain ⟨⟨c0, c1, c2, c3, c4⟩, -, cl0⟩ := five_at X1.out.box
  obtain ⟨⟨d0, d1, d2, d3, d4⟩, df, dl⟩ := five_at (p := w.heap.size + 1 + 1) X1.out.out
  obtain ⟨⟨e0, e1, e2, e3, e4⟩, ef, el⟩ := five_at (p := w.heap.size + 1 + 1) K1.out.out
  clear hrun ho hb B1
  go_upto_region 4 with (at_builtin; refine Lib.wpList_append_run _ rfl _ _ _ _ rfl _ _ rfl rfl _ _ HRUN.out ?_)
  clear c0 c1 c2 c3 c4 cl0 d0 d1 d2 d3 d4 df dl e0 e1 e2 e3 e4 ef el HRUN K1 X1 S0
  show Code.wp _ _ _ _ (w2.setCell ⟨w.heap.size + 2, 3, none⟩ (.slice ya asks.length yc))
  generalize w2.setCell ⟨w.heap.size + 2, 3, none⟩ (.slice ya asks.length yc) = W2 at *
  obtain ⟨za, zc, w3, hrun, ho, hb⟩ := app0 (enc := oweE) (t := 23) oweK owe1 Try.underlying23 info63 rfl (by omega) (by omega) W2 _ _ (H.out.keep X2.out.bel).owed
  have HRUN := hideIt hrun
  have K1 := hideIt (X2.out.keep hb)
  have X3 := hideIt (K1.out.z (.slice za owed.length zc))
  have S0 := hideIt X2.out.bel.size
  have B3 := hideIt (own_cell (j := 4) (u := .slice za owed.length zc) (own_keep B2.out hb) K1.out.out (by decide))
  have A3 := hideIt (own_cell (j := 4) (u := .slice za owed.length zc) (own_keep A2.out hb) K1.out.out (by decide))
  have O3 := hideIt (own_base (own_cell (j := 4) (u := .slice za owed.length zc) ho K1.out.out (by decide)) S0.out)
  obtain ⟨⟨c0, c1, c2, c3, c4⟩, -, cl0⟩ := five_at X2.out.box
  obtain ⟨⟨d0, d1, d2, d3, d4⟩, df, dl⟩ := five_at (p := w.heap.size + 1 + 1) X2.out.out
  obtain ⟨⟨e0, e1, e2, e3, e4⟩, ef, el⟩ := five_at (p := w.heap.size + 1 + 1) K1.out.out
  clear hrun ho hb B2 A2
  go_upto_region 5 with (at_builtin; refine Lib.wpList_append_run _ rfl _ _ _ _ rfl _ _ rfl rfl _ _ HRUN.out ?_)
  clear c0 c1 c2 c3 c4 cl0 d0 d1 d2 d3 d4 df dl e0 e1 e2 e3 e4 ef el HRUN K1 X2 S0
  show Code.wp _ _ _ _ (w3.setCell ⟨w.heap.size + 2, 4, none⟩ (.slice za owed.length zc))
  generalize w3.setCell ⟨w.heap.size + 2, 4, none⟩ (.slice za owed.length zc) = W3 at *
  obtain ⟨⟨d0, d1, d2, d3, d4⟩, df, dl⟩ := five_at (p := w.heap.size + 1 + 1) X3.out.out
  obtain ⟨⟨e0, e1, e2, e3, e4⟩, ef, el⟩ := five_at X3.out.res
  have HP := hideIt (CB.put (w := w) (wx := W3) (L := ⟨cl, nx, bids, asks, owed⟩) (b := .slice ba bids.length bc) (a := .slice aa asks.length ac) (o := .slice oa owed.length oc) ⟨X3.out.box, X3.out.res, X3.out.bel, by have := (Array.getElem?_eq_some_iff.1 X3.out.out).1; omega⟩ (.bool cl) (.int .i64 nx) (.slice xa bids.length xc) (.slice ya asks.length yc) (.slice za owed.length zc))
  have HO := hideIt (own_five B3.out X3.out.res (by decide) (.bool cl) (.int .i64 nx) (.slice xa bids.length xc) (.slice ya asks.length yc) (.slice za owed.length zc))
  have HA := hideIt (own_five A3.out X3.out.res (by decide) (.bool cl) (.int .i64 nx) (.slice xa bids.length xc) (.slice ya asks.length yc) (.slice za owed.length zc))
  have HW := hideIt (own_five O3.out X3.out.res (by decide) (.bool cl) (.int .i64 nx) (.slice xa bids.length xc) (.slice ya asks.length yc) (.slice za owed.length zc))
  clear X3 B3 A3 O3
  go_wp2
  revert HP HO HA HW
  generalize (World.setCell _ ⟨w.heap.size + 1, 4, none⟩ _) = W
  intro HP HO HA HW
  exact bodyPost_ret (v := laneV ⟨cl, nx, bids, asks, owed⟩ (.slice xa bids.length xc) (.slice ya asks.length yc) (.slice za owed.length zc)) (by simp [results, Try.results17, go_sem, cell_at HP.out.1, laneV, laneA]) rfl ⟨_, _, _, rfl, HO.out, HA.out, HW.out, SP.out, HP.out.2⟩
end Go.Proofs.Ytgnmghcdfihmgaa
