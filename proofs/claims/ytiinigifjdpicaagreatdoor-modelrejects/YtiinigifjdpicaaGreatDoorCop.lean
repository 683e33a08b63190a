/- Copies: slices.Clone, and a book's. -/
import Derived.Test.YtiinigifjdpicaaGreatDoorDl
import Derived.Lib.SliceRun
namespace Go.Proofs.YtiinigifjdpicaaGreatDoor
open Go.RowKit
set_option linter.all false
/-- A list behind one of the call's own. -/
theorem appL {α : Type} {k bytes : Nat} {enc : α → List Value} {t e : TypeId} {z : Value} (hk : ∀ x, (enc x).length = k) (h1 : ∀ x, ∀ u ∈ enc x, u.oneCell' = true) (ht : Tryz.prog.underlying t = some (.slice e))
    (hi : (Tryz.prog.info? e).map (fun i => (i.zero, i.size, i.bytes)) = some (some z, k, bytes)) (hz : z.cells.size = k) (hk0 : 0 < k) (hb0 : 8 ≤ bytes) (w : World) (B : Nat) (v : Value) (xs l : List α) (b : Addr) (n c : Nat) (hn : n = l.length) (hB : B ≤ w.heap.size)
    (ho : w.ownsRow B e k v xs.length (celC enc xs)) (hg : SGot k bytes enc w (.slice (some b) n c) l) (hl : (xs.length + l.length) * bytes ≤ 140737488355328) :
    ∃ v' w', (Builtin.append_ #[t, t] t #[v, .slice (some b) n c]).run Tryz.prog w = .ok v' w' ∧ w'.ownsRow B e k v' (xs ++ l).length (celC enc (xs ++ l)) ∧ w.grownBy w' v.ownBlock := by
  subst hn
  obtain ⟨i, hi, hz0, hz1, hz2⟩ := info_parts hi
  have hm : xs.length + l.length ≤ maxLen := by
    have : (xs.length + l.length) * 8 ≤ (xs.length + l.length) * bytes := Nat.mul_le_mul_left _ hb0
    unfold maxLen
    omega
  obtain ⟨h8, a', c', e', _, hr⟩ := hg
  simp only [Value.slice.injEq] at e'
  obtain ⟨v', w', r1, r2, r3, _⟩ := run_append_own (P := Tryz.prog) w B t t e i _ k bytes ht hi hz0 hz1 hz2 hz hk0 v xs.length (celC enc xs) ho b l.length c (celC enc l) (celC_len hk l) (fun j u hu => by
    have hj := (List.getElem?_eq_some_iff.1 hu).1
    rw [celC_len hk] at hj
    have hp : 0 < l.length := by
      rcases Nat.eq_zero_or_pos l.length with h0 | h0
      · rw [h0] at hj
        omega
      · exact h0
    obtain ⟨b', off, hb, _, hc⟩ := hr hp
    have : b = ⟨b', off, none⟩ := by
      have := e'.1.trans hb
      simpa using this
    rw [this, addN, hc j hj, hu]) (celC_one h1 l) hm hl hB
  refine ⟨v', w', r1, ?_, r3⟩
  rw [List.length_append, celC_app]
  exact r2
set_option maxRecDepth 100000 in
set_option maxHeartbeats 4000000 in
theorem cloneO_is (v : Value) (l : List OrdV) (w : World) (h : Ords w v l) : Calls Tryz.prog 72 #[v] w fun e w' => ∃ v', e = .returned v' ∧ w'.ownsRow w.heap.size 115 4 v' l.length (celC ordE l) ∧ Below w.heap.size w w' := by
  obtain ⟨a, c, rfl⟩ := h.slice
  have q22 : ∀ (w : World) (a : Option Addr) (n c n' c' : Nat), (binOp .eql 56 (.slice a n c) (.slice none n' c')).run Tryz.prog w = .ok (.bool a.isNone) w := fun w a n c n' c' => Lib.run_eql_slice_nil w _ _ a n c n' c' Tryz.underlying56
  cases a with
  | none =>
    have h0 : l.length = 0 := by
      obtain ⟨_, a', c', e', _, hr⟩ := h
      simp only [Value.slice.injEq] at e'
      rcases Nat.eq_zero_or_pos l.length with h0 | h0
      · exact h0
      · obtain ⟨b, off, hb, _⟩ := hr h0
        rw [← e'.1] at hb
        cases hb
    have hl : l = [] := List.length_eq_zero_iff.1 h0
    subst hl
    simp only [List.length_nil]
    clear h h0
    go_enter Tryz.func72, Tryz.ntmps72
    go_wp2
    go_ret
    exact ⟨_, rfl, own_nil _ _, Below.refl _ _⟩
  | some b =>
    obtain ⟨v', w', hrun, how, hgr⟩ := appL (enc := ordE) (t := 56) ordK ord1 Tryz.underlying56 info36 rfl (by omega) (by omega) (w.alloc (.cells #[] 115)) w.heap.size (.slice (some ⟨w.heap.size, 0, none⟩) 0 0) [] l b l.length c rfl (by simp) (World.ownsRow_made w #[] 0 (Nat.le_refl _) (Nat.zero_le _) (by simp)) (h.keep (below1 w _)) (by have := h.1; rw [List.length_nil]; omega)
    rw [List.nil_append] at how
    have HRUN := hideIt hrun
    have HR := hideIt (And.intro how (below_out (below1 w (.cells #[] 115)) (Out.ofGrown (F := fun k => w.heap.size ≤ k) hgr (fun k hk => by simp only [Value.ownBlock, Option.some.injEq] at hk; omega)) (fun _ h => h)))
    clear hrun how hgr h
    generalize l.length = n at *
    obtain ⟨bb, bo, bp⟩ := b
    go_enter Tryz.func72, Tryz.ntmps72
    go_wp2_with (at_builtin; refine Lib.wpList_append_run _ rfl _ _ _ _ rfl _ _ rfl rfl _ _ HRUN.out ?_)
    go_ret
    exact ⟨_, rfl, HR.out.1, HR.out.2⟩
set_option maxRecDepth 100000 in
set_option maxHeartbeats 4000000 in
theorem cloneW_is (v : Value) (l : List OweV) (w : World) (h : Owes w v l) : Calls Tryz.prog 73 #[v] w fun e w' => ∃ v', e = .returned v' ∧ w'.ownsRow w.heap.size 61 3 v' l.length (celC oweE l) ∧ Below w.heap.size w w' := by
  obtain ⟨a, c, rfl⟩ := h.slice
  have q22 : ∀ (w : World) (a : Option Addr) (n c n' c' : Nat), (binOp .eql 57 (.slice a n c) (.slice none n' c')).run Tryz.prog w = .ok (.bool a.isNone) w := fun w a n c n' c' => Lib.run_eql_slice_nil w _ _ a n c n' c' Tryz.underlying57
  cases a with
  | none =>
    have h0 : l.length = 0 := by
      obtain ⟨_, a', c', e', _, hr⟩ := h
      simp only [Value.slice.injEq] at e'
      rcases Nat.eq_zero_or_pos l.length with h0 | h0
      · exact h0
      · obtain ⟨b, off, hb, _⟩ := hr h0
        rw [← e'.1] at hb
        cases hb
    have hl : l = [] := List.length_eq_zero_iff.1 h0
    subst hl
    simp only [List.length_nil]
    clear h h0
    go_enter Tryz.func73, Tryz.ntmps73
    go_wp2
    go_ret
    exact ⟨_, rfl, own_nil _ _, Below.refl _ _⟩
  | some b =>
    obtain ⟨v', w', hrun, how, hgr⟩ := appL (enc := oweE) (t := 57) oweK owe1 Tryz.underlying57 info63 rfl (by omega) (by omega) (w.alloc (.cells #[] 61)) w.heap.size (.slice (some ⟨w.heap.size, 0, none⟩) 0 0) [] l b l.length c rfl (by simp) (World.ownsRow_made w #[] 0 (Nat.le_refl _) (Nat.zero_le _) (by simp)) (h.keep (below1 w _)) (by have := h.1; rw [List.length_nil]; omega)
    rw [List.nil_append] at how
    have HRUN := hideIt hrun
    have HR := hideIt (And.intro how (below_out (below1 w (.cells #[] 61)) (Out.ofGrown (F := fun k => w.heap.size ≤ k) hgr (fun k hk => by simp only [Value.ownBlock, Option.some.injEq] at hk; omega)) (fun _ h => h)))
    clear hrun how hgr h
    generalize l.length = n at *
    obtain ⟨bb, bo, bp⟩ := b
    go_enter Tryz.func73, Tryz.ntmps73
    go_wp2_with (at_builtin; refine Lib.wpList_append_run _ rfl _ _ _ _ rfl _ _ rfl rfl _ _ HRUN.out ?_)
    go_ret
    exact ⟨_, rfl, HR.out.1, HR.out.2⟩
/-- A book in a box, and the block of what comes back. -/
structure CB (w : World) (L : LaneV) (b a o : Value) (wx : World) : Prop where
  box : wx.heap[w.heap.size]? = some (.cells (laneA L b a o) 59 (0, 0))
  res : wx.heap[w.heap.size + 1]? = some (.cells #[.bool false, .int .i64 0, .slice none 0 0, .slice none 0 0, .slice none 0 0] 59 (0, 0))
  bel : Below w.heap.size w wx
  size : w.heap.size + 2 ≤ wx.heap.size
theorem CB.first (w : World) (L : LaneV) (b a o : Value) : CB w L b a o ((w.alloc (.cells (laneA L b a o) 59)).alloc (.cells #[.bool false, .int .i64 0, .slice none 0 0, .slice none 0 0, .slice none 0 0] 59)) := by
  have h := two_heap w (.cells (laneA L b a o) 59) (.cells #[.bool false, .int .i64 0, .slice none 0 0, .slice none 0 0, .slice none 0 0] 59)
  exact ⟨h.1, h.2.1, below2 w _ _, by omega⟩
theorem CB.keep {w wx wy : World} {L : LaneV} {b a o : Value} (h : CB w L b a o wx) (hb : Below wx.heap.size wx wy) : CB w L b a o wy :=
  ⟨(hb.block _ (by have := h.size; omega)).trans h.box, (hb.block _ (by have := h.size; omega)).trans h.res, below_via h.bel hb, Nat.le_trans h.size hb.size⟩
theorem CB.cells {w wx : World} {L : LaneV} {b a o : Value} (h : CB w L b a o wx) : wx.cell? ⟨w.heap.size, 0, none⟩ = some (.bool L.call) ∧ wx.cell? ⟨w.heap.size, 1, none⟩ = some (.int .i64 L.next) ∧ wx.cell? ⟨w.heap.size, 2, none⟩ = some b ∧ wx.cell? ⟨w.heap.size, 3, none⟩ = some a ∧ wx.cell? ⟨w.heap.size, 4, none⟩ = some o :=
  ⟨by rw [cell_at h.box]; rfl, by rw [cell_at h.box]; rfl, by rw [cell_at h.box]; rfl, by rw [cell_at h.box]; rfl, by rw [cell_at h.box]; rfl⟩
theorem CB.set2 {w wx : World} {L : LaneV} {b a o : Value} (h : CB w L b a o wx) (v : Value) : CB w L v a o (wx.setCell ⟨w.heap.size, 2, none⟩ v) :=
  ⟨heap_set h.box 2 v, setOther _ h.res (by omega), belowSet _ h.bel (Nat.le_refl _), by simpa using h.size⟩
theorem CB.set3 {w wx : World} {L : LaneV} {b a o : Value} (h : CB w L b a o wx) (v : Value) : CB w L b v o (wx.setCell ⟨w.heap.size, 3, none⟩ v) :=
  ⟨heap_set h.box 3 v, setOther _ h.res (by omega), belowSet _ h.bel (Nat.le_refl _), by simpa using h.size⟩
theorem CB.set4 {w wx : World} {L : LaneV} {b a o : Value} (h : CB w L b a o wx) (v : Value) : CB w L b a v (wx.setCell ⟨w.heap.size, 4, none⟩ v) :=
  ⟨heap_set h.box 4 v, setOther _ h.res (by omega), belowSet _ h.bel (Nat.le_refl _), by simpa using h.size⟩
theorem CB.put {w wx : World} {L : LaneV} {b a o : Value} (h : CB w L b a o wx) (v0 v1 v2 v3 v4 : Value) : (((((wx.setCell ⟨w.heap.size + 1, 0, none⟩ v0).setCell ⟨w.heap.size + 1, 1, none⟩ v1).setCell ⟨w.heap.size + 1, 2, none⟩ v2).setCell ⟨w.heap.size + 1, 3, none⟩ v3).setCell ⟨w.heap.size + 1, 4, none⟩ v4).heap[w.heap.size + 1]? = some (.cells #[v0, v1, v2, v3, v4] 59 (0, 0)) ∧ Below w.heap.size w (((((wx.setCell ⟨w.heap.size + 1, 0, none⟩ v0).setCell ⟨w.heap.size + 1, 1, none⟩ v1).setCell ⟨w.heap.size + 1, 2, none⟩ v2).setCell ⟨w.heap.size + 1, 3, none⟩ v3).setCell ⟨w.heap.size + 1, 4, none⟩ v4) := by
  have h0 := heap_set h.res 0 v0
  have h1 := heap_set h0 1 v1
  have h2 := heap_set h1 2 v2
  have h3 := heap_set h2 3 v3
  exact ⟨heap_set h3 4 v4, belowSet _ (belowSet _ (belowSet _ (belowSet _ (belowSet _ h.bel (by omega)) (by omega)) (by omega)) (by omega)) (by omega)⟩
/-- Rows of other types than a book's box stay. -/
theorem own_five {wx : World} {R B : Nat} {e : TypeId} {z n : Nat} {v : Value} {xs : List Value} {cs : Array Value} (ho : wx.ownsRow B e z v n xs) (hd : wx.heap[R]? = some (.cells cs 59 (0, 0))) (hne : e ≠ 59) (v0 v1 v2 v3 v4 : Value) : (((((wx.setCell ⟨R, 0, none⟩ v0).setCell ⟨R, 1, none⟩ v1).setCell ⟨R, 2, none⟩ v2).setCell ⟨R, 3, none⟩ v3).setCell ⟨R, 4, none⟩ v4).ownsRow B e z v n xs :=
  own_cell (own_cell (own_cell (own_cell (own_cell ho hd hne) (heap_set hd 0 v0) hne) (heap_set (heap_set hd 0 v0) 1 v1) hne) (heap_set (heap_set (heap_set hd 0 v0) 1 v1) 2 v2) hne) (heap_set (heap_set (heap_set (heap_set hd 0 v0) 1 v1) 2 v2) 3 v3) hne
/-- A book of the call's own comes back. -/
def LaneBack (L : LaneV) (w : World) (e : Ending) (w' : World) : Prop := ∃ b a o, e = .returned (laneV L b a o) ∧ w'.ownsRow w.heap.size 115 4 b L.bids.length (celC ordE L.bids) ∧ w'.ownsRow w.heap.size 115 4 a L.asks.length (celC ordE L.asks) ∧ w'.ownsRow w.heap.size 61 3 o L.owed.length (celC oweE L.owed) ∧ (b.ownBlock = none ∨ b.ownBlock ≠ a.ownBlock) ∧ Below w.heap.size w w'
set_option maxHeartbeats 8000000 in
set_option maxRecDepth 100000 in
theorem copied_is (L : LaneV) (b a o : Value) (w : World) (h : Lan w L b a o) : Calls Tryz.prog 111 #[laneV L b a o] w (LaneBack L w) := by
  have X0 := hideIt (CB.first w L b a o)
  have H1 := hideIt (fun W (hW : Below w.heap.size w W) => cloneO_is b L.bids W (h.keep hW).bids)
  have H2 := hideIt (fun W (hW : Below w.heap.size w W) => cloneO_is a L.asks W (h.keep hW).asks)
  have H3 := hideIt (fun W (hW : Below w.heap.size w W) => cloneW_is o L.owed W (h.keep hW).owed)
  unfold LaneBack
  obtain ⟨ba, bc, rfl⟩ := h.bids.slice
  obtain ⟨aa, ac, rfl⟩ := h.asks.slice
  obtain ⟨oa, oc, rfl⟩ := h.owed.slice
  clear h
  unfold laneV laneA at *
  obtain ⟨cl, nx, bids, asks, owed⟩ := L
  simp only at *
  go_enter Tryz.func111, Tryz.ntmps111
  go_upto_region 1 with fail
  generalize (w.alloc (.cells #[.bool cl, .int .i64 nx, .slice ba bids.length bc, .slice aa asks.length ac, .slice oa owed.length oc] 59)).alloc (.cells #[.bool false, .int .i64 0, .slice none 0 0, .slice none 0 0, .slice none 0 0] 59) = w0 at *
  obtain ⟨c0, c1, c2, c3, c4⟩ := X0.out.cells
  simp only at c0 c1 c2 c3 c4
  go_wp2_with fail
  refine (H1.out _ X0.out.bel).mono ?_
  rintro e w1 ⟨b1, rfl, ho, hb⟩
  dsimp only
  obtain ⟨b1a, b1c, rfl⟩ := own_len ho
  have X1 := hideIt ((X0.out.keep hb).set2 (.slice b1a bids.length b1c))
  have O1 := hideIt (own_base (own_cell (j := 2) (u := .slice b1a bids.length b1c) ho (X0.out.keep hb).box (by decide)) (Nat.le_trans (Nat.le_add_right w.heap.size 2) X0.out.size))
  have fz : w1.frozen? ⟨w.heap.size, 2, none⟩ = false := free_at (X0.out.keep hb).box 2
  have k2 : w1.cell? ⟨w.heap.size, 2, none⟩ = some (.slice ba bids.length bc) := (X0.out.keep hb).cells.2.2.1
  clear ho hb H1 c0 c1 c2 c3 c4 X0
  go_upto_region 2 with fail
  clear fz k2
  generalize w1.setCell ⟨w.heap.size, 2, none⟩ (.slice b1a bids.length b1c) = w2 at *
  have K2 := hideIt (O1.out.lt)
  obtain ⟨c0, c1, c2, c3, c4⟩ := X1.out.cells
  simp only at c0 c1 c2 c3 c4
  go_wp2_with fail
  refine (H2.out _ X1.out.bel).mono ?_
  rintro e w3 ⟨a1, rfl, ho, hb⟩
  dsimp only
  obtain ⟨a1a, a1c, rfl⟩ := own_len ho
  have SP : Hid ((Value.slice b1a bids.length b1c).ownBlock = none ∨ (Value.slice b1a bids.length b1c).ownBlock ≠ (Value.slice a1a asks.length a1c).ownBlock) := by
    cases hq : (Value.slice b1a bids.length b1c).ownBlock with
    | none => exact .inl rfl
    | some q =>
      refine .inr (fun e => ?_)
      have h1 := K2.out q hq
      have h2 := ho.lt q e.symm
      omega
  have X3 := hideIt ((X1.out.keep hb).set3 (.slice a1a asks.length a1c))
  have O3 := hideIt (own_cell (j := 3) (u := .slice a1a asks.length a1c) (own_keep O1.out hb) (X1.out.keep hb).box (by decide))
  have A3 := hideIt (own_base (own_cell (j := 3) (u := .slice a1a asks.length a1c) ho (X1.out.keep hb).box (by decide)) (Nat.le_trans (Nat.le_add_right w.heap.size 2) X1.out.size))
  have fz : w3.frozen? ⟨w.heap.size, 3, none⟩ = false := free_at (X1.out.keep hb).box 3
  have k2 : w3.cell? ⟨w.heap.size, 3, none⟩ = some (.slice aa asks.length ac) := (X1.out.keep hb).cells.2.2.2.1
  clear ho hb H2 c0 c1 c2 c3 c4 X1 O1 K2
  go_upto_region 3 with fail
  clear fz k2
  generalize w3.setCell ⟨w.heap.size, 3, none⟩ (.slice a1a asks.length a1c) = w4 at *
  obtain ⟨c0, c1, c2, c3, c4⟩ := X3.out.cells
  simp only at c0 c1 c2 c3 c4
  go_wp2_with fail
  refine (H3.out _ X3.out.bel).mono ?_
  rintro e w5 ⟨o1, rfl, ho, hb⟩
  dsimp only
  obtain ⟨o1a, o1c, rfl⟩ := own_len ho
  have X5 := hideIt ((X3.out.keep hb).set4 (.slice o1a owed.length o1c))
  have O5 := hideIt (own_cell (j := 4) (u := .slice o1a owed.length o1c) (own_keep O3.out hb) (X3.out.keep hb).box (by decide))
  have A5 := hideIt (own_cell (j := 4) (u := .slice o1a owed.length o1c) (own_keep A3.out hb) (X3.out.keep hb).box (by decide))
  have W5 := hideIt (own_base (own_cell (j := 4) (u := .slice o1a owed.length o1c) ho (X3.out.keep hb).box (by decide)) (Nat.le_trans (Nat.le_add_right w.heap.size 2) X3.out.size))
  have fz : w5.frozen? ⟨w.heap.size, 4, none⟩ = false := free_at (X3.out.keep hb).box 4
  have k2 : w5.cell? ⟨w.heap.size, 4, none⟩ = some (.slice oa owed.length oc) := (X3.out.keep hb).cells.2.2.2.2
  clear ho hb H3 c0 c1 c2 c3 c4 X3 O3 A3
  go_upto_region 4 with fail
  clear fz k2
  generalize w5.setCell ⟨w.heap.size, 4, none⟩ (.slice o1a owed.length o1c) = w6 at *
  obtain ⟨c0, c1, c2, c3, c4⟩ := X5.out.cells
  simp only at c0 c1 c2 c3 c4
  have z0 : w6.cell? ⟨w.heap.size + 1, 0, none⟩ = some (.bool false) := by rw [cell_at X5.out.res]; rfl
  have z1 : w6.cell? ⟨w.heap.size + 1, 1, none⟩ = some (.int .i64 0) := by rw [cell_at X5.out.res]; rfl
  have z2 : w6.cell? ⟨w.heap.size + 1, 2, none⟩ = some (.slice none 0 0) := by rw [cell_at X5.out.res]; rfl
  have z3 : w6.cell? ⟨w.heap.size + 1, 3, none⟩ = some (.slice none 0 0) := by rw [cell_at X5.out.res]; rfl
  have z4 : w6.cell? ⟨w.heap.size + 1, 4, none⟩ = some (.slice none 0 0) := by rw [cell_at X5.out.res]; rfl
  have zf : ∀ j, w6.frozen? ⟨w.heap.size + 1, j, none⟩ = false := fun j => free_at X5.out.res j
  have HP := hideIt (X5.out.put (.bool cl) (.int .i64 nx) (.slice b1a bids.length b1c) (.slice a1a asks.length a1c) (.slice o1a owed.length o1c))
  have HO := hideIt (own_five O5.out X5.out.res (by decide) (.bool cl) (.int .i64 nx) (.slice b1a bids.length b1c) (.slice a1a asks.length a1c) (.slice o1a owed.length o1c))
  have HA := hideIt (own_five A5.out X5.out.res (by decide) (.bool cl) (.int .i64 nx) (.slice b1a bids.length b1c) (.slice a1a asks.length a1c) (.slice o1a owed.length o1c))
  have HW := hideIt (own_five W5.out X5.out.res (by decide) (.bool cl) (.int .i64 nx) (.slice b1a bids.length b1c) (.slice a1a asks.length a1c) (.slice o1a owed.length o1c))
  clear X5 O5 A5 W5
  go_wp2
  revert HP HO HA HW
  generalize (World.setCell _ ⟨w.heap.size + 1, 4, none⟩ _) = W
  intro HP HO HA HW
  exact bodyPost_ret (v := laneV ⟨cl, nx, bids, asks, owed⟩ (.slice b1a bids.length b1c) (.slice a1a asks.length a1c) (.slice o1a owed.length o1c)) (by simp [results, Tryz.results111, go_sem, cell_at HP.out.1, laneV, laneA]) rfl ⟨_, _, _, rfl, HO.out, HA.out, HW.out, SP.out, HP.out.2⟩
end Go.Proofs.YtiinigifjdpicaaGreatDoor
