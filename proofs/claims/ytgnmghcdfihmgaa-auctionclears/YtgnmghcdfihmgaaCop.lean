/- Copies: slices.Clone, and a book's. -/
import Derived.Test.YtgnmghcdfihmgaaDl
import Derived.Lib.SliceRun
namespace Go.Proofs.Ytgnmghcdfihmgaa
open Go.RowKit
set_option linter.all false
/-- A list behind one of the call's own. -/
theorem appL {α : Type} {k bytes : Nat} {enc : α → List Value} {t e : TypeId} {z : Value} (hk : ∀ x, (enc x).length = k) (h1 : ∀ x, ∀ u ∈ enc x, u.oneCell' = true) (ht : Try.prog.underlying t = some (.slice e))
    (hi : (Try.prog.info? e).map (fun i => (i.zero, i.size, i.bytes)) = some (some z, k, bytes)) (hz : z.cells.size = k) (hk0 : 0 < k) (hb0 : 8 ≤ bytes) (w : World) (B : Nat) (v : Value) (xs l : List α) (b : Addr) (n c : Nat) (hn : n = l.length) (hB : B ≤ w.heap.size)
    (ho : w.ownsRow B e k v xs.length (celC enc xs)) (hg : SGot k bytes enc w (.slice (some b) n c) l) (hl : (xs.length + l.length) * bytes ≤ 140737488355328) :
    ∃ v' w', (Builtin.append_ #[t, t] t #[v, .slice (some b) n c]).run Try.prog w = .ok v' w' ∧ w'.ownsRow B e k v' (xs ++ l).length (celC enc (xs ++ l)) ∧ w.grownBy w' v.ownBlock := by
  subst hn
  obtain ⟨i, hi, hz0, hz1, hz2⟩ := info_parts hi
  have hm : xs.length + l.length ≤ maxLen := by
    have : (xs.length + l.length) * 8 ≤ (xs.length + l.length) * bytes := Nat.mul_le_mul_left _ hb0
    unfold maxLen
    omega
  obtain ⟨h8, a', c', e', _, hr⟩ := hg
  simp only [Value.slice.injEq] at e'
  obtain ⟨v', w', r1, r2, r3, _⟩ := run_append_own (P := Try.prog) w B t t e i _ k bytes ht hi hz0 hz1 hz2 hz hk0 v xs.length (celC enc xs) ho b l.length c (celC enc l) (celC_len hk l) (fun j u hu => by
    have hj := (List.getElem?_eq_some_iff.1 hu).1
    rw [celC_len hk] at hj
    have hp : 0 < l.length := by
      rcases Nat.eq_zero_or_pos l.length with h0 | h0
      · rw [h0] at hj
        omega
      · exact h0
    obtain ⟨b', off, hb, _, hc⟩ := hr hp
    have : b = ⟨b', off, none⟩ := by
      have := e'.1.trans hb
      simpa using this
    rw [this, addN, hc j hj, hu]) (celC_one h1 l) hm hl hB
  refine ⟨v', w', r1, ?_, r3⟩
  rw [List.length_append, celC_app]
  exact r2
set_option maxRecDepth 100000 in
set_option maxHeartbeats 4000000 in
theorem cloneO_is (v : Value) (l : List OrdV) (w : World) (h : Ords w v l) : Calls Try.prog 23 #[v] w fun e w' => ∃ v', e = .returned v' ∧ w'.ownsRow w.heap.size 38 4 v' l.length (celC ordE l) ∧ Below w.heap.size w w' := by
  obtain ⟨a, c, rfl⟩ := h.slice
  have q22 : ∀ (w : World) (a : Option Addr) (n c n' c' : Nat), (binOp .eql 22 (.slice a n c) (.slice none n' c')).run Try.prog w = .ok (.bool a.isNone) w := fun w a n c n' c' => Lib.run_eql_slice_nil w _ _ a n c n' c' Try.underlying22
  cases a with
  | none =>
    have h0 : l.length = 0 := by
      obtain ⟨_, a', c', e', _, hr⟩ := h
      simp only [Value.slice.injEq] at e'
      rcases Nat.eq_zero_or_pos l.length with h0 | h0
      · exact h0
      · obtain ⟨b, off, hb, _⟩ := hr h0
        rw [← e'.1] at hb
        cases hb
    have hl : l = [] := List.length_eq_zero_iff.1 h0
    subst hl
    simp only [List.length_nil]
    clear h h0
    go_enter Try.func23, Try.ntmps23
    go_wp2
    go_ret
    exact ⟨_, rfl, own_nil _ _, Below.refl _ _⟩
  | some b =>
    obtain ⟨v', w', hrun, how, hgr⟩ := appL (enc := ordE) (t := 22) ordK ord1 Try.underlying22 info36 rfl (by omega) (by omega) (w.alloc (.cells #[] 38)) w.heap.size (.slice (some ⟨w.heap.size, 0, none⟩) 0 0) [] l b l.length c rfl (by simp) (World.ownsRow_made w #[] 0 (Nat.le_refl _) (Nat.zero_le _) (by simp)) (h.keep (below1 w _)) (by have := h.1; rw [List.length_nil]; omega)
    rw [List.nil_append] at how
    have HRUN := hideIt hrun
    have HR := hideIt (And.intro how (below_out (below1 w (.cells #[] 38)) (Out.ofGrown (F := fun k => w.heap.size ≤ k) hgr (fun k hk => by simp only [Value.ownBlock, Option.some.injEq] at hk; omega)) (fun _ h => h)))
    clear hrun how hgr h
    generalize l.length = n at *
    obtain ⟨bb, bo, bp⟩ := b
    go_enter Try.func23, Try.ntmps23
    go_wp2_with (at_builtin; refine Lib.wpList_append_run _ rfl _ _ _ _ rfl _ _ rfl rfl _ _ HRUN.out ?_)
    go_ret
    exact ⟨_, rfl, HR.out.1, HR.out.2⟩
set_option maxRecDepth 100000 in
set_option maxHeartbeats 4000000 in
theorem cloneW_is (v : Value) (l : List OweV) (w : World) (h : Owes w v l) : Calls Try.prog 24 #[v] w fun e w' => ∃ v', e = .returned v' ∧ w'.ownsRow w.heap.size 48 3 v' l.length (celC oweE l) ∧ Below w.heap.size w w' := by
  obtain ⟨a, c, rfl⟩ := h.slice
  have q22 : ∀ (w : World) (a : Option Addr) (n c n' c' : Nat), (binOp .eql 23 (.slice a n c) (.slice none n' c')).run Try.prog w = .ok (.bool a.isNone) w := fun w a n c n' c' => Lib.run_eql_slice_nil w _ _ a n c n' c' Try.underlying23
  cases a with
  | none =>
    have h0 : l.length = 0 := by
      obtain ⟨_, a', c', e', _, hr⟩ := h
      simp only [Value.slice.injEq] at e'
      rcases Nat.eq_zero_or_pos l.length with h0 | h0
      · exact h0
      · obtain ⟨b, off, hb, _⟩ := hr h0
        rw [← e'.1] at hb
        cases hb
    have hl : l = [] := List.length_eq_zero_iff.1 h0
    subst hl
    simp only [List.length_nil]
    clear h h0
    go_enter Try.func24, Try.ntmps24
    go_wp2
    go_ret
    exact ⟨_, rfl, own_nil _ _, Below.refl _ _⟩
  | some b =>
    obtain ⟨v', w', hrun, how, hgr⟩ := appL (enc := oweE) (t := 23) oweK owe1 Try.underlying23 info63 rfl (by omega) (by omega) (w.alloc (.cells #[] 48)) w.heap.size (.slice (some ⟨w.heap.size, 0, none⟩) 0 0) [] l b l.length c rfl (by simp) (World.ownsRow_made w #[] 0 (Nat.le_refl _) (Nat.zero_le _) (by simp)) (h.keep (below1 w _)) (by have := h.1; rw [List.length_nil]; omega)
    rw [List.nil_append] at how
    have HRUN := hideIt hrun
    have HR := hideIt (And.intro how (below_out (below1 w (.cells #[] 48)) (Out.ofGrown (F := fun k => w.heap.size ≤ k) hgr (fun k hk => by simp only [Value.ownBlock, Option.some.injEq] at hk; omega)) (fun _ h => h)))
    clear hrun how hgr h
    generalize l.length = n at *
    obtain ⟨bb, bo, bp⟩ := b
    go_enter Try.func24, Try.ntmps24
    go_wp2_with (at_builtin; refine Lib.wpList_append_run _ rfl _ _ _ _ rfl _ _ rfl rfl _ _ HRUN.out ?_)
    go_ret
    exact ⟨_, rfl, HR.out.1, HR.out.2⟩
/-- A book in a box, and the block of what comes back. -/
structure CB (w : World) (L : LaneV) (b a o : Value) (wx : World) : Prop where
  box : wx.heap[w.heap.size]? = some (.cells (laneA L b a o) 25 (0, 0))
  res : wx.heap[w.heap.size + 1]? = some (.cells #[.bool false, .int .i64 0, .slice none 0 0, .slice none 0 0, .slice none 0 0] 25 (0, 0))
  bel : Below w.heap.size w wx
  size : w.heap.size + 2 ≤ wx.heap.size
theorem CB.first (w : World) (L : LaneV) (b a o : Value) : CB w L b a o ((w.alloc (.cells (laneA L b a o) 25)).alloc (.cells #[.bool false, .int .i64 0, .slice none 0 0, .slice none 0 0, .slice none 0 0] 25)) := by
  have h := two_heap w (.cells (laneA L b a o) 25) (.cells #[.bool false, .int .i64 0, .slice none 0 0, .slice none 0 0, .slice none 0 0] 25)
  exact ⟨h.1, h.2.1, below2 w _ _, by omega⟩
theorem CB.keep {w wx wy : World} {L : LaneV} {b a o : Value} (h : CB w L b a o wx) (hb : Below wx.heap.size wx wy) : CB w L b a o wy :=
  ⟨(hb.block _ (by have := h.size; omega)).trans h.box, (hb.block _ (by have := h.size; omega)).trans h.res, below_via h.bel hb, Nat.le_trans h.size hb.size⟩
theorem CB.cells {w wx : World} {L : LaneV} {b a o : Value} (h : CB w L b a o wx) : wx.cell? ⟨w.heap.size, 0, none⟩ = some (.bool L.call) ∧ wx.cell? ⟨w.heap.size, 1, none⟩ = some (.int .i64 L.next) ∧ wx.cell? ⟨w.heap.size, 2, none⟩ = some b ∧ wx.cell? ⟨w.heap.size, 3, none⟩ = some a ∧ wx.cell? ⟨w.heap.size, 4, none⟩ = some o :=
  ⟨by rw [cell_at h.box]; rfl, by rw [cell_at h.box]; rfl, by rw [cell_at h.box]; rfl, by rw [cell_at h.box]; rfl, by rw [cell_at h.box]; rfl⟩
theorem CB.set2 {w wx : World} {L : LaneV} {b a o : Value} (h : CB w L b a o wx) (v : Value) : CB w L v a o (wx.setCell ⟨w.heap.size, 2, none⟩ v) :=
  ⟨heap_set h.box 2 v, setOther _ h.res (by omega), belowSet _ h.bel (Nat.le_refl _), by simpa using h.size⟩
theorem CB.set3 {w wx : World} {L : LaneV} {b a o : Value} (h : CB w L b a o wx) (v : Value) : CB w L b v o (wx.setCell ⟨w.heap.size, 3, none⟩ v) :=
  ⟨heap_set h.box 3 v, setOther _ h.res (by omega), belowSet _ h.bel (Nat.le_refl _), by simpa using h.size⟩
theorem CB.set4 {w wx : World} {L : LaneV} {b a o : Value} (h : CB w L b a o wx) (v : Value) : CB w L b a v (wx.setCell ⟨w.heap.size, 4, none⟩ v) :=
  ⟨heap_set h.box 4 v, setOther _ h.res (by omega), belowSet _ h.bel (Nat.le_refl _), by simpa using h.size⟩
theorem CB.put {w wx : World} {L : LaneV} {b a o : Value} (h : CB w L b a o wx) (v0 v1 v2 v3 v4 : Value) : (((((wx.setCell ⟨w.heap.size + 1, 0, none⟩ v0).setCell ⟨w.heap.size + 1, 1, none⟩ v1).setCell ⟨w.heap.size + 1, 2, none⟩ v2).setCell ⟨w.heap.size + 1, 3, none⟩ v3).setCell ⟨w.heap.size + 1, 4, none⟩ v4).heap[w.heap.size + 1]? = some (.cells #[v0, v1, v2, v3, v4] 25 (0, 0)) ∧ Below w.heap.size w (((((wx.setCell ⟨w.heap.size + 1, 0, none⟩ v0).setCell ⟨w.heap.size + 1, 1, none⟩ v1).setCell ⟨w.heap.size + 1, 2, none⟩ v2).setCell ⟨w.heap.size + 1, 3, none⟩ v3).setCell ⟨w.heap.size + 1, 4, none⟩ v4) := by
  have h0 := heap_set h.res 0 v0
  have h1 := heap_set h0 1 v1
  have h2 := heap_set h1 2 v2
  have h3 := heap_set h2 3 v3
  exact ⟨heap_set h3 4 v4, belowSet _ (belowSet _ (belowSet _ (belowSet _ (belowSet _ h.bel (by omega)) (by omega)) (by omega)) (by omega)) (by omega)⟩
/-- Rows of other types than a book's box stay. -/
theorem own_five {wx : World} {R B : Nat} {e : TypeId} {z n : Nat} {v : Value} {xs : List Value} {cs : Array Value} (ho : wx.ownsRow B e z v n xs) (hd : wx.heap[R]? = some (.cells cs 25 (0, 0))) (hne : e ≠ 25) (v0 v1 v2 v3 v4 : Value) : (((((wx.setCell ⟨R, 0, none⟩ v0).setCell ⟨R, 1, none⟩ v1).setCell ⟨R, 2, none⟩ v2).setCell ⟨R, 3, none⟩ v3).setCell ⟨R, 4, none⟩ v4).ownsRow B e z v n xs :=
  own_cell (own_cell (own_cell (own_cell (own_cell ho hd hne) (heap_set hd 0 v0) hne) (heap_set (heap_set hd 0 v0) 1 v1) hne) (heap_set (heap_set (heap_set hd 0 v0) 1 v1) 2 v2) hne) (heap_set (heap_set (heap_set (heap_set hd 0 v0) 1 v1) 2 v2) 3 v3) hne
/-- A book of the call's own comes back. -/
def LaneBack (L : LaneV) (w : World) (e : Ending) (w' : World) : Prop := ∃ b a o, e = .returned (laneV L b a o) ∧ w'.ownsRow w.heap.size 38 4 b L.bids.length (celC ordE L.bids) ∧ w'.ownsRow w.heap.size 38 4 a L.asks.length (celC ordE L.asks) ∧ w'.ownsRow w.heap.size 48 3 o L.owed.length (celC oweE L.owed) ∧ (b.ownBlock = none ∨ b.ownBlock ≠ a.ownBlock) ∧ Below w.heap.size w w'
end Go.Proofs.Ytgnmghcdfihmgaa
