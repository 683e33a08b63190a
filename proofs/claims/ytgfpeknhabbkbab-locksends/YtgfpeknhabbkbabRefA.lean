/- The document's own: copies, holders, who waits. -/
import Derived.Test.YtgfpeknhabbkbabAskP
namespace Go.Proofs.Ytgfpeknhabbkbab
open Go.RowKit
set_option linter.all false
theorem run_app_none (w : World) (B : Nat) (v : Value) (n : Nat) (xs : List Value) (hown : w.ownsRow B 34 4 v n xs) (c : Nat) : (Builtin.append_ #[23, 23] 23 #[v, .slice none 0 c]).run Try.prog w = .ok v w := by
  obtain ⟨i, hi, hz0, hz1, hz2⟩ := info_parts info44
  have ht : Try.prog.underlying 23 = some (.slice 34) := Try.underlying23
  rcases hown.2 with ⟨rfl, rfl⟩ | ⟨g, cap, cur, rfl, _, _, hnc, _⟩
  · simp [Builtin.append_, run_underlying ht, sizeOf, typeInfo, hi, Builtin.lenOf, Builtin.firstCells]
  · simp [Builtin.append_, run_underlying ht, sizeOf, typeInfo, hi, Builtin.lenOf, Builtin.firstCells, hnc, storeCells]
/-- A list behind nothing. -/
theorem app0 (w : World) (g : Value) (l : List HoldV) (hg : Hols w g l) : ∃ v' w', (Builtin.append_ #[23, 23] 23 #[.slice none 0 0, g]).run Try.prog w = .ok v' w' ∧ CS w l v' w' := by
  have hg0 := hg
  obtain ⟨h8, a, c, rfl, _, hr⟩ := hg
  cases a with
  | none =>
    have h0 : l.length = 0 := by
      rcases Nat.eq_zero_or_pos l.length with h0 | h0
      · exact h0
      · obtain ⟨b, off, hb, _⟩ := hr h0
        cases hb
    rw [h0]
    refine ⟨_, w, run_app_none w w.heap.size _ 0 [] (own_nil _ _) c, ⟨?_, Below.refl _ _⟩⟩
    rw [List.length_eq_zero_iff] at h0
    subst h0
    exact own_nil _ _
  | some b =>
    obtain ⟨v', w', h1, h2, h3⟩ := appL (enc := holE) (t := 23) holK hol1 Try.underlying23 info44 rfl (by omega) (by omega) w w.heap.size (.slice none 0 0) [] l b l.length c rfl (Nat.le_refl _) (own_nil _ _) hg0 (by simpa using h8)
    exact ⟨v', w', h1, ⟨by simpa using h2, grown_none h3⟩⟩
def CopyBack (T : TabV) (w : World) (e : Ending) (w' : World) : Prop := ∃ h v, e = .returned (.agg #[h, v]) ∧ TabOwn w.heap.size T h v w' ∧ (h.ownBlock = none ∨ h.ownBlock ≠ v.ownBlock) ∧ Below w.heap.size w w'
set_option maxHeartbeats 8000000 in
set_option maxRecDepth 100000 in
theorem rCopy_is (T : TabV) (h v : Value) (w : World) (hT : Tab w T h v) : Calls Try.prog 13 #[.agg #[h, v]] w (CopyBack T w) := by
  have hx := Bx.first w [.cells #[h, v] 25, .cells #[.slice none 0 0, .slice none 0 0] 25, .cells #[.slice none 0 0, .slice none 0 0] 25]
  simp only [List.foldl_cons, List.foldl_nil] at hx
  obtain ⟨h1, w4, hr1, c1⟩ := app0 _ h T.held (hT.keep hx.bel).held
  have hx4 := hx.keep c1.bel
  have hb4 : w4.heap[w.heap.size + 2]? = some (.cells #[.slice none 0 0, .slice none 0 0] 25 (0, 0)) := hx4.at_ 2 (by simp)
  have hs4 := hx4.size
  simp only [List.length_cons, List.length_nil] at hs4
  have o5 : TabOwn w.heap.size ⟨T.held, []⟩ h1 (.slice none 0 0) (w4.setCell ⟨w.heap.size + 2, 0, none⟩ h1) := ⟨own_base (own_cell c1.own hb4 (by decide)) (by have := hx.bel.size; omega), own_nil _ _⟩
  have hT5 : Hols (w4.setCell ⟨w.heap.size + 2, 0, none⟩ h1) v T.wait := by
    have hq := (hT.keep hx4.bel).wait
    obtain ⟨h8, a, c, e, hcc, hr⟩ := hT.wait
    refine ⟨h8, a, c, e, hcc, fun hp => ?_⟩
    obtain ⟨b, off, e2, hlt, hc⟩ := hr hp
    refine ⟨b, off, e2, by simp; omega, fun j hj => ?_⟩
    rw [← hc j hj]
    have : (w4.setCell ⟨w.heap.size + 2, 0, none⟩ h1).heap[b]? = w.heap[b]? := (heap_set_other _ _ _ _ _ (by omega)).trans (hx4.bel.block b hlt)
    simp only [World.cell?, this]
  obtain ⟨v1, w6, hr2, c2⟩ := app0 _ v T.wait hT5
  have hb6 : w6.heap[w.heap.size + 2]? = some (.cells #[h1, .slice none 0 0] 25 (0, 0)) := (c2.bel.block _ (by simp; omega)).trans (heap_set hb4 0 h1)
  have hr6 : w6.heap[w.heap.size + 1]? = some (.cells #[.slice none 0 0, .slice none 0 0] 25 (0, 0)) := (c2.bel.block _ (by simp; omega)).trans (setOther _ (hx4.at_ 1 (by simp)) (by omega))
  have hsep : h1.ownBlock = none ∨ h1.ownBlock ≠ v1.ownBlock := by
    rcases hq : h1.ownBlock with _ | b
    · exact .inl rfl
    · refine .inr (fun e => ?_)
      have e1 := (c1.own.lt b hq).2
      have e2 := (c2.own.lt b e.symm).1
      simp at e2
      omega
  have hbel6 := (belowSet (j := 0) h1 hx4.bel (b := w.heap.size + 2) (by omega)).trans ⟨c2.bel.os, c2.bel.tape, c2.bel.output, c2.bel.size, fun k hk => c2.bel.block k (by simp; omega)⟩
  have o6h := own_keep o5.oh c2.bel
  have o6v := own_base c2.own (B' := w.heap.size) (by simp; omega)
  have RT := hideIt (put2 (b := w.heap.size + 1) (setOther (b := w.heap.size + 2) (j := 1) v1 hr6 (by omega)) h1 v1)
  have RC := hideIt (And.intro (two_at RT.out).1 (two_at RT.out).2.1)
  have r7 := setOther (b := w.heap.size + 2) (j := 1) v1 hr6 (show w.heap.size + 1 ≠ w.heap.size + 2 by omega)
  have OO : Hid (TabOwn w.heap.size T h1 v1 (((w6.setCell ⟨w.heap.size + 2, 1, none⟩ v1).setCell ⟨w.heap.size + 1, 0, none⟩ h1).setCell ⟨w.heap.size + 1, 1, none⟩ v1)) := ⟨own_cell (own_cell (own_cell o6h hb6 (by decide)) r7 (by decide)) (heap_set r7 0 h1) (by decide), own_cell (own_cell (own_cell o6v hb6 (by decide)) r7 (by decide)) (heap_set r7 0 h1) (by decide)⟩
  have BB := hideIt (belowSet (j := 1) v1 (belowSet (j := 0) h1 (belowSet (j := 1) v1 hbel6 (b := w.heap.size + 2) (by omega)) (b := w.heap.size + 1) (by omega)) (b := w.heap.size + 1) (by omega))
  have SS := hideIt hsep
  obtain ⟨ha1, hc1, rfl⟩ := own_len c1.own
  obtain ⟨va1, vc1, rfl⟩ := own_len c2.own
  have HR1 := hideIt hr1
  have HR2 := hideIt hr2
  obtain ⟨y0, y1, yf0, yf1, yl⟩ := two_at (p := w.heap.size + 1 + 1) hb4
  obtain ⟨z0, z1, zf0, zf1, zl⟩ := two_at (p := w.heap.size + 1 + 1) hb6
  obtain ⟨r0, r1, rf0, rf1, rl⟩ := two_at hr6
  have x4 : w4.cell? ⟨w.heap.size, 1, none⟩ = some v := hx4.c 0 1 rfl rfl
  obtain ⟨ha, hc, rfl⟩ := hT.held.slice
  obtain ⟨va, vc, rfl⟩ := hT.wait.slice
  have n12 : w.heap.size + 1 ≠ w.heap.size + 1 + 1 := by omega
  have n02 : w.heap.size ≠ w.heap.size + 1 + 1 := by omega
  have n21 : w.heap.size + 1 + 1 ≠ w.heap.size + 1 := by omega
  clear hx hx4 hb4 hs4 o5 hT5 hb6 hr6 hsep hbel6 o6h o6v r7 RT c1 c2 hr1 hr2 hT
  go_enter Try.func13, Try.ntmps13
  go_wp2_with (first | (at_builtin; refine Lib.wpList_append_run _ rfl _ _ _ _ rfl _ _ rfl rfl _ _ HR1.out ?_) | (at_builtin; refine Lib.wpList_append_run _ rfl _ _ _ _ rfl _ _ rfl rfl _ _ HR2.out ?_))
  exact bodyPost_ret (v := .agg #[.slice ha1 T.held.length hc1, .slice va1 T.wait.length vc1]) (by simp [results, Try.results13, go_sem, RC.out.1, RC.out.2]) rfl ⟨_, _, rfl, OO.out, SS.out, BB.out⟩
end Go.Proofs.Ytgfpeknhabbkbab
