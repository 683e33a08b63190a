/- What Compact answers, of the program. -/
import Derived.Test.YtofbikalfpmdpabSnap
import Derived.Test.YtofbikalfpmdpabRef2
namespace Go.Proofs.Ytofbikalfpmdpab
open Go.RowKit
def zL : LogV := ⟨0, 0, [], 0⟩
/-- A log that begins behind an index. -/
def compL (L : LogV) (i : Int) : LogV × Int := if mayB L then (if L.bi < i ∧ i ≤ L.cm then (⟨i, (termL L i).1, L.l.drop (i - L.bi).toNat, L.cm⟩, 0) else (zL, 91)) else (zL, 90)
theorem from_behind {L : LogV} (h : mayB L = true) (i : Int) (h1 : L.bi ≤ i) : fromL L (i + 1) 400 = L.l.drop (i - L.bi).toNat := by
  have hin := mayB_in h
  unfold fromL
  rw [h, Bool.true_and]
  cases hb : hasB L (i + 1)
  · simp only [Bool.false_and, Bool.false_eq_true, if_false]
    have hn : ¬ (L.bi + 1 ≤ i + 1 ∧ i + 1 ≤ lasI L) := of_decide_eq_false hb
    unfold lasI at hn
    rw [List.drop_of_length_le (by omega)]
  · rw [show (true && decide ((1 : Int) ≤ 400)) = true from rfl, if_pos rfl]
    rw [show i + 1 - L.bi - 1 = i - L.bi by omega]
    exact List.take_of_length_le (by rw [List.length_drop]; show _ ≤ 400; omega)
/-- A log and a number come back. -/
def LogErr (X : LogV × Int) (w : World) (e : Ending) (w' : World) : Prop := ∃ g, e = .returned (.tuple #[logV X.1 g, .int .i64 X.2]) ∧ w'.ownsRow w.heap.size 39 3 g X.1.l.length (entC X.1.l) ∧ Below w.heap.size w w'
/-- A box, and a log's block that the answer will lie in. -/
structure Duo (w : World) (L : LogV) (g : Value) (wx : World) : Prop where
  box : wx.heap[w.heap.size]? = some (.cells (logA L g) 26 (0, 0))
  res : wx.heap[w.heap.size + 1]? = some (.cells #[.int .i64 0, .int .i64 0, .slice none 0 0, .int .i64 0] 26 (0, 0))
  bel : Below w.heap.size w wx
theorem Duo.first (w : World) (L : LogV) (g : Value) : Duo w L g ((w.alloc (.cells (logA L g) 26)).alloc (.cells #[.int .i64 0, .int .i64 0, .slice none 0 0, .int .i64 0] 26)) := by
  have ht := two_heap w (.cells (logA L g) 26) (.cells #[.int .i64 0, .int .i64 0, .slice none 0 0, .int .i64 0] 26)
  exact ⟨ht.1, ht.2.1, below2 w _ _⟩
theorem Duo.size {w wx : World} {L : LogV} {g : Value} (h : Duo w L g wx) : w.heap.size + 2 ≤ wx.heap.size := (Array.getElem?_eq_some_iff.1 h.res).1
theorem Duo.keep {w wx wy : World} {L : LogV} {g : Value} (h : Duo w L g wx) (hb : Below wx.heap.size wx wy) : Duo w L g wy := by
  have := h.size
  exact ⟨(hb.block _ (by omega)).trans h.box, (hb.block _ (by omega)).trans h.res, below_via h.bel hb⟩
theorem Duo.drew {w wx : World} {L : LogV} {g : Value} (h : Duo w L g wx) : Duo w L g wx.drew := ⟨h.box, h.res, h.bel.drew⟩
theorem Duo.cells {w wx : World} {L : LogV} {g : Value} (h : Duo w L g wx) : wx.cell? ⟨w.heap.size, 0, none⟩ = some (.int .i64 L.bi) ∧ wx.cell? ⟨w.heap.size, 1, none⟩ = some (.int .i64 L.bt) ∧ wx.cell? ⟨w.heap.size, 2, none⟩ = some g ∧ wx.cell? ⟨w.heap.size, 3, none⟩ = some (.int .i64 L.cm) :=
  ⟨by rw [cell_at h.box]; rfl, by rw [cell_at h.box]; rfl, by rw [cell_at h.box]; rfl, by rw [cell_at h.box]; rfl⟩
theorem Duo.zero {w wx : World} {L : LogV} {g : Value} (h : Duo w L g wx) : wx.cell? ⟨w.heap.size + 1, 0, none⟩ = some (.int .i64 0) ∧ wx.cell? ⟨w.heap.size + 1, 1, none⟩ = some (.int .i64 0) ∧ wx.cell? ⟨w.heap.size + 1, 2, none⟩ = some (.slice none 0 0) ∧ wx.cell? ⟨w.heap.size + 1, 3, none⟩ = some (.int .i64 0) ∧ ∀ j, wx.frozen? ⟨w.heap.size + 1, j, none⟩ = false :=
  ⟨by rw [cell_at h.res]; rfl, by rw [cell_at h.res]; rfl, by rw [cell_at h.res]; rfl, by rw [cell_at h.res]; rfl, fun j => free_at h.res j⟩
theorem Duo.put {w wx : World} {L : LogV} {g : Value} (h : Duo w L g wx) (v0 v1 v2 v3 : Value) : Hid (((((wx.setCell ⟨w.heap.size + 1, 0, none⟩ v0).setCell ⟨w.heap.size + 1, 1, none⟩ v1).setCell ⟨w.heap.size + 1, 2, none⟩ v2).setCell ⟨w.heap.size + 1, 3, none⟩ v3).heap[w.heap.size + 1]? = some (.cells #[v0, v1, v2, v3] 26 (0, 0)) ∧ Below w.heap.size w ((((wx.setCell ⟨w.heap.size + 1, 0, none⟩ v0).setCell ⟨w.heap.size + 1, 1, none⟩ v1).setCell ⟨w.heap.size + 1, 2, none⟩ v2).setCell ⟨w.heap.size + 1, 3, none⟩ v3)) :=
  fin4 v0 v1 v2 v3 h.res (by omega) h.bel
set_option maxHeartbeats 8000000 in
set_option maxRecDepth 100000 in
theorem compact_is (L : LogV) (g : Value) (i : Int) (w : World) (h : EGot w g L.l) : Calls Try.prog 12 #[logV L g, .int .i64 i] w (LogErr (compL L i) w) := by
  have T0 := hideIt (Duo.first w L g)
  have H1 := hideIt (check_is L g _ (h.keep T0.out.bel))
  have hh := hideIt h
  unfold LogErr compL
  cases hm : mayB L
  · rw [show chkI L = 80 by simp [chkI, hm]] at H1
    simp only [Bool.false_eq_true, if_false]
    obtain ⟨a, c, rfl⟩ := h.slice
    unfold logV logA at *
    obtain ⟨bi, bt, l, cm⟩ := L
    simp only at H1 T0 ⊢
    clear h
    go_enter Try.func12, Try.ntmps12
    go_wp2_with fail
    refine H1.out.mono ?_
    rintro e w1 ⟨rfl, hbl⟩
    dsimp only
    have T1 := hideIt (T0.out.keep hbl)
    obtain ⟨z0, z1, z2, z3, zf⟩ := T1.out.zero
    have HP := T1.out.put (.int .i64 0) (.int .i64 0) (.slice none 0 0) (.int .i64 0)
    clear T0 T1 H1 hbl
    obtain ⟨e1, e2⟩ := HP.out
    clear HP
    go_wp2
    revert e1 e2
    generalize (World.setCell _ ⟨w.heap.size + 1, 3, none⟩ _) = W
    intro e1 e2
    exact bodyPost_ret (v := .tuple #[logV zL (.slice none 0 0), .int .i64 90]) (by simp [results, Try.results12, go_sem, cell_at e1, logV, logA, zL]) rfl ⟨_, rfl, own_nil _ _, e2⟩
  · rw [show chkI L = 0 by simp [chkI, hm]] at H1
    simp only [if_true]
    by_cases hi : L.bi < i ∧ i ≤ L.cm
    · rw [if_pos hi]
      obtain ⟨hi1, hi2⟩ := hi
      have hin := mayB_in hm
      have HFB := hideIt (from_behind hm i (by omega))
      have HTA := hideIt (fun wx (hx : Below w.heap.size w wx) => termAt_is L g i wx (h.keep hx))
      have HCU := hideIt (fun wx (hx : Below w.heap.size w wx) => cut_is L g wx (h.keep hx))
      have HCF := hideIt (fun (k : Nat) w0 wx (hbx : Box w0 k L g wx) (hx : Below w.heap.size w wx) => cutf_is k L g i w0 wx hbx (h.keep hx) (by omega))
      rw [HFB.out] at HCF
      unfold EntsBack at HCF
      generalize L.l.drop (i - L.bi).toNat = D at *
      generalize termL L i = tm at *
      obtain ⟨tt, tb⟩ := tm
      obtain ⟨a, c, rfl⟩ := h.slice
      unfold logV logA at *
      obtain ⟨bi, bt, l, cm⟩ := L
      simp only at H1 T0 HTA HCU hi1 hi2 ⊢
      have hiA : ¬ (i ≤ bi) := by omega
      have hiB : ¬ (cm < i) := by omega
      clear h hin HFB
      go_enter Try.func12, Try.ntmps12
      go_wp2_with fail
      refine H1.out.mono ?_
      rintro e w1 ⟨rfl, hbl⟩
      dsimp only
      have T1 := hideIt (T0.out.keep hbl)
      obtain ⟨c0, c1, c2, c3⟩ := T1.out.cells
      simp only at c0 c1 c2 c3
      clear T0 H1 hbl
      go_wp2_with fail
      refine (HCU.out _ T1.out.bel).mono ?_
      rintro e w2 ⟨rfl, rfl⟩
      dsimp only
      have HBX := hideIt (And.intro (heap_alloc_new w1 (.cells #[.int .i64 bi, .int .i64 bt, .slice a l.length c, .int .i64 cm] 26)) (T1.out.keep (below1 w1 (.cells #[.int .i64 bi, .int .i64 bt, .slice a l.length c, .int .i64 cm] 26))))
      have hkk : w1.heap.size < (w1.alloc (.cells #[.int .i64 bi, .int .i64 bt, .slice a l.length c, .int .i64 cm] 26)).heap.size := by simp
      generalize w1.alloc (.cells #[.int .i64 bi, .int .i64 bt, .slice a l.length c, .int .i64 cm] 26) = w2 at *
      generalize w1.heap.size = kb at *
      clear T1 c0 c1 c2 c3 HCU
      obtain ⟨c0, c1, c2, c3⟩ := HBX.out.2.cells
      simp only at c0 c1 c2 c3
      go_wp2_with fail
      refine (HTA.out _ HBX.out.2.bel).mono ?_
      rintro e w3 ⟨rfl, hbl⟩
      dsimp only
      have T3 := hideIt (HBX.out.2.keep hbl)
      have HB3 : Hid (Box w kb ⟨bi, bt, l, cm⟩ (.slice a l.length c) w3) := ⟨(hbl.block _ hkk).trans HBX.out.1, T3.out.bel⟩
      clear hbl HTA HBX c0 c1 c2 c3 hkk
      go_upto_region 7 with fail
      have T3d := T3.out.drew
      have HR := hideIt (HCF.out kb w w3.drew HB3.out.drew T3d.bel)
      refine wp_region_held_drew (S := fun w' => w'.cell? ⟨w.heap.size, 3, none⟩ = some (.int .i64 cm)) (by kernel_rfl) T3d.cells.2.2.2 (fun hHeld => ?_)
      refine wpAnyH_take (i := 0) (oi := ⟨some 33, _, _, _, _, _⟩) (v := ?_) rfl (by kernel_rfl) (by kernel_rfl) (by kernel_rfl) (fun _ _ _ h => h) (Or.inl ⟨by rfl, ?_⟩) (by assumption) ?_
      rotate_left
      · intro w5 hSw
        (try dsimp only at hSw)
        go_simp
        (try with_reducible rfl)
      try simp only [Act.put, List.setIfInBounds_toArray, List.set_cons_zero, List.set_cons_succ]
      refine wpAnyH_take (i := 1) (oi := ⟨some 34, _, _, _, _, _⟩) (v := ?_) rfl (by kernel_rfl) (by kernel_rfl) (by kernel_rfl) (fun _ _ _ h => h) (Or.inl ⟨by rfl, ?_⟩) (by assumption) ?_
      rotate_left
      · intro w5 hSw
        (try dsimp only at hSw)
        go_simp
        (try with_reducible rfl)
      try simp only [Act.put, List.setIfInBounds_toArray, List.set_cons_zero, List.set_cons_succ]
      refine wpAnyH_take (i := 2) (oi := ⟨some 35, _, _, _, _, _⟩) (v := ?_) rfl (by kernel_rfl) (by kernel_rfl) (by kernel_rfl) (fun _ _ _ h => h) (Or.inl ⟨by rfl, ?_⟩) (by assumption) ?_
      rotate_left
      · intro w5 hSw
        (try dsimp only at hSw)
        go_simp
        (try with_reducible rfl)
      try simp only [Act.put, List.setIfInBounds_toArray, List.set_cons_zero, List.set_cons_succ]
      refine wpAnyH_take (i := 3) (oi := ⟨some 36, _, _, _, _, _⟩) (v := ?_) rfl (by kernel_rfl) (by kernel_rfl) (by kernel_rfl) (fun _ _ _ h => h) (Or.inl ⟨by rfl, ?_⟩) (by assumption) ?_
      rotate_left
      · intro w5 hSw
        (try dsimp only at hSw)
        go_simp
        (try with_reducible rfl)
      try simp only [Act.put, List.setIfInBounds_toArray, List.set_cons_zero, List.set_cons_succ]
      refine wpAnyH_take (i := 4) (oi := ⟨some 37, _, _, _, _, _⟩) (v := ?_) rfl (by kernel_rfl) (by kernel_rfl) (by kernel_rfl) (fun _ _ _ h => h) (Or.inl ⟨by rfl, ?_⟩) (by assumption) ?_
      rotate_left
      · intro w5 hSw
        (try dsimp only at hSw)
        go_simp
        (try with_reducible rfl)
      try simp only [Act.put, List.setIfInBounds_toArray, List.set_cons_zero, List.set_cons_succ]
      refine wpAnyH_take (i := 6) (oi := ⟨some 39, _, _, _, _, _⟩) (v := ?_) rfl (by kernel_rfl) (by kernel_rfl) (by kernel_rfl) (fun _ _ _ h => h) (Or.inl ⟨by rfl, ?_⟩) (by assumption) ?_
      rotate_left
      · intro w5 hSw
        (try dsimp only at hSw)
        go_simp
        (try with_reducible rfl)
      try simp only [Act.put, List.setIfInBounds_toArray, List.set_cons_zero, List.set_cons_succ]
      refine wpAnyH_take (i := 7) (oi := ⟨some 40, _, _, _, _, _⟩) (v := ?_) rfl (by kernel_rfl) (by kernel_rfl) (by kernel_rfl) (fun _ _ _ h => h) (Or.inl ⟨by rfl, ?_⟩) (by assumption) ?_
      rotate_left
      · intro w5 hSw
        (try dsimp only at hSw)
        go_simp
        (try with_reducible rfl)
      try simp only [Act.put, List.setIfInBounds_toArray, List.set_cons_zero, List.set_cons_succ]
      refine wpAnyH_ready (rs := [5]) (by kernel_rfl) (by simp) ?_
      refine AllReadyH.cons (o := ⟨some 38, _, _, _, _, _⟩) rfl (fun K hK => ?_) AllReadyH.nil
      go_simp
      go_at_call 46
      refine HR.out.mono ?_
      rintro e w4 ⟨r, rfl, ho, hbl⟩
      have T4 := hideIt (T3d.keep hbl)
      refine hK.out _ _ T4.out.cells.2.2.2 (fun hHeld => ?_)
      obtain ⟨ra, rc, rfl⟩ := own_len ho
      have HO := hideIt (own4 (R := w.heap.size + 1) (.int .i64 i) (.int .i64 tt) (.slice ra D.length rc) (.int .i64 cm) ho (by have := T3d.size; omega) w.heap.size (by have := T3d.size; omega)).out
      have HP := T4.out.put (.int .i64 i) (.int .i64 tt) (.slice ra D.length rc) (.int .i64 cm)
      have HS : Hid (((((w4.setCell ⟨w.heap.size + 1, 0, none⟩ (.int .i64 i)).setCell ⟨w.heap.size + 1, 1, none⟩ (.int .i64 tt)).setCell ⟨w.heap.size + 1, 2, none⟩ (.slice ra D.length rc)).setCell ⟨w.heap.size + 1, 3, none⟩ (.int .i64 cm)).cell? ⟨w.heap.size, 3, none⟩ = some (.int .i64 cm)) := by
        show _ = _
        rw [cell_at (setOther _ (setOther _ (setOther _ (setOther _ T4.out.box (by omega)) (by omega)) (by omega)) (by omega))]
        rfl
      obtain ⟨z0, z1, z2, z3, zf⟩ := T4.out.zero
      clear hK K ho hbl HR HCF T3 HB3 T3d T4
      try simp only [Act.put, List.setIfInBounds_toArray, List.set_cons_zero, List.set_cons_succ]
      refine wpAnyH_take (i := 8) (oi := ⟨some 41, _, _, _, _, _⟩) (v := ?_) rfl (by kernel_rfl) (by kernel_rfl) (by kernel_rfl) (fun _ _ _ h => h) (Or.inl ⟨by rfl, ?_⟩) (by assumption) ?_
      rotate_left
      · intro w5 hSw
        (try dsimp only at hSw)
        go_simp
        (try with_reducible rfl)
      try simp only [Act.put, List.setIfInBounds_toArray, List.set_cons_zero, List.set_cons_succ]
      refine wpAnyH_ready (rs := [9]) (by kernel_rfl) (by simp) ?_
      refine AllReadyH.cons (o := ⟨none, _, _, _, _, _⟩) rfl (fun K hK => ?_) AllReadyH.nil
      go_simp
      refine hK.out _ _ HS.out (fun hHeld => ?_)
      clear hK K
      generalize ((((w4.setCell ⟨w.heap.size + 1, 0, none⟩ (.int .i64 i)).setCell ⟨w.heap.size + 1, 1, none⟩ (.int .i64 tt)).setCell ⟨w.heap.size + 1, 2, none⟩ (.slice ra D.length rc)).setCell ⟨w.heap.size + 1, 3, none⟩ (.int .i64 cm)) = W at *
      try simp only [Act.put, List.setIfInBounds_toArray, List.set_cons_zero, List.set_cons_succ]
      refine wpAnyH_take (i := 10) (oi := ⟨some 5, _, _, _, _, _⟩) (v := ?_) rfl (by kernel_rfl) (by kernel_rfl) (by kernel_rfl) (fun _ _ _ h => h) (Or.inl ⟨by rfl, ?_⟩) (by assumption) ?_
      rotate_left
      · intro w5 hSw
        (try dsimp only at hSw)
        go_simp
        (try with_reducible rfl)
      try simp only [Act.put, List.setIfInBounds_toArray, List.set_cons_zero, List.set_cons_succ]
      refine wpAnyH_done (by kernel_rfl) ?_ _
      clear z0 z1 z2 z3 zf hHeld HS
      go_wp2
      obtain ⟨e1, e2⟩ := HP.out
      exact bodyPost_ret (v := .tuple #[logV ⟨i, tt, D, cm⟩ (.slice ra D.length rc), .int .i64 0]) (by simp [results, Try.results12, go_sem, cell_at e1, logV, logA]) rfl ⟨_, rfl, HO.out, e2⟩
    · rw [if_neg hi]
      obtain ⟨a, c, rfl⟩ := h.slice
      unfold logV logA at *
      obtain ⟨bi, bt, l, cm⟩ := L
      simp only at H1 T0 hi ⊢
      clear h
      by_cases hiA : i ≤ bi
      · clear hi
        go_enter Try.func12, Try.ntmps12
        go_wp2_with fail
        refine H1.out.mono ?_
        rintro e w1 ⟨rfl, hbl⟩
        dsimp only
        have T1 := hideIt (T0.out.keep hbl)
        obtain ⟨c0, c1, c2, c3⟩ := T1.out.cells
        simp only at c0 c1 c2 c3
        obtain ⟨z0, z1, z2, z3, zf⟩ := T1.out.zero
        have HP := T1.out.put (.int .i64 0) (.int .i64 0) (.slice none 0 0) (.int .i64 0)
        clear T0 T1 H1 hbl
        obtain ⟨e1, e2⟩ := HP.out
        clear HP
        go_wp2
        revert e1 e2
        generalize (World.setCell _ ⟨w.heap.size + 1, 3, none⟩ _) = W
        intro e1 e2
        exact bodyPost_ret (v := .tuple #[logV zL (.slice none 0 0), .int .i64 91]) (by simp [results, Try.results12, go_sem, cell_at e1, logV, logA, zL]) rfl ⟨_, rfl, own_nil _ _, e2⟩
      · have hiB : cm < i := by omega
        clear hi
        go_enter Try.func12, Try.ntmps12
        go_wp2_with fail
        refine H1.out.mono ?_
        rintro e w1 ⟨rfl, hbl⟩
        dsimp only
        have T1 := hideIt (T0.out.keep hbl)
        obtain ⟨c0, c1, c2, c3⟩ := T1.out.cells
        simp only at c0 c1 c2 c3
        obtain ⟨z0, z1, z2, z3, zf⟩ := T1.out.zero
        have HP := T1.out.put (.int .i64 0) (.int .i64 0) (.slice none 0 0) (.int .i64 0)
        clear T0 T1 H1 hbl
        obtain ⟨e1, e2⟩ := HP.out
        clear HP
        go_wp2
        revert e1 e2
        generalize (World.setCell _ ⟨w.heap.size + 1, 3, none⟩ _) = W
        intro e1 e2
        exact bodyPost_ret (v := .tuple #[logV zL (.slice none 0 0), .int .i64 91]) (by simp [results, Try.results12, go_sem, cell_at e1, logV, logA, zL]) rfl ⟨_, rfl, own_nil _ _, e2⟩
end Go.Proofs.Ytofbikalfpmdpab
