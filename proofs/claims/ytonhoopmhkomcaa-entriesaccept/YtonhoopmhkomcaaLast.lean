/- The last mark of a log: the program's answer. -/
import Derived.Test.YtonhoopmhkomcaaMark
namespace Go.Proofs.Ytonhoopmhkomcaa
open Go.RowKit
def lasM (L : LogV) : Int × Int := (markL L (lasI L)).1
theorem Two.drew {w wx : World} {L : LogV} {g : Value} (h : Two w L g wx) : Two w L g wx.drew := ⟨h.box, h.res, h.bel.drew⟩
theorem Two.four {w wx : World} {L : LogV} {g : Value} (h : Two w L g wx) : wx.cell? ⟨w.heap.size, 0, none⟩ = some (.int .i64 L.bi) ∧ wx.cell? ⟨w.heap.size, 1, none⟩ = some (.int .i64 L.bt) ∧ wx.cell? ⟨w.heap.size, 2, none⟩ = some g ∧ wx.cell? ⟨w.heap.size, 3, none⟩ = some (.int .i64 L.cm) :=
  ⟨by rw [cell_at h.box]; rfl, by rw [cell_at h.box]; rfl, by rw [cell_at h.box]; rfl, by rw [cell_at h.box]; rfl⟩
/-- A block of a mark that will be written. -/
def Zer (k : Nat) (wx : World) : Prop := wx.heap[k]? = some (.cells #[.int .i64 0, .int .i64 0] 23 (0, 0))
theorem Zer.keep {k : Nat} {wx wy : World} (h : Zer k wx) (hb : Below wx.heap.size wx wy) : Zer k wy := (hb.block _ (Array.getElem?_eq_some_iff.1 h).1).trans h
theorem Two.other {w wx : World} {L : LogV} {g : Value} (h : Two w L g wx) {k : Nat} (hk : w.heap.size + 2 ≤ k) (v0 v1 : Value) : Two w L g ((wx.setCell ⟨k, 0, none⟩ v0).setCell ⟨k, 1, none⟩ v1) :=
  ⟨setOther _ (setOther _ h.box (by omega)) (by omega), setOther _ (setOther _ h.res (by omega)) (by omega), belowSet _ (belowSet _ h.bel (by omega)) (by omega)⟩
set_option maxHeartbeats 16000000 in
set_option maxRecDepth 100000 in
theorem lastMark_is (L : LogV) (g : Value) (w : World) (h : EGot w g L.l) (hn : Near L) : Calls Try.prog 36 #[logV L g] w fun e w' => e = .returned (.agg #[.int .i64 (lasM L).1, .int .i64 (lasM L).2]) ∧ Below w.heap.size w w' := by
  have T0 := hideIt (Two.first w L g)
  have HE := hideIt (fun wx (hx : Two w L g wx) => (lastIndex_is L g wx (h.keep hx.bel) hn).mono (R' := fun e w' => e = .returned (.int .i64 (lasI L)) ∧ Below wx.heap.size wx w') (by rintro e w' ⟨rfl, rfl⟩; exact ⟨rfl, below1 _ _⟩))
  have HM := hideIt (fun wx (hx : Two w L g wx) => markAt_is L g (lasI L) wx (h.keep hx.bel) hn)
  unfold lasM
  unfold MarkBack at HM
  obtain ⟨a, c, rfl⟩ : ∃ a c, g = .slice a L.l.length c := by
    obtain ⟨a, c, e, _⟩ := h.open
    exact ⟨a, c, e⟩
  generalize markL L (lasI L) = mk at *
  obtain ⟨⟨mi, mt⟩, mo⟩ := mk
  generalize lasI L = li at *
  unfold logV logA at *
  obtain ⟨bi, bt, l, cm⟩ := L
  simp only at HE HM T0 ⊢
  clear h hn
  go_enter Try.func36, Try.ntmps36
  go_upto_region 1 with fail
  have T1 := hideIt T0.out.drew
  refine wp_region_held_drew (S := fun w' => w'.cell? ⟨w.heap.size, 0, none⟩ = some (.int .i64 bi) ∧ w'.cell? ⟨w.heap.size, 1, none⟩ = some (.int .i64 bt) ∧ w'.cell? ⟨w.heap.size, 2, none⟩ = some (.slice a l.length c) ∧ w'.cell? ⟨w.heap.size, 3, none⟩ = some (.int .i64 cm)) (by kernel_rfl) T1.out.four (fun hHeld => ?_)
  refine wpAnyH_take (i := 0) (oi := ⟨some 6, _, _, _, _, _⟩) (v := ?_) rfl (by kernel_rfl) (by kernel_rfl) (by kernel_rfl) (fun _ _ _ h => h) (Or.inl ⟨by rfl, ?_⟩) (by assumption) ?_
  rotate_left
  · intro w5 hSw
    (try dsimp only at hSw)
    go_simp
    (try with_reducible rfl)
  try simp only [Act.put, List.setIfInBounds_toArray, List.set_cons_zero, List.set_cons_succ]
  refine wpAnyH_take (i := 1) (oi := ⟨some 7, _, _, _, _, _⟩) (v := ?_) rfl (by kernel_rfl) (by kernel_rfl) (by kernel_rfl) (fun _ _ _ h => h) (Or.inl ⟨by rfl, ?_⟩) (by assumption) ?_
  rotate_left
  · intro w5 hSw
    (try dsimp only at hSw)
    go_simp
    (try with_reducible rfl)
  try simp only [Act.put, List.setIfInBounds_toArray, List.set_cons_zero, List.set_cons_succ]
  generalize ((w.alloc (.cells #[.int .i64 bi, .int .i64 bt, .slice a l.length c, .int .i64 cm] 26)).alloc (.cells #[.int .i64 0, .int .i64 0] 23)).drew = X at *
  clear T0
  refine wpAnyH_ready (rs := [2, 7]) (by kernel_rfl) (by simp) ?_
  refine AllReadyH.cons (o := ⟨some 8, _, _, _, _, _⟩) rfl (fun K hK => ?_) ?_
  · go_simp
    go_at_call 38
    refine (HE.out _ T1.out).mono ?_
    rintro e w1 ⟨rfl, hbl⟩
    have T2 := hideIt (T1.out.keep hbl)
    refine hK.out _ _ T2.out.four (fun hHeld => ?_)
    clear hK K
    try simp only [Act.put, List.setIfInBounds_toArray, List.set_cons_zero, List.set_cons_succ]
    refine wpAnyH_ready (rs := [3, 7]) (by kernel_rfl) (by simp) ?_
    refine AllReadyH.cons (o := ⟨some 9, _, _, _, _, _⟩) rfl (fun K hK => ?_) ?_
    · go_simp
      go_at_call 29
      refine (HM.out _ T2.out).mono ?_
      rintro e w2 ⟨rfl, hbl⟩
      have T3 := hideIt (T2.out.keep hbl)
      refine hK.out _ _ T3.out.four (fun hHeld => ?_)
      clear hK K
      try simp only [Act.put, List.setIfInBounds_toArray, List.set_cons_zero, List.set_cons_succ]
      clear hbl
      refine wpAnyH_take (i := 4) (oi := ⟨some 5, _, _, _, _, _⟩) (v := ?_) rfl (by kernel_rfl) (by kernel_rfl) (by kernel_rfl) (fun _ _ _ h => h) (Or.inl ⟨by rfl, ?_⟩) (by assumption) ?_
      rotate_left
      · intro w5 hSw
        (try dsimp only at hSw)
        go_simp
        (try with_reducible rfl)
      try simp only [Act.put, List.setIfInBounds_toArray, List.set_cons_zero, List.set_cons_succ]
      refine wpAnyH_take (i := 5) (oi := ⟨some 10, _, _, _, _, _⟩) (v := ?_) rfl (by kernel_rfl) (by kernel_rfl) (by kernel_rfl) (fun _ _ _ h => h) (Or.inl ⟨by rfl, ?_⟩) (by assumption) ?_
      rotate_left
      · intro w5 hSw
        (try dsimp only at hSw)
        go_simp
        (try with_reducible rfl)
      try simp only [Act.put, List.setIfInBounds_toArray, List.set_cons_zero, List.set_cons_succ]
      refine wpAnyH_take (i := 6) (oi := ⟨some 11, _, _, _, _, _⟩) (v := ?_) rfl (by kernel_rfl) (by kernel_rfl) (by kernel_rfl) (fun _ _ _ h => h) (Or.inl ⟨by rfl, ?_⟩) (by assumption) ?_
      rotate_left
      · intro w5 hSw
        (try dsimp only at hSw)
        go_simp
        (try with_reducible rfl)
      try simp only [Act.put, List.setIfInBounds_toArray, List.set_cons_zero, List.set_cons_succ]
      refine wpAnyH_ready (rs := [7]) (by kernel_rfl) (by simp) ?_
      refine AllReadyH.cons (o := ⟨some 3, _, _, _, _, _⟩) rfl (fun K hK => ?_) AllReadyH.nil
      go_simp
      have T4 := hideIt (T3.out.keep (below1 w2 (.cells #[.int .i64 0, .int .i64 0] 23)))
      have Z4 : Hid (Zer (w2).heap.size ((w2).alloc (.cells #[.int .i64 0, .int .i64 0] 23)) ∧ w.heap.size + 2 ≤ (w2).heap.size) := ⟨heap_alloc_new _ _, T3.out.size⟩
      refine hK.out _ _ T4.out.four (fun hHeld => ?_)
      clear hK K
      generalize (w2).alloc (.cells #[.int .i64 0, .int .i64 0] 23) = w3 at *
      generalize (w2).heap.size = kb at *
      try simp only [Act.put, List.setIfInBounds_toArray, List.set_cons_zero, List.set_cons_succ]
      have z0 : (w3).cell? ⟨kb, 0, none⟩ = some (.int .i64 0) := by rw [cell_at Z4.out.1]; rfl
      have z1 : (w3).cell? ⟨kb, 1, none⟩ = some (.int .i64 0) := by rw [cell_at Z4.out.1]; rfl
      have zf : ∀ j, (w3).frozen? ⟨kb, j, none⟩ = false := fun j => free_at Z4.out.1 j
      have TE := hideIt (T4.out.other Z4.out.2 (.int .i64 mi) (.int .i64 mt))
      have KE := hideIt (put2 w3 kb 23 (.int .i64 mi) (.int .i64 mt) Z4.out.1)
      refine wpAnyH_ready (rs := [8]) (by kernel_rfl) (by simp) ?_
      refine AllReadyH.cons (o := ⟨none, _, _, _, _, _⟩) rfl (fun K hK => ?_) AllReadyH.nil
      go_simp
      refine hK.out _ _ TE.out.four (fun hHeld => ?_)
      clear hK K z0 z1 zf
      generalize ((w3).setCell ⟨kb, 0, none⟩ (.int .i64 mi)).setCell ⟨kb, 1, none⟩ (.int .i64 mt) = WE at *
      try simp only [Act.put, List.setIfInBounds_toArray, List.set_cons_zero, List.set_cons_succ]
      refine wpAnyH_take (i := 9) (oi := ⟨some 4, _, _, _, _, _⟩) (v := ?_) rfl (by kernel_rfl) (by kernel_rfl) (by kernel_rfl) (fun _ _ _ h => h) (Or.inl ⟨by rfl, ?_⟩) (by assumption) ?_
      rotate_left
      · intro w5 hSw
        (try dsimp only at hSw)
        go_simp
        (try with_reducible rfl)
      try simp only [Act.put, List.setIfInBounds_toArray, List.set_cons_zero, List.set_cons_succ]
      refine wpAnyH_done (by kernel_rfl) ?_ _
      have y0 : WE.cell? ⟨kb, 0, none⟩ = some (.int .i64 mi) := by rw [cell_at KE.out]; rfl
      have y1 : WE.cell? ⟨kb, 1, none⟩ = some (.int .i64 mt) := by rw [cell_at KE.out]; rfl
      obtain ⟨_, _, _, _, r0, r1, rf⟩ := TE.out.cells
      have HP := TE.out.put (.int .i64 mi) (.int .i64 mt)
      clear hHeld
      go_wp2
      obtain ⟨e1, e2⟩ := HP.out
      revert e1 e2
      generalize (World.setCell _ ⟨w.heap.size + 1, 1, none⟩ _) = WF
      intro e1 e2
      exact bodyPost_ret (v := .agg #[.int .i64 mi, .int .i64 mt]) (by simp [results, Try.results36, go_sem, cell_at e1]) rfl ⟨rfl, e2⟩
    · refine AllReadyH.cons (o := ⟨some 3, _, _, _, _, _⟩) rfl (fun K hK => ?_) AllReadyH.nil
      go_simp
      have T3 := hideIt (T2.out.keep (below1 w1 (.cells #[.int .i64 0, .int .i64 0] 23)))
      have Z3 : Hid (Zer (w1).heap.size ((w1).alloc (.cells #[.int .i64 0, .int .i64 0] 23)) ∧ w.heap.size + 2 ≤ (w1).heap.size) := ⟨heap_alloc_new _ _, T2.out.size⟩
      refine hK.out _ _ T3.out.four (fun hHeld => ?_)
      clear hK K
      generalize (w1).alloc (.cells #[.int .i64 0, .int .i64 0] 23) = w2 at *
      generalize (w1).heap.size = kb at *
      try simp only [Act.put, List.setIfInBounds_toArray, List.set_cons_zero, List.set_cons_succ]
      refine wpAnyH_ready (rs := [3]) (by kernel_rfl) (by simp) ?_
      refine AllReadyH.cons (o := ⟨some 9, _, _, _, _, _⟩) rfl (fun K hK => ?_) AllReadyH.nil
      go_simp
      go_at_call 29
      refine (HM.out _ T3.out).mono ?_
      rintro e w3 ⟨rfl, hbl⟩
      have T4 := hideIt (T3.out.keep hbl)
      refine hK.out _ _ T4.out.four (fun hHeld => ?_)
      clear hK K
      try simp only [Act.put, List.setIfInBounds_toArray, List.set_cons_zero, List.set_cons_succ]
      have Z4 := hideIt (And.intro (Z3.out.1.keep hbl) Z3.out.2)
      clear hbl
      refine wpAnyH_take (i := 4) (oi := ⟨some 5, _, _, _, _, _⟩) (v := ?_) rfl (by kernel_rfl) (by kernel_rfl) (by kernel_rfl) (fun _ _ _ h => h) (Or.inl ⟨by rfl, ?_⟩) (by assumption) ?_
      rotate_left
      · intro w5 hSw
        (try dsimp only at hSw)
        go_simp
        (try with_reducible rfl)
      try simp only [Act.put, List.setIfInBounds_toArray, List.set_cons_zero, List.set_cons_succ]
      refine wpAnyH_take (i := 5) (oi := ⟨some 10, _, _, _, _, _⟩) (v := ?_) rfl (by kernel_rfl) (by kernel_rfl) (by kernel_rfl) (fun _ _ _ h => h) (Or.inl ⟨by rfl, ?_⟩) (by assumption) ?_
      rotate_left
      · intro w5 hSw
        (try dsimp only at hSw)
        go_simp
        (try with_reducible rfl)
      try simp only [Act.put, List.setIfInBounds_toArray, List.set_cons_zero, List.set_cons_succ]
      refine wpAnyH_take (i := 6) (oi := ⟨some 11, _, _, _, _, _⟩) (v := ?_) rfl (by kernel_rfl) (by kernel_rfl) (by kernel_rfl) (fun _ _ _ h => h) (Or.inl ⟨by rfl, ?_⟩) (by assumption) ?_
      rotate_left
      · intro w5 hSw
        (try dsimp only at hSw)
        go_simp
        (try with_reducible rfl)
      try simp only [Act.put, List.setIfInBounds_toArray, List.set_cons_zero, List.set_cons_succ]
      have z0 : (w3).cell? ⟨kb, 0, none⟩ = some (.int .i64 0) := by rw [cell_at Z4.out.1]; rfl
      have z1 : (w3).cell? ⟨kb, 1, none⟩ = some (.int .i64 0) := by rw [cell_at Z4.out.1]; rfl
      have zf : ∀ j, (w3).frozen? ⟨kb, j, none⟩ = false := fun j => free_at Z4.out.1 j
      have TE := hideIt (T4.out.other Z4.out.2 (.int .i64 mi) (.int .i64 mt))
      have KE := hideIt (put2 w3 kb 23 (.int .i64 mi) (.int .i64 mt) Z4.out.1)
      refine wpAnyH_ready (rs := [8]) (by kernel_rfl) (by simp) ?_
      refine AllReadyH.cons (o := ⟨none, _, _, _, _, _⟩) rfl (fun K hK => ?_) AllReadyH.nil
      go_simp
      refine hK.out _ _ TE.out.four (fun hHeld => ?_)
      clear hK K z0 z1 zf
      generalize ((w3).setCell ⟨kb, 0, none⟩ (.int .i64 mi)).setCell ⟨kb, 1, none⟩ (.int .i64 mt) = WE at *
      try simp only [Act.put, List.setIfInBounds_toArray, List.set_cons_zero, List.set_cons_succ]
      refine wpAnyH_take (i := 9) (oi := ⟨some 4, _, _, _, _, _⟩) (v := ?_) rfl (by kernel_rfl) (by kernel_rfl) (by kernel_rfl) (fun _ _ _ h => h) (Or.inl ⟨by rfl, ?_⟩) (by assumption) ?_
      rotate_left
      · intro w5 hSw
        (try dsimp only at hSw)
        go_simp
        (try with_reducible rfl)
      try simp only [Act.put, List.setIfInBounds_toArray, List.set_cons_zero, List.set_cons_succ]
      refine wpAnyH_done (by kernel_rfl) ?_ _
      have y0 : WE.cell? ⟨kb, 0, none⟩ = some (.int .i64 mi) := by rw [cell_at KE.out]; rfl
      have y1 : WE.cell? ⟨kb, 1, none⟩ = some (.int .i64 mt) := by rw [cell_at KE.out]; rfl
      obtain ⟨_, _, _, _, r0, r1, rf⟩ := TE.out.cells
      have HP := TE.out.put (.int .i64 mi) (.int .i64 mt)
      clear hHeld
      go_wp2
      obtain ⟨e1, e2⟩ := HP.out
      revert e1 e2
      generalize (World.setCell _ ⟨w.heap.size + 1, 1, none⟩ _) = WF
      intro e1 e2
      exact bodyPost_ret (v := .agg #[.int .i64 mi, .int .i64 mt]) (by simp [results, Try.results36, go_sem, cell_at e1]) rfl ⟨rfl, e2⟩
  · refine AllReadyH.cons (o := ⟨some 3, _, _, _, _, _⟩) rfl (fun K hK => ?_) AllReadyH.nil
    go_simp
    have T2 := hideIt (T1.out.keep (below1 X (.cells #[.int .i64 0, .int .i64 0] 23)))
    have Z2 : Hid (Zer (X).heap.size ((X).alloc (.cells #[.int .i64 0, .int .i64 0] 23)) ∧ w.heap.size + 2 ≤ (X).heap.size) := ⟨heap_alloc_new _ _, T1.out.size⟩
    refine hK.out _ _ T2.out.four (fun hHeld => ?_)
    clear hK K
    generalize (X).alloc (.cells #[.int .i64 0, .int .i64 0] 23) = w1 at *
    generalize (X).heap.size = kb at *
    try simp only [Act.put, List.setIfInBounds_toArray, List.set_cons_zero, List.set_cons_succ]
    refine wpAnyH_ready (rs := [2]) (by kernel_rfl) (by simp) ?_
    refine AllReadyH.cons (o := ⟨some 8, _, _, _, _, _⟩) rfl (fun K hK => ?_) AllReadyH.nil
    go_simp
    go_at_call 38
    refine (HE.out _ T2.out).mono ?_
    rintro e w2 ⟨rfl, hbl⟩
    have T3 := hideIt (T2.out.keep hbl)
    refine hK.out _ _ T3.out.four (fun hHeld => ?_)
    clear hK K
    try simp only [Act.put, List.setIfInBounds_toArray, List.set_cons_zero, List.set_cons_succ]
    have Z3 := hideIt (And.intro (Z2.out.1.keep hbl) Z2.out.2)
    clear hbl
    refine wpAnyH_ready (rs := [3]) (by kernel_rfl) (by simp) ?_
    refine AllReadyH.cons (o := ⟨some 9, _, _, _, _, _⟩) rfl (fun K hK => ?_) AllReadyH.nil
    go_simp
    go_at_call 29
    refine (HM.out _ T3.out).mono ?_
    rintro e w3 ⟨rfl, hbl⟩
    have T4 := hideIt (T3.out.keep hbl)
    refine hK.out _ _ T4.out.four (fun hHeld => ?_)
    clear hK K
    try simp only [Act.put, List.setIfInBounds_toArray, List.set_cons_zero, List.set_cons_succ]
    have Z4 := hideIt (And.intro (Z3.out.1.keep hbl) Z3.out.2)
    clear hbl
    refine wpAnyH_take (i := 4) (oi := ⟨some 5, _, _, _, _, _⟩) (v := ?_) rfl (by kernel_rfl) (by kernel_rfl) (by kernel_rfl) (fun _ _ _ h => h) (Or.inl ⟨by rfl, ?_⟩) (by assumption) ?_
    rotate_left
    · intro w5 hSw
      (try dsimp only at hSw)
      go_simp
      (try with_reducible rfl)
    try simp only [Act.put, List.setIfInBounds_toArray, List.set_cons_zero, List.set_cons_succ]
    refine wpAnyH_take (i := 5) (oi := ⟨some 10, _, _, _, _, _⟩) (v := ?_) rfl (by kernel_rfl) (by kernel_rfl) (by kernel_rfl) (fun _ _ _ h => h) (Or.inl ⟨by rfl, ?_⟩) (by assumption) ?_
    rotate_left
    · intro w5 hSw
      (try dsimp only at hSw)
      go_simp
      (try with_reducible rfl)
    try simp only [Act.put, List.setIfInBounds_toArray, List.set_cons_zero, List.set_cons_succ]
    refine wpAnyH_take (i := 6) (oi := ⟨some 11, _, _, _, _, _⟩) (v := ?_) rfl (by kernel_rfl) (by kernel_rfl) (by kernel_rfl) (fun _ _ _ h => h) (Or.inl ⟨by rfl, ?_⟩) (by assumption) ?_
    rotate_left
    · intro w5 hSw
      (try dsimp only at hSw)
      go_simp
      (try with_reducible rfl)
    try simp only [Act.put, List.setIfInBounds_toArray, List.set_cons_zero, List.set_cons_succ]
    have z0 : (w3).cell? ⟨kb, 0, none⟩ = some (.int .i64 0) := by rw [cell_at Z4.out.1]; rfl
    have z1 : (w3).cell? ⟨kb, 1, none⟩ = some (.int .i64 0) := by rw [cell_at Z4.out.1]; rfl
    have zf : ∀ j, (w3).frozen? ⟨kb, j, none⟩ = false := fun j => free_at Z4.out.1 j
    have TE := hideIt (T4.out.other Z4.out.2 (.int .i64 mi) (.int .i64 mt))
    have KE := hideIt (put2 w3 kb 23 (.int .i64 mi) (.int .i64 mt) Z4.out.1)
    refine wpAnyH_ready (rs := [8]) (by kernel_rfl) (by simp) ?_
    refine AllReadyH.cons (o := ⟨none, _, _, _, _, _⟩) rfl (fun K hK => ?_) AllReadyH.nil
    go_simp
    refine hK.out _ _ TE.out.four (fun hHeld => ?_)
    clear hK K z0 z1 zf
    generalize ((w3).setCell ⟨kb, 0, none⟩ (.int .i64 mi)).setCell ⟨kb, 1, none⟩ (.int .i64 mt) = WE at *
    try simp only [Act.put, List.setIfInBounds_toArray, List.set_cons_zero, List.set_cons_succ]
    refine wpAnyH_take (i := 9) (oi := ⟨some 4, _, _, _, _, _⟩) (v := ?_) rfl (by kernel_rfl) (by kernel_rfl) (by kernel_rfl) (fun _ _ _ h => h) (Or.inl ⟨by rfl, ?_⟩) (by assumption) ?_
    rotate_left
    · intro w5 hSw
      (try dsimp only at hSw)
      go_simp
      (try with_reducible rfl)
    try simp only [Act.put, List.setIfInBounds_toArray, List.set_cons_zero, List.set_cons_succ]
    refine wpAnyH_done (by kernel_rfl) ?_ _
    have y0 : WE.cell? ⟨kb, 0, none⟩ = some (.int .i64 mi) := by rw [cell_at KE.out]; rfl
    have y1 : WE.cell? ⟨kb, 1, none⟩ = some (.int .i64 mt) := by rw [cell_at KE.out]; rfl
    obtain ⟨_, _, _, _, r0, r1, rf⟩ := TE.out.cells
    have HP := TE.out.put (.int .i64 mi) (.int .i64 mt)
    clear hHeld
    go_wp2
    obtain ⟨e1, e2⟩ := HP.out
    revert e1 e2
    generalize (World.setCell _ ⟨w.heap.size + 1, 1, none⟩ _) = WF
    intro e1 e2
    exact bodyPost_ret (v := .agg #[.int .i64 mi, .int .i64 mt]) (by simp [results, Try.results36, go_sem, cell_at e1]) rfl ⟨rfl, e2⟩
/-- The last mark of a log that may be. -/
def lastL (L : LogV) : Int × Int := if mayB L then lasM L else (0, 0)
set_option maxHeartbeats 4000000 in
theorem last_is (L : LogV) (g : Value) (w : World) (h : EGot w g L.l) : Calls Try.prog 15 #[logV L g] w fun e w' => e = .returned (.agg #[.int .i64 (lastL L).1, .int .i64 (lastL L).2]) ∧ Below w.heap.size w w' := by
  have T0 := hideIt (Two.first w L g)
  have H1 := hideIt (mayBe_is L g _ (h.keep T0.out.bel))
  have H2 := hideIt (fun wx (hx : Below w.heap.size w wx) (hm : mayB L = true) => lastMark_is L g wx (h.keep hx) (near_may hm))
  obtain ⟨a, c, rfl⟩ : ∃ a c, g = .slice a L.l.length c := by
    obtain ⟨a, c, e, _⟩ := h.open
    exact ⟨a, c, e⟩
  unfold lastL
  unfold logV logA at *
  generalize lasM L = mk at *
  obtain ⟨mi, mt⟩ := mk
  obtain ⟨bi, bt, l, cm⟩ := L
  simp only at H1 H2 T0 ⊢
  clear h
  cases hb : mayB ⟨bi, bt, l, cm⟩
  · rw [hb] at H1
    simp only [Bool.false_eq_true, if_false]
    go_enter Try.func15, Try.ntmps15
    go_wp2_with fail
    refine H1.out.mono ?_
    rintro e w1 ⟨rfl, hbl⟩
    dsimp only
    have T1 := hideIt (T0.out.keep hbl)
    obtain ⟨_, _, _, _, r0, r1, rf⟩ := T1.out.cells
    have HP := T1.out.put (.int .i64 0) (.int .i64 0)
    clear hbl H2 T0
    go_wp2
    obtain ⟨e1, e2⟩ := HP.out
    revert e1 e2
    generalize (World.setCell _ ⟨w.heap.size + 1, 1, none⟩ _) = WF
    intro e1 e2
    exact bodyPost_ret (v := .agg #[.int .i64 0, .int .i64 0]) (by simp [results, Try.results15, go_sem, cell_at e1]) rfl ⟨rfl, e2⟩
  · rw [hb] at H1
    simp only [if_true]
    have H3 := hideIt (fun wx hx => H2.out wx hx hb)
    clear H2 hb
    go_enter Try.func15, Try.ntmps15
    go_wp2_with fail
    refine H1.out.mono ?_
    rintro e w1 ⟨rfl, hbl⟩
    dsimp only
    have T1 := hideIt (T0.out.keep hbl)
    obtain ⟨c0, c1, c2, c3⟩ := T1.out.four
    simp only at c0 c1 c2 c3
    clear hbl T0
    go_wp2_with fail
    refine (H3.out _ T1.out.bel).mono ?_
    rintro e w2 ⟨rfl, hbl⟩
    dsimp only
    have T2 := hideIt (T1.out.keep hbl)
    obtain ⟨_, _, _, _, r0, r1, rf⟩ := T2.out.cells
    have HP := T2.out.put (.int .i64 mi) (.int .i64 mt)
    clear hbl H3 T1 c0 c1 c2 c3
    go_wp2
    obtain ⟨e1, e2⟩ := HP.out
    revert e1 e2
    generalize (World.setCell _ ⟨w.heap.size + 1, 1, none⟩ _) = WF
    intro e1 e2
    exact bodyPost_ret (v := .agg #[.int .i64 mi, .int .i64 mt]) (by simp [results, Try.results15, go_sem, cell_at e1]) rfl ⟨rfl, e2⟩
end Go.Proofs.Ytonhoopmhkomcaa
