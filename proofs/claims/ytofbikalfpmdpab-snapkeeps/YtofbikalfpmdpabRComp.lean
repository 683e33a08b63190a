/- What the document's Compact answers. -/
import Derived.Test.YtofbikalfpmdpabComp
namespace Go.Proofs.Ytofbikalfpmdpab
open Go.RowKit
set_option maxHeartbeats 8000000 in
set_option maxRecDepth 100000 in
theorem rCompact_is (L : LogV) (g : Value) (i : Int) (w : World) (h : EGot w g L.l) : Calls Try.prog 13 #[logV L g, .int .i64 i] w (LogErr (compL L i) w) := by
  have T0 := hideIt (Duo.first w L g)
  have H1 := hideIt (rCheck_is L g _ (h.keep T0.out.bel))
  have hh := hideIt h
  unfold LogErr compL
  cases hm : mayB L
  · rw [show chkI L = 80 by simp [chkI, hm]] at H1
    simp only [Bool.false_eq_true, if_false]
    obtain ⟨a, c, rfl⟩ := h.slice
    unfold logV logA at *
    obtain ⟨bi, bt, l, cm⟩ := L
    simp only at H1 T0 ⊢
    clear h
    go_enter Try.func13, Try.ntmps13
    go_wp2_with fail
    refine H1.out.mono ?_
    rintro e w1 ⟨rfl, hbl⟩
    dsimp only
    have T1 := hideIt (T0.out.keep hbl)
    obtain ⟨z0, z1, z2, z3, zf⟩ := T1.out.zero
    have HP := T1.out.put (.int .i64 0) (.int .i64 0) (.slice none 0 0) (.int .i64 0)
    clear T0 T1 H1 hbl
    obtain ⟨e1, e2⟩ := HP.out
    clear HP
    go_wp2
    revert e1 e2
    generalize (World.setCell _ ⟨w.heap.size + 1, 3, none⟩ _) = W
    intro e1 e2
    exact bodyPost_ret (v := .tuple #[logV zL (.slice none 0 0), .int .i64 90]) (by simp [results, Try.results13, go_sem, cell_at e1, logV, logA, zL]) rfl ⟨_, rfl, own_nil _ _, e2⟩
  · rw [show chkI L = 0 by simp [chkI, hm]] at H1
    simp only [if_true]
    by_cases hi : L.bi < i ∧ i ≤ L.cm
    · rw [if_pos hi]
      obtain ⟨hi1, hi2⟩ := hi
      have hin := mayB_in hm
      have HTA := hideIt (fun wx (hx : Below w.heap.size w wx) => rTermAt_is L g i wx (h.keep hx))
      have HCF := hideIt (fun wx (hx : Below w.heap.size w wx) => behind_is L g i wx (h.keep hx) ⟨by omega, by omega⟩ ⟨by omega, by omega⟩ (by omega))
      unfold EntsBack at HCF
      generalize L.l.drop (i - L.bi).toNat = D at *
      generalize termL L i = tm at *
      obtain ⟨tt, tb⟩ := tm
      obtain ⟨a, c, rfl⟩ := h.slice
      unfold logV logA at *
      obtain ⟨bi, bt, l, cm⟩ := L
      simp only at H1 T0 HTA HCF hi1 hi2 ⊢
      have hiA : ¬ (i ≤ bi) := by omega
      have hiB : ¬ (cm < i) := by omega
      clear h hin
      go_enter Try.func13, Try.ntmps13
      go_wp2_with fail
      refine H1.out.mono ?_
      rintro e w1 ⟨rfl, hbl⟩
      dsimp only
      have T1 := hideIt (T0.out.keep hbl)
      obtain ⟨c0, c1, c2, c3⟩ := T1.out.cells
      simp only at c0 c1 c2 c3
      clear T0 H1 hbl
      go_wp2_with fail
      refine (HTA.out _ T1.out.bel).mono ?_
      rintro e w3 ⟨rfl, hbl⟩
      dsimp only
      have T3 := hideIt (T1.out.keep hbl)
      clear hbl HTA c0 c1 c2 c3 T1
      go_upto_region 6 with fail
      have T3d := T3.out.drew
      have HR := hideIt (HCF.out w3.drew T3d.bel)
      refine wp_region_held_drew (S := fun w' => w'.cell? ⟨w.heap.size, 0, none⟩ = some (.int .i64 bi) ∧ w'.cell? ⟨w.heap.size, 1, none⟩ = some (.int .i64 bt) ∧ w'.cell? ⟨w.heap.size, 2, none⟩ = some (.slice a l.length c) ∧ w'.cell? ⟨w.heap.size, 3, none⟩ = some (.int .i64 cm)) (by kernel_rfl) T3d.cells (fun hHeld => ?_)
      refine wpAnyH_take (i := 0) (oi := ⟨some 30, _, _, _, _, _⟩) (v := ?_) rfl (by kernel_rfl) (by kernel_rfl) (by kernel_rfl) (fun _ _ _ h => h) (Or.inl ⟨by rfl, ?_⟩) (by assumption) ?_
      rotate_left
      · intro w5 hSw
        (try dsimp only at hSw)
        go_simp
        (try with_reducible rfl)
      try simp only [Act.put, List.setIfInBounds_toArray, List.set_cons_zero, List.set_cons_succ]
      refine wpAnyH_take (i := 1) (oi := ⟨some 31, _, _, _, _, _⟩) (v := ?_) rfl (by kernel_rfl) (by kernel_rfl) (by kernel_rfl) (fun _ _ _ h => h) (Or.inl ⟨by rfl, ?_⟩) (by assumption) ?_
      rotate_left
      · intro w5 hSw
        (try dsimp only at hSw)
        go_simp
        (try with_reducible rfl)
      try simp only [Act.put, List.setIfInBounds_toArray, List.set_cons_zero, List.set_cons_succ]
      refine wpAnyH_take (i := 2) (oi := ⟨some 32, _, _, _, _, _⟩) (v := ?_) rfl (by kernel_rfl) (by kernel_rfl) (by kernel_rfl) (fun _ _ _ h => h) (Or.inl ⟨by rfl, ?_⟩) (by assumption) ?_
      rotate_left
      · intro w5 hSw
        (try dsimp only at hSw)
        go_simp
        (try with_reducible rfl)
      try simp only [Act.put, List.setIfInBounds_toArray, List.set_cons_zero, List.set_cons_succ]
      refine wpAnyH_take (i := 3) (oi := ⟨some 33, _, _, _, _, _⟩) (v := ?_) rfl (by kernel_rfl) (by kernel_rfl) (by kernel_rfl) (fun _ _ _ h => h) (Or.inl ⟨by rfl, ?_⟩) (by assumption) ?_
      rotate_left
      · intro w5 hSw
        (try dsimp only at hSw)
        go_simp
        (try with_reducible rfl)
      try simp only [Act.put, List.setIfInBounds_toArray, List.set_cons_zero, List.set_cons_succ]
      refine wpAnyH_take (i := 4) (oi := ⟨some 34, _, _, _, _, _⟩) (v := ?_) rfl (by kernel_rfl) (by kernel_rfl) (by kernel_rfl) (fun _ _ _ h => h) (Or.inl ⟨by rfl, ?_⟩) (by assumption) ?_
      rotate_left
      · intro w5 hSw
        (try dsimp only at hSw)
        go_simp
        (try with_reducible rfl)
      try simp only [Act.put, List.setIfInBounds_toArray, List.set_cons_zero, List.set_cons_succ]
      refine wpAnyH_take (i := 6) (oi := ⟨some 36, _, _, _, _, _⟩) (v := ?_) rfl (by kernel_rfl) (by kernel_rfl) (by kernel_rfl) (fun _ _ _ h => h) (Or.inl ⟨by rfl, ?_⟩) (by assumption) ?_
      rotate_left
      · intro w5 hSw
        (try dsimp only at hSw)
        go_simp
        (try with_reducible rfl)
      try simp only [Act.put, List.setIfInBounds_toArray, List.set_cons_zero, List.set_cons_succ]
      refine wpAnyH_take (i := 7) (oi := ⟨some 37, _, _, _, _, _⟩) (v := ?_) rfl (by kernel_rfl) (by kernel_rfl) (by kernel_rfl) (fun _ _ _ h => h) (Or.inl ⟨by rfl, ?_⟩) (by assumption) ?_
      rotate_left
      · intro w5 hSw
        (try dsimp only at hSw)
        go_simp
        (try with_reducible rfl)
      try simp only [Act.put, List.setIfInBounds_toArray, List.set_cons_zero, List.set_cons_succ]
      refine wpAnyH_ready (rs := [5]) (by kernel_rfl) (by simp) ?_
      refine AllReadyH.cons (o := ⟨some 35, _, _, _, _, _⟩) rfl (fun K hK => ?_) AllReadyH.nil
      go_simp
      go_at_call 33
      refine HR.out.mono ?_
      rintro e w4 ⟨r, rfl, ho, hbl⟩
      have T4 := hideIt (T3d.keep hbl)
      refine hK.out _ _ T4.out.cells (fun hHeld => ?_)
      obtain ⟨ra, rc, rfl⟩ := own_len ho
      have HO := hideIt (own4 (R := w.heap.size + 1) (.int .i64 i) (.int .i64 tt) (.slice ra D.length rc) (.int .i64 cm) ho (by have := T3d.size; omega) w.heap.size (by have := T3d.size; omega)).out
      have HP := T4.out.put (.int .i64 i) (.int .i64 tt) (.slice ra D.length rc) (.int .i64 cm)
      have HS : Hid (((((w4.setCell ⟨w.heap.size + 1, 0, none⟩ (.int .i64 i)).setCell ⟨w.heap.size + 1, 1, none⟩ (.int .i64 tt)).setCell ⟨w.heap.size + 1, 2, none⟩ (.slice ra D.length rc)).setCell ⟨w.heap.size + 1, 3, none⟩ (.int .i64 cm)).cell? ⟨w.heap.size, 0, none⟩ = some (.int .i64 bi) ∧ ((((w4.setCell ⟨w.heap.size + 1, 0, none⟩ (.int .i64 i)).setCell ⟨w.heap.size + 1, 1, none⟩ (.int .i64 tt)).setCell ⟨w.heap.size + 1, 2, none⟩ (.slice ra D.length rc)).setCell ⟨w.heap.size + 1, 3, none⟩ (.int .i64 cm)).cell? ⟨w.heap.size, 1, none⟩ = some (.int .i64 bt) ∧ ((((w4.setCell ⟨w.heap.size + 1, 0, none⟩ (.int .i64 i)).setCell ⟨w.heap.size + 1, 1, none⟩ (.int .i64 tt)).setCell ⟨w.heap.size + 1, 2, none⟩ (.slice ra D.length rc)).setCell ⟨w.heap.size + 1, 3, none⟩ (.int .i64 cm)).cell? ⟨w.heap.size, 2, none⟩ = some (.slice a l.length c) ∧ ((((w4.setCell ⟨w.heap.size + 1, 0, none⟩ (.int .i64 i)).setCell ⟨w.heap.size + 1, 1, none⟩ (.int .i64 tt)).setCell ⟨w.heap.size + 1, 2, none⟩ (.slice ra D.length rc)).setCell ⟨w.heap.size + 1, 3, none⟩ (.int .i64 cm)).cell? ⟨w.heap.size, 3, none⟩ = some (.int .i64 cm)) := by
        have hx := setOther (j := 3) (b := w.heap.size + 1) (.int .i64 cm) (setOther (j := 2) (b := w.heap.size + 1) (.slice ra D.length rc) (setOther (j := 1) (b := w.heap.size + 1) (.int .i64 tt) (setOther (j := 0) (b := w.heap.size + 1) (.int .i64 i) T4.out.box (by omega)) (by omega)) (by omega)) (by omega)
        exact ⟨by rw [cell_at hx]; rfl, by rw [cell_at hx]; rfl, by rw [cell_at hx]; rfl, by rw [cell_at hx]; rfl⟩
      obtain ⟨z0, z1, z2, z3, zf⟩ := T4.out.zero
      clear hK K ho hbl HR HCF T3 T3d T4
      try simp only [Act.put, List.setIfInBounds_toArray, List.set_cons_zero, List.set_cons_succ]
      refine wpAnyH_take (i := 8) (oi := ⟨some 38, _, _, _, _, _⟩) (v := ?_) rfl (by kernel_rfl) (by kernel_rfl) (by kernel_rfl) (fun _ _ _ h => h) (Or.inl ⟨by rfl, ?_⟩) (by assumption) ?_
      rotate_left
      · intro w5 hSw
        (try dsimp only at hSw)
        go_simp
        (try with_reducible rfl)
      try simp only [Act.put, List.setIfInBounds_toArray, List.set_cons_zero, List.set_cons_succ]
      refine wpAnyH_ready (rs := [9]) (by kernel_rfl) (by simp) ?_
      refine AllReadyH.cons (o := ⟨none, _, _, _, _, _⟩) rfl (fun K hK => ?_) AllReadyH.nil
      go_simp
      refine hK.out _ _ HS.out (fun hHeld => ?_)
      clear hK K
      generalize ((((w4.setCell ⟨w.heap.size + 1, 0, none⟩ (.int .i64 i)).setCell ⟨w.heap.size + 1, 1, none⟩ (.int .i64 tt)).setCell ⟨w.heap.size + 1, 2, none⟩ (.slice ra D.length rc)).setCell ⟨w.heap.size + 1, 3, none⟩ (.int .i64 cm)) = W at *
      try simp only [Act.put, List.setIfInBounds_toArray, List.set_cons_zero, List.set_cons_succ]
      refine wpAnyH_take (i := 10) (oi := ⟨some 5, _, _, _, _, _⟩) (v := ?_) rfl (by kernel_rfl) (by kernel_rfl) (by kernel_rfl) (fun _ _ _ h => h) (Or.inl ⟨by rfl, ?_⟩) (by assumption) ?_
      rotate_left
      · intro w5 hSw
        (try dsimp only at hSw)
        go_simp
        (try with_reducible rfl)
      try simp only [Act.put, List.setIfInBounds_toArray, List.set_cons_zero, List.set_cons_succ]
      refine wpAnyH_done (by kernel_rfl) ?_ _
      clear z0 z1 z2 z3 zf hHeld HS
      go_wp2
      obtain ⟨e1, e2⟩ := HP.out
      exact bodyPost_ret (v := .tuple #[logV ⟨i, tt, D, cm⟩ (.slice ra D.length rc), .int .i64 0]) (by simp [results, Try.results13, go_sem, cell_at e1, logV, logA]) rfl ⟨_, rfl, HO.out, e2⟩
    · rw [if_neg hi]
      obtain ⟨a, c, rfl⟩ := h.slice
      unfold logV logA at *
      obtain ⟨bi, bt, l, cm⟩ := L
      simp only at H1 T0 hi ⊢
      clear h
      by_cases hiA : i ≤ bi
      · clear hi
        go_enter Try.func13, Try.ntmps13
        go_wp2_with fail
        refine H1.out.mono ?_
        rintro e w1 ⟨rfl, hbl⟩
        dsimp only
        have T1 := hideIt (T0.out.keep hbl)
        obtain ⟨c0, c1, c2, c3⟩ := T1.out.cells
        simp only at c0 c1 c2 c3
        obtain ⟨z0, z1, z2, z3, zf⟩ := T1.out.zero
        have HP := T1.out.put (.int .i64 0) (.int .i64 0) (.slice none 0 0) (.int .i64 0)
        clear T0 T1 H1 hbl
        obtain ⟨e1, e2⟩ := HP.out
        clear HP
        go_wp2
        revert e1 e2
        generalize (World.setCell _ ⟨w.heap.size + 1, 3, none⟩ _) = W
        intro e1 e2
        exact bodyPost_ret (v := .tuple #[logV zL (.slice none 0 0), .int .i64 91]) (by simp [results, Try.results13, go_sem, cell_at e1, logV, logA, zL]) rfl ⟨_, rfl, own_nil _ _, e2⟩
      · have hiB : cm < i := by omega
        clear hi
        go_enter Try.func13, Try.ntmps13
        go_wp2_with fail
        refine H1.out.mono ?_
        rintro e w1 ⟨rfl, hbl⟩
        dsimp only
        have T1 := hideIt (T0.out.keep hbl)
        obtain ⟨c0, c1, c2, c3⟩ := T1.out.cells
        simp only at c0 c1 c2 c3
        obtain ⟨z0, z1, z2, z3, zf⟩ := T1.out.zero
        have HP := T1.out.put (.int .i64 0) (.int .i64 0) (.slice none 0 0) (.int .i64 0)
        clear T0 T1 H1 hbl
        obtain ⟨e1, e2⟩ := HP.out
        clear HP
        go_wp2
        revert e1 e2
        generalize (World.setCell _ ⟨w.heap.size + 1, 3, none⟩ _) = W
        intro e1 e2
        exact bodyPost_ret (v := .tuple #[logV zL (.slice none 0 0), .int .i64 91]) (by simp [results, Try.results13, go_sem, cell_at e1, logV, logA, zL]) rfl ⟨_, rfl, own_nil _ _, e2⟩
end Go.Proofs.Ytofbikalfpmdpab
