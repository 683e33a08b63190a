/- What is given and taken: the document's moves. -/
import Derived.Test.YtjinhiabnpmiaaaRefC
namespace Go.Proofs.Ytjinhiabnpmiaaa
open Go.RowKit
set_option maxHeartbeats 16000000 in
set_option maxRecDepth 100000 in
theorem moves_more (A : AccV) (g : Value) (a n : Int) (w : World) (h : AGot w g A.l) : Calls Try.prog 28 #[accV A g, .int .i64 a, .int .i64 n, .int .i64 1] w (AccErr (credL A a n) w) := by
  have T0 := hideIt (Duo.first w A g)
  have H1 := hideIt (rCheck_is A g _ (h.keep T0.out.bel))
  have HBA := hideIt (fun wx (hx : Below w.heap.size w wx) => rBalance_is A g a wx (h.keep hx))
  have HST := hideIt (fun m wx (hx : Below w.heap.size w wx) (hl : A.l.length ≤ 100) => set_any g A.l a m wx (h.keep hx) hl)
  unfold AccErr credL refI
  unfold chkI at H1
  obtain ⟨ga, gc, rfl⟩ := h.slice
  cases hA : accB A
  · rw [hA] at H1
    obtain ⟨l, ct⟩ := A
    unfold accV accA at *
    simp only [Bool.false_eq_true, if_false] at H1 T0 ⊢
    rw [if_neg (by decide)]
    clear h hA HBA HST
    go_enter Try.func28, Try.ntmps28
    go_wp2_with fail
    refine H1.out.mono ?_
    rintro e w1 ⟨rfl, hbl⟩
    dsimp only
    have T1 := hideIt (T0.out.keep hbl)
    obtain ⟨z0, z1, zf⟩ := T1.out.zero
    have HP := T1.out.put (.slice none 0 0) (.int .i64 0)
    clear T0 T1 H1 hbl
    obtain ⟨e1, e2⟩ := HP.out
    clear HP
    go_wp2
    revert e1 e2
    generalize (World.setCell _ ⟨w.heap.size + 1, 1, none⟩ _) = W
    intro e1 e2
    exact bodyPost_ret (v := .tuple #[accV zA (.slice none 0 0), .int .i64 120]) (by simp [results, Try.results28, go_sem, cell_at e1, accV, accA, zA]) rfl ⟨_, rfl, own_nil _ _, e2⟩
  rw [hA] at H1
  obtain ⟨hA1, hA2, hA3⟩ := accB_in hA
  have hb := bal_in A.l _ a hA1
  have HSI := hideIt (fun m => set_is (l := A.l) (a := a) (n := m) hA1)
  have HLN : Hid (A.l.length ≤ 100) := by
    show _ ≤ _
    rw [← canon (s := fun k : Nat => balL A.l k) hA1 (fun _ _ => rfl)]
    have := pre_len (fun k : Nat => balL A.l k) 4
    omega
  obtain ⟨l, ct⟩ := A
  unfold accV accA at *
  simp only [if_true] at H1 T0 HBA HST HSI HLN hb hA2 hA3 ⊢
  clear h hA
  by_cases h1 : a < 0
  · rw [show wiB a 0 3 = false by simp [wiB]; omega]
    simp only [Bool.false_and, Bool.false_eq_true, if_false]
    rw [if_neg (by decide)]
    clear HBA HST HSI HLN hb
    go_enter Try.func28, Try.ntmps28
    go_wp2_with fail
    refine H1.out.mono ?_
    rintro e w1 ⟨rfl, hbl⟩
    dsimp only
    have T1 := hideIt (T0.out.keep hbl)
    obtain ⟨z0, z1, zf⟩ := T1.out.zero
    have HP := T1.out.put (.slice none 0 0) (.int .i64 0)
    clear T0 T1 H1 hbl
    obtain ⟨e1, e2⟩ := HP.out
    clear HP
    go_wp2
    revert e1 e2
    generalize (World.setCell _ ⟨w.heap.size + 1, 1, none⟩ _) = W
    intro e1 e2
    exact bodyPost_ret (v := .tuple #[accV zA (.slice none 0 0), .int .i64 1]) (by simp [results, Try.results28, go_sem, cell_at e1, accV, accA, zA]) rfl ⟨_, rfl, own_nil _ _, e2⟩
  have h1I : 0 ≤ a := by omega
  by_cases h2 : 3 < a
  · rw [show wiB a 0 3 = false by simp [wiB]; omega]
    simp only [Bool.false_and, Bool.false_eq_true, if_false]
    rw [if_neg (by decide)]
    clear HBA HST HSI HLN hb
    go_enter Try.func28, Try.ntmps28
    go_wp2_with fail
    refine H1.out.mono ?_
    rintro e w1 ⟨rfl, hbl⟩
    dsimp only
    have T1 := hideIt (T0.out.keep hbl)
    obtain ⟨z0, z1, zf⟩ := T1.out.zero
    have HP := T1.out.put (.slice none 0 0) (.int .i64 0)
    clear T0 T1 H1 hbl
    obtain ⟨e1, e2⟩ := HP.out
    clear HP
    go_wp2
    revert e1 e2
    generalize (World.setCell _ ⟨w.heap.size + 1, 1, none⟩ _) = W
    intro e1 e2
    exact bodyPost_ret (v := .tuple #[accV zA (.slice none 0 0), .int .i64 1]) (by simp [results, Try.results28, go_sem, cell_at e1, accV, accA, zA]) rfl ⟨_, rfl, own_nil _ _, e2⟩
  have h2I : a ≤ 3 := by omega
  by_cases h3 : n < 1
  · rw [show wiB n 1 9007199254740992 = false by simp [wiB]; omega]
    simp only [Bool.and_false, Bool.false_eq_true, if_false]
    rw [if_neg (by decide)]
    clear HBA HST HSI HLN hb
    go_enter Try.func28, Try.ntmps28
    go_wp2_with fail
    refine H1.out.mono ?_
    rintro e w1 ⟨rfl, hbl⟩
    dsimp only
    have T1 := hideIt (T0.out.keep hbl)
    obtain ⟨z0, z1, zf⟩ := T1.out.zero
    have HP := T1.out.put (.slice none 0 0) (.int .i64 0)
    clear T0 T1 H1 hbl
    obtain ⟨e1, e2⟩ := HP.out
    clear HP
    go_wp2
    revert e1 e2
    generalize (World.setCell _ ⟨w.heap.size + 1, 1, none⟩ _) = W
    intro e1 e2
    exact bodyPost_ret (v := .tuple #[accV zA (.slice none 0 0), .int .i64 1]) (by simp [results, Try.results28, go_sem, cell_at e1, accV, accA, zA]) rfl ⟨_, rfl, own_nil _ _, e2⟩
  have h3I : 1 ≤ n := by omega
  by_cases h4 : 9007199254740992 < n
  · rw [show wiB n 1 9007199254740992 = false by simp [wiB]; omega]
    simp only [Bool.and_false, Bool.false_eq_true, if_false]
    rw [if_neg (by decide)]
    clear HBA HST HSI HLN hb
    go_enter Try.func28, Try.ntmps28
    go_wp2_with fail
    refine H1.out.mono ?_
    rintro e w1 ⟨rfl, hbl⟩
    dsimp only
    have T1 := hideIt (T0.out.keep hbl)
    obtain ⟨z0, z1, zf⟩ := T1.out.zero
    have HP := T1.out.put (.slice none 0 0) (.int .i64 0)
    clear T0 T1 H1 hbl
    obtain ⟨e1, e2⟩ := HP.out
    clear HP
    go_wp2
    revert e1 e2
    generalize (World.setCell _ ⟨w.heap.size + 1, 1, none⟩ _) = W
    intro e1 e2
    exact bodyPost_ret (v := .tuple #[accV zA (.slice none 0 0), .int .i64 1]) (by simp [results, Try.results28, go_sem, cell_at e1, accV, accA, zA]) rfl ⟨_, rfl, own_nil _ _, e2⟩
  have h4I : n ≤ 9007199254740992 := by omega
  rw [show wiB n 1 9007199254740992 = true by simp [wiB]; omega, show wiB a 0 3 = true by simp [wiB]; omega]
  simp only [Bool.and_self, if_true]
  obtain ⟨b1, b2⟩ := hb
  by_cases h5 : 9007199254740992 < balL l a + n
  · rw [if_pos (.inl h5)]
    clear HST HSI HLN
    generalize balL l a = B at *
    go_enter Try.func28, Try.ntmps28
    go_wp2_with fail
    refine H1.out.mono ?_
    rintro e w1 ⟨rfl, hbl⟩
    dsimp only
    have T1 := hideIt (T0.out.keep hbl)
    obtain ⟨c0, c1⟩ := T1.out.cells
    simp only at c0 c1
    clear T0 H1 hbl
    go_wp2_with fail
    refine (HBA.out _ T1.out.bel).mono ?_
    rintro e w2 ⟨rfl, hbl⟩
    dsimp only
    have T2 := hideIt (T1.out.keep hbl)
    clear c0 c1 T1 hbl HBA
    obtain ⟨c0, c1⟩ := T2.out.cells
    simp only at c0 c1
    obtain ⟨z0, z1, zf⟩ := T2.out.zero
    have HP := T2.out.put (.slice none 0 0) (.int .i64 0)
    clear T2
    obtain ⟨e1, e2⟩ := HP.out
    clear HP
    go_wp2
    revert e1 e2
    generalize (World.setCell _ ⟨w.heap.size + 1, 1, none⟩ _) = W
    intro e1 e2
    exact bodyPost_ret (v := .tuple #[accV zA (.slice none 0 0), .int .i64 122]) (by simp [results, Try.results28, go_sem, cell_at e1, accV, accA, zA]) rfl ⟨_, rfl, own_nil _ _, e2⟩
  · have h5I : balL l a + n ≤ 9007199254740992 := by omega
    have HST2 := hideIt (fun wx hx => HST.out (balL l a + n) wx hx HLN.out)
    rw [HSI.out n ⟨h1I, h2I⟩ ⟨by omega, h5I⟩] at HST2
    clear HST HSI HLN
    generalize pre (moreS l a n) 4 = D at *
    generalize balL l a = B at *
    have HST := HST2
    by_cases h6 : ct = 1000000000
    · rw [if_pos (.inr h6)]
      subst h6
      clear HST HST2
      go_enter Try.func28, Try.ntmps28
      go_wp2_with fail
      refine H1.out.mono ?_
      rintro e w1 ⟨rfl, hbl⟩
      dsimp only
      have T1 := hideIt (T0.out.keep hbl)
      obtain ⟨c0, c1⟩ := T1.out.cells
      simp only at c0 c1
      clear T0 H1 hbl
      go_wp2_with fail
      refine (HBA.out _ T1.out.bel).mono ?_
      rintro e w2 ⟨rfl, hbl⟩
      dsimp only
      have T2 := hideIt (T1.out.keep hbl)
      clear c0 c1 T1 hbl HBA
      obtain ⟨c0, c1⟩ := T2.out.cells
      simp only at c0 c1
      obtain ⟨z0, z1, zf⟩ := T2.out.zero
      have HP := T2.out.put (.slice none 0 0) (.int .i64 0)
      clear T2
      obtain ⟨e1, e2⟩ := HP.out
      clear HP
      go_wp2
      revert e1 e2
      generalize (World.setCell _ ⟨w.heap.size + 1, 1, none⟩ _) = W
      intro e1 e2
      exact bodyPost_ret (v := .tuple #[accV zA (.slice none 0 0), .int .i64 122]) (by simp [results, Try.results28, go_sem, cell_at e1, accV, accA, zA]) rfl ⟨_, rfl, own_nil _ _, e2⟩
    · have h6b : (ct == 1000000000) = false := beq_eq_false_iff_ne.2 h6
      rw [if_neg (by omega)]
      have hwc : IntKind.i64.wrap (ct + 1) = ct + 1 := wrap_ok (by omega) (by omega)
      have hwn : IntKind.i64.wrap n = n := wrap_ok (by omega) (by omega)
      have hwb : IntKind.i64.wrap (B + n) = B + n := wrap_ok (by omega) (by omega)
      clear HST2 h6
      go_enter Try.func28, Try.ntmps28
      go_wp2_with fail
      refine H1.out.mono ?_
      rintro e w1 ⟨rfl, hbl⟩
      dsimp only
      have T1 := hideIt (T0.out.keep hbl)
      obtain ⟨c0, c1⟩ := T1.out.cells
      simp only at c0 c1
      clear T0 H1 hbl
      go_wp2_with fail
      refine (HBA.out _ T1.out.bel).mono ?_
      rintro e w2 ⟨rfl, hbl⟩
      dsimp only
      have T2 := hideIt (T1.out.keep hbl)
      clear c0 c1 T1 hbl HBA
      obtain ⟨c0, c1⟩ := T2.out.cells
      simp only at c0 c1
      go_upto_region 10 with fail
      have T4 := hideIt T2.out.drew
      have HAM := hideIt (HST.out w2.drew T4.out.bel)
      clear HST T2 c0 c1
      refine wp_region_held_drew (S := fun w' => w'.cell? ⟨w.heap.size, 0, none⟩ = some (.slice ga l.length gc) ∧ w'.cell? ⟨w.heap.size, 1, none⟩ = some (.int .i64 ct)) (by kernel_rfl) T4.out.cells (fun hHeld => ?_)
      refine wpAnyH_take (i := 0) (oi := ⟨some 53, _, _, _, _, _⟩) (v := ?_) rfl (by kernel_rfl) (by kernel_rfl) (by kernel_rfl) (fun _ _ _ h => h) (Or.inl ⟨by rfl, ?_⟩) (by assumption) ?_
      rotate_left
      · intro w5 hSw
        (try dsimp only at hSw)
        go_simp
        (try with_reducible rfl)
      try simp only [Act.put, List.setIfInBounds_toArray, List.set_cons_zero, List.set_cons_succ]
      refine wpAnyH_take (i := 1) (oi := ⟨some 54, _, _, _, _, _⟩) (v := ?_) rfl (by kernel_rfl) (by kernel_rfl) (by kernel_rfl) (fun _ _ _ h => h) (Or.inl ⟨by rfl, ?_⟩) (by assumption) ?_
      rotate_left
      · intro w5 hSw
        (try dsimp only at hSw)
        go_simp
        (try with_reducible rfl)
      try simp only [Act.put, List.setIfInBounds_toArray, List.set_cons_zero, List.set_cons_succ]
      refine wpAnyH_take (i := 2) (oi := ⟨some 55, _, _, _, _, _⟩) (v := ?_) rfl (by kernel_rfl) (by kernel_rfl) (by kernel_rfl) (fun _ _ _ h => h) (Or.inl ⟨by rfl, ?_⟩) (by assumption) ?_
      rotate_left
      · intro w5 hSw
        (try dsimp only at hSw)
        go_simp
        (try with_reducible rfl)
      try simp only [Act.put, List.setIfInBounds_toArray, List.set_cons_zero, List.set_cons_succ]
      refine wpAnyH_take (i := 3) (oi := ⟨some 56, _, _, _, _, _⟩) (v := ?_) rfl (by kernel_rfl) (by kernel_rfl) (by kernel_rfl) (fun _ _ _ h => h) (Or.inl ⟨by rfl, ?_⟩) (by assumption) ?_
      rotate_left
      · intro w5 hSw
        (try dsimp only at hSw)
        go_simp
        (try with_reducible rfl)
      try simp only [Act.put, List.setIfInBounds_toArray, List.set_cons_zero, List.set_cons_succ]
      refine wpAnyH_take (i := 4) (oi := ⟨some 57, _, _, _, _, _⟩) (v := ?_) rfl (by kernel_rfl) (by kernel_rfl) (by kernel_rfl) (fun _ _ _ h => h) (Or.inl ⟨by rfl, ?_⟩) (by assumption) ?_
      rotate_left
      · intro w5 hSw
        (try dsimp only at hSw)
        go_simp
        (try with_reducible rfl)
      try simp only [Act.put, List.setIfInBounds_toArray, List.set_cons_zero, List.set_cons_succ]
      refine wpAnyH_take (i := 5) (oi := ⟨some 58, _, _, _, _, _⟩) (v := ?_) rfl (by kernel_rfl) (by kernel_rfl) (by kernel_rfl) (fun _ _ _ h => h) (Or.inl ⟨by rfl, ?_⟩) (by assumption) ?_
      rotate_left
      · intro w5 hSw
        (try dsimp only at hSw)
        go_simp
        (try with_reducible rfl)
      try simp only [Act.put, List.setIfInBounds_toArray, List.set_cons_zero, List.set_cons_succ]
      refine wpAnyH_take (i := 6) (oi := ⟨some 59, _, _, _, _, _⟩) (v := ?_) rfl (by kernel_rfl) (by kernel_rfl) (by kernel_rfl) (fun _ _ _ h => h) (Or.inl ⟨by rfl, ?_⟩) (by assumption) ?_
      rotate_left
      · intro w5 hSw
        (try dsimp only at hSw)
        go_simp
        (try with_reducible rfl)
      try simp only [Act.put, List.setIfInBounds_toArray, List.set_cons_zero, List.set_cons_succ]
      refine wpAnyH_take (i := 7) (oi := ⟨some 60, _, _, _, _, _⟩) (v := ?_) rfl (by kernel_rfl) (by kernel_rfl) (by kernel_rfl) (fun _ _ _ h => h) (Or.inl ⟨by rfl, ?_⟩) (by assumption) ?_
      rotate_left
      · intro w5 hSw
        (try dsimp only at hSw)
        go_simp
        (try with_reducible rfl)
      try simp only [Act.put, List.setIfInBounds_toArray, List.set_cons_zero, List.set_cons_succ]
      refine wpAnyH_take (i := 9) (oi := ⟨some 62, _, _, _, _, _⟩) (v := ?_) rfl (by kernel_rfl) (by kernel_rfl) (by kernel_rfl) (fun _ _ _ h => h) (Or.inl ⟨by rfl, ?_⟩) (by assumption) ?_
      rotate_left
      · intro w5 hSw
        (try dsimp only at hSw)
        go_simp
        (try with_reducible rfl)
      try simp only [Act.put, List.setIfInBounds_toArray, List.set_cons_zero, List.set_cons_succ]
      refine wpAnyH_take (i := 10) (oi := ⟨some 63, _, _, _, _, _⟩) (v := ?_) rfl (by kernel_rfl) (by kernel_rfl) (by kernel_rfl) (fun _ _ _ h => h) (Or.inl ⟨by rfl, ?_⟩) (by assumption) ?_
      rotate_left
      · intro w5 hSw
        (try dsimp only at hSw)
        go_simp
        (try with_reducible rfl)
      try simp only [Act.put, List.setIfInBounds_toArray, List.set_cons_zero, List.set_cons_succ]
      refine wpAnyH_take (i := 11) (oi := ⟨some 64, _, _, _, _, _⟩) (v := ?_) rfl (by kernel_rfl) (by kernel_rfl) (by kernel_rfl) (fun _ _ _ h => h) (Or.inl ⟨by rfl, ?_⟩) (by assumption) ?_
      rotate_left
      · intro w5 hSw
        (try dsimp only at hSw)
        go_simp
        (try with_reducible rfl)
      try simp only [Act.put, List.setIfInBounds_toArray, List.set_cons_zero, List.set_cons_succ]
      refine wpAnyH_ready (rs := [8]) (by kernel_rfl) (by simp) ?_
      refine AllReadyH.cons (o := ⟨some 61, _, _, _, _, _⟩) rfl (fun K hK => ?_) AllReadyH.nil
      go_simp
      go_at_call 33
      refine HAM.out.mono ?_
      rintro e w4 ⟨r, rfl, hm⟩
      have T5 := hideIt (T4.out.keep hm.bel)
      refine hK.out _ _ T5.out.cells (fun hHeld => ?_)
      obtain ⟨ra, rc, rfl⟩ := own_len hm.own
      have HO := hideIt (own2 (R := w.heap.size + 1) (.slice ra D.length rc) (.int .i64 (ct + 1)) hm.own (by have := T4.out.size; omega) w.heap.size (by have := T4.out.size; omega)).out
      have HP := T5.out.put (.slice ra D.length rc) (.int .i64 (ct + 1))
      have HS : Hid (((w4.setCell ⟨w.heap.size + 1, 0, none⟩ (.slice ra D.length rc)).setCell ⟨w.heap.size + 1, 1, none⟩ (.int .i64 (ct + 1))).cell? ⟨w.heap.size, 0, none⟩ = some (.slice ga l.length gc) ∧ ((w4.setCell ⟨w.heap.size + 1, 0, none⟩ (.slice ra D.length rc)).setCell ⟨w.heap.size + 1, 1, none⟩ (.int .i64 (ct + 1))).cell? ⟨w.heap.size, 1, none⟩ = some (.int .i64 ct)) := by
        show _ ∧ _
        rw [cell_at (setOther _ (setOther _ T5.out.box (by omega)) (by omega)), cell_at (setOther _ (setOther _ T5.out.box (by omega)) (by omega))]
        exact ⟨rfl, rfl⟩
      obtain ⟨z0, z1, zf⟩ := T5.out.zero
      clear hK K hm HAM T4 T5
      try simp only [Act.put, List.setIfInBounds_toArray, List.set_cons_zero, List.set_cons_succ]
      refine wpAnyH_take (i := 12) (oi := ⟨some 65, _, _, _, _, _⟩) (v := ?_) rfl (by kernel_rfl) (by kernel_rfl) (by kernel_rfl) (fun _ _ _ h => h) (Or.inl ⟨by rfl, ?_⟩) (by assumption) ?_
      rotate_left
      · intro w5 hSw
        (try dsimp only at hSw)
        go_simp
        (try with_reducible rfl)
      try simp only [Act.put, List.setIfInBounds_toArray, List.set_cons_zero, List.set_cons_succ]
      refine wpAnyH_ready (rs := [13]) (by kernel_rfl) (by simp) ?_
      refine AllReadyH.cons (o := ⟨none, _, _, _, _, _⟩) rfl (fun K hK => ?_) AllReadyH.nil
      go_simp
      refine hK.out _ _ HS.out (fun hHeld => ?_)
      clear hK K
      obtain ⟨e1, e2⟩ := HP.out
      have e3 := HO.out
      clear HP HO HS
      generalize ((w4.setCell ⟨w.heap.size + 1, 0, none⟩ (.slice ra D.length rc)).setCell ⟨w.heap.size + 1, 1, none⟩ (.int .i64 (ct + 1))) = W at *
      try simp only [Act.put, List.setIfInBounds_toArray, List.set_cons_zero, List.set_cons_succ]
      refine wpAnyH_take (i := 14) (oi := ⟨some 9, _, _, _, _, _⟩) (v := ?_) rfl (by kernel_rfl) (by kernel_rfl) (by kernel_rfl) (fun _ _ _ h => h) (Or.inl ⟨by rfl, ?_⟩) (by assumption) ?_
      rotate_left
      · intro w5 hSw
        (try dsimp only at hSw)
        go_simp
        (try with_reducible rfl)
      try simp only [Act.put, List.setIfInBounds_toArray, List.set_cons_zero, List.set_cons_succ]
      refine wpAnyH_done (by kernel_rfl) ?_ _
      go_wp2
      exact bodyPost_ret (v := .tuple #[accV ⟨D, ct + 1⟩ (.slice ra D.length rc), .int .i64 0]) (by simp [results, Try.results28, go_sem, cell_at e1, accV, accA]) rfl ⟨_, rfl, e3, e2⟩
set_option maxHeartbeats 16000000 in
set_option maxRecDepth 100000 in
theorem moves_less (A : AccV) (g : Value) (a n : Int) (w : World) (h : AGot w g A.l) : Calls Try.prog 28 #[accV A g, .int .i64 a, .int .i64 n, .int .i64 (-1)] w (AccErr (debL A a n) w) := by
  have T0 := hideIt (Duo.first w A g)
  have H1 := hideIt (rCheck_is A g _ (h.keep T0.out.bel))
  have HBA := hideIt (fun wx (hx : Below w.heap.size w wx) => rBalance_is A g a wx (h.keep hx))
  have HST := hideIt (fun m wx (hx : Below w.heap.size w wx) (hl : A.l.length ≤ 100) => set_any g A.l a m wx (h.keep hx) hl)
  unfold AccErr debL refI
  unfold chkI at H1
  obtain ⟨ga, gc, rfl⟩ := h.slice
  cases hA : accB A
  · rw [hA] at H1
    obtain ⟨l, ct⟩ := A
    unfold accV accA at *
    simp only [Bool.false_eq_true, if_false] at H1 T0 ⊢
    rw [if_neg (by decide)]
    clear h hA HBA HST
    go_enter Try.func28, Try.ntmps28
    go_wp2_with fail
    refine H1.out.mono ?_
    rintro e w1 ⟨rfl, hbl⟩
    dsimp only
    have T1 := hideIt (T0.out.keep hbl)
    obtain ⟨z0, z1, zf⟩ := T1.out.zero
    have HP := T1.out.put (.slice none 0 0) (.int .i64 0)
    clear T0 T1 H1 hbl
    obtain ⟨e1, e2⟩ := HP.out
    clear HP
    go_wp2
    revert e1 e2
    generalize (World.setCell _ ⟨w.heap.size + 1, 1, none⟩ _) = W
    intro e1 e2
    exact bodyPost_ret (v := .tuple #[accV zA (.slice none 0 0), .int .i64 120]) (by simp [results, Try.results28, go_sem, cell_at e1, accV, accA, zA]) rfl ⟨_, rfl, own_nil _ _, e2⟩
  rw [hA] at H1
  obtain ⟨hA1, hA2, hA3⟩ := accB_in hA
  have hb := bal_in A.l _ a hA1
  have HSI := hideIt (fun m => set_is (l := A.l) (a := a) (n := m) hA1)
  have HLN : Hid (A.l.length ≤ 100) := by
    show _ ≤ _
    rw [← canon (s := fun k : Nat => balL A.l k) hA1 (fun _ _ => rfl)]
    have := pre_len (fun k : Nat => balL A.l k) 4
    omega
  obtain ⟨l, ct⟩ := A
  unfold accV accA at *
  simp only [if_true] at H1 T0 HBA HST HSI HLN hb hA2 hA3 ⊢
  clear h hA
  by_cases h1 : a < 0
  · rw [show wiB a 0 3 = false by simp [wiB]; omega]
    simp only [Bool.false_and, Bool.false_eq_true, if_false]
    rw [if_neg (by decide)]
    clear HBA HST HSI HLN hb
    go_enter Try.func28, Try.ntmps28
    go_wp2_with fail
    refine H1.out.mono ?_
    rintro e w1 ⟨rfl, hbl⟩
    dsimp only
    have T1 := hideIt (T0.out.keep hbl)
    obtain ⟨z0, z1, zf⟩ := T1.out.zero
    have HP := T1.out.put (.slice none 0 0) (.int .i64 0)
    clear T0 T1 H1 hbl
    obtain ⟨e1, e2⟩ := HP.out
    clear HP
    go_wp2
    revert e1 e2
    generalize (World.setCell _ ⟨w.heap.size + 1, 1, none⟩ _) = W
    intro e1 e2
    exact bodyPost_ret (v := .tuple #[accV zA (.slice none 0 0), .int .i64 1]) (by simp [results, Try.results28, go_sem, cell_at e1, accV, accA, zA]) rfl ⟨_, rfl, own_nil _ _, e2⟩
  have h1I : 0 ≤ a := by omega
  by_cases h2 : 3 < a
  · rw [show wiB a 0 3 = false by simp [wiB]; omega]
    simp only [Bool.false_and, Bool.false_eq_true, if_false]
    rw [if_neg (by decide)]
    clear HBA HST HSI HLN hb
    go_enter Try.func28, Try.ntmps28
    go_wp2_with fail
    refine H1.out.mono ?_
    rintro e w1 ⟨rfl, hbl⟩
    dsimp only
    have T1 := hideIt (T0.out.keep hbl)
    obtain ⟨z0, z1, zf⟩ := T1.out.zero
    have HP := T1.out.put (.slice none 0 0) (.int .i64 0)
    clear T0 T1 H1 hbl
    obtain ⟨e1, e2⟩ := HP.out
    clear HP
    go_wp2
    revert e1 e2
    generalize (World.setCell _ ⟨w.heap.size + 1, 1, none⟩ _) = W
    intro e1 e2
    exact bodyPost_ret (v := .tuple #[accV zA (.slice none 0 0), .int .i64 1]) (by simp [results, Try.results28, go_sem, cell_at e1, accV, accA, zA]) rfl ⟨_, rfl, own_nil _ _, e2⟩
  have h2I : a ≤ 3 := by omega
  by_cases h3 : n < 1
  · rw [show wiB n 1 9007199254740992 = false by simp [wiB]; omega]
    simp only [Bool.and_false, Bool.false_eq_true, if_false]
    rw [if_neg (by decide)]
    clear HBA HST HSI HLN hb
    go_enter Try.func28, Try.ntmps28
    go_wp2_with fail
    refine H1.out.mono ?_
    rintro e w1 ⟨rfl, hbl⟩
    dsimp only
    have T1 := hideIt (T0.out.keep hbl)
    obtain ⟨z0, z1, zf⟩ := T1.out.zero
    have HP := T1.out.put (.slice none 0 0) (.int .i64 0)
    clear T0 T1 H1 hbl
    obtain ⟨e1, e2⟩ := HP.out
    clear HP
    go_wp2
    revert e1 e2
    generalize (World.setCell _ ⟨w.heap.size + 1, 1, none⟩ _) = W
    intro e1 e2
    exact bodyPost_ret (v := .tuple #[accV zA (.slice none 0 0), .int .i64 1]) (by simp [results, Try.results28, go_sem, cell_at e1, accV, accA, zA]) rfl ⟨_, rfl, own_nil _ _, e2⟩
  have h3I : 1 ≤ n := by omega
  by_cases h4 : 9007199254740992 < n
  · rw [show wiB n 1 9007199254740992 = false by simp [wiB]; omega]
    simp only [Bool.and_false, Bool.false_eq_true, if_false]
    rw [if_neg (by decide)]
    clear HBA HST HSI HLN hb
    go_enter Try.func28, Try.ntmps28
    go_wp2_with fail
    refine H1.out.mono ?_
    rintro e w1 ⟨rfl, hbl⟩
    dsimp only
    have T1 := hideIt (T0.out.keep hbl)
    obtain ⟨z0, z1, zf⟩ := T1.out.zero
    have HP := T1.out.put (.slice none 0 0) (.int .i64 0)
    clear T0 T1 H1 hbl
    obtain ⟨e1, e2⟩ := HP.out
    clear HP
    go_wp2
    revert e1 e2
    generalize (World.setCell _ ⟨w.heap.size + 1, 1, none⟩ _) = W
    intro e1 e2
    exact bodyPost_ret (v := .tuple #[accV zA (.slice none 0 0), .int .i64 1]) (by simp [results, Try.results28, go_sem, cell_at e1, accV, accA, zA]) rfl ⟨_, rfl, own_nil _ _, e2⟩
  have h4I : n ≤ 9007199254740992 := by omega
  rw [show wiB n 1 9007199254740992 = true by simp [wiB]; omega, show wiB a 0 3 = true by simp [wiB]; omega]
  simp only [Bool.and_self, if_true]
  obtain ⟨b1, b2⟩ := hb
  have hng : IntKind.i64.wrap (-n) = -n := wrap_ok (by omega) (by omega)
  by_cases h5 : balL l a < n
  · rw [if_pos h5]
    clear HST HSI HLN
    generalize balL l a = B at *
    go_enter Try.func28, Try.ntmps28
    go_wp2_with fail
    refine H1.out.mono ?_
    rintro e w1 ⟨rfl, hbl⟩
    dsimp only
    have T1 := hideIt (T0.out.keep hbl)
    obtain ⟨c0, c1⟩ := T1.out.cells
    simp only at c0 c1
    clear T0 H1 hbl
    go_wp2_with fail
    refine (HBA.out _ T1.out.bel).mono ?_
    rintro e w2 ⟨rfl, hbl⟩
    dsimp only
    have T2 := hideIt (T1.out.keep hbl)
    clear c0 c1 T1 hbl HBA
    obtain ⟨c0, c1⟩ := T2.out.cells
    simp only at c0 c1
    obtain ⟨z0, z1, zf⟩ := T2.out.zero
    have HP := T2.out.put (.slice none 0 0) (.int .i64 0)
    clear T2
    obtain ⟨e1, e2⟩ := HP.out
    clear HP
    go_wp2
    revert e1 e2
    generalize (World.setCell _ ⟨w.heap.size + 1, 1, none⟩ _) = W
    intro e1 e2
    exact bodyPost_ret (v := .tuple #[accV zA (.slice none 0 0), .int .i64 121]) (by simp [results, Try.results28, go_sem, cell_at e1, accV, accA, zA]) rfl ⟨_, rfl, own_nil _ _, e2⟩
  · have h5I : n ≤ balL l a := by omega
    rw [if_neg h5]
    have HST2 := hideIt (fun wx hx => HST.out (balL l a + -n) wx hx HLN.out)
    rw [HSI.out (-n) ⟨h1I, h2I⟩ ⟨by omega, by omega⟩] at HST2
    clear HST HSI HLN
    generalize pre (moreS l a (-n)) 4 = D at *
    generalize balL l a = B at *
    have h7 : B + -n ≤ 9007199254740992 := by omega
    have HST := HST2
    by_cases h6 : ct = 1000000000
    · rw [if_pos h6]
      subst h6
      clear HST HST2
      go_enter Try.func28, Try.ntmps28
      go_wp2_with fail
      refine H1.out.mono ?_
      rintro e w1 ⟨rfl, hbl⟩
      dsimp only
      have T1 := hideIt (T0.out.keep hbl)
      obtain ⟨c0, c1⟩ := T1.out.cells
      simp only at c0 c1
      clear T0 H1 hbl
      go_wp2_with fail
      refine (HBA.out _ T1.out.bel).mono ?_
      rintro e w2 ⟨rfl, hbl⟩
      dsimp only
      have T2 := hideIt (T1.out.keep hbl)
      clear c0 c1 T1 hbl HBA
      obtain ⟨c0, c1⟩ := T2.out.cells
      simp only at c0 c1
      obtain ⟨z0, z1, zf⟩ := T2.out.zero
      have HP := T2.out.put (.slice none 0 0) (.int .i64 0)
      clear T2
      obtain ⟨e1, e2⟩ := HP.out
      clear HP
      go_wp2
      revert e1 e2
      generalize (World.setCell _ ⟨w.heap.size + 1, 1, none⟩ _) = W
      intro e1 e2
      exact bodyPost_ret (v := .tuple #[accV zA (.slice none 0 0), .int .i64 122]) (by simp [results, Try.results28, go_sem, cell_at e1, accV, accA, zA]) rfl ⟨_, rfl, own_nil _ _, e2⟩
    · have h6b : (ct == 1000000000) = false := beq_eq_false_iff_ne.2 h6
      rw [if_neg h6]
      have hwc : IntKind.i64.wrap (ct + 1) = ct + 1 := wrap_ok (by omega) (by omega)
      have hwb : IntKind.i64.wrap (B + -n) = B + -n := wrap_ok (by omega) (by omega)
      clear HST2 h6
      go_enter Try.func28, Try.ntmps28
      go_wp2_with fail
      refine H1.out.mono ?_
      rintro e w1 ⟨rfl, hbl⟩
      dsimp only
      have T1 := hideIt (T0.out.keep hbl)
      obtain ⟨c0, c1⟩ := T1.out.cells
      simp only at c0 c1
      clear T0 H1 hbl
      go_wp2_with fail
      refine (HBA.out _ T1.out.bel).mono ?_
      rintro e w2 ⟨rfl, hbl⟩
      dsimp only
      have T2 := hideIt (T1.out.keep hbl)
      clear c0 c1 T1 hbl HBA
      obtain ⟨c0, c1⟩ := T2.out.cells
      simp only at c0 c1
      go_upto_region 10 with fail
      have T4 := hideIt T2.out.drew
      have HAM := hideIt (HST.out w2.drew T4.out.bel)
      clear HST T2 c0 c1
      refine wp_region_held_drew (S := fun w' => w'.cell? ⟨w.heap.size, 0, none⟩ = some (.slice ga l.length gc) ∧ w'.cell? ⟨w.heap.size, 1, none⟩ = some (.int .i64 ct)) (by kernel_rfl) T4.out.cells (fun hHeld => ?_)
      refine wpAnyH_take (i := 0) (oi := ⟨some 53, _, _, _, _, _⟩) (v := ?_) rfl (by kernel_rfl) (by kernel_rfl) (by kernel_rfl) (fun _ _ _ h => h) (Or.inl ⟨by rfl, ?_⟩) (by assumption) ?_
      rotate_left
      · intro w5 hSw
        (try dsimp only at hSw)
        go_simp
        (try with_reducible rfl)
      try simp only [Act.put, List.setIfInBounds_toArray, List.set_cons_zero, List.set_cons_succ]
      refine wpAnyH_take (i := 1) (oi := ⟨some 54, _, _, _, _, _⟩) (v := ?_) rfl (by kernel_rfl) (by kernel_rfl) (by kernel_rfl) (fun _ _ _ h => h) (Or.inl ⟨by rfl, ?_⟩) (by assumption) ?_
      rotate_left
      · intro w5 hSw
        (try dsimp only at hSw)
        go_simp
        (try with_reducible rfl)
      try simp only [Act.put, List.setIfInBounds_toArray, List.set_cons_zero, List.set_cons_succ]
      refine wpAnyH_take (i := 2) (oi := ⟨some 55, _, _, _, _, _⟩) (v := ?_) rfl (by kernel_rfl) (by kernel_rfl) (by kernel_rfl) (fun _ _ _ h => h) (Or.inl ⟨by rfl, ?_⟩) (by assumption) ?_
      rotate_left
      · intro w5 hSw
        (try dsimp only at hSw)
        go_simp
        (try with_reducible rfl)
      try simp only [Act.put, List.setIfInBounds_toArray, List.set_cons_zero, List.set_cons_succ]
      refine wpAnyH_take (i := 3) (oi := ⟨some 56, _, _, _, _, _⟩) (v := ?_) rfl (by kernel_rfl) (by kernel_rfl) (by kernel_rfl) (fun _ _ _ h => h) (Or.inl ⟨by rfl, ?_⟩) (by assumption) ?_
      rotate_left
      · intro w5 hSw
        (try dsimp only at hSw)
        go_simp
        (try with_reducible rfl)
      try simp only [Act.put, List.setIfInBounds_toArray, List.set_cons_zero, List.set_cons_succ]
      refine wpAnyH_take (i := 4) (oi := ⟨some 57, _, _, _, _, _⟩) (v := ?_) rfl (by kernel_rfl) (by kernel_rfl) (by kernel_rfl) (fun _ _ _ h => h) (Or.inl ⟨by rfl, ?_⟩) (by assumption) ?_
      rotate_left
      · intro w5 hSw
        (try dsimp only at hSw)
        go_simp
        (try with_reducible rfl)
      try simp only [Act.put, List.setIfInBounds_toArray, List.set_cons_zero, List.set_cons_succ]
      refine wpAnyH_take (i := 5) (oi := ⟨some 58, _, _, _, _, _⟩) (v := ?_) rfl (by kernel_rfl) (by kernel_rfl) (by kernel_rfl) (fun _ _ _ h => h) (Or.inl ⟨by rfl, ?_⟩) (by assumption) ?_
      rotate_left
      · intro w5 hSw
        (try dsimp only at hSw)
        go_simp
        (try with_reducible rfl)
      try simp only [Act.put, List.setIfInBounds_toArray, List.set_cons_zero, List.set_cons_succ]
      refine wpAnyH_take (i := 6) (oi := ⟨some 59, _, _, _, _, _⟩) (v := ?_) rfl (by kernel_rfl) (by kernel_rfl) (by kernel_rfl) (fun _ _ _ h => h) (Or.inl ⟨by rfl, ?_⟩) (by assumption) ?_
      rotate_left
      · intro w5 hSw
        (try dsimp only at hSw)
        go_simp
        (try with_reducible rfl)
      try simp only [Act.put, List.setIfInBounds_toArray, List.set_cons_zero, List.set_cons_succ]
      refine wpAnyH_take (i := 7) (oi := ⟨some 60, _, _, _, _, _⟩) (v := ?_) rfl (by kernel_rfl) (by kernel_rfl) (by kernel_rfl) (fun _ _ _ h => h) (Or.inl ⟨by rfl, ?_⟩) (by assumption) ?_
      rotate_left
      · intro w5 hSw
        (try dsimp only at hSw)
        go_simp
        (try with_reducible rfl)
      try simp only [Act.put, List.setIfInBounds_toArray, List.set_cons_zero, List.set_cons_succ]
      refine wpAnyH_take (i := 9) (oi := ⟨some 62, _, _, _, _, _⟩) (v := ?_) rfl (by kernel_rfl) (by kernel_rfl) (by kernel_rfl) (fun _ _ _ h => h) (Or.inl ⟨by rfl, ?_⟩) (by assumption) ?_
      rotate_left
      · intro w5 hSw
        (try dsimp only at hSw)
        go_simp
        (try with_reducible rfl)
      try simp only [Act.put, List.setIfInBounds_toArray, List.set_cons_zero, List.set_cons_succ]
      refine wpAnyH_take (i := 10) (oi := ⟨some 63, _, _, _, _, _⟩) (v := ?_) rfl (by kernel_rfl) (by kernel_rfl) (by kernel_rfl) (fun _ _ _ h => h) (Or.inl ⟨by rfl, ?_⟩) (by assumption) ?_
      rotate_left
      · intro w5 hSw
        (try dsimp only at hSw)
        go_simp
        (try with_reducible rfl)
      try simp only [Act.put, List.setIfInBounds_toArray, List.set_cons_zero, List.set_cons_succ]
      refine wpAnyH_take (i := 11) (oi := ⟨some 64, _, _, _, _, _⟩) (v := ?_) rfl (by kernel_rfl) (by kernel_rfl) (by kernel_rfl) (fun _ _ _ h => h) (Or.inl ⟨by rfl, ?_⟩) (by assumption) ?_
      rotate_left
      · intro w5 hSw
        (try dsimp only at hSw)
        go_simp
        (try with_reducible rfl)
      try simp only [Act.put, List.setIfInBounds_toArray, List.set_cons_zero, List.set_cons_succ]
      refine wpAnyH_ready (rs := [8]) (by kernel_rfl) (by simp) ?_
      refine AllReadyH.cons (o := ⟨some 61, _, _, _, _, _⟩) rfl (fun K hK => ?_) AllReadyH.nil
      go_simp
      go_at_call 33
      refine HAM.out.mono ?_
      rintro e w4 ⟨r, rfl, hm⟩
      have T5 := hideIt (T4.out.keep hm.bel)
      refine hK.out _ _ T5.out.cells (fun hHeld => ?_)
      obtain ⟨ra, rc, rfl⟩ := own_len hm.own
      have HO := hideIt (own2 (R := w.heap.size + 1) (.slice ra D.length rc) (.int .i64 (ct + 1)) hm.own (by have := T4.out.size; omega) w.heap.size (by have := T4.out.size; omega)).out
      have HP := T5.out.put (.slice ra D.length rc) (.int .i64 (ct + 1))
      have HS : Hid (((w4.setCell ⟨w.heap.size + 1, 0, none⟩ (.slice ra D.length rc)).setCell ⟨w.heap.size + 1, 1, none⟩ (.int .i64 (ct + 1))).cell? ⟨w.heap.size, 0, none⟩ = some (.slice ga l.length gc) ∧ ((w4.setCell ⟨w.heap.size + 1, 0, none⟩ (.slice ra D.length rc)).setCell ⟨w.heap.size + 1, 1, none⟩ (.int .i64 (ct + 1))).cell? ⟨w.heap.size, 1, none⟩ = some (.int .i64 ct)) := by
        show _ ∧ _
        rw [cell_at (setOther _ (setOther _ T5.out.box (by omega)) (by omega)), cell_at (setOther _ (setOther _ T5.out.box (by omega)) (by omega))]
        exact ⟨rfl, rfl⟩
      obtain ⟨z0, z1, zf⟩ := T5.out.zero
      clear hK K hm HAM T4 T5
      try simp only [Act.put, List.setIfInBounds_toArray, List.set_cons_zero, List.set_cons_succ]
      refine wpAnyH_take (i := 12) (oi := ⟨some 65, _, _, _, _, _⟩) (v := ?_) rfl (by kernel_rfl) (by kernel_rfl) (by kernel_rfl) (fun _ _ _ h => h) (Or.inl ⟨by rfl, ?_⟩) (by assumption) ?_
      rotate_left
      · intro w5 hSw
        (try dsimp only at hSw)
        go_simp
        (try with_reducible rfl)
      try simp only [Act.put, List.setIfInBounds_toArray, List.set_cons_zero, List.set_cons_succ]
      refine wpAnyH_ready (rs := [13]) (by kernel_rfl) (by simp) ?_
      refine AllReadyH.cons (o := ⟨none, _, _, _, _, _⟩) rfl (fun K hK => ?_) AllReadyH.nil
      go_simp
      refine hK.out _ _ HS.out (fun hHeld => ?_)
      clear hK K
      obtain ⟨e1, e2⟩ := HP.out
      have e3 := HO.out
      clear HP HO HS
      generalize ((w4.setCell ⟨w.heap.size + 1, 0, none⟩ (.slice ra D.length rc)).setCell ⟨w.heap.size + 1, 1, none⟩ (.int .i64 (ct + 1))) = W at *
      try simp only [Act.put, List.setIfInBounds_toArray, List.set_cons_zero, List.set_cons_succ]
      refine wpAnyH_take (i := 14) (oi := ⟨some 9, _, _, _, _, _⟩) (v := ?_) rfl (by kernel_rfl) (by kernel_rfl) (by kernel_rfl) (fun _ _ _ h => h) (Or.inl ⟨by rfl, ?_⟩) (by assumption) ?_
      rotate_left
      · intro w5 hSw
        (try dsimp only at hSw)
        go_simp
        (try with_reducible rfl)
      try simp only [Act.put, List.setIfInBounds_toArray, List.set_cons_zero, List.set_cons_succ]
      refine wpAnyH_done (by kernel_rfl) ?_ _
      go_wp2
      exact bodyPost_ret (v := .tuple #[accV ⟨D, ct + 1⟩ (.slice ra D.length rc), .int .i64 0]) (by simp [results, Try.results28, go_sem, cell_at e1, accV, accA]) rfl ⟨_, rfl, e3, e2⟩
set_option maxHeartbeats 4000000 in
set_option maxRecDepth 100000 in
theorem rCredit_is (A : AccV) (g : Value) (a n : Int) (w : World) (h : AGot w g A.l) : Calls Try.prog 18 #[accV A g, .int .i64 a, .int .i64 n] w (AccErr (credL A a n) w) := by
  have T0 := hideIt (Duo.first w A g)
  have H1 := hideIt (moves_more A g a n _ (h.keep T0.out.bel))
  unfold AccErr at *
  generalize credL A a n = X at *
  obtain ⟨⟨D, m⟩, err⟩ := X
  obtain ⟨ga, gc, rfl⟩ := h.slice
  obtain ⟨l, ct⟩ := A
  unfold accV accA at *
  simp only at H1 T0 ⊢
  clear h
  go_enter Try.func18, Try.ntmps18
  go_wp2_with fail
  refine H1.out.mono ?_
  rintro e w1 ⟨gx, rfl, ho, hbl⟩
  dsimp only
  have T1 := hideIt (T0.out.keep hbl)
  obtain ⟨xa, xc, rfl⟩ := own_len ho
  have HO := hideIt (own2 (R := w.heap.size + 1) (.slice xa D.length xc) (.int .i64 m) ho (by have := T0.out.size; omega) w.heap.size (by have := T0.out.size; omega)).out
  have HP := T1.out.put (.slice xa D.length xc) (.int .i64 m)
  obtain ⟨z0, z1, zf⟩ := T1.out.zero
  clear ho hbl T0 T1 H1
  obtain ⟨e1, e2⟩ := HP.out
  have e3 := HO.out
  clear HP HO
  go_wp2
  revert e1 e2 e3
  generalize (World.setCell _ ⟨w.heap.size + 1, 1, none⟩ _) = W
  intro e1 e2 e3
  exact bodyPost_ret (v := .tuple #[accV ⟨D, m⟩ (.slice xa D.length xc), .int .i64 err]) (by simp [results, Try.results18, go_sem, cell_at e1, accV, accA]) rfl ⟨_, rfl, e3, e2⟩
set_option maxHeartbeats 4000000 in
set_option maxRecDepth 100000 in
theorem rDebit_is (A : AccV) (g : Value) (a n : Int) (w : World) (h : AGot w g A.l) : Calls Try.prog 19 #[accV A g, .int .i64 a, .int .i64 n] w (AccErr (debL A a n) w) := by
  have T0 := hideIt (Duo.first w A g)
  have H1 := hideIt (moves_less A g a n _ (h.keep T0.out.bel))
  unfold AccErr at *
  generalize debL A a n = X at *
  obtain ⟨⟨D, m⟩, err⟩ := X
  obtain ⟨ga, gc, rfl⟩ := h.slice
  obtain ⟨l, ct⟩ := A
  unfold accV accA at *
  simp only at H1 T0 ⊢
  clear h
  go_enter Try.func19, Try.ntmps19
  go_wp2_with fail
  refine H1.out.mono ?_
  rintro e w1 ⟨gx, rfl, ho, hbl⟩
  dsimp only
  have T1 := hideIt (T0.out.keep hbl)
  obtain ⟨xa, xc, rfl⟩ := own_len ho
  have HO := hideIt (own2 (R := w.heap.size + 1) (.slice xa D.length xc) (.int .i64 m) ho (by have := T0.out.size; omega) w.heap.size (by have := T0.out.size; omega)).out
  have HP := T1.out.put (.slice xa D.length xc) (.int .i64 m)
  obtain ⟨z0, z1, zf⟩ := T1.out.zero
  clear ho hbl T0 T1 H1
  obtain ⟨e1, e2⟩ := HP.out
  have e3 := HO.out
  clear HP HO
  go_wp2
  revert e1 e2 e3
  generalize (World.setCell _ ⟨w.heap.size + 1, 1, none⟩ _) = W
  intro e1 e2 e3
  exact bodyPost_ret (v := .tuple #[accV ⟨D, m⟩ (.slice xa D.length xc), .int .i64 err]) (by simp [results, Try.results19, go_sem, cell_at e1, accV, accA]) rfl ⟨_, rfl, e3, e2⟩
end Go.Proofs.Ytjinhiabnpmiaaa
