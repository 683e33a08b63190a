/- A log with an entry behind it: the document. -/
import Derived.Test.YtonhoopmhkomcaaAdd
namespace Go.Proofs.Ytonhoopmhkomcaa
open Go.RowKit
theorem own_ne {w : World} {B n k j : Nat} {v u : Value} {xs : List Value} {cs : Array Value} (h : w.ownsRow B 40 3 v n xs) (hx : w.heap[k]? = some (.cells cs 26 (0, 0))) : (w.setCell ⟨k, j, none⟩ u).ownsRow B 40 3 v n xs := by
  obtain ⟨h1, h2 | ⟨q, cap, cur, hv, hB, hg, r⟩⟩ := h
  · exact ⟨h1, .inl h2⟩
  · refine ⟨h1, .inr ⟨q, cap, cur, hv, hB, (heap_set_other _ _ _ _ _ (fun e => ?_)).trans hg, r⟩⟩
    rw [e, hx] at hg
    simp at hg
set_option maxHeartbeats 16000000 in
set_option maxRecDepth 100000 in
theorem rAdd_is (L : LogV) (g : Value) (e : EntV) (w : World) (h : EGot w g L.l) : Calls Try.prog 23 #[logV L g, .agg (entA e)] w (LogErr (addL L e) w) := by
  have HI := hideIt (LER.first w L g e).drew
  have HC1 := hideIt (LER.run (w := w) (L := L) (g := g) (e := e) (fun wx hx => rCheck_is L g wx (h.keep hx.bel)))
  have HC2 := hideIt (LER.run (w := w) (L := L) (g := g) (e := e) (fun wx _ => rEntry_is e wx))
  have HC3' := hideIt (fun (hm : mayB L = true) => LER.run (w := w) (L := L) (g := g) (e := e) (fun wx hx => (by have := rLast_is L g wx (h.keep hx.bel); rwa [show lastL L = lasM L by simp [lastL, hm]] at this)))
  have HEN := hideIt (fun (hm : mayB L = true) wx (hx : Below w.heap.size w wx) => rEnd_is L g wx (h.keep hx) (near_may hm))
  have HOK := hideIt (fun wx (hx : Below w.heap.size w wx) => copy_is L g wx (h.keep hx))
  unfold LogBack at HOK
  unfold LogErr addL
  unfold SevC at HC1 HC2 HC3'
  obtain ⟨a, c, rfl⟩ := h.slice
  generalize hmk : lasM L = mk at *
  obtain ⟨mi, mt⟩ := mk
  simp only at HC3'
  have nf := fld23 mi mt
  cases hm : mayB L
  · rw [if_pos rfl]
    rw [show chkI L = 80 by simp [chkI, hm]] at HC1
    unfold logV logA entA at *
    obtain ⟨bi, bt, l, cm⟩ := L
    obtain ⟨et, ek, ex⟩ := e
    simp only at HI HC1 HC2 HC3' ⊢
    clear h hm HC3' HEN hmk
    go_enter Try.func23, Try.ntmps23
    go_upto_region 1 with fail
    refine wp_region_held_drew (S := fun w' => w'.cell? ⟨w.heap.size, 0, none⟩ = some (.int .i64 bi) ∧ w'.cell? ⟨w.heap.size, 1, none⟩ = some (.int .i64 bt) ∧ w'.cell? ⟨w.heap.size, 2, none⟩ = some (.slice a l.length c) ∧ w'.cell? ⟨w.heap.size, 3, none⟩ = some (.int .i64 cm) ∧ w'.cell? ⟨w.heap.size + 1, 0, none⟩ = some (.int .i64 et) ∧ w'.cell? ⟨w.heap.size + 1, 1, none⟩ = some (.int .i64 ek) ∧ w'.cell? ⟨w.heap.size + 1, 2, none⟩ = some (.string ex)) (by kernel_rfl) HI.out.cells (fun hHeld => ?_)
    generalize (((w.alloc (.cells #[.int .i64 bi, .int .i64 bt, .slice a l.length c, .int .i64 cm] 26)).alloc (.cells #[.int .i64 et, .int .i64 ek, .string ex] 40)).alloc (.cells #[.int .i64 0, .int .i64 0, .slice none 0 0, .int .i64 0] 26)).drew = wa at *
    refine wpAnyH_take (i := 0) (oi := ⟨some 7, _, _, _, _, _⟩) (v := ?_) rfl (by kernel_rfl) (by kernel_rfl) (by kernel_rfl) (fun _ _ _ h => h) (Or.inl ⟨by rfl, ?_⟩) (by assumption) ?_
    rotate_left
    · intro w5 hSw
      (try dsimp only at hSw)
      go_simp
      (try with_reducible rfl)
    try simp only [Act.put, List.setIfInBounds_toArray, List.set_cons_zero, List.set_cons_succ]
    refine wpAnyH_ready (rs := [1]) (by kernel_rfl) (by simp) ?_
    refine AllReadyH.cons (o := ⟨some 8, _, _, _, _, _⟩) rfl (fun K hK => ?_) AllReadyH.nil
    go_simp
    go_at_call 14
    refine (HC1.out _ HI.out).mono ?_
    clear HI
    rintro x w1 ⟨rfl, HI, j0, j1, j2, j3, j4, j5, j6⟩
    refine hK.out _ _ ⟨j0, j1, j2, j3, j4, j5, j6⟩ (fun hHeld => ?_)
    clear hK K
    try simp only [Act.put, List.setIfInBounds_toArray, List.set_cons_zero, List.set_cons_succ]
    refine wpAnyH_take (i := 2) (oi := ⟨some 9, _, _, _, _, _⟩) (v := ?_) rfl (by kernel_rfl) (by kernel_rfl) (by kernel_rfl) (fun _ _ _ h => h) (Or.inl ⟨by rfl, ?_⟩) (by assumption) ?_
    rotate_left
    · intro w5 hSw
      (try dsimp only at hSw)
      go_simp
      (try with_reducible rfl)
    try simp only [Act.put, List.setIfInBounds_toArray, List.set_cons_zero, List.set_cons_succ]
    refine wpAnyH_take (i := 3) (oi := ⟨some 10, _, _, _, _, _⟩) (v := ?_) rfl (by kernel_rfl) (by kernel_rfl) (by kernel_rfl) (fun _ _ _ h => h) (Or.inl ⟨by rfl, ?_⟩) (by assumption) ?_
    rotate_left
    · intro w5 hSw
      (try dsimp only at hSw)
      go_simp
      (try with_reducible rfl)
    try simp only [Act.put, List.setIfInBounds_toArray, List.set_cons_zero, List.set_cons_succ]
    refine wpAnyH_take (i := 4) (oi := ⟨some 11, _, _, _, _, _⟩) (v := undef) rfl (by kernel_rfl) (by kernel_rfl) (by kernel_rfl) (fun _ _ _ h => h) (Or.inr ⟨by rfl, rfl⟩) (by assumption) ?_
    try simp only [Act.put, List.setIfInBounds_toArray, List.set_cons_zero, List.set_cons_succ]
    refine wpAnyH_take (i := 5) (oi := ⟨some 12, _, _, _, _, _⟩) (v := undef) rfl (by kernel_rfl) (by kernel_rfl) (by kernel_rfl) (fun _ _ _ h => h) (Or.inr ⟨by rfl, rfl⟩) (by assumption) ?_
    try simp only [Act.put, List.setIfInBounds_toArray, List.set_cons_zero, List.set_cons_succ]
    refine wpAnyH_take (i := 6) (oi := ⟨some 13, _, _, _, _, _⟩) (v := undef) rfl (by kernel_rfl) (by kernel_rfl) (by kernel_rfl) (fun _ _ _ h => h) (Or.inr ⟨by rfl, rfl⟩) (by assumption) ?_
    try simp only [Act.put, List.setIfInBounds_toArray, List.set_cons_zero, List.set_cons_succ]
    refine wpAnyH_take (i := 7) (oi := ⟨some 14, _, _, _, _, _⟩) (v := ?_) rfl (by kernel_rfl) (by kernel_rfl) (by kernel_rfl) (fun _ _ _ h => h) (Or.inl ⟨by rfl, ?_⟩) (by assumption) ?_
    rotate_left
    · intro w5 hSw
      (try dsimp only at hSw)
      go_simp
      (try with_reducible rfl)
    try simp only [Act.put, List.setIfInBounds_toArray, List.set_cons_zero, List.set_cons_succ]
    refine wpAnyH_take (i := 8) (oi := ⟨some 15, _, _, _, _, _⟩) (v := ?_) rfl (by kernel_rfl) (by kernel_rfl) (by kernel_rfl) (fun _ _ _ h => h) (Or.inl ⟨by rfl, ?_⟩) (by assumption) ?_
    rotate_left
    · intro w5 hSw
      (try dsimp only at hSw)
      go_simp
      (try with_reducible rfl)
    try simp only [Act.put, List.setIfInBounds_toArray, List.set_cons_zero, List.set_cons_succ]
    refine wpAnyH_take (i := 9) (oi := ⟨some 16, _, _, _, _, _⟩) (v := undef) rfl (by kernel_rfl) (by kernel_rfl) (by kernel_rfl) (fun _ _ _ h => h) (Or.inr ⟨by rfl, rfl⟩) (by assumption) ?_
    try simp only [Act.put, List.setIfInBounds_toArray, List.set_cons_zero, List.set_cons_succ]
    refine wpAnyH_take (i := 10) (oi := ⟨some 17, _, _, _, _, _⟩) (v := undef) rfl (by kernel_rfl) (by kernel_rfl) (by kernel_rfl) (fun _ _ _ h => h) (Or.inr ⟨by rfl, rfl⟩) (by assumption) ?_
    try simp only [Act.put, List.setIfInBounds_toArray, List.set_cons_zero, List.set_cons_succ]
    refine wpAnyH_take (i := 11) (oi := ⟨some 18, _, _, _, _, _⟩) (v := undef) rfl (by kernel_rfl) (by kernel_rfl) (by kernel_rfl) (fun _ _ _ h => h) (Or.inr ⟨by rfl, rfl⟩) (by assumption) ?_
    try simp only [Act.put, List.setIfInBounds_toArray, List.set_cons_zero, List.set_cons_succ]
    refine wpAnyH_take (i := 12) (oi := ⟨some 19, _, _, _, _, _⟩) (v := undef) rfl (by kernel_rfl) (by kernel_rfl) (by kernel_rfl) (fun _ _ _ h => h) (Or.inr ⟨by rfl, rfl⟩) (by assumption) ?_
    try simp only [Act.put, List.setIfInBounds_toArray, List.set_cons_zero, List.set_cons_succ]
    refine wpAnyH_take (i := 13) (oi := ⟨some 20, _, _, _, _, _⟩) (v := undef) rfl (by kernel_rfl) (by kernel_rfl) (by kernel_rfl) (fun _ _ _ h => h) (Or.inr ⟨by rfl, rfl⟩) (by assumption) ?_
    try simp only [Act.put, List.setIfInBounds_toArray, List.set_cons_zero, List.set_cons_succ]
    refine wpAnyH_take (i := 14) (oi := ⟨some 21, _, _, _, _, _⟩) (v := undef) rfl (by kernel_rfl) (by kernel_rfl) (by kernel_rfl) (fun _ _ _ h => h) (Or.inr ⟨by rfl, rfl⟩) (by assumption) ?_
    try simp only [Act.put, List.setIfInBounds_toArray, List.set_cons_zero, List.set_cons_succ]
    refine wpAnyH_take (i := 15) (oi := ⟨some 22, _, _, _, _, _⟩) (v := ?_) rfl (by kernel_rfl) (by kernel_rfl) (by kernel_rfl) (fun _ _ _ h => h) (Or.inl ⟨by rfl, ?_⟩) (by assumption) ?_
    rotate_left
    · intro w5 hSw
      (try dsimp only at hSw)
      go_simp
      (try with_reducible rfl)
    try simp only [Act.put, List.setIfInBounds_toArray, List.set_cons_zero, List.set_cons_succ]
    refine wpAnyH_done (by kernel_rfl) ?_ _
    clear hHeld
    obtain ⟨z0, z1, z2, z3, zf⟩ := HI.out.zero
    have HP := HI.out.put (.int .i64 0) (.int .i64 0) (.slice none 0 0) (.int .i64 0)
    obtain ⟨e1, e2⟩ := HP.out
    clear HP HI
    go_wp2
    revert e1 e2
    generalize (World.setCell _ ⟨w.heap.size + 2, 3, none⟩ _) = W
    intro e1 e2
    exact bodyPost_ret (v := .tuple #[logV zL (.slice none 0 0), .int .i64 80]) (by simp [results, Try.results23, go_sem, cell_at e1, logV, logA, zL]) rfl ⟨_, rfl, own_nil _ _, e2⟩
  · rw [if_neg (by simp)]
    rw [show chkI L = 0 by simp [chkI, hm]] at HC1
    have HC3 := hideIt (HC3'.out hm)
    cases he : entB e
    · rw [if_pos rfl]
      rw [he] at HC2
      unfold logV logA entA at *
      obtain ⟨bi, bt, l, cm⟩ := L
      obtain ⟨et, ek, ex⟩ := e
      simp only at HI HC1 HC2 HC3 ⊢
      clear h hm HC3' HEN hmk he
      go_enter Try.func23, Try.ntmps23
      go_upto_region 1 with fail
      refine wp_region_held_drew (S := fun w' => w'.cell? ⟨w.heap.size, 0, none⟩ = some (.int .i64 bi) ∧ w'.cell? ⟨w.heap.size, 1, none⟩ = some (.int .i64 bt) ∧ w'.cell? ⟨w.heap.size, 2, none⟩ = some (.slice a l.length c) ∧ w'.cell? ⟨w.heap.size, 3, none⟩ = some (.int .i64 cm) ∧ w'.cell? ⟨w.heap.size + 1, 0, none⟩ = some (.int .i64 et) ∧ w'.cell? ⟨w.heap.size + 1, 1, none⟩ = some (.int .i64 ek) ∧ w'.cell? ⟨w.heap.size + 1, 2, none⟩ = some (.string ex)) (by kernel_rfl) HI.out.cells (fun hHeld => ?_)
      generalize (((w.alloc (.cells #[.int .i64 bi, .int .i64 bt, .slice a l.length c, .int .i64 cm] 26)).alloc (.cells #[.int .i64 et, .int .i64 ek, .string ex] 40)).alloc (.cells #[.int .i64 0, .int .i64 0, .slice none 0 0, .int .i64 0] 26)).drew = wa at *
      refine wpAnyH_take (i := 0) (oi := ⟨some 7, _, _, _, _, _⟩) (v := ?_) rfl (by kernel_rfl) (by kernel_rfl) (by kernel_rfl) (fun _ _ _ h => h) (Or.inl ⟨by rfl, ?_⟩) (by assumption) ?_
      rotate_left
      · intro w5 hSw
        (try dsimp only at hSw)
        go_simp
        (try with_reducible rfl)
      try simp only [Act.put, List.setIfInBounds_toArray, List.set_cons_zero, List.set_cons_succ]
      refine wpAnyH_ready (rs := [1]) (by kernel_rfl) (by simp) ?_
      refine AllReadyH.cons (o := ⟨some 8, _, _, _, _, _⟩) rfl (fun K hK => ?_) AllReadyH.nil
      go_simp
      go_at_call 14
      refine (HC1.out _ HI.out).mono ?_
      clear HI
      rintro x w1 ⟨rfl, HI, j0, j1, j2, j3, j4, j5, j6⟩
      refine hK.out _ _ ⟨j0, j1, j2, j3, j4, j5, j6⟩ (fun hHeld => ?_)
      clear hK K
      try simp only [Act.put, List.setIfInBounds_toArray, List.set_cons_zero, List.set_cons_succ]
      refine wpAnyH_take (i := 2) (oi := ⟨some 9, _, _, _, _, _⟩) (v := ?_) rfl (by kernel_rfl) (by kernel_rfl) (by kernel_rfl) (fun _ _ _ h => h) (Or.inl ⟨by rfl, ?_⟩) (by assumption) ?_
      rotate_left
      · intro w5 hSw
        (try dsimp only at hSw)
        go_simp
        (try with_reducible rfl)
      try simp only [Act.put, List.setIfInBounds_toArray, List.set_cons_zero, List.set_cons_succ]
      refine wpAnyH_take (i := 3) (oi := ⟨some 10, _, _, _, _, _⟩) (v := ?_) rfl (by kernel_rfl) (by kernel_rfl) (by kernel_rfl) (fun _ _ _ h => h) (Or.inl ⟨by rfl, ?_⟩) (by assumption) ?_
      rotate_left
      · intro w5 hSw
        (try dsimp only at hSw)
        go_simp
        (try with_reducible rfl)
      try simp only [Act.put, List.setIfInBounds_toArray, List.set_cons_zero, List.set_cons_succ]
      refine wpAnyH_take (i := 4) (oi := ⟨some 11, _, _, _, _, _⟩) (v := ?_) rfl (by kernel_rfl) (by kernel_rfl) (by kernel_rfl) (fun _ _ _ h => h) (Or.inl ⟨by rfl, ?_⟩) (by assumption) ?_
      rotate_left
      · intro w5 hSw
        (try dsimp only at hSw)
        go_simp
        (try with_reducible rfl)
      try simp only [Act.put, List.setIfInBounds_toArray, List.set_cons_zero, List.set_cons_succ]
      refine wpAnyH_ready (rs := [5]) (by kernel_rfl) (by simp) ?_
      refine AllReadyH.cons (o := ⟨some 12, _, _, _, _, _⟩) rfl (fun K hK => ?_) AllReadyH.nil
      go_simp
      go_at_call 39
      refine (HC2.out _ HI.out).mono ?_
      clear HI
      rintro x w1 ⟨rfl, HI, j0, j1, j2, j3, j4, j5, j6⟩
      refine hK.out _ _ ⟨j0, j1, j2, j3, j4, j5, j6⟩ (fun hHeld => ?_)
      clear hK K
      try simp only [Act.put, List.setIfInBounds_toArray, List.set_cons_zero, List.set_cons_succ]
      refine wpAnyH_take (i := 6) (oi := ⟨some 13, _, _, _, _, _⟩) (v := ?_) rfl (by kernel_rfl) (by kernel_rfl) (by kernel_rfl) (fun _ _ _ h => h) (Or.inl ⟨by rfl, ?_⟩) (by assumption) ?_
      rotate_left
      · intro w5 hSw
        (try dsimp only at hSw)
        go_simp
        (try with_reducible rfl)
      try simp only [Act.put, List.setIfInBounds_toArray, List.set_cons_zero, List.set_cons_succ]
      refine wpAnyH_take (i := 7) (oi := ⟨some 14, _, _, _, _, _⟩) (v := ?_) rfl (by kernel_rfl) (by kernel_rfl) (by kernel_rfl) (fun _ _ _ h => h) (Or.inl ⟨by rfl, ?_⟩) (by assumption) ?_
      rotate_left
      · intro w5 hSw
        (try dsimp only at hSw)
        go_simp
        (try with_reducible rfl)
      try simp only [Act.put, List.setIfInBounds_toArray, List.set_cons_zero, List.set_cons_succ]
      refine wpAnyH_take (i := 8) (oi := ⟨some 15, _, _, _, _, _⟩) (v := ?_) rfl (by kernel_rfl) (by kernel_rfl) (by kernel_rfl) (fun _ _ _ h => h) (Or.inl ⟨by rfl, ?_⟩) (by assumption) ?_
      rotate_left
      · intro w5 hSw
        (try dsimp only at hSw)
        go_simp
        (try with_reducible rfl)
      try simp only [Act.put, List.setIfInBounds_toArray, List.set_cons_zero, List.set_cons_succ]
      refine wpAnyH_take (i := 9) (oi := ⟨some 16, _, _, _, _, _⟩) (v := undef) rfl (by kernel_rfl) (by kernel_rfl) (by kernel_rfl) (fun _ _ _ h => h) (Or.inr ⟨by rfl, rfl⟩) (by assumption) ?_
      try simp only [Act.put, List.setIfInBounds_toArray, List.set_cons_zero, List.set_cons_succ]
      refine wpAnyH_take (i := 10) (oi := ⟨some 17, _, _, _, _, _⟩) (v := undef) rfl (by kernel_rfl) (by kernel_rfl) (by kernel_rfl) (fun _ _ _ h => h) (Or.inr ⟨by rfl, rfl⟩) (by assumption) ?_
      try simp only [Act.put, List.setIfInBounds_toArray, List.set_cons_zero, List.set_cons_succ]
      refine wpAnyH_take (i := 11) (oi := ⟨some 18, _, _, _, _, _⟩) (v := undef) rfl (by kernel_rfl) (by kernel_rfl) (by kernel_rfl) (fun _ _ _ h => h) (Or.inr ⟨by rfl, rfl⟩) (by assumption) ?_
      try simp only [Act.put, List.setIfInBounds_toArray, List.set_cons_zero, List.set_cons_succ]
      refine wpAnyH_take (i := 12) (oi := ⟨some 19, _, _, _, _, _⟩) (v := undef) rfl (by kernel_rfl) (by kernel_rfl) (by kernel_rfl) (fun _ _ _ h => h) (Or.inr ⟨by rfl, rfl⟩) (by assumption) ?_
      try simp only [Act.put, List.setIfInBounds_toArray, List.set_cons_zero, List.set_cons_succ]
      refine wpAnyH_take (i := 13) (oi := ⟨some 20, _, _, _, _, _⟩) (v := undef) rfl (by kernel_rfl) (by kernel_rfl) (by kernel_rfl) (fun _ _ _ h => h) (Or.inr ⟨by rfl, rfl⟩) (by assumption) ?_
      try simp only [Act.put, List.setIfInBounds_toArray, List.set_cons_zero, List.set_cons_succ]
      refine wpAnyH_take (i := 14) (oi := ⟨some 21, _, _, _, _, _⟩) (v := undef) rfl (by kernel_rfl) (by kernel_rfl) (by kernel_rfl) (fun _ _ _ h => h) (Or.inr ⟨by rfl, rfl⟩) (by assumption) ?_
      try simp only [Act.put, List.setIfInBounds_toArray, List.set_cons_zero, List.set_cons_succ]
      refine wpAnyH_take (i := 15) (oi := ⟨some 22, _, _, _, _, _⟩) (v := ?_) rfl (by kernel_rfl) (by kernel_rfl) (by kernel_rfl) (fun _ _ _ h => h) (Or.inl ⟨by rfl, ?_⟩) (by assumption) ?_
      rotate_left
      · intro w5 hSw
        (try dsimp only at hSw)
        go_simp
        (try with_reducible rfl)
      try simp only [Act.put, List.setIfInBounds_toArray, List.set_cons_zero, List.set_cons_succ]
      refine wpAnyH_done (by kernel_rfl) ?_ _
      clear hHeld
      obtain ⟨z0, z1, z2, z3, zf⟩ := HI.out.zero
      have HP := HI.out.put (.int .i64 0) (.int .i64 0) (.slice none 0 0) (.int .i64 0)
      obtain ⟨e1, e2⟩ := HP.out
      clear HP HI
      go_wp2
      revert e1 e2
      generalize (World.setCell _ ⟨w.heap.size + 2, 3, none⟩ _) = W
      intro e1 e2
      exact bodyPost_ret (v := .tuple #[logV zL (.slice none 0 0), .int .i64 80]) (by simp [results, Try.results23, go_sem, cell_at e1, logV, logA, zL]) rfl ⟨_, rfl, own_nil _ _, e2⟩
    · rw [if_neg (by simp)]
      rw [he] at HC2
      have hin := mayB_in hm
      replace HEN := hideIt (HEN.out hm)
      have hlas : lasI L = L.bi + (L.l.length : Int) := rfl
      have hb1 : 0 ≤ L.bi ∧ L.bi ≤ 1000000 := hin.1
      have hll : L.l.length ≤ 400 := hin.2.2.1
      by_cases ht : e.term < mt
      · rw [if_pos ht]
        unfold logV logA entA at *
        obtain ⟨bi, bt, l, cm⟩ := L
        obtain ⟨et, ek, ex⟩ := e
        simp only at HI HC1 HC2 HC3 ht ⊢
        clear h hm HC3' HEN hmk he hin hlas
        go_enter Try.func23, Try.ntmps23
        go_upto_region 1 with fail
        refine wp_region_held_drew (S := fun w' => w'.cell? ⟨w.heap.size, 0, none⟩ = some (.int .i64 bi) ∧ w'.cell? ⟨w.heap.size, 1, none⟩ = some (.int .i64 bt) ∧ w'.cell? ⟨w.heap.size, 2, none⟩ = some (.slice a l.length c) ∧ w'.cell? ⟨w.heap.size, 3, none⟩ = some (.int .i64 cm) ∧ w'.cell? ⟨w.heap.size + 1, 0, none⟩ = some (.int .i64 et) ∧ w'.cell? ⟨w.heap.size + 1, 1, none⟩ = some (.int .i64 ek) ∧ w'.cell? ⟨w.heap.size + 1, 2, none⟩ = some (.string ex)) (by kernel_rfl) HI.out.cells (fun hHeld => ?_)
        generalize (((w.alloc (.cells #[.int .i64 bi, .int .i64 bt, .slice a l.length c, .int .i64 cm] 26)).alloc (.cells #[.int .i64 et, .int .i64 ek, .string ex] 40)).alloc (.cells #[.int .i64 0, .int .i64 0, .slice none 0 0, .int .i64 0] 26)).drew = wa at *
        refine wpAnyH_take (i := 0) (oi := ⟨some 7, _, _, _, _, _⟩) (v := ?_) rfl (by kernel_rfl) (by kernel_rfl) (by kernel_rfl) (fun _ _ _ h => h) (Or.inl ⟨by rfl, ?_⟩) (by assumption) ?_
        rotate_left
        · intro w5 hSw
          (try dsimp only at hSw)
          go_simp
          (try with_reducible rfl)
        try simp only [Act.put, List.setIfInBounds_toArray, List.set_cons_zero, List.set_cons_succ]
        refine wpAnyH_ready (rs := [1]) (by kernel_rfl) (by simp) ?_
        refine AllReadyH.cons (o := ⟨some 8, _, _, _, _, _⟩) rfl (fun K hK => ?_) AllReadyH.nil
        go_simp
        go_at_call 14
        refine (HC1.out _ HI.out).mono ?_
        clear HI
        rintro x w1 ⟨rfl, HI, j0, j1, j2, j3, j4, j5, j6⟩
        refine hK.out _ _ ⟨j0, j1, j2, j3, j4, j5, j6⟩ (fun hHeld => ?_)
        clear hK K
        try simp only [Act.put, List.setIfInBounds_toArray, List.set_cons_zero, List.set_cons_succ]
        refine wpAnyH_take (i := 2) (oi := ⟨some 9, _, _, _, _, _⟩) (v := ?_) rfl (by kernel_rfl) (by kernel_rfl) (by kernel_rfl) (fun _ _ _ h => h) (Or.inl ⟨by rfl, ?_⟩) (by assumption) ?_
        rotate_left
        · intro w5 hSw
          (try dsimp only at hSw)
          go_simp
          (try with_reducible rfl)
        try simp only [Act.put, List.setIfInBounds_toArray, List.set_cons_zero, List.set_cons_succ]
        refine wpAnyH_take (i := 3) (oi := ⟨some 10, _, _, _, _, _⟩) (v := ?_) rfl (by kernel_rfl) (by kernel_rfl) (by kernel_rfl) (fun _ _ _ h => h) (Or.inl ⟨by rfl, ?_⟩) (by assumption) ?_
        rotate_left
        · intro w5 hSw
          (try dsimp only at hSw)
          go_simp
          (try with_reducible rfl)
        try simp only [Act.put, List.setIfInBounds_toArray, List.set_cons_zero, List.set_cons_succ]
        refine wpAnyH_take (i := 4) (oi := ⟨some 11, _, _, _, _, _⟩) (v := ?_) rfl (by kernel_rfl) (by kernel_rfl) (by kernel_rfl) (fun _ _ _ h => h) (Or.inl ⟨by rfl, ?_⟩) (by assumption) ?_
        rotate_left
        · intro w5 hSw
          (try dsimp only at hSw)
          go_simp
          (try with_reducible rfl)
        try simp only [Act.put, List.setIfInBounds_toArray, List.set_cons_zero, List.set_cons_succ]
        refine wpAnyH_ready (rs := [5]) (by kernel_rfl) (by simp) ?_
        refine AllReadyH.cons (o := ⟨some 12, _, _, _, _, _⟩) rfl (fun K hK => ?_) AllReadyH.nil
        go_simp
        go_at_call 39
        refine (HC2.out _ HI.out).mono ?_
        clear HI
        rintro x w1 ⟨rfl, HI, j0, j1, j2, j3, j4, j5, j6⟩
        refine hK.out _ _ ⟨j0, j1, j2, j3, j4, j5, j6⟩ (fun hHeld => ?_)
        clear hK K
        try simp only [Act.put, List.setIfInBounds_toArray, List.set_cons_zero, List.set_cons_succ]
        refine wpAnyH_take (i := 6) (oi := ⟨some 13, _, _, _, _, _⟩) (v := ?_) rfl (by kernel_rfl) (by kernel_rfl) (by kernel_rfl) (fun _ _ _ h => h) (Or.inl ⟨by rfl, ?_⟩) (by assumption) ?_
        rotate_left
        · intro w5 hSw
          (try dsimp only at hSw)
          go_simp
          (try with_reducible rfl)
        try simp only [Act.put, List.setIfInBounds_toArray, List.set_cons_zero, List.set_cons_succ]
        refine wpAnyH_take (i := 7) (oi := ⟨some 14, _, _, _, _, _⟩) (v := ?_) rfl (by kernel_rfl) (by kernel_rfl) (by kernel_rfl) (fun _ _ _ h => h) (Or.inl ⟨by rfl, ?_⟩) (by assumption) ?_
        rotate_left
        · intro w5 hSw
          (try dsimp only at hSw)
          go_simp
          (try with_reducible rfl)
        try simp only [Act.put, List.setIfInBounds_toArray, List.set_cons_zero, List.set_cons_succ]
        refine wpAnyH_take (i := 8) (oi := ⟨some 15, _, _, _, _, _⟩) (v := ?_) rfl (by kernel_rfl) (by kernel_rfl) (by kernel_rfl) (fun _ _ _ h => h) (Or.inl ⟨by rfl, ?_⟩) (by assumption) ?_
        rotate_left
        · intro w5 hSw
          (try dsimp only at hSw)
          go_simp
          (try with_reducible rfl)
        try simp only [Act.put, List.setIfInBounds_toArray, List.set_cons_zero, List.set_cons_succ]
        refine wpAnyH_take (i := 9) (oi := ⟨some 16, _, _, _, _, _⟩) (v := ?_) rfl (by kernel_rfl) (by kernel_rfl) (by kernel_rfl) (fun _ _ _ h => h) (Or.inl ⟨by rfl, ?_⟩) (by assumption) ?_
        rotate_left
        · intro w5 hSw
          (try dsimp only at hSw)
          go_simp
          (try with_reducible rfl)
        try simp only [Act.put, List.setIfInBounds_toArray, List.set_cons_zero, List.set_cons_succ]
        refine wpAnyH_take (i := 10) (oi := ⟨some 17, _, _, _, _, _⟩) (v := ?_) rfl (by kernel_rfl) (by kernel_rfl) (by kernel_rfl) (fun _ _ _ h => h) (Or.inl ⟨by rfl, ?_⟩) (by assumption) ?_
        rotate_left
        · intro w5 hSw
          (try dsimp only at hSw)
          go_simp
          (try with_reducible rfl)
        try simp only [Act.put, List.setIfInBounds_toArray, List.set_cons_zero, List.set_cons_succ]
        refine wpAnyH_take (i := 11) (oi := ⟨some 18, _, _, _, _, _⟩) (v := ?_) rfl (by kernel_rfl) (by kernel_rfl) (by kernel_rfl) (fun _ _ _ h => h) (Or.inl ⟨by rfl, ?_⟩) (by assumption) ?_
        rotate_left
        · intro w5 hSw
          (try dsimp only at hSw)
          go_simp
          (try with_reducible rfl)
        try simp only [Act.put, List.setIfInBounds_toArray, List.set_cons_zero, List.set_cons_succ]
        refine wpAnyH_ready (rs := [12]) (by kernel_rfl) (by simp) ?_
        refine AllReadyH.cons (o := ⟨some 19, _, _, _, _, _⟩) rfl (fun K hK => ?_) AllReadyH.nil
        go_simp
        go_at_call 16
        refine (HC3.out _ HI.out).mono ?_
        clear HI
        rintro x w1 ⟨rfl, HI, j0, j1, j2, j3, j4, j5, j6⟩
        refine hK.out _ _ ⟨j0, j1, j2, j3, j4, j5, j6⟩ (fun hHeld => ?_)
        clear hK K
        try simp only [Act.put, List.setIfInBounds_toArray, List.set_cons_zero, List.set_cons_succ]
        refine wpAnyH_take (i := 13) (oi := ⟨some 20, _, _, _, _, _⟩) (v := ?_) rfl (by kernel_rfl) (by kernel_rfl) (by kernel_rfl) (fun _ _ _ h => h) (Or.inl ⟨by rfl, ?_⟩) (by assumption) ?_
        rotate_left
        · intro w5 hSw
          (try dsimp only at hSw)
          go_simp
          (try with_reducible rfl)
        try simp only [Act.put, List.setIfInBounds_toArray, List.set_cons_zero, List.set_cons_succ]
        refine wpAnyH_take (i := 14) (oi := ⟨some 21, _, _, _, _, _⟩) (v := ?_) rfl (by kernel_rfl) (by kernel_rfl) (by kernel_rfl) (fun _ _ _ h => h) (Or.inl ⟨by rfl, ?_⟩) (by assumption) ?_
        rotate_left
        · intro w5 hSw
          (try dsimp only at hSw)
          go_simp
          (try with_reducible rfl)
        try simp only [Act.put, List.setIfInBounds_toArray, List.set_cons_zero, List.set_cons_succ]
        refine wpAnyH_take (i := 15) (oi := ⟨some 22, _, _, _, _, _⟩) (v := ?_) rfl (by kernel_rfl) (by kernel_rfl) (by kernel_rfl) (fun _ _ _ h => h) (Or.inl ⟨by rfl, ?_⟩) (by assumption) ?_
        rotate_left
        · intro w5 hSw
          (try dsimp only at hSw)
          go_simp
          (try with_reducible rfl)
        try simp only [Act.put, List.setIfInBounds_toArray, List.set_cons_zero, List.set_cons_succ]
        refine wpAnyH_done (by kernel_rfl) ?_ _
        clear hHeld
        obtain ⟨z0, z1, z2, z3, zf⟩ := HI.out.zero
        have HP := HI.out.put (.int .i64 0) (.int .i64 0) (.slice none 0 0) (.int .i64 0)
        obtain ⟨e1, e2⟩ := HP.out
        clear HP HI
        go_wp2
        revert e1 e2
        generalize (World.setCell _ ⟨w.heap.size + 2, 3, none⟩ _) = W
        intro e1 e2
        exact bodyPost_ret (v := .tuple #[logV zL (.slice none 0 0), .int .i64 80]) (by simp [results, Try.results23, go_sem, cell_at e1, logV, logA, zL]) rfl ⟨_, rfl, own_nil _ _, e2⟩
      · rw [if_neg ht]
        by_cases h4 : L.l.length = 400
        · rw [if_pos h4]
          unfold logV logA entA at *
          obtain ⟨bi, bt, l, cm⟩ := L
          obtain ⟨et, ek, ex⟩ := e
          simp only at HI HC1 HC2 HC3 ht h4 ⊢
          have h4b : ((l.length : Int) == 400) = true := by simp [h4]
          clear h hm HC3' HEN hmk he hin hlas hll
          have H4 := hideIt h4
          clear h4
          go_enter Try.func23, Try.ntmps23
          go_upto_region 1 with fail
          refine wp_region_held_drew (S := fun w' => w'.cell? ⟨w.heap.size, 0, none⟩ = some (.int .i64 bi) ∧ w'.cell? ⟨w.heap.size, 1, none⟩ = some (.int .i64 bt) ∧ w'.cell? ⟨w.heap.size, 2, none⟩ = some (.slice a l.length c) ∧ w'.cell? ⟨w.heap.size, 3, none⟩ = some (.int .i64 cm) ∧ w'.cell? ⟨w.heap.size + 1, 0, none⟩ = some (.int .i64 et) ∧ w'.cell? ⟨w.heap.size + 1, 1, none⟩ = some (.int .i64 ek) ∧ w'.cell? ⟨w.heap.size + 1, 2, none⟩ = some (.string ex)) (by kernel_rfl) HI.out.cells (fun hHeld => ?_)
          generalize (((w.alloc (.cells #[.int .i64 bi, .int .i64 bt, .slice a l.length c, .int .i64 cm] 26)).alloc (.cells #[.int .i64 et, .int .i64 ek, .string ex] 40)).alloc (.cells #[.int .i64 0, .int .i64 0, .slice none 0 0, .int .i64 0] 26)).drew = wa at *
          refine wpAnyH_take (i := 0) (oi := ⟨some 7, _, _, _, _, _⟩) (v := ?_) rfl (by kernel_rfl) (by kernel_rfl) (by kernel_rfl) (fun _ _ _ h => h) (Or.inl ⟨by rfl, ?_⟩) (by assumption) ?_
          rotate_left
          · intro w5 hSw
            (try dsimp only at hSw)
            go_simp
            (try with_reducible rfl)
          try simp only [Act.put, List.setIfInBounds_toArray, List.set_cons_zero, List.set_cons_succ]
          refine wpAnyH_ready (rs := [1]) (by kernel_rfl) (by simp) ?_
          refine AllReadyH.cons (o := ⟨some 8, _, _, _, _, _⟩) rfl (fun K hK => ?_) AllReadyH.nil
          go_simp
          go_at_call 14
          refine (HC1.out _ HI.out).mono ?_
          clear HI
          rintro x w1 ⟨rfl, HI, j0, j1, j2, j3, j4, j5, j6⟩
          refine hK.out _ _ ⟨j0, j1, j2, j3, j4, j5, j6⟩ (fun hHeld => ?_)
          clear hK K
          try simp only [Act.put, List.setIfInBounds_toArray, List.set_cons_zero, List.set_cons_succ]
          refine wpAnyH_take (i := 2) (oi := ⟨some 9, _, _, _, _, _⟩) (v := ?_) rfl (by kernel_rfl) (by kernel_rfl) (by kernel_rfl) (fun _ _ _ h => h) (Or.inl ⟨by rfl, ?_⟩) (by assumption) ?_
          rotate_left
          · intro w5 hSw
            (try dsimp only at hSw)
            go_simp
            (try with_reducible rfl)
          try simp only [Act.put, List.setIfInBounds_toArray, List.set_cons_zero, List.set_cons_succ]
          refine wpAnyH_take (i := 3) (oi := ⟨some 10, _, _, _, _, _⟩) (v := ?_) rfl (by kernel_rfl) (by kernel_rfl) (by kernel_rfl) (fun _ _ _ h => h) (Or.inl ⟨by rfl, ?_⟩) (by assumption) ?_
          rotate_left
          · intro w5 hSw
            (try dsimp only at hSw)
            go_simp
            (try with_reducible rfl)
          try simp only [Act.put, List.setIfInBounds_toArray, List.set_cons_zero, List.set_cons_succ]
          refine wpAnyH_take (i := 4) (oi := ⟨some 11, _, _, _, _, _⟩) (v := ?_) rfl (by kernel_rfl) (by kernel_rfl) (by kernel_rfl) (fun _ _ _ h => h) (Or.inl ⟨by rfl, ?_⟩) (by assumption) ?_
          rotate_left
          · intro w5 hSw
            (try dsimp only at hSw)
            go_simp
            (try with_reducible rfl)
          try simp only [Act.put, List.setIfInBounds_toArray, List.set_cons_zero, List.set_cons_succ]
          refine wpAnyH_ready (rs := [5]) (by kernel_rfl) (by simp) ?_
          refine AllReadyH.cons (o := ⟨some 12, _, _, _, _, _⟩) rfl (fun K hK => ?_) AllReadyH.nil
          go_simp
          go_at_call 39
          refine (HC2.out _ HI.out).mono ?_
          clear HI
          rintro x w1 ⟨rfl, HI, j0, j1, j2, j3, j4, j5, j6⟩
          refine hK.out _ _ ⟨j0, j1, j2, j3, j4, j5, j6⟩ (fun hHeld => ?_)
          clear hK K
          try simp only [Act.put, List.setIfInBounds_toArray, List.set_cons_zero, List.set_cons_succ]
          refine wpAnyH_take (i := 6) (oi := ⟨some 13, _, _, _, _, _⟩) (v := ?_) rfl (by kernel_rfl) (by kernel_rfl) (by kernel_rfl) (fun _ _ _ h => h) (Or.inl ⟨by rfl, ?_⟩) (by assumption) ?_
          rotate_left
          · intro w5 hSw
            (try dsimp only at hSw)
            go_simp
            (try with_reducible rfl)
          try simp only [Act.put, List.setIfInBounds_toArray, List.set_cons_zero, List.set_cons_succ]
          refine wpAnyH_take (i := 7) (oi := ⟨some 14, _, _, _, _, _⟩) (v := ?_) rfl (by kernel_rfl) (by kernel_rfl) (by kernel_rfl) (fun _ _ _ h => h) (Or.inl ⟨by rfl, ?_⟩) (by assumption) ?_
          rotate_left
          · intro w5 hSw
            (try dsimp only at hSw)
            go_simp
            (try with_reducible rfl)
          try simp only [Act.put, List.setIfInBounds_toArray, List.set_cons_zero, List.set_cons_succ]
          refine wpAnyH_take (i := 8) (oi := ⟨some 15, _, _, _, _, _⟩) (v := ?_) rfl (by kernel_rfl) (by kernel_rfl) (by kernel_rfl) (fun _ _ _ h => h) (Or.inl ⟨by rfl, ?_⟩) (by assumption) ?_
          rotate_left
          · intro w5 hSw
            (try dsimp only at hSw)
            go_simp
            (try with_reducible rfl)
          try simp only [Act.put, List.setIfInBounds_toArray, List.set_cons_zero, List.set_cons_succ]
          refine wpAnyH_take (i := 9) (oi := ⟨some 16, _, _, _, _, _⟩) (v := ?_) rfl (by kernel_rfl) (by kernel_rfl) (by kernel_rfl) (fun _ _ _ h => h) (Or.inl ⟨by rfl, ?_⟩) (by assumption) ?_
          rotate_left
          · intro w5 hSw
            (try dsimp only at hSw)
            go_simp
            (try with_reducible rfl)
          try simp only [Act.put, List.setIfInBounds_toArray, List.set_cons_zero, List.set_cons_succ]
          refine wpAnyH_take (i := 10) (oi := ⟨some 17, _, _, _, _, _⟩) (v := ?_) rfl (by kernel_rfl) (by kernel_rfl) (by kernel_rfl) (fun _ _ _ h => h) (Or.inl ⟨by rfl, ?_⟩) (by assumption) ?_
          rotate_left
          · intro w5 hSw
            (try dsimp only at hSw)
            go_simp
            (try with_reducible rfl)
          try simp only [Act.put, List.setIfInBounds_toArray, List.set_cons_zero, List.set_cons_succ]
          refine wpAnyH_take (i := 11) (oi := ⟨some 18, _, _, _, _, _⟩) (v := ?_) rfl (by kernel_rfl) (by kernel_rfl) (by kernel_rfl) (fun _ _ _ h => h) (Or.inl ⟨by rfl, ?_⟩) (by assumption) ?_
          rotate_left
          · intro w5 hSw
            (try dsimp only at hSw)
            go_simp
            (try with_reducible rfl)
          try simp only [Act.put, List.setIfInBounds_toArray, List.set_cons_zero, List.set_cons_succ]
          refine wpAnyH_ready (rs := [12]) (by kernel_rfl) (by simp) ?_
          refine AllReadyH.cons (o := ⟨some 19, _, _, _, _, _⟩) rfl (fun K hK => ?_) AllReadyH.nil
          go_simp
          go_at_call 16
          refine (HC3.out _ HI.out).mono ?_
          clear HI
          rintro x w1 ⟨rfl, HI, j0, j1, j2, j3, j4, j5, j6⟩
          refine hK.out _ _ ⟨j0, j1, j2, j3, j4, j5, j6⟩ (fun hHeld => ?_)
          clear hK K
          try simp only [Act.put, List.setIfInBounds_toArray, List.set_cons_zero, List.set_cons_succ]
          refine wpAnyH_take (i := 13) (oi := ⟨some 20, _, _, _, _, _⟩) (v := ?_) rfl (by kernel_rfl) (by kernel_rfl) (by kernel_rfl) (fun _ _ _ h => h) (Or.inl ⟨by rfl, ?_⟩) (by assumption) ?_
          rotate_left
          · intro w5 hSw
            (try dsimp only at hSw)
            go_simp
            (try with_reducible rfl)
          try simp only [Act.put, List.setIfInBounds_toArray, List.set_cons_zero, List.set_cons_succ]
          refine wpAnyH_take (i := 14) (oi := ⟨some 21, _, _, _, _, _⟩) (v := ?_) rfl (by kernel_rfl) (by kernel_rfl) (by kernel_rfl) (fun _ _ _ h => h) (Or.inl ⟨by rfl, ?_⟩) (by assumption) ?_
          rotate_left
          · intro w5 hSw
            (try dsimp only at hSw)
            go_simp
            (try with_reducible rfl)
          try simp only [Act.put, List.setIfInBounds_toArray, List.set_cons_zero, List.set_cons_succ]
          refine wpAnyH_take (i := 15) (oi := ⟨some 22, _, _, _, _, _⟩) (v := ?_) rfl (by kernel_rfl) (by kernel_rfl) (by kernel_rfl) (fun _ _ _ h => h) (Or.inl ⟨by rfl, ?_⟩) (by assumption) ?_
          rotate_left
          · intro w5 hSw
            (try dsimp only at hSw)
            go_simp
            (try with_reducible rfl)
          try simp only [Act.put, List.setIfInBounds_toArray, List.set_cons_zero, List.set_cons_succ]
          refine wpAnyH_done (by kernel_rfl) ?_ _
          clear hHeld
          obtain ⟨j0, j1, j2, j3, j4, j5, j6⟩ := HI.out.cells
          simp only at j0 j1 j2 j3 j4 j5 j6
          obtain ⟨z0, z1, z2, z3, zf⟩ := HI.out.zero
          have HP := HI.out.put (.int .i64 0) (.int .i64 0) (.slice none 0 0) (.int .i64 0)
          obtain ⟨e1, e2⟩ := HP.out
          clear HP HI
          go_wp2
          revert e1 e2
          generalize (World.setCell _ ⟨w.heap.size + 2, 3, none⟩ _) = W
          intro e1 e2
          exact bodyPost_ret (v := .tuple #[logV zL (.slice none 0 0), .int .i64 2]) (by simp [results, Try.results23, go_sem, cell_at e1, logV, logA, zL]) rfl ⟨_, rfl, own_nil _ _, e2⟩
        · rw [if_neg h4]
          have h4b : ((L.l.length : Int) == 400) = false := beq_eq_false_iff_ne.2 (by omega)
          by_cases h5 : lasI L = 1000000
          · rw [if_pos h5]
            rw [h5] at HEN
            unfold logV logA entA at *
            obtain ⟨bi, bt, l, cm⟩ := L
            obtain ⟨et, ek, ex⟩ := e
            simp only at HI HC1 HC2 HC3 HEN ht h4b ⊢
            clear h hm HC3' hmk he hin hlas h4 h5
            go_enter Try.func23, Try.ntmps23
            go_upto_region 1 with fail
            refine wp_region_held_drew (S := fun w' => w'.cell? ⟨w.heap.size, 0, none⟩ = some (.int .i64 bi) ∧ w'.cell? ⟨w.heap.size, 1, none⟩ = some (.int .i64 bt) ∧ w'.cell? ⟨w.heap.size, 2, none⟩ = some (.slice a l.length c) ∧ w'.cell? ⟨w.heap.size, 3, none⟩ = some (.int .i64 cm) ∧ w'.cell? ⟨w.heap.size + 1, 0, none⟩ = some (.int .i64 et) ∧ w'.cell? ⟨w.heap.size + 1, 1, none⟩ = some (.int .i64 ek) ∧ w'.cell? ⟨w.heap.size + 1, 2, none⟩ = some (.string ex)) (by kernel_rfl) HI.out.cells (fun hHeld => ?_)
            generalize (((w.alloc (.cells #[.int .i64 bi, .int .i64 bt, .slice a l.length c, .int .i64 cm] 26)).alloc (.cells #[.int .i64 et, .int .i64 ek, .string ex] 40)).alloc (.cells #[.int .i64 0, .int .i64 0, .slice none 0 0, .int .i64 0] 26)).drew = wa at *
            refine wpAnyH_take (i := 0) (oi := ⟨some 7, _, _, _, _, _⟩) (v := ?_) rfl (by kernel_rfl) (by kernel_rfl) (by kernel_rfl) (fun _ _ _ h => h) (Or.inl ⟨by rfl, ?_⟩) (by assumption) ?_
            rotate_left
            · intro w5 hSw
              (try dsimp only at hSw)
              go_simp
              (try with_reducible rfl)
            try simp only [Act.put, List.setIfInBounds_toArray, List.set_cons_zero, List.set_cons_succ]
            refine wpAnyH_ready (rs := [1]) (by kernel_rfl) (by simp) ?_
            refine AllReadyH.cons (o := ⟨some 8, _, _, _, _, _⟩) rfl (fun K hK => ?_) AllReadyH.nil
            go_simp
            go_at_call 14
            refine (HC1.out _ HI.out).mono ?_
            clear HI
            rintro x w1 ⟨rfl, HI, j0, j1, j2, j3, j4, j5, j6⟩
            refine hK.out _ _ ⟨j0, j1, j2, j3, j4, j5, j6⟩ (fun hHeld => ?_)
            clear hK K
            try simp only [Act.put, List.setIfInBounds_toArray, List.set_cons_zero, List.set_cons_succ]
            refine wpAnyH_take (i := 2) (oi := ⟨some 9, _, _, _, _, _⟩) (v := ?_) rfl (by kernel_rfl) (by kernel_rfl) (by kernel_rfl) (fun _ _ _ h => h) (Or.inl ⟨by rfl, ?_⟩) (by assumption) ?_
            rotate_left
            · intro w5 hSw
              (try dsimp only at hSw)
              go_simp
              (try with_reducible rfl)
            try simp only [Act.put, List.setIfInBounds_toArray, List.set_cons_zero, List.set_cons_succ]
            refine wpAnyH_take (i := 3) (oi := ⟨some 10, _, _, _, _, _⟩) (v := ?_) rfl (by kernel_rfl) (by kernel_rfl) (by kernel_rfl) (fun _ _ _ h => h) (Or.inl ⟨by rfl, ?_⟩) (by assumption) ?_
            rotate_left
            · intro w5 hSw
              (try dsimp only at hSw)
              go_simp
              (try with_reducible rfl)
            try simp only [Act.put, List.setIfInBounds_toArray, List.set_cons_zero, List.set_cons_succ]
            refine wpAnyH_take (i := 4) (oi := ⟨some 11, _, _, _, _, _⟩) (v := ?_) rfl (by kernel_rfl) (by kernel_rfl) (by kernel_rfl) (fun _ _ _ h => h) (Or.inl ⟨by rfl, ?_⟩) (by assumption) ?_
            rotate_left
            · intro w5 hSw
              (try dsimp only at hSw)
              go_simp
              (try with_reducible rfl)
            try simp only [Act.put, List.setIfInBounds_toArray, List.set_cons_zero, List.set_cons_succ]
            refine wpAnyH_ready (rs := [5]) (by kernel_rfl) (by simp) ?_
            refine AllReadyH.cons (o := ⟨some 12, _, _, _, _, _⟩) rfl (fun K hK => ?_) AllReadyH.nil
            go_simp
            go_at_call 39
            refine (HC2.out _ HI.out).mono ?_
            clear HI
            rintro x w1 ⟨rfl, HI, j0, j1, j2, j3, j4, j5, j6⟩
            refine hK.out _ _ ⟨j0, j1, j2, j3, j4, j5, j6⟩ (fun hHeld => ?_)
            clear hK K
            try simp only [Act.put, List.setIfInBounds_toArray, List.set_cons_zero, List.set_cons_succ]
            refine wpAnyH_take (i := 6) (oi := ⟨some 13, _, _, _, _, _⟩) (v := ?_) rfl (by kernel_rfl) (by kernel_rfl) (by kernel_rfl) (fun _ _ _ h => h) (Or.inl ⟨by rfl, ?_⟩) (by assumption) ?_
            rotate_left
            · intro w5 hSw
              (try dsimp only at hSw)
              go_simp
              (try with_reducible rfl)
            try simp only [Act.put, List.setIfInBounds_toArray, List.set_cons_zero, List.set_cons_succ]
            refine wpAnyH_take (i := 7) (oi := ⟨some 14, _, _, _, _, _⟩) (v := ?_) rfl (by kernel_rfl) (by kernel_rfl) (by kernel_rfl) (fun _ _ _ h => h) (Or.inl ⟨by rfl, ?_⟩) (by assumption) ?_
            rotate_left
            · intro w5 hSw
              (try dsimp only at hSw)
              go_simp
              (try with_reducible rfl)
            try simp only [Act.put, List.setIfInBounds_toArray, List.set_cons_zero, List.set_cons_succ]
            refine wpAnyH_take (i := 8) (oi := ⟨some 15, _, _, _, _, _⟩) (v := ?_) rfl (by kernel_rfl) (by kernel_rfl) (by kernel_rfl) (fun _ _ _ h => h) (Or.inl ⟨by rfl, ?_⟩) (by assumption) ?_
            rotate_left
            · intro w5 hSw
              (try dsimp only at hSw)
              go_simp
              (try with_reducible rfl)
            try simp only [Act.put, List.setIfInBounds_toArray, List.set_cons_zero, List.set_cons_succ]
            refine wpAnyH_take (i := 9) (oi := ⟨some 16, _, _, _, _, _⟩) (v := ?_) rfl (by kernel_rfl) (by kernel_rfl) (by kernel_rfl) (fun _ _ _ h => h) (Or.inl ⟨by rfl, ?_⟩) (by assumption) ?_
            rotate_left
            · intro w5 hSw
              (try dsimp only at hSw)
              go_simp
              (try with_reducible rfl)
            try simp only [Act.put, List.setIfInBounds_toArray, List.set_cons_zero, List.set_cons_succ]
            refine wpAnyH_take (i := 10) (oi := ⟨some 17, _, _, _, _, _⟩) (v := ?_) rfl (by kernel_rfl) (by kernel_rfl) (by kernel_rfl) (fun _ _ _ h => h) (Or.inl ⟨by rfl, ?_⟩) (by assumption) ?_
            rotate_left
            · intro w5 hSw
              (try dsimp only at hSw)
              go_simp
              (try with_reducible rfl)
            try simp only [Act.put, List.setIfInBounds_toArray, List.set_cons_zero, List.set_cons_succ]
            refine wpAnyH_take (i := 11) (oi := ⟨some 18, _, _, _, _, _⟩) (v := ?_) rfl (by kernel_rfl) (by kernel_rfl) (by kernel_rfl) (fun _ _ _ h => h) (Or.inl ⟨by rfl, ?_⟩) (by assumption) ?_
            rotate_left
            · intro w5 hSw
              (try dsimp only at hSw)
              go_simp
              (try with_reducible rfl)
            try simp only [Act.put, List.setIfInBounds_toArray, List.set_cons_zero, List.set_cons_succ]
            refine wpAnyH_ready (rs := [12]) (by kernel_rfl) (by simp) ?_
            refine AllReadyH.cons (o := ⟨some 19, _, _, _, _, _⟩) rfl (fun K hK => ?_) AllReadyH.nil
            go_simp
            go_at_call 16
            refine (HC3.out _ HI.out).mono ?_
            clear HI
            rintro x w1 ⟨rfl, HI, j0, j1, j2, j3, j4, j5, j6⟩
            refine hK.out _ _ ⟨j0, j1, j2, j3, j4, j5, j6⟩ (fun hHeld => ?_)
            clear hK K
            try simp only [Act.put, List.setIfInBounds_toArray, List.set_cons_zero, List.set_cons_succ]
            refine wpAnyH_take (i := 13) (oi := ⟨some 20, _, _, _, _, _⟩) (v := ?_) rfl (by kernel_rfl) (by kernel_rfl) (by kernel_rfl) (fun _ _ _ h => h) (Or.inl ⟨by rfl, ?_⟩) (by assumption) ?_
            rotate_left
            · intro w5 hSw
              (try dsimp only at hSw)
              go_simp
              (try with_reducible rfl)
            try simp only [Act.put, List.setIfInBounds_toArray, List.set_cons_zero, List.set_cons_succ]
            refine wpAnyH_take (i := 14) (oi := ⟨some 21, _, _, _, _, _⟩) (v := ?_) rfl (by kernel_rfl) (by kernel_rfl) (by kernel_rfl) (fun _ _ _ h => h) (Or.inl ⟨by rfl, ?_⟩) (by assumption) ?_
            rotate_left
            · intro w5 hSw
              (try dsimp only at hSw)
              go_simp
              (try with_reducible rfl)
            try simp only [Act.put, List.setIfInBounds_toArray, List.set_cons_zero, List.set_cons_succ]
            refine wpAnyH_take (i := 15) (oi := ⟨some 22, _, _, _, _, _⟩) (v := ?_) rfl (by kernel_rfl) (by kernel_rfl) (by kernel_rfl) (fun _ _ _ h => h) (Or.inl ⟨by rfl, ?_⟩) (by assumption) ?_
            rotate_left
            · intro w5 hSw
              (try dsimp only at hSw)
              go_simp
              (try with_reducible rfl)
            try simp only [Act.put, List.setIfInBounds_toArray, List.set_cons_zero, List.set_cons_succ]
            refine wpAnyH_done (by kernel_rfl) ?_ _
            clear hHeld
            obtain ⟨j0, j1, j2, j3, j4, j5, j6⟩ := HI.out.cells
            simp only at j0 j1 j2 j3 j4 j5 j6
            go_wp2_with fail
            refine (HEN.out _ HI.out.bel).mono ?_
            rintro e w2 ⟨rfl, rfl⟩
            dsimp only
            replace HI := hideIt (HI.out.keep (below1 w1 (.cells #[.int .i64 bi, .int .i64 bt, .slice a l.length c, .int .i64 cm] 26)))
            clear j0 j1 j2 j3 j4 j5 j6
            generalize w1.alloc (.cells #[.int .i64 bi, .int .i64 bt, .slice a l.length c, .int .i64 cm] 26) = w2 at *
            obtain ⟨z0, z1, z2, z3, zf⟩ := HI.out.zero
            have HP := HI.out.put (.int .i64 0) (.int .i64 0) (.slice none 0 0) (.int .i64 0)
            obtain ⟨e1, e2⟩ := HP.out
            clear HP HI
            go_wp2
            revert e1 e2
            generalize (World.setCell _ ⟨w.heap.size + 2, 3, none⟩ _) = W
            intro e1 e2
            exact bodyPost_ret (v := .tuple #[logV zL (.slice none 0 0), .int .i64 2]) (by simp [results, Try.results23, go_sem, cell_at e1, logV, logA, zL]) rfl ⟨_, rfl, own_nil _ _, e2⟩
          · rw [if_neg h5]
            have h5b : (lasI L == 1000000) = false := beq_eq_false_iff_ne.2 h5
            generalize lasI L = li at *
            unfold logV logA at *
            obtain ⟨bi, bt, l, cm⟩ := L
            have hen := hideIt he
            obtain ⟨et, ek, ex⟩ := e
            unfold entA at *
            simp only at HI HC1 HC2 HC3 HEN HOK ht h4b ⊢
            clear h hm HC3' hmk he hin hlas h4 h5 hen
            obtain ⟨D, hD⟩ : ∃ D, D = l ++ [⟨et, ek, ex⟩] := ⟨_, rfl⟩
            rw [← hD]
            have HDD := hideIt hD
            clear hD
            go_enter Try.func23, Try.ntmps23
            go_upto_region 1 with fail
            refine wp_region_held_drew (S := fun w' => w'.cell? ⟨w.heap.size, 0, none⟩ = some (.int .i64 bi) ∧ w'.cell? ⟨w.heap.size, 1, none⟩ = some (.int .i64 bt) ∧ w'.cell? ⟨w.heap.size, 2, none⟩ = some (.slice a l.length c) ∧ w'.cell? ⟨w.heap.size, 3, none⟩ = some (.int .i64 cm) ∧ w'.cell? ⟨w.heap.size + 1, 0, none⟩ = some (.int .i64 et) ∧ w'.cell? ⟨w.heap.size + 1, 1, none⟩ = some (.int .i64 ek) ∧ w'.cell? ⟨w.heap.size + 1, 2, none⟩ = some (.string ex)) (by kernel_rfl) HI.out.cells (fun hHeld => ?_)
            generalize (((w.alloc (.cells #[.int .i64 bi, .int .i64 bt, .slice a l.length c, .int .i64 cm] 26)).alloc (.cells #[.int .i64 et, .int .i64 ek, .string ex] 40)).alloc (.cells #[.int .i64 0, .int .i64 0, .slice none 0 0, .int .i64 0] 26)).drew = wa at *
            refine wpAnyH_take (i := 0) (oi := ⟨some 7, _, _, _, _, _⟩) (v := ?_) rfl (by kernel_rfl) (by kernel_rfl) (by kernel_rfl) (fun _ _ _ h => h) (Or.inl ⟨by rfl, ?_⟩) (by assumption) ?_
            rotate_left
            · intro w5 hSw
              (try dsimp only at hSw)
              go_simp
              (try with_reducible rfl)
            try simp only [Act.put, List.setIfInBounds_toArray, List.set_cons_zero, List.set_cons_succ]
            refine wpAnyH_ready (rs := [1]) (by kernel_rfl) (by simp) ?_
            refine AllReadyH.cons (o := ⟨some 8, _, _, _, _, _⟩) rfl (fun K hK => ?_) AllReadyH.nil
            go_simp
            go_at_call 14
            refine (HC1.out _ HI.out).mono ?_
            clear HI
            rintro x w1 ⟨rfl, HI, j0, j1, j2, j3, j4, j5, j6⟩
            refine hK.out _ _ ⟨j0, j1, j2, j3, j4, j5, j6⟩ (fun hHeld => ?_)
            clear hK K
            try simp only [Act.put, List.setIfInBounds_toArray, List.set_cons_zero, List.set_cons_succ]
            refine wpAnyH_take (i := 2) (oi := ⟨some 9, _, _, _, _, _⟩) (v := ?_) rfl (by kernel_rfl) (by kernel_rfl) (by kernel_rfl) (fun _ _ _ h => h) (Or.inl ⟨by rfl, ?_⟩) (by assumption) ?_
            rotate_left
            · intro w5 hSw
              (try dsimp only at hSw)
              go_simp
              (try with_reducible rfl)
            try simp only [Act.put, List.setIfInBounds_toArray, List.set_cons_zero, List.set_cons_succ]
            refine wpAnyH_take (i := 3) (oi := ⟨some 10, _, _, _, _, _⟩) (v := ?_) rfl (by kernel_rfl) (by kernel_rfl) (by kernel_rfl) (fun _ _ _ h => h) (Or.inl ⟨by rfl, ?_⟩) (by assumption) ?_
            rotate_left
            · intro w5 hSw
              (try dsimp only at hSw)
              go_simp
              (try with_reducible rfl)
            try simp only [Act.put, List.setIfInBounds_toArray, List.set_cons_zero, List.set_cons_succ]
            refine wpAnyH_take (i := 4) (oi := ⟨some 11, _, _, _, _, _⟩) (v := ?_) rfl (by kernel_rfl) (by kernel_rfl) (by kernel_rfl) (fun _ _ _ h => h) (Or.inl ⟨by rfl, ?_⟩) (by assumption) ?_
            rotate_left
            · intro w5 hSw
              (try dsimp only at hSw)
              go_simp
              (try with_reducible rfl)
            try simp only [Act.put, List.setIfInBounds_toArray, List.set_cons_zero, List.set_cons_succ]
            refine wpAnyH_ready (rs := [5]) (by kernel_rfl) (by simp) ?_
            refine AllReadyH.cons (o := ⟨some 12, _, _, _, _, _⟩) rfl (fun K hK => ?_) AllReadyH.nil
            go_simp
            go_at_call 39
            refine (HC2.out _ HI.out).mono ?_
            clear HI
            rintro x w1 ⟨rfl, HI, j0, j1, j2, j3, j4, j5, j6⟩
            refine hK.out _ _ ⟨j0, j1, j2, j3, j4, j5, j6⟩ (fun hHeld => ?_)
            clear hK K
            try simp only [Act.put, List.setIfInBounds_toArray, List.set_cons_zero, List.set_cons_succ]
            refine wpAnyH_take (i := 6) (oi := ⟨some 13, _, _, _, _, _⟩) (v := ?_) rfl (by kernel_rfl) (by kernel_rfl) (by kernel_rfl) (fun _ _ _ h => h) (Or.inl ⟨by rfl, ?_⟩) (by assumption) ?_
            rotate_left
            · intro w5 hSw
              (try dsimp only at hSw)
              go_simp
              (try with_reducible rfl)
            try simp only [Act.put, List.setIfInBounds_toArray, List.set_cons_zero, List.set_cons_succ]
            refine wpAnyH_take (i := 7) (oi := ⟨some 14, _, _, _, _, _⟩) (v := ?_) rfl (by kernel_rfl) (by kernel_rfl) (by kernel_rfl) (fun _ _ _ h => h) (Or.inl ⟨by rfl, ?_⟩) (by assumption) ?_
            rotate_left
            · intro w5 hSw
              (try dsimp only at hSw)
              go_simp
              (try with_reducible rfl)
            try simp only [Act.put, List.setIfInBounds_toArray, List.set_cons_zero, List.set_cons_succ]
            refine wpAnyH_take (i := 8) (oi := ⟨some 15, _, _, _, _, _⟩) (v := ?_) rfl (by kernel_rfl) (by kernel_rfl) (by kernel_rfl) (fun _ _ _ h => h) (Or.inl ⟨by rfl, ?_⟩) (by assumption) ?_
            rotate_left
            · intro w5 hSw
              (try dsimp only at hSw)
              go_simp
              (try with_reducible rfl)
            try simp only [Act.put, List.setIfInBounds_toArray, List.set_cons_zero, List.set_cons_succ]
            refine wpAnyH_take (i := 9) (oi := ⟨some 16, _, _, _, _, _⟩) (v := ?_) rfl (by kernel_rfl) (by kernel_rfl) (by kernel_rfl) (fun _ _ _ h => h) (Or.inl ⟨by rfl, ?_⟩) (by assumption) ?_
            rotate_left
            · intro w5 hSw
              (try dsimp only at hSw)
              go_simp
              (try with_reducible rfl)
            try simp only [Act.put, List.setIfInBounds_toArray, List.set_cons_zero, List.set_cons_succ]
            refine wpAnyH_take (i := 10) (oi := ⟨some 17, _, _, _, _, _⟩) (v := ?_) rfl (by kernel_rfl) (by kernel_rfl) (by kernel_rfl) (fun _ _ _ h => h) (Or.inl ⟨by rfl, ?_⟩) (by assumption) ?_
            rotate_left
            · intro w5 hSw
              (try dsimp only at hSw)
              go_simp
              (try with_reducible rfl)
            try simp only [Act.put, List.setIfInBounds_toArray, List.set_cons_zero, List.set_cons_succ]
            refine wpAnyH_take (i := 11) (oi := ⟨some 18, _, _, _, _, _⟩) (v := ?_) rfl (by kernel_rfl) (by kernel_rfl) (by kernel_rfl) (fun _ _ _ h => h) (Or.inl ⟨by rfl, ?_⟩) (by assumption) ?_
            rotate_left
            · intro w5 hSw
              (try dsimp only at hSw)
              go_simp
              (try with_reducible rfl)
            try simp only [Act.put, List.setIfInBounds_toArray, List.set_cons_zero, List.set_cons_succ]
            refine wpAnyH_ready (rs := [12]) (by kernel_rfl) (by simp) ?_
            refine AllReadyH.cons (o := ⟨some 19, _, _, _, _, _⟩) rfl (fun K hK => ?_) AllReadyH.nil
            go_simp
            go_at_call 16
            refine (HC3.out _ HI.out).mono ?_
            clear HI
            rintro x w1 ⟨rfl, HI, j0, j1, j2, j3, j4, j5, j6⟩
            refine hK.out _ _ ⟨j0, j1, j2, j3, j4, j5, j6⟩ (fun hHeld => ?_)
            clear hK K
            try simp only [Act.put, List.setIfInBounds_toArray, List.set_cons_zero, List.set_cons_succ]
            refine wpAnyH_take (i := 13) (oi := ⟨some 20, _, _, _, _, _⟩) (v := ?_) rfl (by kernel_rfl) (by kernel_rfl) (by kernel_rfl) (fun _ _ _ h => h) (Or.inl ⟨by rfl, ?_⟩) (by assumption) ?_
            rotate_left
            · intro w5 hSw
              (try dsimp only at hSw)
              go_simp
              (try with_reducible rfl)
            try simp only [Act.put, List.setIfInBounds_toArray, List.set_cons_zero, List.set_cons_succ]
            refine wpAnyH_take (i := 14) (oi := ⟨some 21, _, _, _, _, _⟩) (v := ?_) rfl (by kernel_rfl) (by kernel_rfl) (by kernel_rfl) (fun _ _ _ h => h) (Or.inl ⟨by rfl, ?_⟩) (by assumption) ?_
            rotate_left
            · intro w5 hSw
              (try dsimp only at hSw)
              go_simp
              (try with_reducible rfl)
            try simp only [Act.put, List.setIfInBounds_toArray, List.set_cons_zero, List.set_cons_succ]
            refine wpAnyH_take (i := 15) (oi := ⟨some 22, _, _, _, _, _⟩) (v := ?_) rfl (by kernel_rfl) (by kernel_rfl) (by kernel_rfl) (fun _ _ _ h => h) (Or.inl ⟨by rfl, ?_⟩) (by assumption) ?_
            rotate_left
            · intro w5 hSw
              (try dsimp only at hSw)
              go_simp
              (try with_reducible rfl)
            try simp only [Act.put, List.setIfInBounds_toArray, List.set_cons_zero, List.set_cons_succ]
            refine wpAnyH_done (by kernel_rfl) ?_ _
            clear hHeld HC1 HC2 HC3 nf
            obtain ⟨j0, j1, j2, j3, j4, j5, j6⟩ := HI.out.cells
            simp only at j0 j1 j2 j3 j4 j5 j6
            go_wp2_with fail
            refine (HEN.out _ HI.out.bel).mono ?_
            rintro e w2 ⟨rfl, rfl⟩
            dsimp only
            replace HI := hideIt (HI.out.keep (below1 w1 (.cells #[.int .i64 bi, .int .i64 bt, .slice a l.length c, .int .i64 cm] 26)))
            clear j0 j1 j2 j3 j4 j5 j6 HEN
            generalize w1.alloc (.cells #[.int .i64 bi, .int .i64 bt, .slice a l.length c, .int .i64 cm] 26) = w2 at *
            obtain ⟨j0, j1, j2, j3, j4, j5, j6⟩ := HI.out.cells
            simp only at j0 j1 j2 j3 j4 j5 j6
            go_wp2_with fail
            refine (HOK.out _ HI.out.bel).mono ?_
            rintro e w3 ⟨gx, rfl, ho, hbl⟩
            dsimp only
            obtain ⟨xa, xc, rfl⟩ := own_len ho
            have hown := ho
            have HS24 : w2.heap.size ≤ w3.heap.size := hbl.size
            have C4 := below_via hbl (below1 w3 (.cells #[.int .i64 bi, .int .i64 bt, .slice xa l.length xc, .int .i64 cm] 26))
            have X4 := heap_alloc_new w3 (.cells #[.int .i64 bi, .int .i64 bt, .slice xa l.length xc, .int .i64 cm] 26)
            have o4 := own_keep ho (below1 w3 (.cells #[.int .i64 bi, .int .i64 bt, .slice xa l.length xc, .int .i64 cm] 26))
            have hk4 : w3.heap.size < (w3.alloc (.cells #[.int .i64 bi, .int .i64 bt, .slice xa l.length xc, .int .i64 cm] 26)).heap.size := by simp
            have T4 := hideIt (HI.out.keep C4)
            clear j0 j1 j2 j3 j4 j5 j6 HOK
            have hblk : ∀ q, (Value.slice xa l.length xc).ownBlock = some q → q ≠ w3.heap.size := by
              intro q e
              obtain ⟨_, ⟨h1, _⟩ | ⟨q2, cap, cur, h1, _, hg, _⟩⟩ := hown
              · rw [h1] at e
                cases e
              · rw [h1] at e
                simp only [Value.ownBlock, Option.some.injEq] at e
                have := (Array.getElem?_eq_some_iff.1 hg).1
                omega
            go_upto_region 6 with fail
            generalize w3.alloc (.cells #[.int .i64 bi, .int .i64 bt, .slice xa l.length xc, .int .i64 cm] 26) = w4 at *
            generalize w3.heap.size = k4 at *
            have c4s := C4.size
            obtain ⟨v', w5, hrun, how, hgr⟩ := run_app (w4.alloc (.cells (entA ⟨et, ek, ex⟩) 40)) 24 w2.heap.size (.slice xa l.length xc) l [⟨et, ek, ex⟩] (.slice (some ⟨w4.heap.size, 0, none⟩) 1 1) (by simp; omega) (own_keep o4 (below1 w4 _)) (one_ent w4 _) (by rw [List.length_singleton]; omega)
            have hb5 := grown_own hgr (own_keep o4 (below1 w4 _)) (below_via C4 (below1 w4 _))
            have T5 := hideIt (HI.out.keep hb5)
            have X5 := hideIt ((hgr.block k4 (by simp; omega) (fun e => hblk k4 e.symm rfl)).trans ((heap_alloc_old w4 _ hk4).trans X4))
            rw [← HDD.out] at how
            have HRUN := hideIt hrun
            unfold entA at HRUN
            simp only at HRUN
            obtain ⟨ra, rc, rfl⟩ := own_len how
            have hk5 : w.heap.size + 3 ≤ k4 := by
              have h1 := HI.out.size
              have h2 := C4.size
              have h3 : w2.heap.size ≤ k4 := HS24
              omega
            have T6 := hideIt (HI.out.keep (belowSet (b := k4) (j := 2) (.slice ra D.length rc) hb5 HS24))
            have X6 := hideIt (heap_set X5.out 2 (.slice ra D.length rc))
            have O6 := hideIt (own_ne (j := 2) (u := .slice ra D.length rc) how X5.out)
            have hs2 := HI.out.size
            have e3 := own4 (R := w.heap.size + 2) (.int .i64 bi) (.int .i64 bt) (.slice ra D.length rc) (.int .i64 cm) O6.out (by omega) w.heap.size (by omega)
            obtain ⟨j0, j1, j2, j3, j4, j5, j6⟩ := T4.out.cells
            simp only at j0 j1 j2 j3 j4 j5 j6
            have x2 : w4.cell? ⟨k4, 2, none⟩ = some (.slice xa l.length xc) := by rw [cell_at X4]; rfl
            have y2 : w5.cell? ⟨k4, 2, none⟩ = some (.slice xa l.length xc) := by rw [cell_at X5.out]; rfl
            have yf : ∀ j, w5.frozen? ⟨k4, j, none⟩ = false := fun j => free_at X5.out j
            have HP := T6.out.put (.int .i64 bi) (.int .i64 bt) (.slice ra D.length rc) (.int .i64 cm)
            clear X4 o4 hrun how hgr hb5 hblk hown ho hbl C4 T4 T5 O6 HI
            go_upto_region 7 with (at_builtin; refine wpList_append_run _ rfl _ _ rfl rfl rfl rfl HRUN.out ?_)
            clear HRUN x2 y2 yf j0 j1 j2 j3 j4 j5 j6 X5
            generalize w5.setCell ⟨k4, 2, none⟩ (.slice ra D.length rc) = w6 at *
            have y0 : w6.cell? ⟨k4, 0, none⟩ = some (.int .i64 bi) := by rw [cell_at X6.out]; rfl
            have y1 : w6.cell? ⟨k4, 1, none⟩ = some (.int .i64 bt) := by rw [cell_at X6.out]; rfl
            have y2 : w6.cell? ⟨k4, 2, none⟩ = some (.slice ra D.length rc) := by rw [cell_at X6.out]; rfl
            have y3 : w6.cell? ⟨k4, 3, none⟩ = some (.int .i64 cm) := by rw [cell_at X6.out]; rfl
            obtain ⟨z0, z1, z2, z3, zf⟩ := T6.out.zero
            obtain ⟨e1, e2⟩ := HP.out
            replace e3 := e3.out
            clear HP X6 T6
            go_wp2
            revert e1 e2 e3
            generalize (World.setCell _ ⟨w.heap.size + 2, 3, none⟩ _) = W
            intro e1 e2 e3
            exact bodyPost_ret (v := .tuple #[logV ⟨bi, bt, D, cm⟩ (.slice ra D.length rc), .int .i64 0]) (by simp [results, Try.results23, go_sem, cell_at e1, logV, logA]) rfl ⟨_, rfl, e3, e2⟩
end Go.Proofs.Ytonhoopmhkomcaa
