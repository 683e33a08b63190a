/- The document's last mark. -/
import Derived.Test.YtonhoopmhkomcaaLive8
import Derived.Test.YtonhoopmhkomcaaRCheck
namespace Go.Proofs.Ytonhoopmhkomcaa
open Go.RowKit
theorem lasM_nil {L : LogV} (h : L.l.length = 0) : lasM L = (L.bi, L.bt) := by
  unfold lasM markL
  rw [if_pos (by unfold lasI; omega)]
theorem lasM_at {L : LogV} (n : Nat) (h : L.l.length = n + 1) : lasM L = (lasI L, (L.l.getD n noE).term) := by
  unfold lasM markL
  rw [if_neg (by unfold lasI; omega)]
  have hb : hasB L (lasI L) = true := decide_eq_true (by unfold lasI; omega)
  rw [hb]
  simp only [if_true]
  rw [show (lasI L - L.bi - 1).toNat = n by unfold lasI; omega]
set_option maxHeartbeats 8000000 in
set_option maxRecDepth 100000 in
theorem rLast_is (L : LogV) (g : Value) (w : World) (h : EGot w g L.l) : Calls Try.prog 16 #[logV L g] w fun e w' => e = .returned (.agg #[.int .i64 (lastL L).1, .int .i64 (lastL L).2]) ∧ Below w.heap.size w w' := by
  have T0 := hideIt (Two.first w L g)
  have H1 := hideIt (rCheck_is L g _ (h.keep T0.out.bel))
  have H2 := hideIt (fun wx (hx : Below w.heap.size w wx) (hm : mayB L = true) => rEnd_is L g wx (h.keep hx) (near_may hm))
  have hh := hideIt h
  obtain ⟨a, c, rfl⟩ := h.slice
  unfold lastL
  cases hb : mayB L
  · have hc80 : chkI L = 80 := by simp [chkI, hb]
    rw [hc80] at H1
    simp only [Bool.false_eq_true, if_false]
    unfold logV logA at *
    obtain ⟨bi, bt, l, cm⟩ := L
    simp only at H1 T0 ⊢
    clear h H2 hh hb
    go_enter Try.func16, Try.ntmps16
    go_wp2_with fail
    refine H1.out.mono ?_
    rintro e w1 ⟨rfl, hbl⟩
    dsimp only
    have T1 := hideIt (T0.out.keep hbl)
    clear hbl T0 H1
    obtain ⟨_, _, _, _, r0, r1, rf⟩ := T1.out.cells
    have HP := T1.out.put (.int .i64 0) (.int .i64 0)
    clear T1
    go_wp2
    obtain ⟨e1, e2⟩ := HP.out
    revert e1 e2
    generalize (World.setCell _ ⟨w.heap.size + 1, 1, none⟩ _) = WF
    intro e1 e2
    exact bodyPost_ret (v := .agg #[.int .i64 0, .int .i64 0]) (by simp [results, Try.results16, go_sem, cell_at e1]) rfl ⟨rfl, e2⟩
  · have hc0 : chkI L = 0 := by simp [chkI, hb]
    rw [hc0] at H1
    simp only [if_true]
    replace H2 := hideIt (fun wx hx => H2.out wx hx hb)
    rcases Nat.eq_zero_or_pos L.l.length with h0 | hp
    · rw [lasM_nil h0]
      unfold logV logA at *
      obtain ⟨bi, bt, l, cm⟩ := L
      simp only at H1 T0 h0 ⊢
      have hl0 : ((l.length : Int) == 0) = true := by simp [h0]
      clear h H2 hh hb hc0 h0
      go_enter Try.func16, Try.ntmps16
      go_wp2_with fail
      refine H1.out.mono ?_
      rintro e w1 ⟨rfl, hbl⟩
      dsimp only
      have T1 := hideIt (T0.out.keep hbl)
      clear hbl T0 H1
      obtain ⟨c0, c1, c2, c3⟩ := T1.out.four
      simp only at c0 c1 c2 c3
      obtain ⟨_, _, _, _, r0, r1, rf⟩ := T1.out.cells
      have HP := T1.out.put (.int .i64 bi) (.int .i64 bt)
      clear T1
      go_wp2
      obtain ⟨e1, e2⟩ := HP.out
      revert e1 e2
      generalize (World.setCell _ ⟨w.heap.size + 1, 1, none⟩ _) = WF
      intro e1 e2
      exact bodyPost_ret (v := .agg #[.int .i64 bi, .int .i64 bt]) (by simp [results, Try.results16, go_sem, cell_at e1]) rfl ⟨rfl, e2⟩
    · obtain ⟨n, hn⟩ : ∃ n, L.l.length = n + 1 := ⟨L.l.length - 1, by omega⟩
      rw [lasM_at n hn]
      obtain ⟨b, off, rfl, hcell⟩ : ∃ b off, a = some ⟨b, off, none⟩ ∧ ∀ wx, Below w.heap.size w wx → wx.cell? ⟨b, off + n * 3, none⟩ = some (.int .i64 (L.l.getD n noE).term) := by
        obtain ⟨a', c', e, _, hr⟩ := hh.out.open
        simp only [Value.slice.injEq] at e
        obtain ⟨rfl, _, _⟩ := e
        obtain ⟨b, off, e2, hbl, q0, _⟩ := hr n (by omega)
        refine ⟨b, off, e2, fun wx hx => ?_⟩
        rw [hx.cell hbl, q0]
        simp [List.getD, List.getElem?_eq_getElem (show n < L.l.length by omega)]
      have HCE := hideIt hcell
      have hin := mayB_in hb
      generalize (L.l.getD n noE).term = et at *
      generalize lasI L = li at *
      unfold logV logA at *
      obtain ⟨bi, bt, l, cm⟩ := L
      simp only at H1 H2 T0 hn hin ⊢
      have hsub : (l.length : Int) - 1 = (n : Int) := by omega
      have n0 : (0 : Int) ≤ (n : Int) := by omega
      have n1 : (n : Int) < (l.length : Int) := by omega
      have hll : l.length ≤ 400 := hin.2.2.1
      have hlz : ((l.length : Int) == 0) = false := beq_eq_false_iff_ne.2 (by omega)
      have hwn : IntKind.i64.wrap (n : Int) = (n : Int) := by rw [IntKind.wrap_i64]; omega
      have n2 : n < l.length := by omega
      clear h hh hb hc0 hcell hin
      have HNN := hideIt hn
      clear hn hp
      go_enter Try.func16, Try.ntmps16
      go_wp2_with fail
      refine H1.out.mono ?_
      rintro e w1 ⟨rfl, hbl⟩
      dsimp only
      have T1 := hideIt (T0.out.keep hbl)
      obtain ⟨c0, c1, c2, c3⟩ := T1.out.four
      simp only at c0 c1 c2 c3
      clear hbl T0 H1
      go_upto_region 5 with fail
      clear c0 c1 c2 c3
      have T2 := hideIt T1.out.drew
      have CE2 := hideIt (HCE.out _ T2.out.bel)
      refine wp_region_held_drew (S := fun w' => w'.cell? ⟨w.heap.size, 0, none⟩ = some (.int .i64 bi) ∧ w'.cell? ⟨w.heap.size, 1, none⟩ = some (.int .i64 bt) ∧ w'.cell? ⟨w.heap.size, 2, none⟩ = some (.slice (some ⟨b, off, none⟩) l.length c) ∧ w'.cell? ⟨w.heap.size, 3, none⟩ = some (.int .i64 cm) ∧ w'.cell? ⟨b, off + n * 3, none⟩ = some (.int .i64 et)) (by kernel_rfl) ⟨T2.out.four.1, T2.out.four.2.1, T2.out.four.2.2.1, T2.out.four.2.2.2, CE2.out⟩ (fun hHeld => ?_)
      generalize w1.drew = w2 at *
      clear T1
      refine wpAnyH_take (i := 0) (oi := ⟨some 13, _, _, _, _, _⟩) (v := ?_) rfl (by kernel_rfl) (by kernel_rfl) (by kernel_rfl) (fun _ _ _ h => h) (Or.inl ⟨by rfl, ?_⟩) (by assumption) ?_
      rotate_left
      · intro w5 hSw
        (try dsimp only at hSw)
        go_simp
        (try with_reducible rfl)
      try simp only [Act.put, List.setIfInBounds_toArray, List.set_cons_zero, List.set_cons_succ]
      refine wpAnyH_take (i := 2) (oi := ⟨some 15, _, _, _, _, _⟩) (v := ?_) rfl (by kernel_rfl) (by kernel_rfl) (by kernel_rfl) (fun _ _ _ h => h) (Or.inl ⟨by rfl, ?_⟩) (by assumption) ?_
      rotate_left
      · intro w5 hSw
        (try dsimp only at hSw)
        go_simp
        (try with_reducible rfl)
      try simp only [Act.put, List.setIfInBounds_toArray, List.set_cons_zero, List.set_cons_succ]
      refine wpAnyH_take (i := 3) (oi := ⟨some 16, _, _, _, _, _⟩) (v := ?_) rfl (by kernel_rfl) (by kernel_rfl) (by kernel_rfl) (fun _ _ _ h => h) (Or.inl ⟨by rfl, ?_⟩) (by assumption) ?_
      rotate_left
      · intro w5 hSw
        (try dsimp only at hSw)
        go_simp
        (try with_reducible rfl)
      try simp only [Act.put, List.setIfInBounds_toArray, List.set_cons_zero, List.set_cons_succ]
      refine wpAnyH_take (i := 4) (oi := ⟨some 17, _, _, _, _, _⟩) (v := ?_) rfl (by kernel_rfl) (by kernel_rfl) (by kernel_rfl) (fun _ _ _ h => h) (Or.inl ⟨by rfl, ?_⟩) (by assumption) ?_
      rotate_left
      · intro w5 hSw
        (try dsimp only at hSw)
        go_simp
        (try with_reducible rfl)
      try simp only [Act.put, List.setIfInBounds_toArray, List.set_cons_zero, List.set_cons_succ]
      refine wpAnyH_take (i := 5) (oi := ⟨some 18, _, _, _, _, _⟩) (v := ?_) rfl (by kernel_rfl) (by kernel_rfl) (by kernel_rfl) (fun _ _ _ h => h) (Or.inl ⟨by rfl, ?_⟩) (by assumption) ?_
      rotate_left
      · intro w5 hSw
        (try dsimp only at hSw)
        go_simp
        (try with_reducible rfl)
      try simp only [Act.put, List.setIfInBounds_toArray, List.set_cons_zero, List.set_cons_succ]
      refine wpAnyH_take (i := 6) (oi := ⟨some 19, _, _, _, _, _⟩) (v := ?_) rfl (by kernel_rfl) (by kernel_rfl) (by kernel_rfl) (fun _ _ _ h => h) (Or.inl ⟨by rfl, ?_⟩) (by assumption) ?_
      rotate_left
      · intro w5 hSw
        (try dsimp only at hSw)
        go_simp
        (try with_reducible rfl)
      try simp only [Act.put, List.setIfInBounds_toArray, List.set_cons_zero, List.set_cons_succ]
      refine wpAnyH_take (i := 7) (oi := ⟨some 20, _, _, _, _, _⟩) (v := ?_) rfl (by kernel_rfl) (by kernel_rfl) (by kernel_rfl) (fun _ _ _ h => h) (Or.inl ⟨by rfl, ?_⟩) (by assumption) ?_
      rotate_left
      · intro w5 hSw
        (try dsimp only at hSw)
        go_simp
        (try with_reducible rfl)
      try simp only [Act.put, List.setIfInBounds_toArray, List.set_cons_zero, List.set_cons_succ]
      refine wpAnyH_take (i := 8) (oi := ⟨some 21, _, _, _, _, _⟩) (v := ?_) rfl (by kernel_rfl) (by kernel_rfl) (by kernel_rfl) (fun _ _ _ h => h) (Or.inl ⟨by rfl, ?_⟩) (by assumption) ?_
      rotate_left
      · intro w5 hSw
        (try dsimp only at hSw)
        go_simp
        (try with_reducible rfl)
      try simp only [Act.put, List.setIfInBounds_toArray, List.set_cons_zero, List.set_cons_succ]
      refine wpAnyH_take (i := 9) (oi := ⟨some 22, _, _, _, _, _⟩) (v := ?_) rfl (by kernel_rfl) (by kernel_rfl) (by kernel_rfl) (fun _ _ _ h => h) (Or.inl ⟨by rfl, ?_⟩) (by assumption) ?_
      rotate_left
      · intro w5 hSw
        (try dsimp only at hSw)
        go_simp
        (try with_reducible rfl)
      try simp only [Act.put, List.setIfInBounds_toArray, List.set_cons_zero, List.set_cons_succ]
      refine wpAnyH_take (i := 10) (oi := ⟨some 23, _, _, _, _, _⟩) (v := ?_) rfl (by kernel_rfl) (by kernel_rfl) (by kernel_rfl) (fun _ _ _ h => h) (Or.inl ⟨by rfl, ?_⟩) (by assumption) ?_
      rotate_left
      · intro w5 hSw
        (try dsimp only at hSw)
        go_simp
        (try with_reducible rfl)
      try simp only [Act.put, List.setIfInBounds_toArray, List.set_cons_zero, List.set_cons_succ]
      refine wpAnyH_ready (rs := [1]) (by kernel_rfl) (by simp) ?_
      refine AllReadyH.cons (o := ⟨some 14, _, _, _, _, _⟩) rfl (fun K hK => ?_) AllReadyH.nil
      go_simp
      go_at_call 30
      refine (H2.out _ T2.out.bel).mono ?_
      rintro e w3 ⟨rfl, rfl⟩
      have T3 := hideIt (T2.out.keep (below1 w2 (.cells #[.int .i64 bi, .int .i64 bt, .slice (some ⟨b, off, none⟩) l.length c, .int .i64 cm] 26)))
      have CE3 := hideIt (HCE.out _ T3.out.bel)
      refine hK.out _ _ ⟨T3.out.four.1, T3.out.four.2.1, T3.out.four.2.2.1, T3.out.four.2.2.2, CE3.out⟩ (fun hHeld => ?_)
      clear hK K T2 CE2 H2
      generalize w2.alloc (.cells #[.int .i64 bi, .int .i64 bt, .slice (some ⟨b, off, none⟩) l.length c, .int .i64 cm] 26) = w3 at *
      try simp only [Act.put, List.setIfInBounds_toArray, List.set_cons_zero, List.set_cons_succ]
      refine wpAnyH_take (i := 11) (oi := ⟨some 24, _, _, _, _, _⟩) (v := ?_) rfl (by kernel_rfl) (by kernel_rfl) (by kernel_rfl) (fun _ _ _ h => h) (Or.inl ⟨by rfl, ?_⟩) (by assumption) ?_
      rotate_left
      · intro w5 hSw
        (try dsimp only at hSw)
        go_simp
        (try with_reducible rfl)
      try simp only [Act.put, List.setIfInBounds_toArray, List.set_cons_zero, List.set_cons_succ]
      obtain ⟨_, _, _, _, r0, r1, rf⟩ := T3.out.cells
      have HP := T3.out.put (.int .i64 li) (.int .i64 et)
      have HB4 := hideIt HP.out.2
      have HS : Hid (((w3.setCell ⟨w.heap.size + 1, 0, none⟩ (.int .i64 li)).setCell ⟨w.heap.size + 1, 1, none⟩ (.int .i64 et)).heap[w.heap.size]? = some (.cells #[.int .i64 bi, .int .i64 bt, .slice (some ⟨b, off, none⟩) l.length c, .int .i64 cm] 26 (0, 0))) := setOther _ (setOther _ T3.out.box (by omega)) (by omega)
      have CE4 := hideIt (HCE.out _ HB4.out)
      refine wpAnyH_ready (rs := [12]) (by kernel_rfl) (by simp) ?_
      refine AllReadyH.cons (o := ⟨none, _, _, _, _, _⟩) rfl (fun K hK => ?_) AllReadyH.nil
      go_simp
      refine hK.out _ _ ⟨by rw [cell_at HS.out]; rfl, by rw [cell_at HS.out]; rfl, by rw [cell_at HS.out]; rfl, by rw [cell_at HS.out]; rfl, CE4.out⟩ (fun hHeld => ?_)
      clear hK K r0 r1 rf T3
      obtain ⟨e1, e2⟩ := HP.out
      clear HP HS CE4 HB4
      generalize ((w3.setCell ⟨w.heap.size + 1, 0, none⟩ (.int .i64 li)).setCell ⟨w.heap.size + 1, 1, none⟩ (.int .i64 et)) = WF at *
      try simp only [Act.put, List.setIfInBounds_toArray, List.set_cons_zero, List.set_cons_succ]
      refine wpAnyH_done (by kernel_rfl) ?_ _
      go_wp2
      exact bodyPost_ret (v := .agg #[.int .i64 li, .int .i64 et]) (by simp [results, Try.results16, go_sem, cell_at e1]) rfl ⟨rfl, e2⟩
end Go.Proofs.Ytonhoopmhkomcaa
