/- What is given and taken: the program. -/
import Derived.Test.YtjinhiabnpmiaaaSheet
namespace Go.Proofs.Ytjinhiabnpmiaaa
open Go.RowKit
theorem AGot.apart {w : World} {g : Value} {l : List AmtV} {p : Nat} (h : AGot w g l) (hp : w.heap.size ≤ p) : 0 < l.length → ∀ b off n c, g = .slice (some ⟨b, off, none⟩) n c → b ≠ p := by
  intro hl b off n c e
  obtain ⟨_, a', c', rfl, _, hr⟩ := h
  obtain ⟨b', off', rfl, hlt, _⟩ := hr hl
  simp only [Value.slice.injEq, Option.some.injEq, Addr.mk.injEq] at e
  omega
theorem wrap_ok {x : Int} (h : -9223372036854775808 ≤ x) (k : x ≤ 9223372036854775807) : IntKind.i64.wrap x = x := by
  rw [IntKind.wrap_i64]
  omega
/-- A box, a block for the answer, and others. -/
structure Duo (w : World) (A : AccV) (g : Value) (wx : World) : Prop where
  box : wx.heap[w.heap.size]? = some (.cells (accA A g) 24 (0, 0))
  res : wx.heap[w.heap.size + 1]? = some (.cells #[.slice none 0 0, .int .i64 0] 24 (0, 0))
  bel : Below w.heap.size w wx
theorem Duo.first (w : World) (A : AccV) (g : Value) : Duo w A g ((w.alloc (.cells (accA A g) 24)).alloc (.cells #[.slice none 0 0, .int .i64 0] 24)) := by
  have ht := two_heap w (.cells (accA A g) 24) (.cells #[.slice none 0 0, .int .i64 0] 24)
  exact ⟨ht.1, ht.2.1, below2 w _ _⟩
theorem Duo.size {w wx : World} {A : AccV} {g : Value} (h : Duo w A g wx) : w.heap.size + 2 ≤ wx.heap.size := (Array.getElem?_eq_some_iff.1 h.res).1
theorem Duo.keep {w wx wy : World} {A : AccV} {g : Value} (h : Duo w A g wx) (hb : Below wx.heap.size wx wy) : Duo w A g wy := by
  have := h.size
  exact ⟨(hb.block _ (by omega)).trans h.box, (hb.block _ (by omega)).trans h.res, below_via h.bel hb⟩
theorem Duo.out {w wx wy : World} {A : AccV} {g : Value} {F : Nat → Prop} (h : Duo w A g wx) (ho : Out F wx wy) (hF : ∀ k, F k → w.heap.size + 2 ≤ k) : Duo w A g wy := by
  have := h.size
  exact ⟨(ho.block _ (by omega) (fun e => by have := hF _ e; omega)).trans h.box, (ho.block _ (by omega) (fun e => by have := hF _ e; omega)).trans h.res, below_out h.bel ho (fun k e => by have := hF k e; omega)⟩
theorem Duo.drew {w wx : World} {A : AccV} {g : Value} (h : Duo w A g wx) : Duo w A g wx.drew := ⟨h.box, h.res, h.bel.drew⟩
theorem Duo.cells {w wx : World} {A : AccV} {g : Value} (h : Duo w A g wx) : wx.cell? ⟨w.heap.size, 0, none⟩ = some g ∧ wx.cell? ⟨w.heap.size, 1, none⟩ = some (.int .i64 A.ct) :=
  ⟨by rw [cell_at h.box]; rfl, by rw [cell_at h.box]; rfl⟩
theorem Duo.zero {w wx : World} {A : AccV} {g : Value} (h : Duo w A g wx) : wx.cell? ⟨w.heap.size + 1, 0, none⟩ = some (.slice none 0 0) ∧ wx.cell? ⟨w.heap.size + 1, 1, none⟩ = some (.int .i64 0) ∧ ∀ j, wx.frozen? ⟨w.heap.size + 1, j, none⟩ = false :=
  ⟨by rw [cell_at h.res]; rfl, by rw [cell_at h.res]; rfl, fun j => free_at h.res j⟩
theorem Duo.put {w wx : World} {A : AccV} {g : Value} (h : Duo w A g wx) (v0 v1 : Value) : Hid (((wx.setCell ⟨w.heap.size + 1, 0, none⟩ v0).setCell ⟨w.heap.size + 1, 1, none⟩ v1).heap[w.heap.size + 1]? = some (.cells #[v0, v1] 24 (0, 0)) ∧ Below w.heap.size w ((wx.setCell ⟨w.heap.size + 1, 0, none⟩ v0).setCell ⟨w.heap.size + 1, 1, none⟩ v1)) :=
  fin2 v0 v1 h.res (by omega) h.bel
set_option maxHeartbeats 4000000 in
set_option maxRecDepth 100000 in
theorem refused_is (A : AccV) (g : Value) (a n : Int) (w : World) (h : AGot w g A.l) : Calls Try.prog 26 #[accV A g, .int .i64 a, .int .i64 n] w fun e w' => e = .returned (.int .i64 (refI A a n)) ∧ Below w.heap.size w w' := by
  have HB := hideIt (below1 w (.cells (accA A g) 24))
  have H1 := hideIt (check_is A g _ (h.keep HB.out))
  have N1 := hideIt (fun W => isAsset_is a W)
  have N2 := hideIt (fun W => isBalance_is n W)
  obtain ⟨ga, gc, rfl⟩ := h.slice
  unfold refI
  unfold chkI at H1
  cases h1 : accB A
  · rw [h1] at H1
    obtain ⟨l, ct⟩ := A
    unfold accV accA at *
    simp only [Bool.false_eq_true, if_false] at H1 HB ⊢
    clear h
    go_enter Try.func26, Try.ntmps26
    go_wp2_with fail
    refine H1.out.mono ?_
    rintro e w1 ⟨rfl, hbl⟩
    dsimp only
    have HB2 := hideIt (below_via HB.out hbl)
    clear hbl
    go_wp2
    go_ret
    exact ⟨rfl, HB2.out⟩
  · rw [h1] at H1
    obtain ⟨l, ct⟩ := A
    unfold accV accA at *
    simp only [if_true] at H1 HB ⊢
    clear h
    cases h2 : wiB a 0 3
    · rw [h2] at N1
      go_enter Try.func26, Try.ntmps26
      go_wp2_with fail
      refine H1.out.mono ?_
      rintro e w1 ⟨rfl, hbl⟩
      dsimp only
      have HB2 := hideIt (below_via HB.out hbl)
      clear hbl
      go_wp2_with fail
      refine (N1.out _).mono ?_
      rintro e w1 ⟨rfl, rfl⟩
      dsimp only
      go_wp2
      go_ret
      exact ⟨rfl, HB2.out⟩
    · rw [h2] at N1
      cases h3 : wiB n 1 9007199254740992
      · rw [h3] at N2
        go_enter Try.func26, Try.ntmps26
        go_wp2_with fail
        refine H1.out.mono ?_
        rintro e w1 ⟨rfl, hbl⟩
        dsimp only
        have HB2 := hideIt (below_via HB.out hbl)
        clear hbl
        go_wp2_with fail
        refine (N1.out _).mono ?_
        rintro e w1 ⟨rfl, rfl⟩
        dsimp only
        go_wp2_with fail
        refine (N2.out _).mono ?_
        rintro e w1 ⟨rfl, rfl⟩
        dsimp only
        go_wp2
        go_ret
        exact ⟨rfl, HB2.out⟩
      · rw [h3] at N2
        go_enter Try.func26, Try.ntmps26
        go_wp2_with fail
        refine H1.out.mono ?_
        rintro e w1 ⟨rfl, hbl⟩
        dsimp only
        have HB2 := hideIt (below_via HB.out hbl)
        clear hbl
        go_wp2_with fail
        refine (N1.out _).mono ?_
        rintro e w1 ⟨rfl, rfl⟩
        dsimp only
        go_wp2_with fail
        refine (N2.out _).mono ?_
        rintro e w1 ⟨rfl, rfl⟩
        dsimp only
        go_wp2
        go_ret
        exact ⟨rfl, HB2.out⟩
set_option maxHeartbeats 8000000 in
set_option maxRecDepth 100000 in
theorem entered_is (A : AccV) (g : Value) (a n : Int) (w : World) (h : AGot w g A.l) (hA : accB A = true) (ha : 0 ≤ a ∧ a ≤ 3) (hn : -9007199254740992 ≤ n ∧ n ≤ 9007199254740992) : Calls Try.prog 27 #[accV A g, .int .i64 a, .int .i64 n] w (AccBack ⟨pre (moreS A.l a n) 4, A.ct + 1⟩ w) := by
  obtain ⟨hA1, hA2, hA3⟩ := accB_in hA
  have T0 := Duo.first w A g
  have T1 := hideIt (T0.keep (below1 _ (.cells #[.int .i64 0, .int .i64 0, .int .i64 0, .int .i64 0] 55)))
  have hs2 : ((w.alloc (.cells (accA A g) 24)).alloc (.cells #[.slice none 0 0, .int .i64 0] 24)).heap.size = w.heap.size + 2 := by simp
  have P1 := hideIt (heap_alloc_new ((w.alloc (.cells (accA A g) 24)).alloc (.cells #[.slice none 0 0, .int .i64 0] 24)) (.cells #[.int .i64 0, .int .i64 0, .int .i64 0, .int .i64 0] 55))
  rw [hs2] at P1
  have HADD := hideIt (add_is (w.heap.size + 2) (fun _ => 0) g A.l _ P1.out (h.keep T1.out.bel) hA1 (fun k _ => ⟨Int.le_refl _, by decide⟩) (h.apart (by omega)))
  obtain ⟨kk, rfl⟩ : ∃ kk : Nat, a = kk := Int.eq_ofNat_of_zero_le ha.1
  have hk4 : kk < 4 := by omega
  have hbi := bal_in A.l _ (kk : Int) hA1
  have hUP : Hid (upS (fun k => 0 + balL A.l k) kk (balL A.l kk + n) = moreS A.l kk n) := by
    show _ = _
    funext k
    rw [upS, moreS]
    by_cases c : k = kk
    · subst c
      rw [if_pos rfl, if_pos rfl]
    · rw [if_neg c, if_neg (by omega)]
      omega
  have hk4I : (kk : Int) < 4 := by omega
  have hk0 : (0 : Int) ≤ (kk : Int) := by omega
  obtain ⟨n1, n2⟩ := hn
  obtain ⟨b1, b2⟩ := hbi
  obtain ⟨ga, gc, rfl⟩ := h.slice
  obtain ⟨l, ct⟩ := A
  unfold AccBack
  unfold accV accA at *
  simp only at HADD T1 P1 hUP hA2 hA3 b1 b2 ⊢
  have hwr : IntKind.i64.wrap (ct + 1) = ct + 1 := wrap_ok (by omega) (by omega)
  obtain ⟨D, hD⟩ : ∃ D, D = pre (moreS l kk n) 4 := ⟨_, rfl⟩
  have HD := hideIt hD
  rw [← hD]
  clear h hA T0 hs2 hD
  go_enter Try.func27, Try.ntmps27
  go_upto_region 2 with fail
  generalize ((w.alloc (.cells #[.slice ga l.length gc, .int .i64 ct] 24)).alloc (.cells #[.slice none 0 0, .int .i64 0] 24)).alloc (.cells #[.int .i64 0, .int .i64 0, .int .i64 0, .int .i64 0] 55) = X at *
  obtain ⟨c0, c1⟩ := T1.out.cells
  simp only at c0 c1
  have hpe : w.heap.size + 1 + 1 = w.heap.size + 2 := rfl
  rw [hpe]
  go_wp2_with fail
  refine HADD.out.mono ?_
  rintro e w1 ⟨rfl, hsh, ho⟩
  dsimp only
  have T2 := hideIt (T1.out.out ho (fun k e => by omega))
  have P2 := hideIt hsh
  clear hsh ho T1 P1 HADD c0 c1
  obtain ⟨B, hB⟩ : ∃ B, B = balL l kk := ⟨_, rfl⟩
  rw [← hB] at b1 b2 hUP
  have hpc : w1.cell? ⟨w.heap.size + 2, kk, none⟩ = some (.int .i64 B) := by
    rw [sh_cell P2.out kk hk4, hB, Int.zero_add]
  have hpf : w1.frozen? ⟨w.heap.size + 2, kk, none⟩ = false := free_at P2.out kk
  have T3 := hideIt (T2.out.out (Out.ofSet (F := fun k => k = w.heap.size + 2) w1 ⟨w.heap.size + 2, kk, none⟩ (.int .i64 (B + n)) rfl) (fun k e => by omega))
  have P3 := hideIt (sh_set P2.out kk hk4 (B + n))
  rw [hUP.out] at P3
  clear hB T2 P2 hUP
  go_upto_region 4 with fail
  generalize w1.setCell ⟨w.heap.size + 2, kk, none⟩ (.int .i64 (B + n)) = w2 at *
  clear hpc hpf
  have T4 := hideIt T3.out.drew
  have HAM := hideIt (amounts_is (w.heap.size + 2) (moreS l kk n) w2.drew P3.out)
  rw [← HD.out] at HAM
  clear HD
  refine wp_region_held_drew (S := fun w' => w'.cell? ⟨w.heap.size, 1, none⟩ = some (.int .i64 ct)) (by kernel_rfl) T4.out.cells.2 (fun hHeld => ?_)
  refine wpAnyH_take (i := 1) (oi := ⟨some 18, _, _, _, _, _⟩) (v := ?_) rfl (by kernel_rfl) (by kernel_rfl) (by kernel_rfl) (fun _ _ _ h => h) (Or.inl ⟨by rfl, ?_⟩) (by assumption) ?_
  rotate_left
  · intro w5 hSw
    (try dsimp only at hSw)
    go_simp
    (try with_reducible rfl)
  try simp only [Act.put, List.setIfInBounds_toArray, List.set_cons_zero, List.set_cons_succ]
  refine wpAnyH_take (i := 2) (oi := ⟨some 19, _, _, _, _, _⟩) (v := ?_) rfl (by kernel_rfl) (by kernel_rfl) (by kernel_rfl) (fun _ _ _ h => h) (Or.inl ⟨by rfl, ?_⟩) (by assumption) ?_
  rotate_left
  · intro w5 hSw
    (try dsimp only at hSw)
    go_simp
    (try with_reducible rfl)
  try simp only [Act.put, List.setIfInBounds_toArray, List.set_cons_zero, List.set_cons_succ]
  refine wpAnyH_take (i := 3) (oi := ⟨some 20, _, _, _, _, _⟩) (v := ?_) rfl (by kernel_rfl) (by kernel_rfl) (by kernel_rfl) (fun _ _ _ h => h) (Or.inl ⟨by rfl, ?_⟩) (by assumption) ?_
  rotate_left
  · intro w5 hSw
    (try dsimp only at hSw)
    go_simp
    (try with_reducible rfl)
  try simp only [Act.put, List.setIfInBounds_toArray, List.set_cons_zero, List.set_cons_succ]
  refine wpAnyH_ready (rs := [0]) (by kernel_rfl) (by simp) ?_
  refine AllReadyH.cons (o := ⟨some 17, _, _, _, _, _⟩) rfl (fun K hK => ?_) AllReadyH.nil
  go_simp
  go_at_call 30
  refine HAM.out.mono ?_
  rintro e w4 ⟨r, rfl, hm⟩
  have T5 := hideIt (T4.out.keep hm.bel)
  refine hK.out _ _ T5.out.cells.2 (fun hHeld => ?_)
  obtain ⟨ra, rc, rfl⟩ := own_len hm.own
  have HO := hideIt (own2 (R := w.heap.size + 1) (.slice ra D.length rc) (.int .i64 (ct + 1)) hm.own (by have := T4.out.size; omega) w.heap.size (by have := T4.out.size; omega)).out
  have HP := T5.out.put (.slice ra D.length rc) (.int .i64 (ct + 1))
  have HS : Hid (((w4.setCell ⟨w.heap.size + 1, 0, none⟩ (.slice ra D.length rc)).setCell ⟨w.heap.size + 1, 1, none⟩ (.int .i64 (ct + 1))).cell? ⟨w.heap.size, 1, none⟩ = some (.int .i64 ct)) := by
    show _ = _
    rw [cell_at (setOther _ (setOther _ T5.out.box (by omega)) (by omega))]
    rfl
  obtain ⟨z0, z1, zf⟩ := T5.out.zero
  clear hK K hm HAM T3 P3 T4 T5
  try simp only [Act.put, List.setIfInBounds_toArray, List.set_cons_zero, List.set_cons_succ]
  refine wpAnyH_take (i := 4) (oi := ⟨some 21, _, _, _, _, _⟩) (v := ?_) rfl (by kernel_rfl) (by kernel_rfl) (by kernel_rfl) (fun _ _ _ h => h) (Or.inl ⟨by rfl, ?_⟩) (by assumption) ?_
  rotate_left
  · intro w5 hSw
    (try dsimp only at hSw)
    go_simp
    (try with_reducible rfl)
  try simp only [Act.put, List.setIfInBounds_toArray, List.set_cons_zero, List.set_cons_succ]
  refine wpAnyH_ready (rs := [5]) (by kernel_rfl) (by simp) ?_
  refine AllReadyH.cons (o := ⟨none, _, _, _, _, _⟩) rfl (fun K hK => ?_) AllReadyH.nil
  go_simp
  refine hK.out _ _ HS.out (fun hHeld => ?_)
  clear hK K
  obtain ⟨e1, e2⟩ := HP.out
  have e3 := HO.out
  clear HP HO HS
  generalize ((w4.setCell ⟨w.heap.size + 1, 0, none⟩ (.slice ra D.length rc)).setCell ⟨w.heap.size + 1, 1, none⟩ (.int .i64 (ct + 1))) = W at *
  try simp only [Act.put, List.setIfInBounds_toArray, List.set_cons_zero, List.set_cons_succ]
  refine wpAnyH_done (by kernel_rfl) ?_ _
  go_wp2
  exact bodyPost_ret (v := accV ⟨D, ct + 1⟩ (.slice ra D.length rc)) (by simp [results, Try.results27, go_sem, cell_at e1, accV, accA]) rfl ⟨_, rfl, e3, e2⟩
/-- An account and a number come back. -/
def AccErr (X : AccV × Int) (w : World) (e : Ending) (w' : World) : Prop := ∃ g, e = .returned (.tuple #[accV X.1 g, .int .i64 X.2]) ∧ w'.ownsRow w.heap.size 35 2 g X.1.l.length (amC X.1.l) ∧ Below w.heap.size w w'
set_option maxHeartbeats 8000000 in
set_option maxRecDepth 100000 in
theorem credit_is (A : AccV) (g : Value) (a n : Int) (w : World) (h : AGot w g A.l) : Calls Try.prog 16 #[accV A g, .int .i64 a, .int .i64 n] w (AccErr (credL A a n) w) := by
  have T0 := hideIt (Duo.first w A g)
  have H1 := hideIt (refused_is A g a n _ (h.keep T0.out.bel))
  unfold AccErr credL
  by_cases hr : refI A a n = 0
  · rw [if_pos hr]
    rw [hr] at H1
    obtain ⟨hA, ha, hn⟩ := refI_in hr
    have HBA := hideIt (fun wx (hx : Below w.heap.size w wx) => balance_is A g a wx (h.keep hx))
    have HEN := hideIt (fun wx (hx : Below w.heap.size w wx) => entered_is A g a n wx (h.keep hx) hA ha ⟨by omega, hn.2⟩)
    unfold AccBack at HEN
    have hb := bal_in A.l _ a (accB_in hA).1
    obtain ⟨ga, gc, rfl⟩ := h.slice
    obtain ⟨l, ct⟩ := A
    unfold accV accA at *
    simp only at H1 HBA HEN hb T0 ⊢
    generalize pre (moreS l a n) 4 = D at *
    generalize balL l a = B at *
    obtain ⟨b1, b2⟩ := hb
    obtain ⟨n1, n2⟩ := hn
    clear h hA hr ha
    by_cases hov : 9007199254740992 < B + n
    · rw [if_pos (.inl hov)]
      clear HEN
      go_enter Try.func16, Try.ntmps16
      go_wp2_with fail
      refine H1.out.mono ?_
      rintro e w1 ⟨rfl, hbl⟩
      dsimp only
      have T1 := hideIt (T0.out.keep hbl)
      obtain ⟨c0, c1⟩ := T1.out.cells
      simp only at c0 c1
      clear T0 H1 hbl
      go_wp2_with fail
      refine (HBA.out _ T1.out.bel).mono ?_
      rintro e w2 ⟨rfl, hbl⟩
      dsimp only
      have T2 := hideIt (T1.out.keep hbl)
      obtain ⟨z0, z1, zf⟩ := T2.out.zero
      have HP := T2.out.put (.slice none 0 0) (.int .i64 0)
      clear T1 T2 hbl HBA c0 c1
      obtain ⟨e1, e2⟩ := HP.out
      clear HP
      go_wp2
      revert e1 e2
      generalize (World.setCell _ ⟨w.heap.size + 1, 1, none⟩ _) = W
      intro e1 e2
      exact bodyPost_ret (v := .tuple #[accV zA (.slice none 0 0), .int .i64 122]) (by simp [results, Try.results16, go_sem, cell_at e1, accV, accA, zA]) rfl ⟨_, rfl, own_nil _ _, e2⟩
    · have hovI : B + n ≤ 9007199254740992 := by omega
      by_cases hct : ct = 1000000000
      · rw [if_pos (.inr hct)]
        subst hct
        clear HEN
        go_enter Try.func16, Try.ntmps16
        go_wp2_with fail
        refine H1.out.mono ?_
        rintro e w1 ⟨rfl, hbl⟩
        dsimp only
        have T1 := hideIt (T0.out.keep hbl)
        obtain ⟨c0, c1⟩ := T1.out.cells
        simp only at c0 c1
        clear T0 H1 hbl
        go_wp2_with fail
        refine (HBA.out _ T1.out.bel).mono ?_
        rintro e w2 ⟨rfl, hbl⟩
        dsimp only
        have T2 := hideIt (T1.out.keep hbl)
        clear c0 c1
        obtain ⟨c0, c1⟩ := T2.out.cells
        simp only at c0 c1
        obtain ⟨z0, z1, zf⟩ := T2.out.zero
        have HP := T2.out.put (.slice none 0 0) (.int .i64 0)
        clear T1 T2 hbl HBA
        obtain ⟨e1, e2⟩ := HP.out
        clear HP
        go_wp2
        revert e1 e2
        generalize (World.setCell _ ⟨w.heap.size + 1, 1, none⟩ _) = W
        intro e1 e2
        exact bodyPost_ret (v := .tuple #[accV zA (.slice none 0 0), .int .i64 122]) (by simp [results, Try.results16, go_sem, cell_at e1, accV, accA, zA]) rfl ⟨_, rfl, own_nil _ _, e2⟩
      · have hctb : (ct == 1000000000) = false := beq_eq_false_iff_ne.2 hct
        rw [if_neg (by omega)]
        clear hct
        go_enter Try.func16, Try.ntmps16
        go_wp2_with fail
        refine H1.out.mono ?_
        rintro e w1 ⟨rfl, hbl⟩
        dsimp only
        have T1 := hideIt (T0.out.keep hbl)
        obtain ⟨c0, c1⟩ := T1.out.cells
        simp only at c0 c1
        clear T0 H1 hbl
        go_wp2_with fail
        refine (HBA.out _ T1.out.bel).mono ?_
        rintro e w2 ⟨rfl, hbl⟩
        dsimp only
        have T2 := hideIt (T1.out.keep hbl)
        clear c0 c1
        obtain ⟨c0, c1⟩ := T2.out.cells
        simp only at c0 c1
        clear T1 hbl HBA
        go_wp2_with fail
        refine (HEN.out _ T2.out.bel).mono ?_
        rintro e w3 ⟨gx, rfl, ho, hbl⟩
        dsimp only
        have T3 := hideIt (T2.out.keep hbl)
        obtain ⟨xa, xc, rfl⟩ := own_len ho
        have HO := hideIt (own2 (R := w.heap.size + 1) (.slice xa D.length xc) (.int .i64 (ct + 1)) ho (by have := T2.out.size; omega) w.heap.size (by have := T2.out.size; omega)).out
        have HP := T3.out.put (.slice xa D.length xc) (.int .i64 (ct + 1))
        obtain ⟨z0, z1, zf⟩ := T3.out.zero
        clear ho hbl T3 T2 c0 c1 HEN
        obtain ⟨e1, e2⟩ := HP.out
        have e3 := HO.out
        clear HP HO
        go_wp2
        revert e1 e2 e3
        generalize (World.setCell _ ⟨w.heap.size + 1, 1, none⟩ _) = W
        intro e1 e2 e3
        exact bodyPost_ret (v := .tuple #[accV ⟨D, ct + 1⟩ (.slice xa D.length xc), .int .i64 0]) (by simp [results, Try.results16, go_sem, cell_at e1, accV, accA]) rfl ⟨_, rfl, e3, e2⟩
  · rw [if_neg hr]
    generalize refI A a n = R at *
    have hrb : (R != 0) = true := by simp [hr]
    obtain ⟨ga, gc, rfl⟩ := h.slice
    obtain ⟨l, ct⟩ := A
    unfold accV accA at *
    simp only at H1 T0 ⊢
    clear h hr
    go_enter Try.func16, Try.ntmps16
    go_wp2_with fail
    refine H1.out.mono ?_
    rintro e w1 ⟨rfl, hbl⟩
    dsimp only
    have T1 := hideIt (T0.out.keep hbl)
    obtain ⟨z0, z1, zf⟩ := T1.out.zero
    have HP := T1.out.put (.slice none 0 0) (.int .i64 0)
    clear T0 T1 H1 hbl
    obtain ⟨e1, e2⟩ := HP.out
    clear HP
    go_wp2
    revert e1 e2
    generalize (World.setCell _ ⟨w.heap.size + 1, 1, none⟩ _) = W
    intro e1 e2
    exact bodyPost_ret (v := .tuple #[accV zA (.slice none 0 0), .int .i64 R]) (by simp [results, Try.results16, go_sem, cell_at e1, accV, accA, zA]) rfl ⟨_, rfl, own_nil _ _, e2⟩
set_option maxHeartbeats 8000000 in
set_option maxRecDepth 100000 in
theorem debit_is (A : AccV) (g : Value) (a n : Int) (w : World) (h : AGot w g A.l) : Calls Try.prog 17 #[accV A g, .int .i64 a, .int .i64 n] w (AccErr (debL A a n) w) := by
  have T0 := hideIt (Duo.first w A g)
  have H1 := hideIt (refused_is A g a n _ (h.keep T0.out.bel))
  unfold AccErr debL
  by_cases hr : refI A a n = 0
  · rw [if_pos hr]
    rw [hr] at H1
    obtain ⟨hA, ha, hn⟩ := refI_in hr
    have HBA := hideIt (fun wx (hx : Below w.heap.size w wx) => balance_is A g a wx (h.keep hx))
    have HEN := hideIt (fun wx (hx : Below w.heap.size w wx) => entered_is A g a (-n) wx (h.keep hx) hA ha ⟨by omega, by omega⟩)
    unfold AccBack at HEN
    have hb := bal_in A.l _ a (accB_in hA).1
    obtain ⟨ga, gc, rfl⟩ := h.slice
    obtain ⟨l, ct⟩ := A
    unfold accV accA at *
    simp only at H1 HBA HEN hb T0 ⊢
    generalize pre (moreS l a (-n)) 4 = D at *
    generalize balL l a = B at *
    obtain ⟨b1, b2⟩ := hb
    obtain ⟨n1, n2⟩ := hn
    clear h hA hr ha
    by_cases hov : B < n
    · rw [if_pos hov]
      clear HEN
      go_enter Try.func17, Try.ntmps17
      go_wp2_with fail
      refine H1.out.mono ?_
      rintro e w1 ⟨rfl, hbl⟩
      dsimp only
      have T1 := hideIt (T0.out.keep hbl)
      obtain ⟨c0, c1⟩ := T1.out.cells
      simp only at c0 c1
      clear T0 H1 hbl
      go_wp2_with fail
      refine (HBA.out _ T1.out.bel).mono ?_
      rintro e w2 ⟨rfl, hbl⟩
      dsimp only
      have T2 := hideIt (T1.out.keep hbl)
      obtain ⟨z0, z1, zf⟩ := T2.out.zero
      have HP := T2.out.put (.slice none 0 0) (.int .i64 0)
      clear T1 T2 hbl HBA c0 c1
      obtain ⟨e1, e2⟩ := HP.out
      clear HP
      go_wp2
      revert e1 e2
      generalize (World.setCell _ ⟨w.heap.size + 1, 1, none⟩ _) = W
      intro e1 e2
      exact bodyPost_ret (v := .tuple #[accV zA (.slice none 0 0), .int .i64 121]) (by simp [results, Try.results17, go_sem, cell_at e1, accV, accA, zA]) rfl ⟨_, rfl, own_nil _ _, e2⟩
    · have hovI : n ≤ B := by omega
      rw [if_neg hov]
      by_cases hct : ct = 1000000000
      · rw [if_pos hct]
        subst hct
        clear HEN
        go_enter Try.func17, Try.ntmps17
        go_wp2_with fail
        refine H1.out.mono ?_
        rintro e w1 ⟨rfl, hbl⟩
        dsimp only
        have T1 := hideIt (T0.out.keep hbl)
        obtain ⟨c0, c1⟩ := T1.out.cells
        simp only at c0 c1
        clear T0 H1 hbl
        go_wp2_with fail
        refine (HBA.out _ T1.out.bel).mono ?_
        rintro e w2 ⟨rfl, hbl⟩
        dsimp only
        have T2 := hideIt (T1.out.keep hbl)
        clear c0 c1
        obtain ⟨c0, c1⟩ := T2.out.cells
        simp only at c0 c1
        obtain ⟨z0, z1, zf⟩ := T2.out.zero
        have HP := T2.out.put (.slice none 0 0) (.int .i64 0)
        clear T1 T2 hbl HBA
        obtain ⟨e1, e2⟩ := HP.out
        clear HP
        go_wp2
        revert e1 e2
        generalize (World.setCell _ ⟨w.heap.size + 1, 1, none⟩ _) = W
        intro e1 e2
        exact bodyPost_ret (v := .tuple #[accV zA (.slice none 0 0), .int .i64 122]) (by simp [results, Try.results17, go_sem, cell_at e1, accV, accA, zA]) rfl ⟨_, rfl, own_nil _ _, e2⟩
      · have hctb : (ct == 1000000000) = false := beq_eq_false_iff_ne.2 hct
        rw [if_neg hct]
        have hng : IntKind.i64.wrap (-n) = -n := wrap_ok (by omega) (by omega)
        clear hct
        go_enter Try.func17, Try.ntmps17
        go_wp2_with fail
        refine H1.out.mono ?_
        rintro e w1 ⟨rfl, hbl⟩
        dsimp only
        have T1 := hideIt (T0.out.keep hbl)
        obtain ⟨c0, c1⟩ := T1.out.cells
        simp only at c0 c1
        clear T0 H1 hbl
        go_wp2_with fail
        refine (HBA.out _ T1.out.bel).mono ?_
        rintro e w2 ⟨rfl, hbl⟩
        dsimp only
        have T2 := hideIt (T1.out.keep hbl)
        clear c0 c1
        obtain ⟨c0, c1⟩ := T2.out.cells
        simp only at c0 c1
        clear T1 hbl HBA
        go_wp2_with fail
        refine (HEN.out _ T2.out.bel).mono ?_
        rintro e w3 ⟨gx, rfl, ho, hbl⟩
        dsimp only
        have T3 := hideIt (T2.out.keep hbl)
        obtain ⟨xa, xc, rfl⟩ := own_len ho
        have HO := hideIt (own2 (R := w.heap.size + 1) (.slice xa D.length xc) (.int .i64 (ct + 1)) ho (by have := T2.out.size; omega) w.heap.size (by have := T2.out.size; omega)).out
        have HP := T3.out.put (.slice xa D.length xc) (.int .i64 (ct + 1))
        obtain ⟨z0, z1, zf⟩ := T3.out.zero
        clear ho hbl T3 T2 c0 c1 HEN
        obtain ⟨e1, e2⟩ := HP.out
        have e3 := HO.out
        clear HP HO
        go_wp2
        revert e1 e2 e3
        generalize (World.setCell _ ⟨w.heap.size + 1, 1, none⟩ _) = W
        intro e1 e2 e3
        exact bodyPost_ret (v := .tuple #[accV ⟨D, ct + 1⟩ (.slice xa D.length xc), .int .i64 0]) (by simp [results, Try.results17, go_sem, cell_at e1, accV, accA]) rfl ⟨_, rfl, e3, e2⟩
  · rw [if_neg hr]
    generalize refI A a n = R at *
    have hrb : (R != 0) = true := by simp [hr]
    obtain ⟨ga, gc, rfl⟩ := h.slice
    obtain ⟨l, ct⟩ := A
    unfold accV accA at *
    simp only at H1 T0 ⊢
    clear h hr
    go_enter Try.func17, Try.ntmps17
    go_wp2_with fail
    refine H1.out.mono ?_
    rintro e w1 ⟨rfl, hbl⟩
    dsimp only
    have T1 := hideIt (T0.out.keep hbl)
    obtain ⟨z0, z1, zf⟩ := T1.out.zero
    have HP := T1.out.put (.slice none 0 0) (.int .i64 0)
    clear T0 T1 H1 hbl
    obtain ⟨e1, e2⟩ := HP.out
    clear HP
    go_wp2
    revert e1 e2
    generalize (World.setCell _ ⟨w.heap.size + 1, 1, none⟩ _) = W
    intro e1 e2
    exact bodyPost_ret (v := .tuple #[accV zA (.slice none 0 0), .int .i64 R]) (by simp [results, Try.results17, go_sem, cell_at e1, accV, accA, zA]) rfl ⟨_, rfl, own_nil _ _, e2⟩
end Go.Proofs.Ytjinhiabnpmiaaa
