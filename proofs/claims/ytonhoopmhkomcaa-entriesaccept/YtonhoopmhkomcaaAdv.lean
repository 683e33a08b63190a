/- What is committed by what others have: the program. -/
import Derived.Test.YtonhoopmhkomcaaReach
import Derived.Test.YtonhoopmhkomcaaPut
namespace Go.Proofs.Ytonhoopmhkomcaa
open Go.RowKit
def advB (term : Int) (m : List Int) : Bool := wiB term 1 1000000 && (wiB (m.length : Int) 1 7 && decide (0 ≤ Lib.minOf m))
/-- A log that has committed what most have. -/
def advL (L : LogV) (term : Int) (m : List Int) : LogV × Int :=
  if mayB L = false then (zL, 80) else if advB term m = false then (zL, 1) else
  if L.cm < midL m ∧ hasM L (midL m) term = true then (⟨L.bi, L.bt, L.l, midL m⟩, 0) else (L, 0)
/-- A log's box, and a block for the answer. -/
structure LR (w : World) (L : LogV) (g : Value) (wx : World) : Prop where
  box : wx.heap[w.heap.size]? = some (.cells (logA L g) 26 (0, 0))
  res : wx.heap[w.heap.size + 1]? = some (.cells #[.int .i64 0, .int .i64 0, .slice none 0 0, .int .i64 0] 26 (0, 0))
  bel : Below w.heap.size w wx
theorem LR.first (w : World) (L : LogV) (g : Value) : LR w L g ((w.alloc (.cells (logA L g) 26)).alloc (.cells #[.int .i64 0, .int .i64 0, .slice none 0 0, .int .i64 0] 26)) := by
  have ht := two_heap w (.cells (logA L g) 26) (.cells #[.int .i64 0, .int .i64 0, .slice none 0 0, .int .i64 0] 26)
  exact ⟨ht.1, ht.2.1, below2 w _ _⟩
theorem LR.size {w wx : World} {L : LogV} {g : Value} (h : LR w L g wx) : w.heap.size + 2 ≤ wx.heap.size := (Array.getElem?_eq_some_iff.1 h.res).1
theorem LR.keep {w wx wy : World} {L : LogV} {g : Value} (h : LR w L g wx) (hb : Below wx.heap.size wx wy) : LR w L g wy := by
  have := h.size
  exact ⟨(hb.block _ (by omega)).trans h.box, (hb.block _ (by omega)).trans h.res, below_via h.bel hb⟩
theorem LR.cells {w wx : World} {L : LogV} {g : Value} (h : LR w L g wx) : wx.cell? ⟨w.heap.size, 0, none⟩ = some (.int .i64 L.bi) ∧ wx.cell? ⟨w.heap.size, 1, none⟩ = some (.int .i64 L.bt) ∧ wx.cell? ⟨w.heap.size, 2, none⟩ = some g ∧ wx.cell? ⟨w.heap.size, 3, none⟩ = some (.int .i64 L.cm) ∧ ∀ j, wx.frozen? ⟨w.heap.size, j, none⟩ = false :=
  ⟨by rw [cell_at h.box]; rfl, by rw [cell_at h.box]; rfl, by rw [cell_at h.box]; rfl, by rw [cell_at h.box]; rfl, fun j => free_at h.box j⟩
theorem LR.zero {w wx : World} {L : LogV} {g : Value} (h : LR w L g wx) : wx.cell? ⟨w.heap.size + 1, 0, none⟩ = some (.int .i64 0) ∧ wx.cell? ⟨w.heap.size + 1, 1, none⟩ = some (.int .i64 0) ∧ wx.cell? ⟨w.heap.size + 1, 2, none⟩ = some (.slice none 0 0) ∧ wx.cell? ⟨w.heap.size + 1, 3, none⟩ = some (.int .i64 0) ∧ ∀ j, wx.frozen? ⟨w.heap.size + 1, j, none⟩ = false :=
  ⟨by rw [cell_at h.res]; rfl, by rw [cell_at h.res]; rfl, by rw [cell_at h.res]; rfl, by rw [cell_at h.res]; rfl, fun j => free_at h.res j⟩
theorem LR.put {w wx : World} {L : LogV} {g : Value} (h : LR w L g wx) (v0 v1 v2 v3 : Value) : Hid (((((wx.setCell ⟨w.heap.size + 1, 0, none⟩ v0).setCell ⟨w.heap.size + 1, 1, none⟩ v1).setCell ⟨w.heap.size + 1, 2, none⟩ v2).setCell ⟨w.heap.size + 1, 3, none⟩ v3).heap[w.heap.size + 1]? = some (.cells #[v0, v1, v2, v3] 26 (0, 0)) ∧ Below w.heap.size w ((((wx.setCell ⟨w.heap.size + 1, 0, none⟩ v0).setCell ⟨w.heap.size + 1, 1, none⟩ v1).setCell ⟨w.heap.size + 1, 2, none⟩ v2).setCell ⟨w.heap.size + 1, 3, none⟩ v3)) :=
  fin4 v0 v1 v2 v3 h.res (by omega) h.bel
theorem LR.setL {w wx : World} {L : LogV} {g : Value} (h : LR w L g wx) (l' : List EntV) (g' : Value) : LR w ⟨L.bi, L.bt, l', L.cm⟩ g' (wx.setCell ⟨w.heap.size, 2, none⟩ g') :=
  ⟨heap_set h.box 2 g', setOther _ h.res (by omega), belowSet _ h.bel (Nat.le_refl _)⟩
theorem LR.setC {w wx : World} {L : LogV} {g : Value} (h : LR w L g wx) (x : Int) : LR w ⟨L.bi, L.bt, L.l, x⟩ g (wx.setCell ⟨w.heap.size, 3, none⟩ (.int .i64 x)) :=
  ⟨heap_set h.box 3 _, setOther _ h.res (by omega), belowSet _ h.bel (Nat.le_refl _)⟩
set_option maxHeartbeats 16000000 in
set_option maxRecDepth 100000 in
theorem advance_is (L : LogV) (g k : Value) (term : Int) (m : List Int) (w : World) (h : EGot w g L.l) (hk : NGot w k m) : Calls Try.prog 26 #[logV L g, .int .i64 term, k] w (LogErr (advL L term m) w) := by
  have T0 := hideIt (LR.first w L g)
  have H1 := hideIt (mayBe_is L g _ (h.keep T0.out.bel))
  have HW1 := hideIt (fun wx => within_is term 1 1000000 wx)
  have HW2 := hideIt (fun wx => within_is (m.length : Int) 1 7 wx)
  unfold LogErr advL
  cases hm : mayB L
  · rw [hm] at H1
    rw [if_pos rfl]
    obtain ⟨a, c, rfl⟩ := h.slice
    obtain ⟨_, ka, kc, rfl, _⟩ := hk
    unfold logV logA at *
    obtain ⟨bi, bt, l, cm⟩ := L
    simp only at H1 T0 ⊢
    clear h
    go_enter Try.func26, Try.ntmps26
    go_wp2_with fail
    refine H1.out.mono ?_
    rintro e w1 ⟨rfl, hbl⟩
    dsimp only
    have T1 := hideIt (T0.out.keep hbl)
    clear hbl T0 H1
    obtain ⟨z0, z1, z2, z3, zf⟩ := T1.out.zero
    have HP := T1.out.put (.int .i64 0) (.int .i64 0) (.slice none 0 0) (.int .i64 0)
    obtain ⟨e1, e2⟩ := HP.out
    clear HP T1
    go_wp2
    revert e1 e2
    generalize (World.setCell _ ⟨w.heap.size + 1, 3, none⟩ _) = W
    intro e1 e2
    exact bodyPost_ret (v := .tuple #[logV zL (.slice none 0 0), .int .i64 80]) (by simp [results, Try.results26, go_sem, cell_at e1, logV, logA, zL]) rfl ⟨_, rfl, own_nil _ _, e2⟩
  · rw [hm] at H1
    rw [if_neg (by simp)]
    have hin := mayB_in hm
    have HAN := hideIt (fun wx (hx : Below w.heap.size w wx) => anew_is _ _ [L.l] L.l (by simp) _ (LsGot.one (h.keep hx)) (by omega) (by simp) (text_rows hin.2.2.2.1))
    have HRE := hideIt (fun hn wx (hx : Below w.heap.size w wx) => reached_is m k wx (hk.keep hx) hn)
    have HHM := hideIt (fun x g' wx hg => hasMark_is L g' x term wx hg (near_may hm))
    have HMI : Hid (0 < m.length → ∀ wx, Below w.heap.size w wx → Calls Try.prog 45 #[k] wx fun e w' => e = .returned (.int .i64 (Lib.minOf m)) ∧ w' = wx) := fun hp wx hx => by
      obtain ⟨h8, ka, kc, rfl, hr⟩ := hk.keep hx
      obtain ⟨b, off, rfl, _, hc⟩ := hr hp
      have := slices_Min_int b off m.length kc m wx hp (Nat.le_refl _) (by omega) hc
      rwa [List.take_of_length_le (Nat.le_refl _)] at this
    obtain ⟨a, c, rfl⟩ := h.slice
    obtain ⟨_, ka, kc, rfl, _⟩ := hk
    unfold advB
    cases h2 : wiB term 1 1000000
    · rw [h2] at HW1
      simp only [Bool.false_and, if_true]
      unfold logV logA at *
      obtain ⟨bi, bt, l, cm⟩ := L
      simp only at H1 T0 ⊢
      clear h hin HAN HRE HHM HMI
      go_enter Try.func26, Try.ntmps26
      go_wp2_with fail
      refine H1.out.mono ?_
      rintro e w1 ⟨rfl, hbl⟩
      dsimp only
      have T1 := hideIt (T0.out.keep hbl)
      clear hbl T0 H1
      go_wp2_with fail
      refine (HW1.out _).mono ?_
      rintro e w2 ⟨rfl, rfl⟩
      dsimp only
      obtain ⟨z0, z1, z2, z3, zf⟩ := T1.out.zero
      have HP := T1.out.put (.int .i64 0) (.int .i64 0) (.slice none 0 0) (.int .i64 0)
      obtain ⟨e1, e2⟩ := HP.out
      clear HP T1
      go_wp2
      revert e1 e2
      generalize (World.setCell _ ⟨w.heap.size + 1, 3, none⟩ _) = W
      intro e1 e2
      exact bodyPost_ret (v := .tuple #[logV zL (.slice none 0 0), .int .i64 1]) (by simp [results, Try.results26, go_sem, cell_at e1, logV, logA, zL]) rfl ⟨_, rfl, own_nil _ _, e2⟩
    · rw [h2] at HW1
      cases h3 : wiB (m.length : Int) 1 7
      · rw [h3] at HW2
        simp only [Bool.false_and, Bool.and_false, if_true]
        unfold logV logA at *
        obtain ⟨bi, bt, l, cm⟩ := L
        simp only at H1 T0 ⊢
        clear h hin HAN HRE HHM HMI
        go_enter Try.func26, Try.ntmps26
        go_wp2_with fail
        refine H1.out.mono ?_
        rintro e w1 ⟨rfl, hbl⟩
        dsimp only
        have T1 := hideIt (T0.out.keep hbl)
        clear hbl T0 H1
        go_wp2_with fail
        refine (HW1.out _).mono ?_
        rintro e w2 ⟨rfl, rfl⟩
        dsimp only
        go_wp2_with fail
        refine (HW2.out _).mono ?_
        rintro e w2 ⟨rfl, rfl⟩
        dsimp only
        obtain ⟨z0, z1, z2, z3, zf⟩ := T1.out.zero
        have HP := T1.out.put (.int .i64 0) (.int .i64 0) (.slice none 0 0) (.int .i64 0)
        obtain ⟨e1, e2⟩ := HP.out
        clear HP T1
        go_wp2
        revert e1 e2
        generalize (World.setCell _ ⟨w.heap.size + 1, 3, none⟩ _) = W
        intro e1 e2
        exact bodyPost_ret (v := .tuple #[logV zL (.slice none 0 0), .int .i64 1]) (by simp [results, Try.results26, go_sem, cell_at e1, logV, logA, zL]) rfl ⟨_, rfl, own_nil _ _, e2⟩
      · rw [h3] at HW2
        have hml : 1 ≤ (m.length : Int) ∧ (m.length : Int) ≤ 7 := of_decide_eq_true h3
        replace HMI := hideIt (HMI.out (by omega))
        replace HRE := hideIt (HRE.out (by omega))
        generalize Lib.minOf m = mn at *
        by_cases h4 : mn < 0
        · rw [decide_eq_false (show ¬ (0 ≤ mn) by omega)]
          simp only [Bool.and_false, if_true]
          unfold logV logA at *
          obtain ⟨bi, bt, l, cm⟩ := L
          simp only at H1 T0 ⊢
          clear h hin HAN HRE HHM
          go_enter Try.func26, Try.ntmps26
          go_wp2_with fail
          refine H1.out.mono ?_
          rintro e w1 ⟨rfl, hbl⟩
          dsimp only
          have T1 := hideIt (T0.out.keep hbl)
          clear hbl T0 H1
          go_wp2_with fail
          refine (HW1.out _).mono ?_
          rintro e w2 ⟨rfl, rfl⟩
          dsimp only
          go_wp2_with fail
          refine (HW2.out _).mono ?_
          rintro e w2 ⟨rfl, rfl⟩
          dsimp only
          go_wp2_with fail
          refine (HMI.out _ T1.out.bel).mono ?_
          rintro e w2 ⟨rfl, rfl⟩
          dsimp only
          obtain ⟨z0, z1, z2, z3, zf⟩ := T1.out.zero
          have HP := T1.out.put (.int .i64 0) (.int .i64 0) (.slice none 0 0) (.int .i64 0)
          obtain ⟨e1, e2⟩ := HP.out
          clear HP T1
          go_wp2
          revert e1 e2
          generalize (World.setCell _ ⟨w.heap.size + 1, 3, none⟩ _) = W
          intro e1 e2
          exact bodyPost_ret (v := .tuple #[logV zL (.slice none 0 0), .int .i64 1]) (by simp [results, Try.results26, go_sem, cell_at e1, logV, logA, zL]) rfl ⟨_, rfl, own_nil _ _, e2⟩
        · have h4I : 0 ≤ mn := by omega
          rw [decide_eq_true h4I]
          simp only [Bool.and_self, Bool.true_eq_false, if_false]
          generalize midL m = x at *
          have hl4 := hin.2.2.1
          by_cases h5 : L.cm < x
          · cases h6 : hasM L x term
            · rw [if_neg (by simp)]
              replace HHM := hideIt (HHM.out x)
              rw [h6] at HHM
              unfold logV logA at *
              obtain ⟨bi, bt, l, cm⟩ := L
              simp only at H1 T0 HAN HHM hl4 h5 ⊢
              clear h hin h2 h3 h6 hm hml
              go_enter Try.func26, Try.ntmps26
              go_wp2_with fail
              refine H1.out.mono ?_
              rintro e w1 ⟨rfl, hbl⟩
              dsimp only
              have T1 := hideIt (T0.out.keep hbl)
              clear hbl T0 H1
              go_wp2_with fail
              refine (HW1.out _).mono ?_
              rintro e w2 ⟨rfl, rfl⟩
              dsimp only
              go_wp2_with fail
              refine (HW2.out _).mono ?_
              rintro e w2 ⟨rfl, rfl⟩
              dsimp only
              go_wp2_with fail
              refine (HMI.out _ T1.out.bel).mono ?_
              rintro e w2 ⟨rfl, rfl⟩
              dsimp only
              obtain ⟨c0, c1, c2, c3, ff⟩ := T1.out.cells
              simp only at c0 c1 c2 c3
              clear HW1 HW2 HMI
              go_wp2_with fail
              refine (HAN.out _ T1.out.bel).mono ?_
              rintro e w5 ⟨r, rfl, ho, hbl⟩
              dsimp only
              have T5 := hideIt (T1.out.keep (below_via (below1 _ _) hbl))
              obtain ⟨ra, rc, rfl⟩ := own_len ho
              have T6 := hideIt (T5.out.setL l (.slice ra l.length rc))
              have E6 := hideIt (own_egot (ownSet (b := w.heap.size) (j := 2) (.slice ra l.length rc) (own_base ho (show w.heap.size + 2 ≤ _ from by have := T1.out.size; simp; omega)) (by omega)) (by omega))
              have O6 := hideIt (ownSet (b := w.heap.size) (j := 2) (.slice ra l.length rc) (own_base ho (show w.heap.size + 2 ≤ _ from by have := T1.out.size; simp; omega)) (by omega))
              clear ho hbl T1 HAN c0 c1 c2 c3 ff
              obtain ⟨c0, c1, c2, c3, ff⟩ := T5.out.cells
              simp only at c0 c1 c2 c3
              go_upto_region 6 with fail
              generalize w5.setCell ⟨w.heap.size, 2, none⟩ (.slice ra l.length rc) = w6 at *
              clear T5 c0 c1 c2 c3 ff
              go_wp2_with fail
              refine (HRE.out _ T6.out.bel).mono ?_
              rintro e w7 ⟨rfl, hbl⟩
              dsimp only
              have T7 := hideIt (T6.out.keep hbl)
              have E7 := hideIt (E6.out.keep hbl)
              have HO := hideIt (own_keep O6.out hbl)
              clear hbl T6 E6 O6 HRE
              obtain ⟨c0, c1, c2, c3, ff⟩ := T7.out.cells
              simp only at c0 c1 c2 c3
              go_wp2_with fail
              refine (HHM.out _ _ E7.out).mono ?_
              rintro e w8 ⟨rfl, hbl⟩
              dsimp only
              have T8 := hideIt (T7.out.keep hbl)
              replace HO := hideIt (own_keep HO.out hbl)
              clear hbl T7 E7 HHM c0 c1 c2 c3 ff
              obtain ⟨c0, c1, c2, c3, ff⟩ := T8.out.cells
              simp only at c0 c1 c2 c3
              have HP := T8.out.put (.int .i64 bi) (.int .i64 bt) (.slice ra l.length rc) (.int .i64 cm)
              obtain ⟨z0, z1, z2, z3, zf⟩ := T8.out.zero
              obtain ⟨e1, e2⟩ := HP.out
              have e3 := (own4 (R := w.heap.size + 1) (.int .i64 bi) (.int .i64 bt) (.slice ra l.length rc) (.int .i64 cm) HO.out (by omega) w.heap.size (by omega)).out
              clear HP HO
              go_wp2
              revert e1 e2 e3
              generalize (World.setCell _ ⟨w.heap.size + 1, 3, none⟩ _) = W
              intro e1 e2 e3
              exact bodyPost_ret (v := .tuple #[logV ⟨bi, bt, l, cm⟩ (.slice ra l.length rc), .int .i64 0]) (by simp [results, Try.results26, go_sem, cell_at e1, logV, logA]) rfl ⟨_, rfl, e3, e2⟩
            · rw [if_pos ⟨h5, rfl⟩]
              replace HHM := hideIt (HHM.out x)
              rw [h6] at HHM
              unfold logV logA at *
              obtain ⟨bi, bt, l, cm⟩ := L
              simp only at H1 T0 HAN HHM hl4 h5 ⊢
              clear h hin h2 h3 h6 hm hml
              go_enter Try.func26, Try.ntmps26
              go_wp2_with fail
              refine H1.out.mono ?_
              rintro e w1 ⟨rfl, hbl⟩
              dsimp only
              have T1 := hideIt (T0.out.keep hbl)
              clear hbl T0 H1
              go_wp2_with fail
              refine (HW1.out _).mono ?_
              rintro e w2 ⟨rfl, rfl⟩
              dsimp only
              go_wp2_with fail
              refine (HW2.out _).mono ?_
              rintro e w2 ⟨rfl, rfl⟩
              dsimp only
              go_wp2_with fail
              refine (HMI.out _ T1.out.bel).mono ?_
              rintro e w2 ⟨rfl, rfl⟩
              dsimp only
              obtain ⟨c0, c1, c2, c3, ff⟩ := T1.out.cells
              simp only at c0 c1 c2 c3
              clear HW1 HW2 HMI
              go_wp2_with fail
              refine (HAN.out _ T1.out.bel).mono ?_
              rintro e w5 ⟨r, rfl, ho, hbl⟩
              dsimp only
              have T5 := hideIt (T1.out.keep (below_via (below1 _ _) hbl))
              obtain ⟨ra, rc, rfl⟩ := own_len ho
              have T6 := hideIt (T5.out.setL l (.slice ra l.length rc))
              have E6 := hideIt (own_egot (ownSet (b := w.heap.size) (j := 2) (.slice ra l.length rc) (own_base ho (show w.heap.size + 2 ≤ _ from by have := T1.out.size; simp; omega)) (by omega)) (by omega))
              have O6 := hideIt (ownSet (b := w.heap.size) (j := 2) (.slice ra l.length rc) (own_base ho (show w.heap.size + 2 ≤ _ from by have := T1.out.size; simp; omega)) (by omega))
              clear ho hbl T1 HAN c0 c1 c2 c3 ff
              obtain ⟨c0, c1, c2, c3, ff⟩ := T5.out.cells
              simp only at c0 c1 c2 c3
              go_upto_region 6 with fail
              generalize w5.setCell ⟨w.heap.size, 2, none⟩ (.slice ra l.length rc) = w6 at *
              clear T5 c0 c1 c2 c3 ff
              go_wp2_with fail
              refine (HRE.out _ T6.out.bel).mono ?_
              rintro e w7 ⟨rfl, hbl⟩
              dsimp only
              have T7 := hideIt (T6.out.keep hbl)
              have E7 := hideIt (E6.out.keep hbl)
              have HO := hideIt (own_keep O6.out hbl)
              clear hbl T6 E6 O6 HRE
              obtain ⟨c0, c1, c2, c3, ff⟩ := T7.out.cells
              simp only at c0 c1 c2 c3
              go_wp2_with fail
              refine (HHM.out _ _ E7.out).mono ?_
              rintro e w8 ⟨rfl, hbl⟩
              dsimp only
              have T8 := hideIt (T7.out.keep hbl)
              replace HO := hideIt (ownSet (b := w.heap.size) (j := 3) (.int .i64 x) (own_keep HO.out hbl) (by omega))
              clear hbl T7 E7 HHM c0 c1 c2 c3 ff
              obtain ⟨c0, c1, c2, c3, ff⟩ := T8.out.cells
              simp only at c0 c1 c2 c3
              have T9 := hideIt (T8.out.setC x)
              go_upto_region 9 with fail
              generalize w8.setCell ⟨w.heap.size, 3, none⟩ (.int .i64 x) = w9 at *
              clear c0 c1 c2 c3 ff T8
              obtain ⟨c0, c1, c2, c3, ff⟩ := T9.out.cells
              simp only at c0 c1 c2 c3
              have HP := T9.out.put (.int .i64 bi) (.int .i64 bt) (.slice ra l.length rc) (.int .i64 x)
              obtain ⟨z0, z1, z2, z3, zf⟩ := T9.out.zero
              obtain ⟨e1, e2⟩ := HP.out
              have e3 := (own4 (R := w.heap.size + 1) (.int .i64 bi) (.int .i64 bt) (.slice ra l.length rc) (.int .i64 x) HO.out (by omega) w.heap.size (by omega)).out
              clear HP HO
              go_wp2
              revert e1 e2 e3
              generalize (World.setCell _ ⟨w.heap.size + 1, 3, none⟩ _) = W
              intro e1 e2 e3
              exact bodyPost_ret (v := .tuple #[logV ⟨bi, bt, l, x⟩ (.slice ra l.length rc), .int .i64 0]) (by simp [results, Try.results26, go_sem, cell_at e1, logV, logA]) rfl ⟨_, rfl, e3, e2⟩
          · have h5I : x ≤ L.cm := by omega
            rw [if_neg (fun hc => h5 hc.1)]
            unfold logV logA at *
            obtain ⟨bi, bt, l, cm⟩ := L
            simp only at H1 T0 HAN hl4 h5 h5I ⊢
            clear h hin h2 h3 hm hml HHM
            go_enter Try.func26, Try.ntmps26
            go_wp2_with fail
            refine H1.out.mono ?_
            rintro e w1 ⟨rfl, hbl⟩
            dsimp only
            have T1 := hideIt (T0.out.keep hbl)
            clear hbl T0 H1
            go_wp2_with fail
            refine (HW1.out _).mono ?_
            rintro e w2 ⟨rfl, rfl⟩
            dsimp only
            go_wp2_with fail
            refine (HW2.out _).mono ?_
            rintro e w2 ⟨rfl, rfl⟩
            dsimp only
            go_wp2_with fail
            refine (HMI.out _ T1.out.bel).mono ?_
            rintro e w2 ⟨rfl, rfl⟩
            dsimp only
            obtain ⟨c0, c1, c2, c3, ff⟩ := T1.out.cells
            simp only at c0 c1 c2 c3
            clear HW1 HW2 HMI
            go_wp2_with fail
            refine (HAN.out _ T1.out.bel).mono ?_
            rintro e w5 ⟨r, rfl, ho, hbl⟩
            dsimp only
            have T5 := hideIt (T1.out.keep (below_via (below1 _ _) hbl))
            obtain ⟨ra, rc, rfl⟩ := own_len ho
            have T6 := hideIt (T5.out.setL l (.slice ra l.length rc))
            have E6 := hideIt (own_egot (ownSet (b := w.heap.size) (j := 2) (.slice ra l.length rc) (own_base ho (show w.heap.size + 2 ≤ _ from by have := T1.out.size; simp; omega)) (by omega)) (by omega))
            have O6 := hideIt (ownSet (b := w.heap.size) (j := 2) (.slice ra l.length rc) (own_base ho (show w.heap.size + 2 ≤ _ from by have := T1.out.size; simp; omega)) (by omega))
            clear ho hbl T1 HAN c0 c1 c2 c3 ff
            obtain ⟨c0, c1, c2, c3, ff⟩ := T5.out.cells
            simp only at c0 c1 c2 c3
            go_upto_region 6 with fail
            generalize w5.setCell ⟨w.heap.size, 2, none⟩ (.slice ra l.length rc) = w6 at *
            clear T5 c0 c1 c2 c3 ff
            go_wp2_with fail
            refine (HRE.out _ T6.out.bel).mono ?_
            rintro e w7 ⟨rfl, hbl⟩
            dsimp only
            have T7 := hideIt (T6.out.keep hbl)
            have E7 := hideIt (E6.out.keep hbl)
            have HO := hideIt (own_keep O6.out hbl)
            clear hbl T6 E6 O6 HRE
            obtain ⟨c0, c1, c2, c3, ff⟩ := T7.out.cells
            simp only at c0 c1 c2 c3
            have HP := T7.out.put (.int .i64 bi) (.int .i64 bt) (.slice ra l.length rc) (.int .i64 cm)
            obtain ⟨z0, z1, z2, z3, zf⟩ := T7.out.zero
            obtain ⟨e1, e2⟩ := HP.out
            have e3 := (own4 (R := w.heap.size + 1) (.int .i64 bi) (.int .i64 bt) (.slice ra l.length rc) (.int .i64 cm) HO.out (by omega) w.heap.size (by omega)).out
            clear HP HO
            go_wp2
            revert e1 e2 e3
            generalize (World.setCell _ ⟨w.heap.size + 1, 3, none⟩ _) = W
            intro e1 e2 e3
            exact bodyPost_ret (v := .tuple #[logV ⟨bi, bt, l, cm⟩ (.slice ra l.length rc), .int .i64 0]) (by simp [results, Try.results26, go_sem, cell_at e1, logV, logA]) rfl ⟨_, rfl, e3, e2⟩
end Go.Proofs.Ytonhoopmhkomcaa
