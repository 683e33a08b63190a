/- The document's own: accounts, balances; two that are the same; a copy. -/
import Derived.Test.YtjinhiabnpmiaaaRefA
namespace Go.Proofs.Ytjinhiabnpmiaaa
open Go.RowKit
set_option maxHeartbeats 4000000 in
set_option maxRecDepth 100000 in
theorem rCheck_is (A : AccV) (g : Value) (w : World) (h : AGot w g A.l) : Calls Try.prog 11 #[accV A g] w fun e w' => e = .returned (.int .i64 (chkI A)) ∧ Below w.heap.size w w' := by
  have HB := hideIt (below1 w (.cells (accA A g) 24))
  have H1 := hideIt (rAmounts_is g A.l _ (h.keep HB.out))
  obtain ⟨a, c, rfl⟩ := h.slice
  obtain ⟨l, ct⟩ := A
  unfold chkI accB accV accA at *
  simp only at H1 HB ⊢
  clear h
  cases h1 : amtsB l (-1)
  · rw [h1] at H1
    go_enter Try.func11, Try.ntmps11
    go_wp2_with fail
    refine H1.out.mono ?_
    rintro e w1 ⟨rfl, hbl⟩
    dsimp only
    have HB2 := hideIt (below_via HB.out hbl)
    clear hbl
    go_wp2
    go_ret
    exact ⟨rfl, HB2.out⟩
  · rw [h1] at H1
    by_cases h2 : ct < 0
    · have h3 : wiB ct 0 1000000000 = false := by simp [wiB]; omega
      rw [h3]
      clear h3
      go_enter Try.func11, Try.ntmps11
      go_wp2_with fail
      refine H1.out.mono ?_
      rintro e w1 ⟨rfl, hbl⟩
      dsimp only
      have HB2 := hideIt (below_via HB.out hbl)
      have d0 := box_cell hbl 1
      clear hbl
      go_wp2
      go_ret
      exact ⟨rfl, HB2.out⟩
    · have h2I : 0 ≤ ct := by omega
      by_cases h3 : 1000000000 < ct
      · have h4 : wiB ct 0 1000000000 = false := by simp [wiB]; omega
        rw [h4]
        clear h4
        go_enter Try.func11, Try.ntmps11
        go_wp2_with fail
        refine H1.out.mono ?_
        rintro e w1 ⟨rfl, hbl⟩
        dsimp only
        have HB2 := hideIt (below_via HB.out hbl)
        have d0 := box_cell hbl 1
        clear hbl
        go_wp2
        go_ret
        exact ⟨rfl, HB2.out⟩
      · have h4 : wiB ct 0 1000000000 = true := by simp [wiB]; omega
        have h3I : ct ≤ 1000000000 := by omega
        rw [h4]
        clear h4
        go_enter Try.func11, Try.ntmps11
        go_wp2_with fail
        refine H1.out.mono ?_
        rintro e w1 ⟨rfl, hbl⟩
        dsimp only
        have HB2 := hideIt (below_via HB.out hbl)
        have d0 := box_cell hbl 1
        clear hbl
        go_wp2
        go_ret
        exact ⟨rfl, HB2.out⟩
set_option maxHeartbeats 4000000 in
set_option maxRecDepth 100000 in
theorem rBalance_is (A : AccV) (g : Value) (k : Int) (w : World) (h : AGot w g A.l) : Calls Try.prog 13 #[accV A g, .int .i64 k] w fun e w' => e = .returned (.int .i64 (balL A.l k)) ∧ Below w.heap.size w w' := by
  have HB := hideIt (below1 w (.cells (accA A g) 24))
  have HX := hideIt (heap_alloc_new w (.cells (accA A g) 24))
  obtain ⟨a, c, rfl, h8, hr⟩ := (h.keep HB.out).open
  have HH := hideIt hr
  obtain ⟨l, ct⟩ := A
  unfold accV accA at *
  simp only at HH HB HX h8 ⊢
  clear hr h
  go_enter Try.func13, Try.ntmps13
  go_wp2
  generalize w.alloc (.cells #[.slice a l.length c, .int .i64 ct] 24) = X at *
  have HL := hideIt (Array.getElem?_eq_some_iff.1 HX.out).1
  go_loopw [5] (fun v wr => ∃ (t : Nat), v = .int .i64 t ∧ t ≤ l.length ∧ Hid (balL l k = balL (l.drop t) k ∧ Below X.heap.size X wr)) (fun v _ => l.length - (intOf v).toNat)
  case atStart => exact ⟨0, rfl, Nat.zero_le _, hideIt ⟨rfl, Below.refl _ _⟩⟩
  case round =>
    obtain ⟨t, rfl, ht, HR⟩ := hrel
    have hx : wr.cell? ⟨w.heap.size, 0, none⟩ = some (.slice a l.length c) := by
      rw [HR.out.2.cell HL.out, cell_at HX.out]
      rfl
    by_cases hlt : t < l.length
    · have hltI : (t : Int) < (l.length : Int) := by omega
      have ht0 : (0 : Int) ≤ (t : Int) := by omega
      obtain ⟨b, off, rfl, hbl, q0, q1⟩ := HH.out t hlt
      have hB := HR.out.2
      have c0 := (hB.cell (p := ⟨b, off + t * 2, none⟩) hbl).trans q0
      have c1 := (hB.cell (p := ⟨b, off + t * 2 + 1, none⟩) hbl).trans q1
      have HRD := hideIt (balL_drop l t k hlt)
      generalize l[t] = en at *
      obtain ⟨ek, ex⟩ := en
      simp only at c0 c1 HRD
      clear q0 q1 hB
      by_cases h0 : ek = k
      · subst h0
        go_wp2
        go_ret
        exact ⟨by rw [HR.out.1, HRD.out]; simp, below_via HB.out HR.out.2⟩
      · have hb0 : (ek == k) = false := beq_eq_false_iff_ne.2 h0
        go_wp2
        go_roundw
        case rel => exact ⟨t + 1, by go_num, by omega, hideIt ⟨by rw [HR.out.1, HRD.out, if_neg h0], HR.out.2⟩⟩
        case measure => simp [intOf]; omega
    · have hltI : ¬ (t : Int) < (l.length : Int) := by omega
      go_wp2
      go_ret
      have := HR.out.1
      rw [List.drop_of_length_le (by omega)] at this
      exact ⟨by rw [this]; rfl, below_via HB.out HR.out.2⟩
theorem neq35r (a b : Int) (w : World) : (binOp .neq 35 (.agg #[.int .i64 a, .int .i64 b]) (.agg #[.int .i64 a, .int .i64 b])).run Try.prog w = .ok (.bool false) w := by
  simp [go_sem]
set_option maxHeartbeats 8000000 in
set_option maxRecDepth 100000 in
theorem sameAm_is (g k : Value) (l : List AmtV) (w : World) (hg : AGot w g l) (hk : AGot w k l) : Calls Try.prog 22 #[g, k] w fun e w' => e = .returned (.bool true) ∧ Below w.heap.size w w' := by
  obtain ⟨a, c, rfl, h8, ha⟩ := hg.open
  obtain ⟨a', c', rfl, _, hb⟩ := hk.open
  have HA := hideIt ha
  have HK := hideIt hb
  have hl : ((l.length : Int) != (l.length : Int)) = false := by simp
  clear hg hk ha hb
  go_enter Try.func22, Try.ntmps22
  go_wp2
  go_loopw [5] (fun i wr => ∃ j : Nat, j ≤ l.length ∧ i = .int .i64 j ∧ Hid (Below w.heap.size w wr)) (fun i _ => l.length - (intOf i).toNat)
  case atStart => exact ⟨0, Nat.zero_le _, rfl, hideIt (Below.refl _ _)⟩
  case round =>
    obtain ⟨j, hj, rfl, HW⟩ := hrel
    by_cases hlt : j < l.length
    · obtain ⟨b1, o1, rfl, l1, p0, p1⟩ := HA.out j hlt
      obtain ⟨b2, o2, rfl, l2, q0, q1⟩ := HK.out j hlt
      have x0 := (HW.out.cell (p := ⟨b1, o1 + j * 2, none⟩) l1).trans p0
      have x1 := (HW.out.cell (p := ⟨b1, o1 + j * 2 + 1, none⟩) l1).trans p1
      have y0 := (HW.out.cell (p := ⟨b2, o2 + j * 2, none⟩) l2).trans q0
      have y1 := (HW.out.cell (p := ⟨b2, o2 + j * 2 + 1, none⟩) l2).trans q1
      have hlt' : (j : Int) < l.length := by omega
      have hj0 : (0 : Int) ≤ j := by omega
      clear p0 p1 q0 q1
      generalize l[j] = en at *
      obtain ⟨ek, ex⟩ := en
      simp only at x0 x1 y0 y1
      have n1 := neq35r ek ex
      go_upto_region 6 with fail
      refine wp_region_held_drew (S := fun w' => w'.cell? ⟨b1, o1 + j * 2, none⟩ = some (.int .i64 ek) ∧ w'.cell? ⟨b1, o1 + j * 2 + 1, none⟩ = some (.int .i64 ex) ∧ w'.cell? ⟨b2, o2 + j * 2, none⟩ = some (.int .i64 ek) ∧ w'.cell? ⟨b2, o2 + j * 2 + 1, none⟩ = some (.int .i64 ex)) (by kernel_rfl) ⟨x0, x1, y0, y1⟩ (fun hHeld => ?_)
      refine wpAnyH_take (i := 0) (oi := ⟨some 17, _, _, _, _, _⟩) (v := ?_) rfl (by kernel_rfl) (by kernel_rfl) (by kernel_rfl) (fun _ _ _ h => h) (Or.inl ⟨by rfl, ?_⟩) (by assumption) ?_
      rotate_left
      · intro w5 hSw
        (try dsimp only at hSw)
        go_simp
        (try with_reducible rfl)
      try simp only [Act.put, List.setIfInBounds_toArray, List.set_cons_zero, List.set_cons_succ]
      refine wpAnyH_take (i := 1) (oi := ⟨some 18, _, _, _, _, _⟩) (v := ?_) rfl (by kernel_rfl) (by kernel_rfl) (by kernel_rfl) (fun _ _ _ h => h) (Or.inl ⟨by rfl, ?_⟩) (by assumption) ?_
      rotate_left
      · intro w5 hSw
        (try dsimp only at hSw)
        go_simp
        (try with_reducible rfl)
      try simp only [Act.put, List.setIfInBounds_toArray, List.set_cons_zero, List.set_cons_succ]
      refine wpAnyH_take (i := 2) (oi := ⟨some 19, _, _, _, _, _⟩) (v := ?_) rfl (by kernel_rfl) (by kernel_rfl) (by kernel_rfl) (fun _ _ _ h => h) (Or.inl ⟨by rfl, ?_⟩) (by assumption) ?_
      rotate_left
      · intro w5 hSw
        (try dsimp only at hSw)
        go_simp
        (try with_reducible rfl)
      try simp only [Act.put, List.setIfInBounds_toArray, List.set_cons_zero, List.set_cons_succ]
      refine wpAnyH_take (i := 3) (oi := ⟨some 20, _, _, _, _, _⟩) (v := ?_) rfl (by kernel_rfl) (by kernel_rfl) (by kernel_rfl) (fun _ _ _ h => h) (Or.inl ⟨by rfl, ?_⟩) (by assumption) ?_
      rotate_left
      · intro w5 hSw
        (try dsimp only at hSw)
        go_simp
        (try with_reducible rfl)
      try simp only [Act.put, List.setIfInBounds_toArray, List.set_cons_zero, List.set_cons_succ]
      refine wpAnyH_take (i := 4) (oi := ⟨some 21, _, _, _, _, _⟩) (v := ?_) rfl (by kernel_rfl) (by kernel_rfl) (by kernel_rfl) (fun _ _ _ h => h) (Or.inl ⟨by rfl, ?_⟩) (by assumption) ?_
      rotate_left
      · intro w5 hSw
        (try dsimp only at hSw)
        go_simp
        (try with_reducible rfl)
      try simp only [Act.put, List.setIfInBounds_toArray, List.set_cons_zero, List.set_cons_succ]
      refine wpAnyH_take (i := 5) (oi := ⟨some 22, _, _, _, _, _⟩) (v := ?_) rfl (by kernel_rfl) (by kernel_rfl) (by kernel_rfl) (fun _ _ _ h => h) (Or.inl ⟨by rfl, ?_⟩) (by assumption) ?_
      rotate_left
      · intro w5 hSw
        (try dsimp only at hSw)
        go_simp
        (try with_reducible rfl)
      try simp only [Act.put, List.setIfInBounds_toArray, List.set_cons_zero, List.set_cons_succ]
      refine wpAnyH_take (i := 6) (oi := ⟨some 23, _, _, _, _, _⟩) (v := ?_) rfl (by kernel_rfl) (by kernel_rfl) (by kernel_rfl) (fun _ _ _ h => h) (Or.inl ⟨by rfl, ?_⟩) (by assumption) ?_
      rotate_left
      · intro w5 hSw
        (try dsimp only at hSw)
        go_simp
        (try with_reducible rfl)
      try simp only [Act.put, List.setIfInBounds_toArray, List.set_cons_zero, List.set_cons_succ]
      refine wpAnyH_take (i := 7) (oi := ⟨some 24, _, _, _, _, _⟩) (v := ?_) rfl (by kernel_rfl) (by kernel_rfl) (by kernel_rfl) (fun _ _ _ h => h) (Or.inl ⟨by rfl, ?_⟩) (by assumption) ?_
      rotate_left
      · intro w5 hSw
        (try dsimp only at hSw)
        go_simp
        (try with_reducible rfl)
      try simp only [Act.put, List.setIfInBounds_toArray, List.set_cons_zero, List.set_cons_succ]
      refine wpAnyH_take (i := 8) (oi := ⟨some 25, _, _, _, _, _⟩) (v := ?_) rfl (by kernel_rfl) (by kernel_rfl) (by kernel_rfl) (fun _ _ _ h => h) (Or.inl ⟨by rfl, ?_⟩) (by assumption) ?_
      rotate_left
      · intro w5 hSw
        (try dsimp only at hSw)
        go_simp
        (try with_reducible rfl)
      try simp only [Act.put, List.setIfInBounds_toArray, List.set_cons_zero, List.set_cons_succ]
      refine wpAnyH_done (by kernel_rfl) ?_ _
      clear n1 x0 x1 y0 y1 hHeld
      go_wp2
      go_roundw
      case rel => exact ⟨j + 1, by omega, by go_num, hideIt HW.out.drew⟩
      case measure => simp [intOf]; omega
    · have hlt' : ¬ (j : Int) < l.length := by omega
      go_wp2
      go_ret
      exact ⟨rfl, HW.out⟩
set_option maxHeartbeats 8000000 in
set_option maxRecDepth 100000 in
theorem same_is (A : AccV) (g k : Value) (w : World) (hg : AGot w g A.l) (hk : AGot w k A.l) : Calls Try.prog 14 #[accV A g, accV A k] w fun e w' => e = .returned (.bool true) ∧ Below w.heap.size w w' := by
  obtain ⟨l, ct⟩ := A
  simp only at hg hk
  have HB := hideIt (below2 w (.cells #[g, .int .i64 ct] 24) (.cells #[k, .int .i64 ct] 24))
  have H1 := hideIt (sameAm_is g k l _ (hg.keep HB.out) (hk.keep HB.out))
  obtain ⟨a, c, rfl⟩ := hg.slice
  obtain ⟨a', c', rfl⟩ := hk.slice
  have hcc : (ct == ct) = true := by simp
  clear hg hk
  unfold accV accA
  simp only
  go_enter Try.func14, Try.ntmps14
  go_wp2_with fail
  refine H1.out.mono ?_
  rintro e w1 ⟨rfl, hbl⟩
  dsimp only
  have HB2 := hideIt (below_via HB.out hbl)
  clear hbl
  go_wp2
  go_ret
  exact ⟨rfl, HB2.out⟩
/-- Two cells of a block are written. -/
theorem put2 (wc : World) (b : Nat) (ty : TypeId) (v0 v1 : Value) {z0 z1 : Value} (h : wc.heap[b]? = some (.cells #[z0, z1] ty (0, 0))) :
    ((wc.setCell ⟨b, 0, none⟩ v0).setCell ⟨b, 1, none⟩ v1).heap[b]? = some (.cells #[v0, v1] ty (0, 0)) := by
  have h0 := heap_set h 0 v0
  exact heap_set h0 1 v1
theorem fin2 {w wx : World} {R : Nat} {ty : TypeId} (v0 v1 : Value) {z0 z1 : Value} (hz : wx.heap[R]? = some (.cells #[z0, z1] ty (0, 0))) (hR : w.heap.size ≤ R) (hb : Below w.heap.size w wx) :
    Hid (((wx.setCell ⟨R, 0, none⟩ v0).setCell ⟨R, 1, none⟩ v1).heap[R]? = some (.cells #[v0, v1] ty (0, 0)) ∧ Below w.heap.size w ((wx.setCell ⟨R, 0, none⟩ v0).setCell ⟨R, 1, none⟩ v1)) :=
  ⟨put2 _ _ ty _ _ hz, belowSet _ (belowSet _ hb hR) hR⟩
theorem own2 {wx : World} {R B n : Nat} {e : TypeId} {z : Nat} {g : Value} {xs : List Value} (v0 v1 : Value) (ho : wx.ownsRow B e z g n xs) (hR : R < B) (B' : Nat) (hB : B' ≤ B) :
    Hid (((wx.setCell ⟨R, 0, none⟩ v0).setCell ⟨R, 1, none⟩ v1).ownsRow B' e z g n xs) :=
  own_base (ownSet _ (ownSet _ ho hR) hR) hB
/-- An account comes back. -/
def AccBack (A : AccV) (w : World) (e : Ending) (w' : World) : Prop := ∃ g, e = .returned (accV A g) ∧ w'.ownsRow w.heap.size 35 2 g A.l.length (amC A.l) ∧ Below w.heap.size w w'
set_option maxHeartbeats 4000000 in
set_option maxRecDepth 100000 in
theorem copy_is (A : AccV) (g : Value) (w : World) (h : AGot w g A.l) : Calls Try.prog 9 #[accV A g] w (AccBack A w) := by
  obtain ⟨l, r⟩ := A
  simp only at h
  have hB3 := below3 w (.cells #[g, .int .i64 r] 24) (.cells #[.slice none 0 0, .int .i64 0] 24) (.cells #[.slice none 0 0, .int .i64 r] 24)
  have hH3 := three_heap w (.cells #[g, .int .i64 r] 24) (.cells #[.slice none 0 0, .int .i64 0] 24) (.cells #[.slice none 0 0, .int .i64 r] 24)
  obtain ⟨v', w', hrun, how, hgr⟩ := run_app (((w.alloc (.cells #[g, .int .i64 r] 24)).alloc (.cells #[.slice none 0 0, .int .i64 0] 24)).alloc (.cells #[.slice none 0 0, .int .i64 r] 24)) 22 (w.heap.size + 3) (.slice none 0 0) [] l g (by rw [hH3.2.2.2]; omega) ⟨rfl, .inl ⟨rfl, rfl⟩⟩ (h.keep hB3) (by have := h.1; simpa using this)
  have hb := grown_none hgr
  have HRUN := hideIt hrun
  rw [List.nil_append] at how
  have HO := hideIt how
  have hbs : ((((w.alloc (.cells #[g, .int .i64 r] 24)).alloc (.cells #[.slice none 0 0, .int .i64 0] 24)).alloc (.cells #[.slice none 0 0, .int .i64 r] 24))).heap.size = w.heap.size + 3 := hH3.2.2.2
  have E1 := hideIt ((hb.block _ (by rw [hbs]; omega)).trans hH3.2.1)
  have E2 : Hid (w'.heap[w.heap.size + 1 + 1]? = some (.cells #[.slice none 0 0, .int .i64 r] 24 (0, 0))) := (hb.block _ (by rw [hbs]; omega)).trans hH3.2.2.1
  have HB := hideIt (below_via hB3 hb)
  obtain ⟨a2, cc, rfl⟩ := own_len how
  obtain ⟨ga, gc, rfl⟩ := h.slice
  clear hrun how hgr hb hbs hB3 hH3 h
  have ec0 : w'.cell? ⟨w.heap.size + 1 + 1, 0, none⟩ = some (.slice none 0 0) := by rw [cell_at E2.out]; rfl
  have ec1 : w'.cell? ⟨w.heap.size + 1 + 1, 1, none⟩ = some (.int .i64 r) := by rw [cell_at E2.out]; rfl
  have ef : ∀ j, w'.frozen? ⟨w.heap.size + 1 + 1, j, none⟩ = false := fun j => free_at E2.out j
  have zc0 : w'.cell? ⟨w.heap.size + 1, 0, none⟩ = some (.slice none 0 0) := by rw [cell_at E1.out]; rfl
  have zc1 : w'.cell? ⟨w.heap.size + 1, 1, none⟩ = some (.int .i64 0) := by rw [cell_at E1.out]; rfl
  have zf : ∀ j, w'.frozen? ⟨w.heap.size + 1, j, none⟩ = false := fun j => free_at E1.out j
  unfold accV accA
  simp only
  go_enter Try.func9, Try.ntmps9
  go_wp2_with (at_builtin; refine wpList_append_run _ rfl _ _ rfl rfl rfl rfl HRUN.out ?_)
  have HF := fin2 (w := w) (wx := w'.setCell ⟨w.heap.size + 1 + 1, 0, none⟩ (.slice a2 l.length cc)) (R := w.heap.size + 1) (.slice a2 l.length cc) (.int .i64 r) (setOther _ E1.out (by omega)) (by omega) (belowSet _ HB.out (by omega))
  have HG := own2 (R := w.heap.size + 1) (.slice a2 l.length cc) (.int .i64 r) (ownSet (b := w.heap.size + 1 + 1) (j := 0) (.slice a2 l.length cc) HO.out (by omega)) (by omega) w.heap.size (by omega)
  clear E1 E2 HB HO HRUN
  go_wp2
  obtain ⟨e1, e2⟩ := HF.out
  have e3 := HG.out
  revert e1 e2 e3
  generalize (World.setCell _ ⟨w.heap.size + 1, 1, none⟩ _) = W
  intro e1 e2 e3
  exact bodyPost_ret (v := accV ⟨l, r⟩ (.slice a2 l.length cc)) (by simp [results, Try.results9, go_sem, cell_at e1, accV, accA]) rfl ⟨_, rfl, e3, e2⟩
end Go.Proofs.Ytjinhiabnpmiaaa
