/- Whether a log has an index, and the mark of one; whether it may be, and the term of an index. -/
import Derived.Test.YtonhoopmhkomcaaMayBe
namespace Go.Proofs.Ytonhoopmhkomcaa
open Go.RowKit
def hasB (L : LogV) (i : Int) : Bool := wiB i (L.bi + 1) (lasI L)
theorem near_may {L : LogV} (h : mayB L = true) : Near L := by
  have := mayB_in h
  exact ⟨by omega, by omega, by omega⟩
set_option maxHeartbeats 16000000 in
set_option maxRecDepth 100000 in
theorem hasEntry_is (L : LogV) (g : Value) (i : Int) (w : World) (h : EGot w g L.l) (hn : Near L) : Calls Try.prog 31 #[logV L g, .int .i64 i] w fun e w' => e = .returned (.bool (hasB L i)) ∧ Below w.heap.size w w' := by
  have HI := hideIt (Box.first w L g)
  have T3 : ∀ wx, Box w w.heap.size L g wx → Calls Try.prog 38 #[logV L g] wx fun e w' => e = .returned (.int .i64 (lasI L)) ∧ Hid (Box w w.heap.size L g w') ∧ w'.cell? ⟨w.heap.size, 0, none⟩ = some (.int .i64 L.bi) ∧ w'.cell? ⟨w.heap.size, 1, none⟩ = some (.int .i64 L.bt) ∧ w'.cell? ⟨w.heap.size, 2, none⟩ = some g ∧ w'.cell? ⟨w.heap.size, 3, none⟩ = some (.int .i64 L.cm) := by
    intro wx hx
    refine (lastIndex_is L g wx (h.keep hx.bel) hn).mono ?_
    rintro e w' ⟨rfl, rfl⟩
    exact ⟨rfl, hideIt (hx.keep (below1 _ _)), (hx.keep (below1 _ _)).cells⟩
  have T4 : ∀ wx, Box w w.heap.size L g wx → Calls Try.prog 41 #[.int .i64 i, .int .i64 (L.bi + 1), .int .i64 (lasI L)] wx fun e w' => e = .returned (.bool (wiB i (L.bi + 1) (lasI L))) ∧ Hid (Box w w.heap.size L g w') ∧ w'.cell? ⟨w.heap.size, 0, none⟩ = some (.int .i64 L.bi) ∧ w'.cell? ⟨w.heap.size, 1, none⟩ = some (.int .i64 L.bt) ∧ w'.cell? ⟨w.heap.size, 2, none⟩ = some g ∧ w'.cell? ⟨w.heap.size, 3, none⟩ = some (.int .i64 L.cm) := by
    intro wx hx
    refine (within_is i (L.bi + 1) (lasI L) wx).mono ?_
    rintro e w' ⟨rfl, rfl⟩
    exact ⟨rfl, hideIt hx, hx.cells⟩
  have H3 := hideIt T3
  have H4 := hideIt T4
  clear T3 T4
  obtain ⟨a, c, rfl, h8, _⟩ := h.open
  unfold hasB
  unfold logV logA at *
  generalize lasI L = li at *
  obtain ⟨bi, bt, l, cm⟩ := L
  obtain ⟨n1, n2, n3⟩ := hn
  simp only at H3 H4 HI h8 n1 n2 n3 ⊢
  clear h
  generalize wiB i (bi + 1) li = b4 at *
  have hw : IntKind.i64.wrap (bi + 1) = bi + 1 := by
    rw [IntKind.wrap_i64]
    omega
  go_enter Try.func31, Try.ntmps31
  go_upto_region 1 with fail
  refine wp_region_held_drew (S := fun w' => w'.cell? ⟨w.heap.size, 0, none⟩ = some (.int .i64 bi) ∧ w'.cell? ⟨w.heap.size, 1, none⟩ = some (.int .i64 bt) ∧ w'.cell? ⟨w.heap.size, 2, none⟩ = some (.slice a l.length c) ∧ w'.cell? ⟨w.heap.size, 3, none⟩ = some (.int .i64 cm)) (by kernel_rfl) HI.out.drew.cells (fun hHeld => ?_)
  refine wpAnyH_take (i := 0) (oi := ⟨some 5, _, _, _, _, _⟩) (v := ?_) rfl (by kernel_rfl) (by kernel_rfl) (by kernel_rfl) (fun _ _ _ h => h) (Or.inl ⟨by rfl, ?_⟩) (by assumption) ?_
  rotate_left
  · intro w5 hSw
    (try dsimp only at hSw)
    go_simp
    (try with_reducible rfl)
  try simp only [Act.put, List.setIfInBounds_toArray, List.set_cons_zero, List.set_cons_succ]
  refine wpAnyH_take (i := 1) (oi := ⟨some 6, _, _, _, _, _⟩) (v := ?_) rfl (by kernel_rfl) (by kernel_rfl) (by kernel_rfl) (fun _ _ _ h => h) (Or.inl ⟨by rfl, ?_⟩) (by assumption) ?_
  rotate_left
  · intro w5 hSw
    (try dsimp only at hSw)
    go_simp
    (try with_reducible rfl)
  try simp only [Act.put, List.setIfInBounds_toArray, List.set_cons_zero, List.set_cons_succ]
  refine wpAnyH_take (i := 2) (oi := ⟨some 7, _, _, _, _, _⟩) (v := ?_) rfl (by kernel_rfl) (by kernel_rfl) (by kernel_rfl) (fun _ _ _ h => h) (Or.inl ⟨by rfl, ?_⟩) (by assumption) ?_
  rotate_left
  · intro w5 hSw
    (try dsimp only at hSw)
    go_simp
    (try with_reducible rfl)
  try simp only [Act.put, List.setIfInBounds_toArray, List.set_cons_zero, List.set_cons_succ]
  refine wpAnyH_take (i := 3) (oi := ⟨some 8, _, _, _, _, _⟩) (v := ?_) rfl (by kernel_rfl) (by kernel_rfl) (by kernel_rfl) (fun _ _ _ h => h) (Or.inl ⟨by rfl, ?_⟩) (by assumption) ?_
  rotate_left
  · intro w5 hSw
    (try dsimp only at hSw)
    go_simp
    (try with_reducible rfl)
  try simp only [Act.put, List.setIfInBounds_toArray, List.set_cons_zero, List.set_cons_succ]
  refine wpAnyH_take (i := 4) (oi := ⟨some 9, _, _, _, _, _⟩) (v := ?_) rfl (by kernel_rfl) (by kernel_rfl) (by kernel_rfl) (fun _ _ _ h => h) (Or.inl ⟨by rfl, ?_⟩) (by assumption) ?_
  rotate_left
  · intro w5 hSw
    (try dsimp only at hSw)
    go_simp
    (try with_reducible rfl)
  try simp only [Act.put, List.setIfInBounds_toArray, List.set_cons_zero, List.set_cons_succ]
  refine wpAnyH_take (i := 5) (oi := ⟨some 10, _, _, _, _, _⟩) (v := ?_) rfl (by kernel_rfl) (by kernel_rfl) (by kernel_rfl) (fun _ _ _ h => h) (Or.inl ⟨by rfl, ?_⟩) (by assumption) ?_
  rotate_left
  · intro w5 hSw
    (try dsimp only at hSw)
    go_simp
    (try with_reducible rfl)
  try simp only [Act.put, List.setIfInBounds_toArray, List.set_cons_zero, List.set_cons_succ]
  refine wpAnyH_ready (rs := [6]) (by kernel_rfl) (by simp) ?_
  refine AllReadyH.cons (o := ⟨some 11, _, _, _, _, _⟩) rfl (fun K hK => ?_) AllReadyH.nil
  go_simp
  go_at_call 38
  refine (H3.out _ (by first | exact HI.out | exact HI.out.drew)).mono ?_
  clear HI
  rintro e w1 ⟨rfl, HI, j0, j1, j2, j3⟩
  refine hK.out _ _ ⟨j0, j1, j2, j3⟩ (fun hHeld => ?_)
  clear hK K
  try simp only [Act.put, List.setIfInBounds_toArray, List.set_cons_zero, List.set_cons_succ]
  refine wpAnyH_ready (rs := [7]) (by kernel_rfl) (by simp) ?_
  refine AllReadyH.cons (o := ⟨some 12, _, _, _, _, _⟩) rfl (fun K hK => ?_) AllReadyH.nil
  go_simp
  go_at_call 41
  refine (H4.out _ (by first | exact HI.out | exact HI.out.drew)).mono ?_
  clear HI
  rintro e w1 ⟨rfl, HI, j0, j1, j2, j3⟩
  refine hK.out _ _ ⟨j0, j1, j2, j3⟩ (fun hHeld => ?_)
  clear hK K
  try simp only [Act.put, List.setIfInBounds_toArray, List.set_cons_zero, List.set_cons_succ]
  refine wpAnyH_take (i := 8) (oi := ⟨some 4, _, _, _, _, _⟩) (v := ?_) rfl (by kernel_rfl) (by kernel_rfl) (by kernel_rfl) (fun _ _ _ h => h) (Or.inl ⟨by rfl, ?_⟩) (by assumption) ?_
  rotate_left
  · intro w5 hSw
    (try dsimp only at hSw)
    go_simp
    (try with_reducible rfl)
  try simp only [Act.put, List.setIfInBounds_toArray, List.set_cons_zero, List.set_cons_succ]
  refine wpAnyH_done (by kernel_rfl) ?_ _
  go_wp2
  go_ret
  exact ⟨rfl, HI.out.bel⟩
/-- The mark of an index. -/
def markL (L : LogV) (i : Int) : (Int × Int) × Bool :=
  if i = L.bi then ((L.bi, L.bt), true) else if hasB L i then ((i, (L.l.getD (i - L.bi - 1).toNat noE).term), true) else ((0, 0), false)
theorem put2 (wc : World) (b : Nat) (ty : TypeId) (v0 v1 : Value) {z0 z1 : Value} (h : wc.heap[b]? = some (.cells #[z0, z1] ty (0, 0))) :
    ((wc.setCell ⟨b, 0, none⟩ v0).setCell ⟨b, 1, none⟩ v1).heap[b]? = some (.cells #[v0, v1] ty (0, 0)) := by
  have h0 := heap_set h 0 v0
  exact heap_set h0 1 v1
/-- A box, and a mark's block that the answer will lie in. -/
structure Two (w : World) (L : LogV) (g : Value) (wx : World) : Prop where
  box : wx.heap[w.heap.size]? = some (.cells (logA L g) 26 (0, 0))
  res : wx.heap[w.heap.size + 1]? = some (.cells #[.int .i64 0, .int .i64 0] 23 (0, 0))
  bel : Below w.heap.size w wx
theorem Two.first (w : World) (L : LogV) (g : Value) : Two w L g ((w.alloc (.cells (logA L g) 26)).alloc (.cells #[.int .i64 0, .int .i64 0] 23)) := by
  have ht := two_heap w (.cells (logA L g) 26) (.cells #[.int .i64 0, .int .i64 0] 23)
  exact ⟨ht.1, ht.2.1, below2 w _ _⟩
theorem Two.size {w wx : World} {L : LogV} {g : Value} (h : Two w L g wx) : w.heap.size + 2 ≤ wx.heap.size := (Array.getElem?_eq_some_iff.1 h.res).1
theorem Two.keep {w wx wy : World} {L : LogV} {g : Value} (h : Two w L g wx) (hb : Below wx.heap.size wx wy) : Two w L g wy := by
  have := h.size
  exact ⟨(hb.block _ (by omega)).trans h.box, (hb.block _ (by omega)).trans h.res, below_via h.bel hb⟩
theorem Two.cells {w wx : World} {L : LogV} {g : Value} (h : Two w L g wx) : wx.cell? ⟨w.heap.size, 0, none⟩ = some (.int .i64 L.bi) ∧ wx.cell? ⟨w.heap.size, 1, none⟩ = some (.int .i64 L.bt) ∧ wx.cell? ⟨w.heap.size, 2, none⟩ = some g ∧ wx.cell? ⟨w.heap.size, 3, none⟩ = some (.int .i64 L.cm) ∧ wx.cell? ⟨w.heap.size + 1, 0, none⟩ = some (.int .i64 0) ∧ wx.cell? ⟨w.heap.size + 1, 1, none⟩ = some (.int .i64 0) ∧ ∀ j, wx.frozen? ⟨w.heap.size + 1, j, none⟩ = false :=
  ⟨by rw [cell_at h.box]; rfl, by rw [cell_at h.box]; rfl, by rw [cell_at h.box]; rfl, by rw [cell_at h.box]; rfl, by rw [cell_at h.res]; rfl, by rw [cell_at h.res]; rfl, fun j => free_at h.res j⟩
theorem Two.put {w wx : World} {L : LogV} {g : Value} (h : Two w L g wx) (v0 v1 : Value) : Hid (((wx.setCell ⟨w.heap.size + 1, 0, none⟩ v0).setCell ⟨w.heap.size + 1, 1, none⟩ v1).heap[w.heap.size + 1]? = some (.cells #[v0, v1] 23 (0, 0)) ∧ Below w.heap.size w ((wx.setCell ⟨w.heap.size + 1, 0, none⟩ v0).setCell ⟨w.heap.size + 1, 1, none⟩ v1)) :=
  ⟨put2 _ _ 23 _ _ h.res, belowSet _ (belowSet _ h.bel (by omega)) (by omega)⟩
def MarkBack (x : (Int × Int) × Bool) (w : World) (e : Ending) (w' : World) : Prop := e = .returned (.tuple #[.agg #[.int .i64 x.1.1, .int .i64 x.1.2], .bool x.2]) ∧ Below w.heap.size w w'
set_option maxHeartbeats 16000000 in
set_option maxRecDepth 100000 in
theorem markAt_is (L : LogV) (g : Value) (i : Int) (w : World) (h : EGot w g L.l) (hn : Near L) : Calls Try.prog 29 #[logV L g, .int .i64 i] w (MarkBack (markL L i) w) := by
  have T0 := hideIt (Two.first w L g)
  have H1 := hideIt (hasEntry_is L g i _ (h.keep T0.out.bel) hn)
  unfold MarkBack markL
  have hh := hideIt h
  have hnn := hideIt hn
  obtain ⟨a, c, rfl, h8, _⟩ := h.open
  have HB : Hid (hasB L i = decide (L.bi + 1 ≤ i ∧ i ≤ lasI L)) := rfl
  clear h hn
  unfold logV logA at *
  obtain ⟨bi, bt, l, cm⟩ := L
  obtain ⟨n1, n2, n3⟩ := hnn.out
  simp only at H1 h8 n1 n2 n3 HB T0 ⊢
  by_cases hi : i = bi
  · subst hi
    rw [if_pos rfl]
    go_enter Try.func29, Try.ntmps29
    go_upto_region 1 with fail
    generalize ((w.alloc (.cells #[.int .i64 i, .int .i64 bt, .slice a l.length c, .int .i64 cm] 26)).alloc (.cells #[.int .i64 0, .int .i64 0] 23)) = X at *
    obtain ⟨c0, c1, c2, c3, z0, z1, zf⟩ := T0.out.cells
    have HP := T0.out.put (.int .i64 i) (.int .i64 bt)
    simp only at c0 c1
    clear T0 H1 HB hh hnn
    obtain ⟨e1, e2⟩ := HP.out
    clear HP
    go_wp2
    revert e1 e2
    generalize (World.setCell _ ⟨w.heap.size + 1, 1, none⟩ _) = W
    intro e1 e2
    exact bodyPost_ret (v := .tuple #[.agg #[.int .i64 i, .int .i64 bt], .bool true]) (by simp [results, Try.results29, go_sem, cell_at e1]) rfl ⟨by rfl, e2⟩
  · have hib : (i == bi) = false := beq_eq_false_iff_ne.2 hi
    rw [if_neg hi]
    cases hb : hasB ⟨bi, bt, l, cm⟩ i
    · rw [hb] at H1
      simp only [Bool.false_eq_true, if_false]
      go_enter Try.func29, Try.ntmps29
      go_wp2_with fail
      refine H1.out.mono ?_
      rintro e w1 ⟨rfl, hbl⟩
      dsimp only
      have T1 := hideIt (T0.out.keep hbl)
      obtain ⟨c0, c1, c2, c3, z0, z1, zf⟩ := T1.out.cells
      have HP := T1.out.put (.int .i64 0) (.int .i64 0)
      clear T0 T1 H1 hbl
      obtain ⟨e1, e2⟩ := HP.out
      clear HP
      go_wp2
      revert e1 e2
      generalize (World.setCell _ ⟨w.heap.size + 1, 1, none⟩ _) = W
      intro e1 e2
      exact bodyPost_ret (v := .tuple #[.agg #[.int .i64 0, .int .i64 0], .bool false]) (by simp [results, Try.results29, go_sem, cell_at e1]) rfl ⟨by rfl, e2⟩
    · rw [hb] at H1
      have hin := HB.out
      rw [hb, eq_comm, decide_eq_true_eq] at hin
      unfold lasI at hin
      simp only at hin
      obtain ⟨k, hk⟩ : ∃ k : Nat, i - bi - 1 = (k : Int) := Int.eq_ofNat_of_zero_le (by omega)
      have hkl : k < l.length := by omega
      have k0 : (0 : Int) ≤ (k : Int) := by omega
      have k1 : (k : Int) < (l.length : Int) := by omega
      obtain ⟨et, HE⟩ : ∃ et, Hid (l[k].term = et) := ⟨_, hideIt rfl⟩
      simp only [if_true, hk, Int.toNat_natCast, List.getD, List.getElem?_eq_getElem hkl, Option.getD_some, HE.out]
      go_enter Try.func29, Try.ntmps29
      go_wp2_with fail
      refine H1.out.mono ?_
      rintro e w1 ⟨rfl, hbl⟩
      dsimp only
      have T1 := hideIt (T0.out.keep hbl)
      have E1 := hh.out.keep T1.out.bel
      obtain ⟨a2, c2', e2, _, hr⟩ := E1.open
      simp only [Value.slice.injEq] at e2
      obtain ⟨rfl, _, rfl⟩ := e2
      obtain ⟨b, off, rfl, hbl2, q0, _, _⟩ := hr k hkl
      have HP := T1.out.put (.int .i64 i) (.int .i64 et)
      obtain ⟨c0, c1, c2, c3, z0, z1, zf⟩ := T1.out.cells
      simp only at c0 q0 HP
      rw [HE.out] at q0
      clear E1 hr T0 T1 H1 HE HB hh hnn hbl hb
      obtain ⟨e1, e2⟩ := HP.out
      clear HP
      go_wp2
      revert e1 e2
      generalize (World.setCell _ ⟨w.heap.size + 1, 1, none⟩ _) = W
      intro e1 e2
      exact bodyPost_ret (v := .tuple #[.agg #[.int .i64 i, .int .i64 et], .bool true]) (by simp [results, Try.results29, go_sem, cell_at e1]) rfl ⟨by rfl, e2⟩
/-- Whether a log may be. -/
def chkI (L : LogV) : Int := if mayB L then 0 else 80
set_option maxHeartbeats 4000000 in
theorem check_is (L : LogV) (g : Value) (w : World) (h : EGot w g L.l) : Calls Try.prog 13 #[logV L g] w fun e w' => e = .returned (.int .i64 (chkI L)) ∧ Below w.heap.size w w' := by
  have H1 := hideIt (mayBe_is L g _ (h.keep (below1 w (.cells (logA L g) 26))))
  have HB := hideIt (below1 w (.cells (logA L g) 26))
  obtain ⟨a, c, rfl, _⟩ := h.open
  unfold chkI
  unfold logV logA at *
  obtain ⟨bi, bt, l, cm⟩ := L
  simp only at H1 HB ⊢
  clear h
  cases hb : mayB ⟨bi, bt, l, cm⟩
  · rw [hb] at H1
    simp only [Bool.false_eq_true, if_false]
    go_enter Try.func13, Try.ntmps13
    go_wp2_with fail
    refine H1.out.mono ?_
    rintro e w1 ⟨rfl, hbl⟩
    dsimp only
    have HB2 := hideIt (below_via HB.out hbl)
    clear hbl
    go_wp2
    go_ret
    exact ⟨rfl, HB2.out⟩
  · rw [hb] at H1
    simp only [if_true]
    go_enter Try.func13, Try.ntmps13
    go_wp2_with fail
    refine H1.out.mono ?_
    rintro e w1 ⟨rfl, hbl⟩
    dsimp only
    have HB2 := hideIt (below_via HB.out hbl)
    clear hbl
    go_wp2
    go_ret
    exact ⟨rfl, HB2.out⟩
def termL (L : LogV) (i : Int) : Int × Bool := if mayB L then ((markL L i).1.2, (markL L i).2) else (0, false)
set_option maxHeartbeats 4000000 in
theorem termAt_is (L : LogV) (g : Value) (i : Int) (w : World) (h : EGot w g L.l) : Calls Try.prog 10 #[logV L g, .int .i64 i] w fun e w' => e = .returned (.tuple #[.int .i64 (termL L i).1, .bool (termL L i).2]) ∧ Below w.heap.size w w' := by
  have H1 := hideIt (mayBe_is L g _ (h.keep (below1 w (.cells (logA L g) 26))))
  have HI := hideIt (Box.first w L g)
  have H2 := hideIt (fun wx (hx : Below w.heap.size w wx) (hm : mayB L = true) => markAt_is L g i wx (h.keep hx) (near_may hm))
  obtain ⟨a, c, rfl, _⟩ := h.open
  unfold termL
  unfold logV logA MarkBack at *
  generalize markL L i = mk at *
  obtain ⟨⟨mi, mt⟩, mo⟩ := mk
  obtain ⟨bi, bt, l, cm⟩ := L
  simp only at H1 H2 HI ⊢
  clear h
  cases hb : mayB ⟨bi, bt, l, cm⟩
  · rw [hb] at H1
    simp only [Bool.false_eq_true, if_false]
    go_enter Try.func10, Try.ntmps10
    go_wp2_with fail
    refine H1.out.mono ?_
    rintro e w1 ⟨rfl, hbl⟩
    dsimp only
    have HB2 := hideIt (below_via HI.out.bel hbl)
    clear hbl H2
    go_wp2
    exact bodyPost_ret (v := .tuple #[.int .i64 0, .bool false]) (by simp [results, Try.results10, go_sem]) rfl ⟨rfl, HB2.out⟩
  · rw [hb] at H1
    simp only [if_true]
    have H3 := hideIt (fun wx hx => H2.out wx hx hb)
    clear H2 hb
    go_enter Try.func10, Try.ntmps10
    go_wp2_with fail
    refine H1.out.mono ?_
    rintro e w1 ⟨rfl, hbl⟩
    dsimp only
    have HI1 := hideIt (HI.out.keep hbl)
    obtain ⟨c0, c1, c2, c3⟩ := HI1.out.cells
    clear hbl HI
    simp only at c0 c1 c2 c3
    go_wp2_with fail
    refine (H3.out _ HI1.out.bel).mono ?_
    rintro e w2 ⟨rfl, hbl⟩
    dsimp only
    have HB2 := hideIt (below_via (below_via HI1.out.bel hbl) (below1 w2 (.cells #[.int .i64 mi, .int .i64 mt] 23)))
    clear hbl c0 c1 c2 c3 H3
    go_wp2
    exact bodyPost_ret (v := .tuple #[.int .i64 mt, .bool mo]) (by simp [results, Try.results10, go_sem]) rfl ⟨rfl, HB2.out⟩
end Go.Proofs.Ytonhoopmhkomcaa
