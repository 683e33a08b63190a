/- The document's own: a copy of a log, two logs that are the same, what stands behind an index. -/
import Derived.Test.YtonhoopmhkomcaaRCheck
import Derived.Test.YtonhoopmhkomcaaFrom
namespace Go.Proofs.Ytonhoopmhkomcaa
open Go.RowKit
theorem eqE_refl (e : EntV) : eqE e e = true := by simp [eqE]
theorem neq39r (t k : Int) (x : ByteArray) (w : World) : (binOp .neq 40 (.agg #[.int .i64 t, .int .i64 k, .string x]) (.agg #[.int .i64 t, .int .i64 k, .string x])).run Try.prog w = .ok (.bool false) w := by
  rw [neq39, eqE_refl]
  rfl
set_option maxHeartbeats 8000000 in
set_option maxRecDepth 100000 in
theorem sameEnts_is (g k : Value) (l : List EntV) (w : World) (hg : EGot w g l) (hk : EGot w k l) : Calls Try.prog 17 #[g, k] w fun e w' => e = .returned (.bool true) ∧ Below w.heap.size w w' := by
  obtain ⟨a, c, rfl, h8, ha⟩ := hg.open
  obtain ⟨a', c', rfl, _, hb⟩ := hk.open
  have HA := hideIt ha
  have HK := hideIt hb
  have hl : ((l.length : Int) != (l.length : Int)) = false := by simp
  clear hg hk ha hb
  go_enter Try.func17, Try.ntmps17
  go_wp2
  go_loopw [5] (fun i wr => ∃ j : Nat, j ≤ l.length ∧ i = .int .i64 j ∧ Hid (Below w.heap.size w wr)) (fun i _ => l.length - (intOf i).toNat)
  case atStart => exact ⟨0, Nat.zero_le _, rfl, hideIt (Below.refl _ _)⟩
  case round =>
    obtain ⟨j, hj, rfl, HW⟩ := hrel
    by_cases hlt : j < l.length
    · obtain ⟨b1, o1, rfl, l1, p0, p1, p2⟩ := HA.out j hlt
      obtain ⟨b2, o2, rfl, l2, q0, q1, q2⟩ := HK.out j hlt
      have x0 := (HW.out.cell (p := ⟨b1, o1 + j * 3, none⟩) l1).trans p0
      have x1 := (HW.out.cell (p := ⟨b1, o1 + j * 3 + 1, none⟩) l1).trans p1
      have x2 := (HW.out.cell (p := ⟨b1, o1 + j * 3 + 2, none⟩) l1).trans p2
      have y0 := (HW.out.cell (p := ⟨b2, o2 + j * 3, none⟩) l2).trans q0
      have y1 := (HW.out.cell (p := ⟨b2, o2 + j * 3 + 1, none⟩) l2).trans q1
      have y2 := (HW.out.cell (p := ⟨b2, o2 + j * 3 + 2, none⟩) l2).trans q2
      have hlt' : (j : Int) < l.length := by omega
      have hj0 : (0 : Int) ≤ j := by omega
      clear p0 p1 p2 q0 q1 q2
      generalize l[j] = en at *
      obtain ⟨et, ek, ex⟩ := en
      simp only at x0 x1 x2 y0 y1 y2
      have n1 := neq39r et ek ex
      go_upto_region 6 with fail
      refine wp_region_held_drew (S := fun w' => w'.cell? ⟨b1, o1 + j * 3, none⟩ = some (.int .i64 et) ∧ w'.cell? ⟨b1, o1 + j * 3 + 1, none⟩ = some (.int .i64 ek) ∧ w'.cell? ⟨b1, o1 + j * 3 + 2, none⟩ = some (.string ex) ∧ w'.cell? ⟨b2, o2 + j * 3, none⟩ = some (.int .i64 et) ∧ w'.cell? ⟨b2, o2 + j * 3 + 1, none⟩ = some (.int .i64 ek) ∧ w'.cell? ⟨b2, o2 + j * 3 + 2, none⟩ = some (.string ex)) (by kernel_rfl) ⟨x0, x1, x2, y0, y1, y2⟩ (fun hHeld => ?_)
      refine wpAnyH_take (i := 0) (oi := ⟨some 17, _, _, _, _, _⟩) (v := ?_) rfl (by kernel_rfl) (by kernel_rfl) (by kernel_rfl) (fun _ _ _ h => h) (Or.inl ⟨by rfl, ?_⟩) (by assumption) ?_
      rotate_left
      · intro w5 hSw
        (try dsimp only at hSw)
        go_simp
        (try with_reducible rfl)
      try simp only [Act.put, List.setIfInBounds_toArray, List.set_cons_zero, List.set_cons_succ]
      refine wpAnyH_take (i := 1) (oi := ⟨some 18, _, _, _, _, _⟩) (v := ?_) rfl (by kernel_rfl) (by kernel_rfl) (by kernel_rfl) (fun _ _ _ h => h) (Or.inl ⟨by rfl, ?_⟩) (by assumption) ?_
      rotate_left
      · intro w5 hSw
        (try dsimp only at hSw)
        go_simp
        (try with_reducible rfl)
      try simp only [Act.put, List.setIfInBounds_toArray, List.set_cons_zero, List.set_cons_succ]
      refine wpAnyH_take (i := 2) (oi := ⟨some 19, _, _, _, _, _⟩) (v := ?_) rfl (by kernel_rfl) (by kernel_rfl) (by kernel_rfl) (fun _ _ _ h => h) (Or.inl ⟨by rfl, ?_⟩) (by assumption) ?_
      rotate_left
      · intro w5 hSw
        (try dsimp only at hSw)
        go_simp
        (try with_reducible rfl)
      try simp only [Act.put, List.setIfInBounds_toArray, List.set_cons_zero, List.set_cons_succ]
      refine wpAnyH_take (i := 3) (oi := ⟨some 20, _, _, _, _, _⟩) (v := ?_) rfl (by kernel_rfl) (by kernel_rfl) (by kernel_rfl) (fun _ _ _ h => h) (Or.inl ⟨by rfl, ?_⟩) (by assumption) ?_
      rotate_left
      · intro w5 hSw
        (try dsimp only at hSw)
        go_simp
        (try with_reducible rfl)
      try simp only [Act.put, List.setIfInBounds_toArray, List.set_cons_zero, List.set_cons_succ]
      refine wpAnyH_take (i := 4) (oi := ⟨some 21, _, _, _, _, _⟩) (v := ?_) rfl (by kernel_rfl) (by kernel_rfl) (by kernel_rfl) (fun _ _ _ h => h) (Or.inl ⟨by rfl, ?_⟩) (by assumption) ?_
      rotate_left
      · intro w5 hSw
        (try dsimp only at hSw)
        go_simp
        (try with_reducible rfl)
      try simp only [Act.put, List.setIfInBounds_toArray, List.set_cons_zero, List.set_cons_succ]
      refine wpAnyH_take (i := 5) (oi := ⟨some 22, _, _, _, _, _⟩) (v := ?_) rfl (by kernel_rfl) (by kernel_rfl) (by kernel_rfl) (fun _ _ _ h => h) (Or.inl ⟨by rfl, ?_⟩) (by assumption) ?_
      rotate_left
      · intro w5 hSw
        (try dsimp only at hSw)
        go_simp
        (try with_reducible rfl)
      try simp only [Act.put, List.setIfInBounds_toArray, List.set_cons_zero, List.set_cons_succ]
      refine wpAnyH_take (i := 6) (oi := ⟨some 23, _, _, _, _, _⟩) (v := ?_) rfl (by kernel_rfl) (by kernel_rfl) (by kernel_rfl) (fun _ _ _ h => h) (Or.inl ⟨by rfl, ?_⟩) (by assumption) ?_
      rotate_left
      · intro w5 hSw
        (try dsimp only at hSw)
        go_simp
        (try with_reducible rfl)
      try simp only [Act.put, List.setIfInBounds_toArray, List.set_cons_zero, List.set_cons_succ]
      refine wpAnyH_take (i := 7) (oi := ⟨some 24, _, _, _, _, _⟩) (v := ?_) rfl (by kernel_rfl) (by kernel_rfl) (by kernel_rfl) (fun _ _ _ h => h) (Or.inl ⟨by rfl, ?_⟩) (by assumption) ?_
      rotate_left
      · intro w5 hSw
        (try dsimp only at hSw)
        go_simp
        (try with_reducible rfl)
      try simp only [Act.put, List.setIfInBounds_toArray, List.set_cons_zero, List.set_cons_succ]
      refine wpAnyH_take (i := 8) (oi := ⟨some 25, _, _, _, _, _⟩) (v := ?_) rfl (by kernel_rfl) (by kernel_rfl) (by kernel_rfl) (fun _ _ _ h => h) (Or.inl ⟨by rfl, ?_⟩) (by assumption) ?_
      rotate_left
      · intro w5 hSw
        (try dsimp only at hSw)
        go_simp
        (try with_reducible rfl)
      try simp only [Act.put, List.setIfInBounds_toArray, List.set_cons_zero, List.set_cons_succ]
      refine wpAnyH_done (by kernel_rfl) ?_ _
      clear n1 x0 x1 x2 y0 y1 y2 hHeld
      go_wp2
      go_roundw
      case rel => exact ⟨j + 1, by omega, by go_num, hideIt HW.out.drew⟩
      case measure => simp [intOf]; omega
    · have hlt' : ¬ (j : Int) < l.length := by omega
      go_wp2
      go_ret
      exact ⟨rfl, HW.out⟩
theorem eq23r (a b : Int) (w : World) : (binOp .eql 23 (.agg #[.int .i64 a, .int .i64 b]) (.agg #[.int .i64 a, .int .i64 b])).run Try.prog w = .ok (.bool true) w := by
  rw [eq23]
  simp
set_option maxHeartbeats 8000000 in
set_option maxRecDepth 100000 in
theorem same_is (L : LogV) (g k : Value) (w : World) (hg : EGot w g L.l) (hk : EGot w k L.l) : Calls Try.prog 20 #[logV L g, logV L k] w fun e w' => e = .returned (.bool true) ∧ Below w.heap.size w w' := by
  obtain ⟨bi, bt, l, cm⟩ := L
  simp only at hg hk
  have HB := hideIt (below2 w (.cells #[.int .i64 bi, .int .i64 bt, g, .int .i64 cm] 26) (.cells #[.int .i64 bi, .int .i64 bt, k, .int .i64 cm] 26))
  have H1 := hideIt (sameEnts_is g k l _ (hg.keep HB.out) (hk.keep HB.out))
  obtain ⟨a, c, rfl⟩ := hg.slice
  obtain ⟨a', c', rfl⟩ := hk.slice
  have n1 := eq23r bi bt
  clear hg hk
  unfold logV logA
  simp only
  go_enter Try.func20, Try.ntmps20
  go_wp2_with fail
  refine H1.out.mono ?_
  rintro e w1 ⟨rfl, hbl⟩
  dsimp only
  have HB2 := hideIt (below_via HB.out hbl)
  clear hbl
  go_wp2
  go_ret
  exact ⟨rfl, HB2.out⟩
/-- Four values are laid into the result's block. -/
theorem fin4 {w wx : World} {R : Nat} {ty : TypeId} (v0 v1 v2 v3 : Value) {z0 z1 z2 z3 : Value} (hz : wx.heap[R]? = some (.cells #[z0, z1, z2, z3] ty (0, 0))) (hR : w.heap.size ≤ R) (hb : Below w.heap.size w wx) :
    Hid (((((wx.setCell ⟨R, 0, none⟩ v0).setCell ⟨R, 1, none⟩ v1).setCell ⟨R, 2, none⟩ v2).setCell ⟨R, 3, none⟩ v3).heap[R]? = some (.cells #[v0, v1, v2, v3] ty (0, 0)) ∧ Below w.heap.size w ((((wx.setCell ⟨R, 0, none⟩ v0).setCell ⟨R, 1, none⟩ v1).setCell ⟨R, 2, none⟩ v2).setCell ⟨R, 3, none⟩ v3)) :=
  ⟨put4 _ _ ty _ _ _ _ hz, belowSet _ (belowSet _ (belowSet _ (belowSet _ hb hR) hR) hR) hR⟩
theorem own4 {wx : World} {R B n : Nat} {e : TypeId} {z : Nat} {g : Value} {xs : List Value} (v0 v1 v2 v3 : Value) (ho : wx.ownsRow B e z g n xs) (hR : R < B) (B' : Nat) (hB : B' ≤ B) :
    Hid (((((wx.setCell ⟨R, 0, none⟩ v0).setCell ⟨R, 1, none⟩ v1).setCell ⟨R, 2, none⟩ v2).setCell ⟨R, 3, none⟩ v3).ownsRow B' e z g n xs) :=
  own_base (ownSet _ (ownSet _ (ownSet _ (ownSet _ ho hR) hR) hR) hR) hB
/-- A log comes back. -/
def LogBack (L : LogV) (w : World) (e : Ending) (w' : World) : Prop := ∃ g, e = .returned (logV L g) ∧ w'.ownsRow w.heap.size 40 3 g L.l.length (entC L.l) ∧ Below w.heap.size w w'
set_option maxHeartbeats 4000000 in
set_option maxRecDepth 100000 in
theorem copy_is (L : LogV) (g : Value) (w : World) (h : EGot w g L.l) : Calls Try.prog 9 #[logV L g] w (LogBack L w) := by
  obtain ⟨t, v, l, r⟩ := L
  simp only at h
  have hB3 := below3 w (.cells #[.int .i64 t, .int .i64 v, g, .int .i64 r] 26) (.cells #[.int .i64 0, .int .i64 0, .slice none 0 0, .int .i64 0] 26) (.cells #[.int .i64 t, .int .i64 v, .slice none 0 0, .int .i64 r] 26)
  have hH3 := three_heap w (.cells #[.int .i64 t, .int .i64 v, g, .int .i64 r] 26) (.cells #[.int .i64 0, .int .i64 0, .slice none 0 0, .int .i64 0] 26) (.cells #[.int .i64 t, .int .i64 v, .slice none 0 0, .int .i64 r] 26)
  obtain ⟨v', w', hrun, how, hgr⟩ := run_app (((w.alloc (.cells #[.int .i64 t, .int .i64 v, g, .int .i64 r] 26)).alloc (.cells #[.int .i64 0, .int .i64 0, .slice none 0 0, .int .i64 0] 26)).alloc (.cells #[.int .i64 t, .int .i64 v, .slice none 0 0, .int .i64 r] 26)) 24 (w.heap.size + 3) (.slice none 0 0) [] l g (by rw [hH3.2.2.2]; omega) ⟨rfl, .inl ⟨rfl, rfl⟩⟩ (h.keep hB3) (by have := h.1; simpa using this)
  have hb := grown_none hgr
  have HRUN := hideIt hrun
  rw [List.nil_append] at how
  have HO := hideIt how
  have hbs : ((((w.alloc (.cells #[.int .i64 t, .int .i64 v, g, .int .i64 r] 26)).alloc (.cells #[.int .i64 0, .int .i64 0, .slice none 0 0, .int .i64 0] 26)).alloc (.cells #[.int .i64 t, .int .i64 v, .slice none 0 0, .int .i64 r] 26))).heap.size = w.heap.size + 3 := hH3.2.2.2
  have E1 := hideIt ((hb.block _ (by rw [hbs]; omega)).trans hH3.2.1)
  have E2 : Hid (w'.heap[w.heap.size + 1 + 1]? = some (.cells #[.int .i64 t, .int .i64 v, .slice none 0 0, .int .i64 r] 26 (0, 0))) := (hb.block _ (by rw [hbs]; omega)).trans hH3.2.2.1
  have HB := hideIt (below_via hB3 hb)
  obtain ⟨a2, cc, rfl⟩ := own_len how
  obtain ⟨ga, gc, rfl⟩ := h.slice
  clear hrun how hgr hb hbs hB3 hH3 h
  have ec0 : w'.cell? ⟨w.heap.size + 1 + 1, 0, none⟩ = some (.int .i64 t) := by rw [cell_at E2.out]; rfl
  have ec1 : w'.cell? ⟨w.heap.size + 1 + 1, 1, none⟩ = some (.int .i64 v) := by rw [cell_at E2.out]; rfl
  have ec2 : w'.cell? ⟨w.heap.size + 1 + 1, 2, none⟩ = some (.slice none 0 0) := by rw [cell_at E2.out]; rfl
  have ec3 : w'.cell? ⟨w.heap.size + 1 + 1, 3, none⟩ = some (.int .i64 r) := by rw [cell_at E2.out]; rfl
  have ef : ∀ j, w'.frozen? ⟨w.heap.size + 1 + 1, j, none⟩ = false := fun j => free_at E2.out j
  have zc0 : w'.cell? ⟨w.heap.size + 1, 0, none⟩ = some (.int .i64 0) := by rw [cell_at E1.out]; rfl
  have zc1 : w'.cell? ⟨w.heap.size + 1, 1, none⟩ = some (.int .i64 0) := by rw [cell_at E1.out]; rfl
  have zc2 : w'.cell? ⟨w.heap.size + 1, 2, none⟩ = some (.slice none 0 0) := by rw [cell_at E1.out]; rfl
  have zc3 : w'.cell? ⟨w.heap.size + 1, 3, none⟩ = some (.int .i64 0) := by rw [cell_at E1.out]; rfl
  have zf : ∀ j, w'.frozen? ⟨w.heap.size + 1, j, none⟩ = false := fun j => free_at E1.out j
  unfold logV logA
  simp only
  go_enter Try.func9, Try.ntmps9
  go_wp2_with (at_builtin; refine wpList_append_run _ rfl _ _ rfl rfl rfl rfl HRUN.out ?_)
  have HF := fin4 (w := w) (wx := w'.setCell ⟨w.heap.size + 1 + 1, 2, none⟩ (.slice a2 l.length cc)) (R := w.heap.size + 1) (.int .i64 t) (.int .i64 v) (.slice a2 l.length cc) (.int .i64 r) (setOther _ E1.out (by omega)) (by omega) (belowSet _ HB.out (by omega))
  have HG := own4 (R := w.heap.size + 1) (.int .i64 t) (.int .i64 v) (.slice a2 l.length cc) (.int .i64 r) (ownSet (b := w.heap.size + 1 + 1) (j := 2) (.slice a2 l.length cc) HO.out (by omega)) (by omega) w.heap.size (by omega)
  clear E1 E2 HB HO HRUN
  go_wp2
  obtain ⟨e1, e2⟩ := HF.out
  have e3 := HG.out
  revert e1 e2 e3
  generalize (World.setCell _ ⟨w.heap.size + 1, 3, none⟩ _) = W
  intro e1 e2 e3
  exact bodyPost_ret (v := logV ⟨t, v, l, r⟩ (.slice a2 l.length cc)) (by simp [results, Try.results9, go_sem, cell_at e1, logV, logA]) rfl ⟨_, rfl, e3, e2⟩
end Go.Proofs.Ytonhoopmhkomcaa
