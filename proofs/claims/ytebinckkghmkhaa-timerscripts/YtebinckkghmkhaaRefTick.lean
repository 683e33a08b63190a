/- What the document's own wheel answers at a tick. -/
import Derived.Test.YtebinckkghmkhaaRef
namespace Go.Proofs.Ytebinckkghmkhaa
open Go.RowKit

def leftUp (S : Wh) (t k : Nat) : Nat := if k < t then S.left k - 1 else S.left k
theorem leftUp_zero (S : Wh) : leftUp S 0 = S.left := by funext k; simp [leftUp]
theorem leftUp_at (S : Wh) (t : Nat) : leftUp S t t = S.left t := by simp [leftUp]
theorem leftUp_yes (S : Wh) (t : Nat) : put (leftUp S t) t (S.left t - 1) = leftUp S (t + 1) := by
  funext k
  unfold put leftUp
  by_cases e : k = t
  · subst e; simp
  · have : (k < t + 1) = (k < t) := by simp; omega
    simp [e, this]
theorem leftUp_no (S : Wh) (t : Nat) (h : S.left t = 0) : leftUp S (t + 1) = leftUp S t := by
  funext k
  unfold leftUp
  by_cases e : k = t
  · subst e; simp [h]
  · have : (k < t + 1) = (k < t) := by simp; omega
    simp [this]
def RTickIs (w : World) (F : Nat → Prop) (q : Nat) (S : Wh) (e : Ending) (w' : World) : Prop :=
  ∃ r, e = .returned (sval (dueL S) r) ∧ SRow w' (dueL S) r ∧ (∀ g c, r = some (g, c) → w.heap.size ≤ g) ∧ RefAt w' F q (tickS S) ∧ Out F w w'
set_option maxHeartbeats 4000000 in
set_option maxRecDepth 100000 in
theorem refTick_is {w : World} {F : Nat → Prop} {q : Nat} {S : Wh} (h : RefAt w F q S) (hkey : ∀ k, S.left k ≠ 0 → k < S.keys) (hN : S.now < 1000000000) :
    Calls Try.prog 16 #[.pointer (some ⟨q, 0, none⟩)] w (RTickIs w F q S) := by
  have hsm := h.small
  obtain ⟨g, cur, hm, r1, r2, r3⟩ := h
  have hqF := hm.inq
  have hgF := hm.ing
  have HKEY := hideIt hkey
  have HR3 := hideIt r3
  obtain ⟨K, hKK⟩ : ∃ K, S.keys = K := ⟨_, rfl⟩
  have HM0 : Hid (∃ cur, RefMem w F q g K S.now (leftUp S 0) cur) := ⟨cur, by rw [leftUp_zero, ← hKK]; exact hm⟩
  rw [hKK] at r1 r2
  have HKK := hideIt hKK
  clear hm hkey r3 hKK
  go_enter Try.func16, Try.ntmps16
  go_wp2
  go_loopw [3, 4] (fun v3 v4 wr => ∃ (t : Nat) (r : Option (Nat × Nat)), t ≤ K ∧ v4 = .int .i64 t ∧ v3 = sval (dueT S t) r ∧ Hid (SRow wr (dueT S t) r ∧ (∀ g c, r = some (g, c) → w.heap.size ≤ g) ∧ (∃ cur, RefMem wr F q g K S.now (leftUp S t) cur) ∧ Out F w wr)) (fun _ v4 _ => K - (intOf v4).toNat)
  case atStart => exact ⟨0, none, Nat.zero_le _, rfl, rfl, hideIt ⟨rfl, fun _ _ e => (by cases e), HM0.out, Out.refl _ _⟩⟩
  case round =>
    clear HM0
    obtain ⟨t, r, ht, rfl, rfl, HR⟩ := hrel
    obtain ⟨hrow, hfresh, ⟨cur', hm⟩, ho⟩ := HR.out
    have hszr := ho.size
    have c0 : wr.cell? ⟨q, 0, none⟩ = some (.slice (some ⟨g, 0, none⟩) K K) := by rw [cell_at hm.cells]; rfl
    by_cases hlt : t < K
    · have ht0 : (0 : Int) ≤ (t : Int) := by omega
      have ht1 : (t : Int) < (K : Int) := by omega
      have ct : wr.cell? ⟨g, t, none⟩ = some (.int .i64 (S.left t : Int)) := by rw [cell_at hm.row, hm.at' t hlt, leftUp_at]
      have ft : wr.frozen? ⟨g, t, none⟩ = false := free_at hm.row _
      have hst := dueT_succ S t
      have hln := dueT_len S t
      have hl3 := HR3.out t
      by_cases h1 : S.left t = 1
      · rw [if_pos h1] at hst
        obtain ⟨W4, hW4⟩ : ∃ W4, W4 = wr.alloc (.cells #[.int .i64 (t : Int)] 3) := ⟨_, rfl⟩
        have r4 : SRow W4 (dueT S t) r := hrow.keep (fun g c e => by
          subst e
          rw [hW4]
          exact Lib.alloc_old wr _ g (IRow.lt hrow))
        have b4 : W4.cell? ⟨wr.heap.size, 0, none⟩ = some (iv t) := by rw [hW4]; exact cell_at (heap_alloc_new wr _) 0
        obtain ⟨g', cap', W5, hrun, hrow5, ho5, hg5⟩ := run_append_S W4 36 r (dueT S t) r4 wr.heap.size 1 t b4 (by omega)
        have o45 : Out (fun i => ∃ c, r = some (i, c)) wr W5 := by
          refine Out.trans ?_ ho5 (fun _ _ h => h)
          rw [hW4]
          exact Out.ofAlloc _ _
        have hm5 : RefMem W5 F q g K S.now (leftUp S t) cur' := hm.keep o45.size (fun i hi hl => o45.block i hl (fun ⟨c, e⟩ => by have := hfresh i c e; have := hsm i hi; omega))
        have d0 : W5.cell? ⟨q, 0, none⟩ = some (.slice (some ⟨g, 0, none⟩) K K) := by rw [cell_at hm5.cells]; rfl
        have dt : W5.cell? ⟨g, t, none⟩ = some (.int .i64 1) := by rw [cell_at hm5.row, hm5.at' t hlt, leftUp_at, h1]; rfl
        have f5 : W5.frozen? ⟨g, t, none⟩ = false := free_at hm5.row _
        have hm6 := hm5.setLeft t (S.left t - 1) hlt
        rw [leftUp_yes, h1] at hm6
        have hgs := hsm g hgF
        have hrow6 : SRow (W5.setCell ⟨g, t, none⟩ (.int .i64 ((1 - 1 : Nat) : Int))) (dueT S (t + 1)) (some (g', cap')) := by
          rw [hst]
          refine IRow.keep hrow5 (heap_set_other _ _ _ _ _ ?_)
          rcases hg5 with ⟨c, e⟩ | e
          · have := hfresh g' c e; omega
          · rw [hW4] at e; simp at e; omega
        have o6 : Out F w (W5.setCell ⟨g, t, none⟩ (.int .i64 ((1 - 1 : Nat) : Int))) :=
          (ho.trans o45 (fun i hi ⟨c, e⟩ => by have := hfresh i c e; omega)).trans (Out.ofSet (F := F) _ _ _ hgF) (fun _ _ h => h)
        have hfr6 : ∀ g c, some (g', cap') = some (g, c) → w.heap.size ≤ g := by
          intro g c e
          cases e
          rcases hg5 with ⟨c, e⟩ | e
          · exact hfresh g' c e
          · rw [hW4] at e; simp at e; omega
        rw [hW4] at hrun
        have HR6 := hideIt (And.intro hrow6 (And.intro hfr6 (And.intro (Exists.intro _ hm6) o6)))
        have hv : sval (dueT S t ++ [t]) (some (g', cap')) = sval (dueT S (t + 1)) (some (g', cap')) := by rw [hst]
        rw [hv] at hrun
        have HRUN := hideIt hrun
        rw [h1, show ((1 : Nat) : Int) = 1 from rfl] at ct
        clear hrow hfresh hm ho HR hm5 hm6 hrow6 o6 hfr6 o45 ho5 hg5 hrow5 r4 b4 hW4 hrun hst hv h1 hl3
        generalize sval (dueT S t) r = v0 at *
        generalize hv1 : sval (dueT S (t + 1)) (some (g', cap')) = v1 at *
        have HV := hideIt hv1
        clear hv1
        go_wp2_with (at_builtin; refine wpList_append_run _ rfl _ _ rfl rfl rfl rfl HRUN.out ?_)
        go_roundw
        case rel => exact ⟨t + 1, some (g', cap'), by omega, by go_num, HV.out.symm, HR6⟩
        case measure => simp [intOf]; omega
      · rw [if_neg h1, List.append_nil] at hst
        have h1b : ((S.left t : Int) == 1) = false := beq_eq_false_iff_ne.2 (by omega)
        by_cases h0 : S.left t = 0
        · have hno := leftUp_no S t h0
          have HR6 : Hid (SRow wr (dueT S (t + 1)) r ∧ (∀ g c, r = some (g, c) → w.heap.size ≤ g) ∧ (∃ cur, RefMem wr F q g K S.now (leftUp S (t + 1)) cur) ∧ Out F w wr) := by
            rw [hst, hno]; exact ⟨hrow, hfresh, ⟨cur', hm⟩, ho⟩
          rw [h0, show ((0 : Nat) : Int) = 0 from rfl] at ct
          generalize hv0 : sval (dueT S t) r = v0 at *
          rw [← hst] at hv0
          have HV := hideIt hv0
          clear hrow hfresh hm ho hst hno HR hv0 h1 h1b h0 hl3
          go_wp2
          go_roundw
          case rel => exact ⟨t + 1, r, by omega, by go_num, HV.out.symm, HR6⟩
          case measure => simp [intOf]; omega
        · have hm6 := hm.setLeft t (S.left t - 1) hlt
          rw [leftUp_yes] at hm6
          have hgs := hsm g hgF
          have hrow6 : SRow (wr.setCell ⟨g, t, none⟩ (.int .i64 ((S.left t - 1 : Nat) : Int))) (dueT S (t + 1)) r := by
            rw [hst]
            refine hrow.keep (fun g2 c e => heap_set_other _ _ _ _ _ ?_)
            have := hfresh g2 c e
            omega
          have o6 : Out F w (wr.setCell ⟨g, t, none⟩ (.int .i64 ((S.left t - 1 : Nat) : Int))) := ho.trans (Out.ofSet (F := F) _ _ _ hgF) (fun _ _ h => h)
          have e1 : ((S.left t - 1 : Nat) : Int) = (S.left t : Int) - 1 := by omega
          rw [e1] at hrow6 hm6 o6
          have HR6 := hideIt (And.intro hrow6 (And.intro hfresh (And.intro (Exists.intro _ hm6) o6)))
          have hpos : (0 : Int) < (S.left t : Int) := by omega
          generalize hv0 : sval (dueT S t) r = v0 at *
          rw [← hst] at hv0
          have HV := hideIt hv0
          generalize S.left t = x at *
          clear hrow hfresh hm ho hst HR hv0 hm6 hrow6 o6 e1 h1 h0
          go_wp2
          go_roundw
          case rel => exact ⟨t + 1, r, by omega, by go_num, HV.out.symm, HR6⟩
          case measure => simp [intOf]; omega
    · have e : t = K := by omega
      subst e
      have c1 : wr.cell? ⟨q, 1, none⟩ = some (.int .i64 (S.now : Int)) := by rw [cell_at hm.cells]; rfl
      have f1 : wr.frozen? ⟨q, 1, none⟩ = false := free_at hm.cells _
      have hm7 := hm.setNow (S.now + 1)
      have hqs := hsm q hqF
      have e1 : ((S.now + 1 : Nat) : Int) = (S.now : Int) + 1 := by omega
      have hlu : ∀ k, k < t → leftUp S t k = (tickS S).left k := fun k hk => by show leftUp S t k = S.left k - 1; unfold leftUp; rw [if_pos hk]
      have hw : RefAt (wr.setCell ⟨q, 1, none⟩ (.int .i64 ((S.now + 1 : Nat) : Int))) F q (tickS S) := by
        refine ⟨g, cur', ⟨?_, hm7.row, ?_, fun k hk => ?_, hm7.ne, hm7.inq, hm7.ing, hm7.small⟩, ?_, ?_, fun k => ?_⟩
        · have e2 : (tickS S).keys = t := HKK.out
          rw [e2]; exact hm7.cells
        · have e2 : (tickS S).keys = t := HKK.out
          rw [e2]; exact hm7.size
        · have e2 : (tickS S).keys = t := HKK.out
          rw [e2] at hk
          rw [← hlu k hk]
          exact hm7.at' k hk
        · show 1 ≤ S.keys; rw [HKK.out]; exact r1
        · show S.keys ≤ 100; rw [HKK.out]; exact r2
        · show S.left k - 1 ≤ 1000; have := HR3.out k; omega
      have o7 : Out F w (wr.setCell ⟨q, 1, none⟩ (.int .i64 ((S.now + 1 : Nat) : Int))) := ho.trans (Out.ofSet (F := F) _ _ _ hqF) (fun _ _ h => h)
      have hrow7 : SRow (wr.setCell ⟨q, 1, none⟩ (.int .i64 ((S.now + 1 : Nat) : Int))) (dueT S t) r := hrow.keep (fun g2 c e => heap_set_other _ _ _ _ _ (by have := hfresh g2 c e; omega))
      rw [e1] at hw o7 hrow7
      have HX := hideIt (And.intro hw (And.intro o7 (And.intro hrow7 hfresh)))
      generalize hv0 : sval (dueT S t) r = v0 at *
      have HV := hideIt hv0
      clear hm hm7 hw o7 hrow7 hrow hfresh ho HR hv0 hlu e1
      go_wp2
      go_ret
      have hdl : dueL S = dueT S t := by unfold dueL dueT; rw [HKK.out]
      obtain ⟨x1, x2, x3, x4⟩ := HX.out
      refine ⟨r, ?_, ?_, x4, x1, x2⟩
      · rw [hdl, HV.out]; rfl
      · rw [hdl]; exact x3
end Go.Proofs.Ytebinckkghmkhaa
