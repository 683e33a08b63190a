/- What a wheel's Tick answers and leaves. -/
import Derived.Test.YtebinckkghmkhaaSet
import Derived.Deep.CutRange
namespace Go.Proofs.Ytebinckkghmkhaa
open Go.RowKit

theorem wpList_append_run (w : World) {ops : Array Oper} {rest : List Oper} {o : Oper} {a : Act} {Q : Exit → Act → World → Prop} (hgd : o.guard = none) (sl x : Operand)
    (ho : o.op = .call { callee := .builtin .append, args := #[sl, x], argTypes := #[36, 36] }) {v1 v2 v' : Value} {w' : World} (hs : a.eval sl = v1) (hx : a.eval x = v2) (hty : o.type = 36)
    (hrun : (Builtin.append_ #[36, 36] 36 #[v1, v2]).run Try.prog w = .ok v' w') (h : wpList Try.prog ops Q rest (a.put o.dst v') w') : wpList Try.prog ops Q (o :: rest) a w := by
  refine wpList_plain hgd fun K hK => ?_
  unfold Oper.wp execOp
  simp only [ho, resolve, invoke, builtin, Sem.run_bind, Sem.run_pure, Result.andThen_ok, List.map_toArray, List.map_cons, List.map_nil, hs, hx, hty, hrun]
  exact hK _ _ h
def dueT (S : Wh) (t : Nat) : List Nat := (List.range t).filter (fun k => S.left k = 1)
theorem dueT_succ (S : Wh) (t : Nat) : dueT S (t + 1) = dueT S t ++ (if S.left t = 1 then [t] else []) := by
  unfold dueT
  rw [List.range_succ, List.filter_append]
  by_cases e : S.left t = 1 <;> simp [e]
theorem dueT_len (S : Wh) (t : Nat) : (dueT S t).length ≤ t := by
  have := List.length_filter_le (fun k => decide (S.left k = 1)) (List.range t)
  simpa [dueT] using this
def dueUp (S : Wh) (t k : Nat) : Nat := if k < t ∧ S.left k = 1 then 0 else dueOf S.now S.left k
theorem dueUp_zero (S : Wh) : dueUp S 0 = dueOf S.now S.left := by funext k; simp [dueUp]
theorem dueUp_yes (S : Wh) (t : Nat) (h : S.left t = 1) : put (dueUp S t) t 0 = dueUp S (t + 1) := by
  funext k
  unfold put dueUp
  by_cases e : k = t
  · subst e; simp [h]
  · have : (k < t + 1) = (k < t) := by simp; omega
    simp [e, this]
theorem dueUp_no (S : Wh) (t : Nat) (h : S.left t ≠ 1) : dueUp S (t + 1) = dueUp S t := by
  funext k
  unfold dueUp
  by_cases e : k = t
  · subst e; simp [h]
  · have : (k < t + 1) = (k < t) := by simp; omega
    simp [this]
theorem dueUp_end {S : Wh} {L : Nat → List Nat} (h : Good S L) : dueUp S S.keys = dueOf (tickS S).now (tickS S).left := by
  funext k
  rw [dueOf_tick]
  unfold dueUp
  by_cases e : S.left k = 1
  · have := h.key k (by omega)
    simp [e, this]
  · simp [e]
/-- What Tick answers: a list of its own. -/
def TickIs (w : World) (F : Nat → Prop) (p : Nat) (S : Wh) (e : Ending) (w' : World) : Prop :=
  ∃ r, e = .returned (sval (dueL S) r) ∧ SRow w' (dueL S) r ∧ (∀ g c, r = some (g, c) → w.heap.size ≤ g) ∧ WheelAt w' F p (tickS S) ∧ Out F w w'
set_option maxHeartbeats 4000000 in
set_option maxRecDepth 100000 in
theorem tick_is {w : World} {F : Nat → Prop} {p : Nat} {S : Wh} (h : WheelAt w F p S) (hN : S.now < 1000000000) :
    Calls Try.prog 14 #[.pointer (some ⟨p, 0, none⟩)] w (TickIs w F p S) := by
  have hsm := h.small
  obtain ⟨L, sb, cs, hm, hg⟩ := h
  have hpF := hm.inp
  have hp : p < w.heap.size := hsm p hpF
  have hK := hg.most
  have hdue := hg.due
  obtain ⟨K, hKK⟩ : ∃ K, S.keys = K := ⟨_, rfl⟩
  obtain ⟨t0, hT⟩ : ∃ t0, S.now = t0 := ⟨_, rfl⟩
  have ht0 : t0 < 1000000000 := by omega
  have c1 : w.cell? ⟨p, 1, none⟩ = some (.int .i64 (t0 : Int)) := by rw [cell_at hm.cells, ← hT]; exact hm.c1
  have f1 : w.frozen? ⟨p, 1, none⟩ = false := free_at hm.cells _
  obtain ⟨a, haa⟩ : ∃ a, (t0 + 1) % 1000 = a := ⟨_, rfl⟩
  have ha : a < 1000 := by omega
  have ha0 : (0 : Int) ≤ (a : Int) := by omega
  have ha1 : (a : Int) < 1000 := by omega
  have hm1 : Mem (w.setCell ⟨p, 1, none⟩ (.int .i64 ((t0 : Int) + 1))) F p K (t0 + 1) (dueUp S 0) L sb (cs.setIfInBounds 1 (.int .i64 ((t0 + 1 : Nat) : Int))) := by
    have := hm.setNow (t0 + 1)
    rw [hKK] at this
    rw [dueUp_zero]
    exact this
  have o1 : Out F w (w.setCell ⟨p, 1, none⟩ (.int .i64 ((t0 : Int) + 1))) := Out.ofSet _ _ _ hpF
  have hs1 : (w.setCell ⟨p, 1, none⟩ (.int .i64 ((t0 : Int) + 1))).heap.size = w.heap.size := by simp
  obtain ⟨W, hW⟩ : ∃ W, w.setCell ⟨p, 1, none⟩ (.int .i64 ((t0 : Int) + 1)) = W := ⟨_, rfl⟩
  obtain ⟨d, hd⟩ : ∃ d, t0 + 1 = d := ⟨_, rfl⟩
  have hd2 : d < 4611686018427387904 := by omega
  have HS := hideIt (fun W => slotOf_is d W hd2)
  rw [hW] at hm1 o1 hs1
  rw [hd] at haa hm1
  rw [haa] at HS
  have cW1 : W.cell? ⟨p, 1, none⟩ = some (.int .i64 (d : Int)) := by rw [cell_at hm1.cells]; exact hm1.c1
  have cW0 : W.cell? ⟨p, 0, none⟩ = some (.int .i64 (K : Int)) := by rw [cell_at hm1.cells]; exact hm1.c0
  have HM1 := hideIt hm1
  have HO1 := hideIt o1
  have HW := hideIt hW
  have HG := hideIt hg
  have HD := hideIt hdue
  have HT := hideIt hT
  have HDD := hideIt hd
  have HAA := hideIt haa
  have HKK := hideIt hKK
  clear hm hg hm1 o1 hW hdue hT hd haa hKK
  go_enter Try.func14, Try.ntmps14
  go_upto_region 2 with fail
  rw [HW.out]
  go_wp2_with fail
  refine (HS.out _).mono ?_
  rintro e w1 ⟨rfl, rfl⟩
  dsimp only
  go_wp2
  have hKb : K ≤ 100 := by have := HKK.out; omega
  clear hK
  go_loopw [4, 22] (fun v4 i wr => ∃ (t : Nat) (r : Option (Nat × Nat)), t ≤ K ∧ i = .int .i64 t ∧ v4 = sval (dueT S t) r ∧ Hid (SRow wr (dueT S t) r ∧ (∀ g c, r = some (g, c) → w.heap.size ≤ g) ∧ (∃ cs, Mem wr F p K d (dueUp S t) L sb cs) ∧ Out F w wr)) (fun _ i _ => K - (intOf i).toNat)
  case atStart => exact ⟨0, none, Nat.zero_le _, rfl, rfl, hideIt ⟨rfl, fun _ _ e => (by cases e), ⟨_, HM1.out⟩, HO1.out⟩⟩
  case round =>
    obtain ⟨t, r, ht, rfl, rfl, HR⟩ := hrel
    obtain ⟨hrow, hfresh, ⟨cs', hm⟩, ho⟩ := HR.out
    have hszr := ho.size
    by_cases hlt : t < K
    · have ht0' : (0 : Int) ≤ (t : Int) := by omega
      have ht1 : (t : Int) < 100 := by omega
      have ht2 : t < 100 := by omega
      have hla := HG.out.len a ha
      have cA : wr.cell? ⟨p, 2 + a, none⟩ = some (sval (L a) (sb a)) := by rw [cell_at hm.cells]; exact hm.cslot a ha
      have HC := hideIt (contains_any (hm.rows a ha) t (by omega))
      have hiff : t ∈ L a ↔ S.left t = 1 := by
        have := HD.out t
        rw [HT.out, HDD.out, HAA.out] at this
        exact this
      have hst := dueT_succ S t
      have hln := dueT_len S t
      by_cases h1 : S.left t = 1
      · rw [decide_eq_true (hiff.2 h1)] at HC
        rw [if_pos h1] at hst
        obtain ⟨W4, hW4⟩ : ∃ W4, W4 = wr.alloc (.cells #[.int .i64 (t : Int)] 3) := ⟨_, rfl⟩
        have r4 : SRow W4 (dueT S t) r := hrow.keep (fun g c e => by
          subst e
          rw [hW4]
          exact Lib.alloc_old wr _ g (IRow.lt hrow))
        have b4 : W4.cell? ⟨wr.heap.size, 0, none⟩ = some (iv t) := by rw [hW4]; exact cell_at (heap_alloc_new wr _) 0
        obtain ⟨g', cap', W5, hrun, hrow5, ho5, hg5⟩ := run_append_S W4 36 r (dueT S t) r4 wr.heap.size 1 t b4 (by omega)
        have o45 : Out (fun i => ∃ c, r = some (i, c)) wr W5 := by
          refine Out.trans ?_ ho5 (fun _ _ h => h)
          rw [hW4]
          exact Out.ofAlloc _ _
        have hm5 : Mem W5 F p K d (dueUp S t) L sb cs' := hm.keep o45.size (fun i hi hl => o45.block i hl (fun ⟨c, e⟩ => by have := hfresh i c e; have := hsm i hi; omega))
        have c5 : W5.cell? ⟨p, 1002 + t, none⟩ = some (.int .i64 (dueUp S t t : Int)) := by rw [cell_at hm5.cells]; exact hm5.cdue t ht2
        have f5 : W5.frozen? ⟨p, 1002 + t, none⟩ = false := free_at hm5.cells _
        have hm6 := hm5.setDue t 0 ht2
        rw [dueUp_yes S t h1] at hm6
        have hrow6 : SRow (W5.setCell ⟨p, 1002 + t, none⟩ (.int .i64 ((0 : Nat) : Int))) (dueT S (t + 1)) (some (g', cap')) := by
          rw [hst]
          refine IRow.keep hrow5 (heap_set_other _ _ _ _ _ ?_)
          rcases hg5 with ⟨c, e⟩ | e
          · have := hfresh g' c e; omega
          · rw [hW4] at e; simp at e; omega
        have o6 : Out F w (W5.setCell ⟨p, 1002 + t, none⟩ (.int .i64 ((0 : Nat) : Int))) :=
          (ho.trans o45 (fun i hi ⟨c, e⟩ => by have := hfresh i c e; omega)).trans (Out.ofSet (F := F) _ _ _ hpF) (fun _ _ h => h)
        have hfr6 : ∀ g c, some (g', cap') = some (g, c) → w.heap.size ≤ g := by
          intro g c e
          cases e
          rcases hg5 with ⟨c, e⟩ | e
          · exact hfresh g' c e
          · rw [hW4] at e; simp at e; omega
        rw [hW4] at hrun
        have HR6 := hideIt (And.intro hrow6 (And.intro hfr6 (And.intro (Exists.intro _ hm6) o6)))
        have hv : sval (dueT S t ++ [t]) (some (g', cap')) = sval (dueT S (t + 1)) (some (g', cap')) := by rw [hst]
        rw [hv] at hrun
        have HRUN := hideIt hrun
        generalize dueUp S t t = x5 at *
        generalize sval (L a) (sb a) = vA at *
        clear hrow hfresh hm ho HR hm5 hm6 hrow6 o6 hfr6 o45 ho5 hg5 hrow5 r4 b4 hW4 hrun hiff hst hv h1
        generalize sval (dueT S t) r = v0 at *
        generalize hv1 : sval (dueT S (t + 1)) (some (g', cap')) = v1 at *
        have HV := hideIt hv1
        clear hv1
        go_wp2_with fail
        refine HC.out.mono ?_
        rintro e w7 ⟨rfl, rfl⟩
        dsimp only
        go_wp2_with (at_builtin; refine wpList_append_run _ rfl _ _ rfl rfl rfl rfl HRUN.out ?_)
        go_roundw
        case rel => exact ⟨t + 1, some (g', cap'), by omega, by go_num, HV.out.symm, HR6⟩
        case measure => simp [intOf]; omega
      · rw [decide_eq_false (fun e => h1 (hiff.1 e))] at HC
        rw [if_neg h1, List.append_nil] at hst
        have hup := dueUp_no S t h1
        have HST := hideIt hst
        have HUP := hideIt hup
        generalize sval (L a) (sb a) = vA at *
        generalize hv0 : sval (dueT S t) r = v0 at *
        have HV := hideIt hv0
        clear hrow hfresh hm ho hiff hst hup hv0
        go_wp2_with fail
        refine HC.out.mono ?_
        rintro e w7 ⟨rfl, rfl⟩
        dsimp only
        go_wp2
        go_roundw
        case rel => exact ⟨t + 1, r, by omega, by go_num, by rw [HST.out]; exact HV.out.symm, hideIt (by rw [HST.out, HUP.out]; exact HR.out)⟩
        case measure => simp [intOf]; omega
    · have e : t = K := by omega
      subst e
      have cA : wr.cell? ⟨p, 2 + a, none⟩ = some (sval (L a) (sb a)) := by rw [cell_at hm.cells]; exact hm.cslot a ha
      have fA : wr.frozen? ⟨p, 2 + a, none⟩ = false := free_at hm.cells _
      generalize sval (L a) (sb a) = vA at *
      have HM := hideIt hm
      have HO := hideIt ho
      have HROW := hideIt hrow
      have HFR := hideIt hfresh
      generalize hv0 : sval (dueT S t) r = v0 at *
      have HV := hideIt hv0
      clear hm ho hrow hfresh HR hv0
      go_wp2
      go_ret
      have hm7 := HM.out.setSlot a ha [] none (Out.refl _ _) rfl (fun _ _ e => by cases e)
      have hg7 := HG.out.tick
      rw [HT.out, HDD.out, HAA.out] at hg7
      have hup := dueUp_end HG.out
      rw [HKK.out] at hup
      rw [hup] at hm7
      have o7 : Out F w (wr.setCell ⟨p, 2 + a, none⟩ (sval [] none)) := HO.out.trans (Out.ofSet (F := F) _ _ _ hpF) (fun _ _ h => h)
      have hdl : dueL S = dueT S t := by unfold dueL dueT; rw [HKK.out]
      have hm8 := hm7.wide (G := F) (fun i hi => by rcases hi with hi | ⟨c, e⟩; exact hi; cases e) (fun i hi => by have := hsm i hi; have := o7.size; omega)
      have e1 : (tickS S).keys = t := HKK.out
      have e2 : (tickS S).now = d := by show S.now + 1 = d; rw [HT.out]; exact HDD.out
      have hw : WheelAt (wr.setCell ⟨p, 2 + a, none⟩ (sval [] none)) F p (tickS S) := by
        unfold WheelAt
        rw [e1, e2]
        rw [e2] at hm8
        exact ⟨_, _, _, hm8, hg7⟩
      refine ⟨r, ?_, ?_, HFR.out, hw, o7⟩
      · rw [hdl, HV.out]; rfl
      · rw [hdl]
        refine HROW.out.keep (fun g c e => heap_set_other _ _ _ _ _ (fun e2 => ?_))
        have := HFR.out g c e
        omega
end Go.Proofs.Ytebinckkghmkhaa
