/- The document's own: a copy of a ballot, one that has heard of a term, nodes with one more; two ballots held against each other; a list that is spoilt. -/
import Derived.Test.YtkoecdcbopkkbaaLive
import Derived.Test.YtkoecdcbopkkbaaRMay
namespace Go.Proofs.Ytkoecdcbopkkbaa
open Go.RowKit
theorem info3 : (Try.prog.info? 3).map (fun i => (i.zero, i.size, i.bytes)) = some (some (.int .i64 0), 1, 8) := by kernel_rfl
theorem addN (b off j : Nat) : (⟨b, off, none⟩ : Addr).add j = ⟨b, off + j, none⟩ := by cases j <;> simp [Addr.add]
theorem grown_refl (w : World) (r : Option Nat) : w.grownBy w r := ⟨rfl, rfl, rfl, Nat.le_refl _, fun _ _ _ => rfl⟩
theorem run_app_none (w : World) (ty : TypeId) (B : Nat) (v : Value) (n : Nat) (xs : List Value) (hown : w.ownsRow B 3 1 v n xs) (c : Nat) : (Builtin.append_ #[24, 24] ty #[v, .slice none 0 c]).run Try.prog w = .ok v w := by
  obtain ⟨i, hi, hz0, hz1, hz2⟩ := info_parts info3
  have ht : Try.prog.underlying 24 = some (.slice 3) := Try.underlying24
  rcases hown.2 with ⟨rfl, rfl⟩ | ⟨g, cap, cur, rfl, _, _, hnc, _⟩
  · simp [Builtin.append_, run_underlying ht, sizeOf, typeInfo, hi, Builtin.lenOf, Builtin.firstCells]
  · simp [Builtin.append_, run_underlying ht, sizeOf, typeInfo, hi, Builtin.lenOf, Builtin.firstCells, hnc, storeCells]
/-- A list behind one of the call's own. -/
theorem run_app (w : World) (ty : TypeId) (B : Nat) (v : Value) (xs l : List Int) (g : Value) (hB : B ≤ w.heap.size) (ho : w.ownsRow B 3 1 v xs.length (xs.map iv)) (hg : GotAt w g l) (hl : (xs.length + l.length) * 8 ≤ 140737488355328) :
    ∃ v' w', (Builtin.append_ #[24, 24] ty #[v, g]).run Try.prog w = .ok v' w' ∧ w'.ownsRow B 3 1 v' (xs ++ l).length ((xs ++ l).map iv) ∧ w.grownBy w' v.ownBlock := by
  obtain ⟨i, hi, hz0, hz1, hz2⟩ := info_parts info3
  have ht : Try.prog.underlying 24 = some (.slice 3) := Try.underlying24
  have hm : xs.length + l.length ≤ maxLen := by unfold maxLen; omega
  rcases hg.parts with ⟨rfl, a, c, rfl⟩ | ⟨b, off, c, rfl, hlt, h8, hp, hc⟩
  · rw [List.append_nil]
    cases a with
    | none => exact ⟨v, w, run_app_none w ty B v xs.length (xs.map iv) ho c, ho, grown_refl w _⟩
    | some a =>
      obtain ⟨v', w', h1, h2, h3, _⟩ := run_append_own (P := Try.prog) w B 24 ty 3 i (.int .i64 0) 1 8 ht hi hz0 hz1 hz2 rfl (by omega) v xs.length (xs.map iv) ho a 0 c [] rfl (fun j u hu => by simp at hu) (fun u hu => by simp at hu) (by simpa using hm) (by simpa using hl) hB
      refine ⟨v', w', h1, ?_, h3⟩
      simpa using h2
  · obtain ⟨v', w', h1, h2, h3, _⟩ := run_append_own (P := Try.prog) w B 24 ty 3 i (.int .i64 0) 1 8 ht hi hz0 hz1 hz2 rfl (by omega) v xs.length (xs.map iv) ho ⟨b, off, none⟩ l.length c (l.map iv) (by simp) (fun j u hu => by
        rw [addN]
        have hj : j < l.length := by
          have := (List.getElem?_eq_some_iff.1 hu).1
          simpa using this
        rw [hc j hj, ← map_get l j hj, hu]) (iv_one l) hm hl hB
    refine ⟨v', w', h1, ?_, h3⟩
    rw [List.length_append, List.map_append]
    exact h2
theorem wpList_append_run (w : World) {ops : Array Oper} {rest : List Oper} {o : Oper} {a : Act} {Q : Exit → Act → World → Prop} (hgd : o.guard = none) (sl x : Operand)
    (ho : o.op = .call { callee := .builtin .append, args := #[sl, x], argTypes := #[24, 24] }) {v1 v2 v' : Value} {w' : World} (hs : a.eval sl = v1) (hx : a.eval x = v2) (hty : o.type = 24)
    (hrun : (Builtin.append_ #[24, 24] 24 #[v1, v2]).run Try.prog w = .ok v' w') (h : wpList Try.prog ops Q rest (a.put o.dst v') w') : wpList Try.prog ops Q (o :: rest) a w := by
  refine wpList_plain hgd fun K hK => ?_
  unfold Oper.wp execOp
  simp only [ho, resolve, invoke, builtin, Sem.run_bind, Sem.run_pure, Result.andThen_ok, List.map_toArray, List.map_cons, List.map_nil, hs, hx, hty, hrun]
  exact hK _ _ h
theorem below3 (w : World) (o p q : Obj) : Below w.heap.size w (((w.alloc o).alloc p).alloc q) := (below2 w o p).alloc (by simp; omega) q
theorem three_heap (w : World) (o p q : Obj) : (((w.alloc o).alloc p).alloc q).heap[w.heap.size]? = some o ∧ (((w.alloc o).alloc p).alloc q).heap[w.heap.size + 1]? = some p ∧ (((w.alloc o).alloc p).alloc q).heap[w.heap.size + 2]? = some q ∧ (((w.alloc o).alloc p).alloc q).heap.size = w.heap.size + 3 := by
  have ht := two_heap w o p
  refine ⟨?_, ?_, ?_, by simp⟩
  · rw [heap_alloc_old _ _ (by rw [ht.2.2]; omega)]
    exact ht.1
  · rw [heap_alloc_old _ _ (by rw [ht.2.2]; omega)]
    exact ht.2.1
  · have h := heap_alloc_new ((w.alloc o).alloc p) q
    rwa [ht.2.2] at h
theorem grown_none {w w' : World} (h : w.grownBy w' none) : Below w.heap.size w w' := (Out.ofGrown (F := fun _ => False) h (fun _ h => by cases h)).below (Nat.le_refl _) (fun _ h => h.elim)
set_option maxHeartbeats 4000000 in
set_option maxRecDepth 100000 in
theorem copy_is (b : Bal) (g : Value) (w : World) (h : GotAt w g b.l) : Calls Try.prog 9 #[balV b g] w (BalBack w.heap.size w b) := by
  obtain ⟨t, v, r, l⟩ := b
  simp only at h
  have hB3 := below3 w (.cells #[.int .i64 t, .int .i64 v, .int .i64 r, g] 26) (.cells #[.int .i64 0, .int .i64 0, .int .i64 0, .slice none 0 0] 26) (.cells #[.int .i64 t, .int .i64 v, .int .i64 r, .slice none 0 0] 26)
  have hH3 := three_heap w (.cells #[.int .i64 t, .int .i64 v, .int .i64 r, g] 26) (.cells #[.int .i64 0, .int .i64 0, .int .i64 0, .slice none 0 0] 26) (.cells #[.int .i64 t, .int .i64 v, .int .i64 r, .slice none 0 0] 26)
  obtain ⟨v', w', hrun, how, hgr⟩ := run_app (((w.alloc (.cells #[.int .i64 t, .int .i64 v, .int .i64 r, g] 26)).alloc (.cells #[.int .i64 0, .int .i64 0, .int .i64 0, .slice none 0 0] 26)).alloc (.cells #[.int .i64 t, .int .i64 v, .int .i64 r, .slice none 0 0] 26)) 24 (w.heap.size + 3) (.slice none 0 0) [] l g (by rw [hH3.2.2.2]; omega) ⟨rfl, .inl ⟨rfl, rfl⟩⟩ (h.keep hB3) (by have := h.1; simpa using this)
  have hb := grown_none hgr
  have HRUN := hideIt hrun
  rw [List.nil_append] at how
  have HO := hideIt how
  have hbs : ((((w.alloc (.cells #[.int .i64 t, .int .i64 v, .int .i64 r, g] 26)).alloc (.cells #[.int .i64 0, .int .i64 0, .int .i64 0, .slice none 0 0] 26)).alloc (.cells #[.int .i64 t, .int .i64 v, .int .i64 r, .slice none 0 0] 26))).heap.size = w.heap.size + 3 := hH3.2.2.2
  have E1 := hideIt ((hb.block _ (by rw [hbs]; omega)).trans hH3.2.1)
  have E2 : Hid (w'.heap[w.heap.size + 1 + 1]? = some (.cells #[.int .i64 t, .int .i64 v, .int .i64 r, .slice none 0 0] 26 (0, 0))) := (hb.block _ (by rw [hbs]; omega)).trans hH3.2.2.1
  have HB := hideIt (below_via hB3 hb)
  obtain ⟨a2, cc, rfl⟩ := own_len how
  have hg : ∃ a c, g = .slice a l.length c := by
    obtain ⟨a, c, e, _⟩ := h.open
    exact ⟨a, c, e⟩
  obtain ⟨ga, gc, rfl⟩ := hg
  clear hrun how hgr hb hbs hB3 hH3 h
  have ec0 : w'.cell? ⟨w.heap.size + 1 + 1, 0, none⟩ = some (.int .i64 t) := by rw [cell_at E2.out]; rfl
  have ec1 : w'.cell? ⟨w.heap.size + 1 + 1, 1, none⟩ = some (.int .i64 v) := by rw [cell_at E2.out]; rfl
  have ec2 : w'.cell? ⟨w.heap.size + 1 + 1, 2, none⟩ = some (.int .i64 r) := by rw [cell_at E2.out]; rfl
  have ec3 : w'.cell? ⟨w.heap.size + 1 + 1, 3, none⟩ = some (.slice none 0 0) := by rw [cell_at E2.out]; rfl
  have ef : ∀ j, w'.frozen? ⟨w.heap.size + 1 + 1, j, none⟩ = false := fun j => free_at E2.out j
  have zc0 : w'.cell? ⟨w.heap.size + 1, 0, none⟩ = some (.int .i64 0) := by rw [cell_at E1.out]; rfl
  have zc1 : w'.cell? ⟨w.heap.size + 1, 1, none⟩ = some (.int .i64 0) := by rw [cell_at E1.out]; rfl
  have zc2 : w'.cell? ⟨w.heap.size + 1, 2, none⟩ = some (.int .i64 0) := by rw [cell_at E1.out]; rfl
  have zc3 : w'.cell? ⟨w.heap.size + 1, 3, none⟩ = some (.slice none 0 0) := by rw [cell_at E1.out]; rfl
  have zf : ∀ j, w'.frozen? ⟨w.heap.size + 1, j, none⟩ = false := fun j => free_at E1.out j
  unfold balV
  simp only
  go_enter Try.func9, Try.ntmps9
  go_wp2_with (at_builtin; refine wpList_append_run _ rfl _ _ rfl rfl rfl rfl HRUN.out ?_)
  have HF := fin4 (w := w) (wx := w'.setCell ⟨w.heap.size + 1 + 1, 3, none⟩ (.slice a2 l.length cc)) (R := w.heap.size + 1) (.int .i64 t) (.int .i64 v) (.int .i64 r) (.slice a2 l.length cc) (setOther _ E1.out (by omega)) (by omega) (belowSet _ HB.out (by omega))
  have HG := own4 (R := w.heap.size + 1) (.int .i64 t) (.int .i64 v) (.int .i64 r) (.slice a2 l.length cc) (ownSet (b := w.heap.size + 1 + 1) (j := 3) (.slice a2 l.length cc) HO.out (by omega)) (by omega) w.heap.size (by omega)
  clear E1 E2 HB HO HRUN
  go_wp2
  obtain ⟨e1, e2⟩ := HF.out
  have e3 := HG.out
  revert e1 e2 e3
  generalize (World.setCell _ ⟨w.heap.size + 1, 3, none⟩ _) = W
  intro e1 e2 e3
  exact bodyPost_ret (v := balV ⟨t, v, r, l⟩ (.slice a2 l.length cc)) (by simp [results, Try.results9, go_sem, cell_at e1, balV]) rfl ⟨_, rfl, e3, e2⟩
set_option maxHeartbeats 4000000 in
set_option maxRecDepth 100000 in
theorem heard_is (b : Bal) (g : Value) (x : Int) (w : World) (h : GotAt w g b.l) : Calls Try.prog 31 #[balV b g, .int .i64 x] w (BalBack w.heap.size w (hearL b x)) := by
  have T0 := hideIt (Two.start w b g)
  have HC := hideIt (copy_is b g _ (h.keep T0.out.bel))
  clear h
  obtain ⟨t, v, r, l⟩ := b
  unfold balV at HC ⊢
  simp only at HC T0 ⊢
  by_cases hx : t < x
  · rw [show hearL ⟨t, v, r, l⟩ x = ⟨x, 0, 1, []⟩ by simp [hearL, hx]]
    go_enter Try.func31, Try.ntmps31
    go_wp2
    exact bodyPost_ret (v := balV ⟨x, 0, 1, []⟩ (.slice none 0 0)) (by simp [results, Try.results31, go_sem, balV]) rfl ⟨_, rfl, ⟨rfl, .inl ⟨rfl, rfl⟩⟩, below2 w _ _⟩
  · rw [show hearL ⟨t, v, r, l⟩ x = ⟨t, v, r, l⟩ by simp [hearL, hx]]
    go_enter Try.func31, Try.ntmps31
    go_wp2_with fail
    refine HC.out.mono ?_
    rintro e w1 ⟨g2, rfl, h1, h2⟩
    dsimp only
    obtain ⟨a2, cc, rfl⟩ := own_len h1
    have hs := hideIt T0.out.size
    have T1 := hideIt (T0.out.keep h2)
    have HW := hideIt h1
    clear h1 h2 T0 HC
    unfold balV
    simp only
    have zc0 : w1.cell? ⟨w.heap.size + 1, 0, none⟩ = some (.int .i64 0) := by rw [cell_at T1.out.res]; rfl
    have zc1 : w1.cell? ⟨w.heap.size + 1, 1, none⟩ = some (.int .i64 0) := by rw [cell_at T1.out.res]; rfl
    have zc2 : w1.cell? ⟨w.heap.size + 1, 2, none⟩ = some (.int .i64 0) := by rw [cell_at T1.out.res]; rfl
    have zc3 : w1.cell? ⟨w.heap.size + 1, 3, none⟩ = some (.slice none 0 0) := by rw [cell_at T1.out.res]; rfl
    have zf : ∀ j, w1.frozen? ⟨w.heap.size + 1, j, none⟩ = false := fun j => free_at T1.out.res j
    have HF := fin4 (w := w) (.int .i64 t) (.int .i64 v) (.int .i64 r) (.slice a2 l.length cc) T1.out.res (by omega) T1.out.bel
    have HG := own4 (R := w.heap.size + 1) (.int .i64 t) (.int .i64 v) (.int .i64 r) (.slice a2 l.length cc) HW.out hs.out w.heap.size (by have := hs.out; omega)
    clear T1 HW hs
    go_wp2
    obtain ⟨e1, e2⟩ := HF.out
    have e3 := HG.out
    revert e1 e2 e3
    generalize (World.setCell _ ⟨w.heap.size + 1, 3, none⟩ _) = W
    intro e1 e2 e3
    exact bodyPost_ret (v := balV ⟨t, v, r, l⟩ (.slice a2 l.length cc)) (by simp [results, Try.results31, go_sem, cell_at e1, balV]) rfl ⟨_, rfl, e3, e2⟩
end Go.Proofs.Ytkoecdcbopkkbaa
