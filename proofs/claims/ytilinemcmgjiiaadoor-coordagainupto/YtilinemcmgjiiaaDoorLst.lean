/- Lists of holds: copies, one more, one less. -/
import Derived.Test.YtilinemcmgjiiaaDoorCheck
import Derived.Lib.AppendZeros
import Derived.Lib.SliceRun
namespace Go.Proofs.YtilinemcmgjiiaaDoor
open Go.RowKit
set_option linter.all false
theorem grown_own {W w w' : World} {B : Nat} {e : TypeId} {z n : Nat} {v : Value} {xs : List Value} (h : w.grownBy w' v.ownBlock) (ho : w.ownsRow B e z v n xs) (hB : W.heap.size ≤ B) (hb : Below W.heap.size W w) : Below W.heap.size W w' :=
  below_out hb (Out.ofGrown (F := fun k => W.heap.size ≤ k) h (fun k hk => by have := ho.lt k hk; omega)) (fun _ h => h)
theorem info44 : (Tryd.prog.info? 155).map (fun i => (i.zero, i.size, i.bytes)) = some (some (.agg #[.int .i64 0, .int .i64 0, .int .i64 0, .int .i64 0]), 4, 32) := by kernel_rfl
/-- One more behind a list of the call's own. -/
theorem app1 {α : Type} {k bytes : Nat} {enc : α → List Value} {t e : TypeId} {z : Value} (hk : ∀ x, (enc x).length = k) (h1 : ∀ x, ∀ u ∈ enc x, u.oneCell' = true) (ht : Tryd.prog.underlying t = some (.slice e))
    (hi : (Tryd.prog.info? e).map (fun i => (i.zero, i.size, i.bytes)) = some (some z, k, bytes)) (hz : z.cells.size = k) (hk0 : 0 < k) (w : World) (B : Nat) (v : Value) (l : List α) (x : α) (b c : Nat) (hB : B ≤ w.heap.size)
    (ho : w.ownsRow B e k v l.length (celC enc l)) (hc : w.heap[b]? = some (.cells (enc x).toArray e (0, 0))) (hl : (l.length + 1) * bytes ≤ 140737488355328) (hm : l.length + 1 ≤ maxLen) :
    ∃ v' w', (Builtin.append_ #[t, t] t #[v, .slice (some ⟨b, 0, none⟩) 1 c]).run Tryd.prog w = .ok v' w' ∧ w'.ownsRow B e k v' (l ++ [x]).length (celC enc (l ++ [x])) ∧ w.grownBy w' v.ownBlock := by
  obtain ⟨i, hi, hz0, hz1, hz2⟩ := info_parts hi
  obtain ⟨v', w', r1, r2, r3, _⟩ := run_append_own (P := Tryd.prog) w B t t e i _ k bytes ht hi hz0 hz1 hz2 hz hk0 v l.length (celC enc l) ho ⟨b, 0, none⟩ 1 c (enc x) (by rw [hk, Nat.one_mul]) (fun j u hu => by
    rw [addN, cell_at hc, Nat.zero_add]
    simpa using hu) (h1 x) hm hl hB
  refine ⟨v', w', r1, ?_, r3⟩
  rw [List.length_append, celC_app, show celC enc [x] = enc x by simp [celC]]
  exact r2
/-- A list behind one of the call's own. -/
theorem appL {α : Type} {k bytes : Nat} {enc : α → List Value} {t e : TypeId} {z : Value} (hk : ∀ x, (enc x).length = k) (h1 : ∀ x, ∀ u ∈ enc x, u.oneCell' = true) (ht : Tryd.prog.underlying t = some (.slice e))
    (hi : (Tryd.prog.info? e).map (fun i => (i.zero, i.size, i.bytes)) = some (some z, k, bytes)) (hz : z.cells.size = k) (hk0 : 0 < k) (hb0 : 8 ≤ bytes) (w : World) (B : Nat) (v : Value) (xs l : List α) (b : Addr) (n c : Nat) (hn : n = l.length) (hB : B ≤ w.heap.size)
    (ho : w.ownsRow B e k v xs.length (celC enc xs)) (hg : SGot k bytes enc w (.slice (some b) n c) l) (hl : (xs.length + l.length) * bytes ≤ 140737488355328) :
    ∃ v' w', (Builtin.append_ #[t, t] t #[v, .slice (some b) n c]).run Tryd.prog w = .ok v' w' ∧ w'.ownsRow B e k v' (xs ++ l).length (celC enc (xs ++ l)) ∧ w.grownBy w' v.ownBlock := by
  subst hn
  obtain ⟨i, hi, hz0, hz1, hz2⟩ := info_parts hi
  have hm : xs.length + l.length ≤ maxLen := by
    have : (xs.length + l.length) * 8 ≤ (xs.length + l.length) * bytes := Nat.mul_le_mul_left _ hb0
    unfold maxLen
    omega
  obtain ⟨h8, a', c', e', _, hr⟩ := hg
  simp only [Value.slice.injEq] at e'
  obtain ⟨v', w', r1, r2, r3, _⟩ := run_append_own (P := Tryd.prog) w B t t e i _ k bytes ht hi hz0 hz1 hz2 hz hk0 v xs.length (celC enc xs) ho b l.length c (celC enc l) (celC_len hk l) (fun j u hu => by
    have hj := (List.getElem?_eq_some_iff.1 hu).1
    rw [celC_len hk] at hj
    have hp : 0 < l.length := by
      rcases Nat.eq_zero_or_pos l.length with h0 | h0
      · rw [h0] at hj
        omega
      · exact h0
    obtain ⟨b', off, hb, _, hc⟩ := hr hp
    have : b = ⟨b', off, none⟩ := by
      have := e'.1.trans hb
      simpa using this
    rw [this, addN, hc j hj, hu]) (celC_one h1 l) hm hl hB
  refine ⟨v', w', r1, ?_, r3⟩
  rw [List.length_append, celC_app]
  exact r2
set_option maxRecDepth 100000 in
set_option maxHeartbeats 4000000 in
theorem cloneH_is (v : Value) (l : List HoldV) (w : World) (h : Hols w v l) : Calls Tryd.prog 80 #[v] w fun e w' => ∃ v', e = .returned v' ∧ w'.ownsRow w.heap.size 155 4 v' l.length (celC holE l) ∧ Below w.heap.size w w' := by
  obtain ⟨a, c, rfl⟩ := h.slice
  have q22 : ∀ (w : World) (a : Option Addr) (n c n' c' : Nat), (binOp .eql 138 (.slice a n c) (.slice none n' c')).run Tryd.prog w = .ok (.bool a.isNone) w := fun w a n c n' c' => Lib.run_eql_slice_nil w _ _ a n c n' c' Tryd.underlying138
  cases a with
  | none =>
    have h0 : l.length = 0 := by
      obtain ⟨_, a', c', e', _, hr⟩ := h
      simp only [Value.slice.injEq] at e'
      rcases Nat.eq_zero_or_pos l.length with h0 | h0
      · exact h0
      · obtain ⟨b, off, hb, _⟩ := hr h0
        rw [← e'.1] at hb
        cases hb
    have hl : l = [] := List.length_eq_zero_iff.1 h0
    subst hl
    simp only [List.length_nil]
    clear h h0
    go_enter Tryd.func80, Tryd.ntmps80
    go_wp2
    go_ret
    exact ⟨_, rfl, own_nil _ _, Below.refl _ _⟩
  | some b =>
    obtain ⟨v', w', hrun, how, hgr⟩ := appL (enc := holE) (t := 138) holK hol1 Tryd.underlying138 info44 rfl (by omega) (by omega) (w.alloc (.cells #[] 155)) w.heap.size (.slice (some ⟨w.heap.size, 0, none⟩) 0 0) [] l b l.length c rfl (by simp) (World.ownsRow_made w #[] 0 (Nat.le_refl _) (Nat.zero_le _) (by simp)) (h.keep (below1 w _)) (by have := h.1; rw [List.length_nil]; omega)
    rw [List.nil_append] at how
    have HRUN := hideIt hrun
    have HR := hideIt (And.intro how (below_out (below1 w (.cells #[] 155)) (Out.ofGrown (F := fun k => w.heap.size ≤ k) hgr (fun k hk => by simp only [Value.ownBlock, Option.some.injEq] at hk; omega)) (fun _ h => h)))
    clear hrun how hgr h
    generalize l.length = n at *
    obtain ⟨bb, bo, bp⟩ := b
    go_enter Tryd.func80, Tryd.ntmps80
    go_wp2_with (at_builtin; refine Lib.wpList_append_run _ rfl _ _ _ _ rfl _ _ rfl rfl _ _ HRUN.out ?_)
    go_ret
    exact ⟨_, rfl, HR.out.1, HR.out.2⟩
/-- A list without one. -/
def wiL (l : List HoldV) (o : HoldV) : List HoldV := l.filter (fun h => !(h == o))
theorem wiL_hit {l : List HoldV} {t : Nat} {o : HoldV} (h : t < l.length) (hp : (l[t] == o) = false) : wiL (l.take (t + 1)) o = wiL (l.take t) o ++ [l[t]] := by
  unfold wiL
  rw [List.take_succ_eq_append_getElem h, List.filter_append]
  simp [List.filter_cons, hp]
theorem wiL_miss {l : List HoldV} {t : Nat} {o : HoldV} (h : t < l.length) (hp : (l[t] == o) = true) : wiL (l.take (t + 1)) o = wiL (l.take t) o := by
  unfold wiL
  rw [List.take_succ_eq_append_getElem h, List.filter_append]
  simp [List.filter_cons, hp]
theorem wiL_len (l : List HoldV) (o : HoldV) : (wiL l o).length ≤ l.length := List.length_filter_le _ _
/-- A list of the call's own. -/
def HolsBack (l : List HoldV) (w : World) (e : Ending) (w' : World) : Prop := ∃ v', e = .returned v' ∧ w'.ownsRow w.heap.size 155 4 v' l.length (celC holE l) ∧ Below w.heap.size w w'
end Go.Proofs.YtilinemcmgjiiaaDoor
