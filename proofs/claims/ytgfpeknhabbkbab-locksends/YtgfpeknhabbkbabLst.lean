/- Lists of holds: copies, one more, one less. -/
import Derived.Test.YtgfpeknhabbkbabCheck
import Derived.Lib.AppendZeros
import Derived.Lib.SliceRun
namespace Go.Proofs.Ytgfpeknhabbkbab
open Go.RowKit
set_option linter.all false
theorem grown_own {W w w' : World} {B : Nat} {e : TypeId} {z n : Nat} {v : Value} {xs : List Value} (h : w.grownBy w' v.ownBlock) (ho : w.ownsRow B e z v n xs) (hB : W.heap.size ≤ B) (hb : Below W.heap.size W w) : Below W.heap.size W w' :=
  below_out hb (Out.ofGrown (F := fun k => W.heap.size ≤ k) h (fun k hk => by have := ho.lt k hk; omega)) (fun _ h => h)
theorem info44 : (Try.prog.info? 34).map (fun i => (i.zero, i.size, i.bytes)) = some (some (.agg #[.int .i64 0, .int .i64 0, .int .i64 0, .int .i64 0]), 4, 32) := by kernel_rfl
/-- One more behind a list of the call's own. -/
theorem app1 {α : Type} {k bytes : Nat} {enc : α → List Value} {t e : TypeId} {z : Value} (hk : ∀ x, (enc x).length = k) (h1 : ∀ x, ∀ u ∈ enc x, u.oneCell' = true) (ht : Try.prog.underlying t = some (.slice e))
    (hi : (Try.prog.info? e).map (fun i => (i.zero, i.size, i.bytes)) = some (some z, k, bytes)) (hz : z.cells.size = k) (hk0 : 0 < k) (w : World) (B : Nat) (v : Value) (l : List α) (x : α) (b c : Nat) (hB : B ≤ w.heap.size)
    (ho : w.ownsRow B e k v l.length (celC enc l)) (hc : w.heap[b]? = some (.cells (enc x).toArray e (0, 0))) (hl : (l.length + 1) * bytes ≤ 140737488355328) (hm : l.length + 1 ≤ maxLen) :
    ∃ v' w', (Builtin.append_ #[t, t] t #[v, .slice (some ⟨b, 0, none⟩) 1 c]).run Try.prog w = .ok v' w' ∧ w'.ownsRow B e k v' (l ++ [x]).length (celC enc (l ++ [x])) ∧ w.grownBy w' v.ownBlock := by
  obtain ⟨i, hi, hz0, hz1, hz2⟩ := info_parts hi
  obtain ⟨v', w', r1, r2, r3, _⟩ := run_append_own (P := Try.prog) w B t t e i _ k bytes ht hi hz0 hz1 hz2 hz hk0 v l.length (celC enc l) ho ⟨b, 0, none⟩ 1 c (enc x) (by rw [hk, Nat.one_mul]) (fun j u hu => by
    rw [addN, cell_at hc, Nat.zero_add]
    simpa using hu) (h1 x) hm hl hB
  refine ⟨v', w', r1, ?_, r3⟩
  rw [List.length_append, celC_app, show celC enc [x] = enc x by simp [celC]]
  exact r2
/-- A list behind one of the call's own. -/
theorem appL {α : Type} {k bytes : Nat} {enc : α → List Value} {t e : TypeId} {z : Value} (hk : ∀ x, (enc x).length = k) (h1 : ∀ x, ∀ u ∈ enc x, u.oneCell' = true) (ht : Try.prog.underlying t = some (.slice e))
    (hi : (Try.prog.info? e).map (fun i => (i.zero, i.size, i.bytes)) = some (some z, k, bytes)) (hz : z.cells.size = k) (hk0 : 0 < k) (hb0 : 8 ≤ bytes) (w : World) (B : Nat) (v : Value) (xs l : List α) (b : Addr) (n c : Nat) (hn : n = l.length) (hB : B ≤ w.heap.size)
    (ho : w.ownsRow B e k v xs.length (celC enc xs)) (hg : SGot k bytes enc w (.slice (some b) n c) l) (hl : (xs.length + l.length) * bytes ≤ 140737488355328) :
    ∃ v' w', (Builtin.append_ #[t, t] t #[v, .slice (some b) n c]).run Try.prog w = .ok v' w' ∧ w'.ownsRow B e k v' (xs ++ l).length (celC enc (xs ++ l)) ∧ w.grownBy w' v.ownBlock := by
  subst hn
  obtain ⟨i, hi, hz0, hz1, hz2⟩ := info_parts hi
  have hm : xs.length + l.length ≤ maxLen := by
    have : (xs.length + l.length) * 8 ≤ (xs.length + l.length) * bytes := Nat.mul_le_mul_left _ hb0
    unfold maxLen
    omega
  obtain ⟨h8, a', c', e', _, hr⟩ := hg
  simp only [Value.slice.injEq] at e'
  obtain ⟨v', w', r1, r2, r3, _⟩ := run_append_own (P := Try.prog) w B t t e i _ k bytes ht hi hz0 hz1 hz2 hz hk0 v xs.length (celC enc xs) ho b l.length c (celC enc l) (celC_len hk l) (fun j u hu => by
    have hj := (List.getElem?_eq_some_iff.1 hu).1
    rw [celC_len hk] at hj
    have hp : 0 < l.length := by
      rcases Nat.eq_zero_or_pos l.length with h0 | h0
      · rw [h0] at hj
        omega
      · exact h0
    obtain ⟨b', off, hb, _, hc⟩ := hr hp
    have : b = ⟨b', off, none⟩ := by
      have := e'.1.trans hb
      simpa using this
    rw [this, addN, hc j hj, hu]) (celC_one h1 l) hm hl hB
  refine ⟨v', w', r1, ?_, r3⟩
  rw [List.length_append, celC_app]
  exact r2
set_option maxRecDepth 100000 in
set_option maxHeartbeats 4000000 in
theorem cloneH_is (v : Value) (l : List HoldV) (w : World) (h : Hols w v l) : Calls Try.prog 21 #[v] w fun e w' => ∃ v', e = .returned v' ∧ w'.ownsRow w.heap.size 34 4 v' l.length (celC holE l) ∧ Below w.heap.size w w' := by
  obtain ⟨a, c, rfl⟩ := h.slice
  have q22 : ∀ (w : World) (a : Option Addr) (n c n' c' : Nat), (binOp .eql 23 (.slice a n c) (.slice none n' c')).run Try.prog w = .ok (.bool a.isNone) w := fun w a n c n' c' => Lib.run_eql_slice_nil w _ _ a n c n' c' Try.underlying23
  cases a with
  | none =>
    have h0 : l.length = 0 := by
      obtain ⟨_, a', c', e', _, hr⟩ := h
      simp only [Value.slice.injEq] at e'
      rcases Nat.eq_zero_or_pos l.length with h0 | h0
      · exact h0
      · obtain ⟨b, off, hb, _⟩ := hr h0
        rw [← e'.1] at hb
        cases hb
    have hl : l = [] := List.length_eq_zero_iff.1 h0
    subst hl
    simp only [List.length_nil]
    clear h h0
    go_enter Try.func21, Try.ntmps21
    go_wp2
    go_ret
    exact ⟨_, rfl, own_nil _ _, Below.refl _ _⟩
  | some b =>
    obtain ⟨v', w', hrun, how, hgr⟩ := appL (enc := holE) (t := 23) holK hol1 Try.underlying23 info44 rfl (by omega) (by omega) (w.alloc (.cells #[] 34)) w.heap.size (.slice (some ⟨w.heap.size, 0, none⟩) 0 0) [] l b l.length c rfl (by simp) (World.ownsRow_made w #[] 0 (Nat.le_refl _) (Nat.zero_le _) (by simp)) (h.keep (below1 w _)) (by have := h.1; rw [List.length_nil]; omega)
    rw [List.nil_append] at how
    have HRUN := hideIt hrun
    have HR := hideIt (And.intro how (below_out (below1 w (.cells #[] 34)) (Out.ofGrown (F := fun k => w.heap.size ≤ k) hgr (fun k hk => by simp only [Value.ownBlock, Option.some.injEq] at hk; omega)) (fun _ h => h)))
    clear hrun how hgr h
    generalize l.length = n at *
    obtain ⟨bb, bo, bp⟩ := b
    go_enter Try.func21, Try.ntmps21
    go_wp2_with (at_builtin; refine Lib.wpList_append_run _ rfl _ _ _ _ rfl _ _ rfl rfl _ _ HRUN.out ?_)
    go_ret
    exact ⟨_, rfl, HR.out.1, HR.out.2⟩
/-- A list without one. -/
def wiL (l : List HoldV) (o : HoldV) : List HoldV := l.filter (fun h => !(h == o))
theorem wiL_hit {l : List HoldV} {t : Nat} {o : HoldV} (h : t < l.length) (hp : (l[t] == o) = false) : wiL (l.take (t + 1)) o = wiL (l.take t) o ++ [l[t]] := by
  unfold wiL
  rw [List.take_succ_eq_append_getElem h, List.filter_append]
  simp [List.filter_cons, hp]
theorem wiL_miss {l : List HoldV} {t : Nat} {o : HoldV} (h : t < l.length) (hp : (l[t] == o) = true) : wiL (l.take (t + 1)) o = wiL (l.take t) o := by
  unfold wiL
  rw [List.take_succ_eq_append_getElem h, List.filter_append]
  simp [List.filter_cons, hp]
theorem wiL_len (l : List HoldV) (o : HoldV) : (wiL l o).length ≤ l.length := List.length_filter_le _ _
/-- A list of the call's own. -/
def HolsBack (l : List HoldV) (w : World) (e : Ending) (w' : World) : Prop := ∃ v', e = .returned v' ∧ w'.ownsRow w.heap.size 34 4 v' l.length (celC holE l) ∧ Below w.heap.size w w'
set_option maxHeartbeats 8000000 in
set_option maxRecDepth 100000 in
theorem without_is (v : Value) (l : List HoldV) (o0 o1 o2 o3 : Int) (w : World) (h : Hols w v l) : Calls Try.prog 16 #[v, .agg #[.int .i64 o0, .int .i64 o1, .int .i64 o2, .int .i64 o3]] w (HolsBack (wiL l ((o0, o1), (o2, o3))) w) := by
  obtain ⟨a, c, rfl, h8, hr⟩ := h.hols
  have HH := hideIt hr
  clear hr h
  have HB0 := hideIt (below1 w (.cells #[.int .i64 o0, .int .i64 o1, .int .i64 o2, .int .i64 o3] 34))
  have HX0 := hideIt (heap_alloc_new w (.cells #[.int .i64 o0, .int .i64 o1, .int .i64 o2, .int .i64 o3] 34))
  go_enter Try.func16, Try.ntmps16
  go_wp2
  go_loopw [5, 10] (fun v5 v wr => ∃ t : Nat, v = .int .i64 t ∧ t ≤ l.length ∧ Hid (Below w.heap.size w wr ∧ wr.heap[w.heap.size]? = some (.cells #[.int .i64 o0, .int .i64 o1, .int .i64 o2, .int .i64 o3] 34 (0, 0)) ∧ wr.ownsRow (w.heap.size + 1) 34 4 v5 (wiL (l.take t) ((o0, o1), (o2, o3))).length (celC holE (wiL (l.take t) ((o0, o1), (o2, o3)))))) (fun _ v _ => l.length - (intOf v).toNat)
  case atStart => exact ⟨0, rfl, Nat.zero_le _, hideIt ⟨HB0.out, HX0.out, by simpa [wiL, celC] using own_nil _ _⟩⟩
  case round =>
    clear HB0 HX0
    obtain ⟨t, rfl, ht, HR⟩ := hrel
    by_cases hlt : t < l.length
    · have hltI : (t : Int) < (l.length : Int) := by omega
      have ht0 : (0 : Int) ≤ (t : Int) := by omega
      have hw : IntKind.i64.wrap ((t : Int) + 1) = ((t + 1 : Nat) : Int) := by rw [IntKind.wrap_i64]; omega
      have hB := HR.out.1
      have hsz : w.heap.size < wr.heap.size := (Array.getElem?_eq_some_iff.1 HR.out.2.1).1
      have x0 : wr.cell? ⟨w.heap.size, 0, none⟩ = some (.int .i64 o0) := by rw [cell_at HR.out.2.1]; rfl
      have x1 : wr.cell? ⟨w.heap.size, 1, none⟩ = some (.int .i64 o1) := by rw [cell_at HR.out.2.1]; rfl
      have x2 : wr.cell? ⟨w.heap.size, 2, none⟩ = some (.int .i64 o2) := by rw [cell_at HR.out.2.1]; rfl
      have x3 : wr.cell? ⟨w.heap.size, 3, none⟩ = some (.int .i64 o3) := by rw [cell_at HR.out.2.1]; rfl
      obtain ⟨b, off, rfl, hbl, q0, q1, q2, q3⟩ := HH.out t hlt
      have hblr : b < wr.heap.size := Nat.lt_of_lt_of_le hbl hB.size
      have c0 := (hB.cell (p := ⟨b, off + t * 4, none⟩) hbl).trans q0
      have c1 := (hB.cell (p := ⟨b, off + t * 4 + 1, none⟩) hbl).trans q1
      have c2 := (hB.cell (p := ⟨b, off + t * 4 + 2, none⟩) hbl).trans q2
      have c3 := (hB.cell (p := ⟨b, off + t * 4 + 3, none⟩) hbl).trans q3
      clear q0 q1 q2 q3
      obtain ⟨va, vc, hv⟩ := own_len HR.out.2.2
      have HV := hideIt hv
      cases hq : (l[t] == ((o0, o1), (o2, o3)))
      · have HQ := hideIt (wiL_hit hlt hq)
        have hlen : (wiL (l.take t) ((o0, o1), (o2, o3))).length ≤ t := by
          have := wiL_len (l.take t) ((o0, o1), (o2, o3))
          rw [List.length_take] at this
          omega
        generalize hen : l[t] = en at *
        obtain ⟨⟨x, y⟩, ⟨z, u⟩⟩ := en
        dsimp only at c0 c1 c2 c3
        have q1 : ∀ W, (binOp .neq 34 (.agg #[.int .i64 x, .int .i64 y, .int .i64 z, .int .i64 u]) (.agg #[.int .i64 o0, .int .i64 o1, .int .i64 o2, .int .i64 o3])).run Try.prog W = .ok (.bool true) W := fun W => by rw [neq44, hq]; rfl
        have hb2 := below2 wr (.cells #[.int .i64 x, .int .i64 y, .int .i64 z, .int .i64 u] 34) (.cells #[.int .i64 x, .int .i64 y, .int .i64 z, .int .i64 u] 34)
        have h2 := two_heap wr (.cells #[.int .i64 x, .int .i64 y, .int .i64 z, .int .i64 u] 34) (.cells #[.int .i64 x, .int .i64 y, .int .i64 z, .int .i64 u] 34)
        obtain ⟨v', w', hrun, how, hgr⟩ := app1 (enc := holE) (t := 23) holK hol1 Try.underlying23 info44 rfl (by omega) _ (w.heap.size + 1) _ (wiL (l.take t) ((o0, o1), (o2, o3))) ((x, y), (z, u)) (wr.heap.size + 1) 1 (by rw [h2.2.2]; omega) (own_keep HR.out.2.2 hb2) h2.2.1 (by omega) (by unfold maxLen; omega)
        have hB3 := grown_own (W := w) hgr (own_keep HR.out.2.2 hb2) (by omega) (below_via hB hb2)
        have hX3 : w'.heap[w.heap.size]? = some (.cells #[.int .i64 o0, .int .i64 o1, .int .i64 o2, .int .i64 o3] 34 (0, 0)) := (hgr.block _ (by rw [h2.2.2]; omega) (fun e => by have := ((own_keep HR.out.2.2 hb2).lt _ e.symm).1; omega)).trans ((hb2.block _ hsz).trans HR.out.2.1)
        rw [← HQ.out] at how
        have HRUN := hideIt hrun
        have HG := hideIt (And.intro hB3 (And.intro hX3 how))
        clear hB3 hX3 how hrun hgr hb2 h2 HR HH hen hq hB HQ hlen
        rw [hv] at HRUN ⊢
        clear hv
        go_wp2_with (at_builtin; refine Lib.wpList_append_run _ rfl _ _ _ _ rfl _ _ rfl rfl _ _ HRUN.out ?_)
        go_roundw
        case rel => exact ⟨t + 1, by go_num, by omega, HG⟩
        case measure => simp [intOf]; omega
      · have HQ := hideIt (wiL_miss hlt hq)
        generalize hen : l[t] = en at *
        obtain ⟨⟨x, y⟩, ⟨z, u⟩⟩ := en
        dsimp only at c0 c1 c2 c3
        have q1 : ∀ W, (binOp .neq 34 (.agg #[.int .i64 x, .int .i64 y, .int .i64 z, .int .i64 u]) (.agg #[.int .i64 o0, .int .i64 o1, .int .i64 o2, .int .i64 o3])).run Try.prog W = .ok (.bool false) W := fun W => by rw [neq44, hq]; rfl
        have hb1 := below1 wr (.cells #[.int .i64 x, .int .i64 y, .int .i64 z, .int .i64 u] 34)
        have how := own_keep HR.out.2.2 hb1
        rw [← HQ.out] at how
        have HG := hideIt (And.intro (below_via hB hb1) (And.intro ((hb1.block _ hsz).trans HR.out.2.1) how))
        clear how hb1 HR HH hen hq hB HQ
        rw [hv] at HG ⊢
        clear hv
        go_wp2
        go_roundw
        case rel => exact ⟨t + 1, by go_num, by omega, HG⟩
        case measure => simp [intOf]; omega
    · have hltI : ¬ (t : Int) < (l.length : Int) := by omega
      have hE : l.take t = l := List.take_of_length_le (by omega)
      have HG := hideIt HR.out
      rw [hE] at HG
      obtain ⟨va, vc, hv⟩ := own_len HG.out.2.2
      clear HR HH hE
      rw [hv] at HG ⊢
      clear hv
      go_wp2
      go_ret
      exact ⟨_, rfl, own_base HG.out.2.2 (by omega), HG.out.1⟩
end Go.Proofs.Ytgfpeknhabbkbab
