/- Packets in a map, in memory. -/
import Derived.Test.YtagfolckodpioaaNw
import Derived.Test.YtagfolckodpioaaKt2
import Derived.Maps.OwnSet
import Derived.Lib.SlKeysI
import Derived.WideKeyEntry
namespace Go.Proofs.Ytagfolckodpioaa.K2
open Go.RowKit Go.Maps Go.Proofs.Ytagfolckodpioaa Go.WideElems Go.WideMaps Go.ChangeMaps
set_option linter.all false
theorem pk_eq {x y : PkV} (h1 : x.frm = y.frm) (h2 : x.dst = y.dst) (h3 : x.text.data.toList = y.text.data.toList) : x = y := by
  obtain ⟨a, b, ⟨⟨c⟩⟩⟩ := x
  obtain ⟨d, e, ⟨⟨f⟩⟩⟩ := y
  simp only at h1 h2 h3
  subst h1 h2 h3
  rfl
theorem pk_inj {x y : PkV} (h : PkOk x) (h' : PkOk y) (e : pkK x = pkK y) : x = y := by
  unfold pkK at e
  simp only [Lit.string.injEq] at e
  have := keyBytes_inj (l := [.int .i64 x.frm, .int .i64 x.dst, .string x.text.data.toList]) (l' := [.int .i64 y.frm, .int .i64 y.dst, .string y.text.data.toList]) ⟨rfl, rfl, trivial, trivial⟩ (by
    intro l hl
    simp only [List.mem_cons, List.not_mem_nil, or_false] at hl
    rcases hl with rfl | rfl | rfl
    · exact h.1
    · exact h.2.1
    · show x.text.data.toList.length ≤ maxLen
      exact h.2.2) (by
    intro l hl
    simp only [List.mem_cons, List.not_mem_nil, or_false] at hl
    rcases hl with rfl | rfl | rfl
    · exact h'.1
    · exact h'.2.1
    · show y.text.data.toList.length ≤ maxLen
      exact h'.2.2) e
  simp only [List.cons.injEq, Lit.int.injEq, Lit.string.injEq, true_and, and_true] at this
  exact pk_eq this.1 this.2.1 this.2.2
def eqP (x y : PkV) : Bool := decide (x.frm = y.frm) && (decide (x.dst = y.dst) && decide (x.text.data.toList = y.text.data.toList))
theorem eqP_eq {x y : PkV} (h : eqP x y = true) : x = y := by
  unfold eqP at h
  simp only [Bool.and_eq_true, decide_eq_true_eq] at h
  exact pk_eq h.1 h.2.1 h.2.2
theorem eqP_self (x : PkV) : eqP x x = true := by simp [eqP]
def heldR (v : Value) : Option (DataW Value × List MemPlace) := some (.held v, [])
theorem ownsMap_block {w w' : World} {b n : Nat} {D : DataW Value} (h : w.ownsMap Try.prog 56 heldR b n D) (hb : w'.heap[b]? = w.heap[b]?) : w'.ownsMap Try.prog 56 heldR b n D := by
  obtain ⟨es, clock, hb', r⟩ := h
  exact ⟨es, clock, hb.trans hb', r⟩
theorem zero3 (w : World) : (zeroValue 3).run Try.prog w = .ok (.int .i64 0) w := by kernel_rfl
abbrev Pks := PkV → Option Int
/-- Claims in memory. -/
def PM (w : World) (mb c : Nat) (f : Pks) : Prop := ∃ n D, n ≤ c ∧ w.ownsMap Try.prog 56 heldR mb n D ∧ (∀ x, PkOk x → ∀ p, f x = some p → ∀ z, D.atKey (pkK x) z = .held (.int .i64 p)) ∧ (∀ x, PkOk x → f x = none → ∀ z, D.atKey (pkK x) z = z) ∧ ∀ kl, has D kl = true → ∃ x, PkOk x ∧ kl = pkK x
theorem PM.made (w : World) : PM (w.alloc (.map #[] 0)) w.heap.size 0 (fun _ => none) :=
  ⟨0, .map [], Nat.le_refl _, World.ownsMap_made w Try.prog 56 heldR, (fun x _ p h => by cases h), (fun x _ _ z => rfl), fun kl h => by cases h⟩
theorem PM.block {w w' : World} {mb c : Nat} {f : Pks} (h : PM w mb c f) (hb : w'.heap[mb]? = w.heap[mb]?) : PM w' mb c f := by
  obtain ⟨n, D, h1, h2, h3, h4, h5⟩ := h
  exact ⟨n, D, h1, ownsMap_block h2 hb, h3, h4, h5⟩
theorem PM.lt {w : World} {mb c : Nat} {f : Pks} (h : PM w mb c f) : mb < w.heap.size := by
  obtain ⟨n, D, h1, h2, h3, h4, h5⟩ := h
  exact h2.lt
theorem PM.keep {w w' : World} {mb c : Nat} {f : Pks} (h : PM w mb c f) (hb : Below w.heap.size w w') : PM w' mb c f := h.block (hb.block mb h.lt)
theorem PM.look {w : World} {mb c : Nat} {f : Pks} (h : PM w mb c f) (x : PkV) (hx : PkOk x) : (Instr.lookup 87 (.map (some mb)) (pkV x) false).run Try.prog w = .ok (.int .i64 ((f x).getD 0)) w := by
  obtain ⟨n, D, h1, h2, h3, h4, h5⟩ := h
  obtain ⟨v, ps, hrun, hv⟩ := h2.lookup pk_keyed Try.underlying87 (zero3 w) (zd := .held (.int .i64 0)) (zp := []) rfl (key := pkV x) (kl := pkK x) (pk_key x hx)
  cases hf : f x with
  | none =>
    rw [h4 x hx hf] at hv
    simp [heldR] at hv
    rw [hrun, hv.1]
    rfl
  | some p =>
    rw [h3 x hx p hf] at hv
    simp [heldR] at hv
    rw [hrun, hv.1]
    rfl
def updP (f : Pks) (x : PkV) (p : Int) : Pks := fun y => if eqP y x = true then some p else f y
theorem PM.store {w : World} {mb c : Nat} {f : Pks} (h : PM w mb c f) (hc : c ≤ 1000000) (x : PkV) (hx : PkOk x) (p : Int) : ∃ w', (Instr.mapUpdate 87 (.map (some mb)) (pkV x) (.int .i64 p)).run Try.prog w = .ok () w' ∧ PM w' mb (c + 1) (updP f x p) ∧ w.grownBy w' (some mb) := by
  obtain ⟨n, D, h1, h2, h3, h4, h5⟩ := h
  obtain ⟨w', hrun, hown, hturn⟩ := h2.store pk_keyed Try.underlying87 (by unfold maxLen; omega) (val := .int .i64 p) (pk_key x hx) (d := .held (.int .i64 p)) (ps := []) rfl
  have hne : ∀ y : PkV, PkOk y → ¬ eqP y x = true → pkK y ≠ pkK x := fun y hy hn e => hn (by rw [pk_inj hy hx e]; exact eqP_self x)
  refine ⟨w', hrun, ⟨n + 1, _, by omega, hown, fun y hy q hq z => ?_, fun y hy hq z => ?_, fun kl hkl => ?_⟩, hturn.grown⟩
  · unfold updP at hq
    by_cases e : eqP y x = true
    · rw [if_pos e] at hq
      have e' := eqP_eq e
      subst e'
      cases hq
      exact atKey_put_same h2.isMap (show WideAt.IsKeyLit (pkK y) from trivial) _ z
    · rw [if_neg e] at hq
      exact (atKey_put_other (hne y hy e) _ z).trans (h3 y hy q hq z)
  · unfold updP at hq
    by_cases e : eqP y x = true
    · rw [if_pos e] at hq
      cases hq
    · rw [if_neg e] at hq
      exact (atKey_put_other (hne y hy e) _ z).trans (h4 y hy hq z)
  · by_cases e : kl = pkK x
    · exact ⟨x, hx, e⟩
    · rw [has_put_other e] at hkl
      exact h5 kl hkl
def pg (f : Pks) (p : PkV) : Int := (f p).getD 0
theorem set_twice (w : World) (b : Nat) (o p : Obj) : setBlock (setBlock w b o) b p = setBlock w b p := by
  simp [setBlock]
theorem set_self2 {w : World} {b : Nat} {o : Obj} (h : w.heap[b]? = some o) : setBlock w b o = w := by
  unfold setBlock
  have : w.heap.setIfInBounds b o = w.heap := by
    apply Array.ext
    · simp
    · intro i h1 h2
      rw [Array.getElem_setIfInBounds]
      split
      · rename_i e
        subst e
        have := (Array.getElem?_eq_some_iff.1 h).2
        exact this.symm
      · rfl
  rw [this]
theorem PM.entry {w : World} {mb c : Nat} {f : Pks} (h : PM w mb c f) (hc : c ≤ 1000000) (x : PkV) (hx : PkOk x) (p : Int) : ∃ v0 st w1 w3, (Instr.mapEntry 87 (.map (some mb)) (pkV x)).run Try.prog w = .ok (.tuple #[v0, goInt st]) w1 ∧ (Instr.lookup 87 (.map (some mb)) (pkV x) false).run Try.prog w1 = .ok (.int .i64 (pg f x)) w1 ∧ (Instr.entryStore 87 (.map (some mb)) (goInt st) (.int .i64 p)).run Try.prog w1 = .ok () w3 ∧ PM w3 mb (c + 1) (updP f x p) ∧ w.grownBy w3 (some mb) ∧ w.grownBy w1 (some mb) := by
  have hL := h.look x hx
  obtain ⟨w', hrun, hM, hgr⟩ := h.store hc x hx p
  obtain ⟨w0, hrun0, hM0, hgr0⟩ := h.store hc x hx 0
  obtain ⟨n, D, h1, ⟨es, clock, hb, F, r⟩, h3, h4, h5⟩ := h
  have hkey := pk_key x hx
  obtain ⟨v0, st, es1, clock1, hme, hcase, hst⟩ := entry_then_store pk_law Try.underlying87 (fun u => zero3 u) hb F hkey
  obtain ⟨es', clock', hes, hup⟩ := hst (setBlock w mb (.map es1 clock1)) (.int .i64 p) (heap_setBlock_same hb _)
  rw [hrun] at hup
  simp only [Result.ok.injEq, true_and] at hup
  have hw1 : (setBlock w mb (.map es1 clock1) = w ∧ True) ∨ (setBlock w mb (.map es1 clock1) = w0 ∧ pg f x = 0) := by
    rcases pk_law.find w hkey es.toList F.keys with ⟨g1, g2⟩ | ⟨j, e0, g1, g2, g3⟩
    · refine .inr ⟨?_, ?_⟩
      · have hz := fun u => zero3 u
        have e1 : (Instr.mapEntry 87 (.map (some mb)) (pkV x)).run Try.prog w = .ok (.tuple #[.int .i64 0, goInt clock]) (setBlock w mb (.map (es.push ⟨pkV x, .int .i64 0, clock⟩) (clock + 1))) := by
          simp [Instr.mapEntry, run_underlying Try.underlying87, MapKept.run_getObj_map hb, pk_law.check w false hkey, g1, hz, MapKept.run_setObj_map _ hb, Result.andThen, setBlock]
        have e2 : (Instr.mapUpdate 87 (.map (some mb)) (pkV x) (.int .i64 0)).run Try.prog w = .ok () (setBlock w mb (.map (es.push ⟨pkV x, .int .i64 0, clock⟩) (clock + 1))) := by
          simp [Instr.mapUpdate, run_underlying Try.underlying87, MapKept.run_getObj_map hb, pk_law.check w false hkey, g1, MapKept.run_setObj_map _ hb, Result.andThen, setBlock]
        rw [hme] at e1
        simp only [Result.ok.injEq] at e1
        rw [hrun0] at e2
        simp only [Result.ok.injEq, true_and] at e2
        rw [e1.2, e2]
      · have e1 : (Instr.lookup 87 (.map (some mb)) (pkV x) false).run Try.prog w = .ok (.int .i64 0) w := by
          have hz := fun u => zero3 u
          simp [Instr.lookup, run_underlying Try.underlying87, MapKept.run_getObj_map hb, pk_law.check w es.isEmpty hkey, g1, hz, Result.andThen]
        rw [hL] at e1
        simpa [pg] using e1
    · refine .inl ⟨?_, trivial⟩
      have hj : es[j]? = some e0 := by simpa using g2
      have hsame : es.modify j (fun e => { e with key := pkV x }) = es := by
        apply Array.ext'
        rw [Array.toList_modify, modify_eq_set _ _ _ _ g2]
        have : ({ e0 with key := pkV x } : MapEntry) = e0 := by rw [← g3]
        rw [this]
        exact set_self _ _ _ g2
      have e1 : (Instr.mapEntry 87 (.map (some mb)) (pkV x)).run Try.prog w = .ok (.tuple #[e0.val, goInt e0.born]) (setBlock w mb (.map es clock)) := by
        simp [Instr.mapEntry, run_underlying Try.underlying87, MapKept.run_getObj_map hb, pk_law.check w false hkey, g1, hj, g3, pk_law.stays w hkey, hsame, MapKept.run_setObj_map _ hb, Result.andThen, setBlock]
      rw [hme] at e1
      simp only [Result.ok.injEq] at e1
      rw [e1.2]
      exact set_self2 hb
  refine ⟨v0, st, setBlock w mb (.map es1 clock1), _, hme, ?_, hes, ?_, ?_, ?_⟩
  · rcases hw1 with ⟨e, -⟩ | ⟨e, e2⟩
    · rw [e]
      exact hL
    · rw [e, hM0.look x hx, e2]
      simp [updP, eqP_self]
  · rw [set_twice, ← hup]
    exact hM
  · rw [set_twice, ← hup]
    exact hgr
  · rcases hw1 with ⟨e, -⟩ | ⟨e, -⟩
    · rw [e]
      exact grown_refl _ _
    · rw [e]
      exact hgr0
end Go.Proofs.Ytagfolckodpioaa.K2
