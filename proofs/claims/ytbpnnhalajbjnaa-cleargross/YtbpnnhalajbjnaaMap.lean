/- Sums by account: a map of positions in memory. -/
import Derived.Test.YtbpnnhalajbjnaaKit
import Derived.Test.YtbpnnhalajbjnaaApp
import Derived.Maps.OwnSet
import Derived.Lib.SlKeysI
namespace Go.Proofs.Ytbpnnhalajbjnaa
open Go.RowKit Go.Maps
set_option linter.all false
def heldR (v : Value) : Option (DataW Value × List MemPlace) := some (.held v, [])
theorem ownsMap_block {w w' : World} {b n : Nat} {D : DataW Value} (h : w.ownsMap Try.prog 3 heldR b n D) (hb : w'.heap[b]? = w.heap[b]?) : w'.ownsMap Try.prog 3 heldR b n D := by
  obtain ⟨es, clock, hb', r⟩ := h
  exact ⟨es, clock, hb.trans hb', r⟩
def keyL (x : Int) : Lit := .int .i64 x
theorem wf64 (x : Int) (h1 : -9223372036854775808 ≤ x) (h2 : x ≤ 9223372036854775807) : (Lit.int .i64 x).wf = true := by
  have e1 : IntKind.i64.min = -9223372036854775808 := by decide
  have e2 : IntKind.i64.max = 9223372036854775807 := by decide
  simp [Lit.wf, e1, e2]; omega
structure PosV where
  acc : Int
  m : Int
  g : Int
def posE (p : PosV) : List Value := [.int .i64 p.acc, .int .i64 p.m, .int .i64 p.g]
theorem posK (p : PosV) : (posE p).length = 3 := rfl
theorem pos1 (p : PosV) : ∀ u ∈ posE p, u.oneCell' = true := by
  intro u hu
  simp only [posE, List.mem_cons, List.not_mem_nil, or_false] at hu
  rcases hu with rfl | rfl | rfl <;> rfl
theorem info31 : (Try.prog.info? 31).map (fun i => (i.zero, i.size, i.bytes)) = some (some (.agg #[.int .i64 0, .int .i64 0, .int .i64 0]), 3, 24) := by kernel_rfl
def posV (x : Int) (p : Int × Int) : Value := .agg #[.int .i64 x, .int .i64 p.1, .int .i64 p.2]
def zeroP : Value := .agg #[.int .i64 0, .int .i64 0, .int .i64 0]
theorem zero31 (w : World) : (zeroValue 31).run Try.prog w = .ok zeroP w := by kernel_rfl
abbrev Sums := Int → Option (Int × Int)
/-- Sums in memory. -/
def MP (w : World) (mb c : Nat) (f : Sums) : Prop := ∃ n D, n ≤ c ∧ w.ownsMap Try.prog 3 heldR mb n D ∧ (∀ x p, f x = some p → ∀ z, D.atKey (keyL x) z = .held (posV x p)) ∧ ∀ x, f x = none → ∀ z, D.atKey (keyL x) z = z
theorem MP.block {w w' : World} {mb c : Nat} {f : Sums} (h : MP w mb c f) (hb : w'.heap[mb]? = w.heap[mb]?) : MP w' mb c f := by
  obtain ⟨n, D, h1, h2, h3, h4⟩ := h
  exact ⟨n, D, h1, ownsMap_block h2 hb, h3, h4⟩
theorem MP.lt {w : World} {mb c : Nat} {f : Sums} (h : MP w mb c f) : mb < w.heap.size := by
  obtain ⟨n, D, h1, h2, h3, h4⟩ := h
  exact h2.lt
theorem MP.keep {w w' : World} {mb c : Nat} {f : Sums} (h : MP w mb c f) (hb : Below w.heap.size w w') : MP w' mb c f := h.block (hb.block mb h.lt)
theorem MP.look {w : World} {mb c : Nat} {f : Sums} (h : MP w mb c f) (x : Int) (hx : (Lit.int .i64 x).wf = true) : (Instr.lookup 70 (.map (some mb)) (.int .i64 x) false).run Try.prog w = .ok (match f x with | some p => posV x p | none => zeroP) w := by
  obtain ⟨n, D, h1, h2, h3, h4⟩ := h
  obtain ⟨v, ps, hrun, hv⟩ := h2.lookup (int_keyed Try.underlying3) Try.underlying70 (zero31 w) (zd := .held zeroP) (zp := []) rfl (key := .int .i64 x) (kl := keyL x) (keyOf_int_mk Try.underlying3 hx)
  cases hf : f x with
  | none =>
    rw [h4 x hf] at hv
    simp [heldR] at hv
    rw [hrun, hv.1]
  | some p =>
    rw [h3 x p hf] at hv
    simp [heldR] at hv
    rw [hrun, hv.1]
theorem MP.look_ok {w : World} {mb c : Nat} {f : Sums} (h : MP w mb c f) (x : Int) (hx : (Lit.int .i64 x).wf = true) : (Instr.lookup 70 (.map (some mb)) (.int .i64 x) true).run Try.prog w = .ok (match f x with | some p => .tuple #[posV x p, .bool true] | none => .tuple #[zeroP, .bool false]) w := by
  obtain ⟨n, D, h1, h2, h3, h4⟩ := h
  obtain ⟨v, ps, hrun, hv⟩ := h2.look_ok (int_keyed Try.underlying3) Try.underlying70 (zero31 w) (zd := .held zeroP) (zp := []) rfl (key := .int .i64 x) (kl := keyL x) (keyOf_int_mk Try.underlying3 hx)
  cases hf : f x with
  | none =>
    rw [h4 x hf] at hv
    simp [heldR] at hv
    rw [hrun, hv.1, has_false_of_atKey (h4 x hf)]
  | some p =>
    rw [h3 x p hf] at hv
    simp [heldR] at hv
    rw [hrun, hv.1, has_true_of_atKey (h3 x p hf)]
def updS (f : Sums) (x : Int) (p : Int × Int) : Sums := fun j => if j = x then some p else f j
theorem MP.store {w : World} {mb c : Nat} {f : Sums} (h : MP w mb c f) (hc : c ≤ 1000000) (x : Int) (hx : (Lit.int .i64 x).wf = true) (p : Int × Int) : ∃ w', (Instr.mapUpdate 70 (.map (some mb)) (.int .i64 x) (posV x p)).run Try.prog w = .ok () w' ∧ MP w' mb (c + 1) (updS f x p) ∧ w.grownBy w' (some mb) := by
  obtain ⟨n, D, h1, h2, h3, h4⟩ := h
  obtain ⟨w', hrun, hown, hturn⟩ := h2.store (int_keyed Try.underlying3) Try.underlying70 (by unfold maxLen; omega) (val := posV x p) (keyOf_int_mk Try.underlying3 hx) (d := .held (posV x p)) (ps := []) rfl
  have hne : ∀ y : Int, y ≠ x → keyL y ≠ keyL x := fun y hy e => hy (by simpa [keyL] using e)
  refine ⟨w', hrun, ⟨n + 1, _, by omega, hown, fun y q hy z => ?_, fun y hy z => ?_⟩, hturn.grown⟩
  · unfold updS at hy
    by_cases e : y = x
    · subst e
      rw [if_pos rfl] at hy
      cases hy
      exact atKey_put_same h2.isMap (show WideAt.IsKeyLit (keyL y) from trivial) _ z
    · rw [if_neg e] at hy
      exact (atKey_put_other (hne y e) _ z).trans (h3 y q hy z)
  · unfold updS at hy
    by_cases e : y = x
    · subst e
      rw [if_pos rfl] at hy
      cases hy
    · rw [if_neg e] at hy
      exact (atKey_put_other (hne y e) _ z).trans (h4 y hy z)
end Go.Proofs.Ytbpnnhalajbjnaa
