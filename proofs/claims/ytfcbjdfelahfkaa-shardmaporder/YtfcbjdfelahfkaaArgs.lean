/- Maps, keys, places among the arguments, opened. -/
import Derived.Test.YtfcbjdfelahfkaaKit
import Derived.Test.YtfcbjdfelahfkaaChecked
import Derived.ProofKit
import Derived.OpenShut
import Derived.Below
import Derived.ChangeOld
import Derived.SizedLaws
namespace Go.Proofs.Ytfcbjdfelahfkaa
open Go.ChangeShapes Go.WideShapes Go.ChangeAt Go.RowKit
set_option linter.all false
theorem laidOut : laidOutB Try.prog = true := by kernel_rfl
theorem cells3 : Try.prog.cellsOf 3 = 1 := by kernel_rfl
theorem cells4 : Try.prog.cellsOf 4 = 1 := by kernel_rfl
theorem cells22 : Try.prog.cellsOf 22 = 1 := by kernel_rfl
theorem cells24 : Try.prog.cellsOf 24 = 2 := by kernel_rfl
theorem cells26 : Try.prog.cellsOf 26 = 4 := by kernel_rfl
theorem bytes26 : Try.prog.bytesOf 26 = 32 := by kernel_rfl
theorem two {α : Type} (l : List α) (h : l.length = 2) : ∃ a b, l = [a, b] := by
  match l, h with
  | [a, b], _ => exact ⟨a, b, rfl⟩
theorem three {α : Type} (l : List α) (h : l.length = 3) : ∃ a b c, l = [a, b, c] := by
  match l, h with
  | [a, b, c], _ => exact ⟨a, b, c, rfl⟩
theorem four {α : Type} (l : List α) (h : l.length = 4) : ∃ a b c d, l = [a, b, c, d] := by
  match l, h with
  | [a, b, c, d], _ => exact ⟨a, b, c, d, rfl⟩
theorem five {α : Type} (l : List α) (h : l.length = 5) : ∃ a b c d e, l = [a, b, c, d, e] := by
  match l, h with
  | [a, b, c, d, e], _ => exact ⟨a, b, c, d, e, rfl⟩
theorem reach_lt {n : Nat} (h : n ≤ reachBytes) : n ≤ 140737488355328 := by
  have hr : reachBytes < 2 ^ 47 := reachBytes_lt
  have e3 : (2 : Nat) ^ 47 = 140737488355328 := by decide
  omega
theorem pair24 {H : Type} {enc : TypeId × Value → H} {W : World} {n : Nat} {cs : List Value} {x : DataW H × List MemPlace} (hl : cs.length = 2)
    (h : DataW.trod enc Try.prog W 0 (fun _ => true) true n 24 cs = some x) : ∃ i t, cs = [.int .i64 i, .int .i64 t] := by
  obtain ⟨xs, n', _, _, _, hxl, hfs⟩ := DataW.trod_struct Try.underlying24 h
  have f0 : DataW.trod enc Try.prog W 0 (fun _ => true) true n' 3 ((cs.drop 0).take (Try.prog.cellsOf 3)) = xs[0]? := hfs 0 _ rfl
  have f1 : DataW.trod enc Try.prog W 0 (fun _ => true) true n' 3 ((cs.drop 1).take (Try.prog.cellsOf 3)) = xs[1]? := hfs 1 _ rfl
  rw [cells3] at f0 f1
  obtain ⟨v0, v1, rfl⟩ := two cs hl
  obtain ⟨y0, y1, rfl⟩ := two xs hxl
  simp only [List.drop_zero, List.drop_succ_cons, List.take_succ_cons, List.take_zero] at f0 f1
  obtain ⟨x0, e0, _, w0⟩ := DataW.trod_int Try.underlying3 f0
  obtain ⟨x1, e1, _, w1⟩ := DataW.trod_int Try.underlying3 f1
  obtain rfl : v0 = _ := by simpa using e0
  obtain rfl : v1 = _ := by simpa using e1
  exact ⟨x0, x1, rfl⟩
theorem open24 {H : Type} {enc : TypeId × Value → H} {W : World} {b0 : Nat} {v : Value} {d : DataW H} {p : List MemPlace}
    (hv : Value.okWide Try.prog W .any b0 24 v) (h : DataW.Trod enc Try.prog W 0 (fun _ => true) true 24 v d p) : ∃ i t, v = .agg #[.int .i64 i, .int .i64 t] := by
  obtain ⟨cs, rfl, hsz⟩ := okWide_struct Try.underlying24 hv
  rw [cells24] at hsz
  obtain ⟨fuel, hf⟩ := h
  obtain ⟨i, t, e⟩ := pair24 (cs := (Value.agg cs).cells.toList) (by simpa [Value.cells] using hsz) hf
  refine ⟨i, t, ?_⟩
  have e2 : cs.toList = [.int .i64 i, .int .i64 t] := by simpa [Value.cells] using e
  have : cs = #[.int .i64 i, .int .i64 t] := by rw [← Array.toArray_toList (xs := cs), e2]
  rw [this]
theorem pla_cells {H : Type} {enc : TypeId × Value → H} {W : World} {n : Nat} {cs : List Value} {x : DataW H × List MemPlace} (hl : cs.length = 4)
    (h : DataW.trod enc Try.prog W 0 (fun _ => true) true n 26 cs = some x) : ∃ p : PlaV, cs = plaE p := by
  obtain ⟨xs, n', _, _, _, hxl, hfs⟩ := DataW.trod_struct Try.underlying26 h
  have f0 : DataW.trod enc Try.prog W 0 (fun _ => true) true n' 24 ((cs.drop 0).take (Try.prog.cellsOf 24)) = xs[0]? := hfs 0 _ rfl
  have f1 : DataW.trod enc Try.prog W 0 (fun _ => true) true n' 3 ((cs.drop 2).take (Try.prog.cellsOf 3)) = xs[1]? := hfs 1 _ rfl
  have f2 : DataW.trod enc Try.prog W 0 (fun _ => true) true n' 3 ((cs.drop 3).take (Try.prog.cellsOf 3)) = xs[2]? := hfs 2 _ rfl
  rw [cells24] at f0
  rw [cells3] at f1 f2
  obtain ⟨v0, v1, v2, v3, rfl⟩ := four cs hl
  obtain ⟨y0, y1, y2, rfl⟩ := three xs hxl
  simp only [List.drop_zero, List.drop_succ_cons, List.take_succ_cons, List.take_zero, List.getElem?_cons_zero, List.getElem?_cons_succ] at f0 f1 f2
  obtain ⟨a, b, e0⟩ := pair24 rfl f0
  obtain ⟨c, e1, _, w1⟩ := DataW.trod_int Try.underlying3 f1
  obtain ⟨d, e2, _, w2⟩ := DataW.trod_int Try.underlying3 f2
  simp only [List.cons.injEq, and_true] at e0 e1 e2
  obtain ⟨rfl, rfl⟩ := e0
  subst e1 e2
  exact ⟨((a, b), (c, d)), rfl⟩
theorem open26 {H : Type} {enc : TypeId × Value → H} {W : World} {b0 : Nat} {v : Value} {d : DataW H} {p : List MemPlace}
    (hv : Value.okWide Try.prog W .any b0 26 v) (h : DataW.Trod enc Try.prog W 0 (fun _ => true) true 26 v d p) : ∃ x y z u, v = .agg #[.int .i64 x, .int .i64 y, .int .i64 z, .int .i64 u] := by
  obtain ⟨cs, rfl, hsz⟩ := okWide_struct Try.underlying26 hv
  rw [cells26] at hsz
  obtain ⟨fuel, hf⟩ := h
  obtain ⟨q, e⟩ := pla_cells (cs := (Value.agg cs).cells.toList) (by simpa [Value.cells] using hsz) hf
  obtain ⟨⟨x, y⟩, ⟨z, u⟩⟩ := q
  refine ⟨x, y, z, u, ?_⟩
  have e2 : cs.toList = [.int .i64 x, .int .i64 y, .int .i64 z, .int .i64 u] := by simpa [Value.cells, plaE] using e
  have : cs = #[.int .i64 x, .int .i64 y, .int .i64 z, .int .i64 u] := by rw [← Array.toArray_toList (xs := cs), e2]
  rw [this]
set_option maxRecDepth 100000 in
theorem plas_cells {H : Type} {enc : TypeId × Value → H} {W : World} {n : Nat} {v : Value} {x : DataW H × List MemPlace}
    (h : DataW.trod enc Try.prog W 0 (fun _ => true) true n 22 [v] = some x) :
    ∃ a c, ∃ l : List PlaV, v = .slice a l.length c ∧ (l.length ≤ c ∧ c ≤ maxLen) ∧ (0 < l.length → ∃ b off, a = some ⟨b, off, none⟩ ∧ b < W.heap.size ∧ ∀ j, j < l.length * 4 → W.cell? ⟨b, off + j, none⟩ = (celC plaE l)[j]?) ∧
      (x.1 = .nil ∧ l = [] ∨ ∃ el sp, x.1 = .slice el sp ∧ l.length = el.length) := by
  rcases Deep.open_slice Try.underlying22 h with ⟨hcs, hx⟩ | ⟨x0, len, c, m, n0, D, Pl, hcs, _, hl, hm, hmm, hxe, hx⟩
  · have : v = .slice none 0 0 := by simpa using hcs
    subst this
    exact ⟨none, 0, [], rfl, ⟨Nat.le_refl _, Nat.zero_le _⟩, fun h => absurd h (by simp), .inl ⟨by rw [hx], rfl⟩⟩
  · have : v = .slice (some x0) len c := by simpa using hcs
    subst this
    simp only [if_true] at hmm
    rw [cells26] at hx
    obtain ⟨b, off, spot⟩ := x0
    have hspot0 : 0 < len → spot = none := by
      intro hpos
      obtain ⟨cs', h1, _⟩ := hx 0 (by omega)
      obtain ⟨_, hlen, hcell⟩ := World.cells?_some h1
      have h5 : 0 < cs'.length := by omega
      have g := World.cell?_spot ((hcell 0 (by omega)).trans (List.getElem?_eq_getElem h5))
      simpa [Addr.add] using g
    have key : ∀ i, i < len → ∃ o : PlaV, spot = none ∧ b < W.heap.size ∧ ∀ j, j < 4 → W.cell? ⟨b, off + i * 4 + j, none⟩ = (plaE o)[j]? := by
      intro i hi
      obtain ⟨cs', h1, h2⟩ := hx i (by omega)
      obtain ⟨_, hlen, hcell⟩ := World.cells?_some h1
      obtain ⟨o, rfl⟩ := pla_cells hlen h2
      have hspot : spot = none := hspot0 (by omega)
      subst hspot
      refine ⟨o, rfl, ?_, fun j hj => ?_⟩
      · have k0 := hcell 0 (by omega)
        rw [addN, addN] at k0
        rcases Nat.lt_or_ge b W.heap.size with h' | h'
        · exact h'
        · simp [World.cell?, Array.getElem?_eq_none h', plaE] at k0
      · have k0 := hcell j (by omega)
        rw [addN, addN] at k0
        rw [k0]
    obtain ⟨f, hfo⟩ := @Deep.choose_lt PlaV ⟨((0, 0), (0, 0))⟩ len (fun i o => spot = none ∧ b < W.heap.size ∧ ∀ j, j < 4 → W.cell? ⟨b, off + i * 4 + j, none⟩ = (plaE o)[j]?) key
    refine ⟨some ⟨b, off, spot⟩, c, (List.range len).map f, by simp, ⟨by simpa using hl, hm⟩, fun hp => ?_, .inr ⟨_, _, by rw [hxe], by simp⟩⟩
    have hp' : 0 < len := by simpa using hp
    have hsp := hspot0 hp'
    subst hsp
    refine ⟨b, off, rfl, (hfo 0 hp').2.1, fun j hj => ?_⟩
    have hj' : j < len * 4 := by simpa using hj
    have hi : j / 4 < len := by omega
    have q0 := (hfo (j / 4) hi).2.2 (j % 4) (by omega)
    have g0 := celC_get plaK ((List.range len).map f) (j / 4) (by simpa using hi) (j % 4) (by omega)
    simp only [List.getElem_map, List.getElem_range] at g0
    have e : off + j = off + j / 4 * 4 + j % 4 := by omega
    rw [e, q0, ← g0, show j / 4 * 4 + j % 4 = j by omega]
/-- A map among the arguments. -/
theorem open_map20 {H : Type} {enc : TypeId × Value → H} {W : World} {b0 : Nat} {v : Value} {d : DataW H} {p : List MemPlace}
    (hv : Value.okWide Try.prog W .any b0 22 v) (h : DataW.Trod enc Try.prog W 0 (fun _ => true) true 22 v d p) (ts : List TypeId) (ds : List (DataW H)) (j : Nat)
    (hall : (DataW.weightsEach Try.prog ts ds).all (· ≤ reachBytes) = true) (hts : ts[j]? = some 22) (hds : ds[j]? = some d) :
    ∃ l, Plas W v l := by
  obtain ⟨fuel, hf⟩ := h
  obtain ⟨va, len, c0, rfl⟩ := okWide_slice Try.underlying22 hv
  obtain ⟨a, c, l, e, hcc, hg, hx⟩ := plas_cells (x := (d, p)) hf
  refine ⟨l, ?_, a, c, e, hcc, hg⟩
  rcases hx with ⟨_, hl⟩ | ⟨el, sp, hx, hle⟩
  · rw [hl]
    simp
  · dsimp only at hx
    subst hx
    have hw := List.all_eq_true.1 hall _ (DataW.weights_mem_each hts hds ((el.length + sp.length) * Try.prog.bytesOf 26) (by simp [DataW.weights, Try.underlying22]))
    rw [bytes26] at hw
    have hw2 : (el.length + sp.length) * 32 ≤ reachBytes := by simpa using hw
    have := reach_lt hw2
    omega
end Go.Proofs.Ytfcbjdfelahfkaa
