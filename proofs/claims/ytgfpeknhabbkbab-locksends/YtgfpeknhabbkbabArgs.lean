/- Tables, keys, names and steps among the arguments, opened. -/
import Derived.Test.YtgfpeknhabbkbabKit
import Derived.Test.YtgfpeknhabbkbabChecked
import Derived.ProofKit
import Derived.OpenShut
import Derived.Below
import Derived.ChangeOld
import Derived.SizedLaws
namespace Go.Proofs.Ytgfpeknhabbkbab
open Go.ChangeShapes Go.WideShapes Go.ChangeAt Go.RowKit
set_option linter.all false
theorem laidOut : laidOutB Try.prog = true := by kernel_rfl
theorem cells3 : Try.prog.cellsOf 3 = 1 := by kernel_rfl
theorem cells4 : Try.prog.cellsOf 4 = 1 := by kernel_rfl
theorem cells22 : Try.prog.cellsOf 23 = 1 := by kernel_rfl
theorem cells24 : Try.prog.cellsOf 25 = 2 := by kernel_rfl
theorem cells26 : Try.prog.cellsOf 32 = 2 := by kernel_rfl
theorem cells28 : Try.prog.cellsOf 29 = 2 := by kernel_rfl
theorem cells44 : Try.prog.cellsOf 34 = 4 := by kernel_rfl
theorem cells67 : Try.prog.cellsOf 40 = 5 := by kernel_rfl
theorem bytes44 : Try.prog.bytesOf 34 = 32 := by kernel_rfl
theorem bytes67 : Try.prog.bytesOf 40 = 40 := by kernel_rfl
theorem two {α : Type} (l : List α) (h : l.length = 2) : ∃ a b, l = [a, b] := by
  match l, h with
  | [a, b], _ => exact ⟨a, b, rfl⟩
theorem three {α : Type} (l : List α) (h : l.length = 3) : ∃ a b c, l = [a, b, c] := by
  match l, h with
  | [a, b, c], _ => exact ⟨a, b, c, rfl⟩
theorem four {α : Type} (l : List α) (h : l.length = 4) : ∃ a b c d, l = [a, b, c, d] := by
  match l, h with
  | [a, b, c, d], _ => exact ⟨a, b, c, d, rfl⟩
theorem five {α : Type} (l : List α) (h : l.length = 5) : ∃ a b c d e, l = [a, b, c, d, e] := by
  match l, h with
  | [a, b, c, d, e], _ => exact ⟨a, b, c, d, e, rfl⟩
theorem reach_lt {n : Nat} (h : n ≤ reachBytes) : n ≤ 140737488355328 := by
  have hr : reachBytes < 2 ^ 47 := reachBytes_lt
  have e3 : (2 : Nat) ^ 47 = 140737488355328 := by decide
  omega
theorem pair26 {H : Type} {enc : TypeId × Value → H} {W : World} {n : Nat} {cs : List Value} {x : DataW H × List MemPlace} (hl : cs.length = 2)
    (h : DataW.trod enc Try.prog W 0 (fun _ => true) true n 32 cs = some x) : ∃ i t, cs = [.int .i64 i, .int .i64 t] := by
  obtain ⟨xs, n', _, _, _, hxl, hfs⟩ := DataW.trod_struct Try.underlying32 h
  have f0 : DataW.trod enc Try.prog W 0 (fun _ => true) true n' 3 ((cs.drop 0).take (Try.prog.cellsOf 3)) = xs[0]? := hfs 0 _ rfl
  have f1 : DataW.trod enc Try.prog W 0 (fun _ => true) true n' 3 ((cs.drop 1).take (Try.prog.cellsOf 3)) = xs[1]? := hfs 1 _ rfl
  rw [cells3] at f0 f1
  obtain ⟨v0, v1, rfl⟩ := two cs hl
  obtain ⟨y0, y1, rfl⟩ := two xs hxl
  simp only [List.drop_zero, List.drop_succ_cons, List.take_succ_cons, List.take_zero] at f0 f1
  obtain ⟨x0, e0, _, w0⟩ := DataW.trod_int Try.underlying3 f0
  obtain ⟨x1, e1, _, w1⟩ := DataW.trod_int Try.underlying3 f1
  obtain rfl : v0 = _ := by simpa using e0
  obtain rfl : v1 = _ := by simpa using e1
  exact ⟨x0, x1, rfl⟩
theorem open26 {H : Type} {enc : TypeId × Value → H} {W : World} {b0 : Nat} {v : Value} {d : DataW H} {p : List MemPlace}
    (hv : Value.okWide Try.prog W .any b0 32 v) (h : DataW.Trod enc Try.prog W 0 (fun _ => true) true 32 v d p) : ∃ i t, v = .agg #[.int .i64 i, .int .i64 t] := by
  obtain ⟨cs, rfl, hsz⟩ := okWide_struct Try.underlying32 hv
  rw [cells26] at hsz
  obtain ⟨fuel, hf⟩ := h
  obtain ⟨i, t, e⟩ := pair26 (cs := (Value.agg cs).cells.toList) (by simpa [Value.cells] using hsz) hf
  refine ⟨i, t, ?_⟩
  have e2 : cs.toList = [.int .i64 i, .int .i64 t] := by simpa [Value.cells] using e
  have : cs = #[.int .i64 i, .int .i64 t] := by rw [← Array.toArray_toList (xs := cs), e2]
  rw [this]
theorem pair28 {H : Type} {enc : TypeId × Value → H} {W : World} {n : Nat} {cs : List Value} {x : DataW H × List MemPlace} (hl : cs.length = 2)
    (h : DataW.trod enc Try.prog W 0 (fun _ => true) true n 29 cs = some x) : ∃ i t, cs = [.int .i64 i, .int .i64 t] := by
  obtain ⟨xs, n', _, _, _, hxl, hfs⟩ := DataW.trod_struct Try.underlying29 h
  have f0 : DataW.trod enc Try.prog W 0 (fun _ => true) true n' 3 ((cs.drop 0).take (Try.prog.cellsOf 3)) = xs[0]? := hfs 0 _ rfl
  have f1 : DataW.trod enc Try.prog W 0 (fun _ => true) true n' 3 ((cs.drop 1).take (Try.prog.cellsOf 3)) = xs[1]? := hfs 1 _ rfl
  rw [cells3] at f0 f1
  obtain ⟨v0, v1, rfl⟩ := two cs hl
  obtain ⟨y0, y1, rfl⟩ := two xs hxl
  simp only [List.drop_zero, List.drop_succ_cons, List.take_succ_cons, List.take_zero] at f0 f1
  obtain ⟨x0, e0, _, w0⟩ := DataW.trod_int Try.underlying3 f0
  obtain ⟨x1, e1, _, w1⟩ := DataW.trod_int Try.underlying3 f1
  obtain rfl : v0 = _ := by simpa using e0
  obtain rfl : v1 = _ := by simpa using e1
  exact ⟨x0, x1, rfl⟩
theorem open28 {H : Type} {enc : TypeId × Value → H} {W : World} {b0 : Nat} {v : Value} {d : DataW H} {p : List MemPlace}
    (hv : Value.okWide Try.prog W .any b0 29 v) (h : DataW.Trod enc Try.prog W 0 (fun _ => true) true 29 v d p) : ∃ i t, v = .agg #[.int .i64 i, .int .i64 t] := by
  obtain ⟨cs, rfl, hsz⟩ := okWide_struct Try.underlying29 hv
  rw [cells28] at hsz
  obtain ⟨fuel, hf⟩ := h
  obtain ⟨i, t, e⟩ := pair28 (cs := (Value.agg cs).cells.toList) (by simpa [Value.cells] using hsz) hf
  refine ⟨i, t, ?_⟩
  have e2 : cs.toList = [.int .i64 i, .int .i64 t] := by simpa [Value.cells] using e
  have : cs = #[.int .i64 i, .int .i64 t] := by rw [← Array.toArray_toList (xs := cs), e2]
  rw [this]
theorem hol_cells {H : Type} {enc : TypeId × Value → H} {W : World} {n : Nat} {cs : List Value} {x : DataW H × List MemPlace} (hl : cs.length = 4)
    (h : DataW.trod enc Try.prog W 0 (fun _ => true) true n 34 cs = some x) : ∃ p : HoldV, cs = holE p := by
  obtain ⟨xs, n', _, _, _, hxl, hfs⟩ := DataW.trod_struct Try.underlying34 h
  have f0 : DataW.trod enc Try.prog W 0 (fun _ => true) true n' 32 ((cs.drop 0).take (Try.prog.cellsOf 32)) = xs[0]? := hfs 0 _ rfl
  have f1 : DataW.trod enc Try.prog W 0 (fun _ => true) true n' 29 ((cs.drop 2).take (Try.prog.cellsOf 29)) = xs[1]? := hfs 1 _ rfl
  rw [cells26] at f0
  rw [cells28] at f1
  obtain ⟨v0, v1, v2, v3, rfl⟩ := four cs hl
  obtain ⟨y0, y1, rfl⟩ := two xs hxl
  simp only [List.drop_zero, List.drop_succ_cons, List.take_succ_cons, List.take_zero, List.getElem?_cons_zero, List.getElem?_cons_succ] at f0 f1
  obtain ⟨a, b, e0⟩ := pair26 rfl f0
  obtain ⟨c, d, e1⟩ := pair28 rfl f1
  simp only [List.cons.injEq, and_true] at e0 e1
  obtain ⟨rfl, rfl⟩ := e0
  obtain ⟨rfl, rfl⟩ := e1
  exact ⟨((a, b), (c, d)), rfl⟩
/-- A step: a key that is asked for, or let go. -/
abbrev StepV := KeyV × TxnV × Bool
def stpE (s : StepV) : List Value := [.int .i64 s.1.1, .int .i64 s.1.2, .int .i64 s.2.1.1, .int .i64 s.2.1.2, .bool s.2.2]
theorem stpK (s : StepV) : (stpE s).length = 5 := rfl
theorem stp_cells {H : Type} {enc : TypeId × Value → H} {W : World} {n : Nat} {cs : List Value} {x : DataW H × List MemPlace} (hl : cs.length = 5)
    (h : DataW.trod enc Try.prog W 0 (fun _ => true) true n 40 cs = some x) : ∃ p : StepV, cs = stpE p := by
  obtain ⟨xs, n', _, _, _, hxl, hfs⟩ := DataW.trod_struct Try.underlying40 h
  have f0 : DataW.trod enc Try.prog W 0 (fun _ => true) true n' 32 ((cs.drop 0).take (Try.prog.cellsOf 32)) = xs[0]? := hfs 0 _ rfl
  have f1 : DataW.trod enc Try.prog W 0 (fun _ => true) true n' 29 ((cs.drop 2).take (Try.prog.cellsOf 29)) = xs[1]? := hfs 1 _ rfl
  have f2 : DataW.trod enc Try.prog W 0 (fun _ => true) true n' 4 ((cs.drop 4).take (Try.prog.cellsOf 4)) = xs[2]? := hfs 2 _ rfl
  rw [cells26] at f0
  rw [cells28] at f1
  rw [cells4] at f2
  obtain ⟨v0, v1, v2, v3, v4, rfl⟩ := five cs hl
  obtain ⟨y0, y1, y2, rfl⟩ := three xs hxl
  simp only [List.drop_zero, List.drop_succ_cons, List.take_succ_cons, List.take_zero, List.getElem?_cons_zero, List.getElem?_cons_succ] at f0 f1 f2
  obtain ⟨a, b, e0⟩ := pair26 rfl f0
  obtain ⟨c, d, e1⟩ := pair28 rfl f1
  obtain ⟨z, e2, _⟩ := DataW.trod_bool Try.underlying4 f2
  simp only [List.cons.injEq, and_true] at e0 e1 e2
  obtain ⟨rfl, rfl⟩ := e0
  obtain ⟨rfl, rfl⟩ := e1
  subst e2
  exact ⟨((a, b), (c, d), z), rfl⟩
set_option maxRecDepth 100000 in
theorem hols_cells {H : Type} {enc : TypeId × Value → H} {W : World} {n : Nat} {v : Value} {x : DataW H × List MemPlace}
    (h : DataW.trod enc Try.prog W 0 (fun _ => true) true n 23 [v] = some x) :
    ∃ a c, ∃ l : List HoldV, v = .slice a l.length c ∧ (l.length ≤ c ∧ c ≤ maxLen) ∧ (0 < l.length → ∃ b off, a = some ⟨b, off, none⟩ ∧ b < W.heap.size ∧ ∀ j, j < l.length * 4 → W.cell? ⟨b, off + j, none⟩ = (celC holE l)[j]?) ∧
      (x.1 = .nil ∧ l = [] ∨ ∃ el sp, x.1 = .slice el sp ∧ l.length = el.length) := by
  rcases Deep.open_slice Try.underlying23 h with ⟨hcs, hx⟩ | ⟨x0, len, c, m, n0, D, Pl, hcs, _, hl, hm, hmm, hxe, hx⟩
  · have : v = .slice none 0 0 := by simpa using hcs
    subst this
    exact ⟨none, 0, [], rfl, ⟨Nat.le_refl _, Nat.zero_le _⟩, fun h => absurd h (by simp), .inl ⟨by rw [hx], rfl⟩⟩
  · have : v = .slice (some x0) len c := by simpa using hcs
    subst this
    simp only [if_true] at hmm
    rw [cells44] at hx
    obtain ⟨b, off, spot⟩ := x0
    have hspot0 : 0 < len → spot = none := by
      intro hpos
      obtain ⟨cs', h1, _⟩ := hx 0 (by omega)
      obtain ⟨_, hlen, hcell⟩ := World.cells?_some h1
      have h5 : 0 < cs'.length := by omega
      have g := World.cell?_spot ((hcell 0 (by omega)).trans (List.getElem?_eq_getElem h5))
      simpa [Addr.add] using g
    have key : ∀ i, i < len → ∃ o : HoldV, spot = none ∧ b < W.heap.size ∧ ∀ j, j < 4 → W.cell? ⟨b, off + i * 4 + j, none⟩ = (holE o)[j]? := by
      intro i hi
      obtain ⟨cs', h1, h2⟩ := hx i (by omega)
      obtain ⟨_, hlen, hcell⟩ := World.cells?_some h1
      obtain ⟨o, rfl⟩ := hol_cells hlen h2
      have hspot : spot = none := hspot0 (by omega)
      subst hspot
      refine ⟨o, rfl, ?_, fun j hj => ?_⟩
      · have k0 := hcell 0 (by omega)
        rw [addN, addN] at k0
        rcases Nat.lt_or_ge b W.heap.size with h' | h'
        · exact h'
        · simp [World.cell?, Array.getElem?_eq_none h', holE] at k0
      · have k0 := hcell j (by omega)
        rw [addN, addN] at k0
        rw [k0]
    obtain ⟨f, hfo⟩ := @Deep.choose_lt HoldV ⟨((0, 0), (0, 0))⟩ len (fun i o => spot = none ∧ b < W.heap.size ∧ ∀ j, j < 4 → W.cell? ⟨b, off + i * 4 + j, none⟩ = (holE o)[j]?) key
    refine ⟨some ⟨b, off, spot⟩, c, (List.range len).map f, by simp, ⟨by simpa using hl, hm⟩, fun hp => ?_, .inr ⟨_, _, by rw [hxe], by simp⟩⟩
    have hp' : 0 < len := by simpa using hp
    have hsp := hspot0 hp'
    subst hsp
    refine ⟨b, off, rfl, (hfo 0 hp').2.1, fun j hj => ?_⟩
    have hj' : j < len * 4 := by simpa using hj
    have hi : j / 4 < len := by omega
    have q0 := (hfo (j / 4) hi).2.2 (j % 4) (by omega)
    have g0 := celC_get holK ((List.range len).map f) (j / 4) (by simpa using hi) (j % 4) (by omega)
    simp only [List.getElem_map, List.getElem_range] at g0
    have e : off + j = off + j / 4 * 4 + j % 4 := by omega
    rw [e, q0, ← g0, show j / 4 * 4 + j % 4 = j by omega]
set_option maxRecDepth 100000 in
theorem stps_cells {H : Type} {enc : TypeId × Value → H} {W : World} {n : Nat} {v : Value} {x : DataW H × List MemPlace}
    (h : DataW.trod enc Try.prog W 0 (fun _ => true) true n 22 [v] = some x) :
    ∃ a c, ∃ l : List StepV, v = .slice a l.length c ∧ (l.length ≤ c ∧ c ≤ maxLen) ∧ (0 < l.length → ∃ b off, a = some ⟨b, off, none⟩ ∧ b < W.heap.size ∧ ∀ j, j < l.length * 5 → W.cell? ⟨b, off + j, none⟩ = (celC stpE l)[j]?) ∧
      (x.1 = .nil ∧ l = [] ∨ ∃ el sp, x.1 = .slice el sp ∧ l.length = el.length) := by
  rcases Deep.open_slice Try.underlying22 h with ⟨hcs, hx⟩ | ⟨x0, len, c, m, n0, D, Pl, hcs, _, hl, hm, hmm, hxe, hx⟩
  · have : v = .slice none 0 0 := by simpa using hcs
    subst this
    exact ⟨none, 0, [], rfl, ⟨Nat.le_refl _, Nat.zero_le _⟩, fun h => absurd h (by simp), .inl ⟨by rw [hx], rfl⟩⟩
  · have : v = .slice (some x0) len c := by simpa using hcs
    subst this
    simp only [if_true] at hmm
    rw [cells67] at hx
    obtain ⟨b, off, spot⟩ := x0
    have hspot0 : 0 < len → spot = none := by
      intro hpos
      obtain ⟨cs', h1, _⟩ := hx 0 (by omega)
      obtain ⟨_, hlen, hcell⟩ := World.cells?_some h1
      have h5 : 0 < cs'.length := by omega
      have g := World.cell?_spot ((hcell 0 (by omega)).trans (List.getElem?_eq_getElem h5))
      simpa [Addr.add] using g
    have key : ∀ i, i < len → ∃ o : StepV, spot = none ∧ b < W.heap.size ∧ ∀ j, j < 5 → W.cell? ⟨b, off + i * 5 + j, none⟩ = (stpE o)[j]? := by
      intro i hi
      obtain ⟨cs', h1, h2⟩ := hx i (by omega)
      obtain ⟨_, hlen, hcell⟩ := World.cells?_some h1
      obtain ⟨o, rfl⟩ := stp_cells hlen h2
      have hspot : spot = none := hspot0 (by omega)
      subst hspot
      refine ⟨o, rfl, ?_, fun j hj => ?_⟩
      · have k0 := hcell 0 (by omega)
        rw [addN, addN] at k0
        rcases Nat.lt_or_ge b W.heap.size with h' | h'
        · exact h'
        · simp [World.cell?, Array.getElem?_eq_none h', stpE] at k0
      · have k0 := hcell j (by omega)
        rw [addN, addN] at k0
        rw [k0]
    obtain ⟨f, hfo⟩ := @Deep.choose_lt StepV ⟨((0, 0), (0, 0), false)⟩ len (fun i o => spot = none ∧ b < W.heap.size ∧ ∀ j, j < 5 → W.cell? ⟨b, off + i * 5 + j, none⟩ = (stpE o)[j]?) key
    refine ⟨some ⟨b, off, spot⟩, c, (List.range len).map f, by simp, ⟨by simpa using hl, hm⟩, fun hp => ?_, .inr ⟨_, _, by rw [hxe], by simp⟩⟩
    have hp' : 0 < len := by simpa using hp
    have hsp := hspot0 hp'
    subst hsp
    refine ⟨b, off, rfl, (hfo 0 hp').2.1, fun j hj => ?_⟩
    have hj' : j < len * 5 := by simpa using hj
    have hi : j / 5 < len := by omega
    have q0 := (hfo (j / 5) hi).2.2 (j % 5) (by omega)
    have g0 := celC_get stpK ((List.range len).map f) (j / 5) (by simpa using hi) (j % 5) (by omega)
    simp only [List.getElem_map, List.getElem_range] at g0
    have e : off + j = off + j / 5 * 5 + j % 5 := by omega
    rw [e, q0, ← g0, show j / 5 * 5 + j % 5 = j by omega]
/-- A table among the arguments. -/
theorem open_tab {H : Type} {enc : TypeId × Value → H} {W : World} {b0 : Nat} {v : Value} {d : DataW H} {p : List MemPlace}
    (hv : Value.okWide Try.prog W .any b0 25 v) (h : DataW.Trod enc Try.prog W 0 (fun _ => true) true 25 v d p) (ts : List TypeId) (ds : List (DataW H)) (j : Nat)
    (hall : (DataW.weightsEach Try.prog ts ds).all (· ≤ reachBytes) = true) (hts : ts[j]? = some 25) (hds : ds[j]? = some d) :
    ∃ T g k, v = .agg #[g, k] ∧ Tab W T g k := by
  obtain ⟨cs, rfl, hsz⟩ := okWide_struct Try.underlying25 hv
  rw [cells24] at hsz
  obtain ⟨fuel, hf⟩ := h
  have hcl : (Value.agg cs).cells.toList = cs.toList := by simp [Value.cells]
  rw [hcl] at hf
  obtain ⟨xs, n', _, hd, _, hxl, hfs⟩ := DataW.trod_struct Try.underlying25 hf
  have f0 : DataW.trod enc Try.prog W 0 (fun _ => true) true n' 23 ((cs.toList.drop 0).take (Try.prog.cellsOf 23)) = xs[0]? := hfs 0 _ rfl
  have f1 : DataW.trod enc Try.prog W 0 (fun _ => true) true n' 23 ((cs.toList.drop 1).take (Try.prog.cellsOf 23)) = xs[1]? := hfs 1 _ rfl
  rw [cells22] at f0 f1
  obtain ⟨v0, v1, e⟩ := two cs.toList (by simpa using hsz)
  obtain ⟨y0, y1, rfl⟩ := two xs hxl
  rw [e] at f0 f1
  simp only [List.drop_zero, List.drop_succ_cons, List.take_succ_cons, List.take_zero, List.getElem?_cons_zero, List.getElem?_cons_succ] at f0 f1
  obtain ⟨a, c, l, rfl, hcc, hg, hx⟩ := hols_cells f0
  obtain ⟨a', c', l', rfl, hcc', hg', hx'⟩ := hols_cells f1
  have ecs : cs = #[.slice a l.length c, .slice a' l'.length c'] := by rw [← Array.toArray_toList (xs := cs), e]
  have hd' : d = .agg [y0.1, y1.1] := by
    have h3 := hd
    simp at h3
    exact h3.1
  refine ⟨⟨l, l'⟩, .slice a l.length c, .slice a' l'.length c', by rw [ecs], ⟨?_, a, c, rfl, hcc, hg⟩, ⟨?_, a', c', rfl, hcc', hg'⟩⟩
  · rcases hx with ⟨_, hl⟩ | ⟨el, sp, hx, hle⟩
    · show l.length * 32 ≤ _
      rw [hl]
      simp
    · rw [hx] at hd'
      have hw := List.all_eq_true.1 hall _ (DataW.weights_mem_each hts hds ((el.length + sp.length) * Try.prog.bytesOf 34) (by rw [hd']; simp [DataW.weights, DataW.weightsEach, Try.underlying25, Try.underlying23]))
      rw [bytes44] at hw
      have hw2 : (el.length + sp.length) * 32 ≤ reachBytes := by simpa using hw
      have := reach_lt hw2
      show l.length * 32 ≤ _
      omega
  · rcases hx' with ⟨_, hl⟩ | ⟨el, sp, hx', hle⟩
    · show l'.length * 32 ≤ _
      rw [hl]
      simp
    · rw [hx'] at hd'
      have hw := List.all_eq_true.1 hall _ (DataW.weights_mem_each hts hds ((el.length + sp.length) * Try.prog.bytesOf 34) (by rw [hd']; simp [DataW.weights, DataW.weightsEach, Try.underlying25, Try.underlying23]))
      rw [bytes44] at hw
      have hw2 : (el.length + sp.length) * 32 ≤ reachBytes := by simpa using hw
      have := reach_lt hw2
      show l'.length * 32 ≤ _
      omega
abbrev Stps (w : World) (v : Value) (l : List StepV) : Prop := SGot 5 40 stpE w v l
/-- Steps among the arguments. -/
theorem open_stps {H : Type} {enc : TypeId × Value → H} {W : World} {b0 : Nat} {v : Value} {d : DataW H} {p : List MemPlace}
    (hv : Value.okWide Try.prog W .any b0 22 v) (h : DataW.Trod enc Try.prog W 0 (fun _ => true) true 22 v d p) (ts : List TypeId) (ds : List (DataW H)) (j : Nat)
    (hall : (DataW.weightsEach Try.prog ts ds).all (· ≤ reachBytes) = true) (hts : ts[j]? = some 22) (hds : ds[j]? = some d) :
    ∃ l, Stps W v l := by
  obtain ⟨fuel, hf⟩ := h
  obtain ⟨va, len, c0, rfl⟩ := okWide_slice Try.underlying22 hv
  obtain ⟨a, c, l, e, hcc, hg, hx⟩ := stps_cells (x := (d, p)) hf
  refine ⟨l, ?_, a, c, e, hcc, hg⟩
  rcases hx with ⟨_, hl⟩ | ⟨el, sp, hx, hle⟩
  · rw [hl]
    simp
  · dsimp only at hx
    subst hx
    have hw := List.all_eq_true.1 hall _ (DataW.weights_mem_each hts hds ((el.length + sp.length) * Try.prog.bytesOf 40) (by simp [DataW.weights, Try.underlying22]))
    rw [bytes67] at hw
    have hw2 : (el.length + sp.length) * 40 ≤ reachBytes := by simpa using hw
    have := reach_lt hw2
    omega
end Go.Proofs.Ytgfpeknhabbkbab
