/- A log and a mark among the arguments, opened. -/
import Derived.Test.YtonhoopmhkomcaaMay
import Derived.Test.YtonhoopmhkomcaaChecked
import Derived.ProofKit
import Derived.OpenShut
import Derived.Below
import Derived.ChangeOld
import Derived.SizedLaws
namespace Go.Proofs.Ytonhoopmhkomcaa
open Go.ChangeShapes Go.WideShapes Go.ChangeAt Go.RowKit
theorem laidOut : laidOutB Try.prog = true := by kernel_rfl
theorem wfB {x : Int} (h : (Lit.int .i64 x).wf = true) : i64B x := by
  have e1 : IntKind.i64.min = -9223372036854775808 := by decide
  have e2 : IntKind.i64.max = 9223372036854775807 := by decide
  simpa [Lit.wf, e1, e2, i64B] using h
theorem cells3 : Try.prog.cellsOf 3 = 1 := by kernel_rfl
theorem cells9 : Try.prog.cellsOf 9 = 1 := by kernel_rfl
theorem cells23 : Try.prog.cellsOf 23 = 2 := by kernel_rfl
theorem cells24 : Try.prog.cellsOf 24 = 1 := by kernel_rfl
theorem cells26 : Try.prog.cellsOf 26 = 4 := by kernel_rfl
theorem cells39 : Try.prog.cellsOf 40 = 3 := by kernel_rfl
theorem bytes39 : Try.prog.bytesOf 40 = 32 := by kernel_rfl
theorem two {α : Type} (l : List α) (h : l.length = 2) : ∃ a b, l = [a, b] := by
  match l, h with
  | [a, b], _ => exact ⟨a, b, rfl⟩
theorem three {α : Type} (l : List α) (h : l.length = 3) : ∃ a b c, l = [a, b, c] := by
  match l, h with
  | [a, b, c], _ => exact ⟨a, b, c, rfl⟩
theorem four {α : Type} (l : List α) (h : l.length = 4) : ∃ a b c d, l = [a, b, c, d] := by
  match l, h with
  | [a, b, c, d], _ => exact ⟨a, b, c, d, rfl⟩
theorem spot_cells {H : Type} {enc : TypeId × Value → H} {W : World} {n : Nat} {cs : List Value} {x : DataW H × List MemPlace} (hl : cs.length = 2)
    (h : DataW.trod enc Try.prog W 0 (fun _ => true) true n 23 cs = some x) : ∃ i t, cs = [.int .i64 i, .int .i64 t] ∧ i64B i ∧ i64B t := by
  obtain ⟨xs, n', _, _, _, hxl, hfs⟩ := DataW.trod_struct Try.underlying23 h
  have f0 : DataW.trod enc Try.prog W 0 (fun _ => true) true n' 3 ((cs.drop 0).take (Try.prog.cellsOf 3)) = xs[0]? := hfs 0 _ rfl
  have f1 : DataW.trod enc Try.prog W 0 (fun _ => true) true n' 3 ((cs.drop 1).take (Try.prog.cellsOf 3)) = xs[1]? := hfs 1 _ rfl
  rw [cells3] at f0 f1
  obtain ⟨v0, v1, rfl⟩ := two cs hl
  obtain ⟨y0, y1, rfl⟩ := two xs hxl
  simp only [List.drop_zero, List.drop_succ_cons, List.take_succ_cons, List.take_zero] at f0 f1
  obtain ⟨x0, e0, _, w0⟩ := DataW.trod_int Try.underlying3 f0
  obtain ⟨x1, e1, _, w1⟩ := DataW.trod_int Try.underlying3 f1
  obtain rfl : v0 = _ := by simpa using e0
  obtain rfl : v1 = _ := by simpa using e1
  exact ⟨x0, x1, rfl, wfB w0, wfB w1⟩
theorem open_spot {H : Type} {enc : TypeId × Value → H} {W : World} {b0 : Nat} {v : Value} {d : DataW H} {p : List MemPlace}
    (hv : Value.okWide Try.prog W .any b0 23 v) (h : DataW.Trod enc Try.prog W 0 (fun _ => true) true 23 v d p) : ∃ i t, v = .agg #[.int .i64 i, .int .i64 t] ∧ i64B i ∧ i64B t := by
  obtain ⟨cs, rfl, hsz⟩ := okWide_struct Try.underlying23 hv
  rw [cells23] at hsz
  obtain ⟨fuel, hf⟩ := h
  obtain ⟨i, t, e, w⟩ := spot_cells (cs := (Value.agg cs).cells.toList) (by simpa [Value.cells] using hsz) hf
  refine ⟨i, t, ?_, w⟩
  have e2 : cs.toList = [.int .i64 i, .int .i64 t] := by simpa [Value.cells] using e
  have : cs = #[.int .i64 i, .int .i64 t] := by rw [← Array.toArray_toList (xs := cs), e2]
  rw [this]
def EntAt (w : World) (b off : Nat) (e : EntV) : Prop := w.cell? ⟨b, off, none⟩ = some (.int .i64 e.term) ∧ w.cell? ⟨b, off + 1, none⟩ = some (.int .i64 e.kind) ∧ w.cell? ⟨b, off + 2, none⟩ = some (.string e.text)
set_option maxRecDepth 100000 in
theorem ents_cells {H : Type} {enc : TypeId × Value → H} {W : World} {n : Nat} {v : Value} {x : DataW H × List MemPlace}
    (h : DataW.trod enc Try.prog W 0 (fun _ => true) true n 24 [v] = some x) :
    ∃ a c l, v = .slice a l.length c ∧ (l.length ≤ c ∧ c ≤ maxLen) ∧ (0 < l.length → ∃ b off, a = some ⟨b, off, none⟩ ∧ b < W.heap.size ∧ ∀ j, j < l.length * 3 → W.cell? ⟨b, off + j, none⟩ = (entC l)[j]?) ∧
      (x.1 = .nil ∧ l = [] ∨ ∃ el sp, x.1 = .slice el sp ∧ l.length = el.length) := by
  rcases Deep.open_slice Try.underlying24 h with ⟨hcs, hx⟩ | ⟨x0, len, c, m, n0, D, Pl, hcs, _, hl, hm, hmm, hxe, hx⟩
  · have : v = .slice none 0 0 := by simpa using hcs
    subst this
    exact ⟨none, 0, [], rfl, ⟨Nat.le_refl _, Nat.zero_le _⟩, fun h => absurd h (by simp), .inl ⟨by rw [hx], rfl⟩⟩
  · have : v = .slice (some x0) len c := by simpa using hcs
    subst this
    simp only [if_true] at hmm
    rw [cells39] at hx
    obtain ⟨b, off, spot⟩ := x0
    have hspot0 : 0 < len → spot = none := by
      intro hpos
      obtain ⟨cs', h1, _⟩ := hx 0 (by omega)
      obtain ⟨_, hlen, hcell⟩ := World.cells?_some h1
      obtain ⟨v0, v1, v2, rfl⟩ := three cs' hlen
      have g := World.cell?_spot (hcell 0 (by omega))
      simpa [Addr.add] using g
    have key : ∀ i, i < len → ∃ o : EntV, spot = none ∧ b < W.heap.size ∧ EntAt W b (off + i * 3) o := by
      intro i hi
      obtain ⟨cs', h1, h2⟩ := hx i (by omega)
      obtain ⟨_, hlen, hcell⟩ := World.cells?_some h1
      obtain ⟨xs, n', _, _, _, hxl, hfs⟩ := DataW.trod_struct Try.underlying40 h2
      have f0 : DataW.trod enc Try.prog W 0 (fun _ => true) true n' 3 ((cs'.drop 0).take (Try.prog.cellsOf 3)) = xs[0]? := hfs 0 _ rfl
      have f1 : DataW.trod enc Try.prog W 0 (fun _ => true) true n' 3 ((cs'.drop 1).take (Try.prog.cellsOf 3)) = xs[1]? := hfs 1 _ rfl
      have f2 : DataW.trod enc Try.prog W 0 (fun _ => true) true n' 9 ((cs'.drop 2).take (Try.prog.cellsOf 9)) = xs[2]? := hfs 2 _ rfl
      rw [cells3] at f0 f1
      rw [cells9] at f2
      obtain ⟨v0, v1, v2, rfl⟩ := three cs' hlen
      obtain ⟨y0, y1, y2, rfl⟩ := three xs hxl
      simp only [List.drop_zero, List.drop_succ_cons, List.take_succ_cons, List.take_zero, List.getElem?_cons_zero, List.getElem?_cons_succ] at f0 f1 f2
      obtain ⟨z0, e0, _, _⟩ := DataW.trod_int Try.underlying3 f0
      obtain ⟨z1, e1, _, _⟩ := DataW.trod_int Try.underlying3 f1
      obtain ⟨z2, e2, _, _⟩ := DataW.trod_string Try.underlying9 f2
      simp only [List.cons.injEq, and_true] at e0 e1 e2
      subst e0 e1 e2
      have hspot : spot = none := hspot0 (by omega)
      subst hspot
      have k0 := hcell 0 (by omega)
      have k1 := hcell 1 (by omega)
      have k2 := hcell 2 (by omega)
      rw [addN, addN] at k0 k1 k2
      refine ⟨⟨z0, z1, z2⟩, rfl, ?_, by simpa using k0, by simpa using k1, by simpa using k2⟩
      rcases Nat.lt_or_ge b W.heap.size with h' | h'
      · exact h'
      · simp [World.cell?, Array.getElem?_eq_none h'] at k0
    obtain ⟨f, hfo⟩ := @Deep.choose_lt EntV ⟨noE⟩ len (fun i o => spot = none ∧ b < W.heap.size ∧ EntAt W b (off + i * 3) o) key
    refine ⟨some ⟨b, off, spot⟩, c, (List.range len).map f, by simp, ⟨by simpa using hl, hm⟩, fun hp => ?_, .inr ⟨_, _, by rw [hxe], by simp⟩⟩
    have hp' : 0 < len := by simpa using hp
    have hsp := hspot0 hp'
    subst hsp
    refine ⟨b, off, rfl, (hfo 0 hp').2.1, fun j hj => ?_⟩
    have hj' : j < len * 3 := by simpa using hj
    have hi : j / 3 < len := by omega
    obtain ⟨_, _, q0, q1, q2⟩ := hfo (j / 3) hi
    obtain ⟨g0, g1, g2⟩ := entC_get ((List.range len).map f) (j / 3) (by simpa using hi)
    simp only [List.getElem_map, List.getElem_range] at g0 g1 g2
    rcases (by omega : j = j / 3 * 3 ∨ j = j / 3 * 3 + 1 ∨ j = j / 3 * 3 + 2) with e | e | e
    · rw [e, g0]
      exact q0
    · rw [e, g1]
      exact q1
    · rw [e, g2]
      exact q2
/-- A log among the arguments. -/
theorem open_log {H : Type} {enc : TypeId × Value → H} {W : World} {b0 : Nat} {v : Value} {d : DataW H} {p : List MemPlace}
    (hv : Value.okWide Try.prog W .any b0 26 v) (h : DataW.Trod enc Try.prog W 0 (fun _ => true) true 26 v d p) (ts : List TypeId) (ds : List (DataW H)) (j : Nat)
    (hall : (DataW.weightsEach Try.prog ts ds).all (· ≤ reachBytes) = true) (hts : ts[j]? = some 26) (hds : ds[j]? = some d) :
    ∃ L g, v = logV L g ∧ EGot W g L.l := by
  obtain ⟨cs, rfl, hsz⟩ := okWide_struct Try.underlying26 hv
  rw [cells26] at hsz
  obtain ⟨fuel, hf⟩ := h
  have hcl : (Value.agg cs).cells.toList = cs.toList := by simp [Value.cells]
  rw [hcl] at hf
  obtain ⟨xs, n', _, hd, _, hxl, hfs⟩ := DataW.trod_struct Try.underlying26 hf
  have f0 : DataW.trod enc Try.prog W 0 (fun _ => true) true n' 23 ((cs.toList.drop 0).take (Try.prog.cellsOf 23)) = xs[0]? := hfs 0 _ rfl
  have f1 : DataW.trod enc Try.prog W 0 (fun _ => true) true n' 24 ((cs.toList.drop 2).take (Try.prog.cellsOf 24)) = xs[1]? := hfs 1 _ rfl
  have f2 : DataW.trod enc Try.prog W 0 (fun _ => true) true n' 3 ((cs.toList.drop 3).take (Try.prog.cellsOf 3)) = xs[2]? := hfs 2 _ rfl
  rw [cells23] at f0
  rw [cells24] at f1
  rw [cells3] at f2
  obtain ⟨v0, v1, v2, v3, e⟩ := four cs.toList (by simpa using hsz)
  obtain ⟨y0, y1, y2, rfl⟩ := three xs hxl
  rw [e] at f0 f1 f2
  simp only [List.drop_zero, List.drop_succ_cons, List.take_succ_cons, List.take_zero, List.getElem?_cons_zero, List.getElem?_cons_succ] at f0 f1 f2
  obtain ⟨bi, bt, e0, _, _⟩ := spot_cells rfl f0
  obtain ⟨cm, e1, _, w1⟩ := DataW.trod_int Try.underlying3 f2
  obtain ⟨a, c, l, rfl, hcc, hg, hx⟩ := ents_cells f1
  have ecs : cs = #[.int .i64 bi, .int .i64 bt, .slice a l.length c, .int .i64 cm] := by
    rw [← Array.toArray_toList (xs := cs), e]
    simp only [List.cons.injEq, and_true] at e0 e1
    rw [e0.1, e0.2, e1]
  refine ⟨⟨bi, bt, l, cm⟩, .slice a l.length c, by rw [ecs]; rfl, ?_, a, c, rfl, hcc, hg⟩
  rcases hx with ⟨_, hl⟩ | ⟨el, sp, hx, hle⟩
  · show l.length * 32 ≤ _
    rw [hl]
    simp
  · have hd' : d = .agg [y0.1, y1.1, y2.1] := by
      have h3 := hd
      simp at h3
      exact h3.1
    rw [hx] at hd'
    subst hd'
    have hw := List.all_eq_true.1 hall _ (DataW.weights_mem_each hts hds ((el.length + sp.length) * Try.prog.bytesOf 40) (by simp [DataW.weights, DataW.weightsEach, Try.underlying26, Try.underlying24]))
    rw [bytes39] at hw
    have hr : reachBytes < 2 ^ 47 := reachBytes_lt
    have e3 : (2 : Nat) ^ 47 = 140737488355328 := by decide
    have hw2 : (el.length + sp.length) * 32 ≤ reachBytes := by simpa using hw
    show l.length * 32 ≤ _
    omega
theorem cells28 : Try.prog.cellsOf 45 = 4 := by kernel_rfl
/-- What is sent, among the arguments. -/
theorem open_sent {H : Type} {enc : TypeId × Value → H} {W : World} {b0 : Nat} {v : Value} {d : DataW H} {p : List MemPlace}
    (hv : Value.okWide Try.prog W .any b0 45 v) (h : DataW.Trod enc Try.prog W 0 (fun _ => true) true 45 v d p) (ts : List TypeId) (ds : List (DataW H)) (j : Nat)
    (hall : (DataW.weightsEach Try.prog ts ds).all (· ≤ reachBytes) = true) (hts : ts[j]? = some 45) (hds : ds[j]? = some d) :
    ∃ pi pt k es cc, v = .agg #[.int .i64 pi, .int .i64 pt, k, .int .i64 cc] ∧ EGot W k es ∧ es.length * 32 ≤ 140737488355328 := by
  obtain ⟨cs, rfl, hsz⟩ := okWide_struct Try.underlying45 hv
  rw [cells28] at hsz
  obtain ⟨fuel, hf⟩ := h
  have hcl : (Value.agg cs).cells.toList = cs.toList := by simp [Value.cells]
  rw [hcl] at hf
  obtain ⟨xs, n', _, hd, _, hxl, hfs⟩ := DataW.trod_struct Try.underlying45 hf
  have f0 : DataW.trod enc Try.prog W 0 (fun _ => true) true n' 23 ((cs.toList.drop 0).take (Try.prog.cellsOf 23)) = xs[0]? := hfs 0 _ rfl
  have f1 : DataW.trod enc Try.prog W 0 (fun _ => true) true n' 24 ((cs.toList.drop 2).take (Try.prog.cellsOf 24)) = xs[1]? := hfs 1 _ rfl
  have f2 : DataW.trod enc Try.prog W 0 (fun _ => true) true n' 3 ((cs.toList.drop 3).take (Try.prog.cellsOf 3)) = xs[2]? := hfs 2 _ rfl
  rw [cells23] at f0
  rw [cells24] at f1
  rw [cells3] at f2
  obtain ⟨v0, v1, v2, v3, e⟩ := four cs.toList (by simpa using hsz)
  obtain ⟨y0, y1, y2, rfl⟩ := three xs hxl
  rw [e] at f0 f1 f2
  simp only [List.drop_zero, List.drop_succ_cons, List.take_succ_cons, List.take_zero, List.getElem?_cons_zero, List.getElem?_cons_succ] at f0 f1 f2
  obtain ⟨bi, bt, e0, _, _⟩ := spot_cells rfl f0
  obtain ⟨cm, e1, _, w1⟩ := DataW.trod_int Try.underlying3 f2
  obtain ⟨a, c, l, rfl, hcc, hg, hx⟩ := ents_cells f1
  have ecs : cs = #[.int .i64 bi, .int .i64 bt, .slice a l.length c, .int .i64 cm] := by
    rw [← Array.toArray_toList (xs := cs), e]
    simp only [List.cons.injEq, and_true] at e0 e1
    rw [e0.1, e0.2, e1]
  have hbd : l.length * 32 ≤ 140737488355328 := by
    rcases hx with ⟨_, hl⟩ | ⟨el, sp, hx, hle⟩
    · rw [hl]
      simp
    · have hd' : d = .agg [y0.1, y1.1, y2.1] := by
        have h3 := hd
        simp at h3
        exact h3.1
      rw [hx] at hd'
      subst hd'
      have hw := List.all_eq_true.1 hall _ (DataW.weights_mem_each hts hds ((el.length + sp.length) * Try.prog.bytesOf 40) (by simp [DataW.weights, DataW.weightsEach, Try.underlying45, Try.underlying24]))
      rw [bytes39] at hw
      have hr : reachBytes < 2 ^ 47 := reachBytes_lt
      have e3 : (2 : Nat) ^ 47 = 140737488355328 := by decide
      have hw2 : (el.length + sp.length) * 32 ≤ reachBytes := by simpa using hw
      omega
  exact ⟨bi, bt, .slice a l.length c, l, cm, by rw [ecs], ⟨by omega, a, c, rfl, hcc, hg⟩, hbd⟩
end Go.Proofs.Ytonhoopmhkomcaa
