/- A script of steps among the arguments, opened. -/
import Derived.Test.YtkoecdcbopkkbaaFirmW
namespace Go.Proofs.Ytkoecdcbopkkbaa
open Go.ChangeShapes Go.WideShapes Go.ChangeAt Go.RowKit
theorem cells50 : Try.prog.cellsOf 50 = 11 := by kernel_rfl
theorem ask_cells {H : Type} {enc : TypeId × Value → H} {W : World} {n : Nat} {cs : List Value} {x : DataW H × List MemPlace} (hl : cs.length = 4)
    (h : DataW.trod enc Try.prog W 0 (fun _ => true) true n 39 cs = some x) : ∃ f t i m, cs = [.int .i64 f, .int .i64 t, .int .i64 i, .int .i64 m] ∧ i64B f ∧ i64B t ∧ i64B i ∧ i64B m := by
  obtain ⟨xs, n', _, _, _, hxl, hfs⟩ := DataW.trod_struct Try.underlying39 h
  have f0 : DataW.trod enc Try.prog W 0 (fun _ => true) true n' 3 ((cs.drop 0).take (Try.prog.cellsOf 3)) = xs[0]? := hfs 0 _ rfl
  have f1 : DataW.trod enc Try.prog W 0 (fun _ => true) true n' 3 ((cs.drop 1).take (Try.prog.cellsOf 3)) = xs[1]? := hfs 1 _ rfl
  have f2 : DataW.trod enc Try.prog W 0 (fun _ => true) true n' 37 ((cs.drop 2).take (Try.prog.cellsOf 37)) = xs[2]? := hfs 2 _ rfl
  rw [cells3] at f0 f1
  rw [cells37] at f2
  obtain ⟨v0, v1, v2, v3, rfl⟩ := four cs hl
  obtain ⟨y0, y1, y2, rfl⟩ := three xs hxl
  simp only [List.drop_zero, List.drop_succ_cons, List.take_succ_cons, List.take_zero, List.getElem?_cons_zero, List.getElem?_cons_succ] at f0 f1 f2
  obtain ⟨x0, e0, _, w0⟩ := DataW.trod_int Try.underlying3 f0
  obtain ⟨x1, e1, _, w1⟩ := DataW.trod_int Try.underlying3 f1
  obtain ⟨i, m, e2, w2, w3⟩ := spot_cells rfl f2
  simp only [List.cons.injEq, and_true] at e0 e1 e2
  exact ⟨x0, x1, i, m, by rw [e0, e1, e2.1, e2.2], wfB w0, wfB w1, w2, w3⟩
theorem ans_cells {H : Type} {enc : TypeId × Value → H} {W : World} {n : Nat} {cs : List Value} {x : DataW H × List MemPlace} (hl : cs.length = 4)
    (h : DataW.trod enc Try.prog W 0 (fun _ => true) true n 45 cs = some x) : ∃ f t n ok, cs = [.int .i64 f, .int .i64 t, .int .i64 n, .bool ok] ∧ i64B f ∧ i64B t ∧ i64B n := by
  obtain ⟨xs, n', _, _, _, hxl, hfs⟩ := DataW.trod_struct Try.underlying45 h
  have f0 : DataW.trod enc Try.prog W 0 (fun _ => true) true n' 3 ((cs.drop 0).take (Try.prog.cellsOf 3)) = xs[0]? := hfs 0 _ rfl
  have f1 : DataW.trod enc Try.prog W 0 (fun _ => true) true n' 3 ((cs.drop 1).take (Try.prog.cellsOf 3)) = xs[1]? := hfs 1 _ rfl
  have f2 : DataW.trod enc Try.prog W 0 (fun _ => true) true n' 3 ((cs.drop 2).take (Try.prog.cellsOf 3)) = xs[2]? := hfs 2 _ rfl
  have f3 : DataW.trod enc Try.prog W 0 (fun _ => true) true n' 4 ((cs.drop 3).take (Try.prog.cellsOf 4)) = xs[3]? := hfs 3 _ rfl
  rw [cells3] at f0 f1 f2
  rw [cells4] at f3
  obtain ⟨v0, v1, v2, v3, rfl⟩ := four cs hl
  obtain ⟨y0, y1, y2, y3, rfl⟩ := four xs hxl
  simp only [List.drop_zero, List.drop_succ_cons, List.take_succ_cons, List.take_zero, List.getElem?_cons_zero, List.getElem?_cons_succ] at f0 f1 f2 f3
  obtain ⟨x0, e0, _, w0⟩ := DataW.trod_int Try.underlying3 f0
  obtain ⟨x1, e1, _, w1⟩ := DataW.trod_int Try.underlying3 f1
  obtain ⟨x2, e2, _, w2⟩ := DataW.trod_int Try.underlying3 f2
  obtain ⟨x3, e3, _⟩ := DataW.trod_bool Try.underlying4 f3
  simp only [List.cons.injEq, and_true] at e0 e1 e2 e3
  exact ⟨x0, x1, x2, x3, by rw [e0, e1, e2, e3], wfB w0, wfB w1, wfB w2⟩
theorem eleven {α : Type} (l : List α) (h : l.length = 11) : ∃ a b c d e f g i j k m, l = [a, b, c, d, e, f, g, i, j, k, m] := by
  match l, h with
  | [a, b, c, d, e, f, g, i, j, k, m], _ => exact ⟨a, b, c, d, e, f, g, i, j, k, m, rfl⟩
set_option maxRecDepth 100000 in
theorem open_steps {H : Type} {enc : TypeId × Value → H} {W : World} {a : Option Addr} {len cap : Nat} {d : DataW H} {p : List MemPlace}
    (h : DataW.Trod enc Try.prog W 0 (fun _ => true) true 48 (.slice a len cap) d p) :
    ∃ l : List StepV, l.length = len ∧ StepsAt W a l ∧ len ≤ cap ∧ cap ≤ maxLen := by
  obtain ⟨fuel, hf⟩ := h
  rcases Deep.open_slice Try.underlying48 hf with ⟨hcs, _⟩ | ⟨x, l, c, m, n, D, Pl, hcs, _, hl, hm, hmm, _, hx⟩
  · simp [Value.cells] at hcs
    obtain ⟨rfl, rfl, rfl⟩ := hcs
    exact ⟨[], rfl, fun i hi => by simp at hi, Nat.le_refl _, Nat.zero_le _⟩
  · simp [Value.cells] at hcs
    obtain ⟨rfl, rfl, rfl⟩ := hcs
    simp only [if_true] at hmm
    rw [cells50] at hx
    obtain ⟨b, off, spot⟩ := x
    have hspot0 : 0 < len → spot = none := by
      intro hpos
      obtain ⟨cs', h1, _⟩ := hx 0 (by omega)
      obtain ⟨_, hlen, hcell⟩ := World.cells?_some h1
      obtain ⟨v0, v1, v2, v3, v4, v5, v6, v7, v8, v9, v10, rfl⟩ := eleven cs' hlen
      have g := World.cell?_spot (hcell 0 (by omega))
      simpa [Addr.add] using g
    have key : ∀ i, i < len → ∃ o : StepV, spot = none ∧ b < W.heap.size ∧ StepAt W b (off + i * 11) o := by
      intro i hi
      obtain ⟨cs', h1, h2⟩ := hx i (by omega)
      obtain ⟨_, hlen, hcell⟩ := World.cells?_some h1
      obtain ⟨xs, n', _, _, _, hxl, hfs⟩ := DataW.trod_struct Try.underlying50 h2
      have f0 : DataW.trod enc Try.prog W 0 (fun _ => true) true n' 3 ((cs'.drop 0).take (Try.prog.cellsOf 3)) = xs[0]? := hfs 0 _ rfl
      have f1 : DataW.trod enc Try.prog W 0 (fun _ => true) true n' 45 ((cs'.drop 1).take (Try.prog.cellsOf 45)) = xs[1]? := hfs 1 _ rfl
      have f2 : DataW.trod enc Try.prog W 0 (fun _ => true) true n' 39 ((cs'.drop 5).take (Try.prog.cellsOf 39)) = xs[2]? := hfs 2 _ rfl
      have f3 : DataW.trod enc Try.prog W 0 (fun _ => true) true n' 37 ((cs'.drop 9).take (Try.prog.cellsOf 37)) = xs[3]? := hfs 3 _ rfl
      rw [cells3] at f0
      rw [cells45] at f1
      rw [cells39] at f2
      rw [cells37] at f3
      obtain ⟨v0, v1, v2, v3, v4, v5, v6, v7, v8, v9, v10, rfl⟩ := eleven cs' hlen
      obtain ⟨y0, y1, y2, y3, rfl⟩ := four xs hxl
      simp only [List.drop_zero, List.drop_succ_cons, List.take_succ_cons, List.take_zero, List.getElem?_cons_zero, List.getElem?_cons_succ] at f0 f1 f2 f3
      obtain ⟨kd, e0, _, _⟩ := DataW.trod_int Try.underlying3 f0
      obtain ⟨af, at1, an, ok, e1, _⟩ := ans_cells rfl f1
      obtain ⟨qf, qt, qi, qm, e2, _⟩ := ask_cells rfl f2
      obtain ⟨li, lm, e3, _⟩ := spot_cells rfl f3
      simp only [List.cons.injEq, and_true] at e0 e1 e2 e3
      obtain ⟨rfl, rfl, rfl, rfl⟩ := e1
      obtain ⟨rfl, rfl, rfl, rfl⟩ := e2
      obtain ⟨rfl, rfl⟩ := e3
      subst e0
      have hspot : spot = none := hspot0 (by omega)
      subst hspot
      have k : ∀ j, j < 11 → _ := fun j hj => hcell j (by omega)
      have k0 := k 0 (by omega)
      have k1 := k 1 (by omega)
      have k2 := k 2 (by omega)
      have k3 := k 3 (by omega)
      have k4 := k 4 (by omega)
      have k5 := k 5 (by omega)
      have k6 := k 6 (by omega)
      have k7 := k 7 (by omega)
      have k8 := k 8 (by omega)
      have k9 := k 9 (by omega)
      have k10 := k 10 (by omega)
      rw [addN, addN] at k0 k1 k2 k3 k4 k5 k6 k7 k8 k9 k10
      refine ⟨⟨kd, af, at1, an, ok, qf, qt, qi, qm, li, lm⟩, rfl, ?_, by simpa using k0, by simpa using k1, by simpa using k2, by simpa using k3, by simpa using k4, by simpa using k5, by simpa using k6, by simpa using k7, by simpa using k8, by simpa using k9, by simpa using k10⟩
      rcases Nat.lt_or_ge b W.heap.size with h' | h'
      · exact h'
      · simp [World.cell?, Array.getElem?_eq_none h'] at k0
    haveI : Inhabited StepV := ⟨⟨0, 0, 0, 0, false, 0, 0, 0, 0, 0, 0⟩⟩
    obtain ⟨f, hfo⟩ := Deep.choose_lt (α := StepV) (p := fun i o => spot = none ∧ b < W.heap.size ∧ StepAt W b (off + i * 11) o) key
    refine ⟨(List.range len).map f, by simp, fun i hi => ?_, hl, hm⟩
    have hi' : i < len := by simpa using hi
    obtain ⟨rfl, hb, ho⟩ := hfo i hi'
    refine ⟨b, off, rfl, hb, ?_⟩
    simpa using ho
end Go.Proofs.Ytkoecdcbopkkbaa
