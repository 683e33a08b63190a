/- Requests and names among the arguments. -/
import Derived.Test.YtgdgpcheammbpaaDoorLay
import Derived.Below
import Derived.ChangeOld
import Derived.SizedLaws
namespace Go.Proofs.YtgdgpcheammbpaaDoor
open Go.ChangeShapes Go.WideShapes Go.ChangeAt Go.WideMaps Go.WideElems Go.RowKit
set_option linter.all false
theorem laidOut : laidOutB Tryd.prog = true := by kernel_rfl
theorem cells23 : Tryd.prog.cellsOf 23 = 2 := by kernel_rfl
theorem cells35 : Tryd.prog.cellsOf 35 = 2 := by kernel_rfl
theorem cells25 : Tryd.prog.cellsOf 25 = 11 := by kernel_rfl
theorem cells4 : Tryd.prog.cellsOf 4 = 1 := by kernel_rfl
theorem tenL {α : Type} (l : List α) (h : l.length = 10) : ∃ a b c d e f g i j k, l = [a, b, c, d, e, f, g, i, j, k] := by
  match l, h with
  | [a, b, c, d, e, f, g, i, j, k], _ => exact ⟨a, b, c, d, e, f, g, i, j, k, rfl⟩
theorem elevenL {α : Type} (l : List α) (h : l.length = 11) : ∃ a b c d e f g i j k m, l = [a, b, c, d, e, f, g, i, j, k, m] := by
  match l, h with
  | [a, b, c, d, e, f, g, i, j, k, m], _ => exact ⟨a, b, c, d, e, f, g, i, j, k, m, rfl⟩
theorem pair23 {H : Type} {enc : TypeId × Value → H} {W : World} {n : Nat} {cs : List Value} {x : DataW H × List MemPlace} (hl : cs.length = 2)
    (h : DataW.trod enc Tryd.prog W 0 (fun _ => true) true n 23 cs = some x) : ∃ a b, cs = [.int .i64 a, .int .i64 b] := by
  obtain ⟨xs, n', _, _, _, hxl, hfs⟩ := DataW.trod_struct Tryd.underlying23 h
  have f0 : DataW.trod enc Tryd.prog W 0 (fun _ => true) true n' 3 ((cs.drop 0).take (Tryd.prog.cellsOf 3)) = xs[0]? := hfs 0 _ rfl
  have f1 : DataW.trod enc Tryd.prog W 0 (fun _ => true) true n' 3 ((cs.drop 1).take (Tryd.prog.cellsOf 3)) = xs[1]? := hfs 1 _ rfl
  rw [cells3] at f0 f1
  obtain ⟨v0, v1, rfl⟩ := twoL cs hl
  obtain ⟨y0, y1, rfl⟩ := twoL xs hxl
  simp only [List.drop_zero, List.drop_succ_cons, List.take_succ_cons, List.take_zero, List.getElem?_cons_zero, List.getElem?_cons_succ] at f0 f1
  obtain ⟨k0, e0, _, _⟩ := DataW.trod_int Tryd.underlying3 f0
  obtain ⟨k1, e1, _, _⟩ := DataW.trod_int Tryd.underlying3 f1
  simp only [List.cons.injEq, and_true] at e0 e1
  exact ⟨k0, k1, by rw [e0, e1]⟩
set_option maxRecDepth 100000 in
theorem open23 {H : Type} {enc : TypeId × Value → H} {W : World} {b0 : Nat} {v : Value} {d : DataW H} {p : List MemPlace}
    (hv : Value.okWide Tryd.prog W .any b0 23 v) (h : DataW.Trod enc Tryd.prog W 0 (fun _ => true) true 23 v d p) : ∃ i t, v = .agg #[.int .i64 i, .int .i64 t] := by
  obtain ⟨cs, rfl, hsz⟩ := okWide_struct Tryd.underlying23 hv
  rw [cells23] at hsz
  obtain ⟨fuel, hf⟩ := h
  obtain ⟨i, t, e⟩ := pair23 (cs := (Value.agg cs).cells.toList) (by simpa [Value.cells] using hsz) hf
  refine ⟨i, t, ?_⟩
  have e2 : cs.toList = [.int .i64 i, .int .i64 t] := by simpa [Value.cells] using e
  have : cs = #[.int .i64 i, .int .i64 t] := by rw [← Array.toArray_toList (xs := cs), e2]
  rw [this]
theorem pair35 {H : Type} {enc : TypeId × Value → H} {W : World} {n : Nat} {cs : List Value} {x : DataW H × List MemPlace} (hl : cs.length = 2)
    (h : DataW.trod enc Tryd.prog W 0 (fun _ => true) true n 35 cs = some x) : ∃ a b, cs = [.int .i64 a, .int .i64 b] := by
  obtain ⟨xs, n', _, _, _, hxl, hfs⟩ := DataW.trod_struct Tryd.underlying35 h
  have f0 : DataW.trod enc Tryd.prog W 0 (fun _ => true) true n' 3 ((cs.drop 0).take (Tryd.prog.cellsOf 3)) = xs[0]? := hfs 0 _ rfl
  have f1 : DataW.trod enc Tryd.prog W 0 (fun _ => true) true n' 3 ((cs.drop 1).take (Tryd.prog.cellsOf 3)) = xs[1]? := hfs 1 _ rfl
  rw [cells3] at f0 f1
  obtain ⟨v0, v1, rfl⟩ := twoL cs hl
  obtain ⟨y0, y1, rfl⟩ := twoL xs hxl
  simp only [List.drop_zero, List.drop_succ_cons, List.take_succ_cons, List.take_zero, List.getElem?_cons_zero, List.getElem?_cons_succ] at f0 f1
  obtain ⟨k0, e0, _, _⟩ := DataW.trod_int Tryd.underlying3 f0
  obtain ⟨k1, e1, _, _⟩ := DataW.trod_int Tryd.underlying3 f1
  simp only [List.cons.injEq, and_true] at e0 e1
  exact ⟨k0, k1, by rw [e0, e1]⟩
set_option maxRecDepth 100000 in
theorem open35 {H : Type} {enc : TypeId × Value → H} {W : World} {b0 : Nat} {v : Value} {d : DataW H} {p : List MemPlace}
    (hv : Value.okWide Tryd.prog W .any b0 35 v) (h : DataW.Trod enc Tryd.prog W 0 (fun _ => true) true 35 v d p) : ∃ i t, v = .agg #[.int .i64 i, .int .i64 t] := by
  obtain ⟨cs, rfl, hsz⟩ := okWide_struct Tryd.underlying35 hv
  rw [cells35] at hsz
  obtain ⟨fuel, hf⟩ := h
  obtain ⟨i, t, e⟩ := pair35 (cs := (Value.agg cs).cells.toList) (by simpa [Value.cells] using hsz) hf
  refine ⟨i, t, ?_⟩
  have e2 : cs.toList = [.int .i64 i, .int .i64 t] := by simpa [Value.cells] using e
  have : cs = #[.int .i64 i, .int .i64 t] := by rw [← Array.toArray_toList (xs := cs), e2]
  rw [this]
set_option maxRecDepth 100000 in
theorem req_cells {H : Type} {enc : TypeId × Value → H} {W : World} {n : Nat} {cs : List Value} {x : DataW H × List MemPlace} (hl : cs.length = 11)
    (h : DataW.trod enc Tryd.prog W 0 (fun _ => true) true n 25 cs = some x) : ∃ r : ReqV, cs = (reqC r).toList := by
  obtain ⟨xs, n', _, _, _, hxl, hfs⟩ := DataW.trod_struct Tryd.underlying25 h
  have f0 : DataW.trod enc Tryd.prog W 0 (fun _ => true) true n' 3 ((cs.drop 0).take (Tryd.prog.cellsOf 3)) = xs[0]? := hfs 0 _ rfl
  have f1 : DataW.trod enc Tryd.prog W 0 (fun _ => true) true n' 3 ((cs.drop 1).take (Tryd.prog.cellsOf 3)) = xs[1]? := hfs 1 _ rfl
  have f2 : DataW.trod enc Tryd.prog W 0 (fun _ => true) true n' 3 ((cs.drop 2).take (Tryd.prog.cellsOf 3)) = xs[2]? := hfs 2 _ rfl
  have f3 : DataW.trod enc Tryd.prog W 0 (fun _ => true) true n' 3 ((cs.drop 3).take (Tryd.prog.cellsOf 3)) = xs[3]? := hfs 3 _ rfl
  have f4 : DataW.trod enc Tryd.prog W 0 (fun _ => true) true n' 3 ((cs.drop 4).take (Tryd.prog.cellsOf 3)) = xs[4]? := hfs 4 _ rfl
  have f5 : DataW.trod enc Tryd.prog W 0 (fun _ => true) true n' 3 ((cs.drop 5).take (Tryd.prog.cellsOf 3)) = xs[5]? := hfs 5 _ rfl
  have f6 : DataW.trod enc Tryd.prog W 0 (fun _ => true) true n' 3 ((cs.drop 6).take (Tryd.prog.cellsOf 3)) = xs[6]? := hfs 6 _ rfl
  have f7 : DataW.trod enc Tryd.prog W 0 (fun _ => true) true n' 4 ((cs.drop 7).take (Tryd.prog.cellsOf 4)) = xs[7]? := hfs 7 _ rfl
  have f8 : DataW.trod enc Tryd.prog W 0 (fun _ => true) true n' 23 ((cs.drop 8).take (Tryd.prog.cellsOf 23)) = xs[8]? := hfs 8 _ rfl
  have f9 : DataW.trod enc Tryd.prog W 0 (fun _ => true) true n' 3 ((cs.drop 10).take (Tryd.prog.cellsOf 3)) = xs[9]? := hfs 9 _ rfl
  rw [cells3] at f0 f1 f2 f3 f4 f5 f6 f9
  rw [cells4] at f7
  rw [cells23] at f8
  obtain ⟨v0, v1, v2, v3, v4, v5, v6, v7, v8, v9, v10, rfl⟩ := elevenL cs hl
  obtain ⟨y0, y1, y2, y3, y4, y5, y6, y7, y8, y9, rfl⟩ := tenL xs hxl
  simp only [List.drop_zero, List.drop_succ_cons, List.take_succ_cons, List.take_zero, List.getElem?_cons_zero, List.getElem?_cons_succ] at f0 f1 f2 f3 f4 f5 f6 f7 f8 f9
  obtain ⟨k0, e0, _, _⟩ := DataW.trod_int Tryd.underlying3 f0
  obtain ⟨k1, e1, _, _⟩ := DataW.trod_int Tryd.underlying3 f1
  obtain ⟨k2, e2, _, _⟩ := DataW.trod_int Tryd.underlying3 f2
  obtain ⟨k3, e3, _, _⟩ := DataW.trod_int Tryd.underlying3 f3
  obtain ⟨k4, e4, _, _⟩ := DataW.trod_int Tryd.underlying3 f4
  obtain ⟨k5, e5, _, _⟩ := DataW.trod_int Tryd.underlying3 f5
  obtain ⟨k6, e6, _, _⟩ := DataW.trod_int Tryd.underlying3 f6
  obtain ⟨k7, e7, _⟩ := DataW.trod_bool Tryd.underlying4 f7
  obtain ⟨k8a, k8b, e8⟩ := pair23 rfl f8
  obtain ⟨k9, e9, _, _⟩ := DataW.trod_int Tryd.underlying3 f9
  simp only [List.cons.injEq, and_true] at e0 e1 e2 e3 e4 e5 e6 e7 e8 e9
  obtain ⟨e8a, e8b⟩ := e8
  exact ⟨⟨k0, k1, k2, k3, k4, k5, k6, k7, (k8a, k8b), k9⟩, by rw [e0, e1, e2, e3, e4, e5, e6, e7, e8a, e8b, e9]; rfl⟩
set_option maxRecDepth 100000 in
theorem open_req {H : Type} {enc : TypeId × Value → H} {W : World} {b0 : Nat} {v : Value} {d : DataW H} {p : List MemPlace}
    (hv : Value.okWide Tryd.prog W .any b0 25 v) (h : DataW.Trod enc Tryd.prog W 0 (fun _ => true) true 25 v d p) : ∃ r : ReqV, v = .agg (reqC r) := by
  obtain ⟨cs, rfl, hsz⟩ := okWide_struct Tryd.underlying25 hv
  rw [cells25] at hsz
  obtain ⟨fuel, hf⟩ := h
  obtain ⟨r, e⟩ := req_cells (cs := (Value.agg cs).cells.toList) (by simpa [Value.cells] using hsz) hf
  refine ⟨r, ?_⟩
  have e2 : cs.toList = (reqC r).toList := by simpa [Value.cells] using e
  have : cs = reqC r := by rw [← Array.toArray_toList (xs := cs), e2]
  rw [this]
end Go.Proofs.YtgdgpcheammbpaaDoor
