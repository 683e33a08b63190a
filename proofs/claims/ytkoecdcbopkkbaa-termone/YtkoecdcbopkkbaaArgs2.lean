/- A ballot among the arguments, opened; questions and answers. -/
import Derived.Test.YtkoecdcbopkkbaaArgs
import Derived.Test.YtkoecdcbopkkbaaEnt
namespace Go.Proofs.Ytkoecdcbopkkbaa
open Go.ChangeShapes Go.WideShapes Go.ChangeAt Go.RowKit
theorem cells23 : Try.prog.cellsOf 23 = 2 := by kernel_rfl
theorem cells24 : Try.prog.cellsOf 24 = 1 := by kernel_rfl
theorem cells26 : Try.prog.cellsOf 26 = 4 := by kernel_rfl
theorem cells39 : Try.prog.cellsOf 39 = 4 := by kernel_rfl
theorem cells45 : Try.prog.cellsOf 45 = 4 := by kernel_rfl
theorem cells4 : Try.prog.cellsOf 4 = 1 := by kernel_rfl
theorem bytes3 : Try.prog.bytesOf 3 = 8 := by kernel_rfl
theorem hard_cells {H : Type} {enc : TypeId × Value → H} {W : World} {n : Nat} {cs : List Value} {x : DataW H × List MemPlace} (hl : cs.length = 2)
    (h : DataW.trod enc Try.prog W 0 (fun _ => true) true n 23 cs = some x) : ∃ i t, cs = [.int .i64 i, .int .i64 t] ∧ i64B i ∧ i64B t := by
  obtain ⟨xs, n', _, _, _, hxl, hfs⟩ := DataW.trod_struct Try.underlying23 h
  have f0 : DataW.trod enc Try.prog W 0 (fun _ => true) true n' 3 ((cs.drop 0).take (Try.prog.cellsOf 3)) = xs[0]? := hfs 0 _ rfl
  have f1 : DataW.trod enc Try.prog W 0 (fun _ => true) true n' 3 ((cs.drop 1).take (Try.prog.cellsOf 3)) = xs[1]? := hfs 1 _ rfl
  rw [cells3] at f0 f1
  obtain ⟨v0, v1, rfl⟩ := two cs hl
  obtain ⟨y0, y1, rfl⟩ := two xs hxl
  simp only [List.drop_zero, List.drop_succ_cons, List.take_succ_cons, List.take_zero] at f0 f1
  obtain ⟨x0, e0, _, w0⟩ := DataW.trod_int Try.underlying3 f0
  obtain ⟨x1, e1, _, w1⟩ := DataW.trod_int Try.underlying3 f1
  obtain rfl : v0 = _ := by simpa using e0
  obtain rfl : v1 = _ := by simpa using e1
  exact ⟨x0, x1, rfl, wfB w0, wfB w1⟩
theorem nums_cells {H : Type} {enc : TypeId × Value → H} {W : World} {n : Nat} {v : Value} {x : DataW H × List MemPlace}
    (h : DataW.trod enc Try.prog W 0 (fun _ => true) true n 24 [v] = some x) :
    ∃ a c l, v = .slice a l.length c ∧ (0 < l.length → ∃ b off, a = some ⟨b, off, none⟩ ∧ b < W.heap.size ∧ ∀ j, j < l.length → W.cell? ⟨b, off + j, none⟩ = some (.int .i64 (l.getD j 0))) ∧ (∀ y ∈ l, i64B y) ∧
      (x.1 = .nil ∧ l = [] ∨ ∃ el sp, x.1 = .slice el sp ∧ l.length = el.length) := by
  rcases ChangeShapes.open_ints Try.underlying24 Try.underlying3 cells3 h with ⟨hcs, hx⟩ | ⟨a, len, c, ss, hcs, _, hl, hm, hz, hx, hcell, hws⟩
  · have : v = .slice none 0 0 := by simpa using hcs
    subst this
    exact ⟨none, 0, [], rfl, fun h => absurd h (by simp), (by intro y hy; cases hy), .inl ⟨by rw [hx], rfl⟩⟩
  · have : v = .slice (some a) len c := by simpa using hcs
    subst this
    simp only [if_true] at hz
    have hlen : (ss.take len).length = len := by rw [List.length_take]; omega
    refine ⟨some a, c, ss.take len, by rw [hlen], fun hp => ?_, fun y hy => wfB (hws y (List.mem_of_mem_take hy)), .inr ⟨_, _, by rw [hx], ?_⟩⟩
    · obtain ⟨b, off, spot⟩ := a
      rw [hlen] at hp
      have hspot : spot = none := by simpa [Addr.add] using World.cell?_spot (hcell 0 (by omega))
      subst hspot
      have hc0 := hcell 0 (by omega)
      rw [addN] at hc0
      refine ⟨b, off, rfl, ?_, fun j hj => ?_⟩
      · rcases Nat.lt_or_ge b W.heap.size with h' | h'
        · exact h'
        · simp [World.cell?, Array.getElem?_eq_none h'] at hc0
      · rw [hlen] at hj
        have hc := hcell j (by omega)
        rw [addN] at hc
        rw [hc]
        simp [List.getD, hj]
    · simp [lits]
/-- A ballot among the arguments. -/
theorem open_ballot {H : Type} {enc : TypeId × Value → H} {W : World} {b0 : Nat} {v : Value} {d : DataW H} {p : List MemPlace}
    (hv : Value.okWide Try.prog W .any b0 26 v) (h : DataW.Trod enc Try.prog W 0 (fun _ => true) true 26 v d p) (ts : List TypeId) (ds : List (DataW H)) (j : Nat)
    (hall : (DataW.weightsEach Try.prog ts ds).all (· ≤ reachBytes) = true) (hts : ts[j]? = some 26) (hds : ds[j]? = some d) :
    ∃ b g, v = balV b g ∧ GotAt W g b.l := by
  obtain ⟨cs, rfl, hsz⟩ := okWide_struct Try.underlying26 hv
  rw [cells26] at hsz
  obtain ⟨fuel, hf⟩ := h
  have hcl : (Value.agg cs).cells.toList = cs.toList := by simp [Value.cells]
  rw [hcl] at hf
  obtain ⟨xs, n', _, hd, _, hxl, hfs⟩ := DataW.trod_struct Try.underlying26 hf
  have f0 : DataW.trod enc Try.prog W 0 (fun _ => true) true n' 23 ((cs.toList.drop 0).take (Try.prog.cellsOf 23)) = xs[0]? := hfs 0 _ rfl
  have f1 : DataW.trod enc Try.prog W 0 (fun _ => true) true n' 3 ((cs.toList.drop 2).take (Try.prog.cellsOf 3)) = xs[1]? := hfs 1 _ rfl
  have f2 : DataW.trod enc Try.prog W 0 (fun _ => true) true n' 24 ((cs.toList.drop 3).take (Try.prog.cellsOf 24)) = xs[2]? := hfs 2 _ rfl
  rw [cells23] at f0
  rw [cells3] at f1
  rw [cells24] at f2
  obtain ⟨v0, v1, v2, v3, e⟩ := four cs.toList (by simpa using hsz)
  obtain ⟨y0, y1, y2, rfl⟩ := three xs hxl
  rw [e] at f0 f1 f2
  simp only [List.drop_zero, List.drop_succ_cons, List.take_succ_cons, List.take_zero, List.getElem?_cons_zero, List.getElem?_cons_succ] at f0 f1 f2
  obtain ⟨t, vt, e0, _, _⟩ := hard_cells rfl f0
  obtain ⟨r, e1, _, w1⟩ := DataW.trod_int Try.underlying3 f1
  obtain ⟨a, c, l, rfl, hg, _, hx⟩ := nums_cells f2
  have ecs : cs = #[.int .i64 t, .int .i64 vt, .int .i64 r, .slice a l.length c] := by
    rw [← Array.toArray_toList (xs := cs), e]
    simp only [List.cons.injEq, and_true] at e0 e1
    rw [e0.1, e0.2, e1]
  refine ⟨⟨t, vt, r, l⟩, .slice a l.length c, by rw [ecs]; rfl, ?_, a, c, rfl, hg⟩
  rcases hx with ⟨_, hl⟩ | ⟨el, sp, hx, hle⟩
  · show l.length * 8 ≤ _
    rw [hl]
    simp
  · have hd' : d = .agg [y0.1, y1.1, y2.1] := by
      have h3 := hd
      simp at h3
      exact h3.1
    rw [hx] at hd'
    subst hd'
    have hw := List.all_eq_true.1 hall _ (DataW.weights_mem_each hts hds ((el.length + sp.length) * Try.prog.bytesOf 3) (by simp [DataW.weights, DataW.weightsEach, Try.underlying26, Try.underlying24]))
    rw [bytes3] at hw
    have hr : reachBytes < 2 ^ 47 := reachBytes_lt
    have e3 : (2 : Nat) ^ 47 = 140737488355328 := by decide
    have hw2 : (el.length + sp.length) * 8 ≤ reachBytes := by simpa using hw
    show l.length * 8 ≤ _
    omega
theorem open_ask {H : Type} {enc : TypeId × Value → H} {W : World} {b0 : Nat} {v : Value} {d : DataW H} {p : List MemPlace}
    (hv : Value.okWide Try.prog W .any b0 39 v) (h : DataW.Trod enc Try.prog W 0 (fun _ => true) true 39 v d p) : ∃ f t i m, v = .agg #[.int .i64 f, .int .i64 t, .int .i64 i, .int .i64 m] ∧ i64B f ∧ i64B t ∧ i64B i ∧ i64B m := by
  obtain ⟨cs, rfl, hsz⟩ := okWide_struct Try.underlying39 hv
  rw [cells39] at hsz
  obtain ⟨fuel, hf⟩ := h
  have hcl : (Value.agg cs).cells.toList = cs.toList := by simp [Value.cells]
  rw [hcl] at hf
  obtain ⟨xs, n', _, hd, _, hxl, hfs⟩ := DataW.trod_struct Try.underlying39 hf
  have f0 : DataW.trod enc Try.prog W 0 (fun _ => true) true n' 3 ((cs.toList.drop 0).take (Try.prog.cellsOf 3)) = xs[0]? := hfs 0 _ rfl
  have f1 : DataW.trod enc Try.prog W 0 (fun _ => true) true n' 3 ((cs.toList.drop 1).take (Try.prog.cellsOf 3)) = xs[1]? := hfs 1 _ rfl
  have f2 : DataW.trod enc Try.prog W 0 (fun _ => true) true n' 37 ((cs.toList.drop 2).take (Try.prog.cellsOf 37)) = xs[2]? := hfs 2 _ rfl
  rw [cells3] at f0 f1
  rw [cells37] at f2
  obtain ⟨v0, v1, v2, v3, e⟩ := four cs.toList (by simpa using hsz)
  obtain ⟨y0, y1, y2, rfl⟩ := three xs hxl
  rw [e] at f0 f1 f2
  simp only [List.drop_zero, List.drop_succ_cons, List.take_succ_cons, List.take_zero, List.getElem?_cons_zero, List.getElem?_cons_succ] at f0 f1 f2
  obtain ⟨x0, e0, _, w0⟩ := DataW.trod_int Try.underlying3 f0
  obtain ⟨x1, e1, _, w1⟩ := DataW.trod_int Try.underlying3 f1
  obtain ⟨i, m, e2, w2, w3⟩ := spot_cells rfl f2
  refine ⟨x0, x1, i, m, ?_, wfB w0, wfB w1, w2, w3⟩
  have : cs = #[.int .i64 x0, .int .i64 x1, .int .i64 i, .int .i64 m] := by
    rw [← Array.toArray_toList (xs := cs), e]
    simp only [List.cons.injEq, and_true] at e0 e1 e2
    rw [e0, e1, e2.1, e2.2]
  rw [this]
theorem open_answer {H : Type} {enc : TypeId × Value → H} {W : World} {b0 : Nat} {v : Value} {d : DataW H} {p : List MemPlace}
    (hv : Value.okWide Try.prog W .any b0 45 v) (h : DataW.Trod enc Try.prog W 0 (fun _ => true) true 45 v d p) : ∃ f t n ok, v = .agg #[.int .i64 f, .int .i64 t, .int .i64 n, .bool ok] ∧ i64B f ∧ i64B t ∧ i64B n := by
  obtain ⟨cs, rfl, hsz⟩ := okWide_struct Try.underlying45 hv
  rw [cells45] at hsz
  obtain ⟨fuel, hf⟩ := h
  have hcl : (Value.agg cs).cells.toList = cs.toList := by simp [Value.cells]
  rw [hcl] at hf
  obtain ⟨xs, n', _, hd, _, hxl, hfs⟩ := DataW.trod_struct Try.underlying45 hf
  have f0 : DataW.trod enc Try.prog W 0 (fun _ => true) true n' 3 ((cs.toList.drop 0).take (Try.prog.cellsOf 3)) = xs[0]? := hfs 0 _ rfl
  have f1 : DataW.trod enc Try.prog W 0 (fun _ => true) true n' 3 ((cs.toList.drop 1).take (Try.prog.cellsOf 3)) = xs[1]? := hfs 1 _ rfl
  have f2 : DataW.trod enc Try.prog W 0 (fun _ => true) true n' 3 ((cs.toList.drop 2).take (Try.prog.cellsOf 3)) = xs[2]? := hfs 2 _ rfl
  have f3 : DataW.trod enc Try.prog W 0 (fun _ => true) true n' 4 ((cs.toList.drop 3).take (Try.prog.cellsOf 4)) = xs[3]? := hfs 3 _ rfl
  rw [cells3] at f0 f1 f2
  rw [cells4] at f3
  obtain ⟨v0, v1, v2, v3, e⟩ := four cs.toList (by simpa using hsz)
  obtain ⟨y0, y1, y2, y3, rfl⟩ := four xs hxl
  rw [e] at f0 f1 f2 f3
  simp only [List.drop_zero, List.drop_succ_cons, List.take_succ_cons, List.take_zero, List.getElem?_cons_zero, List.getElem?_cons_succ] at f0 f1 f2 f3
  obtain ⟨x0, e0, _, w0⟩ := DataW.trod_int Try.underlying3 f0
  obtain ⟨x1, e1, _, w1⟩ := DataW.trod_int Try.underlying3 f1
  obtain ⟨x2, e2, _, w2⟩ := DataW.trod_int Try.underlying3 f2
  obtain ⟨x3, e3, _⟩ := DataW.trod_bool Try.underlying4 f3
  refine ⟨x0, x1, x2, x3, ?_, wfB w0, wfB w1, wfB w2⟩
  have : cs = #[.int .i64 x0, .int .i64 x1, .int .i64 x2, .bool x3] := by
    rw [← Array.toArray_toList (xs := cs), e]
    simp only [List.cons.injEq, and_true] at e0 e1 e2 e3
    rw [e0, e1, e2, e3]
  rw [this]
end Go.Proofs.Ytkoecdcbopkkbaa
