/- Sessions and answers among the arguments. -/
import Derived.Test.YtgdgpcheammbpaaDoorArs
namespace Go.Proofs.YtgdgpcheammbpaaDoor
open Go.ChangeShapes Go.WideShapes Go.ChangeAt Go.WideMaps Go.WideElems Go.RowKit
set_option linter.all false
theorem ans_cells {H : Type} {enc : TypeId × Value → H} {W : World} {n : Nat} {cs : List Value} {x : DataW H × List MemPlace} (hl : cs.length = 4)
    (h : DataW.trod enc Tryd.prog W 0 (fun _ => true) true n 44 cs = some x) (hw : WB 44 x.1) : ∃ y : AnsX, cs = y.cs.toList ∧ AnsAt W y := by
  obtain ⟨xs, n', _, hx, _, hxl, hfs⟩ := DataW.trod_struct Tryd.underlying44 h
  have f0 : DataW.trod enc Tryd.prog W 0 (fun _ => true) true n' 38 ((cs.drop 0).take (Tryd.prog.cellsOf 38)) = xs[0]? := hfs 0 _ rfl
  have f1 : DataW.trod enc Tryd.prog W 0 (fun _ => true) true n' 3 ((cs.drop 1).take (Tryd.prog.cellsOf 3)) = xs[1]? := hfs 1 _ rfl
  have f2 : DataW.trod enc Tryd.prog W 0 (fun _ => true) true n' 41 ((cs.drop 2).take (Tryd.prog.cellsOf 41)) = xs[2]? := hfs 2 _ rfl
  have f3 : DataW.trod enc Tryd.prog W 0 (fun _ => true) true n' 42 ((cs.drop 3).take (Tryd.prog.cellsOf 42)) = xs[3]? := hfs 3 _ rfl
  rw [cells38] at f0
  rw [cells3] at f1
  rw [cells41] at f2
  rw [cells42] at f3
  obtain ⟨v0, v1, v2, v3, rfl⟩ := fourL cs hl
  obtain ⟨y0, y1, y2, y3, rfl⟩ := fourL xs hxl
  simp only [List.drop_zero, List.drop_succ_cons, List.take_succ_cons, List.take_zero, List.getElem?_cons_zero, List.getElem?_cons_succ] at f0 f1 f2 f3
  have hx1 : x.1 = .agg [y0.1, y1.1, y2.1, y3.1] := by
    rw [hx]
    rfl
  have w2 : WB 41 y2.1 := by
    intro m hm
    refine hw m ?_
    rw [hx1]
    simp [DataW.weights, DataW.weightsEach, Tryd.underlying44, hm]
  have w3 : WB 42 y3.1 := by
    intro m hm
    refine hw m ?_
    rw [hx1]
    simp [DataW.weights, DataW.weightsEach, Tryd.underlying44, hm]
  obtain ⟨k0, e0, _, _⟩ := DataW.trod_int Tryd.underlying38 f0
  obtain ⟨k1, e1, _, _⟩ := DataW.trod_int Tryd.underlying3 f1
  obtain ⟨a2, c2, l2, e2, g2⟩ := ams_got f2 w2
  obtain ⟨a3, c3, l3, e3, g3⟩ := fls_got f3 w3
  simp only [List.cons.injEq, and_true] at e0 e1
  subst e2 e3 e0 e1
  exact ⟨⟨⟨k0, k1, l2, l3⟩, a2, c2, a3, c3⟩, rfl, ⟨g2, g3⟩⟩
theorem ses_cells {H : Type} {enc : TypeId × Value → H} {W : World} {n : Nat} {cs : List Value} {x : DataW H × List MemPlace} (hl : cs.length = 7)
    (h : DataW.trod enc Tryd.prog W 0 (fun _ => true) true n 69 cs = some x) (hw : WB 69 x.1) : ∃ s : SesX, cs = sesE s ∧ AnsAt W s.x := by
  obtain ⟨xs, n', _, hx, _, hxl, hfs⟩ := DataW.trod_struct Tryd.underlying69 h
  have f0 : DataW.trod enc Tryd.prog W 0 (fun _ => true) true n' 3 ((cs.drop 0).take (Tryd.prog.cellsOf 3)) = xs[0]? := hfs 0 _ rfl
  have f1 : DataW.trod enc Tryd.prog W 0 (fun _ => true) true n' 3 ((cs.drop 1).take (Tryd.prog.cellsOf 3)) = xs[1]? := hfs 1 _ rfl
  have f2 : DataW.trod enc Tryd.prog W 0 (fun _ => true) true n' 4 ((cs.drop 2).take (Tryd.prog.cellsOf 4)) = xs[2]? := hfs 2 _ rfl
  have f3 : DataW.trod enc Tryd.prog W 0 (fun _ => true) true n' 44 ((cs.drop 3).take (Tryd.prog.cellsOf 44)) = xs[3]? := hfs 3 _ rfl
  rw [cells3] at f0 f1
  rw [cells4] at f2
  rw [cells44] at f3
  obtain ⟨v0, v1, v2, v3, v4, v5, v6, rfl⟩ := sevenL cs hl
  obtain ⟨y0, y1, y2, y3, rfl⟩ := fourL xs hxl
  simp only [List.drop_zero, List.drop_succ_cons, List.take_succ_cons, List.take_zero, List.getElem?_cons_zero, List.getElem?_cons_succ] at f0 f1 f2 f3
  have hx1 : x.1 = .agg [y0.1, y1.1, y2.1, y3.1] := by
    rw [hx]
    rfl
  have w3 : WB 44 y3.1 := by
    intro m hm
    refine hw m ?_
    rw [hx1]
    simp [DataW.weights, DataW.weightsEach, Tryd.underlying69, hm]
  obtain ⟨k0, e0, _, _⟩ := DataW.trod_int Tryd.underlying3 f0
  obtain ⟨k1, e1, _, _⟩ := DataW.trod_int Tryd.underlying3 f1
  obtain ⟨z, e2, _⟩ := DataW.trod_bool Tryd.underlying4 f2
  obtain ⟨y, e3, g3⟩ := ans_cells rfl f3 w3
  simp only [List.cons.injEq, and_true] at e0 e1 e2
  subst e0 e1 e2
  simp only [AnsX.cs, List.cons.injEq, and_true] at e3
  obtain ⟨rfl, rfl, rfl, rfl⟩ := e3
  exact ⟨⟨k0, k1, z, y⟩, rfl, g3⟩
set_option maxRecDepth 100000 in
/-- Sessions among the arguments. -/
theorem open_sess {H : Type} {enc : TypeId × Value → H} {W : World} {b0 : Nat} {v : Value} {d : DataW H} {p : List MemPlace}
    (hv : Value.okWide Tryd.prog W .any b0 32 v) (h : DataW.Trod enc Tryd.prog W 0 (fun _ => true) true 32 v d p) (ts : List TypeId) (ds : List (DataW H)) (j : Nat)
    (hall : (DataW.weightsEach Tryd.prog ts ds).all (· ≤ reachBytes) = true) (hts : ts[j]? = some 32) (hds : ds[j]? = some d) : ∃ l, Sess W v l := by
  have hw := wb_of hall hts hds
  obtain ⟨fuel, hf⟩ := h
  obtain ⟨va, vlen, vc0, rfl⟩ := okWide_slice Tryd.underlying32 hv
  rcases Deep.open_slice Tryd.underlying32 hf with ⟨hcs, hx⟩ | ⟨x0, len, c, m, n0, D, Pl, hcs, _, hl, hm, hmm, hxe, hx⟩
  · have : Value.slice va vlen vc0 = .slice none 0 0 := by simpa [Value.cells] using hcs
    rw [this]
    exact ⟨[], Sess.nil W⟩
  · have : Value.slice va vlen vc0 = .slice (some x0) len c := by simpa [Value.cells] using hcs
    rw [this]
    simp only [if_true] at hmm
    rw [cells69] at hx
    have hd : d = .slice ((List.range len).map D) ((List.range (m - len)).map fun j => D (len + j)) := by
      have h3 := hxe
      simp at h3
      exact h3.1
    obtain ⟨b, off, spot⟩ := x0
    have hspot0 : 0 < len → spot = none := by
      intro hpos
      obtain ⟨cs', h1, _⟩ := hx 0 (by omega)
      obtain ⟨_, hlen, hcell⟩ := World.cells?_some h1
      have h5 : 0 < cs'.length := by omega
      have g := World.cell?_spot ((hcell 0 (by omega)).trans (List.getElem?_eq_getElem h5))
      simpa [Addr.add] using g
    have key : ∀ i, i < len → ∃ o : SesX, (spot = none ∧ b < W.heap.size ∧ ∀ j, j < 7 → W.cell? ⟨b, off + i * 7 + j, none⟩ = (sesE o)[j]?) ∧ AnsAt W o.x := by
      intro i hi
      obtain ⟨cs', h1, h2⟩ := hx i (by omega)
      obtain ⟨_, hlen, hcell⟩ := World.cells?_some h1
      have hwi : WB 69 (D i) := by
        intro q hq
        refine hw q ?_
        rw [hd, DataW.weights]
        simp only [Tryd.underlying32]
        exact List.mem_cons_of_mem _ (List.mem_append_left _ (all_mem (List.mem_map_of_mem (List.mem_range.2 hi)) q hq))
      obtain ⟨o, rfl, hA⟩ := ses_cells hlen h2 hwi
      have hspot : spot = none := hspot0 (by omega)
      subst hspot
      refine ⟨o, ⟨rfl, ?_, fun j hj => ?_⟩, hA⟩
      · have k0 := hcell 0 (by omega)
        rw [addN, addN] at k0
        rcases Nat.lt_or_ge b W.heap.size with h' | h'
        · exact h'
        · simp [World.cell?, Array.getElem?_eq_none h', sesE] at k0
      · have k0 := hcell j (by omega)
        rw [addN, addN] at k0
        rw [k0]
    obtain ⟨f, hfo⟩ := @Deep.choose_lt SesX ⟨⟨0, 0, false, zAnsX⟩⟩ len (fun i o => (spot = none ∧ b < W.heap.size ∧ ∀ j, j < 7 → W.cell? ⟨b, off + i * 7 + j, none⟩ = (sesE o)[j]?) ∧ AnsAt W o.x) key
    refine ⟨(List.range len).map f, ⟨?_, some ⟨b, off, spot⟩, c, by simp, ⟨by simpa using hl, hm⟩, fun hp => ?_⟩, fun s hs => ?_, fun n' c' e => by simp at e⟩
    · have h1 := hw (((List.range len).map D).length + ((List.range (m - len)).map fun j => D (len + j)).length |> (· * Tryd.prog.bytesOf 69)) (by rw [hd]; simp [DataW.weights, Tryd.underlying32])
      simp only [bytes69, List.length_map, List.length_range] at h1
      have := reachLt h1
      simp only [List.length_map, List.length_range]
      omega
    · have hp' : 0 < len := by simpa using hp
      have hsp := hspot0 hp'
      subst hsp
      refine ⟨b, off, rfl, (hfo 0 hp').1.2.1, fun j hj => ?_⟩
      have hj' : j < len * 7 := by simpa using hj
      have hi : j / 7 < len := by omega
      have q0 := (hfo (j / 7) hi).1.2.2 (j % 7) (by omega)
      have g0 := celC_get sesK ((List.range len).map f) (j / 7) (by simpa using hi) (j % 7) (by omega)
      simp only [List.getElem_map, List.getElem_range] at g0
      have e : off + j = off + j / 7 * 7 + j % 7 := by omega
      rw [e, q0, ← g0, show j / 7 * 7 + j % 7 = j by omega]
    · obtain ⟨i, hi, rfl⟩ := List.mem_map.1 hs
      exact (hfo i (List.mem_range.1 hi)).2
set_option maxRecDepth 100000 in
/-- An answer among the arguments. -/
theorem open_ans {H : Type} {enc : TypeId × Value → H} {W : World} {b0 : Nat} {v : Value} {d : DataW H} {p : List MemPlace}
    (hv : Value.okWide Tryd.prog W .any b0 44 v) (h : DataW.Trod enc Tryd.prog W 0 (fun _ => true) true 44 v d p) (ts : List TypeId) (ds : List (DataW H)) (j : Nat)
    (hall : (DataW.weightsEach Tryd.prog ts ds).all (· ≤ reachBytes) = true) (hts : ts[j]? = some 44) (hds : ds[j]? = some d) : ∃ x : AnsX, v = .agg x.cs ∧ AnsAt W x := by
  obtain ⟨cs, rfl, hsz⟩ := okWide_struct Tryd.underlying44 hv
  rw [cells44] at hsz
  obtain ⟨fuel, hf⟩ := h
  obtain ⟨x, e, g⟩ := ans_cells (cs := (Value.agg cs).cells.toList) (by simpa [Value.cells] using hsz) hf (wb_of hall hts hds)
  refine ⟨x, ?_, g⟩
  have e2 : cs.toList = x.cs.toList := by simpa [Value.cells] using e
  have : cs = x.cs := by rw [← Array.toArray_toList (xs := cs), e2]
  rw [this]
end Go.Proofs.YtgdgpcheammbpaaDoor
