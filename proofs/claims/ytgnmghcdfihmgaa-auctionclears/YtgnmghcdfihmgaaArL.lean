/- A book among the arguments, opened. -/
import Derived.Test.YtgnmghcdfihmgaaAr
import Derived.ProofKit
import Derived.OpenShut
import Derived.Below
import Derived.ChangeOld
import Derived.SizedLaws
namespace Go.Proofs.Ytgnmghcdfihmgaa
open Go.ChangeShapes Go.WideShapes Go.ChangeAt Go.RowKit
set_option linter.all false
theorem five {α : Type} (l : List α) (h : l.length = 5) : ∃ a b c d e, l = [a, b, c, d, e] := by
  match l, h with
  | [a, b, c, d, e], _ => exact ⟨a, b, c, d, e, rfl⟩
theorem cells_34 : Try.prog.cellsOf 22 = 1 := by kernel_rfl
theorem cells_35 : Try.prog.cellsOf 23 = 1 := by kernel_rfl
theorem cells_37 : Try.prog.cellsOf 25 = 5 := by kernel_rfl
theorem cells_47 : Try.prog.cellsOf 38 = 4 := by kernel_rfl
theorem cells_45 : Try.prog.cellsOf 48 = 3 := by kernel_rfl
theorem bytes_47 : Try.prog.bytesOf 38 = 32 := by kernel_rfl
theorem bytes_45 : Try.prog.bytesOf 48 = 24 := by kernel_rfl
theorem threeL {α : Type} (l : List α) (h : l.length = 3) : ∃ a b c, l = [a, b, c] := by
  match l, h with
  | [a, b, c], _ => exact ⟨a, b, c, rfl⟩
theorem ord_cells {H : Type} {enc : TypeId × Value → H} {W : World} {n : Nat} {cs : List Value} {x : DataW H × List MemPlace} (hl : cs.length = 4)
    (h : DataW.trod enc Try.prog W 0 (fun _ => true) true n 38 cs = some x) : ∃ p : OrdV, cs = ordE p := by
  obtain ⟨xs, n', _, _, _, hxl, hfs⟩ := DataW.trod_struct Try.underlying38 h
  have f0 : DataW.trod enc Try.prog W 0 (fun _ => true) true n' 3 ((cs.drop 0).take (Try.prog.cellsOf 3)) = xs[0]? := hfs 0 _ rfl
  have f1 : DataW.trod enc Try.prog W 0 (fun _ => true) true n' 3 ((cs.drop 1).take (Try.prog.cellsOf 3)) = xs[1]? := hfs 1 _ rfl
  have f2 : DataW.trod enc Try.prog W 0 (fun _ => true) true n' 3 ((cs.drop 2).take (Try.prog.cellsOf 3)) = xs[2]? := hfs 2 _ rfl
  have f3 : DataW.trod enc Try.prog W 0 (fun _ => true) true n' 3 ((cs.drop 3).take (Try.prog.cellsOf 3)) = xs[3]? := hfs 3 _ rfl
  rw [cells3] at f0 f1 f2 f3
  obtain ⟨v0, v1, v2, v3, rfl⟩ := fourL cs hl
  obtain ⟨y0, y1, y2, y3, rfl⟩ := fourL xs hxl
  simp only [List.drop_zero, List.drop_succ_cons, List.take_succ_cons, List.take_zero, List.getElem?_cons_zero, List.getElem?_cons_succ] at f0 f1 f2 f3
  obtain ⟨z0, e0, _, _⟩ := DataW.trod_int Try.underlying3 f0
  obtain ⟨z1, e1, _, _⟩ := DataW.trod_int Try.underlying3 f1
  obtain ⟨z2, e2, _, _⟩ := DataW.trod_int Try.underlying3 f2
  obtain ⟨z3, e3, _, _⟩ := DataW.trod_int Try.underlying3 f3
  simp only [List.cons.injEq, and_true] at e0 e1 e2 e3
  subst e0 e1 e2 e3
  exact ⟨⟨z0, z1, z2, z3⟩, rfl⟩
theorem owe_cells {H : Type} {enc : TypeId × Value → H} {W : World} {n : Nat} {cs : List Value} {x : DataW H × List MemPlace} (hl : cs.length = 3)
    (h : DataW.trod enc Try.prog W 0 (fun _ => true) true n 48 cs = some x) : ∃ p : OweV, cs = oweE p := by
  obtain ⟨xs, n', _, _, _, hxl, hfs⟩ := DataW.trod_struct Try.underlying48 h
  have f0 : DataW.trod enc Try.prog W 0 (fun _ => true) true n' 3 ((cs.drop 0).take (Try.prog.cellsOf 3)) = xs[0]? := hfs 0 _ rfl
  have f1 : DataW.trod enc Try.prog W 0 (fun _ => true) true n' 3 ((cs.drop 1).take (Try.prog.cellsOf 3)) = xs[1]? := hfs 1 _ rfl
  have f2 : DataW.trod enc Try.prog W 0 (fun _ => true) true n' 3 ((cs.drop 2).take (Try.prog.cellsOf 3)) = xs[2]? := hfs 2 _ rfl
  rw [cells3] at f0 f1 f2
  obtain ⟨v0, v1, v2, rfl⟩ := threeL cs hl
  obtain ⟨y0, y1, y2, rfl⟩ := threeL xs hxl
  simp only [List.drop_zero, List.drop_succ_cons, List.take_succ_cons, List.take_zero, List.getElem?_cons_zero, List.getElem?_cons_succ] at f0 f1 f2
  obtain ⟨z0, e0, _, _⟩ := DataW.trod_int Try.underlying3 f0
  obtain ⟨z1, e1, _, _⟩ := DataW.trod_int Try.underlying3 f1
  obtain ⟨z2, e2, _, _⟩ := DataW.trod_int Try.underlying3 f2
  simp only [List.cons.injEq, and_true] at e0 e1 e2
  subst e0 e1 e2
  exact ⟨⟨z0, z1, z2⟩, rfl⟩
set_option maxRecDepth 100000 in
theorem ords_cells {H : Type} {enc : TypeId × Value → H} {W : World} {n : Nat} {v : Value} {x : DataW H × List MemPlace}
    (h : DataW.trod enc Try.prog W 0 (fun _ => true) true n 22 [v] = some x) :
    ∃ a c, ∃ l : List OrdV, v = .slice a l.length c ∧ (l.length ≤ c ∧ c ≤ maxLen) ∧ (0 < l.length → ∃ b off, a = some ⟨b, off, none⟩ ∧ b < W.heap.size ∧ ∀ j, j < l.length * 4 → W.cell? ⟨b, off + j, none⟩ = (celC ordE l)[j]?) ∧
      (x.1 = .nil ∧ l = [] ∨ ∃ el sp, x.1 = .slice el sp ∧ l.length = el.length) := by
  rcases Deep.open_slice Try.underlying22 h with ⟨hcs, hx⟩ | ⟨x0, len, c, m, n0, D, Pl, hcs, _, hl, hm, hmm, hxe, hx⟩
  · have : v = .slice none 0 0 := by simpa using hcs
    subst this
    exact ⟨none, 0, [], rfl, ⟨Nat.le_refl _, Nat.zero_le _⟩, fun h => absurd h (by simp), .inl ⟨by rw [hx], rfl⟩⟩
  · have : v = .slice (some x0) len c := by simpa using hcs
    subst this
    simp only [if_true] at hmm
    rw [cells_47] at hx
    obtain ⟨b, off, spot⟩ := x0
    have hspot0 : 0 < len → spot = none := by
      intro hpos
      obtain ⟨cs', h1, _⟩ := hx 0 (by omega)
      obtain ⟨_, hlen, hcell⟩ := World.cells?_some h1
      have h5 : 0 < cs'.length := by omega
      have g := World.cell?_spot ((hcell 0 (by omega)).trans (List.getElem?_eq_getElem h5))
      simpa [Addr.add] using g
    have key : ∀ i, i < len → ∃ o : OrdV, spot = none ∧ b < W.heap.size ∧ ∀ j, j < 4 → W.cell? ⟨b, off + i * 4 + j, none⟩ = (ordE o)[j]? := by
      intro i hi
      obtain ⟨cs', h1, h2⟩ := hx i (by omega)
      obtain ⟨_, hlen, hcell⟩ := World.cells?_some h1
      obtain ⟨o, rfl⟩ := ord_cells hlen h2
      have hspot : spot = none := hspot0 (by omega)
      subst hspot
      refine ⟨o, rfl, ?_, fun j hj => ?_⟩
      · have k0 := hcell 0 (by omega)
        rw [addN, addN] at k0
        rcases Nat.lt_or_ge b W.heap.size with h' | h'
        · exact h'
        · simp [World.cell?, Array.getElem?_eq_none h', ordE] at k0
      · have k0 := hcell j (by omega)
        rw [addN, addN] at k0
        rw [k0]
    obtain ⟨f, hfo⟩ := @Deep.choose_lt OrdV ⟨⟨0, 0, 0, 0⟩⟩ len (fun i o => spot = none ∧ b < W.heap.size ∧ ∀ j, j < 4 → W.cell? ⟨b, off + i * 4 + j, none⟩ = (ordE o)[j]?) key
    refine ⟨some ⟨b, off, spot⟩, c, (List.range len).map f, by simp, ⟨by simpa using hl, hm⟩, fun hp => ?_, .inr ⟨_, _, by rw [hxe], by simp⟩⟩
    have hp' : 0 < len := by simpa using hp
    have hsp := hspot0 hp'
    subst hsp
    refine ⟨b, off, rfl, (hfo 0 hp').2.1, fun j hj => ?_⟩
    have hj' : j < len * 4 := by simpa using hj
    have hi : j / 4 < len := by omega
    have q0 := (hfo (j / 4) hi).2.2 (j % 4) (by omega)
    have g0 := celC_get ordK ((List.range len).map f) (j / 4) (by simpa using hi) (j % 4) (by omega)
    simp only [List.getElem_map, List.getElem_range] at g0
    have e : off + j = off + j / 4 * 4 + j % 4 := by omega
    rw [e, q0, ← g0, show j / 4 * 4 + j % 4 = j by omega]
set_option maxRecDepth 100000 in
theorem owes_cells {H : Type} {enc : TypeId × Value → H} {W : World} {n : Nat} {v : Value} {x : DataW H × List MemPlace}
    (h : DataW.trod enc Try.prog W 0 (fun _ => true) true n 23 [v] = some x) :
    ∃ a c, ∃ l : List OweV, v = .slice a l.length c ∧ (l.length ≤ c ∧ c ≤ maxLen) ∧ (0 < l.length → ∃ b off, a = some ⟨b, off, none⟩ ∧ b < W.heap.size ∧ ∀ j, j < l.length * 3 → W.cell? ⟨b, off + j, none⟩ = (celC oweE l)[j]?) ∧
      (x.1 = .nil ∧ l = [] ∨ ∃ el sp, x.1 = .slice el sp ∧ l.length = el.length) := by
  rcases Deep.open_slice Try.underlying23 h with ⟨hcs, hx⟩ | ⟨x0, len, c, m, n0, D, Pl, hcs, _, hl, hm, hmm, hxe, hx⟩
  · have : v = .slice none 0 0 := by simpa using hcs
    subst this
    exact ⟨none, 0, [], rfl, ⟨Nat.le_refl _, Nat.zero_le _⟩, fun h => absurd h (by simp), .inl ⟨by rw [hx], rfl⟩⟩
  · have : v = .slice (some x0) len c := by simpa using hcs
    subst this
    simp only [if_true] at hmm
    rw [cells_45] at hx
    obtain ⟨b, off, spot⟩ := x0
    have hspot0 : 0 < len → spot = none := by
      intro hpos
      obtain ⟨cs', h1, _⟩ := hx 0 (by omega)
      obtain ⟨_, hlen, hcell⟩ := World.cells?_some h1
      have h5 : 0 < cs'.length := by omega
      have g := World.cell?_spot ((hcell 0 (by omega)).trans (List.getElem?_eq_getElem h5))
      simpa [Addr.add] using g
    have key : ∀ i, i < len → ∃ o : OweV, spot = none ∧ b < W.heap.size ∧ ∀ j, j < 3 → W.cell? ⟨b, off + i * 3 + j, none⟩ = (oweE o)[j]? := by
      intro i hi
      obtain ⟨cs', h1, h2⟩ := hx i (by omega)
      obtain ⟨_, hlen, hcell⟩ := World.cells?_some h1
      obtain ⟨o, rfl⟩ := owe_cells hlen h2
      have hspot : spot = none := hspot0 (by omega)
      subst hspot
      refine ⟨o, rfl, ?_, fun j hj => ?_⟩
      · have k0 := hcell 0 (by omega)
        rw [addN, addN] at k0
        rcases Nat.lt_or_ge b W.heap.size with h' | h'
        · exact h'
        · simp [World.cell?, Array.getElem?_eq_none h', oweE] at k0
      · have k0 := hcell j (by omega)
        rw [addN, addN] at k0
        rw [k0]
    obtain ⟨f, hfo⟩ := @Deep.choose_lt OweV ⟨⟨0, 0, 0⟩⟩ len (fun i o => spot = none ∧ b < W.heap.size ∧ ∀ j, j < 3 → W.cell? ⟨b, off + i * 3 + j, none⟩ = (oweE o)[j]?) key
    refine ⟨some ⟨b, off, spot⟩, c, (List.range len).map f, by simp, ⟨by simpa using hl, hm⟩, fun hp => ?_, .inr ⟨_, _, by rw [hxe], by simp⟩⟩
    have hp' : 0 < len := by simpa using hp
    have hsp := hspot0 hp'
    subst hsp
    refine ⟨b, off, rfl, (hfo 0 hp').2.1, fun j hj => ?_⟩
    have hj' : j < len * 3 := by simpa using hj
    have hi : j / 3 < len := by omega
    have q0 := (hfo (j / 3) hi).2.2 (j % 3) (by omega)
    have g0 := celC_get oweK ((List.range len).map f) (j / 3) (by simpa using hi) (j % 3) (by omega)
    simp only [List.getElem_map, List.getElem_range] at g0
    have e : off + j = off + j / 3 * 3 + j % 3 := by omega
    rw [e, q0, ← g0, show j / 3 * 3 + j % 3 = j by omega]
set_option maxRecDepth 100000 in
/-- A book among the arguments. -/
theorem open_lane {H : Type} {enc : TypeId × Value → H} {W : World} {b0 : Nat} {v : Value} {d : DataW H} {p : List MemPlace}
    (hv : Value.okWide Try.prog W .any b0 25 v) (h : DataW.Trod enc Try.prog W 0 (fun _ => true) true 25 v d p) (hw : Light 25 d) :
    ∃ L b a o, v = laneV L b a o ∧ Lan W L b a o := by
  obtain ⟨cs, rfl, hsz⟩ := okWide_struct Try.underlying25 hv
  rw [cells_37] at hsz
  obtain ⟨fuel, hf⟩ := h
  have hcl : (Value.agg cs).cells.toList = cs.toList := by simp [Value.cells]
  rw [hcl] at hf
  obtain ⟨xs, n', _, hd, _, hxl, hfs⟩ := DataW.trod_struct Try.underlying25 hf
  have f0 : DataW.trod enc Try.prog W 0 (fun _ => true) true n' 4 ((cs.toList.drop 0).take (Try.prog.cellsOf 4)) = xs[0]? := hfs 0 _ rfl
  have f1 : DataW.trod enc Try.prog W 0 (fun _ => true) true n' 3 ((cs.toList.drop 1).take (Try.prog.cellsOf 3)) = xs[1]? := hfs 1 _ rfl
  have f2 : DataW.trod enc Try.prog W 0 (fun _ => true) true n' 22 ((cs.toList.drop 2).take (Try.prog.cellsOf 22)) = xs[2]? := hfs 2 _ rfl
  have f3 : DataW.trod enc Try.prog W 0 (fun _ => true) true n' 22 ((cs.toList.drop 3).take (Try.prog.cellsOf 22)) = xs[3]? := hfs 3 _ rfl
  have f4 : DataW.trod enc Try.prog W 0 (fun _ => true) true n' 23 ((cs.toList.drop 4).take (Try.prog.cellsOf 23)) = xs[4]? := hfs 4 _ rfl
  rw [cells4] at f0
  rw [cells3] at f1
  rw [cells_34] at f2 f3
  rw [cells_35] at f4
  obtain ⟨v0, v1, v2, v3, v4, e⟩ := five cs.toList (by simpa using hsz)
  obtain ⟨y0, y1, y2, y3, y4, rfl⟩ := five xs hxl
  rw [e] at f0 f1 f2 f3 f4
  simp only [List.drop_zero, List.drop_succ_cons, List.take_succ_cons, List.take_zero, List.getElem?_cons_zero, List.getElem?_cons_succ] at f0 f1 f2 f3 f4
  obtain ⟨z0, e0, _⟩ := DataW.trod_bool Try.underlying4 f0
  obtain ⟨z1, e1, _, _⟩ := DataW.trod_int Try.underlying3 f1
  obtain ⟨ba, bc, bl, rfl, hcc, hg, hx⟩ := ords_cells f2
  obtain ⟨aa, ac, al, rfl, hcc', hg', hx'⟩ := ords_cells f3
  obtain ⟨oa, oc, ol, rfl, hcc2, hg2, hx2⟩ := owes_cells f4
  simp only [List.cons.injEq, and_true] at e0 e1
  subst e0 e1
  have ecs : cs = #[.bool z0, .int .i64 z1, .slice ba bl.length bc, .slice aa al.length ac, .slice oa ol.length oc] := by rw [← Array.toArray_toList (xs := cs), e]
  have hd' : d = .agg [y0.1, y1.1, y2.1, y3.1, y4.1] := by
    have h3 := hd
    simp at h3
    exact h3.1
  refine ⟨⟨z0, z1, bl, al, ol⟩, .slice ba bl.length bc, .slice aa al.length ac, .slice oa ol.length oc, by rw [ecs]; rfl, ⟨⟨?_, ba, bc, rfl, hcc, hg⟩, ⟨?_, aa, ac, rfl, hcc', hg'⟩, ⟨?_, oa, oc, rfl, hcc2, hg2⟩⟩⟩
  · rcases hx with ⟨_, hl⟩ | ⟨el, sp, hx, hle⟩
    · show bl.length * 32 ≤ _
      rw [hl]
      simp
    · rw [hx] at hd'
      have hw2 := hw ((el.length + sp.length) * Try.prog.bytesOf 38) (by rw [hd']; simp [DataW.weights, DataW.weightsEach, Try.underlying25, Try.underlying22, Try.underlying23, Try.underlying3, Try.underlying4])
      rw [bytes_47] at hw2
      have := reach_lt hw2
      show bl.length * 32 ≤ _
      omega
  · rcases hx' with ⟨_, hl⟩ | ⟨el, sp, hx, hle⟩
    · show al.length * 32 ≤ _
      rw [hl]
      simp
    · rw [hx] at hd'
      have hw2 := hw ((el.length + sp.length) * Try.prog.bytesOf 38) (by rw [hd']; simp [DataW.weights, DataW.weightsEach, Try.underlying25, Try.underlying22, Try.underlying23, Try.underlying3, Try.underlying4])
      rw [bytes_47] at hw2
      have := reach_lt hw2
      show al.length * 32 ≤ _
      omega
  · rcases hx2 with ⟨_, hl⟩ | ⟨el, sp, hx, hle⟩
    · show ol.length * 24 ≤ _
      rw [hl]
      simp
    · rw [hx] at hd'
      have hw2 := hw ((el.length + sp.length) * Try.prog.bytesOf 48) (by rw [hd']; simp [DataW.weights, DataW.weightsEach, Try.underlying25, Try.underlying22, Try.underlying23, Try.underlying3, Try.underlying4])
      rw [bytes_45] at hw2
      have := reach_lt hw2
      show ol.length * 24 ≤ _
      omega
end Go.Proofs.Ytgnmghcdfihmgaa
