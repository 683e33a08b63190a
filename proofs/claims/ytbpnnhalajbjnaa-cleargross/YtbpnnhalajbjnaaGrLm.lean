/- Orders to be placed, among the arguments; ClearGross, whole. -/
import Derived.Test.YtbpnnhalajbjnaaGrWm
import Derived.Test.YtbpnnhalajbjnaaGrVm
import Derived.Test.YtbpnnhalajbjnaaArL
namespace Go.Proofs.Ytbpnnhalajbjnaa
open Go.ChangeShapes Go.WideShapes Go.ChangeAt Go.RowKit
set_option linter.all false
theorem gross_walk (v : Value) (l : List PutV) (w : World) (h : Puts w v l) : Calls Try.prog 8 #[v] w fun e w' => e = .returned (.bool true) ∧ Below w.heap.size w w' := by
  obtain ⟨a, c, rfl⟩ := h.slice
  by_cases hl : l.length ≤ 30
  · exact gross_walk0 a c l w h hl
  · have hc := h.cap
    have h30 : (l.take 30).length = 30 := by rw [List.length_take]; omega
    have h2 := h.upto putK 30 (by omega)
    exact gross_walk1 a c l.length (l.take 30) w (by rw [h30]; exact h2) h30 (by omega) (by omega)
theorem cells59 : Try.prog.cellsOf 59 = 5 := by kernel_rfl
theorem bytes59 : Try.prog.bytesOf 59 = 40 := by kernel_rfl
theorem put_cells {H : Type} {enc : TypeId × Value → H} {W : World} {n : Nat} {cs : List Value} {x : DataW H × List MemPlace} (hl : cs.length = 5)
    (h : DataW.trod enc Try.prog W 0 (fun _ => true) true n 59 cs = some x) : ∃ p : PutV, cs = putE p := by
  obtain ⟨xs, n', _, _, _, hxl, hfs⟩ := DataW.trod_struct Try.underlying59 h
  have f0 : DataW.trod enc Try.prog W 0 (fun _ => true) true n' 3 ((cs.drop 0).take (Try.prog.cellsOf 3)) = xs[0]? := hfs 0 _ rfl
  have f1 : DataW.trod enc Try.prog W 0 (fun _ => true) true n' 3 ((cs.drop 1).take (Try.prog.cellsOf 3)) = xs[1]? := hfs 1 _ rfl
  have f2 : DataW.trod enc Try.prog W 0 (fun _ => true) true n' 3 ((cs.drop 2).take (Try.prog.cellsOf 3)) = xs[2]? := hfs 2 _ rfl
  have f3 : DataW.trod enc Try.prog W 0 (fun _ => true) true n' 3 ((cs.drop 3).take (Try.prog.cellsOf 3)) = xs[3]? := hfs 3 _ rfl
  have f4 : DataW.trod enc Try.prog W 0 (fun _ => true) true n' 4 ((cs.drop 4).take (Try.prog.cellsOf 4)) = xs[4]? := hfs 4 _ rfl
  rw [cells3] at f0 f1 f2 f3
  rw [cells4] at f4
  obtain ⟨v0, v1, v2, v3, v4, rfl⟩ := five cs hl
  obtain ⟨y0, y1, y2, y3, y4, rfl⟩ := five xs hxl
  simp only [List.drop_zero, List.drop_succ_cons, List.take_succ_cons, List.take_zero, List.getElem?_cons_zero, List.getElem?_cons_succ] at f0 f1 f2 f3 f4
  obtain ⟨z0, e0, _, _⟩ := DataW.trod_int Try.underlying3 f0
  obtain ⟨z1, e1, _, _⟩ := DataW.trod_int Try.underlying3 f1
  obtain ⟨z2, e2, _, _⟩ := DataW.trod_int Try.underlying3 f2
  obtain ⟨z3, e3, _, _⟩ := DataW.trod_int Try.underlying3 f3
  obtain ⟨z4, e4, _⟩ := DataW.trod_bool Try.underlying4 f4
  simp only [List.cons.injEq, and_true] at e0 e1 e2 e3 e4
  subst e0 e1 e2 e3 e4
  exact ⟨⟨z0, z1, z2, z3, z4⟩, rfl⟩
set_option maxRecDepth 100000 in
theorem puts_cells {H : Type} {enc : TypeId × Value → H} {W : World} {n : Nat} {v : Value} {x : DataW H × List MemPlace}
    (h : DataW.trod enc Try.prog W 0 (fun _ => true) true n 54 [v] = some x) :
    ∃ a c, ∃ l : List PutV, v = .slice a l.length c ∧ (l.length ≤ c ∧ c ≤ maxLen) ∧ (0 < l.length → ∃ b off, a = some ⟨b, off, none⟩ ∧ b < W.heap.size ∧ ∀ j, j < l.length * 5 → W.cell? ⟨b, off + j, none⟩ = (celC putE l)[j]?) ∧
      (x.1 = .nil ∧ l = [] ∨ ∃ el sp, x.1 = .slice el sp ∧ l.length = el.length) := by
  rcases Deep.open_slice Try.underlying54 h with ⟨hcs, hx⟩ | ⟨x0, len, c, m, n0, D, Pl, hcs, _, hl, hm, hmm, hxe, hx⟩
  · have : v = .slice none 0 0 := by simpa using hcs
    subst this
    exact ⟨none, 0, [], rfl, ⟨Nat.le_refl _, Nat.zero_le _⟩, fun h => absurd h (by simp), .inl ⟨by rw [hx], rfl⟩⟩
  · have : v = .slice (some x0) len c := by simpa using hcs
    subst this
    simp only [if_true] at hmm
    rw [cells59] at hx
    obtain ⟨b, off, spot⟩ := x0
    have hspot0 : 0 < len → spot = none := by
      intro hpos
      obtain ⟨cs', h1, _⟩ := hx 0 (by omega)
      obtain ⟨_, hlen, hcell⟩ := World.cells?_some h1
      have h5 : 0 < cs'.length := by omega
      have g := World.cell?_spot ((hcell 0 (by omega)).trans (List.getElem?_eq_getElem h5))
      simpa [Addr.add] using g
    have key : ∀ i, i < len → ∃ o : PutV, spot = none ∧ b < W.heap.size ∧ ∀ j, j < 5 → W.cell? ⟨b, off + i * 5 + j, none⟩ = (putE o)[j]? := by
      intro i hi
      obtain ⟨cs', h1, h2⟩ := hx i (by omega)
      obtain ⟨_, hlen, hcell⟩ := World.cells?_some h1
      obtain ⟨o, rfl⟩ := put_cells hlen h2
      have hspot : spot = none := hspot0 (by omega)
      subst hspot
      refine ⟨o, rfl, ?_, fun j hj => ?_⟩
      · have k0 := hcell 0 (by omega)
        rw [addN, addN] at k0
        rcases Nat.lt_or_ge b W.heap.size with h' | h'
        · exact h'
        · simp [World.cell?, Array.getElem?_eq_none h', putE] at k0
      · have k0 := hcell j (by omega)
        rw [addN, addN] at k0
        rw [k0]
    obtain ⟨f, hfo⟩ := @Deep.choose_lt PutV ⟨⟨0, 0, 0, 0, false⟩⟩ len (fun i o => spot = none ∧ b < W.heap.size ∧ ∀ j, j < 5 → W.cell? ⟨b, off + i * 5 + j, none⟩ = (putE o)[j]?) key
    refine ⟨some ⟨b, off, spot⟩, c, (List.range len).map f, by simp, ⟨by simpa using hl, hm⟩, fun hp => ?_, .inr ⟨_, _, by rw [hxe], by simp⟩⟩
    have hp' : 0 < len := by simpa using hp
    have hsp := hspot0 hp'
    subst hsp
    refine ⟨b, off, rfl, (hfo 0 hp').2.1, fun j hj => ?_⟩
    have hj' : j < len * 5 := by simpa using hj
    have hi : j / 5 < len := by omega
    have q0 := (hfo (j / 5) hi).2.2 (j % 5) (by omega)
    have g0 := celC_get putK ((List.range len).map f) (j / 5) (by simpa using hi) (j % 5) (by omega)
    simp only [List.getElem_map, List.getElem_range] at g0
    have e : off + j = off + j / 5 * 5 + j % 5 := by omega
    rw [e, q0, ← g0, show j / 5 * 5 + j % 5 = j by omega]
set_option maxRecDepth 100000 in
/-- Orders to be placed, among the arguments. -/
theorem open_puts {H : Type} {enc : TypeId × Value → H} {W : World} {b0 : Nat} {v : Value} {d : DataW H} {p : List MemPlace}
    (hv : Value.okWide Try.prog W .any b0 54 v) (h : DataW.Trod enc Try.prog W 0 (fun _ => true) true 54 v d p) (hw : Light 54 d) : ∃ l, Puts W v l := by
  obtain ⟨fuel, hf⟩ := h
  obtain ⟨va, len, c, rfl⟩ := okWide_slice Try.underlying54 hv
  have hcl : (Value.slice va len c).cells.toList = [.slice va len c] := by simp [Value.cells]
  obtain ⟨a, c', l, e, hcc, hg, hx⟩ := puts_cells (x := (d, p)) hf
  refine ⟨l, ?_, a, c', e, hcc, hg⟩
  rcases hx with ⟨_, hl⟩ | ⟨el, sp, hx, hle⟩
  · rw [hl]
    simp
  · dsimp only at hx
    have hw2 := hw ((el.length + sp.length) * Try.prog.bytesOf 59) (by rw [hx]; simp [DataW.weights, Try.underlying54])
    rw [bytes59] at hw2
    have := reach_lt hw2
    omega
end Go.Proofs.Ytbpnnhalajbjnaa
