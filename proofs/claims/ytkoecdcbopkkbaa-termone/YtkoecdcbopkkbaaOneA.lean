/- Marks and talks among the arguments, opened. -/
import Derived.Test.YtkoecdcbopkkbaaOneW
import Derived.Test.YtkoecdcbopkkbaaArgs2
namespace Go.Proofs.Ytkoecdcbopkkbaa
open Go.ChangeShapes Go.WideShapes Go.ChangeAt Go.RowKit
theorem cells57 : Try.prog.cellsOf 57 = 4 := by kernel_rfl
set_option maxRecDepth 100000 in
theorem open_talks {H : Type} {enc : TypeId × Value → H} {W : World} {a : Option Addr} {len cap : Nat} {d : DataW H} {p : List MemPlace}
    (h : DataW.Trod enc Try.prog W 0 (fun _ => true) true 53 (.slice a len cap) d p) :
    ∃ l : List TalkV, l.length = len ∧ TalksAt W a l ∧ len ≤ cap ∧ cap ≤ maxLen := by
  obtain ⟨fuel, hf⟩ := h
  rcases Deep.open_slice Try.underlying53 hf with ⟨hcs, _⟩ | ⟨x, l, c, m, n, D, Pl, hcs, _, hl, hm, hmm, _, hx⟩
  · simp [Value.cells] at hcs
    obtain ⟨rfl, rfl, rfl⟩ := hcs
    exact ⟨[], rfl, fun i hi => by simp at hi, Nat.le_refl _, Nat.zero_le _⟩
  · simp [Value.cells] at hcs
    obtain ⟨rfl, rfl, rfl⟩ := hcs
    simp only [if_true] at hmm
    rw [cells57] at hx
    obtain ⟨b, off, spot⟩ := x
    have hspot0 : 0 < len → spot = none := by
      intro hpos
      obtain ⟨cs', h1, _⟩ := hx 0 (by omega)
      obtain ⟨_, hlen, hcell⟩ := World.cells?_some h1
      obtain ⟨v0, v1, v2, v3, rfl⟩ := four cs' hlen
      have g := World.cell?_spot (hcell 0 (by omega))
      simpa [Addr.add] using g
    have key : ∀ i, i < len → ∃ o : TalkV, spot = none ∧ b < W.heap.size ∧ TalkAt W b (off + i * 4) o := by
      intro i hi
      obtain ⟨cs', h1, h2⟩ := hx i (by omega)
      obtain ⟨_, hlen, hcell⟩ := World.cells?_some h1
      obtain ⟨xs, n', _, _, _, hxl, hfs⟩ := DataW.trod_struct Try.underlying57 h2
      have f0 : DataW.trod enc Try.prog W 0 (fun _ => true) true n' 3 ((cs'.drop 0).take (Try.prog.cellsOf 3)) = xs[0]? := hfs 0 _ rfl
      have f1 : DataW.trod enc Try.prog W 0 (fun _ => true) true n' 3 ((cs'.drop 1).take (Try.prog.cellsOf 3)) = xs[1]? := hfs 1 _ rfl
      have f2 : DataW.trod enc Try.prog W 0 (fun _ => true) true n' 3 ((cs'.drop 2).take (Try.prog.cellsOf 3)) = xs[2]? := hfs 2 _ rfl
      have f3 : DataW.trod enc Try.prog W 0 (fun _ => true) true n' 4 ((cs'.drop 3).take (Try.prog.cellsOf 4)) = xs[3]? := hfs 3 _ rfl
      rw [cells3] at f0 f1 f2
      rw [cells4] at f3
      obtain ⟨v0, v1, v2, v3, rfl⟩ := four cs' hlen
      obtain ⟨y0, y1, y2, y3, rfl⟩ := four xs hxl
      simp only [List.drop_zero, List.drop_succ_cons, List.take_succ_cons, List.take_zero, List.getElem?_cons_zero, List.getElem?_cons_succ] at f0 f1 f2 f3
      obtain ⟨x0, e0, _, _⟩ := DataW.trod_int Try.underlying3 f0
      obtain ⟨x1, e1, _, w1⟩ := DataW.trod_int Try.underlying3 f1
      obtain ⟨x2, e2, _, w2⟩ := DataW.trod_int Try.underlying3 f2
      obtain ⟨x3, e3, _⟩ := DataW.trod_bool Try.underlying4 f3
      simp only [List.cons.injEq, and_true] at e0 e1 e2 e3
      subst e0 e1 e2 e3
      have hspot : spot = none := hspot0 (by omega)
      subst hspot
      have k0 := hcell 0 (by omega)
      have k1 := hcell 1 (by omega)
      have k2 := hcell 2 (by omega)
      have k3 := hcell 3 (by omega)
      rw [addN, addN] at k0 k1 k2 k3
      refine ⟨⟨x0, x1, x2, x3⟩, rfl, ?_, by simpa using k0, by simpa using k1, by simpa using k2, by simpa using k3, wfB w1, wfB w2⟩
      rcases Nat.lt_or_ge b W.heap.size with h' | h'
      · exact h'
      · simp [World.cell?, Array.getElem?_eq_none h'] at k0
    haveI : Inhabited TalkV := ⟨⟨0, 0, 0, false⟩⟩
    obtain ⟨f, hfo⟩ := Deep.choose_lt (α := TalkV) (p := fun i o => spot = none ∧ b < W.heap.size ∧ TalkAt W b (off + i * 4) o) key
    refine ⟨(List.range len).map f, by simp, fun i hi => ?_, hl, hm⟩
    have hi' : i < len := by simpa using hi
    obtain ⟨rfl, hb, ho⟩ := hfo i hi'
    refine ⟨b, off, rfl, hb, ?_⟩
    simpa using ho
set_option maxRecDepth 100000 in
theorem open_spots {H : Type} {enc : TypeId × Value → H} {W : World} {a : Option Addr} {len cap : Nat} {d : DataW H} {p : List MemPlace}
    (h : DataW.Trod enc Try.prog W 0 (fun _ => true) true 52 (.slice a len cap) d p) :
    ∃ l : List (Int × Int), l.length = len ∧ SpotsAt W a l ∧ len ≤ cap ∧ cap ≤ maxLen := by
  obtain ⟨fuel, hf⟩ := h
  rcases Deep.open_slice Try.underlying52 hf with ⟨hcs, _⟩ | ⟨x, l, c, m, n, D, Pl, hcs, _, hl, hm, hmm, _, hx⟩
  · simp [Value.cells] at hcs
    obtain ⟨rfl, rfl, rfl⟩ := hcs
    exact ⟨[], rfl, fun i hi => by simp at hi, Nat.le_refl _, Nat.zero_le _⟩
  · simp [Value.cells] at hcs
    obtain ⟨rfl, rfl, rfl⟩ := hcs
    simp only [if_true] at hmm
    rw [cells37] at hx
    obtain ⟨b, off, spot⟩ := x
    have hspot0 : 0 < len → spot = none := by
      intro hpos
      obtain ⟨cs', h1, _⟩ := hx 0 (by omega)
      obtain ⟨_, hlen, hcell⟩ := World.cells?_some h1
      obtain ⟨v0, v1, rfl⟩ := two cs' hlen
      have g := World.cell?_spot (hcell 0 (by omega))
      simpa [Addr.add] using g
    have key : ∀ i, i < len → ∃ o : Int × Int, spot = none ∧ b < W.heap.size ∧ W.cell? ⟨b, off + i * 2, none⟩ = some (.int .i64 o.1) ∧ W.cell? ⟨b, off + i * 2 + 1, none⟩ = some (.int .i64 o.2) := by
      intro i hi
      obtain ⟨cs', h1, h2⟩ := hx i (by omega)
      obtain ⟨_, hlen, hcell⟩ := World.cells?_some h1
      obtain ⟨x0, x1, rfl, _, _⟩ := spot_cells hlen h2
      have hspot : spot = none := hspot0 (by omega)
      subst hspot
      have k0 := hcell 0 (by simp)
      have k1 := hcell 1 (by simp)
      rw [addN, addN] at k0 k1
      refine ⟨(x0, x1), rfl, ?_, by simpa using k0, by simpa using k1⟩
      rcases Nat.lt_or_ge b W.heap.size with h' | h'
      · exact h'
      · simp [World.cell?, Array.getElem?_eq_none h'] at k0
    obtain ⟨f, hfo⟩ := Deep.choose_lt (α := Int × Int) (p := fun i o => spot = none ∧ b < W.heap.size ∧ W.cell? ⟨b, off + i * 2, none⟩ = some (.int .i64 o.1) ∧ W.cell? ⟨b, off + i * 2 + 1, none⟩ = some (.int .i64 o.2)) key
    refine ⟨(List.range len).map f, by simp, fun i hi => ?_, hl, hm⟩
    have hi' : i < len := by simpa using hi
    obtain ⟨rfl, hb, ho⟩ := hfo i hi'
    refine ⟨b, off, rfl, hb, ?_⟩
    simpa using ho
end Go.Proofs.Ytkoecdcbopkkbaa
