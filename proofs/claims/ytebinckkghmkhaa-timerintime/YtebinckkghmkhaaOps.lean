/- A script of calls among the arguments, opened; a row of numbers among them, opened. -/
import Derived.Test.YtebinckkghmkhaaBegun
import Derived.Deep.Slices
import Derived.ChangeSlices
namespace Go.Proofs.Ytebinckkghmkhaa
open Go.RowKit

/-- A call of a script. -/
structure OpV where
  dO : Int
  key : Int
  n : Int
def i64B (x : Int) : Prop := -9223372036854775808 ≤ x ∧ x ≤ 9223372036854775807
def OpAt (w : World) (b off : Nat) (o : OpV) : Prop :=
  w.cell? ⟨b, off, none⟩ = some (.int .i64 o.dO) ∧ w.cell? ⟨b, off + 1, none⟩ = some (.int .i64 o.key) ∧ w.cell? ⟨b, off + 2, none⟩ = some (.int .i64 o.n) ∧ i64B o.dO ∧ i64B o.key ∧ i64B o.n
def OpsAt (w : World) (a : Option Addr) (l : List OpV) : Prop :=
  ∀ i (h : i < l.length), ∃ b off, a = some ⟨b, off, none⟩ ∧ b < w.heap.size ∧ OpAt w b (off + i * 3) l[i]
theorem wfB {x : Int} (h : (Lit.int .i64 x).wf = true) : i64B x := by
  have e1 : IntKind.i64.min = -9223372036854775808 := by decide
  have e2 : IntKind.i64.max = 9223372036854775807 := by decide
  simpa [Lit.wf, e1, e2, i64B] using h
theorem OpsAt.below {w w' : World} {a : Option Addr} {l : List OpV} (h : OpsAt w a l) (hb : Below w.heap.size w w') : OpsAt w' a l := by
  intro i hi
  obtain ⟨b, off, e, hl, h0, h1, h2, r⟩ := h i hi
  exact ⟨b, off, e, Nat.lt_of_lt_of_le hl hb.size, (hb.cell hl).trans h0, (hb.cell hl).trans h1, (hb.cell hl).trans h2, r⟩
theorem cells32 : Try.prog.cellsOf 32 = 3 := by kernel_rfl
theorem cells3 : Try.prog.cellsOf 3 = 1 := by kernel_rfl
theorem addN (b off j : Nat) : (⟨b, off, none⟩ : Addr).add j = ⟨b, off + j, none⟩ := by cases j <;> simp [Addr.add]
/-- A row of numbers that can be read. -/
def NumsAt (w : World) (a : Option Addr) (l : List Int) : Prop :=
  ∀ j (h : j < l.length), ∃ b off, a = some ⟨b, off, none⟩ ∧ b < w.heap.size ∧ w.cell? ⟨b, off + j, none⟩ = some (.int .i64 l[j]) ∧ i64B l[j]
theorem NumsAt.below {w w' : World} {a : Option Addr} {l : List Int} (h : NumsAt w a l) (hb : Below w.heap.size w w') : NumsAt w' a l := by
  intro i hi
  obtain ⟨b, off, e, hl, h0, r⟩ := h i hi
  exact ⟨b, off, e, Nat.lt_of_lt_of_le hl hb.size, (hb.cell hl).trans h0, r⟩
/-- A row of numbers among what is read, opened. -/
theorem open_nums {H : Type} {enc : TypeId × Value → H} {W : World} {a : Option Addr} {len cap : Nat} {d : DataW H} {p : List MemPlace}
    (h : DataW.Trod enc Try.prog W 0 (fun _ => true) true 36 (.slice a len cap) d p) :
    ∃ l : List Int, l.length = len ∧ NumsAt W a l ∧ len ≤ cap ∧ cap ≤ maxLen := by
  obtain ⟨fuel, hf⟩ := h
  rcases ChangeShapes.open_ints Try.underlying36 Try.underlying3 cells3 hf with ⟨hcs, _⟩ | ⟨x, l, c, ss, hcs, _, hl, hm, hz, hx, hcell, hws⟩
  · simp [Value.cells] at hcs
    obtain ⟨rfl, rfl, rfl⟩ := hcs
    exact ⟨[], rfl, fun j hj => by simp at hj, Nat.le_refl _, Nat.zero_le _⟩
  · simp [Value.cells] at hcs
    obtain ⟨rfl, rfl, rfl⟩ := hcs
    simp only [if_true] at hz
    have hlen : (ss.take len).length = len := by rw [List.length_take]; omega
    obtain ⟨b, off, spot⟩ := x
    refine ⟨ss.take len, hlen, fun j hj => ?_, hl, hm⟩
    have hi' : j < ss.length := by rw [List.length_take] at hj; omega
    have hc := hcell j hi'
    have hspot : spot = none := by simpa [Addr.add] using World.cell?_spot (hcell 0 (by omega))
    subst hspot
    rw [addN] at hc
    have hg : ss.getD j 0 = (ss.take len)[j] := by simp [List.getD, List.getElem?_eq_getElem hi']
    rw [hg] at hc
    refine ⟨b, off, rfl, ?_, hc, wfB (hws _ (List.mem_of_mem_take (List.getElem_mem hj)))⟩
    rcases Nat.lt_or_ge b W.heap.size with h' | h'
    · exact h'
    · simp [World.cell?, Array.getElem?_eq_none h'] at hc
theorem three {α : Type} (l : List α) (h : l.length = 3) : ∃ a b c, l = [a, b, c] := by
  match l, h with
  | [a, b, c], _ => exact ⟨a, b, c, rfl⟩
set_option maxRecDepth 100000 in
theorem open_ops {H : Type} {enc : TypeId × Value → H} {W : World} {a : Option Addr} {len cap : Nat} {d : DataW H} {p : List MemPlace}
    (h : DataW.Trod enc Try.prog W 0 (fun _ => true) true 22 (.slice a len cap) d p) :
    ∃ l : List OpV, l.length = len ∧ OpsAt W a l ∧ len ≤ cap ∧ cap ≤ maxLen := by
  obtain ⟨fuel, hf⟩ := h
  rcases Deep.open_slice Try.underlying22 hf with ⟨hcs, _⟩ | ⟨x, l, c, m, n, D, Pl, hcs, _, hl, hm, hmm, _, hx⟩
  · simp [Value.cells] at hcs
    obtain ⟨rfl, rfl, rfl⟩ := hcs
    exact ⟨[], rfl, fun i hi => by simp at hi, Nat.le_refl _, Nat.zero_le _⟩
  · simp [Value.cells] at hcs
    obtain ⟨rfl, rfl, rfl⟩ := hcs
    simp only [if_true] at hmm
    rw [cells32] at hx
    obtain ⟨b, off, spot⟩ := x
    have hspot0 : 0 < len → spot = none := by
      intro hpos
      obtain ⟨cs', h1, _⟩ := hx 0 (by omega)
      obtain ⟨_, hlen, hcell⟩ := World.cells?_some h1
      obtain ⟨v0, v1, v2, rfl⟩ := three cs' hlen
      have g := World.cell?_spot (hcell 0 (by omega))
      simpa [Addr.add] using g
    have key : ∀ i, i < len → ∃ o : OpV, spot = none ∧ b < W.heap.size ∧ OpAt W b (off + i * 3) o := by
      intro i hi
      obtain ⟨cs', h1, h2⟩ := hx i (by omega)
      obtain ⟨_, hlen, hcell⟩ := World.cells?_some h1
      obtain ⟨xs, n', _, _, _, hxl, hfs⟩ := DataW.trod_struct Try.underlying32 h2
      have f0 : DataW.trod enc Try.prog W 0 (fun _ => true) true n' 3 ((cs'.drop 0).take (Try.prog.cellsOf 3)) = xs[0]? := hfs 0 _ rfl
      have f1 : DataW.trod enc Try.prog W 0 (fun _ => true) true n' 3 ((cs'.drop 1).take (Try.prog.cellsOf 3)) = xs[1]? := hfs 1 _ rfl
      have f2 : DataW.trod enc Try.prog W 0 (fun _ => true) true n' 3 ((cs'.drop 2).take (Try.prog.cellsOf 3)) = xs[2]? := hfs 2 _ rfl
      rw [cells3] at f0 f1 f2
      obtain ⟨v0, v1, v2, rfl⟩ := three cs' hlen
      obtain ⟨y0, y1, y2, rfl⟩ := three xs hxl
      simp only [List.drop_zero, List.drop_succ_cons, List.take_succ_cons, List.take_zero] at f0 f1 f2
      obtain ⟨x0, e0, _, w0⟩ := DataW.trod_int Try.underlying3 f0
      obtain ⟨x1, e1, _, w1⟩ := DataW.trod_int Try.underlying3 f1
      obtain ⟨x2, e2, _, w2⟩ := DataW.trod_int Try.underlying3 f2
      obtain rfl : v0 = _ := by simpa using e0
      obtain rfl : v1 = _ := by simpa using e1
      obtain rfl : v2 = _ := by simpa using e2
      have hspot : spot = none := hspot0 (by omega)
      subst hspot
      have k0 := hcell 0 (by omega)
      have k1 := hcell 1 (by omega)
      have k2 := hcell 2 (by omega)
      rw [addN, addN] at k0 k1 k2
      refine ⟨⟨x0, x1, x2⟩, rfl, ?_, by simpa using k0, by simpa using k1, by simpa using k2, wfB w0, wfB w1, wfB w2⟩
      rcases Nat.lt_or_ge b W.heap.size with h' | h'
      · exact h'
      · simp [World.cell?, Array.getElem?_eq_none h'] at k0
    haveI : Inhabited OpV := ⟨⟨0, 0, 0⟩⟩
    obtain ⟨f, hfo⟩ := Deep.choose_lt (α := OpV) (p := fun i o => spot = none ∧ b < W.heap.size ∧ OpAt W b (off + i * 3) o) key
    refine ⟨(List.range len).map f, by simp, fun i hi => ?_, hl, hm⟩
    have hi' : i < len := by simpa using hi
    obtain ⟨rfl, hb, ho⟩ := hfo i hi'
    refine ⟨b, off, rfl, hb, ?_⟩
    simpa using ho
end Go.Proofs.Ytebinckkghmkhaa
