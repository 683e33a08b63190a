/- A script among the arguments, opened. -/
import Derived.Test.YtagfolckodpioaaKpP
import Derived.Test.YtagfolckodpioaaArB
namespace Go.Proofs.Ytagfolckodpioaa.K2
open Go.ChangeShapes Go.WideShapes Go.ChangeAt Go.RowKit Go.Proofs.Ytagfolckodpioaa
set_option linter.all false
structure OpV where
  act : Int
  n : Int
  p : PkV
def noO : OpV := ⟨0, 0, ⟨0, 0, ⟨#[]⟩⟩⟩
def OpAt (w : World) (b off : Nat) (o : OpV) : Prop := w.cell? ⟨b, off, none⟩ = some (.int .i64 o.act) ∧ w.cell? ⟨b, off + 1, none⟩ = some (.int .i64 o.n) ∧ w.cell? ⟨b, off + 2, none⟩ = some (.int .i64 o.p.frm) ∧ w.cell? ⟨b, off + 3, none⟩ = some (.int .i64 o.p.dst) ∧ w.cell? ⟨b, off + 4, none⟩ = some (.string o.p.text)
def OpsAt (w : World) (a : Option Addr) (l : List OpV) : Prop := ∀ i (h : i < l.length), ∃ b off, a = some ⟨b, off, none⟩ ∧ b < w.heap.size ∧ OpAt w b (off + i * 5) l[i]
theorem OpsAt.keep {w w' : World} {a : Option Addr} {l : List OpV} (h : OpsAt w a l) (hb : Below w.heap.size w w') : OpsAt w' a l := by
  intro i hi
  obtain ⟨b, off, e, hl, q0, q1, q2, q3, q4⟩ := h i hi
  exact ⟨b, off, e, Nat.lt_of_lt_of_le hl hb.size, (hb.cell (p := ⟨b, off + i * 5, none⟩) hl).trans q0, (hb.cell (p := ⟨b, off + i * 5 + 1, none⟩) hl).trans q1, (hb.cell (p := ⟨b, off + i * 5 + 2, none⟩) hl).trans q2, (hb.cell (p := ⟨b, off + i * 5 + 3, none⟩) hl).trans q3, (hb.cell (p := ⟨b, off + i * 5 + 4, none⟩) hl).trans q4⟩
theorem cells56 : Try.prog.cellsOf 56 = 3 := by kernel_rfl
theorem cells58 : Try.prog.cellsOf 58 = 5 := by kernel_rfl
theorem five {α : Type} (l : List α) (h : l.length = 5) : ∃ a b c d e, l = [a, b, c, d, e] := by
  match l, h with
  | [a, b, c, d, e], _ => exact ⟨a, b, c, d, e, rfl⟩
theorem pk_cells {H : Type} {enc : TypeId × Value → H} {W : World} {n : Nat} {v0 v1 v2 : Value} {x : DataW H × List MemPlace}
    (h : DataW.trod enc Try.prog W 0 (fun _ => true) true n 56 [v0, v1, v2] = some x) : ∃ i t s, v0 = .int .i64 i ∧ v1 = .int .i64 t ∧ v2 = .string s := by
  obtain ⟨xs, n', _, _, _, hxl, hfs⟩ := DataW.trod_struct Try.underlying56 h
  have f0 : DataW.trod enc Try.prog W 0 (fun _ => true) true n' 3 (([v0, v1, v2].drop 0).take (Try.prog.cellsOf 3)) = xs[0]? := hfs 0 _ rfl
  have f1 : DataW.trod enc Try.prog W 0 (fun _ => true) true n' 3 (([v0, v1, v2].drop 1).take (Try.prog.cellsOf 3)) = xs[1]? := hfs 1 _ rfl
  have f2 : DataW.trod enc Try.prog W 0 (fun _ => true) true n' 9 (([v0, v1, v2].drop 2).take (Try.prog.cellsOf 9)) = xs[2]? := hfs 2 _ rfl
  rw [cells3] at f0 f1
  rw [cells9] at f2
  obtain ⟨y0, y1, y2, rfl⟩ := three xs hxl
  simp only [List.drop_zero, List.drop_succ_cons, List.take_succ_cons, List.take_zero, List.getElem?_cons_zero, List.getElem?_cons_succ] at f0 f1 f2
  obtain ⟨z0, e0, _, _⟩ := DataW.trod_int Try.underlying3 f0
  obtain ⟨z1, e1, _, _⟩ := DataW.trod_int Try.underlying3 f1
  obtain ⟨z2, e2, _, _⟩ := DataW.trod_string Try.underlying9 f2
  exact ⟨z0, z1, z2, by simpa using e0, by simpa using e1, by simpa using e2⟩
set_option maxRecDepth 100000 in
theorem ops_cells {H : Type} {enc : TypeId × Value → H} {W : World} {n : Nat} {v : Value} {x : DataW H × List MemPlace}
    (h : DataW.trod enc Try.prog W 0 (fun _ => true) true n 48 [v] = some x) :
    ∃ a c l, v = .slice a l.length c ∧ (l.length ≤ c ∧ c ≤ maxLen) ∧ OpsAt W a l := by
  rcases Deep.open_slice Try.underlying48 h with ⟨hcs, hx⟩ | ⟨x0, len, c, m, n0, D, Pl, hcs, _, hl, hm, hmm, hxe, hx⟩
  · have : v = .slice none 0 0 := by simpa using hcs
    subst this
    exact ⟨none, 0, [], rfl, ⟨Nat.le_refl _, Nat.zero_le _⟩, fun i h => absurd h (by simp)⟩
  · have : v = .slice (some x0) len c := by simpa using hcs
    subst this
    simp only [if_true] at hmm
    rw [cells58] at hx
    obtain ⟨b, off, spot⟩ := x0
    have hspot0 : 0 < len → spot = none := by
      intro hpos
      obtain ⟨cs', h1, _⟩ := hx 0 (by omega)
      obtain ⟨_, hlen, hcell⟩ := World.cells?_some h1
      obtain ⟨v0, v1, v2, v3, v4, rfl⟩ := five cs' hlen
      have g := World.cell?_spot (hcell 0 (by omega))
      simpa [Addr.add] using g
    have key : ∀ i, i < len → ∃ o : OpV, spot = none ∧ b < W.heap.size ∧ OpAt W b (off + i * 5) o := by
      intro i hi
      obtain ⟨cs', h1, h2⟩ := hx i (by omega)
      obtain ⟨_, hlen, hcell⟩ := World.cells?_some h1
      obtain ⟨xs, n', _, _, _, hxl, hfs⟩ := DataW.trod_struct Try.underlying58 h2
      have f0 : DataW.trod enc Try.prog W 0 (fun _ => true) true n' 3 ((cs'.drop 0).take (Try.prog.cellsOf 3)) = xs[0]? := hfs 0 _ rfl
      have f1 : DataW.trod enc Try.prog W 0 (fun _ => true) true n' 3 ((cs'.drop 1).take (Try.prog.cellsOf 3)) = xs[1]? := hfs 1 _ rfl
      have f2 : DataW.trod enc Try.prog W 0 (fun _ => true) true n' 56 ((cs'.drop 2).take (Try.prog.cellsOf 56)) = xs[2]? := hfs 2 _ rfl
      rw [cells3] at f0 f1
      rw [cells56] at f2
      obtain ⟨v0, v1, v2, v3, v4, rfl⟩ := five cs' hlen
      obtain ⟨y0, y1, y2, rfl⟩ := three xs hxl
      simp only [List.drop_zero, List.drop_succ_cons, List.take_succ_cons, List.take_zero, List.getElem?_cons_zero, List.getElem?_cons_succ] at f0 f1 f2
      obtain ⟨z0, e0, _, _⟩ := DataW.trod_int Try.underlying3 f0
      obtain ⟨z1, e1, _, _⟩ := DataW.trod_int Try.underlying3 f1
      obtain ⟨z2, z3, z4, e2, e3, e4⟩ := pk_cells f2
      simp only [List.cons.injEq, and_true] at e0 e1
      subst e0 e1 e2 e3 e4
      have hspot : spot = none := hspot0 (by omega)
      subst hspot
      have k0 := hcell 0 (by omega)
      have k1 := hcell 1 (by omega)
      have k2 := hcell 2 (by omega)
      have k3 := hcell 3 (by omega)
      have k4 := hcell 4 (by omega)
      rw [addN, addN] at k0 k1 k2 k3 k4
      refine ⟨⟨z0, z1, ⟨z2, z3, z4⟩⟩, rfl, ?_, by simpa using k0, by simpa using k1, by simpa using k2, by simpa using k3, by simpa using k4⟩
      rcases Nat.lt_or_ge b W.heap.size with h' | h'
      · exact h'
      · simp [World.cell?, Array.getElem?_eq_none h'] at k0
    obtain ⟨f, hfo⟩ := @Deep.choose_lt OpV ⟨noO⟩ len (fun i o => spot = none ∧ b < W.heap.size ∧ OpAt W b (off + i * 5) o) key
    refine ⟨some ⟨b, off, spot⟩, c, (List.range len).map f, by simp, ⟨by simpa using hl, hm⟩, fun i hi => ?_⟩
    have hi' : i < len := by simpa using hi
    obtain ⟨hsp, hb, hq⟩ := hfo i hi'
    subst hsp
    refine ⟨b, off, rfl, hb, ?_⟩
    simp only [List.getElem_map, List.getElem_range]
    exact hq
set_option maxRecDepth 100000 in
theorem open_ops {H : Type} {enc : TypeId × Value → H} {W : World} {b0 : Nat} {v : Value} {d : DataW H} {p : List MemPlace}
    (hv : Value.okWide Try.prog W .any b0 48 v) (h : DataW.Trod enc Try.prog W 0 (fun _ => true) true 48 v d p) : ∃ a c l, v = .slice a l.length c ∧ OpsAt W a l ∧ l.length ≤ 9223372036854775807 := by
  obtain ⟨fuel, hf⟩ := h
  obtain ⟨va, len, c0, rfl⟩ := okWide_slice Try.underlying48 hv
  obtain ⟨a, c, l, e, hcc, hg⟩ := ops_cells (x := (d, p)) hf
  refine ⟨a, c, l, e, hg, ?_⟩
  unfold maxLen at hcc
  omega
end Go.Proofs.Ytagfolckodpioaa.K2
