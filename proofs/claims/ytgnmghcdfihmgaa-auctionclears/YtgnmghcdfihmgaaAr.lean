/- Fills among the arguments, opened. -/
import Derived.Test.YtgnmghcdfihmgaaCop
import Derived.Test.YtgnmghcdfihmgaaChecked
import Derived.ProofKit
import Derived.OpenShut
import Derived.Below
import Derived.ChangeOld
import Derived.SizedLaws
namespace Go.Proofs.Ytgnmghcdfihmgaa
open Go.ChangeShapes Go.WideShapes Go.ChangeAt Go.RowKit
set_option linter.all false
theorem laidOut : laidOutB Try.prog = true := by kernel_rfl
theorem cells3 : Try.prog.cellsOf 3 = 1 := by kernel_rfl
theorem cells4 : Try.prog.cellsOf 4 = 1 := by kernel_rfl
theorem cells_67 : Try.prog.cellsOf 41 = 4 := by kernel_rfl
theorem bytes_67 : Try.prog.bytesOf 41 = 32 := by kernel_rfl
theorem fourL {α : Type} (l : List α) (h : l.length = 4) : ∃ a b c d, l = [a, b, c, d] := by
  match l, h with
  | [a, b, c, d], _ => exact ⟨a, b, c, d, rfl⟩
/-- All that it holds is small enough for a machine. -/
def Light {H : Type} (t : TypeId) (d : DataW H) : Prop := ∀ n ∈ d.weights Try.prog t, n ≤ reachBytes
theorem light_each {H : Type} {ts : List TypeId} {ds : List (DataW H)} {j : Nat} {t : TypeId} {d : DataW H} (h : ∀ n ∈ DataW.weightsEach Try.prog ts ds, n ≤ reachBytes) (ht : ts[j]? = some t) (hd : ds[j]? = some d) : Light t d :=
  fun n hn => h n (DataW.weights_mem_each ht hd n hn)
theorem light_all {H : Type} {ts : List TypeId} {ds : List (DataW H)} {j : Nat} {t : TypeId} {d : DataW H} (hall : (DataW.weightsEach Try.prog ts ds).all (· ≤ reachBytes) = true) (ht : ts[j]? = some t) (hd : ds[j]? = some d) : Light t d :=
  light_each (fun n hn => by simpa using List.all_eq_true.1 hall n hn) ht hd
theorem reach_lt {n : Nat} (h : n ≤ reachBytes) : n ≤ 140737488355328 := by
  have hr : reachBytes < 2 ^ 47 := reachBytes_lt
  have e3 : (2 : Nat) ^ 47 = 140737488355328 := by decide
  omega
theorem fil_cells {H : Type} {enc : TypeId × Value → H} {W : World} {n : Nat} {cs : List Value} {x : DataW H × List MemPlace} (hl : cs.length = 4)
    (h : DataW.trod enc Try.prog W 0 (fun _ => true) true n 41 cs = some x) : ∃ p : FillV, cs = filE p := by
  obtain ⟨xs, n', _, _, _, hxl, hfs⟩ := DataW.trod_struct Try.underlying41 h
  have f0 : DataW.trod enc Try.prog W 0 (fun _ => true) true n' 3 ((cs.drop 0).take (Try.prog.cellsOf 3)) = xs[0]? := hfs 0 _ rfl
  have f1 : DataW.trod enc Try.prog W 0 (fun _ => true) true n' 3 ((cs.drop 1).take (Try.prog.cellsOf 3)) = xs[1]? := hfs 1 _ rfl
  have f2 : DataW.trod enc Try.prog W 0 (fun _ => true) true n' 3 ((cs.drop 2).take (Try.prog.cellsOf 3)) = xs[2]? := hfs 2 _ rfl
  have f3 : DataW.trod enc Try.prog W 0 (fun _ => true) true n' 3 ((cs.drop 3).take (Try.prog.cellsOf 3)) = xs[3]? := hfs 3 _ rfl
  rw [cells3] at f0 f1 f2 f3
  obtain ⟨v0, v1, v2, v3, rfl⟩ := fourL cs hl
  obtain ⟨y0, y1, y2, y3, rfl⟩ := fourL xs hxl
  simp only [List.drop_zero, List.drop_succ_cons, List.take_succ_cons, List.take_zero, List.getElem?_cons_zero, List.getElem?_cons_succ] at f0 f1 f2 f3
  obtain ⟨z0, e0, _, _⟩ := DataW.trod_int Try.underlying3 f0
  obtain ⟨z1, e1, _, _⟩ := DataW.trod_int Try.underlying3 f1
  obtain ⟨z2, e2, _, _⟩ := DataW.trod_int Try.underlying3 f2
  obtain ⟨z3, e3, _, _⟩ := DataW.trod_int Try.underlying3 f3
  simp only [List.cons.injEq, and_true] at e0 e1 e2 e3
  subst e0 e1 e2 e3
  exact ⟨⟨z0, z1, z2, z3⟩, rfl⟩
set_option maxRecDepth 100000 in
theorem fils_open {H : Type} {enc : TypeId × Value → H} {W : World} {n : Nat} {v : Value} {x : DataW H × List MemPlace}
    (h : DataW.trod enc Try.prog W 0 (fun _ => true) true n 30 [v] = some x) (hw : Light 30 x.1) : ∃ l, Fils W v l := by
  rcases Deep.open_slice Try.underlying30 h with ⟨hcs, hx⟩ | ⟨x0, len, c, m, n0, D, Pl, hcs, _, hl, hm, hmm, hxe, hx⟩
  · have : v = .slice none 0 0 := by simpa using hcs
    subst this
    exact ⟨[], SGot.nil _ _ _ _ _ _ (Nat.zero_le _)⟩
  · have : v = .slice (some x0) len c := by simpa using hcs
    subst this
    simp only [if_true] at hmm
    rw [cells_67] at hx
    obtain ⟨b, off, spot⟩ := x0
    have hspot0 : 0 < len → spot = none := by
      intro hpos
      obtain ⟨cs', h1, _⟩ := hx 0 (by omega)
      obtain ⟨_, hlen, hcell⟩ := World.cells?_some h1
      obtain ⟨v0, v1, v2, v3, rfl⟩ := fourL cs' hlen
      have g := World.cell?_spot (hcell 0 (by omega))
      simpa [Addr.add] using g
    have key : ∀ i, i < len → ∃ o : FillV, spot = none ∧ b < W.heap.size ∧ ∀ j, j < 4 → W.cell? ⟨b, off + i * 4 + j, none⟩ = (filE o)[j]? := by
      intro i hi
      obtain ⟨cs', h1, h2⟩ := hx i (by omega)
      obtain ⟨_, hlen, hcell⟩ := World.cells?_some h1
      obtain ⟨o, rfl⟩ := fil_cells hlen h2
      have hspot : spot = none := hspot0 (by omega)
      subst hspot
      refine ⟨o, rfl, ?_, fun j hj => ?_⟩
      · have k0 := hcell 0 (by omega)
        rw [addN, addN] at k0
        rcases Nat.lt_or_ge b W.heap.size with h' | h'
        · exact h'
        · simp [World.cell?, Array.getElem?_eq_none h', filE] at k0
      · have k0 := hcell j (by omega)
        rw [addN, addN] at k0
        rw [k0]
    obtain ⟨f, hfo⟩ := @Deep.choose_lt FillV ⟨⟨0, 0, 0, 0⟩⟩ len (fun i o => spot = none ∧ b < W.heap.size ∧ ∀ j, j < 4 → W.cell? ⟨b, off + i * 4 + j, none⟩ = (filE o)[j]?) key
    have hsz : len * 32 ≤ 140737488355328 := by
      have hd := hw ((len + (m - len)) * Try.prog.bytesOf 41) (by
        rw [hxe]
        simp [DataW.weights, Try.underlying30])
      rw [bytes_67] at hd
      have := reach_lt hd
      omega
    refine ⟨(List.range len).map f, by simpa using hsz, some ⟨b, off, spot⟩, c, by simp, ⟨by simpa using hl, hm⟩, fun hp => ?_⟩
    have hp' : 0 < len := by simpa using hp
    have hsp := hspot0 hp'
    subst hsp
    refine ⟨b, off, rfl, (hfo 0 hp').2.1, fun j hj => ?_⟩
    have hj' : j < len * 4 := by simpa using hj
    have hi : j / 4 < len := by omega
    have q0 := (hfo (j / 4) hi).2.2 (j % 4) (by omega)
    have g0 := celC_get filK ((List.range len).map f) (j / 4) (by simpa using hi) (j % 4) (by omega)
    simp only [List.getElem_map, List.getElem_range] at g0
    have e : off + j = off + j / 4 * 4 + j % 4 := by omega
    rw [e, q0, ← g0, show j / 4 * 4 + j % 4 = j by omega]
set_option maxRecDepth 100000 in
/-- Fills, among the arguments. -/
theorem open_fils {H : Type} {enc : TypeId × Value → H} {W : World} {b0 : Nat} {v : Value} {d : DataW H} {p : List MemPlace}
    (hv : Value.okWide Try.prog W .any b0 30 v) (h : DataW.Trod enc Try.prog W 0 (fun _ => true) true 30 v d p) (hw : Light 30 d) : ∃ l, Fils W v l := by
  obtain ⟨fuel, hf⟩ := h
  obtain ⟨va, len, c, rfl⟩ := okWide_slice Try.underlying30 hv
  exact fils_open (x := (d, p)) hf hw
end Go.Proofs.Ytgnmghcdfihmgaa
