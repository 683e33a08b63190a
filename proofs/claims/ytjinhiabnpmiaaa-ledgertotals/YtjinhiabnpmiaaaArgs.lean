/- Accounts among the arguments, opened. -/
import Derived.Test.YtjinhiabnpmiaaaTotal
import Derived.Test.YtjinhiabnpmiaaaChecked
import Derived.ProofKit
import Derived.OpenShut
import Derived.Below
import Derived.ChangeOld
import Derived.SizedLaws
namespace Go.Proofs.Ytjinhiabnpmiaaa
open Go.ChangeShapes Go.WideShapes Go.ChangeAt Go.RowKit
theorem laidOut : laidOutB Try.prog = true := by kernel_rfl
theorem wfB {x : Int} (h : (Lit.int .i64 x).wf = true) : i64B x := by
  have e1 : IntKind.i64.min = -9223372036854775808 := by decide
  have e2 : IntKind.i64.max = 9223372036854775807 := by decide
  simpa [Lit.wf, e1, e2, i64B] using h
theorem cells3 : Try.prog.cellsOf 3 = 1 := by kernel_rfl
theorem cells22 : Try.prog.cellsOf 22 = 1 := by kernel_rfl
theorem cells24 : Try.prog.cellsOf 24 = 2 := by kernel_rfl
theorem cells35 : Try.prog.cellsOf 35 = 2 := by kernel_rfl
theorem bytes35 : Try.prog.bytesOf 35 = 16 := by kernel_rfl
theorem bytes24 : Try.prog.bytesOf 24 = 32 := by kernel_rfl
theorem two {α : Type} (l : List α) (h : l.length = 2) : ∃ a b, l = [a, b] := by
  match l, h with
  | [a, b], _ => exact ⟨a, b, rfl⟩
/-- All that it holds is small enough for a machine. -/
def Light {H : Type} (t : TypeId) (d : DataW H) : Prop := ∀ n ∈ d.weights Try.prog t, n ≤ reachBytes
theorem light_each {H : Type} {ts : List TypeId} {ds : List (DataW H)} {j : Nat} {t : TypeId} {d : DataW H} (h : ∀ n ∈ DataW.weightsEach Try.prog ts ds, n ≤ reachBytes) (ht : ts[j]? = some t) (hd : ds[j]? = some d) : Light t d :=
  fun n hn => h n (DataW.weights_mem_each ht hd n hn)
theorem light_all {H : Type} {ts : List TypeId} {ds : List (DataW H)} {j : Nat} {t : TypeId} {d : DataW H} (hall : (DataW.weightsEach Try.prog ts ds).all (· ≤ reachBytes) = true) (ht : ts[j]? = some t) (hd : ds[j]? = some d) : Light t d :=
  light_each (fun n hn => by simpa using List.all_eq_true.1 hall n hn) ht hd
theorem mem_all {H : Type} {P : Program} {e : TypeId} : ∀ {ds : List (DataW H)} {d : DataW H}, d ∈ ds → ∀ n ∈ d.weights P e, n ∈ DataW.weightsAll P e ds
  | c :: ds, d, h, n, hn => by
    simp only [DataW.weightsAll, List.mem_append]
    rcases List.mem_cons.1 h with rfl | h
    · exact .inl hn
    · exact .inr (mem_all h n hn)
  | [], _, h, _, _ => by cases h
theorem reach_lt {n : Nat} (h : n ≤ reachBytes) : n ≤ 140737488355328 := by
  have hr : reachBytes < 2 ^ 47 := reachBytes_lt
  have e3 : (2 : Nat) ^ 47 = 140737488355328 := by decide
  omega
def AmtAt (w : World) (b off : Nat) (e : AmtV) : Prop := w.cell? ⟨b, off, none⟩ = some (.int .i64 e.k) ∧ w.cell? ⟨b, off + 1, none⟩ = some (.int .i64 e.n)
set_option maxRecDepth 100000 in
theorem am_open {H : Type} {enc : TypeId × Value → H} {W : World} {n : Nat} {v : Value} {x : DataW H × List MemPlace}
    (h : DataW.trod enc Try.prog W 0 (fun _ => true) true n 22 [v] = some x) (hw : Light 22 x.1) : ∃ l, AGot W v l := by
  rcases Deep.open_slice Try.underlying22 h with ⟨hcs, hx⟩ | ⟨x0, len, c, m, n0, D, Pl, hcs, _, hl, hm, hmm, hxe, hx⟩
  · have : v = .slice none 0 0 := by simpa using hcs
    subst this
    exact ⟨[], AGot.nil _ _ _ (Nat.zero_le _)⟩
  · have : v = .slice (some x0) len c := by simpa using hcs
    subst this
    simp only [if_true] at hmm
    rw [cells35] at hx
    obtain ⟨b, off, spot⟩ := x0
    have hspot0 : 0 < len → spot = none := by
      intro hpos
      obtain ⟨cs', h1, _⟩ := hx 0 (by omega)
      obtain ⟨_, hlen, hcell⟩ := World.cells?_some h1
      obtain ⟨v0, v1, rfl⟩ := two cs' hlen
      have g := World.cell?_spot (hcell 0 (by omega))
      simpa [Addr.add] using g
    have key : ∀ i, i < len → ∃ o : AmtV, spot = none ∧ b < W.heap.size ∧ AmtAt W b (off + i * 2) o := by
      intro i hi
      obtain ⟨cs', h1, h2⟩ := hx i (by omega)
      obtain ⟨_, hlen, hcell⟩ := World.cells?_some h1
      obtain ⟨xs, n', _, _, _, hxl, hfs⟩ := DataW.trod_struct Try.underlying35 h2
      have f0 : DataW.trod enc Try.prog W 0 (fun _ => true) true n' 3 ((cs'.drop 0).take (Try.prog.cellsOf 3)) = xs[0]? := hfs 0 _ rfl
      have f1 : DataW.trod enc Try.prog W 0 (fun _ => true) true n' 3 ((cs'.drop 1).take (Try.prog.cellsOf 3)) = xs[1]? := hfs 1 _ rfl
      rw [cells3] at f0 f1
      obtain ⟨v0, v1, rfl⟩ := two cs' hlen
      obtain ⟨y0, y1, rfl⟩ := two xs hxl
      simp only [List.drop_zero, List.drop_succ_cons, List.take_succ_cons, List.take_zero, List.getElem?_cons_zero, List.getElem?_cons_succ] at f0 f1
      obtain ⟨z0, e0, _, _⟩ := DataW.trod_int Try.underlying3 f0
      obtain ⟨z1, e1, _, _⟩ := DataW.trod_int Try.underlying3 f1
      simp only [List.cons.injEq, and_true] at e0 e1
      subst e0 e1
      have hspot : spot = none := hspot0 (by omega)
      subst hspot
      have k0 := hcell 0 (by omega)
      have k1 := hcell 1 (by omega)
      rw [addN, addN] at k0 k1
      refine ⟨⟨z0, z1⟩, rfl, ?_, by simpa using k0, by simpa using k1⟩
      rcases Nat.lt_or_ge b W.heap.size with h' | h'
      · exact h'
      · simp [World.cell?, Array.getElem?_eq_none h'] at k0
    obtain ⟨f, hfo⟩ := @Deep.choose_lt AmtV ⟨noA⟩ len (fun i o => spot = none ∧ b < W.heap.size ∧ AmtAt W b (off + i * 2) o) key
    have hsz : len * 16 ≤ 140737488355328 := by
      have hd := hw ((len + (m - len)) * Try.prog.bytesOf 35) (by
        rw [hxe]
        simp [DataW.weights, Try.underlying22])
      rw [bytes35] at hd
      have := reach_lt hd
      omega
    refine ⟨(List.range len).map f, by simpa using hsz, some ⟨b, off, spot⟩, c, by simp, ⟨by simpa using hl, hm⟩, fun hp => ?_⟩
    have hp' : 0 < len := by simpa using hp
    have hsp := hspot0 hp'
    subst hsp
    refine ⟨b, off, rfl, (hfo 0 hp').2.1, fun j hj => ?_⟩
    have hj' : j < len * 2 := by simpa using hj
    have hi : j / 2 < len := by omega
    obtain ⟨_, _, q0, q1⟩ := hfo (j / 2) hi
    obtain ⟨g0, g1⟩ := amC_get ((List.range len).map f) (j / 2) (by simpa using hi)
    simp only [List.getElem_map, List.getElem_range] at g0 g1
    rcases (by omega : j = j / 2 * 2 ∨ j = j / 2 * 2 + 1) with e | e
    · rw [e, g0]
      exact q0
    · rw [e, g1]
      exact q1
set_option maxRecDepth 100000 in
theorem acc_cells {H : Type} {enc : TypeId × Value → H} {W : World} {n : Nat} {cs : List Value} {x : DataW H × List MemPlace} (hl : cs.length = 2)
    (h : DataW.trod enc Try.prog W 0 (fun _ => true) true n 24 cs = some x) (hw : Light 24 x.1) : ∃ A g, cs = [g, .int .i64 (AccV.ct A)] ∧ AGot W g A.l ∧ i64B A.ct := by
  obtain ⟨xs, n', _, hd, _, hxl, hfs⟩ := DataW.trod_struct Try.underlying24 h
  have f0 : DataW.trod enc Try.prog W 0 (fun _ => true) true n' 22 ((cs.drop 0).take (Try.prog.cellsOf 22)) = xs[0]? := hfs 0 _ rfl
  have f1 : DataW.trod enc Try.prog W 0 (fun _ => true) true n' 3 ((cs.drop 1).take (Try.prog.cellsOf 3)) = xs[1]? := hfs 1 _ rfl
  rw [cells22] at f0
  rw [cells3] at f1
  obtain ⟨v0, v1, rfl⟩ := two cs hl
  obtain ⟨y0, y1, rfl⟩ := two xs hxl
  simp only [List.drop_zero, List.drop_succ_cons, List.take_succ_cons, List.take_zero, List.getElem?_cons_zero, List.getElem?_cons_succ] at f0 f1
  obtain ⟨z1, e1, _, w1⟩ := DataW.trod_int Try.underlying3 f1
  simp only [List.cons.injEq, and_true] at e1
  subst e1
  have hd' : x.1 = .agg [y0.1, y1.1] := by
    rw [hd]
    rfl
  have hL : Light 22 y0.1 := light_each (ts := [22, 3]) (ds := [y0.1, y1.1]) (j := 0) (fun n hn => hw n (by
    rw [hd']
    simpa [DataW.weights, Try.underlying24] using hn)) rfl rfl
  obtain ⟨l, hg⟩ := am_open f0 hL
  exact ⟨⟨l, z1⟩, v0, rfl, hg, wfB w1⟩
/-- An account among the arguments. -/
theorem open_acc {H : Type} {enc : TypeId × Value → H} {W : World} {b0 : Nat} {v : Value} {d : DataW H} {p : List MemPlace}
    (hv : Value.okWide Try.prog W .any b0 24 v) (h : DataW.Trod enc Try.prog W 0 (fun _ => true) true 24 v d p) (hw : Light 24 d) : ∃ A g, v = accV A g ∧ AGot W g A.l ∧ i64B A.ct := by
  obtain ⟨cs, rfl, hsz⟩ := okWide_struct Try.underlying24 hv
  rw [cells24] at hsz
  obtain ⟨fuel, hf⟩ := h
  obtain ⟨A, g, e, hg, hc⟩ := acc_cells (cs := (Value.agg cs).cells.toList) (by simpa [Value.cells] using hsz) hf hw
  refine ⟨A, g, ?_, hg, hc⟩
  have e2 : cs.toList = [g, .int .i64 A.ct] := by simpa [Value.cells] using e
  have : cs = #[g, .int .i64 A.ct] := by rw [← Array.toArray_toList (xs := cs), e2]
  rw [this]
  rfl
set_option maxRecDepth 100000 in
/-- Accounts among the arguments. -/
theorem open_accs {H : Type} {enc : TypeId × Value → H} {W : World} {b0 : Nat} {v : Value} {d : DataW H} {p : List MemPlace}
    (hv : Value.okWide Try.prog W .any b0 37 v) (h : DataW.Trod enc Try.prog W 0 (fun _ => true) true 37 v d p) (hw : Light 37 d) : ∃ L, LGot W v L := by
  obtain ⟨fuel, hf⟩ := h
  obtain ⟨va, len, c, rfl⟩ := okWide_slice Try.underlying37 hv
  rcases Deep.open_slice Try.underlying37 hf with ⟨hcs, hx⟩ | ⟨x0, vl, vc, m, n0, D, Pl, hcs, _, hl, hm, hmm, hxe, hx⟩
  · simp only [Value.cells, List.cons.injEq, and_true, Value.slice.injEq] at hcs
    obtain ⟨rfl, rfl, rfl⟩ := hcs
    exact ⟨[], by simp, none, 0, rfl, fun i hi => absurd hi (by simp)⟩
  · simp only [Value.cells, List.cons.injEq, and_true, Value.slice.injEq] at hcs
    obtain ⟨rfl, rfl, rfl⟩ := hcs
    simp only [if_true] at hmm
    rw [cells24] at hx
    have hd : d = .slice ((List.range len).map D) ((List.range (m - len)).map fun j => D (len + j)) := by
      have := congrArg Prod.fst hxe
      exact this
    have hLi : ∀ i, i < len → Light 24 (D i) := fun i hi n hn => hw n (by
      rw [hd]
      simp only [DataW.weights, Try.underlying37, List.mem_cons, List.mem_append]
      exact .inr (.inl (mem_all (List.mem_map.2 ⟨i, List.mem_range.2 hi, rfl⟩) n hn)))
    obtain ⟨b, off, spot⟩ := x0
    have hspot0 : 0 < len → spot = none := by
      intro hpos
      obtain ⟨cs', h1, _⟩ := hx 0 (by omega)
      obtain ⟨_, hlen, hcell⟩ := World.cells?_some h1
      obtain ⟨v0, v1, rfl⟩ := two cs' hlen
      have g := World.cell?_spot (hcell 0 (by omega))
      simpa [Addr.add] using g
    have key : ∀ i, i < len → ∃ o : AccV, ∃ g, spot = none ∧ b < W.heap.size ∧ W.cell? ⟨b, off + i * 2, none⟩ = some g ∧ W.cell? ⟨b, off + i * 2 + 1, none⟩ = some (.int .i64 o.ct) ∧ AGot W g o.l := by
      intro i hi
      obtain ⟨cs', h1, h2⟩ := hx i (by omega)
      obtain ⟨_, hlen, hcell⟩ := World.cells?_some h1
      obtain ⟨A, g, rfl, hg, _⟩ := acc_cells hlen h2 (hLi i hi)
      have hspot : spot = none := hspot0 (by omega)
      subst hspot
      have k0 := hcell 0 (by omega)
      have k1 := hcell 1 (by omega)
      rw [addN, addN] at k0 k1
      refine ⟨A, g, rfl, ?_, by simpa using k0, by simpa using k1, hg⟩
      rcases Nat.lt_or_ge b W.heap.size with h' | h'
      · exact h'
      · simp [World.cell?, Array.getElem?_eq_none h'] at k0
    obtain ⟨f, hfo⟩ := @Deep.choose_lt AccV ⟨zA⟩ len (fun i o => ∃ g, spot = none ∧ b < W.heap.size ∧ W.cell? ⟨b, off + i * 2, none⟩ = some g ∧ W.cell? ⟨b, off + i * 2 + 1, none⟩ = some (.int .i64 o.ct) ∧ AGot W g o.l) key
    have hsz : len * 32 ≤ 140737488355328 := by
      have hd2 := hw ((len + (m - len)) * Try.prog.bytesOf 24) (by
        rw [hd]
        simp [DataW.weights, Try.underlying37])
      rw [bytes24] at hd2
      have := reach_lt hd2
      omega
    refine ⟨(List.range len).map f, by simpa using hsz, some ⟨b, off, spot⟩, c, by simp, fun i hi => ?_⟩
    have hi' : i < len := by simpa using hi
    obtain ⟨g, hs, hb, q0, q1, hg⟩ := hfo i hi'
    subst hs
    refine ⟨b, off, g, rfl, hb, q0, ?_, ?_⟩
    · simpa using q1
    · simpa using hg
theorem four {α : Type} (l : List α) (h : l.length = 4) : ∃ a b c d, l = [a, b, c, d] := by
  match l, h with
  | [a, b, c, d], _ => exact ⟨a, b, c, d, rfl⟩
theorem three {α : Type} (l : List α) (h : l.length = 3) : ∃ a b c, l = [a, b, c] := by
  match l, h with
  | [a, b, c], _ => exact ⟨a, b, c, rfl⟩
theorem six {α : Type} (l : List α) (h : l.length = 6) : ∃ a b c d e f, l = [a, b, c, d, e, f] := by
  match l, h with
  | [a, b, c, d, e, f], _ => exact ⟨a, b, c, d, e, f, rfl⟩
theorem cells43 : Try.prog.cellsOf 43 = 6 := by kernel_rfl
theorem cells47 : Try.prog.cellsOf 47 = 6 := by kernel_rfl
theorem cells45 : Try.prog.cellsOf 45 = 2 := by kernel_rfl
set_option maxRecDepth 100000 in
/-- Two accounts and what goes between them. -/
theorem open_two {H : Type} {enc : TypeId × Value → H} {W : World} {b0 : Nat} {v : Value} {d : DataW H} {p : List MemPlace}
    (hv : Value.okWide Try.prog W .any b0 43 v) (h : DataW.Trod enc Try.prog W 0 (fun _ => true) true 43 v d p) (hw : Light 43 d) :
    ∃ A g B k a n, v = .agg #[g, .int .i64 (AccV.ct A), k, .int .i64 (AccV.ct B), .int .i64 a, .int .i64 n] ∧ AGot W g A.l ∧ AGot W k B.l := by
  obtain ⟨cs, rfl, hsz⟩ := okWide_struct Try.underlying43 hv
  rw [cells43] at hsz
  obtain ⟨fuel, hf⟩ := h
  have hcl : (Value.agg cs).cells.toList = cs.toList := by simp [Value.cells]
  rw [hcl] at hf
  obtain ⟨xs, n', _, hd, _, hxl, hfs⟩ := DataW.trod_struct Try.underlying43 hf
  have f0 : DataW.trod enc Try.prog W 0 (fun _ => true) true n' 24 ((cs.toList.drop 0).take (Try.prog.cellsOf 24)) = xs[0]? := hfs 0 _ rfl
  have f1 : DataW.trod enc Try.prog W 0 (fun _ => true) true n' 24 ((cs.toList.drop 2).take (Try.prog.cellsOf 24)) = xs[1]? := hfs 1 _ rfl
  have f2 : DataW.trod enc Try.prog W 0 (fun _ => true) true n' 3 ((cs.toList.drop 4).take (Try.prog.cellsOf 3)) = xs[2]? := hfs 2 _ rfl
  have f3 : DataW.trod enc Try.prog W 0 (fun _ => true) true n' 3 ((cs.toList.drop 5).take (Try.prog.cellsOf 3)) = xs[3]? := hfs 3 _ rfl
  rw [cells24] at f0 f1
  rw [cells3] at f2 f3
  obtain ⟨v0, v1, v2, v3, v4, v5, e⟩ := six cs.toList (by simpa using hsz)
  obtain ⟨y0, y1, y2, y3, rfl⟩ := four xs hxl
  rw [e] at f0 f1 f2 f3
  simp only [List.drop_zero, List.drop_succ_cons, List.take_succ_cons, List.take_zero, List.getElem?_cons_zero, List.getElem?_cons_succ] at f0 f1 f2 f3
  have hd' : d = .agg [y0.1, y1.1, y2.1, y3.1] := by
    have := congrArg Prod.fst hd
    exact this
  have hE : ∀ n ∈ DataW.weightsEach Try.prog [24, 24, 3, 3] [y0.1, y1.1, y2.1, y3.1], n ≤ reachBytes := fun n hn => hw n (by
    rw [hd']
    simpa [DataW.weights, Try.underlying43] using hn)
  obtain ⟨A, g, e0, hg, _⟩ := acc_cells rfl f0 (light_each (j := 0) hE rfl rfl)
  obtain ⟨B, k, e1, hk, _⟩ := acc_cells rfl f1 (light_each (j := 1) hE rfl rfl)
  obtain ⟨z2, e2, _, _⟩ := DataW.trod_int Try.underlying3 f2
  obtain ⟨z3, e3, _, _⟩ := DataW.trod_int Try.underlying3 f3
  simp only [List.cons.injEq, and_true] at e0 e1 e2 e3
  refine ⟨A, g, B, k, z2, z3, ?_, hg, hk⟩
  rw [← Array.toArray_toList (xs := cs), e, e0.1, e0.2, e1.1, e1.2, e2, e3]
set_option maxRecDepth 100000 in
/-- An account and two things that come into it. -/
theorem open_more {H : Type} {enc : TypeId × Value → H} {W : World} {b0 : Nat} {v : Value} {d : DataW H} {p : List MemPlace}
    (hv : Value.okWide Try.prog W .any b0 47 v) (h : DataW.Trod enc Try.prog W 0 (fun _ => true) true 47 v d p) (hw : Light 47 d) :
    ∃ A g a0 a1 n0 n1, v = .agg #[g, .int .i64 (AccV.ct A), .int .i64 a0, .int .i64 a1, .int .i64 n0, .int .i64 n1] ∧ AGot W g A.l := by
  obtain ⟨cs, rfl, hsz⟩ := okWide_struct Try.underlying47 hv
  rw [cells47] at hsz
  obtain ⟨fuel, hf⟩ := h
  have hcl : (Value.agg cs).cells.toList = cs.toList := by simp [Value.cells]
  rw [hcl] at hf
  obtain ⟨xs, n', _, hd, _, hxl, hfs⟩ := DataW.trod_struct Try.underlying47 hf
  have f0 : DataW.trod enc Try.prog W 0 (fun _ => true) true n' 24 ((cs.toList.drop 0).take (Try.prog.cellsOf 24)) = xs[0]? := hfs 0 _ rfl
  have f1 : DataW.trod enc Try.prog W 0 (fun _ => true) true n' 45 ((cs.toList.drop 2).take (Try.prog.cellsOf 45)) = xs[1]? := hfs 1 _ rfl
  have f2 : DataW.trod enc Try.prog W 0 (fun _ => true) true n' 45 ((cs.toList.drop 4).take (Try.prog.cellsOf 45)) = xs[2]? := hfs 2 _ rfl
  rw [cells24] at f0
  rw [cells45] at f1 f2
  obtain ⟨v0, v1, v2, v3, v4, v5, e⟩ := six cs.toList (by simpa using hsz)
  obtain ⟨y0, y1, y2, rfl⟩ := three xs hxl
  rw [e] at f0 f1 f2
  simp only [List.drop_zero, List.drop_succ_cons, List.take_succ_cons, List.take_zero, List.getElem?_cons_zero, List.getElem?_cons_succ] at f0 f1 f2
  have hd' : d = .agg [y0.1, y1.1, y2.1] := by
    have := congrArg Prod.fst hd
    exact this
  have hE : ∀ n ∈ DataW.weightsEach Try.prog [24, 45, 45] [y0.1, y1.1, y2.1], n ≤ reachBytes := fun n hn => hw n (by
    rw [hd']
    simpa [DataW.weights, Try.underlying47] using hn)
  obtain ⟨A, g, e0, hg, _⟩ := acc_cells rfl f0 (light_each (j := 0) hE rfl rfl)
  have arr : ∀ {u0 u1 : Value} {y : DataW H × List MemPlace}, DataW.trod enc Try.prog W 0 (fun _ => true) true n' 45 [u0, u1] = some y → ∃ z0 z1, u0 = .int .i64 z0 ∧ u1 = .int .i64 z1 := by
    intro u0 u1 y hy
    obtain ⟨zs, m, _, _, _, hzl, hz⟩ := DataW.trod_array Try.underlying45 hy
    have g0 := hz 0 (by omega)
    have g1 := hz 1 (by omega)
    rw [cells3] at g0 g1
    obtain ⟨t0, t1, rfl⟩ := two zs hzl
    simp only [Nat.zero_mul, Nat.one_mul, List.drop_zero, List.drop_succ_cons, List.take_succ_cons, List.take_zero, List.getElem?_cons_zero, List.getElem?_cons_succ] at g0 g1
    obtain ⟨z0, e0, _, _⟩ := DataW.trod_int Try.underlying3 g0
    obtain ⟨z1, e1, _, _⟩ := DataW.trod_int Try.underlying3 g1
    simp only [List.cons.injEq, and_true] at e0 e1
    exact ⟨z0, z1, e0, e1⟩
  obtain ⟨a0, a1, q0, q1⟩ := arr f1
  obtain ⟨n0, n1, q2, q3⟩ := arr f2
  simp only [List.cons.injEq, and_true] at e0
  refine ⟨A, g, a0, a1, n0, n1, ?_, hg⟩
  rw [← Array.toArray_toList (xs := cs), e, e0.1, e0.2, q0, q1, q2, q3]
end Go.Proofs.Ytjinhiabnpmiaaa
