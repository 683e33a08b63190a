/- A message, a place, a byte and a text among the arguments, opened. -/
import Derived.Test.YtagfolckodpioaaBw
import Derived.Test.YtagfolckodpioaaChecked
import Derived.ProofKit
import Derived.OpenShut
import Derived.Below
import Derived.ChangeOld
import Derived.SizedLaws
import Derived.Deep.Slices
namespace Go.Proofs.Ytagfolckodpioaa.K2
open Go.ChangeShapes Go.WideShapes Go.ChangeAt Go.RowKit Go.Proofs.Ytagfolckodpioaa
set_option linter.all false
theorem laidOut : laidOutB Try.prog = true := by kernel_rfl
theorem wfB {x : Int} (h : (Lit.int .i64 x).wf = true) : -9223372036854775808 ≤ x ∧ x ≤ 9223372036854775807 := by
  have e1 : IntKind.i64.min = -9223372036854775808 := by decide
  have e2 : IntKind.i64.max = 9223372036854775807 := by decide
  simpa [Lit.wf, e1, e2] using h
theorem cells3 : Try.prog.cellsOf 3 = 1 := by kernel_rfl
theorem cells4 : Try.prog.cellsOf 4 = 1 := by kernel_rfl
theorem cells5 : Try.prog.cellsOf 5 = 1 := by kernel_rfl
theorem cells9 : Try.prog.cellsOf 9 = 1 := by kernel_rfl
theorem cells23 : Try.prog.cellsOf 23 = 2 := by kernel_rfl
theorem cells24 : Try.prog.cellsOf 24 = 1 := by kernel_rfl
theorem cells26 : Try.prog.cellsOf 26 = 3 := by kernel_rfl
theorem cells28 : Try.prog.cellsOf 28 = 13 := by kernel_rfl
theorem cells41 : Try.prog.cellsOf 41 = 3 := by kernel_rfl
theorem cells44 : Try.prog.cellsOf 44 = 16 := by kernel_rfl
def noE : EntV := ⟨0, 0, ⟨#[]⟩⟩
theorem two {α : Type} (l : List α) (h : l.length = 2) : ∃ a b, l = [a, b] := by
  match l, h with
  | [a, b], _ => exact ⟨a, b, rfl⟩
theorem three {α : Type} (l : List α) (h : l.length = 3) : ∃ a b c, l = [a, b, c] := by
  match l, h with
  | [a, b, c], _ => exact ⟨a, b, c, rfl⟩
theorem four {α : Type} (l : List α) (h : l.length = 4) : ∃ a b c d, l = [a, b, c, d] := by
  match l, h with
  | [a, b, c, d], _ => exact ⟨a, b, c, d, rfl⟩
theorem ten {α : Type} (l : List α) (h : l.length = 10) : ∃ a0 a1 a2 a3 a4 a5 a6 a7 a8 a9, l = [a0, a1, a2, a3, a4, a5, a6, a7, a8, a9] := by
  match l, h with
  | [a0, a1, a2, a3, a4, a5, a6, a7, a8, a9], _ => exact ⟨a0, a1, a2, a3, a4, a5, a6, a7, a8, a9, rfl⟩
theorem sixteen {α : Type} (l : List α) (h : l.length = 16) : ∃ a0 a1 a2 a3 a4 a5 a6 a7 a8 a9 b0 b1 b2 b3 b4 b5, l = [a0, a1, a2, a3, a4, a5, a6, a7, a8, a9, b0, b1, b2, b3, b4, b5] := by
  match l, h with
  | [a0, a1, a2, a3, a4, a5, a6, a7, a8, a9, b0, b1, b2, b3, b4, b5], _ => exact ⟨a0, a1, a2, a3, a4, a5, a6, a7, a8, a9, b0, b1, b2, b3, b4, b5, rfl⟩
theorem spot_cells {H : Type} {enc : TypeId × Value → H} {W : World} {n : Nat} {v0 v1 : Value} {x : DataW H × List MemPlace}
    (h : DataW.trod enc Try.prog W 0 (fun _ => true) true n 23 [v0, v1] = some x) : ∃ i t, v0 = .int .i64 i ∧ v1 = .int .i64 t := by
  obtain ⟨xs, n', _, _, _, hxl, hfs⟩ := DataW.trod_struct Try.underlying23 h
  have f0 : DataW.trod enc Try.prog W 0 (fun _ => true) true n' 3 (([v0, v1].drop 0).take (Try.prog.cellsOf 3)) = xs[0]? := hfs 0 _ rfl
  have f1 : DataW.trod enc Try.prog W 0 (fun _ => true) true n' 3 (([v0, v1].drop 1).take (Try.prog.cellsOf 3)) = xs[1]? := hfs 1 _ rfl
  rw [cells3] at f0 f1
  obtain ⟨y0, y1, rfl⟩ := two xs hxl
  simp only [List.drop_zero, List.drop_succ_cons, List.take_succ_cons, List.take_zero, List.getElem?_cons_zero, List.getElem?_cons_succ] at f0 f1
  obtain ⟨x0, e0, _, w0⟩ := DataW.trod_int Try.underlying3 f0
  obtain ⟨x1, e1, _, w1⟩ := DataW.trod_int Try.underlying3 f1
  exact ⟨x0, x1, by simpa using e0, by simpa using e1⟩
theorem snap_cells {H : Type} {enc : TypeId × Value → H} {W : World} {n : Nat} {v0 v1 v2 : Value} {x : DataW H × List MemPlace}
    (h : DataW.trod enc Try.prog W 0 (fun _ => true) true n 26 [v0, v1, v2] = some x) : ∃ i t s, v0 = .int .i64 i ∧ v1 = .int .i64 t ∧ v2 = .string s := by
  obtain ⟨xs, n', _, _, _, hxl, hfs⟩ := DataW.trod_struct Try.underlying26 h
  have f0 : DataW.trod enc Try.prog W 0 (fun _ => true) true n' 23 (([v0, v1, v2].drop 0).take (Try.prog.cellsOf 23)) = xs[0]? := hfs 0 _ rfl
  have f1 : DataW.trod enc Try.prog W 0 (fun _ => true) true n' 9 (([v0, v1, v2].drop 2).take (Try.prog.cellsOf 9)) = xs[1]? := hfs 1 _ rfl
  rw [cells23] at f0
  rw [cells9] at f1
  obtain ⟨y0, y1, rfl⟩ := two xs hxl
  simp only [List.drop_zero, List.drop_succ_cons, List.take_succ_cons, List.take_zero, List.getElem?_cons_zero, List.getElem?_cons_succ] at f0 f1
  obtain ⟨i, t, e0, e1⟩ := spot_cells f0
  obtain ⟨z, e2, _, _⟩ := DataW.trod_string Try.underlying9 f1
  exact ⟨i, t, z, e0, e1, by simpa using e2⟩
def EntAt (w : World) (b off : Nat) (e : EntV) : Prop := w.cell? ⟨b, off, none⟩ = some (.int .i64 e.term) ∧ w.cell? ⟨b, off + 1, none⟩ = some (.int .i64 e.kind) ∧ w.cell? ⟨b, off + 2, none⟩ = some (.string e.text)
set_option maxRecDepth 100000 in
theorem ents_cells {H : Type} {enc : TypeId × Value → H} {W : World} {n : Nat} {v : Value} {x : DataW H × List MemPlace}
    (h : DataW.trod enc Try.prog W 0 (fun _ => true) true n 24 [v] = some x) :
    ∃ a c l, v = .slice a l.length c ∧ (l.length ≤ c ∧ c ≤ maxLen) ∧ (0 < l.length → ∃ b off, a = some ⟨b, off, none⟩ ∧ b < W.heap.size ∧ ∀ j, j < l.length * 3 → W.cell? ⟨b, off + j, none⟩ = (entC l)[j]?) ∧
      (x.1 = .nil ∧ l = [] ∨ ∃ el sp, x.1 = .slice el sp ∧ l.length = el.length) := by
  rcases Deep.open_slice Try.underlying24 h with ⟨hcs, hx⟩ | ⟨x0, len, c, m, n0, D, Pl, hcs, _, hl, hm, hmm, hxe, hx⟩
  · have : v = .slice none 0 0 := by simpa using hcs
    subst this
    exact ⟨none, 0, [], rfl, ⟨Nat.le_refl _, Nat.zero_le _⟩, fun h => absurd h (by simp), .inl ⟨by rw [hx], rfl⟩⟩
  · have : v = .slice (some x0) len c := by simpa using hcs
    subst this
    simp only [if_true] at hmm
    rw [cells41] at hx
    obtain ⟨b, off, spot⟩ := x0
    have hspot0 : 0 < len → spot = none := by
      intro hpos
      obtain ⟨cs', h1, _⟩ := hx 0 (by omega)
      obtain ⟨_, hlen, hcell⟩ := World.cells?_some h1
      obtain ⟨v0, v1, v2, rfl⟩ := three cs' hlen
      have g := World.cell?_spot (hcell 0 (by omega))
      simpa [Addr.add] using g
    have key : ∀ i, i < len → ∃ o : EntV, spot = none ∧ b < W.heap.size ∧ EntAt W b (off + i * 3) o := by
      intro i hi
      obtain ⟨cs', h1, h2⟩ := hx i (by omega)
      obtain ⟨_, hlen, hcell⟩ := World.cells?_some h1
      obtain ⟨xs, n', _, _, _, hxl, hfs⟩ := DataW.trod_struct Try.underlying41 h2
      have f0 : DataW.trod enc Try.prog W 0 (fun _ => true) true n' 3 ((cs'.drop 0).take (Try.prog.cellsOf 3)) = xs[0]? := hfs 0 _ rfl
      have f1 : DataW.trod enc Try.prog W 0 (fun _ => true) true n' 3 ((cs'.drop 1).take (Try.prog.cellsOf 3)) = xs[1]? := hfs 1 _ rfl
      have f2 : DataW.trod enc Try.prog W 0 (fun _ => true) true n' 9 ((cs'.drop 2).take (Try.prog.cellsOf 9)) = xs[2]? := hfs 2 _ rfl
      rw [cells3] at f0 f1
      rw [cells9] at f2
      obtain ⟨v0, v1, v2, rfl⟩ := three cs' hlen
      obtain ⟨y0, y1, y2, rfl⟩ := three xs hxl
      simp only [List.drop_zero, List.drop_succ_cons, List.take_succ_cons, List.take_zero, List.getElem?_cons_zero, List.getElem?_cons_succ] at f0 f1 f2
      obtain ⟨z0, e0, _, _⟩ := DataW.trod_int Try.underlying3 f0
      obtain ⟨z1, e1, _, _⟩ := DataW.trod_int Try.underlying3 f1
      obtain ⟨z2, e2, _, _⟩ := DataW.trod_string Try.underlying9 f2
      simp only [List.cons.injEq, and_true] at e0 e1 e2
      subst e0 e1 e2
      have hspot : spot = none := hspot0 (by omega)
      subst hspot
      have k0 := hcell 0 (by omega)
      have k1 := hcell 1 (by omega)
      have k2 := hcell 2 (by omega)
      rw [addN, addN] at k0 k1 k2
      refine ⟨⟨z0, z1, z2⟩, rfl, ?_, by simpa using k0, by simpa using k1, by simpa using k2⟩
      rcases Nat.lt_or_ge b W.heap.size with h' | h'
      · exact h'
      · simp [World.cell?, Array.getElem?_eq_none h'] at k0
    obtain ⟨f, hfo⟩ := @Deep.choose_lt EntV ⟨noE⟩ len (fun i o => spot = none ∧ b < W.heap.size ∧ EntAt W b (off + i * 3) o) key
    refine ⟨some ⟨b, off, spot⟩, c, (List.range len).map f, by simp, ⟨by simpa using hl, hm⟩, fun hp => ?_, .inr ⟨_, _, by rw [hxe], by simp⟩⟩
    have hp' : 0 < len := by simpa using hp
    have hsp := hspot0 hp'
    subst hsp
    refine ⟨b, off, rfl, (hfo 0 hp').2.1, fun j hj => ?_⟩
    have hj' : j < len * 3 := by simpa using hj
    have hi : j / 3 < len := by omega
    obtain ⟨_, _, q0, q1, q2⟩ := hfo (j / 3) hi
    obtain ⟨g0, g1, g2⟩ := entC_get ((List.range len).map f) (j / 3) (by simpa using hi)
    simp only [List.getElem_map, List.getElem_range] at g0 g1 g2
    rcases (by omega : j = j / 3 * 3 ∨ j = j / 3 * 3 + 1 ∨ j = j / 3 * 3 + 2) with e | e | e
    · rw [e, g0]
      exact q0
    · rw [e, g1]
      exact q1
    · rw [e, g2]
      exact q2

theorem ents_at {W : World} {a : Option Addr} {l : List EntV} (hg : 0 < l.length → ∃ b off, a = some ⟨b, off, none⟩ ∧ b < W.heap.size ∧ ∀ j, j < l.length * 3 → W.cell? ⟨b, off + j, none⟩ = (entC l)[j]?) : EntsAt W a l := by
  intro i hi
  obtain ⟨b, off, e, hb, hc⟩ := hg (by omega)
  obtain ⟨g0, g1, g2⟩ := entC_get l i hi
  exact ⟨b, off, e, hb, by rw [hc _ (by omega), g0], by rw [Nat.add_assoc, hc _ (by omega), g1], by rw [Nat.add_assoc, hc _ (by omega), g2]⟩
set_option maxHeartbeats 4000000 in
set_option maxRecDepth 100000 in
theorem open_back {H : Type} {enc : TypeId × Value → H} {W : World} {b0 : Nat} {v : Value} {d : DataW H} {p : List MemPlace}
    (hv : Value.okWide Try.prog W .any b0 44 v) (h : DataW.Trod enc Try.prog W 0 (fun _ => true) true 44 v d p) (ts : List TypeId) (ds : List (DataW H)) (j : Nat)
    (hall : (DataW.weightsEach Try.prog ts ds).all (· ≤ reachBytes) = true) (hts : ts[j]? = some 44) (hds : ds[j]? = some d) :
    ∃ (m : MsgV) (l : List EntV) (at1 : Int) (by1 : UInt8) (ml : List UInt8), v = .agg (bakC m at1 by1 ⟨ml.toArray⟩) ∧ EntsAt W m.ea l ∧ m.en = l.length ∧ l.length ≤ 9223372036854775807 ∧ (-9223372036854775808 ≤ at1 ∧ at1 ≤ 9223372036854775807) ∧ ml.length ≤ 140737488355328 := by
  obtain ⟨cs, rfl, hsz⟩ := okWide_struct Try.underlying44 hv
  rw [cells44] at hsz
  obtain ⟨fuel, hf⟩ := h
  have hcl : (Value.agg cs).cells.toList = cs.toList := by simp [Value.cells]
  rw [hcl] at hf
  obtain ⟨xs, n', _, hd, _, hxl, hfs⟩ := DataW.trod_struct Try.underlying44 hf
  have f0 : DataW.trod enc Try.prog W 0 (fun _ => true) true n' 28 ((cs.toList.drop 0).take (Try.prog.cellsOf 28)) = xs[0]? := hfs 0 _ rfl
  have f1 : DataW.trod enc Try.prog W 0 (fun _ => true) true n' 3 ((cs.toList.drop 13).take (Try.prog.cellsOf 3)) = xs[1]? := hfs 1 _ rfl
  have f2 : DataW.trod enc Try.prog W 0 (fun _ => true) true n' 5 ((cs.toList.drop 14).take (Try.prog.cellsOf 5)) = xs[2]? := hfs 2 _ rfl
  have f3 : DataW.trod enc Try.prog W 0 (fun _ => true) true n' 9 ((cs.toList.drop 15).take (Try.prog.cellsOf 9)) = xs[3]? := hfs 3 _ rfl
  rw [cells28] at f0
  rw [cells3] at f1
  rw [cells5] at f2
  rw [cells9] at f3
  obtain ⟨a0, a1, a2, a3, a4, a5, a6, a7, a8, a9, q0, q1, q2, q3, q4, q5, e⟩ := sixteen cs.toList (by simpa using hsz)
  obtain ⟨y0, y1, y2, y3, rfl⟩ := four xs hxl
  rw [e] at f0 f1 f2 f3
  simp only [List.drop_zero, List.drop_succ_cons, List.take_succ_cons, List.take_zero, List.getElem?_cons_zero, List.getElem?_cons_succ] at f0 f1 f2 f3
  obtain ⟨at1, g1, _, w1⟩ := DataW.trod_int Try.underlying3 f1
  obtain ⟨bi, g2, _, w2⟩ := DataW.trod_int Try.underlying5 f2
  obtain ⟨mo, g3, hy3, w3⟩ := DataW.trod_string Try.underlying9 f3
  obtain ⟨zs, n2, _, _, _, hzl, hgs⟩ := DataW.trod_struct Try.underlying28 f0
  have k0 : DataW.trod enc Try.prog W 0 (fun _ => true) true n2 3 (([a0, a1, a2, a3, a4, a5, a6, a7, a8, a9, q0, q1, q2].drop 0).take (Try.prog.cellsOf 3)) = zs[0]? := hgs 0 _ rfl
  have k1 : DataW.trod enc Try.prog W 0 (fun _ => true) true n2 3 (([a0, a1, a2, a3, a4, a5, a6, a7, a8, a9, q0, q1, q2].drop 1).take (Try.prog.cellsOf 3)) = zs[1]? := hgs 1 _ rfl
  have k2 : DataW.trod enc Try.prog W 0 (fun _ => true) true n2 3 (([a0, a1, a2, a3, a4, a5, a6, a7, a8, a9, q0, q1, q2].drop 2).take (Try.prog.cellsOf 3)) = zs[2]? := hgs 2 _ rfl
  have k3 : DataW.trod enc Try.prog W 0 (fun _ => true) true n2 3 (([a0, a1, a2, a3, a4, a5, a6, a7, a8, a9, q0, q1, q2].drop 3).take (Try.prog.cellsOf 3)) = zs[3]? := hgs 3 _ rfl
  have k4 : DataW.trod enc Try.prog W 0 (fun _ => true) true n2 23 (([a0, a1, a2, a3, a4, a5, a6, a7, a8, a9, q0, q1, q2].drop 4).take (Try.prog.cellsOf 23)) = zs[4]? := hgs 4 _ rfl
  have k5 : DataW.trod enc Try.prog W 0 (fun _ => true) true n2 24 (([a0, a1, a2, a3, a4, a5, a6, a7, a8, a9, q0, q1, q2].drop 6).take (Try.prog.cellsOf 24)) = zs[5]? := hgs 5 _ rfl
  have k6 : DataW.trod enc Try.prog W 0 (fun _ => true) true n2 3 (([a0, a1, a2, a3, a4, a5, a6, a7, a8, a9, q0, q1, q2].drop 7).take (Try.prog.cellsOf 3)) = zs[6]? := hgs 6 _ rfl
  have k7 : DataW.trod enc Try.prog W 0 (fun _ => true) true n2 4 (([a0, a1, a2, a3, a4, a5, a6, a7, a8, a9, q0, q1, q2].drop 8).take (Try.prog.cellsOf 4)) = zs[7]? := hgs 7 _ rfl
  have k8 : DataW.trod enc Try.prog W 0 (fun _ => true) true n2 3 (([a0, a1, a2, a3, a4, a5, a6, a7, a8, a9, q0, q1, q2].drop 9).take (Try.prog.cellsOf 3)) = zs[8]? := hgs 8 _ rfl
  have k9 : DataW.trod enc Try.prog W 0 (fun _ => true) true n2 26 (([a0, a1, a2, a3, a4, a5, a6, a7, a8, a9, q0, q1, q2].drop 10).take (Try.prog.cellsOf 26)) = zs[9]? := hgs 9 _ rfl
  rw [cells3] at k0 k1 k2 k3 k6 k8
  rw [cells23] at k4
  rw [cells24] at k5
  rw [cells4] at k7
  rw [cells26] at k9
  obtain ⟨t0, t1, t2, t3, t4, t5, t6, t7, t8, t9, rfl⟩ := ten zs hzl
  simp only [List.drop_zero, List.drop_succ_cons, List.take_succ_cons, List.take_zero, List.getElem?_cons_zero, List.getElem?_cons_succ] at k0 k1 k2 k3 k4 k5 k6 k7 k8 k9
  obtain ⟨m0', h0, _, _⟩ := DataW.trod_int Try.underlying3 k0
  obtain ⟨m1, h1, _, _⟩ := DataW.trod_int Try.underlying3 k1
  obtain ⟨m2, h2, _, _⟩ := DataW.trod_int Try.underlying3 k2
  obtain ⟨m3, h3, _, _⟩ := DataW.trod_int Try.underlying3 k3
  obtain ⟨m4, m5, h4, h5⟩ := spot_cells k4
  obtain ⟨ea, ec, l, h6, hcc, hg, _⟩ := ents_cells k5
  obtain ⟨m7, h7, _, _⟩ := DataW.trod_int Try.underlying3 k6
  obtain ⟨m8, h8, _⟩ := DataW.trod_bool Try.underlying4 k7
  obtain ⟨m9, h9, _, _⟩ := DataW.trod_int Try.underlying3 k8
  obtain ⟨m10, m11, m12, h10, h11, h12⟩ := snap_cells k9
  simp only [List.cons.injEq, and_true] at h0 h1 h2 h3 h7 h8 h9 g1 g2 g3
  subst h0 h1 h2 h3 h4 h5 h6 h7 h8 h9 h10 h11 h12 g1 g2 g3
  have hbw : 0 ≤ bi ∧ bi < 256 := by
    have e1 : IntKind.u8.min = 0 := by decide
    have e2 : IntKind.u8.max = 255 := by decide
    simp [Lit.wf, e1, e2] at w2
    omega
  have hbe : ((UInt8.ofNat bi.toNat).toNat : Int) = bi := by
    rw [UInt8.toNat_ofNat']
    omega
  refine ⟨⟨m0', m1, m2, m3, m4, m5, ea, l.length, ec, m7, m8, m9, m10, m11, m12⟩, l, at1, UInt8.ofNat bi.toNat, mo.data.toList, ?_, ents_at hg, rfl, ?_, wfB w1, ?_⟩
  · have ecs : cs = #[.int .i64 m0', .int .i64 m1, .int .i64 m2, .int .i64 m3, .int .i64 m4, .int .i64 m5, .slice ea l.length ec, .int .i64 m7, .bool m8, .int .i64 m9, .int .i64 m10, .int .i64 m11, .string m12, .int .i64 at1, .int .u8 bi, .string mo] := by
      rw [← Array.toArray_toList (xs := cs), e]
    rw [ecs]
    unfold bakC
    rw [hbe]
  · unfold maxLen at hcc
    omega
  · have hd' : d = .agg [y0.1, y1.1, y2.1, y3.1] := by
      have h3 := hd
      simp at h3
      exact h3.1
    rw [hy3] at hd'
    subst hd'
    have hw := List.all_eq_true.1 hall _ (DataW.weights_mem_each hts hds (mo.data.toList.length) (by simp [DataW.weights, DataW.weightsEach, Try.underlying44]))
    have hr : reachBytes < 2 ^ 47 := reachBytes_lt
    have e3 : (2 : Nat) ^ 47 = 140737488355328 := by decide
    have hw2 : mo.data.toList.length ≤ reachBytes := by simpa using hw
    omega
end Go.Proofs.Ytagfolckodpioaa.K2
