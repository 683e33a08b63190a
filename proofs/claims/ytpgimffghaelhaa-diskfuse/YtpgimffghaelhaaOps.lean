/- A script of calls among the arguments, opened; the statements' own pick and few. -/
import Derived.Test.YtpgimffghaelhaaCut
import Derived.Test.YtpgimffghaelhaaBegun
import Derived.Deep.Slices
import Derived.ChangeSlices
namespace Go.Proofs.Ytpgimffghaelhaa
open Go.RowKit Go.Maps

/-- A call of a script. -/
structure OpV where
  dO : Int
  seg : Int
  n : Int
  bytes : ByteArray
  keep : List Int
  ka : Option Addr
  kc : Nat
def i64B (x : Int) : Prop := -9223372036854775808 ≤ x ∧ x ≤ 9223372036854775807
/-- A row of numbers that can be read. -/
def NumsAt (w : World) (a : Option Addr) (keep : List Int) : Prop :=
  ∃ b off, ∀ j (h : j < keep.length), a = some ⟨b, off, none⟩ ∧ b < w.heap.size ∧ w.cell? ⟨b, off + j, none⟩ = some (.int .i64 keep[j]) ∧ i64B keep[j]
def OpAt (w : World) (b off : Nat) (o : OpV) : Prop :=
  w.cell? ⟨b, off, none⟩ = some (.int .i64 o.dO) ∧ w.cell? ⟨b, off + 1, none⟩ = some (.int .i64 o.seg) ∧ w.cell? ⟨b, off + 2, none⟩ = some (.int .i64 o.n) ∧ w.cell? ⟨b, off + 3, none⟩ = some (.string o.bytes) ∧ w.cell? ⟨b, off + 4, none⟩ = some (.slice o.ka o.keep.length o.kc) ∧
  i64B o.dO ∧ i64B o.seg ∧ i64B o.n ∧ NumsAt w o.ka o.keep
def OpsAt (w : World) (a : Option Addr) (l : List OpV) : Prop :=
  ∀ i (h : i < l.length), ∃ b off, a = some ⟨b, off, none⟩ ∧ b < w.heap.size ∧ OpAt w b (off + i * 5) l[i]
theorem wfB {x : Int} (h : (Lit.int .i64 x).wf = true) : i64B x := by
  have e1 : IntKind.i64.min = -9223372036854775808 := by decide
  have e2 : IntKind.i64.max = 9223372036854775807 := by decide
  simpa [Lit.wf, e1, e2, i64B] using h
theorem i64B.wf {x : Int} (h : i64B x) : (Lit.int .i64 x).wf = true := wf64 x h.1 h.2
theorem OpsAt.below {w w' : World} {a : Option Addr} {l : List OpV} (h : OpsAt w a l) (hb : Below w.heap.size w w') : OpsAt w' a l := by
  intro i hi
  obtain ⟨b, off, e, hl, h0, h1, h2, h3, h4, r1, r2, r3, kb, ko, hk⟩ := h i hi
  refine ⟨b, off, e, Nat.lt_of_lt_of_le hl hb.size, (hb.cell hl).trans h0, (hb.cell hl).trans h1, (hb.cell hl).trans h2, (hb.cell hl).trans h3, (hb.cell hl).trans h4, r1, r2, r3, kb, ko, fun j hj => ?_⟩
  obtain ⟨k1, k2, k3, k4⟩ := hk j hj
  exact ⟨k1, Nat.lt_of_lt_of_le k2 hb.size, (hb.cell k2).trans k3, k4⟩
theorem cells37 : Try.prog.cellsOf 37 = 5 := by kernel_rfl
theorem cells3 : Try.prog.cellsOf 3 = 1 := by kernel_rfl
theorem cells9 : Try.prog.cellsOf 9 = 1 := by kernel_rfl
theorem cells35 : Try.prog.cellsOf 35 = 1 := by kernel_rfl
/-- A row of numbers among what is read, opened. -/
theorem open_nums {H : Type} {enc : TypeId × Value → H} {W : World} {fuel : Nat} {cs : List Value} {x : DataW H × List MemPlace} (h : DataW.trod enc Try.prog W 0 (fun _ => true) true fuel 35 cs = some x) :
    ∃ a zs c, cs = [.slice a (zs : List Int).length c] ∧ NumsAt W a zs := by
  rcases ChangeShapes.open_ints Try.underlying35 Try.underlying3 cells3 h with ⟨rfl, _⟩ | ⟨x, l, c, ss, rfl, _, hl, hm, hz, hx, hcell, hws⟩
  · exact ⟨none, [], 0, rfl, 0, 0, fun j hj => by simp at hj⟩
  · simp only [if_true] at hz
    have hlen : (ss.take l).length = l := by rw [List.length_take]; omega
    obtain ⟨b, off, spot⟩ := x
    refine ⟨some ⟨b, off, spot⟩, ss.take l, c, by rw [hlen], b, off, fun j hj => ?_⟩
    have hi' : j < ss.length := by rw [List.length_take] at hj; omega
    have hc := hcell j hi'
    have hspot : spot = none := by simpa [Addr.add] using World.cell?_spot (hcell 0 (by omega))
    subst hspot
    have e2 : (⟨b, off, none⟩ : Addr).add j = ⟨b, off + j, none⟩ := by cases j <;> simp [Addr.add]
    rw [e2] at hc
    have hg : ss.getD j 0 = (ss.take l)[j] := by simp [List.getD, List.getElem?_eq_getElem hi']
    rw [hg] at hc
    refine ⟨rfl, ?_, hc, wfB (hws _ (List.mem_of_mem_take (List.getElem_mem hj)))⟩
    rcases Nat.lt_or_ge b W.heap.size with h' | h'
    · exact h'
    · simp [World.cell?, Array.getElem?_eq_none h'] at hc
theorem addN (b off j : Nat) : (⟨b, off, none⟩ : Addr).add j = ⟨b, off + j, none⟩ := by cases j <;> simp [Addr.add]
theorem five {α : Type} (l : List α) (h : l.length = 5) : ∃ a b c d e, l = [a, b, c, d, e] := by
  match l, h with
  | [a, b, c, d, e], _ => exact ⟨a, b, c, d, e, rfl⟩
set_option maxRecDepth 100000 in
theorem open_ops {H : Type} {enc : TypeId × Value → H} {W : World} {a : Option Addr} {len cap : Nat} {d : DataW H} {p : List MemPlace}
    (h : DataW.Trod enc Try.prog W 0 (fun _ => true) true 32 (.slice a len cap) d p) :
    ∃ l : List OpV, l.length = len ∧ OpsAt W a l ∧ len ≤ cap ∧ cap ≤ maxLen ∧ (a = none → l = [] ∧ cap = 0) := by
  obtain ⟨fuel, hf⟩ := h
  rcases Deep.open_slice Try.underlying32 hf with ⟨hcs, _⟩ | ⟨x, l, c, m, n, D, Pl, hcs, _, hl, hm, hmm, _, hx⟩
  · simp [Value.cells] at hcs
    obtain ⟨rfl, rfl, rfl⟩ := hcs
    exact ⟨[], rfl, fun i hi => by simp at hi, Nat.le_refl _, Nat.zero_le _, fun _ => ⟨rfl, rfl⟩⟩
  · simp [Value.cells] at hcs
    obtain ⟨rfl, rfl, rfl⟩ := hcs
    simp only [if_true] at hmm
    rw [cells37] at hx
    obtain ⟨b, off, spot⟩ := x
    have hspot0 : 0 < len → spot = none := by
      intro hpos
      obtain ⟨cs', h1, _⟩ := hx 0 (by omega)
      obtain ⟨_, hlen, hcell⟩ := World.cells?_some h1
      obtain ⟨v0, v1, v2, v3, v4, rfl⟩ := five cs' hlen
      have g := World.cell?_spot (hcell 0 (by omega))
      simpa [Addr.add] using g
    have key : ∀ i, i < len → ∃ o : OpV, spot = none ∧ b < W.heap.size ∧ OpAt W b (off + i * 5) o := by
      intro i hi
      obtain ⟨cs', h1, h2⟩ := hx i (by omega)
      obtain ⟨_, hlen, hcell⟩ := World.cells?_some h1
      obtain ⟨xs, n', _, _, _, hxl, hfs⟩ := DataW.trod_struct Try.underlying37 h2
      have f0 : DataW.trod enc Try.prog W 0 (fun _ => true) true n' 3 ((cs'.drop 0).take (Try.prog.cellsOf 3)) = xs[0]? := hfs 0 _ rfl
      have f1 : DataW.trod enc Try.prog W 0 (fun _ => true) true n' 3 ((cs'.drop 1).take (Try.prog.cellsOf 3)) = xs[1]? := hfs 1 _ rfl
      have f2 : DataW.trod enc Try.prog W 0 (fun _ => true) true n' 3 ((cs'.drop 2).take (Try.prog.cellsOf 3)) = xs[2]? := hfs 2 _ rfl
      have f3 : DataW.trod enc Try.prog W 0 (fun _ => true) true n' 9 ((cs'.drop 3).take (Try.prog.cellsOf 9)) = xs[3]? := hfs 3 _ rfl
      have f4 : DataW.trod enc Try.prog W 0 (fun _ => true) true n' 35 ((cs'.drop 4).take (Try.prog.cellsOf 35)) = xs[4]? := hfs 4 _ rfl
      rw [cells3] at f0 f1 f2
      rw [cells9] at f3
      rw [cells35] at f4
      obtain ⟨v0, v1, v2, v3, v4, rfl⟩ := five cs' hlen
      obtain ⟨y0, y1, y2, y3, y4, rfl⟩ := five xs hxl
      simp only [List.drop_zero, List.drop_succ_cons, List.take_succ_cons, List.take_zero] at f0 f1 f2 f3 f4
      obtain ⟨x0, e0, _, w0⟩ := DataW.trod_int Try.underlying3 f0
      obtain ⟨x1, e1, _, w1⟩ := DataW.trod_int Try.underlying3 f1
      obtain ⟨x2, e2, _, w2⟩ := DataW.trod_int Try.underlying3 f2
      obtain ⟨s3, e3, _, w3⟩ := DataW.trod_string Try.underlying9 f3
      obtain ⟨a4, zs, c4, e4, hN⟩ := open_nums f4
      obtain rfl : v0 = _ := by simpa using e0
      obtain rfl : v1 = _ := by simpa using e1
      obtain rfl : v2 = _ := by simpa using e2
      obtain rfl : v3 = _ := by simpa using e3
      obtain rfl : v4 = _ := by simpa using e4
      have hspot : spot = none := hspot0 (by omega)
      subst hspot
      have k0 := hcell 0 (by omega)
      have k1 := hcell 1 (by omega)
      have k2 := hcell 2 (by omega)
      have k3 := hcell 3 (by omega)
      have k4 := hcell 4 (by omega)
      rw [addN, addN] at k0 k1 k2 k3 k4
      refine ⟨⟨x0, x1, x2, s3, zs, a4, c4⟩, rfl, ?_, by simpa using k0, by simpa using k1, by simpa using k2, by simpa using k3, by simpa using k4, wfB w0, wfB w1, wfB w2, hN⟩
      rcases Nat.lt_or_ge b W.heap.size with h' | h'
      · exact h'
      · simp [World.cell?, Array.getElem?_eq_none h'] at k0
    haveI : Inhabited OpV := ⟨⟨0, 0, 0, ⟨#[]⟩, [], none, 0⟩⟩
    obtain ⟨f, hfo⟩ := Deep.choose_lt (α := OpV) (p := fun i o => spot = none ∧ b < W.heap.size ∧ OpAt W b (off + i * 5) o) key
    refine ⟨(List.range len).map f, by simp, fun i hi => ?_, hl, hm, fun h => by cases h⟩
    have hi' : i < len := by simpa using hi
    obtain ⟨rfl, hb, ho⟩ := hfo i hi'
    refine ⟨b, off, rfl, hb, ?_⟩
    simpa using ho
/-- The statements' choice of a number below n. -/
def pickN (c : Int) (n : Nat) : Nat := (if c < 0 then -(c + 1) else c).toNat % n
set_option maxHeartbeats 1000000 in
theorem pick_is (c : Int) (n : Nat) (w : World) (hc : i64B c) (hn : 0 < n) (hn2 : n ≤ 1000000) : Calls Try.prog 11 #[.int .i64 c, .int .i64 (n : Int)] w fun e w' => e = .returned (.int .i64 (pickN c n : Int)) ∧ w' = w := by
  obtain ⟨h1, h2⟩ := hc
  have hn0 : ¬ ((n : Int) = 0) := by omega
  unfold pickN
  by_cases h : c < 0
  · rw [if_pos h]
    obtain ⟨m, hm⟩ : ∃ m : Nat, -(c + 1) = (m : Int) := ⟨(-(c + 1)).toNat, by omega⟩
    rw [hm]
    have e : (((m : Int).toNat % n : Nat) : Int) = (m : Int) % (n : Int) := by simp
    rw [e]
    have hm2 : (m : Int) ≤ 9223372036854775807 := by omega
    go_enter Try.func11, Try.ntmps11
    go_wp2
    go_ret
    exact ⟨rfl, rfl⟩
  · rw [if_neg h]
    obtain ⟨m, rfl⟩ : ∃ m : Nat, c = (m : Int) := ⟨c.toNat, by omega⟩
    have e : (((m : Int).toNat % n : Nat) : Int) = (m : Int) % (n : Int) := by simp
    rw [e]
    go_enter Try.func11, Try.ntmps11
    go_wp2
    go_ret
    exact ⟨rfl, rfl⟩
end Go.Proofs.Ytpgimffghaelhaa
