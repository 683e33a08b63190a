/- Numbers among the arguments, opened. -/
import Derived.Test.YtonhoopmhkomcaaArgs
import Derived.Test.YtonhoopmhkomcaaReach
namespace Go.Proofs.Ytonhoopmhkomcaa
open Go.ChangeShapes Go.WideShapes Go.ChangeAt Go.RowKit
theorem bytes3 : Try.prog.bytesOf 3 = 8 := by kernel_rfl
theorem open_nums {H : Type} {enc : TypeId × Value → H} {W : World} {b0 : Nat} {v : Value} {d : DataW H} {p : List MemPlace}
    (hv : Value.okWide Try.prog W .any b0 49 v) (h : DataW.Trod enc Try.prog W 0 (fun _ => true) true 49 v d p) (ts : List TypeId) (ds : List (DataW H)) (j : Nat)
    (hall : (DataW.weightsEach Try.prog ts ds).all (· ≤ reachBytes) = true) (hts : ts[j]? = some 49) (hds : ds[j]? = some d) : ∃ m, NGot W v m := by
  obtain ⟨fuel, hf⟩ := h
  obtain ⟨va, len, c, rfl⟩ := okWide_slice Try.underlying49 hv
  rcases Deep.open_slice Try.underlying49 hf with ⟨hcs, _⟩ | ⟨x0, vl, vc, m, n0, D, Pl, hcs, _, hl, hm, hmm, hxe, hx⟩
  · simp only [Value.cells, List.cons.injEq, and_true, Value.slice.injEq] at hcs
    obtain ⟨rfl, rfl, rfl⟩ := hcs
    exact ⟨[], by simp, none, 0, rfl, fun hi => absurd hi (by simp)⟩
  · simp only [Value.cells, List.cons.injEq, and_true, Value.slice.injEq] at hcs
    obtain ⟨rfl, rfl, rfl⟩ := hcs
    simp only [if_true] at hmm
    rw [cells3] at hx
    obtain ⟨b, off, spot⟩ := x0
    have one : ∀ (l : List Value), l.length = 1 → ∃ u, l = [u] := fun l h => by
      match l, h with
      | [u], _ => exact ⟨u, rfl⟩
    have hspot0 : 0 < len → spot = none := by
      intro hpos
      obtain ⟨cs', h1, _⟩ := hx 0 (by omega)
      obtain ⟨_, hlen, hcell⟩ := World.cells?_some h1
      obtain ⟨v0, rfl⟩ := one cs' hlen
      have g := World.cell?_spot (hcell 0 (by omega))
      simpa [Addr.add] using g
    have key : ∀ i, i < len → ∃ o : Int, spot = none ∧ b < W.heap.size ∧ W.cell? ⟨b, off + i, none⟩ = some (.int .i64 o) := by
      intro i hi
      obtain ⟨cs', h1, h2⟩ := hx i (by omega)
      obtain ⟨_, hlen, hcell⟩ := World.cells?_some h1
      obtain ⟨v0, rfl⟩ := one cs' hlen
      obtain ⟨z0, e0, _, _⟩ := DataW.trod_int Try.underlying3 h2
      simp only [List.cons.injEq, and_true] at e0
      subst e0
      have hspot : spot = none := hspot0 (by omega)
      subst hspot
      have k0 := hcell 0 (by omega)
      rw [addN, addN, Nat.mul_one] at k0
      refine ⟨z0, rfl, ?_, by simpa using k0⟩
      rcases Nat.lt_or_ge b W.heap.size with h' | h'
      · exact h'
      · simp [World.cell?, Array.getElem?_eq_none h'] at k0
    obtain ⟨f, hfo⟩ := @Deep.choose_lt Int ⟨0⟩ len (fun i o => spot = none ∧ b < W.heap.size ∧ W.cell? ⟨b, off + i, none⟩ = some (.int .i64 o)) key
    have hd : d = .slice ((List.range len).map D) ((List.range (m - len)).map fun j => D (len + j)) := by
      have := congrArg Prod.fst hxe
      exact this
    have hsz : len * 8 ≤ 140737488355328 := by
      subst hd
      have hw := List.all_eq_true.1 hall _ (DataW.weights_mem_each hts hds ((len + (m - len)) * Try.prog.bytesOf 3) (by simp [DataW.weights, Try.underlying49]))
      rw [bytes3] at hw
      have hr : reachBytes < 2 ^ 47 := reachBytes_lt
      have e3 : (2 : Nat) ^ 47 = 140737488355328 := by decide
      have hw2 : (len + (m - len)) * 8 ≤ reachBytes := by simpa using hw
      omega
    refine ⟨(List.range len).map f, by simpa using hsz, some ⟨b, off, spot⟩, c, by simp, fun hp => ?_⟩
    have hp' : 0 < len := by simpa using hp
    have hsp := hspot0 hp'
    subst hsp
    refine ⟨b, off, rfl, (hfo 0 hp').2.1, fun i hi => ?_⟩
    have hi' : i < len := by simpa using hi
    rw [(hfo i hi').2.2]
    simp [List.getD, hi']
end Go.Proofs.Ytonhoopmhkomcaa
