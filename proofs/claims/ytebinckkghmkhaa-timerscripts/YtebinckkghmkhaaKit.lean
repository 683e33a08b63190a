/- A wheel as it lies in memory: a block of 1102 cells (how many keys, how many ticks, 1000 slots, 100 due ticks), a row of numbers for each slot that has one. -/
import Derived.Test.YtebinckkghmkhaaProg
import Derived.WalkKit
import Derived.WalkSpells
import Derived.WalkLawsBesides
import Derived.Deep.QuietTactic
import Derived.BigQuiet
import Derived.Lib.AppendStr
namespace Go.Proofs.Ytebinckkghmkhaa
open Go.RowKit

theorem hideIt {p : Prop} (h : p) : Hid p := h
def iv (n : Nat) : Value := .int .i64 (n : Int)
/-- All blocks that were there, but those of F, are as they were. -/
structure Out (F : Nat → Prop) (w w' : World) : Prop where
  os : w'.os = w.os
  tape : w'.tape = w.tape
  output : w'.output = w.output
  size : w.heap.size ≤ w'.heap.size
  block : ∀ k, k < w.heap.size → ¬ F k → w'.heap[k]? = w.heap[k]?
theorem Out.refl (F : Nat → Prop) (w : World) : Out F w w := ⟨rfl, rfl, rfl, Nat.le_refl _, fun _ _ _ => rfl⟩
theorem Out.trans {F G : Nat → Prop} {a b c : World} (h : Out F a b) (k : Out G b c) (hG : ∀ i, i < a.heap.size → G i → F i) : Out F a c :=
  ⟨k.os.trans h.os, k.tape.trans h.tape, k.output.trans h.output, Nat.le_trans h.size k.size, fun i hi hn => (k.block i (Nat.lt_of_lt_of_le hi h.size) (fun e => hn (hG i hi e))).trans (h.block i hi hn)⟩
theorem Out.mono {F G : Nat → Prop} {a b : World} (h : Out F a b) (hG : ∀ i, F i → G i) : Out G a b :=
  ⟨h.os, h.tape, h.output, h.size, fun i hi hn => h.block i hi (fun e => hn (hG i e))⟩
theorem Out.ofBelow {F : Nat → Prop} {w w' : World} (h : Below w.heap.size w w') : Out F w w' := ⟨h.os, h.tape, h.output, h.size, fun i hi _ => h.block i hi⟩
theorem Out.below {F : Nat → Prop} {w w' : World} (h : Out F w w') {B : Nat} (hB : B ≤ w.heap.size) (hF : ∀ k, F k → B ≤ k) : Below B w w' :=
  ⟨h.os, h.tape, h.output, h.size, fun i hi => h.block i (Nat.lt_of_lt_of_le hi hB) (fun e => by have := hF i e; omega)⟩
theorem Out.ofGrown {F : Nat → Prop} {w w' : World} {r : Option Nat} (h : w.grownBy w' r) (hF : ∀ k, r = some k → F k) : Out F w w' :=
  ⟨h.os, h.tape, h.output, h.size, fun i hi hn => h.block i hi (fun e => hn (hF i e.symm))⟩
theorem Out.ofSet {F : Nat → Prop} (w : World) (a : Addr) (v : Value) (hF : F a.block) : Out F w (w.setCell a v) :=
  ⟨rfl, rfl, rfl, by simp, fun i _ hn => RowKit.Below.heap_setCell _ _ _ _ (fun e => hn (e ▸ hF))⟩
theorem Out.ofAlloc {F : Nat → Prop} (w : World) (o : Obj) : Out F w (w.alloc o) := Out.ofBelow ((Below.refl _ w).alloc (Nat.le_refl _) o)
theorem Out.ofDrew {F : Nat → Prop} (w : World) : Out F w w.drew := Out.ofBelow (Below.refl _ w).drew
theorem cell_at {w : World} {p : Nat} {cs : Array Value} {t : TypeId} (h : w.heap[p]? = some (.cells cs t (0, 0))) (i : Nat) : w.cell? ⟨p, i, none⟩ = cs[i]? := by
  simp [World.cell?, h]
theorem free_at {w : World} {p : Nat} {cs : Array Value} {t : TypeId} (h : w.heap[p]? = some (.cells cs t (0, 0))) (i : Nat) : w.frozen? ⟨p, i, none⟩ = false := by
  simp [World.frozen?, h]


theorem info3 : (Try.prog.info? 3).map (fun i => (i.zero, i.size, i.bytes)) = some (some (.int .i64 0), 1, 8) := by kernel_rfl
theorem iv_one (u : Value) (l : List Nat) (h : u ∈ l.map iv) : u.oneCell' = true := by
  obtain ⟨k, _, rfl⟩ := List.mem_map.1 h
  rfl
/-- A row of numbers: block g, of capacity cap, begins with l. -/
def IRow (w : World) (g cap : Nat) (l : List Nat) : Prop := ∃ cur, w.heap[g]? = some (.cells cur 3 (0, 0)) ∧ l.length ≤ cap ∧ cap ≤ maxLen ∧ cur.size = cap ∧ cur.toList.take l.length = l.map iv
theorem IRow.keep {w w' : World} {g cap : Nat} {l : List Nat} (h : IRow w g cap l) (hb : w'.heap[g]? = w.heap[g]?) : IRow w' g cap l := by
  obtain ⟨cur, hg, r⟩ := h
  exact ⟨cur, hb.trans hg, r⟩
theorem IRow.lt {w : World} {g cap : Nat} {l : List Nat} (h : IRow w g cap l) : g < w.heap.size := by
  obtain ⟨cur, hg, r⟩ := h
  exact (Array.getElem?_eq_some_iff.1 hg).1
theorem IRow.le {w : World} {g cap : Nat} {l : List Nat} (h : IRow w g cap l) : l.length ≤ cap ∧ cap ≤ maxLen := by
  obtain ⟨cur, hg, h1, h2, _⟩ := h
  exact ⟨h1, h2⟩
theorem IRow.cell {w : World} {g cap : Nat} {l : List Nat} (h : IRow w g cap l) (j : Nat) (hj : j < l.length) : w.cell? ⟨g, j, none⟩ = some (.int .i64 (l[j] : Int)) := by
  obtain ⟨cur, hg, _, _, _, ht⟩ := h
  rw [cell_at hg]
  have e : (cur.toList.take l.length)[j]? = some (.int .i64 (l[j] : Int)) := by
    rw [ht]
    simp [iv, hj]
  rw [List.getElem?_take, if_pos hj] at e
  simpa using e
theorem IRow.free {w : World} {g cap : Nat} {l : List Nat} (h : IRow w g cap l) (j : Nat) : w.frozen? ⟨g, j, none⟩ = false := by
  obtain ⟨cur, hg, _⟩ := h
  exact free_at hg j
theorem add_zero' (g j : Nat) : (⟨g, 0, none⟩ : Addr).add j = ⟨g, j, none⟩ := by unfold Addr.add; split <;> simp_all
/-- A number appended to a row: in its block, or in a new one. -/
theorem run_append_I (w : World) (ty : TypeId) (g cap : Nat) (l : List Nat) (hR : IRow w g cap l) (b c k : Nat) (hb : w.cell? ⟨b, 0, none⟩ = some (iv k)) (hl : l.length ≤ 1000000) :
    ∃ g' cap' w', (Builtin.append_ #[36, 36] ty #[.slice (some ⟨g, 0, none⟩) l.length cap, .slice (some ⟨b, 0, none⟩) 1 c]).run Try.prog w = .ok (.slice (some ⟨g', 0, none⟩) (l ++ [k]).length cap') w' ∧ IRow w' g' cap' (l ++ [k]) ∧ Out (fun i => i = g) w w' ∧ (g' = g ∨ w.heap.size ≤ g') := by
  obtain ⟨i, hi, hz0, hz1, hz2⟩ := info_parts info3
  have hlt := hR.lt
  have hcell := hR.cell
  obtain ⟨cur, hg, hnc, hcm, hcs, htake⟩ := hR
  have ht : Try.prog.underlying 36 = some (.slice 3) := Try.underlying36
  have hn : ∀ j u, [iv k][j]? = some u → w.cell? ((⟨b, 0, none⟩ : Addr).add j) = some u := by
    intro j u hu
    cases j with
    | zero => simp at hu; subst hu; rw [add_zero']; exact hb
    | succ j => simp at hu
  have ho : ∀ j u, (l.map iv)[j]? = some u → w.cell? ((⟨g, 0, none⟩ : Addr).add j) = some u := by
    intro j u hu
    rw [add_zero']
    rw [List.getElem?_map] at hu
    cases hj : l[j]? with
    | none => rw [hj] at hu; cases hu
    | some x =>
      rw [hj] at hu
      obtain ⟨hj1, rfl⟩ := List.getElem?_eq_some_iff.1 hj
      rw [hcell j hj1]
      simpa [iv] using hu
  have e1 : (l ++ [k]).length = l.length + 1 := by simp
  have e2 : (l ++ [k]).map iv = l.map iv ++ [iv k] := by simp
  by_cases hroom : l.length + 1 ≤ cap
  · have hr := run_append_room (P := Try.prog) w 36 ty 3 i ht hi g l.length cap cur hg ⟨b, 0, none⟩ 1 c [iv k] (by rw [hz1]; rfl) hn (fun u hu => by simp at hu; subst hu; rfl) hroom (by rw [hz1]; simp; omega)
    rw [hz1, Nat.mul_one] at hr
    refine ⟨g, cap, _, by rw [e1]; exact hr, ⟨_, setRow_heap w g cur _ 3 _ hg, by omega, hcm, ?_, ?_⟩, ⟨rfl, rfl, rfl, by simp, fun k _ hk => setRow_other w g k _ hk⟩, .inl rfl⟩
    · simp only [List.size_toArray, List.length_append, List.length_take, List.length_drop, Array.length_toList, List.length_cons, List.length_nil]
      omega
    · rw [htake, e1, e2]
      have : l.length + 1 = (l.map iv ++ [iv k]).length := by simp
      rw [this]
      exact List.take_left
  · have hr := run_append_grow (P := Try.prog) w 36 ty 3 i (.int .i64 0) ht hi hz0 ⟨g, 0, none⟩ l.length cap (l.map iv) (by rw [hz1]; simp) ho ⟨b, 0, none⟩ 1 c [iv k] (by rw [hz1]; rfl) hn (by omega) (by omega) (by rw [hz2]; exact growslice_fits (by omega) (by omega))
    have hge := grownCap_ge w (l.length + 1) cap 3
    have hcm2 : grownCap w (l.length + 1) cap 3 ≤ maxLen := grownCap_le_maxLen w (l.length + 1) cap 3 (by unfold maxLen; omega)
    refine ⟨w.heap.size, _, _, by rw [e1]; exact hr, ⟨_, heap_alloc_new w.drew _, by omega, hcm2, ?_, ?_⟩, ⟨rfl, rfl, rfl, by simp, fun k hk _ => Lib.alloc_old w.drew _ k hk⟩, .inr (Nat.le_refl _)⟩
    · have hz3 : (Value.int IntKind.i64 0).cells.size = 1 := rfl
      simp only [Array.size_append, List.size_toArray, size_zeroCells, hz3, List.length_map, List.length_cons, List.length_nil]
      omega
    · simp only [Array.toList_append, List.append_assoc]
      rw [← List.append_assoc, e1, e2]
      have : l.length + 1 = (l.map iv ++ [iv k]).length := by simp
      rw [this]
      exact List.take_left
theorem run_append_I0 (w : World) (ty : TypeId) (b c k : Nat) (hb : w.cell? ⟨b, 0, none⟩ = some (iv k)) :
    ∃ g' cap' w', (Builtin.append_ #[36, 36] ty #[.slice none 0 0, .slice (some ⟨b, 0, none⟩) 1 c]).run Try.prog w = .ok (.slice (some ⟨g', 0, none⟩) 1 cap') w' ∧ IRow w' g' cap' [k] ∧ Out (fun _ => False) w w' ∧ w.heap.size ≤ g' := by
  obtain ⟨i, hi, hz0, hz1, hz2⟩ := info_parts info3
  have ht : Try.prog.underlying 36 = some (.slice 3) := Try.underlying36
  have hn : ∀ j u, [iv k][j]? = some u → w.cell? ((⟨b, 0, none⟩ : Addr).add j) = some u := by
    intro j u hu
    cases j with
    | zero => simp at hu; subst hu; rw [add_zero']; exact hb
    | succ j => simp at hu
  have hr := run_append_nil (P := Try.prog) w 36 ty 3 i (.int .i64 0) ht hi hz0 ⟨b, 0, none⟩ 1 c [iv k] (by rw [hz1]; rfl) hn (by omega) (by omega) (by rw [hz2]; decide)
  have hge := grownCap_ge w 1 0 3
  have hcm2 : grownCap w 1 0 3 ≤ maxLen := grownCap_le_maxLen w 1 0 3 (by decide)
  refine ⟨w.heap.size, _, _, hr, ⟨_, heap_alloc_new w.drew _, by simp; omega, hcm2, ?_, ?_⟩, ⟨rfl, rfl, rfl, by simp, fun k hk _ => Lib.alloc_old w.drew _ k hk⟩, Nat.le_refl _⟩
  · have hz3 : (Value.int IntKind.i64 0).cells.size = 1 := rfl
    simp only [Array.size_append, List.size_toArray, size_zeroCells, hz3, List.length_cons, List.length_nil]
    omega
  · simp [iv]
/-- A slot's value: none, or a row. -/
def sval (l : List Nat) : Option (Nat × Nat) → Value
  | none => .slice none 0 0
  | some (g, cap) => .slice (some ⟨g, 0, none⟩) l.length cap
def SRow (w : World) (l : List Nat) : Option (Nat × Nat) → Prop
  | none => l = []
  | some (g, cap) => IRow w g cap l
theorem run_append_S (w : World) (ty : TypeId) (r : Option (Nat × Nat)) (l : List Nat) (hR : SRow w l r) (b c k : Nat) (hb : w.cell? ⟨b, 0, none⟩ = some (iv k)) (hl : l.length ≤ 1000000) :
    ∃ g' cap' w', (Builtin.append_ #[36, 36] ty #[sval l r, .slice (some ⟨b, 0, none⟩) 1 c]).run Try.prog w = .ok (sval (l ++ [k]) (some (g', cap'))) w' ∧ IRow w' g' cap' (l ++ [k]) ∧ Out (fun i => ∃ cap, r = some (i, cap)) w w' ∧ ((∃ cap, r = some (g', cap)) ∨ w.heap.size ≤ g') := by
  cases r with
  | none =>
    have : l = [] := hR
    subst this
    obtain ⟨g', cap', w', h1, h2, h3, h4⟩ := run_append_I0 w ty b c k hb
    exact ⟨g', cap', w', h1, h2, h3.mono (fun _ h => h.elim), .inr h4⟩
  | some gc =>
    obtain ⟨g, cap⟩ := gc
    obtain ⟨g', cap', w', h1, h2, h3, h4⟩ := run_append_I w ty g cap l hR b c k hb hl
    refine ⟨g', cap', w', h1, h2, h3.mono (fun i h => ⟨cap, by rw [h]⟩), ?_⟩
    rcases h4 with rfl | h4
    · exact .inl ⟨cap, rfl⟩
    · exact .inr h4
theorem SRow.keep {w w' : World} {l : List Nat} {r : Option (Nat × Nat)} (h : SRow w l r) (hb : ∀ g cap, r = some (g, cap) → w'.heap[g]? = w.heap[g]?) : SRow w' l r := by
  cases r with
  | none => exact h
  | some gc => exact IRow.keep h (hb gc.1 gc.2 rfl)
theorem SRow.cell {w : World} {l : List Nat} {r : Option (Nat × Nat)} (h : SRow w l r) (j : Nat) (hj : j < l.length) : ∃ g cap, r = some (g, cap) ∧ w.cell? ⟨g, j, none⟩ = some (.int .i64 (l[j] : Int)) := by
  cases r with
  | none => have : l = [] := h; subst this; simp at hj
  | some gc => exact ⟨gc.1, gc.2, rfl, IRow.cell h j hj⟩
end Go.Proofs.Ytebinckkghmkhaa
