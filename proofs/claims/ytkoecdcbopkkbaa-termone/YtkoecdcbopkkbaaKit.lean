/- What stays of memory while other blocks turn; lists of numbers in memory, copied, searched, and one more number put in. -/
import Derived.Test.YtkoecdcbopkkbaaShelf
import Derived.WalkKit
import Derived.WalkSpells
import Derived.WalkLawsBesides
import Derived.Deep.QuietTactic
import Derived.BigQuiet
import Derived.Lib.AppendStr
import Derived.Deep.RegionHeld3
import Derived.Deep.RegionLaw
import Derived.Deep.CutBlock
import Derived.StillTailTactics
import Derived.OwnWalk
import Derived.Deep.Slices
import Derived.ChangeSlices
namespace Go.Proofs.Ytkoecdcbopkkbaa
open Go.RowKit

theorem hideIt {p : Prop} (h : p) : Hid p := h
/-- All blocks that were there, but those of F, are as they were. -/
structure Out (F : Nat → Prop) (w w' : World) : Prop where
  os : w'.os = w.os
  tape : w'.tape = w.tape
  output : w'.output = w.output
  size : w.heap.size ≤ w'.heap.size
  block : ∀ k, k < w.heap.size → ¬ F k → w'.heap[k]? = w.heap[k]?
theorem Out.refl (F : Nat → Prop) (w : World) : Out F w w := ⟨rfl, rfl, rfl, Nat.le_refl _, fun _ _ _ => rfl⟩
theorem Out.trans {F G : Nat → Prop} {a b c : World} (h : Out F a b) (k : Out G b c) (hG : ∀ i, i < a.heap.size → G i → F i) : Out F a c :=
  ⟨k.os.trans h.os, k.tape.trans h.tape, k.output.trans h.output, Nat.le_trans h.size k.size, fun i hi hn => (k.block i (Nat.lt_of_lt_of_le hi h.size) (fun e => hn (hG i hi e))).trans (h.block i hi hn)⟩
theorem Out.mono {F G : Nat → Prop} {a b : World} (h : Out F a b) (hG : ∀ i, F i → G i) : Out G a b :=
  ⟨h.os, h.tape, h.output, h.size, fun i hi hn => h.block i hi (fun e => hn (hG i e))⟩
theorem Out.ofBelow {F : Nat → Prop} {w w' : World} (h : Below w.heap.size w w') : Out F w w' := ⟨h.os, h.tape, h.output, h.size, fun i hi _ => h.block i hi⟩
theorem Out.below {F : Nat → Prop} {w w' : World} (h : Out F w w') {B : Nat} (hB : B ≤ w.heap.size) (hF : ∀ k, F k → B ≤ k) : Below B w w' :=
  ⟨h.os, h.tape, h.output, h.size, fun i hi => h.block i (Nat.lt_of_lt_of_le hi hB) (fun e => by have := hF i e; omega)⟩
theorem Out.ofGrown {F : Nat → Prop} {w w' : World} {r : Option Nat} (h : w.grownBy w' r) (hF : ∀ k, r = some k → F k) : Out F w w' :=
  ⟨h.os, h.tape, h.output, h.size, fun i hi hn => h.block i hi (fun e => hn (hF i e.symm))⟩
theorem Out.ofSet {F : Nat → Prop} (w : World) (a : Addr) (v : Value) (hF : F a.block) : Out F w (w.setCell a v) :=
  ⟨rfl, rfl, rfl, by simp, fun i _ hn => RowKit.Below.heap_setCell _ _ _ _ (fun e => hn (e ▸ hF))⟩
theorem Out.ofAlloc {F : Nat → Prop} (w : World) (o : Obj) : Out F w (w.alloc o) := Out.ofBelow ((Below.refl _ w).alloc (Nat.le_refl _) o)
theorem Out.ofDrew {F : Nat → Prop} (w : World) : Out F w w.drew := Out.ofBelow (Below.refl _ w).drew
theorem cell_at {w : World} {p : Nat} {cs : Array Value} {t : TypeId} (h : w.heap[p]? = some (.cells cs t (0, 0))) (i : Nat) : w.cell? ⟨p, i, none⟩ = cs[i]? := by
  simp [World.cell?, h]
theorem free_at {w : World} {p : Nat} {cs : Array Value} {t : TypeId} (h : w.heap[p]? = some (.cells cs t (0, 0))) (i : Nat) : w.frozen? ⟨p, i, none⟩ = false := by
  simp [World.frozen?, h]
theorem heap_set {w : World} {p : Nat} {cs : Array Value} {t : TypeId} (h : w.heap[p]? = some (.cells cs t (0, 0))) (j : Nat) (v : Value) : (w.setCell ⟨p, j, none⟩ v).heap[p]? = some (.cells (cs.setIfInBounds j v) t (0, 0)) := by
  rw [setCell_eq_setRow _ p j cs t (0, 0) _ h]
  exact setRow_heap _ p cs _ t _ h
theorem heap_set_other (w : World) (p j k : Nat) (v : Value) (h : k ≠ p) : (w.setCell ⟨p, j, none⟩ v).heap[k]? = w.heap[k]? := RowKit.Below.heap_setCell _ _ _ _ (fun e => h e)

def iv (x : Int) : Value := .int .i64 x
/-- A list of numbers that can be read. -/
def GotAt (w : World) (v : Value) (l : List Int) : Prop :=
  l.length * 8 ≤ 140737488355328 ∧ ∃ a c, v = .slice a l.length c ∧ (0 < l.length → ∃ b off, a = some ⟨b, off, none⟩ ∧ b < w.heap.size ∧ ∀ j, j < l.length → w.cell? ⟨b, off + j, none⟩ = some (.int .i64 (l.getD j 0)))
theorem GotAt.nil (w : World) (a : Option Addr) (c : Nat) : GotAt w (.slice a 0 c) [] := ⟨by simp, a, c, rfl, fun h => absurd h (by simp)⟩
theorem GotAt.keep {w w' : World} {v : Value} {l : List Int} (h : GotAt w v l) (hb : Below w.heap.size w w') : GotAt w' v l := by
  obtain ⟨h8, a, c, rfl, hr⟩ := h
  refine ⟨h8, a, c, rfl, fun hp => ?_⟩
  obtain ⟨b, off, rfl, hlt, hc⟩ := hr hp
  exact ⟨b, off, rfl, Nat.lt_of_lt_of_le hlt hb.size, fun j hj => (hb.cell hlt).trans (hc j hj)⟩
theorem GotAt.parts {w : World} {v : Value} {l : List Int} (h : GotAt w v l) : (l = [] ∧ ∃ a c, v = .slice a 0 c) ∨ (∃ b off c, v = .slice (some ⟨b, off, none⟩) l.length c ∧ b < w.heap.size ∧ l.length * 8 ≤ 140737488355328 ∧ 0 < l.length ∧ ∀ j, j < l.length → w.cell? ⟨b, off + j, none⟩ = some (.int .i64 (l.getD j 0))) := by
  obtain ⟨h8, a, c, rfl, hr⟩ := h
  rcases l with _ | ⟨x, l⟩
  · exact .inl ⟨rfl, a, c, rfl⟩
  · obtain ⟨b, off, rfl, hlt, hc⟩ := hr (by simp)
    exact .inr ⟨b, off, c, rfl, hlt, h8, by simp, hc⟩
theorem map_get (l : List Int) (j : Nat) (hj : j < l.length) : (l.map iv)[j]? = some (.int .i64 (l.getD j 0)) := by
  simp [iv, List.getD, List.getElem?_eq_getElem hj]
theorem own_got {w : World} {B : Nat} {v : Value} {l : List Int} (h : w.ownsRow B 3 1 v l.length (l.map iv)) (h8 : l.length * 8 ≤ 140737488355328) : GotAt w v l := by
  obtain ⟨_, ⟨rfl, h0⟩ | ⟨g, cap, cur, rfl, hB, hg, hn, hc, hs, ht⟩⟩ := h
  · rw [List.length_eq_zero_iff] at h0
    subst h0
    exact GotAt.nil _ _ _
  · refine ⟨h8, _, cap, rfl, fun _ => ⟨g, 0, rfl, (Array.getElem?_eq_some_iff.1 hg).1, fun j hj => ?_⟩⟩
    rw [cell_at hg, Nat.zero_add, ← map_get l j hj, ← ht, List.getElem?_take, if_pos (by omega)]
    simp
theorem own_len {w : World} {B : Nat} {e : TypeId} {z n : Nat} {v : Value} {xs : List Value} (h : w.ownsRow B e z v n xs) : ∃ a c, v = .slice a n c := by
  obtain ⟨_, ⟨rfl, rfl⟩ | ⟨g, cap, cur, rfl, _⟩⟩ := h
  · exact ⟨_, _, rfl⟩
  · exact ⟨_, _, rfl⟩
theorem own_keep {w w' : World} {B : Nat} {e : TypeId} {z n : Nat} {v : Value} {xs : List Value} (h : w.ownsRow B e z v n xs) (hb : Below w.heap.size w w') : w'.ownsRow B e z v n xs := by
  obtain ⟨h1, h2 | ⟨g, cap, cur, hv, hB, hg, r⟩⟩ := h
  · exact ⟨h1, .inl h2⟩
  · exact ⟨h1, .inr ⟨g, cap, cur, hv, hB, (hb.block g (Array.getElem?_eq_some_iff.1 hg).1).trans hg, r⟩⟩
theorem own_base {w : World} {B B' : Nat} {e : TypeId} {z n : Nat} {v : Value} {xs : List Value} (h : w.ownsRow B e z v n xs) (hb : B' ≤ B) : w.ownsRow B' e z v n xs := by
  obtain ⟨h1, h2 | ⟨g, cap, cur, hv, hB, r⟩⟩ := h
  · exact ⟨h1, .inl h2⟩
  · exact ⟨h1, .inr ⟨g, cap, cur, hv, by omega, r⟩⟩
/-- A list comes back, in memory of its own from B on. -/
def OwnBack (B : Nat) (w : World) (l : List Int) (e : Ending) (w' : World) : Prop := ∃ v, e = .returned v ∧ w'.ownsRow B 3 1 v l.length (l.map iv) ∧ Below B w w'
theorem clone_any (v : Value) (l : List Int) (w : World) (h : GotAt w v l) : Calls Try.prog 41 #[v] w (OwnBack w.heap.size w l) := by
  rcases h.parts with ⟨rfl, a, c, rfl⟩ | ⟨b, off, c, rfl, hlt, h8, hp, hc⟩
  · cases a with
    | none =>
      refine (slices_Clone_int_nil 0 c w).mono ?_
      rintro e w' ⟨rfl, rfl⟩
      exact ⟨_, rfl, ⟨rfl, .inl ⟨rfl, rfl⟩⟩, Below.refl _ _⟩
    | some a =>
      refine (slices_Clone_int_zero a c w).mono ?_
      rintro e w' ⟨v', rfl, h1, _, h2⟩
      exact ⟨_, rfl, h1, h2⟩
  · refine (slices_Clone_int b off l.length c l w (Nat.le_refl _) h8 hc).mono ?_
    rintro e w' ⟨v', rfl, h1, _, h2⟩
    rw [List.take_length] at h1
    exact ⟨_, rfl, h1, h2⟩
theorem contains_any (v : Value) (l : List Int) (x : Int) (w : World) (h : GotAt w v l) : Calls Try.prog 45 #[v, .int .i64 x] w fun e w' => e = .returned (.bool (l.contains x)) ∧ w' = w := by
  rcases h.parts with ⟨rfl, a, c, rfl⟩ | ⟨b, off, c, rfl, hlt, h8, hp, hc⟩
  · exact slices_Contains_int_empty a c x w
  · refine (slices_Contains_int b off l.length c l x w (Nat.le_refl _) (by omega) hc).mono ?_
    rintro e w' ⟨rfl, rfl⟩
    rw [List.take_length]
    exact ⟨rfl, rfl⟩
theorem search_any (v : Value) (l : List Int) (x : Int) (w : World) (h : GotAt w v l) (hs : l.Pairwise (· ≤ ·)) : Calls Try.prog 42 #[v, .int .i64 x] w fun e w' => e = .returned (.tuple #[.int .i64 (l.countP (· < x) : Nat), .bool (l.contains x)]) ∧ ∃ q, w' = w.drewN q := by
  rcases h.parts with ⟨rfl, a, c, rfl⟩ | ⟨b, off, c, rfl, hlt, h8, hp, hc⟩
  · refine (slices_BinarySearch_int_empty a c x w).mono ?_
    rintro e w' ⟨rfl, rfl⟩
    exact ⟨rfl, 0, rfl⟩
  · have := slices_BinarySearch_int b off l.length c l x w (Nat.le_refl _) (by omega) hc (by rw [List.take_length]; exact hs)
    rw [List.take_length] at this
    exact this
/-- Cells that are written one behind the other. -/
def putL (cur : Array Value) (o : Nat) : List Value → Array Value
  | [] => cur
  | v :: r => putL (cur.setIfInBounds o v) (o + 1) r
theorem putL_size (vs : List Value) : ∀ (cur : Array Value) (o : Nat), (putL cur o vs).size = cur.size := by
  induction vs with
  | nil => intro _ _; rfl
  | cons v r ih => intro cur o; rw [putL, ih, Array.size_setIfInBounds]
theorem putL_get (vs : List Value) : ∀ (cur : Array Value) (o j : Nat), o + vs.length ≤ cur.size → (putL cur o vs)[j]? = if o ≤ j ∧ j < o + vs.length then vs[j - o]? else cur[j]? := by
  induction vs with
  | nil =>
    intro cur o j _
    rw [putL, if_neg (by simp)]
  | cons v r ih =>
    intro cur o j h
    simp only [List.length_cons] at h
    rw [putL, ih _ _ _ (by rw [Array.size_setIfInBounds]; omega), List.length_cons, Array.getElem?_setIfInBounds]
    by_cases h1 : o = j
    · subst h1
      rw [if_neg (by omega), if_pos rfl, if_pos (by omega), if_pos (by omega), Nat.sub_self]
      rfl
    · by_cases h2 : o + 1 ≤ j ∧ j < o + 1 + r.length
      · rw [if_pos h2, if_pos (by omega)]
        obtain ⟨d, rfl⟩ : ∃ d, j = o + 1 + d := ⟨j - (o + 1), by omega⟩
        rw [show o + 1 + d - (o + 1) = d by omega, show o + 1 + d - o = d + 1 by omega]
        rfl
      · rw [if_neg h2, if_neg h1, if_neg (by omega)]
theorem heap_setCells (g : Nat) (t : TypeId) (vs : List Value) : ∀ (o : Nat) (w : World) (cur : Array Value), w.heap[g]? = some (.cells cur t (0, 0)) → (w.setCells g o vs).heap[g]? = some (.cells (putL cur o vs) t (0, 0)) := by
  induction vs with
  | nil => intro o w cur h; exact h
  | cons v r ih =>
    intro o w cur h
    rw [World.setCells, putL]
    exact ih _ _ _ (heap_set h o v)
theorem below_setCells (B g : Nat) (hB : B ≤ g) (vs : List Value) : ∀ (o : Nat) (w0 w : World), Below B w0 w → Below B w0 (w.setCells g o vs) := by
  induction vs with
  | nil => intro _ _ _ h; exact h
  | cons v r ih =>
    intro o w0 w h
    rw [World.setCells]
    refine ih _ _ _ ⟨h.os, h.tape, h.output, by simpa using h.size, fun k hk => ?_⟩
    rw [heap_set_other _ _ _ _ _ (by omega)]
    exact h.block k hk
theorem take_ins (A : Array Value) (cs : List Value) (x : Value) (i n : Nat) (hn : n = cs.length) (hi : i ≤ n) (hA : n + 1 ≤ A.size) (h1 : ∀ j, j < i → A[j]? = cs[j]?) (h2 : A[i]? = some x) (h3 : ∀ j, i ≤ j → j < n → A[j + 1]? = cs[j]?) :
    A.toList.take (n + 1) = cs.take i ++ x :: cs.drop i := by
  subst hn
  apply List.ext_getElem?
  intro j
  rw [List.getElem?_take]
  have hl : (cs.take i).length = i := by rw [List.length_take]; omega
  by_cases hj : j < cs.length + 1
  · rw [if_pos hj]
    have e : A.toList[j]? = A[j]? := by simp
    rw [e]
    rcases Nat.lt_trichotomy j i with h | h | h
    · rw [List.getElem?_append_left (by omega), List.getElem?_take, if_pos h, h1 j h]
    · subst h
      rw [List.getElem?_append_right (by omega), hl, Nat.sub_self, h2]
      rfl
    · rw [List.getElem?_append_right (by omega), hl]
      obtain ⟨d, rfl⟩ : ∃ d, j = i + d + 1 := ⟨j - i - 1, by omega⟩
      rw [show i + d + 1 - i = d + 1 by omega, h3 (i + d) (by omega) (by omega), List.getElem?_cons_succ, List.getElem?_drop]
  · rw [if_neg hj, eq_comm, List.getElem?_eq_none_iff]
    simp
    omega
def insL (l : List Int) (i : Nat) (x : Int) : List Int := l.take i ++ x :: l.drop i
theorem insL_len (l : List Int) (i : Nat) (x : Int) : (insL l i x).length = l.length + 1 := by
  simp [insL]
  omega
theorem insL_map (l : List Int) (i : Nat) (x : Int) : (insL l i x).map iv = (l.map iv).take i ++ iv x :: (l.map iv).drop i := by
  simp [insL, List.map_take, List.map_drop]
theorem iv_one (l : List Int) : ∀ u ∈ l.map iv, u.oneCell' = true := by
  intro u hu
  obtain ⟨k, _, rfl⟩ := List.mem_map.1 hu
  rfl
theorem shape_at {w : World} {p : Nat} {cs : Array Value} {t : TypeId} (h : w.heap[p]? = some (.cells cs t (0, 0))) : w.shape? p = some (t, cs.size) := by
  simp [World.shape?, h]
theorem shape_new (w : World) (cs : Array Value) (t : TypeId) : (w.alloc (.cells cs t)).shape? w.heap.size = some (t, cs.size) := shape_at (heap_alloc_new w _)
theorem grow_own (w : World) (B m cap : Nat) (hB : B ≤ w.heap.size) (A : Array Value) (l : List Int) (W : World) (hW : W.heap[w.heap.size]? = some (.cells A 3 (0, 0))) (hm : l.length = m) (hs : A.size = cap) (hc : m ≤ cap) (hcm : cap ≤ maxLen) (ht : A.toList.take m = l.map iv) :
    W.ownsRow B 3 1 (.slice (some ⟨w.heap.size, 0, none⟩) m cap) l.length (l.map iv) := by
  subst hm
  exact ⟨by simp, .inr ⟨w.heap.size, cap, A, rfl, hB, hW, hc, hcm, by omega, by rw [Nat.mul_one]; exact ht⟩⟩
end Go.Proofs.Ytkoecdcbopkkbaa
