/- Texts of my own, laid together. -/
import Derived.Test.YtiinigifjdpicaaGreatDoorProg
import Derived.WalkKit
import Derived.WalkSpells
import Derived.WalkLawsBesides
import Derived.Deep.QuietTactic
import Derived.BigQuiet
import Derived.Lib.AppendStr
import Derived.Deep.RegionHeld3
import Derived.Deep.RegionLaw
import Derived.Deep.CutBlock
import Derived.StillTailTactics
import Derived.OwnWalk
import Derived.Deep.Slices
import Derived.ChangeSlices
namespace Go.Proofs.YtiinigifjdpicaaGreatDoor
open Go.RowKit
set_option linter.all false
theorem hideIt {p : Prop} (h : p) : Hid p := h
structure Out (F : Nat → Prop) (w w' : World) : Prop where
 os : w'.os = w.os
 tape : w'.tape = w.tape
 output : w'.output = w.output
 size : w.heap.size ≤ w'.heap.size
 block : ∀ k, k < w.heap.size → ¬ F k → w'.heap[k]? = w.heap[k]?
theorem Out.refl (F : Nat → Prop) (w : World) : Out F w w := ⟨rfl, rfl, rfl, Nat.le_refl _, fun _ _ _ => rfl⟩
theorem Out.trans {F G : Nat → Prop} {a b c : World} (h : Out F a b) (k : Out G b c) (hG : ∀ i, i < a.heap.size → G i → F i) : Out F a c :=
 ⟨k.os.trans h.os, k.tape.trans h.tape, k.output.trans h.output, Nat.le_trans h.size k.size, fun i hi hn => (k.block i (Nat.lt_of_lt_of_le hi h.size) (fun e => hn (hG i hi e))).trans (h.block i hi hn)⟩
theorem Out.mono {F G : Nat → Prop} {a b : World} (h : Out F a b) (hG : ∀ i, F i → G i) : Out G a b :=
 ⟨h.os, h.tape, h.output, h.size, fun i hi hn => h.block i hi (fun e => hn (hG i e))⟩
theorem Out.ofBelow {F : Nat → Prop} {w w' : World} (h : Below w.heap.size w w') : Out F w w' := ⟨h.os, h.tape, h.output, h.size, fun i hi _ => h.block i hi⟩
theorem Out.below {F : Nat → Prop} {w w' : World} (h : Out F w w') {B : Nat} (hB : B ≤ w.heap.size) (hF : ∀ k, F k → B ≤ k) : Below B w w' :=
 ⟨h.os, h.tape, h.output, h.size, fun i hi => h.block i (Nat.lt_of_lt_of_le hi hB) (fun e => by have := hF i e; omega)⟩
theorem Out.ofGrown {F : Nat → Prop} {w w' : World} {r : Option Nat} (h : w.grownBy w' r) (hF : ∀ k, r = some k → F k) : Out F w w' :=
 ⟨h.os, h.tape, h.output, h.size, fun i hi hn => h.block i hi (fun e => hn (hF i e.symm))⟩
theorem Out.ofSet {F : Nat → Prop} (w : World) (a : Addr) (v : Value) (hF : F a.block) : Out F w (w.setCell a v) :=
 ⟨rfl, rfl, rfl, by simp, fun i _ hn => RowKit.Below.heap_setCell _ _ _ _ (fun e => hn (e ▸ hF))⟩
theorem Out.ofAlloc {F : Nat → Prop} (w : World) (o : Obj) : Out F w (w.alloc o) := Out.ofBelow ((Below.refl _ w).alloc (Nat.le_refl _) o)
theorem Out.ofDrew {F : Nat → Prop} (w : World) : Out F w w.drew := Out.ofBelow (Below.refl _ w).drew
theorem cell_at {w : World} {p : Nat} {cs : Array Value} {t : TypeId} (h : w.heap[p]? = some (.cells cs t (0, 0))) (i : Nat) : w.cell? ⟨p, i, none⟩ = cs[i]? := by
 simp [World.cell?, h]
theorem free_at {w : World} {p : Nat} {cs : Array Value} {t : TypeId} (h : w.heap[p]? = some (.cells cs t (0, 0))) (i : Nat) : w.frozen? ⟨p, i, none⟩ = false := by
 simp [World.frozen?, h]
theorem heap_set {w : World} {p : Nat} {cs : Array Value} {t : TypeId} (h : w.heap[p]? = some (.cells cs t (0, 0))) (j : Nat) (v : Value) : (w.setCell ⟨p, j, none⟩ v).heap[p]? = some (.cells (cs.setIfInBounds j v) t (0, 0)) := by
 rw [setCell_eq_setRow _ p j cs t (0, 0) _ h];exact setRow_heap _ p cs _ t _ h
theorem heap_set_other (w : World) (p j k : Nat) (v : Value) (h : k ≠ p) : (w.setCell ⟨p, j, none⟩ v).heap[k]? = w.heap[k]? := RowKit.Below.heap_setCell _ _ _ _ (fun e => h e)
def wiB (x lo hi : Int) : Bool := decide (lo ≤ x ∧ x ≤ hi)
theorem below1 (w : World) (o : Obj) : Below w.heap.size w (w.alloc o) := (Below.refl _ w).alloc (Nat.le_refl _) o
theorem below2 (w : World) (o p : Obj) : Below w.heap.size w ((w.alloc o).alloc p) := (below1 w o).alloc (by simp) p
theorem own_len {w : World} {B : Nat} {e : TypeId} {z n : Nat} {v : Value} {xs : List Value} (h : w.ownsRow B e z v n xs) : ∃ a c, v = .slice a n c := by
 obtain ⟨_, ⟨rfl, rfl⟩ | ⟨g, cap, cur, rfl, _⟩⟩ := h
 ·exact ⟨_, _, rfl⟩
 ·exact ⟨_, _, rfl⟩
theorem own_keep {w w' : World} {B : Nat} {e : TypeId} {z n : Nat} {v : Value} {xs : List Value} (h : w.ownsRow B e z v n xs) (hb : Below w.heap.size w w') : w'.ownsRow B e z v n xs := by
 obtain ⟨h1, h2 | ⟨g, cap, cur, hv, hB, hg, r⟩⟩ := h
 ·exact ⟨h1, .inl h2⟩
 ·exact ⟨h1, .inr ⟨g, cap, cur, hv, hB, (hb.block g (Array.getElem?_eq_some_iff.1 hg).1).trans hg, r⟩⟩
theorem own_base {w : World} {B B' : Nat} {e : TypeId} {z n : Nat} {v : Value} {xs : List Value} (h : w.ownsRow B e z v n xs) (hb : B' ≤ B) : w.ownsRow B' e z v n xs := by
 obtain ⟨h1, h2 | ⟨g, cap, cur, hv, hB, r⟩⟩ := h
 ·exact ⟨h1, .inl h2⟩
 ·exact ⟨h1, .inr ⟨g, cap, cur, hv, by omega, r⟩⟩
theorem shape_at {w : World} {p : Nat} {cs : Array Value} {t : TypeId} (h : w.heap[p]? = some (.cells cs t (0, 0))) : w.shape? p = some (t, cs.size) := by
 simp [World.shape?, h]
theorem put4 (wc : World) (b : Nat) (ty : TypeId) (v0 v1 v2 v3 : Value) {z0 z1 z2 z3 : Value} (h : wc.heap[b]? = some (.cells #[z0, z1, z2, z3] ty (0, 0))) :
  ((((wc.setCell ⟨b, 0, none⟩ v0).setCell ⟨b, 1, none⟩ v1).setCell ⟨b, 2, none⟩ v2).setCell ⟨b, 3, none⟩ v3).heap[b]? = some (.cells #[v0, v1, v2, v3] ty (0, 0)) := by
 have h0 := heap_set h 0 v0;have h1 := heap_set h0 1 v1;have h2 := heap_set h1 2 v2;exact heap_set h2 3 v3
theorem setOther {w : World} {b k j : Nat} {o : Option Obj} (v : Value) (h : w.heap[k]? = o) (hk : k ≠ b) : (w.setCell ⟨b, j, none⟩ v).heap[k]? = o := (heap_set_other w b j k v hk).trans h
theorem belowSet {B b j : Nat} {w0 w : World} (v : Value) (h : Below B w0 w) (hb : B ≤ b) : Below B w0 (w.setCell ⟨b, j, none⟩ v) :=
 ⟨h.os, h.tape, h.output, by simpa using h.size, fun k hk => by rw [heap_set_other _ _ _ _ _ (by omega)]; exact h.block k hk⟩
theorem ownSet {B b j n : Nat} {e : TypeId} {z : Nat} {g : Value} {w : World} {xs : List Value} (v : Value) (h : w.ownsRow B e z g n xs) (hb : b < B) : (w.setCell ⟨b, j, none⟩ v).ownsRow B e z g n xs := by
 obtain ⟨h1, h2 | ⟨k, cap, cur, hv, hB, hg, r⟩⟩ := h
 ·exact ⟨h1, .inl h2⟩
 ·exact ⟨h1, .inr ⟨k, cap, cur, hv, hB, (heap_set_other _ _ _ _ _ (by omega)).trans hg, r⟩⟩
theorem two_heap (w : World) (o p : Obj) : ((w.alloc o).alloc p).heap[w.heap.size]? = some o ∧ ((w.alloc o).alloc p).heap[w.heap.size + 1]? = some p ∧ ((w.alloc o).alloc p).heap.size = w.heap.size + 2 := by
 refine ⟨?_, ?_, by simp⟩
 ·rw [heap_alloc_old _ _ (by simp)];exact heap_alloc_new w _
 ·have e : w.heap.size + 1 = (w.alloc o).heap.size := by simp
  rw [e];exact heap_alloc_new _ _
theorem below_out {W w w' : World} {F : Nat → Prop} (h : Below W.heap.size W w) (ho : Out F w w') (hF : ∀ k, F k → W.heap.size ≤ k) : Below W.heap.size W w' :=
 h.trans (ho.below h.size hF)
theorem own_out {F : Nat → Prop} {wa wb : World} {B : Nat} {e : TypeId} {z : Nat} {v : Value} {n : Nat} {xs : List Value} (h : wa.ownsRow B e z v n xs) (ho : Out F wa wb) (hF : ∀ k, F k → k < B) : wb.ownsRow B e z v n xs := by
 obtain ⟨h1, hn | ⟨g, cap, cur, hv, hb, hg, rest⟩⟩ := h
 ·exact ⟨h1, .inl hn⟩
 ·exact ⟨h1, .inr ⟨g, cap, cur, hv, hb, (ho.block g (Array.getElem?_eq_some_iff.1 hg).1 (fun hf => by have := hF g hf; omega)).trans hg, rest⟩⟩
theorem addN (b off j : Nat) : (⟨b, off, none⟩ : Addr).add j = ⟨b, off + j, none⟩ := by cases j <;> simp [Addr.add]
theorem grown_refl (w : World) (r : Option Nat) : w.grownBy w r := ⟨rfl, rfl, rfl, Nat.le_refl _, fun _ _ _ => rfl⟩
theorem below3 (w : World) (o p q : Obj) : Below w.heap.size w (((w.alloc o).alloc p).alloc q) := (below2 w o p).alloc (by simp; omega) q
theorem three_heap (w : World) (o p q : Obj) : (((w.alloc o).alloc p).alloc q).heap[w.heap.size]? = some o ∧ (((w.alloc o).alloc p).alloc q).heap[w.heap.size + 1]? = some p ∧ (((w.alloc o).alloc p).alloc q).heap[w.heap.size + 2]? = some q ∧ (((w.alloc o).alloc p).alloc q).heap.size = w.heap.size + 3 := by
 have ht := two_heap w o p;refine ⟨?_, ?_, ?_, by simp⟩
 ·rw [heap_alloc_old _ _ (by rw [ht.2.2]; omega)]
  exact ht.1
 ·rw [heap_alloc_old _ _ (by rw [ht.2.2]; omega)]
  exact ht.2.1
 ·have h := heap_alloc_new ((w.alloc o).alloc p) q
  rwa [ht.2.2] at h
theorem grown_none {w w' : World} (h : w.grownBy w' none) : Below w.heap.size w w' := (Out.ofGrown (F := fun _ => False) h (fun _ h => by cases h)).below (Nat.le_refl _) (fun _ h => h.elim)
theorem box_cell {w w1 : World} {cs : Array Value} {t : TypeId} (h : Below (w.alloc (.cells cs t)).heap.size (w.alloc (.cells cs t)) w1) (i : Nat) : w1.cell? ⟨w.heap.size, i, none⟩ = cs[i]? :=
 (h.cell (by simp)).trans (cell_at (heap_alloc_new w _) i)
theorem below_via {w w1 w2 : World} (h : Below w.heap.size w w1) (k : Below w1.heap.size w1 w2) : Below w.heap.size w w2 :=
 h.trans ⟨k.os, k.tape, k.output, k.size, fun i hi => k.block i (Nat.lt_of_lt_of_le hi h.size)⟩
def celC {α : Type} (enc : α → List Value) (l : List α) : List Value := (l.map enc).flatten
theorem celC_cons {α : Type} (enc : α → List Value) (x : α) (l : List α) : celC enc (x :: l) = enc x ++ celC enc l := by simp [celC]
theorem celC_app {α : Type} (enc : α → List Value) (l k : List α) : celC enc (l ++ k) = celC enc l ++ celC enc k := by simp [celC]
theorem celC_len {α : Type} {enc : α → List Value} {k : Nat} (hk : ∀ x, (enc x).length = k) (l : List α) : (celC enc l).length = l.length * k := by
 induction l with
 | nil => simp [celC]
 | cons e l ih => rw [celC_cons, List.length_append, ih, hk, List.length_cons, Nat.succ_mul, Nat.add_comm]
theorem celC_get {α : Type} {enc : α → List Value} {k : Nat} (hk : ∀ x, (enc x).length = k) : ∀ (l : List α) (i : Nat) (h : i < l.length) (j : Nat), j < k → (celC enc l)[i * k + j]? = (enc l[i])[j]?
 | [], i, h, j, hj => by simp at h
 | x :: l, 0, h, j, hj => by
  rw [celC_cons, Nat.zero_mul, Nat.zero_add, List.getElem?_append_left (by rw [hk]; exact hj)]
  rfl
 | x :: l, i + 1, h, j, hj => by
  have ih := celC_get hk l i (by simpa using h) j hj;have e : (i + 1) * k + j = k + (i * k + j) := by rw [Nat.add_mul, Nat.one_mul]; omega
  rw [celC_cons, List.getElem?_append_right (by rw [hk]; omega), hk, e, Nat.add_sub_cancel_left, ih]
  rfl
theorem celC_one {α : Type} {enc : α → List Value} (h1 : ∀ x, ∀ u ∈ enc x, u.oneCell' = true) (l : List α) : ∀ u ∈ celC enc l, u.oneCell' = true := by
 intro u hu;unfold celC at hu;rw [List.mem_flatten] at hu;obtain ⟨r, hr, hu⟩ := hu;obtain ⟨e, _, rfl⟩ := List.mem_map.1 hr;exact h1 e u hu
theorem celC_take {α : Type} {enc : α → List Value} {k : Nat} (hk : ∀ x, (enc x).length = k) : ∀ (l : List α) (n : Nat), (celC enc l).take (n * k) = celC enc (l.take n)
 | [], n => by simp [celC]
 | x :: l, 0 => by simp [celC]
 | x :: l, n + 1 => by
  rw [celC_cons, List.take_succ_cons, celC_cons, ← celC_take hk l n, List.take_append, hk, List.take_of_length_le (by rw [hk, Nat.add_mul]; omega)]
  congr 2
  rw [Nat.add_mul];omega
def SGot {α : Type} (k bytes : Nat) (enc : α → List Value) (w : World) (v : Value) (l : List α) : Prop :=
 l.length * bytes ≤ 140737488355328 ∧ ∃ a c, v = .slice a l.length c ∧ (l.length ≤ c ∧ c ≤ maxLen) ∧ (0 < l.length → ∃ b off, a = some ⟨b, off, none⟩ ∧ b < w.heap.size ∧ ∀ j, j < l.length * k → w.cell? ⟨b, off + j, none⟩ = (celC enc l)[j]?)
theorem SGot.nil {α : Type} (k bytes : Nat) (enc : α → List Value) (w : World) (a : Option Addr) (c : Nat) (hc : c ≤ maxLen) : SGot k bytes enc w (.slice a 0 c) [] := ⟨by simp, a, c, rfl, ⟨Nat.zero_le _, hc⟩, fun h => absurd h (by simp)⟩
theorem SGot.keep {α : Type} {k bytes : Nat} {enc : α → List Value} {w w' : World} {v : Value} {l : List α} (h : SGot k bytes enc w v l) (hb : Below w.heap.size w w') : SGot k bytes enc w' v l := by
 obtain ⟨h8, a, c, rfl, hcc, hr⟩ := h;refine ⟨h8, a, c, rfl, hcc, fun hp => ?_⟩;obtain ⟨b, off, rfl, hlt, hc⟩ := hr hp
 exact ⟨b, off, rfl, Nat.lt_of_lt_of_le hlt hb.size, fun j hj => (hb.cell hlt).trans (hc j hj)⟩
theorem SGot.blk {α : Type} {k bytes : Nat} {enc : α → List Value} {w : World} {a : Option Addr} {n c : Nat} {l : List α} (h : SGot k bytes enc w (.slice a n c) l) : 0 < l.length → ∀ b off, a = some ⟨b, off, none⟩ → b < w.heap.size := by
 intro hp b off e;obtain ⟨_, a', c', e', _, hr⟩ := h;simp only [Value.slice.injEq] at e';obtain ⟨b', off', e2, hlt, _⟩ := hr hp;rw [e'.1, e2] at e;simp only [Option.some.injEq, Addr.mk.injEq] at e;rw [← e.1];exact hlt
theorem SGot.slice {α : Type} {k bytes : Nat} {enc : α → List Value} {w : World} {v : Value} {l : List α} (h : SGot k bytes enc w v l) : ∃ a c, v = .slice a l.length c := by
 obtain ⟨_, a, c, e, _⟩ := h
 exact ⟨a, c, e⟩
theorem SGot.cap {α : Type} {k bytes : Nat} {enc : α → List Value} {w : World} {a : Option Addr} {c : Nat} {l : List α} (h : SGot k bytes enc w (.slice a l.length c) l) : l.length ≤ c ∧ c ≤ maxLen := by
 obtain ⟨_, a', c', e, hcc, _⟩ := h;simp only [Value.slice.injEq] at e;rw [e.2.2];exact hcc
theorem SGot.turn {α : Type} {k bytes : Nat} {enc : α → List Value} {F : Nat → Prop} {w w' : World} {v : Value} {l : List α} (h : SGot k bytes enc w v l) (ho : Out F w w') (hF : 0 < l.length → ∀ b off n c, v = .slice (some ⟨b, off, none⟩) n c → ¬ F b) : SGot k bytes enc w' v l := by
 obtain ⟨h8, a, c, rfl, hcc, hr⟩ := h;refine ⟨h8, a, c, rfl, hcc, fun hp => ?_⟩;obtain ⟨b, off, rfl, hlt, hc⟩ := hr hp;refine ⟨b, off, rfl, Nat.lt_of_lt_of_le hlt ho.size, fun j hj => ?_⟩;rw [← hc j hj];have := ho.block b hlt (hF hp b off _ _ rfl)
 simp [World.cell?, this]
theorem own_sgot {α : Type} {k bytes : Nat} {enc : α → List Value} {w : World} {B : Nat} {e : TypeId} {v : Value} {l : List α} (h : w.ownsRow B e k v l.length (celC enc l)) (h8 : l.length * bytes ≤ 140737488355328) : SGot k bytes enc w v l := by
 obtain ⟨_, ⟨rfl, h0⟩ | ⟨g, cap, cur, rfl, hB, hg, hn, hc, hs, ht⟩⟩ := h
 ·rw [List.length_eq_zero_iff] at h0;subst h0;exact SGot.nil _ _ _ _ _ _ (Nat.zero_le _)
 ·refine ⟨h8, _, cap, rfl, ⟨hn, hc⟩, fun _ => ⟨g, 0, rfl, (Array.getElem?_eq_some_iff.1 hg).1, fun j hj => ?_⟩⟩;rw [cell_at hg, Nat.zero_add, ← ht, List.getElem?_take, if_pos (by omega)]
  simp
theorem own_nil {k : Nat} {e : TypeId} (w : World) (B : Nat) : w.ownsRow B e k (.slice none 0 0) 0 [] := World.ownsRow_nil w B e k
structure OrdV where
 id : Int
 acc : Int
 price : Int
 left : Int
structure OweV where
 acc : Int
 asset : Int
 n : Int
structure FillV where
 buyer : Int
 seller : Int
 price : Int
 n : Int
def ordE (o : OrdV) : List Value := [.int .i64 o.id, .int .i64 o.acc, .int .i64 o.price, .int .i64 o.left]
def oweE (o : OweV) : List Value := [.int .i64 o.acc, .int .i64 o.asset, .int .i64 o.n]
def filE (o : FillV) : List Value := [.int .i64 o.buyer, .int .i64 o.seller, .int .i64 o.price, .int .i64 o.n]
theorem ordK (o : OrdV) : (ordE o).length = 4 := rfl
theorem oweK (o : OweV) : (oweE o).length = 3 := rfl
theorem filK (o : FillV) : (filE o).length = 4 := rfl
theorem ord1 (o : OrdV) : ∀ u ∈ ordE o, u.oneCell' = true := by
 intro u hu;simp only [ordE, List.mem_cons, List.not_mem_nil, or_false] at hu
 rcases hu with rfl | rfl | rfl | rfl <;> rfl
theorem owe1 (o : OweV) : ∀ u ∈ oweE o, u.oneCell' = true := by
 intro u hu;simp only [oweE, List.mem_cons, List.not_mem_nil, or_false] at hu
 rcases hu with rfl | rfl | rfl <;> rfl
theorem fil1 (o : FillV) : ∀ u ∈ filE o, u.oneCell' = true := by
 intro u hu;simp only [filE, List.mem_cons, List.not_mem_nil, or_false] at hu
 rcases hu with rfl | rfl | rfl | rfl <;> rfl
abbrev Ords (w : World) (v : Value) (l : List OrdV) : Prop := SGot 4 32 ordE w v l
abbrev Owes (w : World) (v : Value) (l : List OweV) : Prop := SGot 3 24 oweE w v l
abbrev Fils (w : World) (v : Value) (l : List FillV) : Prop := SGot 4 32 filE w v l
theorem SGot.ords {w : World} {v : Value} {l : List OrdV} (h : Ords w v l) : ∃ a c, v = .slice a l.length c ∧ l.length * 32 ≤ 140737488355328 ∧ ∀ i (h : i < l.length), ∃ b off, a = some ⟨b, off, none⟩ ∧ b < w.heap.size ∧ w.cell? ⟨b, off + i * 4, none⟩ = some (.int .i64 (l[i]).id) ∧ w.cell? ⟨b, off + i * 4 + 1, none⟩ = some (.int .i64 (l[i]).acc) ∧ w.cell? ⟨b, off + i * 4 + 2, none⟩ = some (.int .i64 (l[i]).price) ∧ w.cell? ⟨b, off + i * 4 + 3, none⟩ = some (.int .i64 (l[i]).left) := by
 obtain ⟨h8, a, c, rfl, _, hr⟩ := h;refine ⟨a, c, rfl, h8, fun i hi => ?_⟩;obtain ⟨b, off, rfl, hlt, hc⟩ := hr (by omega);have g := celC_get ordK l i hi
 exact ⟨b, off, rfl, hlt, (hc (i * 4) (by omega)).trans (g 0 (by omega)), (hc (i * 4 + 1) (by omega)).trans (g 1 (by omega)), (hc (i * 4 + 2) (by omega)).trans (g 2 (by omega)), (hc (i * 4 + 3) (by omega)).trans (g 3 (by omega))⟩
theorem SGot.owes {w : World} {v : Value} {l : List OweV} (h : Owes w v l) : ∃ a c, v = .slice a l.length c ∧ l.length * 24 ≤ 140737488355328 ∧ ∀ i (h : i < l.length), ∃ b off, a = some ⟨b, off, none⟩ ∧ b < w.heap.size ∧ w.cell? ⟨b, off + i * 3, none⟩ = some (.int .i64 (l[i]).acc) ∧ w.cell? ⟨b, off + i * 3 + 1, none⟩ = some (.int .i64 (l[i]).asset) ∧ w.cell? ⟨b, off + i * 3 + 2, none⟩ = some (.int .i64 (l[i]).n) := by
 obtain ⟨h8, a, c, rfl, _, hr⟩ := h;refine ⟨a, c, rfl, h8, fun i hi => ?_⟩;obtain ⟨b, off, rfl, hlt, hc⟩ := hr (by omega);have g := celC_get oweK l i hi
 exact ⟨b, off, rfl, hlt, (hc (i * 3) (by omega)).trans (g 0 (by omega)), (hc (i * 3 + 1) (by omega)).trans (g 1 (by omega)), (hc (i * 3 + 2) (by omega)).trans (g 2 (by omega))⟩
theorem SGot.fils {w : World} {v : Value} {l : List FillV} (h : Fils w v l) : ∃ a c, v = .slice a l.length c ∧ l.length * 32 ≤ 140737488355328 ∧ ∀ i (h : i < l.length), ∃ b off, a = some ⟨b, off, none⟩ ∧ b < w.heap.size ∧ w.cell? ⟨b, off + i * 4, none⟩ = some (.int .i64 (l[i]).buyer) ∧ w.cell? ⟨b, off + i * 4 + 1, none⟩ = some (.int .i64 (l[i]).seller) ∧ w.cell? ⟨b, off + i * 4 + 2, none⟩ = some (.int .i64 (l[i]).price) ∧ w.cell? ⟨b, off + i * 4 + 3, none⟩ = some (.int .i64 (l[i]).n) := by
 obtain ⟨h8, a, c, rfl, _, hr⟩ := h;refine ⟨a, c, rfl, h8, fun i hi => ?_⟩;obtain ⟨b, off, rfl, hlt, hc⟩ := hr (by omega);have g := celC_get filK l i hi
 exact ⟨b, off, rfl, hlt, (hc (i * 4) (by omega)).trans (g 0 (by omega)), (hc (i * 4 + 1) (by omega)).trans (g 1 (by omega)), (hc (i * 4 + 2) (by omega)).trans (g 2 (by omega)), (hc (i * 4 + 3) (by omega)).trans (g 3 (by omega))⟩
structure LaneV where
 call : Bool
 next : Int
 bids : List OrdV
 asks : List OrdV
 owed : List OweV
def laneA (L : LaneV) (b a o : Value) : Array Value := #[.bool L.call, .int .i64 L.next, b, a, o]
def laneV (L : LaneV) (b a o : Value) : Value := .agg (laneA L b a o)
structure Lan (w : World) (L : LaneV) (b a o : Value) : Prop where
 bids : Ords w b L.bids
 asks : Ords w a L.asks
 owed : Owes w o L.owed
theorem Lan.keep {w w' : World} {L : LaneV} {b a o : Value} (h : Lan w L b a o) (hb : Below w.heap.size w w') : Lan w' L b a o := ⟨h.bids.keep hb, h.asks.keep hb, h.owed.keep hb⟩
set_option maxHeartbeats 1000000 in
theorem within_is (x lo hi : Int) (w : World) : Calls Tryz.prog 65 #[.int .i64 x, .int .i64 lo, .int .i64 hi] w fun e w' => e = .returned (.bool (wiB x lo hi)) ∧ w' = w := by
 unfold wiB
 by_cases h : lo ≤ x
 ·go_enter Tryz.func65, Tryz.ntmps65
  go_wp2;go_ret
  exact ⟨by simp [h], rfl⟩
 ·go_enter Tryz.func65, Tryz.ntmps65
  go_wp2;go_ret
  exact ⟨by rw [decide_eq_false (by omega)]; rfl, rfl⟩
set_option maxHeartbeats 1000000 in
theorem isAccount_is (x : Int) (w : World) : Calls Tryz.prog 87 #[.int .i64 x] w fun e w' => e = .returned (.bool (wiB x 1 8)) ∧ w' = w := by
 have N1 := hideIt (fun W => within_is x 1 8 W)
 go_enter Tryz.func87, Tryz.ntmps87
 go_wp2_with fail
 refine (N1.out _).mono ?_;rintro e w1 ⟨rfl, rfl⟩;dsimp only;go_wp2;go_ret
 exact ⟨rfl, rfl⟩
set_option maxHeartbeats 1000000 in
theorem isPrice_is (x : Int) (w : World) : Calls Tryz.prog 88 #[.int .i64 x] w fun e w' => e = .returned (.bool (wiB x 1 1000000)) ∧ w' = w := by
 have N1 := hideIt (fun W => within_is x 1 1000000 W)
 go_enter Tryz.func88, Tryz.ntmps88
 go_wp2_with fail
 refine (N1.out _).mono ?_;rintro e w1 ⟨rfl, rfl⟩;dsimp only;go_wp2;go_ret
 exact ⟨rfl, rfl⟩
set_option maxHeartbeats 1000000 in
theorem isSize_is (x : Int) (w : World) : Calls Tryz.prog 89 #[.int .i64 x] w fun e w' => e = .returned (.bool (wiB x 1 1000000)) ∧ w' = w := by
 have N1 := hideIt (fun W => within_is x 1 1000000 W)
 go_enter Tryz.func89, Tryz.ntmps89
 go_wp2_with fail
 refine (N1.out _).mono ?_;rintro e w1 ⟨rfl, rfl⟩;dsimp only;go_wp2;go_ret
 exact ⟨rfl, rfl⟩
def sideOff (s : Int) : Nat := if s = 1 then 2 else 3
set_option maxHeartbeats 1000000 in
theorem sideOf_is (b : Nat) (s : Int) (w : World) : Calls Tryz.prog 59 #[.pointer (some ⟨b, 0, none⟩), .int .i64 s] w fun e w' => e = .returned (.pointer (some ⟨b, sideOff s, none⟩)) ∧ w' = w := by
 unfold sideOff
 by_cases h : s = 1
 ·subst h
  go_enter Tryz.func59, Tryz.ntmps59
  go_wp2;go_ret
  exact ⟨rfl, rfl⟩
 ·rw [if_neg h]
  go_enter Tryz.func59, Tryz.ntmps59
  go_wp2;go_ret
  exact ⟨rfl, rfl⟩
set_option maxHeartbeats 1000000 in
theorem bothSides_is (w : World) : Calls Tryz.prog 58 #[] w fun e w' => e = .returned (.agg #[.int .i64 1, .int .i64 2]) ∧ Below w.heap.size w w' := by
 have HB := hideIt (below1 w (.cells #[.int .i64 1, .int .i64 2] 110));have H2 := hideIt (heap_alloc_new w (.cells #[.int .i64 1, .int .i64 2] 110))
 go_enter Tryz.func58, Tryz.ntmps58
 go_wp2;exact bodyPost_ret (v := .agg #[.int .i64 1, .int .i64 2]) (by simp [results, Tryz.results58, go_sem, cell_at H2.out]) rfl ⟨rfl, HB.out⟩
set_option maxHeartbeats 1000000 in
theorem otherSide_is (s : Int) (w : World) : Calls Tryz.prog 138 #[.int .i64 s] w fun e w' => e = .returned (.int .i64 (if s = 1 then 2 else 1)) ∧ w' = w := by
 by_cases h : s = 1
 ·subst h
  go_enter Tryz.func138, Tryz.ntmps138
  go_wp2;go_ret
  exact ⟨rfl, rfl⟩
 ·rw [if_neg h]
  go_enter Tryz.func138, Tryz.ntmps138
  go_wp2;go_ret
  exact ⟨rfl, rfl⟩
def ahB (s : Int) (a b : OrdV) : Bool := if a.price = b.price then decide (a.id < b.id) else (decide (b.price < a.price) == decide (s = 1))
set_option maxHeartbeats 1000000 in
theorem served_is (s : Int) (w : World) : Calls Tryz.prog 92 #[.int .i64 s] w fun e w' => e = .returned (.func (.func 128) #[] #[.pointer (some ⟨w.heap.size, 0, none⟩)]) ∧ w' = w.alloc (.cells #[.int .i64 s] 3) := by
 go_enter Tryz.func92, Tryz.ntmps92
 go_wp2;go_ret
 exact ⟨rfl, rfl⟩
set_option maxHeartbeats 2000000 in
theorem served1_is (s : Int) (B : Nat) (a b : OrdV) (w : World) (hB : B < w.heap.size) (hc : w.cell? ⟨B, 0, none⟩ = some (.int .i64 s)) : Calls Tryz.prog 128 #[.agg (ordE a).toArray, .agg (ordE b).toArray, .pointer (some ⟨B, 0, none⟩)] w fun e w' => e = .returned (.bool (ahB s a b)) ∧ Below w.heap.size w w' := by
 have HB := hideIt (below2 w (.cells (ordE a).toArray 115) (.cells (ordE b).toArray 115));have hne : B ≠ w.heap.size := by omega
 have hne2 : B ≠ w.heap.size + 1 := by omega
 unfold ahB ordE at *;obtain ⟨i, ac, p, l⟩ := a;obtain ⟨j, bc, q, k⟩ := b;simp only at HB ⊢
 show Calls Tryz.prog 128 #[.agg #[.int .i64 i, .int .i64 ac, .int .i64 p, .int .i64 l], .agg #[.int .i64 j, .int .i64 bc, .int .i64 q, .int .i64 k], .pointer (some ⟨B, 0, none⟩)] w _
 by_cases h : p = q
 ·rw [if_pos h];subst h
  go_enter Tryz.func128, Tryz.ntmps128
  go_wp2;go_ret
  exact ⟨rfl, HB.out⟩
 ·rw [if_neg h]
  go_enter Tryz.func128, Tryz.ntmps128
  go_wp2;go_ret
  exact ⟨rfl, HB.out⟩
def owB (a b : OweV) : Bool := decide (a.acc < b.acc) || (decide (a.acc = b.acc) && decide (a.asset < b.asset))
set_option maxHeartbeats 2000000 in
theorem owedAhead_is (a b : OweV) (w : World) : Calls Tryz.prog 99 #[.agg (oweE a).toArray, .agg (oweE b).toArray] w fun e w' => e = .returned (.bool (owB a b)) ∧ Below w.heap.size w w' := by
 have HB := hideIt (below2 w (.cells (oweE a).toArray 61) (.cells (oweE b).toArray 61));unfold owB oweE at *;obtain ⟨ac, s, n⟩ := a;obtain ⟨bc, t, m⟩ := b;simp only at HB ⊢
 show Calls Tryz.prog 99 #[.agg #[.int .i64 ac, .int .i64 s, .int .i64 n], .agg #[.int .i64 bc, .int .i64 t, .int .i64 m]] w _
 by_cases h : ac < bc
 ·go_enter Tryz.func99, Tryz.ntmps99
  go_wp2;go_ret
  exact ⟨by simp [h], HB.out⟩
 ·by_cases h2 : ac = bc
  ·subst h2
   go_enter Tryz.func99, Tryz.ntmps99
   go_wp2;go_ret
   exact ⟨by simp, HB.out⟩
  ·go_enter Tryz.func99, Tryz.ntmps99
   go_wp2;go_ret
   exact ⟨by simp [h, h2], HB.out⟩
def brA (s : Int) : Int := if s = 1 then 0 else 1
def brN (s : Int) (o : OrdV) : Int := if s = 1 then o.price * o.left else o.left
set_option maxHeartbeats 2000000 in
theorem brings_is (s : Int) (o : OrdV) (w : World) (h : -9223372036854775808 ≤ o.price * o.left ∧ o.price * o.left ≤ 9223372036854775807) : Calls Tryz.prog 60 #[.int .i64 s, .agg (ordE o).toArray] w fun e w' => e = .returned (.tuple #[.int .i64 (brA s), .int .i64 (brN s o)]) ∧ Below w.heap.size w w' := by
 have HB := hideIt (below1 w (.cells (ordE o).toArray 115));unfold brA brN ordE at *;obtain ⟨i, ac, p, l⟩ := o;simp only at HB h ⊢
 show Calls Tryz.prog 60 #[.int .i64 s, .agg #[.int .i64 i, .int .i64 ac, .int .i64 p, .int .i64 l]] w _
 have hw : IntKind.i64.wrap (p * l) = p * l := by rw [IntKind.wrap_i64]; omega
 clear h
 by_cases h : s = 1
 ·subst h
  go_enter Tryz.func60, Tryz.ntmps60
  go_wp2_with fail
  go_region
  go_wp2;exact bodyPost_ret (v := .tuple #[.int .i64 0, .int .i64 (p * l)]) (by simp [results, Tryz.results60, go_sem]) rfl ⟨rfl, HB.out.drew⟩
 ·rw [if_neg h, if_neg h]
  go_enter Tryz.func60, Tryz.ntmps60
  go_wp2_with fail
  go_region
  go_wp2;exact bodyPost_ret (v := .tuple #[.int .i64 1, .int .i64 l]) (by simp [results, Tryz.results60, go_sem]) rfl ⟨rfl, HB.out.drew⟩
def strB (nx : Int) (o : OrdV) : Bool := !(wiB o.acc 1 8) || !(wiB o.price 1 1000000) || !(wiB o.left 1 1000000) || !(wiB o.id 1 (nx - 1))
set_option maxHeartbeats 4000000 in
theorem strange_is (nx : Int) (hn : 1 ≤ nx ∧ nx ≤ 1000001) (B : Nat) (o : OrdV) (w : World) (hB : B < w.heap.size) (hc : w.cell? ⟨B, 1, none⟩ = some (.int .i64 nx)) : Calls Tryz.prog 86 #[.agg (ordE o).toArray, .pointer (some ⟨B, 0, none⟩)] w fun e w' => e = .returned (.bool (strB nx o)) ∧ Below w.heap.size w w' := by
 have HB := hideIt (below1 w (.cells (ordE o).toArray 115));have hne : B ≠ w.heap.size := by omega
 unfold strB ordE at *;obtain ⟨i, ac, p, l⟩ := o;simp only at HB ⊢
 show Calls Tryz.prog 86 #[.agg #[.int .i64 i, .int .i64 ac, .int .i64 p, .int .i64 l], .pointer (some ⟨B, 0, none⟩)] w _
 have hw : IntKind.i64.wrap (nx - 1) = nx - 1 := by rw [IntKind.wrap_i64]; omega
 have N1 := hideIt (fun W => isAccount_is ac W);have N2 := hideIt (fun W => isPrice_is p W);have N3 := hideIt (fun W => isSize_is l W);have N4 := hideIt (fun W => within_is i 1 (nx - 1) W);clear hn;cases h1 : wiB ac 1 8
 ·rw [h1] at N1
  go_enter Tryz.func86, Tryz.ntmps86
  go_wp2_with fail
  refine (N1.out _).mono ?_;rintro e w1 ⟨rfl, rfl⟩;dsimp only;go_wp2;go_ret
  exact ⟨rfl, HB.out⟩
 ·rw [h1] at N1;cases h2 : wiB p 1 1000000
  ·rw [h2] at N2
   go_enter Tryz.func86, Tryz.ntmps86
   go_wp2_with fail
   refine (N1.out _).mono ?_;rintro e w1 ⟨rfl, rfl⟩;dsimp only
   go_wp2_with fail
   refine (N2.out _).mono ?_;rintro e w1 ⟨rfl, rfl⟩;dsimp only;go_wp2;go_ret
   exact ⟨rfl, HB.out⟩
  ·rw [h2] at N2;cases h3 : wiB l 1 1000000
   ·rw [h3] at N3
    go_enter Tryz.func86, Tryz.ntmps86
    go_wp2_with fail
    refine (N1.out _).mono ?_;rintro e w1 ⟨rfl, rfl⟩;dsimp only
    go_wp2_with fail
    refine (N2.out _).mono ?_;rintro e w1 ⟨rfl, rfl⟩;dsimp only
    go_wp2_with fail
    refine (N3.out _).mono ?_;rintro e w1 ⟨rfl, rfl⟩;dsimp only;go_wp2;go_ret
    exact ⟨rfl, HB.out⟩
   ·rw [h3] at N3
    go_enter Tryz.func86, Tryz.ntmps86
    go_wp2_with fail
    refine (N1.out _).mono ?_;rintro e w1 ⟨rfl, rfl⟩;dsimp only
    go_wp2_with fail
    refine (N2.out _).mono ?_;rintro e w1 ⟨rfl, rfl⟩;dsimp only
    go_wp2_with fail
    refine (N3.out _).mono ?_;rintro e w1 ⟨rfl, rfl⟩;dsimp only
    go_wp2_with fail
    refine (N4.out _).mono ?_;rintro e w1 ⟨rfl, rfl⟩;dsimp only;go_wp2;go_ret
    exact ⟨by simp, HB.out⟩
def stoB (o : OweV) : Bool := !(wiB o.acc 1 8) || !(wiB o.asset 0 1) || !(wiB o.n 1 9007199254740992)
set_option maxHeartbeats 4000000 in
theorem strangeO_is (o : OweV) (w : World) : Calls Tryz.prog 96 #[.agg (oweE o).toArray] w fun e w' => e = .returned (.bool (stoB o)) ∧ Below w.heap.size w w' := by
 have HB := hideIt (below1 w (.cells (oweE o).toArray 61));unfold stoB oweE at *;obtain ⟨ac, s, n⟩ := o;simp only at HB ⊢
 show Calls Tryz.prog 96 #[.agg #[.int .i64 ac, .int .i64 s, .int .i64 n]] w _
 have N1 := hideIt (fun W => isAccount_is ac W);have N2 := hideIt (fun W => within_is s 0 1 W);have N3 := hideIt (fun W => within_is n 1 9007199254740992 W);cases h1 : wiB ac 1 8
 ·rw [h1] at N1
  go_enter Tryz.func96, Tryz.ntmps96
  go_wp2_with fail
  refine (N1.out _).mono ?_;rintro e w1 ⟨rfl, rfl⟩;dsimp only;go_wp2;go_ret
  exact ⟨rfl, HB.out⟩
 ·rw [h1] at N1;cases h2 : wiB s 0 1
  ·rw [h2] at N2
   go_enter Tryz.func96, Tryz.ntmps96
   go_wp2_with fail
   refine (N1.out _).mono ?_;rintro e w1 ⟨rfl, rfl⟩;dsimp only
   go_wp2_with fail
   refine (N2.out _).mono ?_;rintro e w1 ⟨rfl, rfl⟩;dsimp only;go_wp2;go_ret
   exact ⟨rfl, HB.out⟩
  ·rw [h2] at N2
   go_enter Tryz.func96, Tryz.ntmps96
   go_wp2_with fail
   refine (N1.out _).mono ?_;rintro e w1 ⟨rfl, rfl⟩;dsimp only
   go_wp2_with fail
   refine (N2.out _).mono ?_;rintro e w1 ⟨rfl, rfl⟩;dsimp only
   go_wp2_with fail
   refine (N3.out _).mono ?_;rintro e w1 ⟨rfl, rfl⟩;dsimp only;go_wp2;go_ret
   exact ⟨by simp, HB.out⟩
set_option maxHeartbeats 1000000 in
theorem less_is (a b : Int) (w : World) : Calls Tryz.prog 95 #[.int .i64 a, .int .i64 b] w fun e w' => e = .returned (.bool (decide (a < b))) ∧ w' = w := by
 go_enter Tryz.func95, Tryz.ntmps95
 go_wp2;go_ret
 exact ⟨rfl, rfl⟩
def meetB (s p q : Int) : Bool := if s = 1 then decide (q ≤ p) else decide (p ≤ q)
set_option maxHeartbeats 1000000 in
theorem meeting_is (s p : Int) (w : World) : Calls Tryz.prog 139 #[.int .i64 s, .int .i64 p] w fun e w' => e = .returned (.func (.func (if s = 1 then 170 else 171)) #[] #[.pointer (some ⟨w.heap.size, 0, none⟩)]) ∧ w' = w.alloc (.cells #[.int .i64 p] 3) := by
 by_cases h : s = 1
 ·subst h
  go_enter Tryz.func139, Tryz.ntmps139
  go_wp2;go_ret
  exact ⟨rfl, rfl⟩
 ·rw [if_neg h]
  go_enter Tryz.func139, Tryz.ntmps139
  go_wp2;go_ret
  exact ⟨rfl, rfl⟩
set_option maxHeartbeats 1000000 in
theorem meets_is (s p q : Int) (B : Nat) (w : World) (hc : w.cell? ⟨B, 0, none⟩ = some (.int .i64 p)) : Calls Tryz.prog (if s = 1 then 170 else 171) #[.int .i64 q, .pointer (some ⟨B, 0, none⟩)] w fun e w' => e = .returned (.bool (meetB s p q)) ∧ w' = w := by
 unfold meetB
 by_cases h : s = 1
 ·rw [if_pos h, if_pos h]
  go_enter Tryz.func170, Tryz.ntmps170
  go_wp2;go_ret
  exact ⟨rfl, rfl⟩
 ·rw [if_neg h, if_neg h]
  go_enter Tryz.func171, Tryz.ntmps171
  go_wp2;go_ret
  exact ⟨rfl, rfl⟩
def PredB {α : Type} (g : Nat) (lb : Array Value) (enc : α → List Value) (p : α → Bool) (w : World) : Prop :=
 ∀ (W : World) (x : α), Below w.heap.size w W → Calls Tryz.prog g (#[.agg (enc x).toArray] ++ lb) W fun e w' => e = .returned (.bool (p x)) ∧ Below w.heap.size w w'
def CmpB {α : Type} (g : Nat) (lb : Array Value) (enc : α → Value) (r : α → α → Bool) (w : World) : Prop :=
 ∀ (W : World) (x y : α), Below w.heap.size w W → Calls Tryz.prog g (#[enc x, enc y] ++ lb) W fun e w' => e = .returned (.bool (r x y)) ∧ Below w.heap.size w w'
def idxI {α : Type} (p : α → Bool) (l : List α) : Int := match l.findIdx? p with | some i => (i : Int) | none => -1
theorem fi_hit {α : Type} {p : α → Bool} {l : List α} {t : Nat} (h : t < l.length) (hp : p l[t] = true) : (l.drop t).findIdx? p = some 0 := by
 rw [List.drop_eq_getElem_cons h, List.findIdx?_cons, if_pos hp]
theorem fi_miss {α : Type} {p : α → Bool} {l : List α} {t : Nat} (h : t < l.length) (hp : p l[t] = false) : (l.drop t).findIdx? p = ((l.drop (t + 1)).findIdx? p).map (· + 1) := by
 rw [List.drop_eq_getElem_cons h, List.findIdx?_cons, if_neg (by simp [hp])]
theorem idx_any {α : Type} (p : α → Bool) (l : List α) : decide (0 ≤ idxI p l) = l.any p := by
 unfold idxI;cases h : l.findIdx? p with
 | none =>
  have : l.any p = false := by
   rw [List.findIdx?_eq_none_iff] at h
   simpa using h
  simp [this]
 | some i =>
  have : l.any p = true := by
   rw [List.findIdx?_eq_some_iff_getElem] at h;obtain ⟨h1, h2, _⟩ := h;simp only [List.any_eq_true]
   exact ⟨_, List.getElem_mem h1, h2⟩
  simp [this]
set_option maxHeartbeats 4000000 in
set_option maxRecDepth 100000 in
theorem indexO_is (g : Nat) (lb : Array Value) (eg : ∀ args w, (callFunc g args).run Tryz.prog w = .ok (.enter g args) w) (v : Value) (l : List OrdV) (p : OrdV → Bool) (w : World) (h : Ords w v l) (hp : PredB g lb ordE p w) :
  Calls Tryz.prog 127 #[v, .func (.func g) #[] lb] w fun e w' => e = .returned (.int .i64 (idxI p l)) ∧ Below w.heap.size w w' := by
 obtain ⟨a, c, rfl, h8, hr⟩ := h.ords;have HH := hideIt hr;have HP := hideIt hp;clear hr h hp
 go_enter Tryz.func127, Tryz.ntmps127
 go_wp2
 go_loopw [5, 8] (fun _ v wr => ∃ t : Nat, v = .int .i64 t ∧ t ≤ l.length ∧ Hid (l.findIdx? p = ((l.drop t).findIdx? p).map (· + t) ∧ Below w.heap.size w wr)) (fun _ v _ => l.length - (intOf v).toNat)
 case atStart => exact ⟨0, rfl, Nat.zero_le _, hideIt ⟨by simp, Below.refl _ _⟩⟩
 case round =>
  obtain ⟨t, rfl, ht, HR⟩ := hrel
  by_cases hlt : t < l.length
  ·have hltI : (t : Int) < (l.length : Int) := by omega
   have ht0 : (0 : Int) ≤ (t : Int) := by omega
   have hw : IntKind.i64.wrap ((t : Int) + 1) = (t : Int) + 1 := by rw [IntKind.wrap_i64]; omega
   obtain ⟨b, off, rfl, hbl, q0, q1, q2, q3⟩ := HH.out t hlt;have hB := HR.out.2;have hBS := hB.size;have hblr : b < wr.heap.size := by omega
   have c0 := ((HR.out.2).cell (p := ⟨b, off + t * 4, none⟩) hbl).trans q0;have c1 := ((HR.out.2).cell (p := ⟨b, off + t * 4 + 1, none⟩) hbl).trans q1;have c2 := ((HR.out.2).cell (p := ⟨b, off + t * 4 + 2, none⟩) hbl).trans q2;have c3 := ((HR.out.2).cell (p := ⟨b, off + t * 4 + 3, none⟩) hbl).trans q3;clear q0 q1 q2 q3;have HC := hideIt (HP.out wr l[t] hB);clear HH HP hB hBS hbl;cases hq : p l[t]
   ·rw [hq] at HC;have HF : Hid (l.findIdx? p = ((l.drop (t + 1)).findIdx? p).map (· + (t + 1))) := by
     show _ = _
     rw [HR.out.1, fi_miss hlt hq, Option.map_map]
     congr 1
     funext x
     simp only [Function.comp];omega
    clear HR hq;generalize l[t] = en at *;obtain ⟨i1, a1, p1, l1⟩ := en;unfold ordE at HC
    (try dsimp only at c0 c1 c2 HC)
    (try dsimp only at c3)
    go_wp2_with fail
    refine HC.out.mono ?_;rintro e w' ⟨rfl, hb'⟩;dsimp only;go_wp2
    go_roundw
    case rel => exact ⟨t + 1, by go_num, by omega, hideIt ⟨HF.out, hb'⟩⟩
    case measure => simp [intOf]; omega
   ·rw [hq] at HC;have HF : Hid (idxI p l = (t : Int)) := by
     show _ = _
     unfold idxI;rw [HR.out.1, fi_hit hlt hq]
     simp
    clear HR hq;generalize l[t] = en at *;obtain ⟨i1, a1, p1, l1⟩ := en;unfold ordE at HC
    (try dsimp only at c0 c1 c2 HC)
    (try dsimp only at c3)
    go_wp2_with fail
    refine HC.out.mono ?_;rintro e w' ⟨rfl, hb'⟩;dsimp only;go_wp2;go_ret
    exact ⟨by rw [HF.out]; rfl, hb'⟩
  ·have hltI : ¬ (t : Int) < (l.length : Int) := by omega
   have HF : Hid (idxI p l = -1) := by
    show _ = _
    unfold idxI;rw [HR.out.1, List.drop_of_length_le (by omega)]
    rfl
   have HB := hideIt HR.out.2;clear HR HP HH;go_wp2;go_ret
   exact ⟨by rw [HF.out]; rfl, HB.out⟩
set_option maxHeartbeats 4000000 in
set_option maxRecDepth 100000 in
theorem indexW_is (g : Nat) (lb : Array Value) (eg : ∀ args w, (callFunc g args).run Tryz.prog w = .ok (.enter g args) w) (v : Value) (l : List OweV) (p : OweV → Bool) (w : World) (h : Owes w v l) (hp : PredB g lb oweE p w) :
  Calls Tryz.prog 131 #[v, .func (.func g) #[] lb] w fun e w' => e = .returned (.int .i64 (idxI p l)) ∧ Below w.heap.size w w' := by
 obtain ⟨a, c, rfl, h8, hr⟩ := h.owes;have HH := hideIt hr;have HP := hideIt hp;clear hr h hp
 go_enter Tryz.func131, Tryz.ntmps131
 go_wp2
 go_loopw [5, 8] (fun _ v wr => ∃ t : Nat, v = .int .i64 t ∧ t ≤ l.length ∧ Hid (l.findIdx? p = ((l.drop t).findIdx? p).map (· + t) ∧ Below w.heap.size w wr)) (fun _ v _ => l.length - (intOf v).toNat)
 case atStart => exact ⟨0, rfl, Nat.zero_le _, hideIt ⟨by simp, Below.refl _ _⟩⟩
 case round =>
  obtain ⟨t, rfl, ht, HR⟩ := hrel
  by_cases hlt : t < l.length
  ·have hltI : (t : Int) < (l.length : Int) := by omega
   have ht0 : (0 : Int) ≤ (t : Int) := by omega
   have hw : IntKind.i64.wrap ((t : Int) + 1) = (t : Int) + 1 := by rw [IntKind.wrap_i64]; omega
   obtain ⟨b, off, rfl, hbl, q0, q1, q2⟩ := HH.out t hlt;have hB := HR.out.2;have hBS := hB.size;have hblr : b < wr.heap.size := by omega
   have c0 := ((HR.out.2).cell (p := ⟨b, off + t * 3, none⟩) hbl).trans q0;have c1 := ((HR.out.2).cell (p := ⟨b, off + t * 3 + 1, none⟩) hbl).trans q1;have c2 := ((HR.out.2).cell (p := ⟨b, off + t * 3 + 2, none⟩) hbl).trans q2;clear q0 q1 q2;have HC := hideIt (HP.out wr l[t] hB);clear HH HP hB hBS hbl;cases hq : p l[t]
   ·rw [hq] at HC;have HF : Hid (l.findIdx? p = ((l.drop (t + 1)).findIdx? p).map (· + (t + 1))) := by
     show _ = _
     rw [HR.out.1, fi_miss hlt hq, Option.map_map]
     congr 1
     funext x
     simp only [Function.comp];omega
    clear HR hq;generalize l[t] = en at *;obtain ⟨a1, s1, n1⟩ := en;unfold oweE at HC
    (try dsimp only at c0 c1 c2 HC)
    (try dsimp only at c3)
    go_wp2_with fail
    refine HC.out.mono ?_;rintro e w' ⟨rfl, hb'⟩;dsimp only;go_wp2
    go_roundw
    case rel => exact ⟨t + 1, by go_num, by omega, hideIt ⟨HF.out, hb'⟩⟩
    case measure => simp [intOf]; omega
   ·rw [hq] at HC;have HF : Hid (idxI p l = (t : Int)) := by
     show _ = _
     unfold idxI;rw [HR.out.1, fi_hit hlt hq]
     simp
    clear HR hq;generalize l[t] = en at *;obtain ⟨a1, s1, n1⟩ := en;unfold oweE at HC
    (try dsimp only at c0 c1 c2 HC)
    (try dsimp only at c3)
    go_wp2_with fail
    refine HC.out.mono ?_;rintro e w' ⟨rfl, hb'⟩;dsimp only;go_wp2;go_ret
    exact ⟨by rw [HF.out]; rfl, hb'⟩
  ·have hltI : ¬ (t : Int) < (l.length : Int) := by omega
   have HF : Hid (idxI p l = -1) := by
    show _ = _
    unfold idxI;rw [HR.out.1, List.drop_of_length_le (by omega)]
    rfl
   have HB := hideIt HR.out.2;clear HR HP HH;go_wp2;go_ret
   exact ⟨by rw [HF.out]; rfl, HB.out⟩
set_option maxHeartbeats 4000000 in
theorem containsO_is (g : Nat) (lb : Array Value) (eg : ∀ args w, (callFunc g args).run Tryz.prog w = .ok (.enter g args) w) (v : Value) (l : List OrdV) (p : OrdV → Bool) (w : World) (h : Ords w v l) (hp : PredB g lb ordE p w) :
  Calls Tryz.prog 90 #[v, .func (.func g) #[] lb] w fun e w' => e = .returned (.bool (l.any p)) ∧ Below w.heap.size w w' := by
 have HC := hideIt (indexO_is g lb eg v l p w h hp);obtain ⟨a, c, rfl, h8, hr⟩ := h.ords;clear hr h hp;have HE := hideIt (idx_any p l);generalize idxI p l = r at *;generalize l.any p = q at *
 go_enter Tryz.func90, Tryz.ntmps90
 go_wp2_with fail
 refine HC.out.mono ?_;rintro e w1 ⟨rfl, hb⟩;dsimp only;go_wp2;go_ret
 exact ⟨by rw [HE.out]; rfl, hb⟩
set_option maxHeartbeats 4000000 in
theorem containsW_is (g : Nat) (lb : Array Value) (eg : ∀ args w, (callFunc g args).run Tryz.prog w = .ok (.enter g args) w) (v : Value) (l : List OweV) (p : OweV → Bool) (w : World) (h : Owes w v l) (hp : PredB g lb oweE p w) :
  Calls Tryz.prog 97 #[v, .func (.func g) #[] lb] w fun e w' => e = .returned (.bool (l.any p)) ∧ Below w.heap.size w w' := by
 have HC := hideIt (indexW_is g lb eg v l p w h hp);obtain ⟨a, c, rfl, h8, hr⟩ := h.owes;clear hr h hp;have HE := hideIt (idx_any p l);generalize idxI p l = r at *;generalize l.any p = q at *
 go_enter Tryz.func97, Tryz.ntmps97
 go_wp2_with fail
 refine HC.out.mono ?_;rintro e w1 ⟨rfl, hb⟩;dsimp only;go_wp2;go_ret
 exact ⟨by rw [HE.out]; rfl, hb⟩
end Go.Proofs.YtiinigifjdpicaaGreatDoor
