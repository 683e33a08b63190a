/- Texts of my own, laid together. -/
import Derived.Test.YtcaehfkfohianaaGreatProg
import Derived.WalkKit
import Derived.WalkSpells
import Derived.WalkLawsBesides
import Derived.Deep.QuietTactic
import Derived.BigQuiet
import Derived.Lib.AppendStr
import Derived.Deep.RegionHeld3
import Derived.Deep.RegionLaw
import Derived.Deep.CutBlock
import Derived.StillTailTactics
import Derived.OwnWalk
import Derived.Deep.Slices
import Derived.ChangeSlices
set_option linter.all false
namespace Go.Proofs.YtcaehfkfohianaaGreat
open Go.RowKit
theorem hideIt {p : Prop} (h : p) : Hid p := h
structure Out (F : Nat → Prop) (w w' : World) : Prop where
 os : w'.os = w.os
 tape : w'.tape = w.tape
 output : w'.output = w.output
 size : w.heap.size ≤ w'.heap.size
 block : ∀ k, k < w.heap.size → ¬ F k → w'.heap[k]? = w.heap[k]?
theorem Out.refl (F : Nat → Prop) (w : World) : Out F w w := ⟨rfl, rfl, rfl, Nat.le_refl _, fun _ _ _ => rfl⟩
theorem Out.trans {F G : Nat → Prop} {a b c : World} (h : Out F a b) (k : Out G b c) (hG : ∀ i, i < a.heap.size → G i → F i) : Out F a c :=
 ⟨k.os.trans h.os, k.tape.trans h.tape, k.output.trans h.output, Nat.le_trans h.size k.size, fun i hi hn => (k.block i (Nat.lt_of_lt_of_le hi h.size) (fun e => hn (hG i hi e))).trans (h.block i hi hn)⟩
theorem Out.mono {F G : Nat → Prop} {a b : World} (h : Out F a b) (hG : ∀ i, F i → G i) : Out G a b :=
 ⟨h.os, h.tape, h.output, h.size, fun i hi hn => h.block i hi (fun e => hn (hG i e))⟩
theorem Out.below {F : Nat → Prop} {w w' : World} (h : Out F w w') {B : Nat} (hB : B ≤ w.heap.size) (hF : ∀ k, F k → B ≤ k) : Below B w w' :=
 ⟨h.os, h.tape, h.output, h.size, fun i hi => h.block i (Nat.lt_of_lt_of_le hi hB) (fun e => by have := hF i e; omega)⟩
theorem Out.ofGrown {F : Nat → Prop} {w w' : World} {r : Option Nat} (h : w.grownBy w' r) (hF : ∀ k, r = some k → F k) : Out F w w' :=
 ⟨h.os, h.tape, h.output, h.size, fun i hi hn => h.block i hi (fun e => hn (hF i e.symm))⟩
theorem cell_at {w : World} {p : Nat} {cs : Array Value} {t : TypeId} (h : w.heap[p]? = some (.cells cs t (0, 0))) (i : Nat) : w.cell? ⟨p, i, none⟩ = cs[i]? := by
 simp [World.cell?, h]
theorem free_at {w : World} {p : Nat} {cs : Array Value} {t : TypeId} (h : w.heap[p]? = some (.cells cs t (0, 0))) (i : Nat) : w.frozen? ⟨p, i, none⟩ = false := by
 simp [World.frozen?, h]
theorem heap_set {w : World} {p : Nat} {cs : Array Value} {t : TypeId} (h : w.heap[p]? = some (.cells cs t (0, 0))) (j : Nat) (v : Value) : (w.setCell ⟨p, j, none⟩ v).heap[p]? = some (.cells (cs.setIfInBounds j v) t (0, 0)) := by
 rw [setCell_eq_setRow _ p j cs t (0, 0) _ h];exact setRow_heap _ p cs _ t _ h
theorem heap_set_other (w : World) (p j k : Nat) (v : Value) (h : k ≠ p) : (w.setCell ⟨p, j, none⟩ v).heap[k]? = w.heap[k]? := RowKit.Below.heap_setCell _ _ _ _ (fun e => h e)
def i64B (x : Int) : Prop := -9223372036854775808 ≤ x ∧ x ≤ 9223372036854775807
def wiB (x lo hi : Int) : Bool := decide (lo ≤ x ∧ x ≤ hi)
theorem below1 (w : World) (o : Obj) : Below w.heap.size w (w.alloc o) := (Below.refl _ w).alloc (Nat.le_refl _) o
theorem below2 (w : World) (o p : Obj) : Below w.heap.size w ((w.alloc o).alloc p) := (below1 w o).alloc (by simp) p
theorem own_len {w : World} {B : Nat} {e : TypeId} {z n : Nat} {v : Value} {xs : List Value} (h : w.ownsRow B e z v n xs) : ∃ a c, v = .slice a n c := by
 obtain ⟨_, ⟨rfl, rfl⟩ | ⟨g, cap, cur, rfl, _⟩⟩ := h
 ·exact ⟨_, _, rfl⟩
 ·exact ⟨_, _, rfl⟩
theorem own_keep {w w' : World} {B : Nat} {e : TypeId} {z n : Nat} {v : Value} {xs : List Value} (h : w.ownsRow B e z v n xs) (hb : Below w.heap.size w w') : w'.ownsRow B e z v n xs := by
 obtain ⟨h1, h2 | ⟨g, cap, cur, hv, hB, hg, r⟩⟩ := h
 ·exact ⟨h1, .inl h2⟩
 ·exact ⟨h1, .inr ⟨g, cap, cur, hv, hB, (hb.block g (Array.getElem?_eq_some_iff.1 hg).1).trans hg, r⟩⟩
theorem own_base {w : World} {B B' : Nat} {e : TypeId} {z n : Nat} {v : Value} {xs : List Value} (h : w.ownsRow B e z v n xs) (hb : B' ≤ B) : w.ownsRow B' e z v n xs := by
 obtain ⟨h1, h2 | ⟨g, cap, cur, hv, hB, r⟩⟩ := h
 ·exact ⟨h1, .inl h2⟩
 ·exact ⟨h1, .inr ⟨g, cap, cur, hv, by omega, r⟩⟩
theorem shape_at {w : World} {p : Nat} {cs : Array Value} {t : TypeId} (h : w.heap[p]? = some (.cells cs t (0, 0))) : w.shape? p = some (t, cs.size) := by
 simp [World.shape?, h]
theorem shape_new (w : World) (cs : Array Value) (t : TypeId) : (w.alloc (.cells cs t)).shape? w.heap.size = some (t, cs.size) := shape_at (heap_alloc_new w _)
theorem put4 (wc : World) (b : Nat) (ty : TypeId) (v0 v1 v2 v3 : Value) {z0 z1 z2 z3 : Value} (h : wc.heap[b]? = some (.cells #[z0, z1, z2, z3] ty (0, 0))) :
  ((((wc.setCell ⟨b, 0, none⟩ v0).setCell ⟨b, 1, none⟩ v1).setCell ⟨b, 2, none⟩ v2).setCell ⟨b, 3, none⟩ v3).heap[b]? = some (.cells #[v0, v1, v2, v3] ty (0, 0)) := by
 have h0 := heap_set h 0 v0;have h1 := heap_set h0 1 v1;have h2 := heap_set h1 2 v2;exact heap_set h2 3 v3
theorem setOther {w : World} {b k j : Nat} {o : Option Obj} (v : Value) (h : w.heap[k]? = o) (hk : k ≠ b) : (w.setCell ⟨b, j, none⟩ v).heap[k]? = o := (heap_set_other w b j k v hk).trans h
theorem belowSet {B b j : Nat} {w0 w : World} (v : Value) (h : Below B w0 w) (hb : B ≤ b) : Below B w0 (w.setCell ⟨b, j, none⟩ v) :=
 ⟨h.os, h.tape, h.output, by simpa using h.size, fun k hk => by rw [heap_set_other _ _ _ _ _ (by omega)]; exact h.block k hk⟩
theorem ownSet {B b j n : Nat} {e : TypeId} {z : Nat} {g : Value} {w : World} {xs : List Value} (v : Value) (h : w.ownsRow B e z g n xs) (hb : b < B) : (w.setCell ⟨b, j, none⟩ v).ownsRow B e z g n xs := by
 obtain ⟨h1, h2 | ⟨k, cap, cur, hv, hB, hg, r⟩⟩ := h
 ·exact ⟨h1, .inl h2⟩
 ·exact ⟨h1, .inr ⟨k, cap, cur, hv, hB, (heap_set_other _ _ _ _ _ (by omega)).trans hg, r⟩⟩
theorem two_heap (w : World) (o p : Obj) : ((w.alloc o).alloc p).heap[w.heap.size]? = some o ∧ ((w.alloc o).alloc p).heap[w.heap.size + 1]? = some p ∧ ((w.alloc o).alloc p).heap.size = w.heap.size + 2 := by
 refine ⟨?_, ?_, by simp⟩
 ·rw [heap_alloc_old _ _ (by simp)];exact heap_alloc_new w _
 ·have e : w.heap.size + 1 = (w.alloc o).heap.size := by simp
  rw [e];exact heap_alloc_new _ _
theorem below_out {W w w' : World} {F : Nat → Prop} (h : Below W.heap.size W w) (ho : Out F w w') (hF : ∀ k, F k → W.heap.size ≤ k) : Below W.heap.size W w' :=
 h.trans (ho.below h.size hF)
theorem own_out {F : Nat → Prop} {wa wb : World} {B : Nat} {e : TypeId} {z : Nat} {v : Value} {n : Nat} {xs : List Value} (h : wa.ownsRow B e z v n xs) (ho : Out F wa wb) (hF : ∀ k, F k → k < B) : wb.ownsRow B e z v n xs := by
 obtain ⟨h1, hn | ⟨g, cap, cur, hv, hb, hg, rest⟩⟩ := h
 ·exact ⟨h1, .inl hn⟩
 ·exact ⟨h1, .inr ⟨g, cap, cur, hv, hb, (ho.block g (Array.getElem?_eq_some_iff.1 hg).1 (fun hf => by have := hF g hf; omega)).trans hg, rest⟩⟩
theorem addN (b off j : Nat) : (⟨b, off, none⟩ : Addr).add j = ⟨b, off + j, none⟩ := by cases j <;> simp [Addr.add]
theorem grown_refl (w : World) (r : Option Nat) : w.grownBy w r := ⟨rfl, rfl, rfl, Nat.le_refl _, fun _ _ _ => rfl⟩
theorem below3 (w : World) (o p q : Obj) : Below w.heap.size w (((w.alloc o).alloc p).alloc q) := (below2 w o p).alloc (by simp; omega) q
theorem three_heap (w : World) (o p q : Obj) : (((w.alloc o).alloc p).alloc q).heap[w.heap.size]? = some o ∧ (((w.alloc o).alloc p).alloc q).heap[w.heap.size + 1]? = some p ∧ (((w.alloc o).alloc p).alloc q).heap[w.heap.size + 2]? = some q ∧ (((w.alloc o).alloc p).alloc q).heap.size = w.heap.size + 3 := by
 have ht := two_heap w o p;refine ⟨?_, ?_, ?_, by simp⟩
 ·rw [heap_alloc_old _ _ (by rw [ht.2.2]; omega)]
  exact ht.1
 ·rw [heap_alloc_old _ _ (by rw [ht.2.2]; omega)]
  exact ht.2.1
 ·have h := heap_alloc_new ((w.alloc o).alloc p) q
  rwa [ht.2.2] at h
theorem box_cell {w w1 : World} {cs : Array Value} {t : TypeId} (h : Below (w.alloc (.cells cs t)).heap.size (w.alloc (.cells cs t)) w1) (i : Nat) : w1.cell? ⟨w.heap.size, i, none⟩ = cs[i]? :=
 (h.cell (by simp)).trans (cell_at (heap_alloc_new w _) i)
theorem below_via {w w1 w2 : World} (h : Below w.heap.size w w1) (k : Below w1.heap.size w1 w2) : Below w.heap.size w w2 :=
 h.trans ⟨k.os, k.tape, k.output, k.size, fun i hi => k.block i (Nat.lt_of_lt_of_le hi h.size)⟩
structure EntV where
 term : Int
 kind : Int
 text : ByteArray
def noE : EntV := ⟨0, 0, ⟨#[]⟩⟩
def entC (l : List EntV) : List Value := (l.map (fun e => [Value.int .i64 e.term, .int .i64 e.kind, .string e.text])).flatten
theorem entC_app (l k : List EntV) : entC (l ++ k) = entC l ++ entC k := by simp [entC]
theorem entC_len (l : List EntV) : (entC l).length = l.length * 3 := by
 induction l with
 | nil => rfl
 | cons e l ih =>
  have e1 : entC (e :: l) = [Value.int .i64 e.term, .int .i64 e.kind, .string e.text] ++ entC l := by simp [entC]
  rw [e1, List.length_append, ih]
  simp
  omega
theorem entC_one (l : List EntV) : ∀ u ∈ entC l, u.oneCell' = true := by
 intro u hu;unfold entC at hu;rw [List.mem_flatten] at hu;obtain ⟨r, hr, hu⟩ := hu;obtain ⟨e, _, rfl⟩ := List.mem_map.1 hr;simp only [List.mem_cons, List.not_mem_nil, or_false] at hu
 rcases hu with rfl | rfl | rfl <;> rfl
theorem entC_get : ∀ (es : List EntV) (i : Nat) (h : i < es.length), (entC es)[i * 3]? = some (.int .i64 (es[i]).term) ∧ (entC es)[i * 3 + 1]? = some (.int .i64 (es[i]).kind) ∧ (entC es)[i * 3 + 2]? = some (.string (es[i]).text)
 | [], i, h => by simp at h
 | e :: es, 0, h => by simp [entC]
 | e :: es, i + 1, h => by
  have ih := entC_get es i (by simpa using h);have e1 : entC (e :: es) = [Value.int .i64 e.term, .int .i64 e.kind, .string e.text] ++ entC es := by simp [entC]
  rw [e1];have g : ∀ j, ([Value.int .i64 e.term, .int .i64 e.kind, .string e.text] ++ entC es)[(i + 1) * 3 + j]? = (entC es)[i * 3 + j]? := by
   intro j;rw [List.getElem?_append_right (by simp; omega)]
   congr 1
   simp
   omega
  have g0 := g 0;rw [Nat.add_zero, Nat.add_zero] at g0;rw [g0, g 1, g 2]
  simpa using ih
def EGot (w : World) (v : Value) (l : List EntV) : Prop :=
 l.length * 32 ≤ 140737488355328 ∧ ∃ a c, v = .slice a l.length c ∧ (l.length ≤ c ∧ c ≤ maxLen) ∧ (0 < l.length → ∃ b off, a = some ⟨b, off, none⟩ ∧ b < w.heap.size ∧ ∀ j, j < l.length * 3 → w.cell? ⟨b, off + j, none⟩ = (entC l)[j]?)
theorem EGot.nil (w : World) (a : Option Addr) (c : Nat) (hc : c ≤ maxLen) : EGot w (.slice a 0 c) [] := ⟨by simp, a, c, rfl, ⟨Nat.zero_le _, hc⟩, fun h => absurd h (by simp)⟩
theorem EGot.keep {w w' : World} {v : Value} {l : List EntV} (h : EGot w v l) (hb : Below w.heap.size w w') : EGot w' v l := by
 obtain ⟨h8, a, c, rfl, hcc, hr⟩ := h;refine ⟨h8, a, c, rfl, hcc, fun hp => ?_⟩;obtain ⟨b, off, rfl, hlt, hc⟩ := hr hp
 exact ⟨b, off, rfl, Nat.lt_of_lt_of_le hlt hb.size, fun j hj => (hb.cell hlt).trans (hc j hj)⟩
theorem EGot.open {w : World} {v : Value} {l : List EntV} (h : EGot w v l) : ∃ a c, v = .slice a l.length c ∧ l.length * 32 ≤ 140737488355328 ∧ ∀ i (h : i < l.length), ∃ b off, a = some ⟨b, off, none⟩ ∧ b < w.heap.size ∧ w.cell? ⟨b, off + i * 3, none⟩ = some (.int .i64 (l[i]).term) ∧ w.cell? ⟨b, off + i * 3 + 1, none⟩ = some (.int .i64 (l[i]).kind) ∧ w.cell? ⟨b, off + i * 3 + 2, none⟩ = some (.string (l[i]).text) := by
 obtain ⟨h8, a, c, rfl, _, hr⟩ := h;refine ⟨a, c, rfl, h8, fun i hi => ?_⟩;obtain ⟨b, off, rfl, hlt, hc⟩ := hr (by omega);obtain ⟨e0, e1, e2⟩ := entC_get l i hi
 exact ⟨b, off, rfl, hlt, (hc _ (by omega)).trans e0, (hc (i * 3 + 1) (by omega)).trans e1, (hc (i * 3 + 2) (by omega)).trans e2⟩
theorem EGot.cap {w : World} {a : Option Addr} {c : Nat} {l : List EntV} (h : EGot w (.slice a l.length c) l) : l.length ≤ c ∧ c ≤ maxLen := by
 obtain ⟨_, a', c', e, hcc, _⟩ := h;simp only [Value.slice.injEq] at e;rw [e.2.2];exact hcc
theorem own_egot {w : World} {B : Nat} {v : Value} {l : List EntV} (h : w.ownsRow B 55 3 v l.length (entC l)) (h8 : l.length * 32 ≤ 140737488355328) : EGot w v l := by
 obtain ⟨_, ⟨rfl, h0⟩ | ⟨g, cap, cur, rfl, hB, hg, hn, hc, hs, ht⟩⟩ := h
 ·rw [List.length_eq_zero_iff] at h0;subst h0;exact EGot.nil _ _ _ (Nat.zero_le _)
 ·refine ⟨h8, _, cap, rfl, ⟨hn, hc⟩, fun _ => ⟨g, 0, rfl, (Array.getElem?_eq_some_iff.1 hg).1, fun j hj => ?_⟩⟩;rw [cell_at hg, Nat.zero_add, ← ht, List.getElem?_take, if_pos (by omega)]
  simp
theorem info39 : (Tryz.prog.info? 55).map (fun i => (i.zero, i.size, i.bytes)) = some (some (.agg #[.int .i64 0, .int .i64 0, .string ⟨#[]⟩]), 3, 32) := by kernel_rfl
theorem run_app_none (w : World) (ty : TypeId) (B : Nat) (v : Value) (n : Nat) (xs : List Value) (hown : w.ownsRow B 55 3 v n xs) (c : Nat) : (Builtin.append_ #[28, 28] ty #[v, .slice none 0 c]).run Tryz.prog w = .ok v w := by
 obtain ⟨i, hi, hz0, hz1, hz2⟩ := info_parts info39;have ht : Tryz.prog.underlying 28 = some (.slice 55) := Tryz.underlying28
 rcases hown.2 with ⟨rfl, rfl⟩ | ⟨g, cap, cur, rfl, _, _, hnc, _⟩
 ·simp [Builtin.append_, run_underlying ht, sizeOf, typeInfo, hi, Builtin.lenOf, Builtin.firstCells]
 ·simp [Builtin.append_, run_underlying ht, sizeOf, typeInfo, hi, Builtin.lenOf, Builtin.firstCells, hnc, storeCells]
theorem run_app (w : World) (ty : TypeId) (B : Nat) (v : Value) (xs l : List EntV) (g : Value) (hB : B ≤ w.heap.size) (ho : w.ownsRow B 55 3 v xs.length (entC xs)) (hg : EGot w g l) (hl : (xs.length + l.length) * 32 ≤ 140737488355328) :
  ∃ v' w', (Builtin.append_ #[28, 28] ty #[v, g]).run Tryz.prog w = .ok v' w' ∧ w'.ownsRow B 55 3 v' (xs ++ l).length (entC (xs ++ l)) ∧ w.grownBy w' v.ownBlock := by
 obtain ⟨i, hi, hz0, hz1, hz2⟩ := info_parts info39;have ht : Tryz.prog.underlying 28 = some (.slice 55) := Tryz.underlying28;have hm : xs.length + l.length ≤ maxLen := by unfold maxLen; omega
 obtain ⟨h8, a, c, rfl, _, hr⟩ := hg
 rcases Nat.eq_zero_or_pos l.length with h0 | hp
 ·rw [List.length_eq_zero_iff] at h0;subst h0;rw [List.append_nil];cases a with
  | none => exact ⟨v, w, run_app_none w ty B v xs.length (entC xs) ho c, ho, grown_refl w _⟩
  | some a =>
   obtain ⟨v', w', h1, h2, h3, _⟩ := run_append_own (P := Tryz.prog) w B 28 ty 55 i _ 3 32 ht hi hz0 hz1 hz2 rfl (by omega) v xs.length (entC xs) ho a 0 c [] rfl (fun j u hu => by simp at hu) (fun u hu => by simp at hu) (by simpa using hm) (by simpa using hl) hB;refine ⟨v', w', h1, ?_, h3⟩
   simpa using h2
 ·obtain ⟨b, off, rfl, hlt, hc⟩ := hr hp;obtain ⟨v', w', h1, h2, h3, _⟩ := run_append_own (P := Tryz.prog) w B 28 ty 55 i _ 3 32 ht hi hz0 hz1 hz2 rfl (by omega) v xs.length (entC xs) ho ⟨b, off, none⟩ l.length c (entC l) (entC_len l) (fun j u hu => by
    rw [addN];have hj : j < l.length * 3 := by
     have := (List.getElem?_eq_some_iff.1 hu).1
     rwa [entC_len] at this
    rw [hc j hj, hu]) (entC_one l) hm hl hB
  refine ⟨v', w', h1, ?_, h3⟩;rw [List.length_append, entC_app];exact h2
theorem wpList_append_run (w : World) {ops : Array Oper} {rest : List Oper} {o : Oper} {a : Act} {Q : Exit → Act → World → Prop} (hgd : o.guard = none) (sl x : Operand)
  (ho : o.op = .call { callee := .builtin .append, args := #[sl, x], argTypes := #[28, 28] }) {v1 v2 v' : Value} {w' : World} (hs : a.eval sl = v1) (hx : a.eval x = v2) (hty : o.type = 28)
  (hrun : (Builtin.append_ #[28, 28] 28 #[v1, v2]).run Tryz.prog w = .ok v' w') (h : wpList Tryz.prog ops Q rest (a.put o.dst v') w') : wpList Tryz.prog ops Q (o :: rest) a w := by
 refine wpList_plain hgd fun K hK => ?_
 unfold Oper.wp execOp;simp only [ho, resolve, invoke, builtin, Sem.run_bind, Sem.run_pure, Result.andThen_ok, List.map_toArray, List.map_cons, List.map_nil, hs, hx, hty, hrun];exact hK _ _ h
set_option maxHeartbeats 1000000 in
theorem within_is (x lo hi : Int) (w : World) : Calls Tryz.prog 125 #[.int .i64 x, .int .i64 lo, .int .i64 hi] w fun e w' => e = .returned (.bool (wiB x lo hi)) ∧ w' = w := by
 unfold wiB
 by_cases h : lo ≤ x
 ·go_enter Tryz.func125, Tryz.ntmps125
  go_wp2;go_ret
  exact ⟨by simp [h], rfl⟩
 ·go_enter Tryz.func125, Tryz.ntmps125
  go_wp2;go_ret
  exact ⟨by rw [decide_eq_false (by omega)]; rfl, rfl⟩
def mkB (i t : Int) : Bool := wiB i 0 1000000 && wiB t 0 1000000 && (i == 0) == (t == 0)
set_option maxHeartbeats 2000000 in
theorem isMark_is (i t : Int) (w : World) : Calls Tryz.prog 122 #[.agg #[.int .i64 i, .int .i64 t]] w fun e w' => e = .returned (.bool (mkB i t)) ∧ Below w.heap.size w w' := by
 have N1 := hideIt (fun W => within_is i 0 1000000 W);have N2 := hideIt (fun W => within_is t 0 1000000 W);unfold mkB;have HB := hideIt (below1 w (.cells #[.int .i64 i, .int .i64 t] 25));cases h1 : wiB i 0 1000000
 ·rw [h1] at N1
  go_enter Tryz.func122, Tryz.ntmps122
  go_wp2_with fail
  refine (N1.out _).mono ?_;rintro e w1 ⟨rfl, rfl⟩;dsimp only;go_wp2;go_ret
  exact ⟨rfl, HB.out⟩
 ·rw [h1] at N1;cases h2 : wiB t 0 1000000
  ·rw [h2] at N2
   go_enter Tryz.func122, Tryz.ntmps122
   go_wp2_with fail
   refine (N1.out _).mono ?_;rintro e w1 ⟨rfl, rfl⟩;dsimp only
   go_wp2_with fail
   refine (N2.out _).mono ?_;rintro e w1 ⟨rfl, rfl⟩;dsimp only;go_wp2;go_ret
   exact ⟨rfl, HB.out⟩
  ·rw [h2] at N2
   go_enter Tryz.func122, Tryz.ntmps122
   go_wp2_with fail
   refine (N1.out _).mono ?_;rintro e w1 ⟨rfl, rfl⟩;dsimp only
   go_wp2_with fail
   refine (N2.out _).mono ?_;rintro e w1 ⟨rfl, rfl⟩;dsimp only;go_wp2;go_ret
   exact ⟨by simp, HB.out⟩
def entB (e : EntV) : Bool := wiB e.term 1 1000000 && ((e.kind == 1 && e.text.size == 0) || (e.kind == 2 && decide (e.text.size ≤ 4000)))
theorem entB_text {e : EntV} (h : entB e = true) : e.text.size ≤ 4000 := by
 simp only [entB, Bool.and_eq_true, Bool.or_eq_true, beq_iff_eq, decide_eq_true_eq] at h;omega
theorem iteB (c : Prop) [Decidable c] (b : Bool) (w : World) : (if c then Result.ok (Value.bool b) w else Result.ok (Value.bool false) w) = Result.ok (Value.bool (decide c && b)) w := by
 by_cases h : c <;> simp [h]
def eqE (a b : EntV) : Bool := a.term == b.term && a.kind == b.kind && (a.text.toList == b.text.toList)
theorem eq39 (a1 a2 b1 b2 : Int) (a3 b3 : ByteArray) (w : World) : (binOp .eql 55 (.agg #[.int .i64 a1, .int .i64 a2, .string a3]) (.agg #[.int .i64 b1, .int .i64 b2, .string b3])).run Tryz.prog w = .ok (.bool (eqE ⟨a1, a2, a3⟩ ⟨b1, b2, b3⟩)) w := by
 unfold eqE
 simp [go_sem]
 by_cases h1 : a1 = b1 <;> by_cases h2 : a2 = b2 <;> by_cases h3 : a3.toList = b3.toList <;> simp [h1, h2, h3, go_sem]
theorem neq39 (a1 a2 b1 b2 : Int) (a3 b3 : ByteArray) (w : World) : (binOp .neq 55 (.agg #[.int .i64 a1, .int .i64 a2, .string a3]) (.agg #[.int .i64 b1, .int .i64 b2, .string b3])).run Tryz.prog w = .ok (.bool (!eqE ⟨a1, a2, a3⟩ ⟨b1, b2, b3⟩)) w := by
 unfold eqE
 simp [go_sem]
 by_cases h1 : a1 = b1 <;> by_cases h2 : a2 = b2 <;> by_cases h3 : a3.toList = b3.toList <;> simp [h1, h2, h3, go_sem]
theorem eq23 (a b c d : Int) (w : World) : (binOp .eql 25 (.agg #[.int .i64 a, .int .i64 b]) (.agg #[.int .i64 c, .int .i64 d])).run Tryz.prog w = .ok (.bool (a == c && b == d)) w := by
 simp [go_sem]
 simp only [iteB]
 congr 2
 rw [Bool.eq_iff_iff]
 simp
theorem toList_nil (x : ByteArray) : (x.toList == ([] : List UInt8)) = (x.size == 0) := by
 have h : x.toList.length = x.size := by
  rw [ByteArray.toList_eq x]
  rfl
 rw [Bool.eq_iff_iff, beq_iff_eq, beq_iff_eq]
 exact ⟨fun e => by rw [← h, e]; rfl, fun e => List.length_eq_zero_iff.1 (h.trans e)⟩
theorem toList_emp (x : ByteArray) : x.toList.isEmpty = (x.size == 0) := by
 rw [← toList_nil];cases x.toList <;> rfl
theorem eq39e (t k : Int) (x : ByteArray) (w : World) : (binOp .eql 55 (.agg #[.int .i64 t, .int .i64 k, .string x]) (.agg #[.int .i64 t, .int .i64 1, .string ⟨#[]⟩])).run Tryz.prog w = .ok (.bool (k == 1 && x.size == 0)) w := by
 rw [eq39, eqE]
 simp [toList_emp]
set_option maxHeartbeats 4000000 in
theorem isEntry_is (e : EntV) (w : World) : Calls Tryz.prog 151 #[.agg #[.int .i64 e.term, .int .i64 e.kind, .string e.text]] w fun r w' => r = .returned (.bool (entB e)) ∧ Below w.heap.size w w' := by
 obtain ⟨t, k, x⟩ := e;have N1 := hideIt (fun W => within_is t 1 1000000 W);have HB := hideIt (below1 w (.cells #[.int .i64 t, .int .i64 k, .string x] 55));have HB2 := hideIt (below2 w (.cells #[.int .i64 t, .int .i64 k, .string x] 55) (.cells #[.int .i64 t, .int .i64 1, .string ⟨#[]⟩] 55));simp only [entB];cases h1 : wiB t 1 1000000
 ·rw [h1] at N1
  go_enter Tryz.func151, Tryz.ntmps151
  go_wp2_with fail
  refine (N1.out _).mono ?_;rintro e w1 ⟨rfl, rfl⟩;dsimp only;go_wp2;go_ret
  exact ⟨rfl, HB.out⟩
 ·rw [h1] at N1;cases h2 : (k == 1 && x.size == 0)
  ·have n1 : ∀ W, (binOp .eql 55 (.agg #[.int .i64 t, .int .i64 k, .string x]) (.agg #[.int .i64 t, .int .i64 1, .string ⟨#[]⟩])).run Tryz.prog W = .ok (.bool false) W := fun W => by rw [eq39e, h2]
   by_cases h3 : k = 2
   ·subst h3;have e1 : decide (x.size ≤ 4000) = decide ((x.size : Int) ≤ 4000) := by rw [decide_eq_decide]; omega
    rw [e1];clear e1 h2
    go_enter Tryz.func151, Tryz.ntmps151
    go_wp2_with fail
    refine (N1.out _).mono ?_;rintro e w1 ⟨rfl, rfl⟩;dsimp only;go_wp2;go_ret
    exact ⟨rfl, HB2.out⟩
   ·have h3b : (k == 2) = false := beq_eq_false_iff_ne.2 h3;rw [h3b];clear h2
    go_enter Tryz.func151, Tryz.ntmps151
    go_wp2_with fail
    refine (N1.out _).mono ?_;rintro e w1 ⟨rfl, rfl⟩;dsimp only;go_wp2;go_ret
    exact ⟨rfl, HB2.out⟩
  ·have n1 : ∀ W, (binOp .eql 55 (.agg #[.int .i64 t, .int .i64 k, .string x]) (.agg #[.int .i64 t, .int .i64 1, .string ⟨#[]⟩])).run Tryz.prog W = .ok (.bool true) W := fun W => by rw [eq39e, h2]
   clear h2
   go_enter Tryz.func151, Tryz.ntmps151
   go_wp2_with fail
   refine (N1.out _).mono ?_;rintro e w1 ⟨rfl, rfl⟩;dsimp only;go_wp2;go_ret
   exact ⟨rfl, HB2.out⟩
def rowsB : List EntV → Int → Bool
 | [], _ => true
 | e :: l, x => entB e && decide (x ≤ e.term) && rowsB l e.term
theorem rowsB_drop (l : List EntV) (t : Nat) (x : Int) (h : t < l.length) : rowsB (l.drop t) x = (entB l[t] && decide (x ≤ (l[t]).term) && rowsB (l.drop (t + 1)) (l[t]).term) := by
 rw [List.drop_eq_getElem_cons h]
 rfl
theorem rowsB_all (l : List EntV) : ∀ x, rowsB l x = true → ∀ e ∈ l, entB e = true := by
 induction l with
 | nil => intro _ _ e he; cases he
 | cons a l ih =>
  intro x h e he;simp only [rowsB, Bool.and_eq_true] at h
  rcases List.mem_cons.1 he with rfl | he
  ·exact h.1.1
  ·exact ih _ h.2 e he
set_option maxHeartbeats 4000000 in
set_option maxRecDepth 100000 in
theorem areEntries_is (g : Value) (l : List EntV) (x : Int) (w : World) (h : EGot w g l) : Calls Tryz.prog 123 #[g, .int .i64 x] w fun e w' => e = .returned (.bool (rowsB l x)) ∧ Below w.heap.size w w' := by
 obtain ⟨a, c, rfl, h8, hr⟩ := h.open;have HH := hideIt hr;have NE := hideIt isEntry_is;clear hr h
 go_enter Tryz.func123, Tryz.ntmps123
 go_wp2
 go_loopw [1, 9] (fun u v wr => ∃ (t : Nat) (y : Int), u = .int .i64 y ∧ v = .int .i64 t ∧ t ≤ l.length ∧ Hid (rowsB l x = rowsB (l.drop t) y ∧ Below w.heap.size w wr)) (fun _ v _ => l.length - (intOf v).toNat)
 case atStart => exact ⟨0, x, rfl, rfl, Nat.zero_le _, hideIt ⟨rfl, Below.refl _ _⟩⟩
 case round =>
  obtain ⟨t, y, rfl, rfl, ht, HR⟩ := hrel
  by_cases hlt : t < l.length
  ·have hltI : (t : Int) < (l.length : Int) := by omega
   have ht0 : (0 : Int) ≤ (t : Int) := by omega
   obtain ⟨b, off, rfl, hbl, q0, q1, q2⟩ := HH.out t hlt;have hB := HR.out.2;have hBS := hB.size;have c0 := (hB.cell (p := ⟨b, off + t * 3, none⟩) hbl).trans q0;have c1 := (hB.cell (p := ⟨b, off + t * 3 + 1, none⟩) hbl).trans q1;have c2 := (hB.cell (p := ⟨b, off + t * 3 + 2, none⟩) hbl).trans q2;have hblr : b < wr.heap.size := by omega
   have HRD := hideIt (rowsB_drop l t y hlt);have hN := fun W => NE.out l[t] W
   generalize l[t] = en at *;obtain ⟨et, ek, ex⟩ := en;simp only at c0 c1 c2 HRD hN;have HN := hideIt hN;have HB := hideIt hB;clear q0 q1 q2 hN hB;have HA := hideIt (HB.out.alloc (by omega) (.cells #[.int .i64 et, .int .i64 ek, .string ex] 55));cases h1 : entB ⟨et, ek, ex⟩
   ·rw [h1] at HN HRD
    go_wp2_with fail
    refine (HN.out _).mono ?_;rintro e w1 ⟨rfl, hb⟩;dsimp only;have HB3 := hideIt (HA.out.trans (hb.mono (by first | omega | (simp; omega))))
    clear hb;go_wp2;go_ret
    exact ⟨by rw [HR.out.1, HRD.out]; rfl, HB3.out⟩
   ·rw [h1] at HN HRD
    by_cases h2 : y ≤ et
    ·have h2I : ¬ et < y := by omega
     go_wp2_with fail
     refine (HN.out _).mono ?_;rintro e w1 ⟨rfl, hb⟩;dsimp only;have HB3 := hideIt (HA.out.trans (hb.mono (by first | omega | (simp; omega))))
     have d0 : w1.cell? ⟨wr.heap.size, 0, none⟩ = some (.int .i64 et) := box_cell hb 0;clear hb;go_wp2
     go_roundw
     case rel => exact ⟨t + 1, et, rfl, by go_num, by omega, hideIt ⟨by rw [HR.out.1, HRD.out]; simp [h2], HB3.out⟩⟩
     case measure => simp [intOf]; omega
    ·have h2I : et < y := by omega
     have HNY := hideIt h2;clear h2
     go_wp2_with fail
     refine (HN.out _).mono ?_;rintro e w1 ⟨rfl, hb⟩;dsimp only;have HB3 := hideIt (HA.out.trans (hb.mono (by first | omega | (simp; omega))))
     have d0 : w1.cell? ⟨wr.heap.size, 0, none⟩ = some (.int .i64 et) := box_cell hb 0;clear hb;go_wp2;go_ret
     exact ⟨by rw [HR.out.1, HRD.out, decide_eq_false (by have := HNY.out; omega)]; rfl, HB3.out⟩
  ·have hltI : ¬ (t : Int) < (l.length : Int) := by omega
   go_wp2;go_ret;have := HR.out.1;rw [List.drop_of_length_le (by omega)] at this
   exact ⟨by rw [this]; rfl, HR.out.2⟩
structure LogV where
 bi : Int
 bt : Int
 l : List EntV
 cm : Int
def logA (L : LogV) (g : Value) : Array Value := #[.int .i64 L.bi, .int .i64 L.bt, g, .int .i64 L.cm]
def logV (L : LogV) (g : Value) : Value := .agg (logA L g)
def lasI (L : LogV) : Int := L.bi + (L.l.length : Int)
def mayB (L : LogV) : Bool := mkB L.bi L.bt && decide (L.l.length ≤ 400) && rowsB L.l L.bt && decide (lasI L ≤ 1000000) && wiB L.cm L.bi (lasI L)
theorem mkB_in {i t : Int} (h : mkB i t = true) : (0 ≤ i ∧ i ≤ 1000000) ∧ (0 ≤ t ∧ t ≤ 1000000) ∧ (i = 0 ↔ t = 0) := by
 simp only [mkB, wiB, Bool.and_eq_true, decide_eq_true_eq, beq_iff_eq] at h;obtain ⟨⟨h1, h2⟩, h3⟩ := h;refine ⟨h1, h2, ?_⟩;rw [Bool.eq_iff_iff] at h3
 simpa using h3
theorem mayB_in {L : LogV} (h : mayB L = true) : (0 ≤ L.bi ∧ L.bi ≤ 1000000) ∧ (0 ≤ L.bt ∧ L.bt ≤ 1000000) ∧ L.l.length ≤ 400 ∧ rowsB L.l L.bt = true ∧ lasI L ≤ 1000000 ∧ L.bi ≤ L.cm ∧ L.cm ≤ lasI L := by
 simp only [mayB, Bool.and_eq_true, decide_eq_true_eq] at h;obtain ⟨⟨⟨⟨h1, h2⟩, h3⟩, h4⟩, h5⟩ := h;have h6 := mkB_in h1;simp only [wiB, decide_eq_true_eq] at h5
 exact ⟨h6.1, h6.2.1, h2, h3, h4, h5.1, h5.2⟩
def Near (L : LogV) : Prop := -1000000 ≤ L.bi ∧ L.bi ≤ 2000000 ∧ L.l.length ≤ 1000
set_option maxHeartbeats 1000000 in
theorem lastIndex_is (L : LogV) (g : Value) (w : World) (h : EGot w g L.l) (hn : Near L) : Calls Tryz.prog 124 #[logV L g] w fun e w' => e = .returned (.int .i64 (lasI L)) ∧ w' = w.alloc (.cells (logA L g) 36) := by
 obtain ⟨a, c, rfl, _⟩ := h.open;obtain ⟨bi, bt, l, cm⟩ := L;obtain ⟨n1, n2, n3⟩ := hn;simp only at n1 n2 n3;unfold logV logA lasI
 simp only
 go_enter Tryz.func124, Tryz.ntmps124
 go_wp2;go_ret
 exact ⟨rfl, rfl⟩
end Go.Proofs.YtcaehfkfohianaaGreat
