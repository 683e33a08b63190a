/- Rows of one's own, boxes and blocks: what is of use at every seat. -/
import Derived.Test.YtagfolckodpioaaKit
import Derived.Lib.AppendZeros
namespace Go.Proofs.Ytagfolckodpioaa.K2
open Go.RowKit Go.Proofs.Ytagfolckodpioaa
set_option linter.all false
theorem below1 (w : World) (o : Obj) : Below w.heap.size w (w.alloc o) := (Below.refl _ w).alloc (Nat.le_refl _) o
theorem below2 (w : World) (o p : Obj) : Below w.heap.size w ((w.alloc o).alloc p) := (below1 w o).alloc (by simp) p
theorem own_len {w : World} {B : Nat} {e : TypeId} {z n : Nat} {v : Value} {xs : List Value} (h : w.ownsRow B e z v n xs) : ∃ a c, v = .slice a n c := by
  obtain ⟨_, ⟨rfl, rfl⟩ | ⟨g, cap, cur, rfl, _⟩⟩ := h
  · exact ⟨_, _, rfl⟩
  · exact ⟨_, _, rfl⟩
theorem own_keep {w w' : World} {B : Nat} {e : TypeId} {z n : Nat} {v : Value} {xs : List Value} (h : w.ownsRow B e z v n xs) (hb : Below w.heap.size w w') : w'.ownsRow B e z v n xs := by
  obtain ⟨h1, h2 | ⟨g, cap, cur, hv, hB, hg, r⟩⟩ := h
  · exact ⟨h1, .inl h2⟩
  · exact ⟨h1, .inr ⟨g, cap, cur, hv, hB, (hb.block g (Array.getElem?_eq_some_iff.1 hg).1).trans hg, r⟩⟩
theorem own_base {w : World} {B B' : Nat} {e : TypeId} {z n : Nat} {v : Value} {xs : List Value} (h : w.ownsRow B e z v n xs) (hb : B' ≤ B) : w.ownsRow B' e z v n xs := by
  obtain ⟨h1, h2 | ⟨g, cap, cur, hv, hB, r⟩⟩ := h
  · exact ⟨h1, .inl h2⟩
  · exact ⟨h1, .inr ⟨g, cap, cur, hv, by omega, r⟩⟩
theorem shape_at {w : World} {p : Nat} {cs : Array Value} {t : TypeId} (h : w.heap[p]? = some (.cells cs t (0, 0))) : w.shape? p = some (t, cs.size) := by
  simp [World.shape?, h]
theorem shape_new (w : World) (cs : Array Value) (t : TypeId) : (w.alloc (.cells cs t)).shape? w.heap.size = some (t, cs.size) := shape_at (heap_alloc_new w _)
theorem setOther {w : World} {b k j : Nat} {o : Option Obj} (v : Value) (h : w.heap[k]? = o) (hk : k ≠ b) : (w.setCell ⟨b, j, none⟩ v).heap[k]? = o := (heap_set_other w b j k v hk).trans h
theorem belowSet {B b j : Nat} {w0 w : World} (v : Value) (h : Below B w0 w) (hb : B ≤ b) : Below B w0 (w.setCell ⟨b, j, none⟩ v) :=
  ⟨h.os, h.tape, h.output, by simpa using h.size, fun k hk => by rw [heap_set_other _ _ _ _ _ (by omega)]; exact h.block k hk⟩
theorem ownSet {B b j n : Nat} {e : TypeId} {z : Nat} {g : Value} {w : World} {xs : List Value} (v : Value) (h : w.ownsRow B e z g n xs) (hb : b < B) : (w.setCell ⟨b, j, none⟩ v).ownsRow B e z g n xs := by
  obtain ⟨h1, h2 | ⟨k, cap, cur, hv, hB, hg, r⟩⟩ := h
  · exact ⟨h1, .inl h2⟩
  · exact ⟨h1, .inr ⟨k, cap, cur, hv, hB, (heap_set_other _ _ _ _ _ (by omega)).trans hg, r⟩⟩
theorem two_heap (w : World) (o p : Obj) : ((w.alloc o).alloc p).heap[w.heap.size]? = some o ∧ ((w.alloc o).alloc p).heap[w.heap.size + 1]? = some p ∧ ((w.alloc o).alloc p).heap.size = w.heap.size + 2 := by
  refine ⟨?_, ?_, by simp⟩
  · rw [heap_alloc_old _ _ (by simp)]
    exact heap_alloc_new w _
  · have e : w.heap.size + 1 = (w.alloc o).heap.size := by simp
    rw [e]
    exact heap_alloc_new _ _
theorem below_out {W w w' : World} {F : Nat → Prop} (h : Below W.heap.size W w) (ho : Out F w w') (hF : ∀ k, F k → W.heap.size ≤ k) : Below W.heap.size W w' :=
  h.trans (ho.below h.size hF)
theorem own_out {F : Nat → Prop} {wa wb : World} {B : Nat} {e : TypeId} {z : Nat} {v : Value} {n : Nat} {xs : List Value} (h : wa.ownsRow B e z v n xs) (ho : Out F wa wb) (hF : ∀ k, F k → k < B) : wb.ownsRow B e z v n xs := by
  obtain ⟨h1, hn | ⟨g, cap, cur, hv, hb, hg, rest⟩⟩ := h
  · exact ⟨h1, .inl hn⟩
  · exact ⟨h1, .inr ⟨g, cap, cur, hv, hb, (ho.block g (Array.getElem?_eq_some_iff.1 hg).1 (fun hf => by have := hF g hf; omega)).trans hg, rest⟩⟩
theorem addN (b off j : Nat) : (⟨b, off, none⟩ : Addr).add j = ⟨b, off + j, none⟩ := by cases j <;> simp [Addr.add]
theorem grown_refl (w : World) (r : Option Nat) : w.grownBy w r := ⟨rfl, rfl, rfl, Nat.le_refl _, fun _ _ _ => rfl⟩
theorem below3 (w : World) (o p q : Obj) : Below w.heap.size w (((w.alloc o).alloc p).alloc q) := (below2 w o p).alloc (by simp; omega) q
theorem three_heap (w : World) (o p q : Obj) : (((w.alloc o).alloc p).alloc q).heap[w.heap.size]? = some o ∧ (((w.alloc o).alloc p).alloc q).heap[w.heap.size + 1]? = some p ∧ (((w.alloc o).alloc p).alloc q).heap[w.heap.size + 2]? = some q ∧ (((w.alloc o).alloc p).alloc q).heap.size = w.heap.size + 3 := by
  have ht := two_heap w o p
  refine ⟨?_, ?_, ?_, by simp⟩
  · rw [heap_alloc_old _ _ (by rw [ht.2.2]; omega)]
    exact ht.1
  · rw [heap_alloc_old _ _ (by rw [ht.2.2]; omega)]
    exact ht.2.1
  · have h := heap_alloc_new ((w.alloc o).alloc p) q
    rwa [ht.2.2] at h
theorem grown_none {w w' : World} (h : w.grownBy w' none) : Below w.heap.size w w' := (Out.ofGrown (F := fun _ => False) h (fun _ h => by cases h)).below (Nat.le_refl _) (fun _ h => h.elim)
theorem box_cell {w w1 : World} {cs : Array Value} {t : TypeId} (h : Below (w.alloc (.cells cs t)).heap.size (w.alloc (.cells cs t)) w1) (i : Nat) : w1.cell? ⟨w.heap.size, i, none⟩ = cs[i]? :=
  (h.cell (by simp)).trans (cell_at (heap_alloc_new w _) i)
theorem below_via {w w1 w2 : World} (h : Below w.heap.size w w1) (k : Below w1.heap.size w1 w2) : Below w.heap.size w w2 :=
  h.trans ⟨k.os, k.tape, k.output, k.size, fun i hi => k.block i (Nat.lt_of_lt_of_le hi h.size)⟩
def celC {α : Type} (enc : α → List Value) (l : List α) : List Value := (l.map enc).flatten
theorem celC_nil {α : Type} (enc : α → List Value) : celC enc [] = [] := rfl
theorem celC_cons {α : Type} (enc : α → List Value) (x : α) (l : List α) : celC enc (x :: l) = enc x ++ celC enc l := by simp [celC]
theorem celC_app {α : Type} (enc : α → List Value) (l k : List α) : celC enc (l ++ k) = celC enc l ++ celC enc k := by simp [celC]
theorem celC_len {α : Type} {enc : α → List Value} {k : Nat} (hk : ∀ x, (enc x).length = k) (l : List α) : (celC enc l).length = l.length * k := by
  induction l with
  | nil => simp [celC]
  | cons e l ih => rw [celC_cons, List.length_append, ih, hk, List.length_cons, Nat.succ_mul, Nat.add_comm]
theorem celC_get {α : Type} {enc : α → List Value} {k : Nat} (hk : ∀ x, (enc x).length = k) : ∀ (l : List α) (i : Nat) (h : i < l.length) (j : Nat), j < k → (celC enc l)[i * k + j]? = (enc l[i])[j]?
  | [], i, h, j, hj => by simp at h
  | x :: l, 0, h, j, hj => by
    rw [celC_cons, Nat.zero_mul, Nat.zero_add, List.getElem?_append_left (by rw [hk]; exact hj)]
    rfl
  | x :: l, i + 1, h, j, hj => by
    have ih := celC_get hk l i (by simpa using h) j hj
    have e : (i + 1) * k + j = k + (i * k + j) := by rw [Nat.add_mul, Nat.one_mul]; omega
    rw [celC_cons, List.getElem?_append_right (by rw [hk]; omega), hk, e, Nat.add_sub_cancel_left, ih]
    rfl
theorem celC_one {α : Type} {enc : α → List Value} (h1 : ∀ x, ∀ u ∈ enc x, u.oneCell' = true) (l : List α) : ∀ u ∈ celC enc l, u.oneCell' = true := by
  intro u hu
  unfold celC at hu
  rw [List.mem_flatten] at hu
  obtain ⟨r, hr, hu⟩ := hu
  obtain ⟨e, _, rfl⟩ := List.mem_map.1 hr
  exact h1 e u hu
theorem celC_take {α : Type} {enc : α → List Value} {k : Nat} (hk : ∀ x, (enc x).length = k) : ∀ (l : List α) (n : Nat), (celC enc l).take (n * k) = celC enc (l.take n)
  | [], n => by simp [celC]
  | x :: l, 0 => by simp [celC]
  | x :: l, n + 1 => by
    rw [celC_cons, List.take_succ_cons, celC_cons, ← celC_take hk l n, List.take_append, hk, List.take_of_length_le (by rw [hk, Nat.add_mul]; omega)]
    congr 2
    rw [Nat.add_mul]
    omega
theorem celC_drop {α : Type} {enc : α → List Value} {k : Nat} (hk : ∀ x, (enc x).length = k) : ∀ (l : List α) (n : Nat), (celC enc l).drop (n * k) = celC enc (l.drop n)
  | [], n => by simp [celC]
  | x :: l, 0 => by simp
  | x :: l, n + 1 => by
    rw [celC_cons, List.drop_succ_cons, ← celC_drop hk l n, List.drop_append, hk, List.drop_eq_nil_of_le (by rw [hk, Nat.add_mul]; omega), List.nil_append]
    congr 1
    rw [Nat.add_mul]
    omega
def SGot {α : Type} (k bytes : Nat) (enc : α → List Value) (w : World) (v : Value) (l : List α) : Prop :=
  l.length * bytes ≤ 140737488355328 ∧ ∃ a c, v = .slice a l.length c ∧ (l.length ≤ c ∧ c ≤ maxLen) ∧ (0 < l.length → ∃ b off, a = some ⟨b, off, none⟩ ∧ b < w.heap.size ∧ ∀ j, j < l.length * k → w.cell? ⟨b, off + j, none⟩ = (celC enc l)[j]?)
theorem SGot.nil {α : Type} (k bytes : Nat) (enc : α → List Value) (w : World) (a : Option Addr) (c : Nat) (hc : c ≤ maxLen) : SGot k bytes enc w (.slice a 0 c) [] := ⟨by simp, a, c, rfl, ⟨Nat.zero_le _, hc⟩, fun h => absurd h (by simp)⟩
theorem SGot.keep {α : Type} {k bytes : Nat} {enc : α → List Value} {w w' : World} {v : Value} {l : List α} (h : SGot k bytes enc w v l) (hb : Below w.heap.size w w') : SGot k bytes enc w' v l := by
  obtain ⟨h8, a, c, rfl, hcc, hr⟩ := h
  refine ⟨h8, a, c, rfl, hcc, fun hp => ?_⟩
  obtain ⟨b, off, rfl, hlt, hc⟩ := hr hp
  exact ⟨b, off, rfl, Nat.lt_of_lt_of_le hlt hb.size, fun j hj => (hb.cell hlt).trans (hc j hj)⟩
theorem SGot.blk {α : Type} {k bytes : Nat} {enc : α → List Value} {w : World} {a : Option Addr} {n c : Nat} {l : List α} (h : SGot k bytes enc w (.slice a n c) l) : 0 < l.length → ∀ b off, a = some ⟨b, off, none⟩ → b < w.heap.size := by
  intro hp b off e
  obtain ⟨_, a', c', e', _, hr⟩ := h
  simp only [Value.slice.injEq] at e'
  obtain ⟨b', off', e2, hlt, _⟩ := hr hp
  rw [e'.1, e2] at e
  simp only [Option.some.injEq, Addr.mk.injEq] at e
  rw [← e.1]
  exact hlt
theorem SGot.slice {α : Type} {k bytes : Nat} {enc : α → List Value} {w : World} {v : Value} {l : List α} (h : SGot k bytes enc w v l) : ∃ a c, v = .slice a l.length c := by
  obtain ⟨_, a, c, e, _⟩ := h
  exact ⟨a, c, e⟩
theorem SGot.cap {α : Type} {k bytes : Nat} {enc : α → List Value} {w : World} {a : Option Addr} {c : Nat} {l : List α} (h : SGot k bytes enc w (.slice a l.length c) l) : l.length ≤ c ∧ c ≤ maxLen := by
  obtain ⟨_, a', c', e, hcc, _⟩ := h
  simp only [Value.slice.injEq] at e
  rw [e.2.2]
  exact hcc
theorem SGot.turn {α : Type} {k bytes : Nat} {enc : α → List Value} {F : Nat → Prop} {w w' : World} {v : Value} {l : List α} (h : SGot k bytes enc w v l) (ho : Out F w w') (hF : 0 < l.length → ∀ b off n c, v = .slice (some ⟨b, off, none⟩) n c → ¬ F b) : SGot k bytes enc w' v l := by
  obtain ⟨h8, a, c, rfl, hcc, hr⟩ := h
  refine ⟨h8, a, c, rfl, hcc, fun hp => ?_⟩
  obtain ⟨b, off, rfl, hlt, hc⟩ := hr hp
  refine ⟨b, off, rfl, Nat.lt_of_lt_of_le hlt ho.size, fun j hj => ?_⟩
  rw [← hc j hj]
  have := ho.block b hlt (hF hp b off _ _ rfl)
  simp [World.cell?, this]
theorem own_sgot {α : Type} {k bytes : Nat} {enc : α → List Value} {w : World} {B : Nat} {e : TypeId} {v : Value} {l : List α} (h : w.ownsRow B e k v l.length (celC enc l)) (h8 : l.length * bytes ≤ 140737488355328) : SGot k bytes enc w v l := by
  obtain ⟨_, ⟨rfl, h0⟩ | ⟨g, cap, cur, rfl, hB, hg, hn, hc, hs, ht⟩⟩ := h
  · rw [List.length_eq_zero_iff] at h0
    subst h0
    exact SGot.nil _ _ _ _ _ _ (Nat.zero_le _)
  · refine ⟨h8, _, cap, rfl, ⟨hn, hc⟩, fun _ => ⟨g, 0, rfl, (Array.getElem?_eq_some_iff.1 hg).1, fun j hj => ?_⟩⟩
    rw [cell_at hg, Nat.zero_add, ← ht, List.getElem?_take, if_pos (by omega)]
    simp
theorem own_nil {k : Nat} {e : TypeId} (w : World) (B : Nat) : w.ownsRow B e k (.slice none 0 0) 0 [] := World.ownsRow_nil w B e k
theorem grown_own {W w w' : World} {B : Nat} {e : TypeId} {z n : Nat} {v : Value} {xs : List Value} (h : w.grownBy w' v.ownBlock) (ho : w.ownsRow B e z v n xs) (hB : W.heap.size ≤ B) (hb : Below W.heap.size W w) : Below W.heap.size W w' :=
  below_out hb (Out.ofGrown (F := fun k => W.heap.size ≤ k) h (fun k hk => by have := ho.lt k hk; omega)) (fun _ h => h)
theorem app1 {α : Type} {k bytes : Nat} {enc : α → List Value} {t e : TypeId} {z : Value} (hk : ∀ x, (enc x).length = k) (h1 : ∀ x, ∀ u ∈ enc x, u.oneCell' = true) (ht : Try.prog.underlying t = some (.slice e))
    (hi : (Try.prog.info? e).map (fun i => (i.zero, i.size, i.bytes)) = some (some z, k, bytes)) (hz : z.cells.size = k) (hk0 : 0 < k) (w : World) (B : Nat) (v : Value) (l : List α) (x : α) (b c : Nat) (hB : B ≤ w.heap.size)
    (ho : w.ownsRow B e k v l.length (celC enc l)) (hc : w.heap[b]? = some (.cells (enc x).toArray e (0, 0))) (hl : (l.length + 1) * bytes ≤ 140737488355328) (hm : l.length + 1 ≤ maxLen) :
    ∃ v' w', (Builtin.append_ #[t, t] t #[v, .slice (some ⟨b, 0, none⟩) 1 c]).run Try.prog w = .ok v' w' ∧ w'.ownsRow B e k v' (l ++ [x]).length (celC enc (l ++ [x])) ∧ w.grownBy w' v.ownBlock := by
  obtain ⟨i, hi, hz0, hz1, hz2⟩ := info_parts hi
  obtain ⟨v', w', r1, r2, r3, _⟩ := run_append_own (P := Try.prog) w B t t e i _ k bytes ht hi hz0 hz1 hz2 hz hk0 v l.length (celC enc l) ho ⟨b, 0, none⟩ 1 c (enc x) (by rw [hk, Nat.one_mul]) (fun j u hu => by
    rw [addN, cell_at hc, Nat.zero_add]
    simpa using hu) (h1 x) hm hl hB
  refine ⟨v', w', r1, ?_, r3⟩
  rw [List.length_append, celC_app, show celC enc [x] = enc x by simp [celC]]
  exact r2
theorem own_type {w w' : World} {B B' : Nat} {e e' : TypeId} {z z' n n' : Nat} {v v' : Value} {xs xs' : List Value} (h : w.grownBy w' v.ownBlock) (ho : w.ownsRow B e z v n xs) (ho' : w.ownsRow B' e' z' v' n' xs') (hne : e ≠ e') : w'.ownsRow B' e' z' v' n' xs' := by
  refine ho'.kept h ?_
  obtain ⟨_, ⟨rfl, _⟩ | ⟨g, cap, cur, rfl, hg, hc, _⟩⟩ := ho'
  · exact .inl rfl
  · refine .inr (fun e => ?_)
    obtain ⟨_, ⟨rfl, _⟩ | ⟨g2, cap2, cur2, rfl, hg2, hc2, _⟩⟩ := ho
    · cases e
    · simp only [Value.ownBlock, Option.some.injEq] at e
      subst e
      rw [hc] at hc2
      simp at hc2
      exact hne hc2.2.symm
theorem box_type {w w' : World} {B D : Nat} {e t : TypeId} {z n : Nat} {v : Value} {xs : List Value} {cs : Array Value} (h : w.grownBy w' v.ownBlock) (ho : w.ownsRow B e z v n xs) (hd : w.heap[D]? = some (.cells cs t (0, 0))) (hne : e ≠ t) : w'.heap[D]? = some (.cells cs t (0, 0)) := by
  refine (h.block D (Array.getElem?_eq_some_iff.1 hd).1 (fun e => ?_)).trans hd
  obtain ⟨_, ⟨rfl, _⟩ | ⟨g2, cap2, cur2, rfl, hg2, hc2, _⟩⟩ := ho
  · cases e
  · simp only [Value.ownBlock, Option.some.injEq] at e
    subst e
    rw [hd] at hc2
    simp at hc2
    exact hne hc2.2.symm
theorem own_cell {w : World} {B D j : Nat} {e t : TypeId} {z n : Nat} {v u : Value} {xs : List Value} {cs : Array Value} (ho : w.ownsRow B e z v n xs) (hd : w.heap[D]? = some (.cells cs t (0, 0))) (hne : e ≠ t) : (w.setCell ⟨D, j, none⟩ u).ownsRow B e z v n xs := by
  obtain ⟨h1, hn | ⟨g, cap, cur, hv, hb, hg, rest⟩⟩ := ho
  · exact ⟨h1, .inl hn⟩
  · refine ⟨h1, .inr ⟨g, cap, cur, hv, hb, (heap_set_other _ _ _ _ _ (fun e => ?_)).trans hg, rest⟩⟩
    rw [e, hd] at hg
    simp at hg
    exact hne hg.2.symm
theorem own_at {w : World} {B g c : Nat} {e : TypeId} {z n j : Nat} {u : Value} {xs : List Value} (ho : w.ownsRow B e z (.slice (some ⟨g, 0, none⟩) n c) n xs) (hj : j < n * z) : (w.setCell ⟨g, j, none⟩ u).ownsRow B e z (.slice (some ⟨g, 0, none⟩) n c) n (xs.set j u) := by
  obtain ⟨h1, ⟨hv, _⟩ | ⟨g', cap, cur, hv, hb, hg, hn, hc, hs, ht⟩⟩ := ho
  · simp at hv
  · simp only [Value.slice.injEq, Option.some.injEq, Addr.mk.injEq, and_true, true_and] at hv
    obtain ⟨rfl, rfl⟩ := hv
    refine ⟨by rw [List.length_set]; exact h1, .inr ⟨g, c, cur.setIfInBounds j u, rfl, hb, heap_set hg j u, hn, hc, by simp [hs], ?_⟩⟩
    rw [Array.toList_setIfInBounds, List.take_set, ht]
theorem grown_at {w : World} {g j n c : Nat} {u : Value} : w.grownBy (w.setCell ⟨g, j, none⟩ u) (Value.slice (some ⟨g, 0, none⟩) n c).ownBlock :=
  ⟨rfl, rfl, rfl, by simp, fun k _ hk => heap_set_other _ _ _ _ _ (fun e => hk (by rw [e]; rfl))⟩
theorem blkK {w w' : World} {k : Nat} {x : Obj} (h : w.heap[k]? = some x) (hb : Below w.heap.size w w') : w'.heap[k]? = some x := (hb.block _ (Array.getElem?_eq_some_iff.1 h).1).trans h
theorem own_ne {w : World} {B k j : Nat} {e : TypeId} {z n : Nat} {v u : Value} {xs : List Value} (ho : w.ownsRow B e z v n xs) (hk : v.ownBlock ≠ some k) : (w.setCell ⟨k, j, none⟩ u).ownsRow B e z v n xs := by
  obtain ⟨h1, hn | ⟨g, cap, cur, hv, hb, hg, rest⟩⟩ := ho
  · exact ⟨h1, .inl hn⟩
  · refine ⟨h1, .inr ⟨g, cap, cur, hv, hb, (heap_set_other _ _ _ _ _ (fun e => hk ?_)).trans hg, rest⟩⟩
    rw [hv, ← e]
    rfl
theorem row_setG {w : World} {B n g j z : Nat} {e : TypeId} {v u : Value} {xs : List Value} {cur : Array Value} (ho : w.ownsRow B e z v n xs) (hg : w.heap[g]? = some (.cells cur e (0, 0))) : ∃ ys, (w.setCell ⟨g, j, none⟩ u).ownsRow B e z v n ys := by
  obtain ⟨h1, hn | ⟨g', cap, cur', hv, hb, hg', hnc, hcm, hs, ht⟩⟩ := ho
  · exact ⟨xs, h1, .inl hn⟩
  · by_cases e1 : g' = g
    · subst e1
      refine ⟨(cur'.setIfInBounds j u).toList.take (n * z), ?_, .inr ⟨g', cap, cur'.setIfInBounds j u, hv, hb, heap_set hg' j u, hnc, hcm, by simp [hs], rfl⟩⟩
      rw [List.length_take]
      simp [hs]
      rw [Nat.min_eq_left hnc]
    · exact ⟨xs, h1, .inr ⟨g', cap, cur', hv, hb, (heap_set_other _ _ _ _ _ e1).trans hg', hnc, hcm, hs, ht⟩⟩
theorem row_atG {w : World} {B n z : Nat} {e : TypeId} {v : Value} {xs : List Value} (ho : w.ownsRow B e z v n xs) (q : Nat) (hq : q < z) : ∃ a c, v = .slice a n c ∧ ∀ i, i < n → ∃ g off cur u, a = some ⟨g, off, none⟩ ∧ B ≤ g ∧ w.heap[g]? = some (.cells cur e (0, 0)) ∧ g < w.heap.size ∧ w.cell? ⟨g, off + i * z + q, none⟩ = some u ∧ w.frozen? ⟨g, off + i * z + q, none⟩ = false := by
  obtain ⟨h1, ⟨rfl, rfl⟩ | ⟨g, cap, cur, rfl, hb, hg, hnc, hcm, hs, ht⟩⟩ := ho
  · exact ⟨_, _, rfl, fun i hi => by omega⟩
  · refine ⟨_, _, rfl, fun i hi => ?_⟩
    have hlt : 0 + i * z + q < cur.size := by
      rw [hs]
      have : (i + 1) * z ≤ cap * z := Nat.mul_le_mul_right _ (by omega)
      rw [Nat.add_mul, Nat.one_mul] at this
      omega
    exact ⟨g, 0, cur, cur[0 + i * z + q], rfl, hb, hg, (Array.getElem?_eq_some_iff.1 hg).1, by rw [cell_at hg, Array.getElem?_eq_getElem hlt], free_at hg _⟩
theorem ty_set {W : World} {b j k : Nat} {u : Value} {cs cur : Array Value} {t e : TypeId} (h : W.heap[b]? = some (.cells cs t (0, 0))) (hg : W.heap[k]? = some (.cells cur e (0, 0))) (hne : t ≠ e) : (W.setCell ⟨k, j, none⟩ u).heap[b]? = some (.cells cs t (0, 0)) :=
  setOther _ h (fun e1 => by rw [e1, hg] at h; simp at h; exact hne h.2.symm)
theorem four5_at {w : World} {p : Nat} {t : TypeId} {a b c d : Value} (h : w.heap[p]? = some (.cells #[a, b, c, d] t (0, 0))) : (w.cell? ⟨p, 0, none⟩ = some a ∧ w.cell? ⟨p, 1, none⟩ = some b ∧ w.cell? ⟨p, 2, none⟩ = some c ∧ w.cell? ⟨p, 3, none⟩ = some d) ∧ (∀ j, w.frozen? ⟨p, j, none⟩ = false) ∧ p < w.heap.size :=
  ⟨⟨by rw [cell_at h]; rfl, by rw [cell_at h]; rfl, by rw [cell_at h]; rfl, by rw [cell_at h]; rfl⟩, fun j => free_at h j, (Array.getElem?_eq_some_iff.1 h).1⟩
theorem three_at {w : World} {p : Nat} {t : TypeId} {a b c : Value} (h : w.heap[p]? = some (.cells #[a, b, c] t (0, 0))) : w.cell? ⟨p, 0, none⟩ = some a ∧ w.cell? ⟨p, 1, none⟩ = some b ∧ w.cell? ⟨p, 2, none⟩ = some c ∧ (∀ j, w.frozen? ⟨p, j, none⟩ = false) ∧ p < w.heap.size :=
  ⟨by rw [cell_at h]; rfl, by rw [cell_at h]; rfl, by rw [cell_at h]; rfl, fun j => free_at h j, (Array.getElem?_eq_some_iff.1 h).1⟩
theorem own_cells3 {w : World} {B n : Nat} {e : TypeId} {z : Nat} {v : Value} {xs : List Value} (h : w.ownsRow B e z v n xs) (hn : 0 < n) : ∃ g c, v = .slice (some ⟨g, 0, none⟩) n c ∧ g < w.heap.size ∧ ∀ j u, xs[j]? = some u → w.cell? ⟨g, j, none⟩ = some u := by
  have hc := fun g hg => h.cells (g := g) hg
  obtain ⟨h1, ⟨rfl, h0⟩ | ⟨g, cap, cur, rfl, hB, hg, r⟩⟩ := h
  · omega
  · refine ⟨g, cap, rfl, (Array.getElem?_eq_some_iff.1 hg).1, fun j u hu => ?_⟩
    have := hc g rfl j u hu
    rwa [addN, Nat.zero_add] at this
theorem row_block {w : World} {B n k : Nat} {e : TypeId} {z : Nat} {v : Value} {xs : List Value} (h : w.ownsRow B e z v n xs) (hk : v.ownBlock = some k) : B ≤ k := (h.lt k hk).1
theorem five5_at {w : World} {p : Nat} {t : TypeId} {a b c d e : Value} (h : w.heap[p]? = some (.cells #[a, b, c, d, e] t (0, 0))) : (w.cell? ⟨p, 0, none⟩ = some a ∧ w.cell? ⟨p, 1, none⟩ = some b ∧ w.cell? ⟨p, 2, none⟩ = some c ∧ w.cell? ⟨p, 3, none⟩ = some d ∧ w.cell? ⟨p, 4, none⟩ = some e) ∧ (∀ j, w.frozen? ⟨p, j, none⟩ = false) ∧ p < w.heap.size :=
  ⟨⟨by rw [cell_at h]; rfl, by rw [cell_at h]; rfl, by rw [cell_at h]; rfl, by rw [cell_at h]; rfl, by rw [cell_at h]; rfl⟩, fun j => free_at h j, (Array.getElem?_eq_some_iff.1 h).1⟩
theorem step_app_runK {ops : Array Oper} {o : Oper} {a : Act} {w : World} {K : Act → World → Prop} {Q : Exit → Act → World → Prop} {E : Prop}
    (hg : o.guard = none) (d x : Operand) (dT sT : TypeId) (hop : o.op = Op.call { callee := Callee.builtin Builtin.append, args := #[d, x], argTypes := #[dT, sT] })
    (v u : Value) (hd : a.eval d = v) (hx : a.eval x = u) {v' : Value} {w' : World} (hr : (Builtin.append_ #[dT, sT] o.type #[v, u]).run Try.prog w = .ok v' w') (hK : K (a.put o.dst v') w') :
    if Region.wanted o (yielded ops a.tmps) = true then Oper.wp Try.prog o a w K Q else E := by
  have hw : Region.wanted o (yielded ops a.tmps) = true := by simp [Region.wanted, hg]
  rw [if_pos hw]
  unfold Oper.wp
  simp [execOp, hop, resolve, invoke, builtin, hd, hx, hr, Result.andThen]
  exact hK
end Go.Proofs.Ytagfolckodpioaa.K2
