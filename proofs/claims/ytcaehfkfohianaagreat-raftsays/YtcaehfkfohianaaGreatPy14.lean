/- Texts of my own, laid together. -/
import Derived.Test.YtcaehfkfohianaaGreatPy13
import Derived.Maps.OwnSet
import Derived.Lib.SlKeysI
import Derived.Lib.AppendZeros
import Derived.Deep.RegionHeld3
import Derived.Deep.RegionLaw
import Derived.Deep.CutRange
set_option linter.all false
namespace Go.Proofs.YtcaehfkfohianaaGreat
open Go.RowKit Go.Maps
def heldR (v : Value) : Option (DataW Value × List MemPlace) := some (.held v, [])
theorem ownsMap_block {w w' : World} {b n : Nat} {D : DataW Value} (h : w.ownsMap Tryz.prog 3 heldR b n D) (hb : w'.heap[b]? = w.heap[b]?) : w'.ownsMap Tryz.prog 3 heldR b n D := by
 obtain ⟨es, clock, hb', r⟩ := h
 exact ⟨es, clock, hb.trans hb', r⟩
def keyL (x : Int) : Lit := .int .i64 x
theorem wf64 (x : Int) (h1 : -9223372036854775808 ≤ x) (h2 : x ≤ 9223372036854775807) : (Lit.int .i64 x).wf = true := by
 have e1 : IntKind.i64.min = -9223372036854775808 := by decide
 have e2 : IntKind.i64.max = 9223372036854775807 := by decide
 simp [Lit.wf, e1, e2]; omega
abbrev Funs := Int → Option Value
def FM (w : World) (mb c : Nat) (f : Funs) : Prop := ∃ n D, n ≤ c ∧ w.ownsMap Tryz.prog 3 heldR mb n D ∧ (∀ x p, f x = some p → ∀ z, D.atKey (keyL x) z = .held p) ∧ ∀ x, f x = none → ∀ z, D.atKey (keyL x) z = z
theorem FM.made (w : World) : FM (w.alloc (.map #[] 0)) w.heap.size 0 (fun _ => none) :=
 ⟨0, .map [], Nat.le_refl _, World.ownsMap_made w Tryz.prog 3 heldR, (fun x p h => by cases h), fun x _ z => rfl⟩
theorem FM.block {w w' : World} {mb c : Nat} {f : Funs} (h : FM w mb c f) (hb : w'.heap[mb]? = w.heap[mb]?) : FM w' mb c f := by
 obtain ⟨n, D, h1, h2, h3, h4⟩ := h
 exact ⟨n, D, h1, ownsMap_block h2 hb, h3, h4⟩
theorem FM.lt {w : World} {mb c : Nat} {f : Funs} (h : FM w mb c f) : mb < w.heap.size := by
 obtain ⟨n, D, h1, h2, h3, h4⟩ := h;exact h2.lt
theorem FM.keep {w w' : World} {mb c : Nat} {f : Funs} (h : FM w mb c f) (hb : Below w.heap.size w w') : FM w' mb c f := h.block (hb.block mb h.lt)
theorem FM.look_ok {w : World} {mb c : Nat} {f : Funs} {t e : TypeId} (h : FM w mb c f) (ht : Tryz.prog.underlying t = some (.map 3 e)) (hz : (zeroValue e).run Tryz.prog w = .ok .nilFunc w) (x : Int) (hx : (Lit.int .i64 x).wf = true) : (Instr.lookup t (.map (some mb)) (.int .i64 x) true).run Tryz.prog w = .ok (match f x with | some p => .tuple #[p, .bool true] | none => .tuple #[.nilFunc, .bool false]) w := by
 obtain ⟨n, D, h1, h2, h3, h4⟩ := h;obtain ⟨v, ps, hrun, hv⟩ := h2.look_ok (int_keyed Tryz.underlying3) ht hz (zd := .held .nilFunc) (zp := []) rfl (key := .int .i64 x) (kl := keyL x) (keyOf_int_mk Tryz.underlying3 hx);cases hf : f x with
 | none =>
  rw [h4 x hf] at hv
  simp [heldR] at hv
  rw [hrun, hv.1, has_false_of_atKey (h4 x hf)]
 | some p =>
  rw [h3 x p hf] at hv
  simp [heldR] at hv
  rw [hrun, hv.1, has_true_of_atKey (h3 x p hf)]
theorem FM.look {w : World} {mb c : Nat} {f : Funs} {t e : TypeId} (h : FM w mb c f) (ht : Tryz.prog.underlying t = some (.map 3 e)) (hz : (zeroValue e).run Tryz.prog w = .ok .nilFunc w) (x : Int) (hx : (Lit.int .i64 x).wf = true) (p : Value) (hf : f x = some p) : (Instr.lookup t (.map (some mb)) (.int .i64 x) false).run Tryz.prog w = .ok p w := by
 obtain ⟨n, D, h1, h2, h3, h4⟩ := h;obtain ⟨v, ps, hrun, hv⟩ := h2.lookup (int_keyed Tryz.underlying3) ht hz (zd := .held .nilFunc) (zp := []) rfl (key := .int .i64 x) (kl := keyL x) (keyOf_int_mk Tryz.underlying3 hx);rw [h3 x p hf] at hv
 simp [heldR] at hv
 rw [hrun, hv.1]
def updF (f : Funs) (x : Int) (p : Value) : Funs := fun j => if j = x then some p else f j
theorem FM.store {w : World} {mb c : Nat} {f : Funs} {t e : TypeId} (h : FM w mb c f) (ht : Tryz.prog.underlying t = some (.map 3 e)) (hc : c ≤ 1000000) (x : Int) (hx : (Lit.int .i64 x).wf = true) (p : Value) : ∃ w', (Instr.mapUpdate t (.map (some mb)) (.int .i64 x) p).run Tryz.prog w = .ok () w' ∧ FM w' mb (c + 1) (updF f x p) ∧ w.grownBy w' (some mb) := by
 obtain ⟨n, D, h1, h2, h3, h4⟩ := h;obtain ⟨w', hrun, hown, hturn⟩ := h2.store (int_keyed Tryz.underlying3) ht (by unfold maxLen; omega) (val := p) (keyOf_int_mk Tryz.underlying3 hx) (d := .held p) (ps := []) rfl
 have hne : ∀ y : Int, y ≠ x → keyL y ≠ keyL x := fun y hy e => hy (by simpa [keyL] using e)
 refine ⟨w', hrun, ⟨n + 1, _, by omega, hown, fun y q hy z => ?_, fun y hy z => ?_⟩, hturn.grown⟩
 ·unfold updF at hy
  by_cases e : y = x
  ·subst e;rw [if_pos rfl] at hy;cases hy;exact atKey_put_same h2.isMap (show WideAt.IsKeyLit (keyL y) from trivial) _ z
  ·rw [if_neg e] at hy;exact (atKey_put_other (hne y e) _ z).trans (h3 y q hy z)
 ·unfold updF at hy
  by_cases e : y = x
  ·subst e;rw [if_pos rfl] at hy;cases hy
  ·rw [if_neg e] at hy;exact (atKey_put_other (hne y e) _ z).trans (h4 y hy z)
theorem below_map {mb : Nat} {w0 w w' : World} (h : Below w0.heap.size w0 w) (hg : w.grownBy w' (some mb)) (hm : w0.heap.size ≤ mb) : Below w0.heap.size w0 w' :=
 below_out h (Out.ofGrown (F := fun k => w0.heap.size ≤ k) hg (fun k hk => by cases hk; exact hm)) (fun _ h => h)
def fnV (k : Nat) : Value := .func (.func k) #[] #[]
def evF : Funs := updF (updF (updF (updF (fun _ => none) 1 (fnV 53)) 2 (fnV 54)) 3 (fnV 55)) 4 (fnV 56)
set_option maxRecDepth 100000 in
set_option maxHeartbeats 4000000 in
theorem events_is (w : World) : Calls Tryz.prog 28 #[] w fun e w' => ∃ mb, e = .returned (.map (some mb)) ∧ FM w' mb 4 evF ∧ w.heap.size ≤ mb ∧ Below w.heap.size w w' := by
 have i0 := FM.made w;obtain ⟨w1, r1, i1, g1⟩ := i0.store Tryz.underlying75 (by omega) 1 (wf64 1 (by omega) (by omega)) (fnV 53);obtain ⟨w2, r2, i2, g2⟩ := i1.store Tryz.underlying75 (by omega) 2 (wf64 2 (by omega) (by omega)) (fnV 54);obtain ⟨w3, r3, i3, g3⟩ := i2.store Tryz.underlying75 (by omega) 3 (wf64 3 (by omega) (by omega)) (fnV 55);obtain ⟨w4, r4, i4, g4⟩ := i3.store Tryz.underlying75 (by omega) 4 (wf64 4 (by omega) (by omega)) (fnV 56);have HF := hideIt (And.intro i4 (below_map (below_map (below_map (below_map ((Below.refl _ w).alloc (Nat.le_refl _) _) g1 (Nat.le_refl _)) g2 (Nat.le_refl _)) g3 (Nat.le_refl _)) g4 (Nat.le_refl _)));clear i0 i1 i2 i3 i4 g1 g2 g3 g4;unfold fnV at r1 r2 r3 r4
 go_enter Tryz.func28, Tryz.ntmps28
 have r0 := run_makeMap (P := Tryz.prog) 75 w;go_wp2;go_ret
 exact ⟨_, rfl, HF.out.1, Nat.le_refl _, HF.out.2⟩
def msF : Funs := updF (updF (updF (updF (updF (fun _ => none) 1 (fnV 141)) 2 (fnV 142)) 3 (fnV 143)) 5 (fnV 143)) 4 (fnV 144)
set_option maxRecDepth 100000 in
set_option maxHeartbeats 4000000 in
theorem messages_is (w : World) : Calls Tryz.prog 98 #[] w fun e w' => ∃ mb, e = .returned (.map (some mb)) ∧ FM w' mb 5 msF ∧ w.heap.size ≤ mb ∧ Below w.heap.size w w' := by
 have i0 := FM.made w;obtain ⟨w1, r1, i1, g1⟩ := i0.store Tryz.underlying130 (by omega) 1 (wf64 1 (by omega) (by omega)) (fnV 141);obtain ⟨w2, r2, i2, g2⟩ := i1.store Tryz.underlying130 (by omega) 2 (wf64 2 (by omega) (by omega)) (fnV 142);obtain ⟨w3, r3, i3, g3⟩ := i2.store Tryz.underlying130 (by omega) 3 (wf64 3 (by omega) (by omega)) (fnV 143);obtain ⟨w4, r4, i4, g4⟩ := i3.store Tryz.underlying130 (by omega) 5 (wf64 5 (by omega) (by omega)) (fnV 143);obtain ⟨w5, r5, i5, g5⟩ := i4.store Tryz.underlying130 (by omega) 4 (wf64 4 (by omega) (by omega)) (fnV 144);have HF := hideIt (And.intro i5 (below_map (below_map (below_map (below_map (below_map ((Below.refl _ w).alloc (Nat.le_refl _) _) g1 (Nat.le_refl _)) g2 (Nat.le_refl _)) g3 (Nat.le_refl _)) g4 (Nat.le_refl _)) g5 (Nat.le_refl _)));clear i0 i1 i2 i3 i4 i5 g1 g2 g3 g4 g5;unfold fnV at r1 r2 r3 r4 r5
 go_enter Tryz.func98, Tryz.ntmps98
 have r0 := run_makeMap (P := Tryz.prog) 130 w;go_wp2;go_ret
 exact ⟨_, rfl, HF.out.1, Nat.le_refl _, HF.out.2⟩
theorem ev_none {k : Int} (h : ¬ (1 ≤ k ∧ k ≤ 4)) : evF k = none := by
 unfold evF updF;rw [if_neg (by omega), if_neg (by omega), if_neg (by omega), if_neg (by omega)]
end Go.Proofs.YtcaehfkfohianaaGreat
namespace Go.Proofs.YtcaehfkfohianaaGreat
open Go.RowKit
def celC {α : Type} (enc : α → List Value) (l : List α) : List Value := (l.map enc).flatten
theorem celC_cons {α : Type} (enc : α → List Value) (x : α) (l : List α) : celC enc (x :: l) = enc x ++ celC enc l := by simp [celC]
theorem celC_app {α : Type} (enc : α → List Value) (l k : List α) : celC enc (l ++ k) = celC enc l ++ celC enc k := by simp [celC]
theorem celC_len {α : Type} {enc : α → List Value} {k : Nat} (hk : ∀ x, (enc x).length = k) (l : List α) : (celC enc l).length = l.length * k := by
 induction l with
 | nil => simp [celC]
 | cons e l ih => rw [celC_cons, List.length_append, ih, hk, List.length_cons, Nat.succ_mul, Nat.add_comm]
theorem celC_get {α : Type} {enc : α → List Value} {k : Nat} (hk : ∀ x, (enc x).length = k) : ∀ (l : List α) (i : Nat) (h : i < l.length) (j : Nat), j < k → (celC enc l)[i * k + j]? = (enc l[i])[j]?
 | [], i, h, j, hj => by simp at h
 | x :: l, 0, h, j, hj => by
  rw [celC_cons, Nat.zero_mul, Nat.zero_add, List.getElem?_append_left (by rw [hk]; exact hj)]
  rfl
 | x :: l, i + 1, h, j, hj => by
  have ih := celC_get hk l i (by simpa using h) j hj;have e : (i + 1) * k + j = k + (i * k + j) := by rw [Nat.add_mul, Nat.one_mul]; omega
  rw [celC_cons, List.getElem?_append_right (by rw [hk]; omega), hk, e, Nat.add_sub_cancel_left, ih]
  rfl
theorem celC_one {α : Type} {enc : α → List Value} (h1 : ∀ x, ∀ u ∈ enc x, u.oneCell' = true) (l : List α) : ∀ u ∈ celC enc l, u.oneCell' = true := by
 intro u hu;unfold celC at hu;rw [List.mem_flatten] at hu;obtain ⟨r, hr, hu⟩ := hu;obtain ⟨e, _, rfl⟩ := List.mem_map.1 hr;exact h1 e u hu
def SGot {α : Type} (k bytes : Nat) (enc : α → List Value) (w : World) (v : Value) (l : List α) : Prop :=
 l.length * bytes ≤ 140737488355328 ∧ ∃ a c, v = .slice a l.length c ∧ (l.length ≤ c ∧ c ≤ maxLen) ∧ (0 < l.length → ∃ b off, a = some ⟨b, off, none⟩ ∧ b < w.heap.size ∧ ∀ j, j < l.length * k → w.cell? ⟨b, off + j, none⟩ = (celC enc l)[j]?)
theorem SGot.nil {α : Type} (k bytes : Nat) (enc : α → List Value) (w : World) (a : Option Addr) (c : Nat) (hc : c ≤ maxLen) : SGot k bytes enc w (.slice a 0 c) [] := ⟨by simp, a, c, rfl, ⟨Nat.zero_le _, hc⟩, fun h => absurd h (by simp)⟩
theorem SGot.keep {α : Type} {k bytes : Nat} {enc : α → List Value} {w w' : World} {v : Value} {l : List α} (h : SGot k bytes enc w v l) (hb : Below w.heap.size w w') : SGot k bytes enc w' v l := by
 obtain ⟨h8, a, c, rfl, hcc, hr⟩ := h;refine ⟨h8, a, c, rfl, hcc, fun hp => ?_⟩;obtain ⟨b, off, rfl, hlt, hc⟩ := hr hp
 exact ⟨b, off, rfl, Nat.lt_of_lt_of_le hlt hb.size, fun j hj => (hb.cell hlt).trans (hc j hj)⟩
theorem SGot.blk {α : Type} {k bytes : Nat} {enc : α → List Value} {w : World} {a : Option Addr} {n c : Nat} {l : List α} (h : SGot k bytes enc w (.slice a n c) l) : 0 < l.length → ∀ b off, a = some ⟨b, off, none⟩ → b < w.heap.size := by
 intro hp b off e;obtain ⟨_, a', c', e', _, hr⟩ := h;simp only [Value.slice.injEq] at e';obtain ⟨b', off', e2, hlt, _⟩ := hr hp;rw [e'.1, e2] at e;simp only [Option.some.injEq, Addr.mk.injEq] at e;rw [← e.1];exact hlt
theorem SGot.slice {α : Type} {k bytes : Nat} {enc : α → List Value} {w : World} {v : Value} {l : List α} (h : SGot k bytes enc w v l) : ∃ a c, v = .slice a l.length c := by
 obtain ⟨_, a, c, e, _⟩ := h
 exact ⟨a, c, e⟩
theorem SGot.cap {α : Type} {k bytes : Nat} {enc : α → List Value} {w : World} {a : Option Addr} {c : Nat} {l : List α} (h : SGot k bytes enc w (.slice a l.length c) l) : l.length ≤ c ∧ c ≤ maxLen := by
 obtain ⟨_, a', c', e, hcc, _⟩ := h;simp only [Value.slice.injEq] at e;rw [e.2.2];exact hcc
theorem own_sgot {α : Type} {k bytes : Nat} {enc : α → List Value} {w : World} {B : Nat} {e : TypeId} {v : Value} {l : List α} (h : w.ownsRow B e k v l.length (celC enc l)) (h8 : l.length * bytes ≤ 140737488355328) : SGot k bytes enc w v l := by
 obtain ⟨_, ⟨rfl, h0⟩ | ⟨g, cap, cur, rfl, hB, hg, hn, hc, hs, ht⟩⟩ := h
 ·rw [List.length_eq_zero_iff] at h0;subst h0;exact SGot.nil _ _ _ _ _ _ (Nat.zero_le _)
 ·refine ⟨h8, _, cap, rfl, ⟨hn, hc⟩, fun _ => ⟨g, 0, rfl, (Array.getElem?_eq_some_iff.1 hg).1, fun j hj => ?_⟩⟩;rw [cell_at hg, Nat.zero_add, ← ht, List.getElem?_take, if_pos (by omega)]
  simp
theorem nil_own {k : Nat} {e : TypeId} (w : World) (B : Nat) : w.ownsRow B e k (.slice none 0 0) 0 [] := World.ownsRow_nil w B e k
theorem own_type {w w' : World} {B B' : Nat} {e e' : TypeId} {z z' n n' : Nat} {v v' : Value} {xs xs' : List Value} (h : w.grownBy w' v.ownBlock) (ho : w.ownsRow B e z v n xs) (ho' : w.ownsRow B' e' z' v' n' xs') (hne : e ≠ e') : w'.ownsRow B' e' z' v' n' xs' := by
 refine ho'.kept h ?_;obtain ⟨_, ⟨rfl, _⟩ | ⟨g, cap, cur, rfl, hg, hc, _⟩⟩ := ho'
 ·exact .inl rfl
 ·refine .inr (fun e => ?_);obtain ⟨_, ⟨rfl, _⟩ | ⟨g2, cap2, cur2, rfl, hg2, hc2, _⟩⟩ := ho
  ·cases e
  ·simp only [Value.ownBlock, Option.some.injEq] at e;subst e;rw [hc] at hc2
   simp at hc2
   exact hne hc2.2.symm
theorem box_type {w w' : World} {B D : Nat} {e t : TypeId} {z n : Nat} {v : Value} {xs : List Value} {cs : Array Value} (h : w.grownBy w' v.ownBlock) (ho : w.ownsRow B e z v n xs) (hd : w.heap[D]? = some (.cells cs t (0, 0))) (hne : e ≠ t) : w'.heap[D]? = some (.cells cs t (0, 0)) := by
 refine (h.block D (Array.getElem?_eq_some_iff.1 hd).1 (fun e => ?_)).trans hd;obtain ⟨_, ⟨rfl, _⟩ | ⟨g2, cap2, cur2, rfl, hg2, hc2, _⟩⟩ := ho
 ·cases e
 ·simp only [Value.ownBlock, Option.some.injEq] at e;subst e;rw [hd] at hc2
  simp at hc2
  exact hne hc2.2.symm
theorem own_cell {w : World} {B D j : Nat} {e t : TypeId} {z n : Nat} {v u : Value} {xs : List Value} {cs : Array Value} (ho : w.ownsRow B e z v n xs) (hd : w.heap[D]? = some (.cells cs t (0, 0))) (hne : e ≠ t) : (w.setCell ⟨D, j, none⟩ u).ownsRow B e z v n xs := by
 obtain ⟨h1, hn | ⟨g, cap, cur, hv, hb, hg, rest⟩⟩ := ho
 ·exact ⟨h1, .inl hn⟩
 ·refine ⟨h1, .inr ⟨g, cap, cur, hv, hb, (heap_set_other _ _ _ _ _ (fun e => ?_)).trans hg, rest⟩⟩;rw [e, hd] at hg
  simp at hg
  exact hne hg.2.symm
theorem app1 {α : Type} {k bytes : Nat} {enc : α → List Value} {t e : TypeId} {z : Value} (hk : ∀ x, (enc x).length = k) (h1 : ∀ x, ∀ u ∈ enc x, u.oneCell' = true) (ht : Tryz.prog.underlying t = some (.slice e))
  (hi : (Tryz.prog.info? e).map (fun i => (i.zero, i.size, i.bytes)) = some (some z, k, bytes)) (hz : z.cells.size = k) (hk0 : 0 < k) (w : World) (B : Nat) (v : Value) (l : List α) (x : α) (b c : Nat) (hB : B ≤ w.heap.size)
  (ho : w.ownsRow B e k v l.length (celC enc l)) (hc : w.heap[b]? = some (.cells (enc x).toArray e (0, 0))) (hl : (l.length + 1) * bytes ≤ 140737488355328) (hm : l.length + 1 ≤ maxLen) :
  ∃ v' w', (Builtin.append_ #[t, t] t #[v, .slice (some ⟨b, 0, none⟩) 1 c]).run Tryz.prog w = .ok v' w' ∧ w'.ownsRow B e k v' (l ++ [x]).length (celC enc (l ++ [x])) ∧ w.grownBy w' v.ownBlock := by
 obtain ⟨i, hi, hz0, hz1, hz2⟩ := info_parts hi;obtain ⟨v', w', r1, r2, r3, _⟩ := run_append_own (P := Tryz.prog) w B t t e i _ k bytes ht hi hz0 hz1 hz2 hz hk0 v l.length (celC enc l) ho ⟨b, 0, none⟩ 1 c (enc x) (by rw [hk, Nat.one_mul]) (fun j u hu => by
  rw [addN, cell_at hc, Nat.zero_add]
  simpa using hu) (h1 x) hm hl hB
 refine ⟨v', w', r1, ?_, r3⟩;rw [List.length_append, celC_app, show celC enc [x] = enc x by simp [celC]];exact r2
structure MsgX where
 m : MsgW
 a : Option Addr
 c : Nat
structure RecX where
 r : RecV
 a : Option Addr
 c : Nat
def msgE (x : MsgX) : List Value := [.int .i64 x.m.kind, .int .i64 x.m.frm, .int .i64 x.m.dst, .int .i64 x.m.term, .int .i64 x.m.pi, .int .i64 x.m.pt, .slice x.a x.m.es.length x.c, .int .i64 x.m.cm, .bool x.m.ok, .int .i64 x.m.mtch, .int .i64 x.m.si, .int .i64 x.m.st, .string x.m.tx]
def recE (x : RecX) : List Value := [.int .i64 x.r.kind, .int .i64 x.r.ht, .int .i64 x.r.hv, .int .i64 x.r.at_, .slice x.a x.r.es.length x.c, .int .i64 x.r.si, .int .i64 x.r.st, .string x.r.tx]
theorem msgK (x : MsgX) : (msgE x).length = 13 := rfl
theorem recK (x : RecX) : (recE x).length = 8 := rfl
theorem msg1 (x : MsgX) : ∀ u ∈ msgE x, u.oneCell' = true := by
 intro u hu;simp only [msgE, List.mem_cons, List.not_mem_nil, or_false] at hu
 rcases hu with rfl | rfl | rfl | rfl | rfl | rfl | rfl | rfl | rfl | rfl | rfl | rfl | rfl <;> rfl
theorem rec1 (x : RecX) : ∀ u ∈ recE x, u.oneCell' = true := by
 intro u hu;simp only [recE, List.mem_cons, List.not_mem_nil, or_false] at hu
 rcases hu with rfl | rfl | rfl | rfl | rfl | rfl | rfl | rfl <;> rfl
structure EntO (B : Nat) (w : World) (a : Option Addr) (c : Nat) (l : List EntV) : Prop where
 o : w.ownsRow B 55 3 (.slice a l.length c) l.length (entC l)
 s : l.length ≤ 1000000
theorem EntO.keep {B : Nat} {w w' : World} {a : Option Addr} {c : Nat} {l : List EntV} (h : EntO B w a c l) (hb : Below w.heap.size w w') : EntO B w' a c l := ⟨own_keep h.o hb, h.s⟩
theorem EntO.cell {B D j : Nat} {w : World} {a : Option Addr} {c : Nat} {l : List EntV} {cs : Array Value} {t : TypeId} {u : Value} (h : EntO B w a c l) (hd : w.heap[D]? = some (.cells cs t (0, 0))) (h1 : (55 : TypeId) ≠ t) : EntO B (w.setCell ⟨D, j, none⟩ u) a c l := ⟨own_cell h.o hd h1, h.s⟩
theorem EntO.kept {w w' : World} {B B2 : Nat} {e : TypeId} {z n : Nat} {v : Value} {xs : List Value} {a : Option Addr} {c : Nat} {l : List EntV} (k : EntO B2 w a c l) (h : w.grownBy w' v.ownBlock) (ho : w.ownsRow B e z v n xs) (h1 : e ≠ 55) : EntO B2 w' a c l := ⟨own_type h ho k.o h1, k.s⟩
theorem EntO.nil (B : Nat) (w : World) : EntO B w none 0 [] := ⟨nil_own w B, by simp⟩
structure WkX where
 d : NodeV
 ba : Option Addr
 bc : Nat
 la : Option Addr
 lc : Nat
 na : Option Addr
 nc : Nat
 ma : Option Addr
 mc : Nat
 R : List RecX
 ra : Option Addr
 rc : Nat
 M : List MsgX
 qa : Option Addr
 qc : Nat
 ix : Int
 wt : Bool
def WkX.v (X : WkX) : WkV := ⟨X.d, X.R.map RecX.r, X.M.map MsgX.m, X.ix, X.wt⟩
def WkX.gb (X : WkX) : Value := .slice X.ba X.d.b.l.length X.bc
def WkX.gl (X : WkX) : Value := .slice X.la X.d.L.l.length X.lc
def WkX.gn (X : WkX) : Value := .slice X.na X.d.nx.length X.nc
def WkX.gm (X : WkX) : Value := .slice X.ma X.d.mt.length X.mc
def wkA (X : WkX) : Array Value := #[.int .i64 X.d.me, .int .i64 X.d.n, .int .i64 X.d.b.t, .int .i64 X.d.b.v, .int .i64 X.d.b.r, .slice X.ba X.d.b.l.length X.bc, .int .i64 X.d.ld, .int .i64 X.d.L.bi, .int .i64 X.d.L.bt, .slice X.la X.d.L.l.length X.lc, .int .i64 X.d.L.cm, .string X.d.tx, .slice X.na X.d.nx.length X.nc, .slice X.ma X.d.mt.length X.mc, .slice X.ra X.R.length X.rc, .slice X.qa X.M.length X.qc, .int .i64 X.ix, .bool X.wt]
structure WR (B : Nat) (wx : World) (X : WkX) : Prop where
 nd : NodeOwn B wx X.d X.gb X.gl X.gn X.gm
 rs : wx.ownsRow B 63 8 (.slice X.ra X.R.length X.rc) X.R.length (celC recE X.R)
 ro : ∀ x ∈ X.R, EntO B wx x.a x.c x.r.es
 ms : wx.ownsRow B 50 13 (.slice X.qa X.M.length X.qc) X.M.length (celC msgE X.M)
 mo : ∀ x ∈ X.M, EntO B wx x.a x.c x.m.es
 nm : X.gn.ownBlock = none ∨ X.gn.ownBlock ≠ X.gm.ownBlock
 nb : X.gn.ownBlock = none ∨ X.gn.ownBlock ≠ X.gb.ownBlock
 mb : X.gm.ownBlock = none ∨ X.gm.ownBlock ≠ X.gb.ownBlock
 sb : X.d.b.l.length ≤ 1000000
 sl : X.d.L.l.length ≤ 1000000
 sn : X.d.nx.length ≤ 1000000
 sm : X.d.mt.length ≤ 1000000
 st : X.d.tx.size ≤ 60000
 sr : X.R.length ≤ 1000000
 sq : X.M.length ≤ 1000000
theorem WR.keep {B : Nat} {wx wy : World} {X : WkX} (h : WR B wx X) (hb : Below wx.heap.size wx wy) : WR B wy X :=
 ⟨h.nd.keep hb, own_keep h.rs hb, fun x hx => (h.ro x hx).keep hb, own_keep h.ms hb, fun x hx => (h.mo x hx).keep hb, h.nm, h.nb, h.mb, h.sb, h.sl, h.sn, h.sm, h.st, h.sr, h.sq⟩
theorem WR.cell {B D j : Nat} {wx : World} {X : WkX} {cs : Array Value} {t : TypeId} {u : Value} (h : WR B wx X) (hd : wx.heap[D]? = some (.cells cs t (0, 0))) (h1 : (3 : TypeId) ≠ t) (h2 : (55 : TypeId) ≠ t) (h3 : (63 : TypeId) ≠ t) (h4 : (50 : TypeId) ≠ t) : WR B (wx.setCell ⟨D, j, none⟩ u) X :=
 ⟨⟨own_cell h.nd.b hd h1, own_cell h.nd.l hd h2, own_cell h.nd.n hd h1, own_cell h.nd.m hd h1⟩, own_cell h.rs hd h3, fun x hx => (h.ro x hx).cell hd h2, own_cell h.ms hd h4, fun x hx => (h.mo x hx).cell hd h2, h.nm, h.nb, h.mb, h.sb, h.sl, h.sn, h.sm, h.st, h.sr, h.sq⟩
structure WK (w : World) (K : Nat) (X : WkX) (wx : World) : Prop where
 box : wx.heap[K]? = some (.cells (wkA X) 78 (0, 0))
 rows : WR w.heap.size wx X
 hK : w.heap.size ≤ K
 bel : Below w.heap.size w wx
theorem WK.keep {w wx wy : World} {K : Nat} {X : WkX} (h : WK w K X wx) (hb : Below wx.heap.size wx wy) : WK w K X wy := ⟨blkK h.box hb, h.rows.keep hb, h.hK, below_via h.bel hb⟩
theorem WK.put {w wx : World} {K : Nat} {X Y : WkX} (h : WK w K X wx) (j : Nat) (u : Value) (he : (wkA X).setIfInBounds j u = wkA Y) (hr : WR w.heap.size wx Y) : WK w K Y (wx.setCell ⟨K, j, none⟩ u) :=
 ⟨he ▸ heap_set h.box j u, hr.cell h.box (by decide) (by decide) (by decide) (by decide), h.hK, belowSet u h.bel h.hK⟩
theorem WR.tell {B : Nat} {wx w' : World} {X : WkX} {a : Option Addr} {c : Nat} (h : WR B wx X) (x : MsgX) (hg : wx.grownBy w' (Value.slice X.qa X.M.length X.qc).ownBlock) (hx : EntO B wx x.a x.c x.m.es) (ho : w'.ownsRow B 50 13 (.slice a (X.M ++ [x]).length c) (X.M ++ [x]).length (celC msgE (X.M ++ [x]))) (hs : X.M.length < 1000000) : WR B w' {X with M := X.M ++ [x], qa := a, qc := c} :=
 ⟨⟨own_type hg h.ms h.nd.b (by decide), own_type hg h.ms h.nd.l (by decide), own_type hg h.ms h.nd.n (by decide), own_type hg h.ms h.nd.m (by decide)⟩, own_type hg h.ms h.rs (by decide), fun y hy => (h.ro y hy).kept hg h.ms (by decide), ho, fun y hy => by
  rw [List.mem_append, List.mem_singleton] at hy
  rcases hy with hy | rfl
  ·exact (h.mo y hy).kept hg h.ms (by decide)
  ·exact hx.kept hg h.ms (by decide), h.nm, h.nb, h.mb, h.sb, h.sl, h.sn, h.sm, h.st, h.sr, by rw [List.length_append]; exact hs⟩
theorem WR.addR {B : Nat} {wx w' : World} {X : WkX} {a : Option Addr} {c : Nat} (h : WR B wx X) (x : RecX) (hg : wx.grownBy w' (Value.slice X.ra X.R.length X.rc).ownBlock) (hx : EntO B wx x.a x.c x.r.es) (ho : w'.ownsRow B 63 8 (.slice a (X.R ++ [x]).length c) (X.R ++ [x]).length (celC recE (X.R ++ [x]))) (hs : X.R.length < 1000000) : WR B w' {X with R := X.R ++ [x], ra := a, rc := c} :=
 ⟨⟨own_type hg h.rs h.nd.b (by decide), own_type hg h.rs h.nd.l (by decide), own_type hg h.rs h.nd.n (by decide), own_type hg h.rs h.nd.m (by decide)⟩, ho, fun y hy => by
  rw [List.mem_append, List.mem_singleton] at hy
  rcases hy with hy | rfl
  ·exact (h.ro y hy).kept hg h.rs (by decide)
  ·exact hx.kept hg h.rs (by decide), own_type hg h.rs h.ms (by decide), fun y hy => (h.mo y hy).kept hg h.rs (by decide), h.nm, h.nb, h.mb, h.sb, h.sl, h.sn, h.sm, h.st, by rw [List.length_append]; exact hs, h.sq⟩
theorem at18 {w : World} {p : Nat} {ty : TypeId} {z0 z1 z2 z3 z4 z5 z6 z7 z8 z9 z10 z11 z12 z13 z14 z15 z16 z17 : Value} (h : w.heap[p]? = some (.cells #[z0, z1, z2, z3, z4, z5, z6, z7, z8, z9, z10, z11, z12, z13, z14, z15, z16, z17] ty (0, 0))) : (w.cell? ⟨p, 0, none⟩ = some z0 ∧ w.cell? ⟨p, 1, none⟩ = some z1 ∧ w.cell? ⟨p, 2, none⟩ = some z2 ∧ w.cell? ⟨p, 3, none⟩ = some z3 ∧ w.cell? ⟨p, 4, none⟩ = some z4 ∧ w.cell? ⟨p, 5, none⟩ = some z5 ∧ w.cell? ⟨p, 6, none⟩ = some z6 ∧ w.cell? ⟨p, 7, none⟩ = some z7 ∧ w.cell? ⟨p, 8, none⟩ = some z8 ∧ w.cell? ⟨p, 9, none⟩ = some z9 ∧ w.cell? ⟨p, 10, none⟩ = some z10 ∧ w.cell? ⟨p, 11, none⟩ = some z11 ∧ w.cell? ⟨p, 12, none⟩ = some z12 ∧ w.cell? ⟨p, 13, none⟩ = some z13 ∧ w.cell? ⟨p, 14, none⟩ = some z14 ∧ w.cell? ⟨p, 15, none⟩ = some z15 ∧ w.cell? ⟨p, 16, none⟩ = some z16 ∧ w.cell? ⟨p, 17, none⟩ = some z17) ∧ (∀ j, w.frozen? ⟨p, j, none⟩ = false) ∧ p < w.heap.size :=
 ⟨⟨by rw [Tm.cell_at h]; rfl, by rw [Tm.cell_at h]; rfl, by rw [Tm.cell_at h]; rfl, by rw [Tm.cell_at h]; rfl, by rw [Tm.cell_at h]; rfl, by rw [Tm.cell_at h]; rfl, by rw [Tm.cell_at h]; rfl, by rw [Tm.cell_at h]; rfl, by rw [Tm.cell_at h]; rfl, by rw [Tm.cell_at h]; rfl, by rw [Tm.cell_at h]; rfl, by rw [Tm.cell_at h]; rfl, by rw [Tm.cell_at h]; rfl, by rw [Tm.cell_at h]; rfl, by rw [Tm.cell_at h]; rfl, by rw [Tm.cell_at h]; rfl, by rw [Tm.cell_at h]; rfl, by rw [Tm.cell_at h]; rfl⟩, fun j => Tm.free_at h j, (Array.getElem?_eq_some_iff.1 h).1⟩
theorem WR.at_ {B : Nat} {wx : World} {X : WkX} (h : WR B wx X) : Tm.GotAt wx X.gb X.d.b.l ∧ EGot wx X.gl X.d.L.l :=
 ⟨Tm.own_got h.nd.b (by have := h.sb; omega), own_egot h.nd.l (by have := h.sl; omega)⟩
set_option maxHeartbeats 1000000 in
theorem leadsW_is {X : WkX} {K : Nat} {wx : World} (h : wx.heap[K]? = some (.cells (wkA X) 78 (0, 0))) : Calls Tryz.prog 87 #[.pointer (some ⟨K, 0, none⟩)] wx fun e w' => e = .returned (.bool (decide (X.d.b.r = 3))) ∧ w' = wx := by
 obtain ⟨⟨k0, k1, k2, k3, k4, k5, k6, k7, k8, k9, k10, k11, k12, k13, k14, k15, k16, k17⟩, kf, kz⟩ := at18 h
 by_cases hr : X.d.b.r = 3
 ·have hb : (X.d.b.r == 3) = true := beq_iff_eq.2 hr
  go_enter Tryz.func87, Tryz.ntmps87
  go_wp2;go_ret
  exact ⟨by rw [decide_eq_true hr]; rfl, rfl⟩
 ·have hb : (X.d.b.r == 3) = false := beq_eq_false_iff_ne.2 hr
  go_enter Tryz.func87, Tryz.ntmps87
  go_wp2;go_ret
  exact ⟨by rw [decide_eq_false hr]; rfl, rfl⟩
set_option maxHeartbeats 1000000 in
theorem termW_is {X : WkX} {K : Nat} {wx : World} (h : wx.heap[K]? = some (.cells (wkA X) 78 (0, 0))) : Calls Tryz.prog 94 #[.pointer (some ⟨K, 0, none⟩)] wx fun e w' => e = .returned (.int .i64 X.d.b.t) ∧ w' = wx := by
 obtain ⟨⟨k0, k1, k2, k3, k4, k5, k6, k7, k8, k9, k10, k11, k12, k13, k14, k15, k16, k17⟩, kf, kz⟩ := at18 h
 go_enter Tryz.func94, Tryz.ntmps94
 go_wp2;go_ret
 exact ⟨rfl, rfl⟩
set_option maxRecDepth 100000 in
set_option maxHeartbeats 4000000 in
theorem lastW_is {X : WkX} {K : Nat} {w wx : World} (h : WK w K X wx) : Calls Tryz.prog 95 #[.pointer (some ⟨K, 0, none⟩)] wx fun e w' => e = .returned (.int .i64 (lastL X.d.L).1) ∧ Below wx.heap.size wx w' := by
 obtain ⟨⟨k0, k1, k2, k3, k4, k5, k6, k7, k8, k9, k10, k11, k12, k13, k14, k15, k16, k17⟩, kf, kz⟩ := at18 h.box;have HL := hideIt (last_is X.d.L X.gl wx h.rows.at_.2);have hfs := fun W => fldSpot (lastL X.d.L).1 (lastL X.d.L).2 W
 clear h;unfold logV logA WkX.gl at HL;generalize (lastL X.d.L).1 = last at *;generalize (lastL X.d.L).2 = lastT at *
 go_enter Tryz.func95, Tryz.ntmps95
 go_wp2_with fail
 refine HL.out.mono ?_;rintro e w1 ⟨rfl, hb⟩;dsimp only;have HB := hideIt hb;have hfw := hfs w1;clear hb hfs k0 k1 k2 k3 k4 k5 k6 k7 k8 k9 k10 k11 k12 k13 k14 k15 k16 k17 kf kz;go_wp2;go_ret
 exact ⟨rfl, HB.out⟩
theorem step_run {ops : Array Oper} {o : Oper} {a : Act} {w : World} {K : Act → World → Prop} {Q : Exit → Act → World → Prop} {E : Prop}
  (hg : o.guard = none) (s x : Operand) (t ty : TypeId) (hop : o.op = Op.call { callee := Callee.builtin Builtin.append, args := #[s, x], argTypes := #[t, t] }) (hty : o.type = ty) {v1 v2 v' : Value} {w' : World} (hs : a.eval s = v1) (hx : a.eval x = v2)
  (hrun : (Builtin.append_ #[t, t] ty #[v1, v2]).run Tryz.prog w = .ok v' w') (hK : K (a.put o.dst v') w') : if Region.wanted o (yielded ops a.tmps) = true then Oper.wp Tryz.prog o a w K Q else E := by
 have hw : Region.wanted o (yielded ops a.tmps) = true := by simp [Region.wanted, hg]
 rw [if_pos hw];subst hty;unfold Oper.wp
 simp [execOp, hop, resolve, invoke, builtin, hs, hx, hrun, Result.andThen]
 exact hK
theorem at13 {w : World} {p : Nat} {ty : TypeId} {z0 z1 z2 z3 z4 z5 z6 z7 z8 z9 z10 z11 z12 : Value} (h : w.heap[p]? = some (.cells #[z0, z1, z2, z3, z4, z5, z6, z7, z8, z9, z10, z11, z12] ty (0, 0))) : (w.cell? ⟨p, 0, none⟩ = some z0 ∧ w.cell? ⟨p, 1, none⟩ = some z1 ∧ w.cell? ⟨p, 2, none⟩ = some z2 ∧ w.cell? ⟨p, 3, none⟩ = some z3 ∧ w.cell? ⟨p, 4, none⟩ = some z4 ∧ w.cell? ⟨p, 5, none⟩ = some z5 ∧ w.cell? ⟨p, 6, none⟩ = some z6 ∧ w.cell? ⟨p, 7, none⟩ = some z7 ∧ w.cell? ⟨p, 8, none⟩ = some z8 ∧ w.cell? ⟨p, 9, none⟩ = some z9 ∧ w.cell? ⟨p, 10, none⟩ = some z10 ∧ w.cell? ⟨p, 11, none⟩ = some z11 ∧ w.cell? ⟨p, 12, none⟩ = some z12) ∧ (∀ j, w.frozen? ⟨p, j, none⟩ = false) ∧ p < w.heap.size :=
 ⟨⟨by rw [Tm.cell_at h]; rfl, by rw [Tm.cell_at h]; rfl, by rw [Tm.cell_at h]; rfl, by rw [Tm.cell_at h]; rfl, by rw [Tm.cell_at h]; rfl, by rw [Tm.cell_at h]; rfl, by rw [Tm.cell_at h]; rfl, by rw [Tm.cell_at h]; rfl, by rw [Tm.cell_at h]; rfl, by rw [Tm.cell_at h]; rfl, by rw [Tm.cell_at h]; rfl, by rw [Tm.cell_at h]; rfl, by rw [Tm.cell_at h]; rfl⟩, fun j => Tm.free_at h j, (Array.getElem?_eq_some_iff.1 h).1⟩
theorem infoMsg : (Tryz.prog.info? 50).map (fun i => (i.zero, i.size, i.bytes)) = some (some (.agg #[.int .i64 0, .int .i64 0, .int .i64 0, .int .i64 0, .int .i64 0, .int .i64 0, .slice none 0 0, .int .i64 0, .bool false, .int .i64 0, .int .i64 0, .int .i64 0, .string ⟨#[]⟩]), 13, 128) := by kernel_rfl
theorem tell_app {X : WkX} {K : Nat} {w wx : World} (h : WK w K X wx) (x : MsgX) (hx : EntO w.heap.size wx x.a x.c x.m.es) (hs : X.M.length < 1000000) : ∃ a c w', (Builtin.append_ #[44, 44] 44 #[.slice X.qa X.M.length X.qc, .slice (some ⟨wx.heap.size, 0, none⟩) 1 1]).run Tryz.prog (wx.alloc (.cells (msgE x).toArray 50)).drew = .ok (.slice a (X.M.length + 1) c) w' ∧ Hid (w'.heap[K]? = some (.cells (wkA X) 78 (0, 0)) ∧ WK w K {X with M := X.M ++ [x], qa := a, qc := c} (w'.setCell ⟨K, 15, none⟩ (.slice a (X.M.length + 1) c))) := by
 have h1 := h.keep (below1 wx (.cells (msgE x).toArray 50)).drew;have hk := (Array.getElem?_eq_some_iff.1 h.box).1;obtain ⟨v', w', hrun, how, hgr⟩ := app1 (enc := msgE) (t := 44) msgK msg1 Tryz.underlying44 infoMsg rfl (by omega) (wx.alloc (.cells (msgE x).toArray 50)).drew w.heap.size (.slice X.qa X.M.length X.qc) X.M x wx.heap.size 1 h1.bel.size h1.rows.ms (heap_alloc_new wx _) (by omega) (by unfold maxLen; omega)
 obtain ⟨a', c', rfl⟩ := own_len how;have hlen : (X.M ++ [x]).length = X.M.length + 1 := by simp
 have hbox := box_type hgr h1.rows.ms h1.box (by decide);refine ⟨a', c', w', by rw [← hlen]; exact hrun, hideIt ⟨hbox, ?_⟩⟩
 have hr := h1.rows.tell x hgr (hx.keep (below1 wx _).drew) how hs;have hh := heap_set hbox 15 (.slice a' (X.M.length + 1) c');refine ⟨?_, hr.cell hbox (by decide) (by decide) (by decide) (by decide), h.hK, belowSet _ (below_out h1.bel (Out.ofGrown (F := fun k => w.heap.size ≤ k) hgr (fun k hk => (h1.rows.ms.lt k hk).1)) (fun _ h => h)) h.hK⟩;rw [hh];unfold wkA;simp only [hlen]
 rfl
set_option maxRecDepth 100000 in
set_option maxHeartbeats 4000000 in
theorem tell_is {X : WkX} {K : Nat} {w wx : World} (h : WK w K X wx) (x : MsgX) (hx : EntO w.heap.size wx x.a x.c x.m.es) (hs : X.M.length < 1000000) : Calls Tryz.prog 130 #[.pointer (some ⟨K, 0, none⟩), .agg (msgE x).toArray] wx fun e w' => ∃ a c, e = .returned (.tuple #[]) ∧ WK w K {X with M := X.M ++ [⟨{x.m with frm := X.d.me, term := X.d.b.t}, x.a, x.c⟩], qa := a, qc := c} w' := by
 have HX := hideIt h;have HB := hideIt (And.intro (heap_alloc_new wx (.cells (msgE x).toArray 50)) (below1 wx (.cells (msgE x).toArray 50)));have HT := hideIt (fun (W : World) (hW : W.heap[K]? = some (.cells (wkA X) 78 (0, 0))) => termW_is hW);have hk := (Array.getElem?_eq_some_iff.1 h.box).1;have hKP : K ≠ wx.heap.size := by omega
 have HK := hideIt (blkK h.box HB.out.2);clear h;unfold msgE at *
 go_enter Tryz.func130, Tryz.ntmps130
 go_upto_region 1 with fail
 generalize (World.alloc wx _) = W0 at *;obtain ⟨⟨k0, k1, k2, k3, k4, k5, k6, k7, k8, k9, k10, k11, k12, k13, k14, k15, k16, k17⟩, kf, kz⟩ := at18 HK.out;have pf : ∀ j, W0.frozen? ⟨wx.heap.size, j, none⟩ = false := fun j => Tm.free_at HB.out.1 j
 have pz := (Array.getElem?_eq_some_iff.1 HB.out.1).1;have p1 : W0.cell? ⟨wx.heap.size, 1, none⟩ = some (.int .i64 x.m.frm) := by rw [Tm.cell_at HB.out.1]; rfl
 have p3 : W0.cell? ⟨wx.heap.size, 3, none⟩ = some (.int .i64 x.m.term) := by rw [Tm.cell_at HB.out.1]; rfl
 go_cut [] from 4 to 12 (fun wy => Hid (wy.heap[wx.heap.size]? = some (.cells (msgE ⟨{x.m with frm := X.d.me, term := X.d.b.t}, x.a, x.c⟩).toArray 50 (0, 0)) ∧ Below wx.heap.size wx wy))
 case first =>
  go_region_with (first | (go_at_call 94; refine (HT.out _ (by first | exact HK.out | exact setOther (w := W0.drew) _ HK.out hKP)).mono ?_; rintro e w5 ⟨rfl, rfl⟩))
  all_goals go_wp2_with fail
  all_goals go_meet
  all_goals first
   | exact hideIt ⟨heap_set (heap_set HB.out.1 1 _) 3 _, (belowSet _ (belowSet _ HB.out.2 (Nat.le_refl _)) (Nat.le_refl _)).drew⟩
   | exact hideIt ⟨heap_set (heap_set HB.out.1 3 _) 1 _, (belowSet _ (belowSet _ HB.out.2 (Nat.le_refl _)) (Nat.le_refl _)).drew⟩
 case rest =>
  have HCUT := hideIt hcut.out;clear k0 k1 k2 k3 k4 k5 k6 k7 k8 k9 k10 k11 k12 k13 k14 k15 k16 k17 kf kz pf pz p1 p3 HB HT HK;have hcs := HCUT.out.2.size;have HM := hideIt (HX.out.keep HCUT.out.2);have hM := HX.out.rows.sq;obtain ⟨a', c', w2, hrun, HW⟩ := tell_app HM.out ⟨{x.m with frm := X.d.me, term := X.d.b.t}, x.a, x.c⟩ (hx.keep HCUT.out.2) hs;obtain ⟨⟨k0, k1, k2, k3, k4, k5, k6, k7, k8, k9, k10, k11, k12, k13, k14, k15, k16, k17⟩, kf, kz⟩ := at18 HM.out.box;obtain ⟨⟨m0, m1, m2, m3, m4, m5, m6, m7, m8, m9, m10, m11, m12⟩, mf, mz⟩ := at13 HCUT.out.1;obtain ⟨⟨-, -, -, -, -, -, -, -, -, -, -, -, -, -, -, q15, -, -⟩, qf, qz⟩ := at18 HW.out.1;unfold msgE at hrun;dsimp only at hrun;have HRUN := hideIt hrun;clear hrun HX hx hs hM
  go_upto_region 2 with fail
  go_region_law (refine step_run rfl _ _ 44 44 rfl rfl rfl rfl HRUN.out ?_)
  all_goals go_end0
  all_goals exact ⟨_, _, rfl, HW.out.2⟩
set_option maxRecDepth 100000 in
set_option maxHeartbeats 4000000 in
theorem poll_is {X : WkX} {K : Nat} {w wx : World} (h : WK w K X wx) (k : Int) (hs : X.M.length < 1000000) : Calls Tryz.prog 92 #[.pointer (some ⟨K, 0, none⟩), .int .i64 k] wx fun e w' => ∃ a c, e = .returned (.tuple #[]) ∧ WK w K {X with M := X.M ++ [⟨{msg0 1 k with frm := X.d.me, term := X.d.b.t, pi := (lastL X.d.L).1, pt := (lastL X.d.L).2}, none, 0⟩], qa := a, qc := c} w' := by
 obtain ⟨⟨k0, k1, k2, k3, k4, k5, k6, k7, k8, k9, k10, k11, k12, k13, k14, k15, k16, k17⟩, kf, kz⟩ := at18 h.box;have HL := hideIt (last_is X.d.L X.gl wx h.rows.at_.2);have HT := hideIt (fun W (hW : Below wx.heap.size wx W) => tell_is (h.keep hW) ⟨{msg0 1 k with pi := (lastL X.d.L).1, pt := (lastL X.d.L).2}, none, 0⟩ (EntO.nil _ _) hs);clear h hs;unfold logV logA WkX.gl at HL;unfold msgE msg0 noT at HT;simp only [List.length_nil] at HT;generalize (lastL X.d.L).1 = last at *;generalize (lastL X.d.L).2 = lastT at *
 go_enter Tryz.func92, Tryz.ntmps92
 go_wp2_with fail
 refine HL.out.mono ?_;rintro e w1 ⟨rfl, hb⟩;dsimp only;have HT1 := hideIt (HT.out w1 hb);clear hb HT HL k0 k1 k2 k3 k4 k5 k6 k7 k8 k9 k10 k11 k12 k13 k14 k15 k16 k17 kf kz
 go_wp2_with fail
 refine HT1.out.mono ?_;rintro e w2 ⟨a, c, rfl, hw⟩;dsimp only;have HW := hideIt hw;clear hw HT1;go_wp2
 go_end0
 exact ⟨a, c, rfl, HW.out⟩
set_option maxRecDepth 100000 in
set_option maxHeartbeats 4000000 in
theorem snapV_is {X : WkX} {K : Nat} {w wx : World} (h : WK w K X wx) : Calls Tryz.prog 131 #[.pointer (some ⟨K, 0, none⟩)] wx fun e w' => e = .returned (.agg #[.int .i64 X.d.L.bi, .int .i64 X.d.L.bt, .string X.d.tx]) ∧ Below wx.heap.size wx w' := by
 have HX := hideIt (h.keep (below1 wx (.cells #[.int .i64 0, .int .i64 0, .string ⟨#[]⟩] 27)));have HB := hideIt (And.intro (heap_alloc_new wx (.cells #[.int .i64 0, .int .i64 0, .string ⟨#[]⟩] 27)) (below1 wx (.cells #[.int .i64 0, .int .i64 0, .string ⟨#[]⟩] 27)));have hk := (Array.getElem?_eq_some_iff.1 h.box).1;have hKP : K ≠ wx.heap.size := by omega
 clear h
 go_enter Tryz.func131, Tryz.ntmps131
 go_upto_region 1 with fail
 generalize (World.alloc wx _) = W0 at *;obtain ⟨⟨k0, k1, k2, k3, k4, k5, k6, k7, k8, k9, k10, k11, k12, k13, k14, k15, k16, k17⟩, kf, kz⟩ := at18 HX.out.box;have pf : ∀ j, W0.frozen? ⟨wx.heap.size, j, none⟩ = false := fun j => Tm.free_at HB.out.1 j
 have pz := (Array.getElem?_eq_some_iff.1 HB.out.1).1;have p0 : W0.cell? ⟨wx.heap.size, 0, none⟩ = some (.int .i64 0) := by rw [Tm.cell_at HB.out.1]; rfl
 have p1 : W0.cell? ⟨wx.heap.size, 1, none⟩ = some (.int .i64 0) := by rw [Tm.cell_at HB.out.1]; rfl
 have p2 : W0.cell? ⟨wx.heap.size, 2, none⟩ = some (.string ⟨#[]⟩) := by rw [Tm.cell_at HB.out.1]; rfl
 have h0 := heap_set HB.out.1 0 (.int .i64 X.d.L.bi);have h1 := heap_set h0 1 (.int .i64 X.d.L.bt);have HF := hideIt (And.intro (heap_set h1 2 (.string X.d.tx)) (belowSet (b := wx.heap.size) (j := 2) (.string X.d.tx) (belowSet (b := wx.heap.size) (j := 1) (.int .i64 X.d.L.bt) (belowSet (b := wx.heap.size) (j := 0) (.int .i64 X.d.L.bi) HB.out.2 (Nat.le_refl _)) (Nat.le_refl _)) (Nat.le_refl _)));clear h0 h1 HX HB
 go_region
 go_wp2;generalize (World.setCell _ ⟨wx.heap.size, 2, none⟩ _) = W9 at *;have e1 := HF.out.1;have e2 := HF.out.2;clear HF;exact bodyPost_ret (v := .agg #[.int .i64 X.d.L.bi, .int .i64 X.d.L.bt, .string X.d.tx]) (by simp [results, Tryz.results131, go_sem, Tm.cell_at (w := W9.drew) e1]) rfl ⟨rfl, e2.drew⟩
theorem infoRec : (Tryz.prog.info? 63).map (fun i => (i.zero, i.size, i.bytes)) = some (some (.agg #[.int .i64 0, .int .i64 0, .int .i64 0, .int .i64 0, .slice none 0 0, .int .i64 0, .int .i64 0, .string ⟨#[]⟩]), 8, 88) := by kernel_rfl
theorem rec_app {X : WkX} {K b : Nat} {w V : World} (h : WK w K X V) (x : RecX) (hb : V.heap[b]? = some (.cells (recE x).toArray 63 (0, 0))) (hx : EntO w.heap.size V x.a x.c x.r.es) (hs : X.R.length < 1000000) : ∃ a c w', (Builtin.append_ #[43, 43] 43 #[.slice X.ra X.R.length X.rc, .slice (some ⟨b, 0, none⟩) 1 1]).run Tryz.prog V = .ok (.slice a (X.R.length + 1) c) w' ∧ Hid (w'.heap[K]? = some (.cells (wkA X) 78 (0, 0)) ∧ WK w K {X with R := X.R ++ [x], ra := a, rc := c} (w'.setCell ⟨K, 14, none⟩ (.slice a (X.R.length + 1) c))) := by
 obtain ⟨v', w', hrun, how, hgr⟩ := app1 (enc := recE) (t := 43) recK rec1 Tryz.underlying43 infoRec rfl (by omega) V w.heap.size (.slice X.ra X.R.length X.rc) X.R x b 1 h.bel.size h.rows.rs hb (by omega) (by unfold maxLen; omega)
 obtain ⟨a', c', rfl⟩ := own_len how;have hlen : (X.R ++ [x]).length = X.R.length + 1 := by simp
 have hbox := box_type hgr h.rows.rs h.box (by decide);refine ⟨a', c', w', by rw [← hlen]; exact hrun, hideIt ⟨hbox, ?_⟩⟩
 have hr := h.rows.addR x hgr hx how hs;have hh := heap_set hbox 14 (.slice a' (X.R.length + 1) c');refine ⟨?_, hr.cell hbox (by decide) (by decide) (by decide) (by decide), h.hK, belowSet _ (below_out h.bel (Out.ofGrown (F := fun k => w.heap.size ≤ k) hgr (fun k hk => (h.rows.rs.lt k hk).1)) (fun _ h => h)) h.hK⟩;rw [hh];unfold wkA;simp only [hlen]
 rfl
theorem fromL_len (L : LogV) (i m : Int) (hm : m ≤ 1000000) : (fromL L i m).length ≤ 1000000 := by
 unfold fromL
 split
 ·rw [List.length_take];omega
 ·simp
set_option maxRecDepth 100000 in
set_option maxHeartbeats 4000000 in
theorem keepTail_is {X : WkX} {K : Nat} {w wx : World} (h : WK w K X wx) (i : Int) (hi : i64B i) (hs : X.R.length < 1000000) : Calls Tryz.prog 137 #[.pointer (some ⟨K, 0, none⟩), .int .i64 i] wx fun e w' => ∃ fa fc a c, e = .returned (.tuple #[]) ∧ WK w K {X with R := X.R ++ [⟨⟨2, 0, 0, i, fromL X.d.L i 400, 0, 0, noT⟩, fa, fc⟩], ra := a, rc := c} w' := by
 obtain ⟨⟨k0, k1, k2, k3, k4, k5, k6, k7, k8, k9, k10, k11, k12, k13, k14, k15, k16, k17⟩, kf, kz⟩ := at18 h.box;have HL := hideIt (from_is X.d.L X.gl i 400 wx h.rows.at_.2 ⟨hi, by unfold i64B; omega⟩)
 have hfl := fromL_len X.d.L i 400 (by omega);have HX := hideIt h;clear h;unfold EntsBack logV logA WkX.gl at HL;generalize fromL X.d.L i 400 = F at *
 go_enter Tryz.func137, Tryz.ntmps137
 go_wp2_with fail
 refine HL.out.mono ?_;rintro e w1 ⟨g, rfl, ho, hb⟩;dsimp only;obtain ⟨fa, fc, rfl⟩ := own_len ho;have h1 := HX.out.keep hb;have hbb := below1 w1 (.cells (recE ⟨⟨2, 0, 0, i, F, 0, 0, noT⟩, fa, fc⟩).toArray 63);obtain ⟨a', c', w2, hrun, HW⟩ := rec_app (h1.keep hbb) ⟨⟨2, 0, 0, i, F, 0, 0, noT⟩, fa, fc⟩ (heap_alloc_new w1 _) ⟨own_keep (own_base ho HX.out.bel.size) hbb, hfl⟩ hs;unfold recE noT at hrun;dsimp only at hrun;have HRUN := hideIt hrun;obtain ⟨⟨q0, q1, q2, q3, q4, q5, q6, q7, q8, q9, q10, q11, q12, q13, q14, q15, q16, q17⟩, qf, qz⟩ := at18 h1.box;obtain ⟨⟨-, -, -, -, -, -, -, -, -, -, -, -, -, -, r14, -, -, -⟩, rf, rz⟩ := at18 HW.out.1;clear hrun h1 hbb ho hb HX HL k0 k1 k2 k3 k4 k5 k6 k7 k8 k9 k10 k11 k12 k13 k14 k15 k16 k17 kf kz hs hi hfl;generalize F.length = fl at *
 go_wp2_with (at_builtin; go_loud (refine Lib.wpList_append_run _ rfl _ _ _ _ rfl _ _ rfl rfl _ _ HRUN.out ?_))
 clear HRUN;go_wp2
 go_end0
 exact ⟨_, _, _, _, rfl, HW.out.2⟩
set_option maxRecDepth 100000 in
set_option maxHeartbeats 8000000 in
theorem keepSnap_is {X : WkX} {K : Nat} {w wx : World} (h : WK w K X wx) (hs : X.R.length < 1000000) : Calls Tryz.prog 100 #[.pointer (some ⟨K, 0, none⟩)] wx fun e w' => ∃ a c, e = .returned (.tuple #[]) ∧ WK w K {X with R := X.R ++ [⟨⟨3, 0, 0, 0, [], X.d.L.bi, X.d.L.bt, X.d.tx⟩, none, 0⟩], ra := a, rc := c} w' := by
 obtain ⟨⟨k0, k1, k2, k3, k4, k5, k6, k7, k8, k9, k10, k11, k12, k13, k14, k15, k16, k17⟩, kf, kz⟩ := at18 h.box;have HS := hideIt (fun W (hW : Below wx.heap.size wx W) => snapV_is (h.keep hW));have HR : Hid (∀ W, Below wx.heap.size wx W → (∃ a c w2, (Builtin.append_ #[43, 43] 43 #[.slice X.ra X.R.length X.rc, .slice (some ⟨W.heap.size, 0, none⟩) 1 1]).run Tryz.prog (W.alloc (.cells #[.int .i64 3, .int .i64 0, .int .i64 0, .int .i64 0, .slice none 0 0, .int .i64 X.d.L.bi, .int .i64 X.d.L.bt, .string X.d.tx] 63)) = .ok (.slice a (X.R.length + 1) c) w2 ∧ w2.cell? ⟨K, 14, none⟩ = some (.slice X.ra X.R.length X.rc) ∧ (∀ j, w2.frozen? ⟨K, j, none⟩ = false) ∧ K < w2.heap.size ∧ Hid (WK w K {X with R := X.R ++ [⟨⟨3, 0, 0, 0, [], X.d.L.bi, X.d.L.bt, X.d.tx⟩, none, 0⟩], ra := a, rc := c} (w2.setCell ⟨K, 14, none⟩ (.slice a (X.R.length + 1) c)))) ∧ W.cell? ⟨K, 14, none⟩ = some (.slice X.ra X.R.length X.rc) ∧ K < W.heap.size) := by
  intro W hW;have h1 := h.keep hW;have hbb := below1 W (.cells (recE ⟨⟨3, 0, 0, 0, [], X.d.L.bi, X.d.L.bt, X.d.tx⟩, none, 0⟩).toArray 63);obtain ⟨a', c', w2, hrun, HW⟩ := rec_app (h1.keep hbb) ⟨⟨3, 0, 0, 0, [], X.d.L.bi, X.d.L.bt, X.d.tx⟩, none, 0⟩ (heap_alloc_new W _) (EntO.nil _ _) hs;obtain ⟨⟨-, -, -, -, -, -, -, -, -, -, -, -, -, -, r14, -, -, -⟩, rf, rz⟩ := at18 HW.out.1;obtain ⟨⟨-, -, -, -, -, -, -, -, -, -, -, -, -, -, q14, -, -, -⟩, qf, qz⟩ := at18 h1.box
  exact ⟨⟨a', c', w2, hrun, r14, rf, rz, HW.out.2⟩, q14, qz⟩
 clear h hs
 go_enter Tryz.func100, Tryz.ntmps100
 go_region_law (first
  | (refine step_run rfl _ _ 43 43 rfl rfl rfl rfl hrun ?_)
  | (go_simp; refine (HS.out wx.drew (Below.refl _ _).drew).mono ?_; rintro e w1 ⟨rfl, hb⟩; dsimp only; obtain ⟨⟨a', c', w2, hrun, r14, rf, rz, HW⟩, q14, qz⟩ := HR.out w1 (below_via (Below.refl _ _).drew hb); clear hb))
 all_goals go_wp2
 all_goals go_end0
 all_goals exact ⟨_, _, rfl, HW.out⟩
set_option maxRecDepth 100000 in
set_option maxHeartbeats 4000000 in
theorem answer_is {X : WkX} {K : Nat} {w wx : World} (h : WK w K X wx) (y : MsgX) (ok : Bool) (mt : Int) (hs : X.M.length < 1000000) : Calls Tryz.prog 164 #[.pointer (some ⟨K, 0, none⟩), .agg (msgE y).toArray, .bool ok, .int .i64 mt] wx fun e w' => ∃ a c, e = .returned (.tuple #[]) ∧ WK w K {X with M := X.M ++ [⟨{msg0 4 y.m.frm with frm := X.d.me, term := X.d.b.t, ok := ok, mtch := mt}, none, 0⟩], qa := a, qc := c} w' := by
 have HB := hideIt (heap_alloc_new wx (.cells (msgE y).toArray 50));have HT := hideIt (tell_is (h.keep (below1 wx (.cells (msgE y).toArray 50))) ⟨{msg0 4 y.m.frm with ok := ok, mtch := mt}, none, 0⟩ (EntO.nil _ _) hs);clear h hs;unfold msgE msg0 noT at HT;unfold msgE at *;simp only [List.length_nil] at HT
 go_enter Tryz.func164, Tryz.ntmps164
 go_upto_region 1 with fail
 generalize (World.alloc wx _) = W0 at *;obtain ⟨⟨m0, m1, m2, m3, m4, m5, m6, m7, m8, m9, m10, m11, m12⟩, mf, mz⟩ := at13 HB.out
 go_wp2_with fail
 refine HT.out.mono ?_;rintro e w2 ⟨a, c, rfl, hw⟩;dsimp only;have HW := hideIt hw;clear hw HT;go_wp2
 go_end0
 exact ⟨a, c, rfl, HW.out⟩
theorem WK.setLog {X : WkX} {K : Nat} {w wx : World} (h : WK w K X wx) (L : LogV) (a : Option Addr) (c : Nat) (ho : wx.ownsRow w.heap.size 55 3 (.slice a L.l.length c) L.l.length (entC L.l)) (hl : L.l.length ≤ 1000000) : WK w K {X with d := {X.d with L := L}, la := a, lc := c} ((((wx.setCell ⟨K, 7, none⟩ (.int .i64 L.bi)).setCell ⟨K, 8, none⟩ (.int .i64 L.bt)).setCell ⟨K, 9, none⟩ (.slice a L.l.length c)).setCell ⟨K, 10, none⟩ (.int .i64 L.cm)) := by
 have b0 : (wx.setCell ⟨K, 7, none⟩ (.int .i64 L.bi)).heap[K]? = some (.cells #[.int .i64 X.d.me, .int .i64 X.d.n, .int .i64 X.d.b.t, .int .i64 X.d.b.v, .int .i64 X.d.b.r, .slice X.ba X.d.b.l.length X.bc, .int .i64 X.d.ld, .int .i64 L.bi, .int .i64 X.d.L.bt, .slice X.la X.d.L.l.length X.lc, .int .i64 X.d.L.cm, .string X.d.tx, .slice X.na X.d.nx.length X.nc, .slice X.ma X.d.mt.length X.mc, .slice X.ra X.R.length X.rc, .slice X.qa X.M.length X.qc, .int .i64 X.ix, .bool X.wt] 78 (0, 0)) := heap_set h.box 7 (.int .i64 L.bi);have r0 : WR w.heap.size (wx.setCell ⟨K, 7, none⟩ (.int .i64 L.bi)) X := h.rows.cell h.box (by decide) (by decide) (by decide) (by decide);have o0 : (wx.setCell ⟨K, 7, none⟩ (.int .i64 L.bi)).ownsRow w.heap.size 55 3 (.slice a L.l.length c) L.l.length (entC L.l) := own_cell ho h.box (by decide);have l0 : Below w.heap.size w (wx.setCell ⟨K, 7, none⟩ (.int .i64 L.bi)) := belowSet _ h.bel h.hK;have b1 : ((wx.setCell ⟨K, 7, none⟩ (.int .i64 L.bi)).setCell ⟨K, 8, none⟩ (.int .i64 L.bt)).heap[K]? = some (.cells #[.int .i64 X.d.me, .int .i64 X.d.n, .int .i64 X.d.b.t, .int .i64 X.d.b.v, .int .i64 X.d.b.r, .slice X.ba X.d.b.l.length X.bc, .int .i64 X.d.ld, .int .i64 L.bi, .int .i64 L.bt, .slice X.la X.d.L.l.length X.lc, .int .i64 X.d.L.cm, .string X.d.tx, .slice X.na X.d.nx.length X.nc, .slice X.ma X.d.mt.length X.mc, .slice X.ra X.R.length X.rc, .slice X.qa X.M.length X.qc, .int .i64 X.ix, .bool X.wt] 78 (0, 0)) := heap_set b0 8 (.int .i64 L.bt);have r1 : WR w.heap.size ((wx.setCell ⟨K, 7, none⟩ (.int .i64 L.bi)).setCell ⟨K, 8, none⟩ (.int .i64 L.bt)) X := r0.cell b0 (by decide) (by decide) (by decide) (by decide);have o1 : ((wx.setCell ⟨K, 7, none⟩ (.int .i64 L.bi)).setCell ⟨K, 8, none⟩ (.int .i64 L.bt)).ownsRow w.heap.size 55 3 (.slice a L.l.length c) L.l.length (entC L.l) := own_cell o0 b0 (by decide);have l1 : Below w.heap.size w ((wx.setCell ⟨K, 7, none⟩ (.int .i64 L.bi)).setCell ⟨K, 8, none⟩ (.int .i64 L.bt)) := belowSet _ l0 h.hK;have b2 : (((wx.setCell ⟨K, 7, none⟩ (.int .i64 L.bi)).setCell ⟨K, 8, none⟩ (.int .i64 L.bt)).setCell ⟨K, 9, none⟩ (.slice a L.l.length c)).heap[K]? = some (.cells #[.int .i64 X.d.me, .int .i64 X.d.n, .int .i64 X.d.b.t, .int .i64 X.d.b.v, .int .i64 X.d.b.r, .slice X.ba X.d.b.l.length X.bc, .int .i64 X.d.ld, .int .i64 L.bi, .int .i64 L.bt, .slice a L.l.length c, .int .i64 X.d.L.cm, .string X.d.tx, .slice X.na X.d.nx.length X.nc, .slice X.ma X.d.mt.length X.mc, .slice X.ra X.R.length X.rc, .slice X.qa X.M.length X.qc, .int .i64 X.ix, .bool X.wt] 78 (0, 0)) := heap_set b1 9 (.slice a L.l.length c);have r2 : WR w.heap.size (((wx.setCell ⟨K, 7, none⟩ (.int .i64 L.bi)).setCell ⟨K, 8, none⟩ (.int .i64 L.bt)).setCell ⟨K, 9, none⟩ (.slice a L.l.length c)) X := r1.cell b1 (by decide) (by decide) (by decide) (by decide);have o2 : (((wx.setCell ⟨K, 7, none⟩ (.int .i64 L.bi)).setCell ⟨K, 8, none⟩ (.int .i64 L.bt)).setCell ⟨K, 9, none⟩ (.slice a L.l.length c)).ownsRow w.heap.size 55 3 (.slice a L.l.length c) L.l.length (entC L.l) := own_cell o1 b1 (by decide);have l2 : Below w.heap.size w (((wx.setCell ⟨K, 7, none⟩ (.int .i64 L.bi)).setCell ⟨K, 8, none⟩ (.int .i64 L.bt)).setCell ⟨K, 9, none⟩ (.slice a L.l.length c)) := belowSet _ l1 h.hK;have b3 : ((((wx.setCell ⟨K, 7, none⟩ (.int .i64 L.bi)).setCell ⟨K, 8, none⟩ (.int .i64 L.bt)).setCell ⟨K, 9, none⟩ (.slice a L.l.length c)).setCell ⟨K, 10, none⟩ (.int .i64 L.cm)).heap[K]? = some (.cells #[.int .i64 X.d.me, .int .i64 X.d.n, .int .i64 X.d.b.t, .int .i64 X.d.b.v, .int .i64 X.d.b.r, .slice X.ba X.d.b.l.length X.bc, .int .i64 X.d.ld, .int .i64 L.bi, .int .i64 L.bt, .slice a L.l.length c, .int .i64 L.cm, .string X.d.tx, .slice X.na X.d.nx.length X.nc, .slice X.ma X.d.mt.length X.mc, .slice X.ra X.R.length X.rc, .slice X.qa X.M.length X.qc, .int .i64 X.ix, .bool X.wt] 78 (0, 0)) := heap_set b2 10 (.int .i64 L.cm);have r3 : WR w.heap.size ((((wx.setCell ⟨K, 7, none⟩ (.int .i64 L.bi)).setCell ⟨K, 8, none⟩ (.int .i64 L.bt)).setCell ⟨K, 9, none⟩ (.slice a L.l.length c)).setCell ⟨K, 10, none⟩ (.int .i64 L.cm)) X := r2.cell b2 (by decide) (by decide) (by decide) (by decide);have o3 : ((((wx.setCell ⟨K, 7, none⟩ (.int .i64 L.bi)).setCell ⟨K, 8, none⟩ (.int .i64 L.bt)).setCell ⟨K, 9, none⟩ (.slice a L.l.length c)).setCell ⟨K, 10, none⟩ (.int .i64 L.cm)).ownsRow w.heap.size 55 3 (.slice a L.l.length c) L.l.length (entC L.l) := own_cell o2 b2 (by decide);have l3 : Below w.heap.size w ((((wx.setCell ⟨K, 7, none⟩ (.int .i64 L.bi)).setCell ⟨K, 8, none⟩ (.int .i64 L.bt)).setCell ⟨K, 9, none⟩ (.slice a L.l.length c)).setCell ⟨K, 10, none⟩ (.int .i64 L.cm)) := belowSet _ l2 h.hK
 exact ⟨b3, ⟨⟨r3.nd.b, o3, r3.nd.n, r3.nd.m⟩, r3.rs, r3.ro, r3.ms, r3.mo, r3.nm, r3.nb, r3.mb, r3.sb, hl, r3.sn, r3.sm, r3.st, r3.sr, r3.sq⟩, h.hK, l3⟩
theorem advL_len (L : LogV) (t : Int) (m : List Int) (h : L.l.length ≤ 1000000) : (advL L t m).1.l.length ≤ 1000000 := by
 unfold advL
 split
 ·simp [zL]
 ·split
  ·simp [zL]
  ·split
   ·exact h
   ·exact h
theorem WR.rest {B : Nat} {wx : World} {X : WkX} (h : WR B wx X) (hm : 2 ≤ X.d.mt.length) : ∃ g, X.ma = some ⟨g, 0, none⟩ ∧ X.d.mt.length ≤ X.mc ∧ X.mc ≤ maxLen ∧ NGot wx (.slice (some ⟨g, 1, none⟩) (X.d.mt.length - 1) (X.mc - 1)) (X.d.mt.drop 1) := by
 have hg := Tm.own_got h.nd.m (by have := h.sm; omega)
 obtain ⟨_, ⟨hv, h0⟩ | ⟨g, cap, cur, hv, hB, hb, hn, hc, _, _⟩⟩ := h.nd.m
 ·omega
 ·unfold WkX.gm at hv;simp only [Value.slice.injEq] at hv;obtain ⟨ha, -, hcap⟩ := hv;refine ⟨g, ha, by omega, by omega, by rw [List.length_drop]; have := h.sm; omega, _, _, by rw [List.length_drop], fun _ => ⟨g, 1, rfl, (Array.getElem?_eq_some_iff.1 hb).1, fun j hj => ?_⟩⟩
  obtain ⟨_, a', c', e', hr⟩ := hg;obtain ⟨b, off, hab, _, hcell⟩ := hr (by omega);unfold WkX.gm at e';simp only [Value.slice.injEq] at e';rw [← e'.1, ha] at hab;simp only [Option.some.injEq, Addr.mk.injEq] at hab;obtain ⟨rfl, rfl, _⟩ := hab;rw [List.length_drop] at hj;have := hcell (1 + j) (by omega);rw [Nat.zero_add] at this;rw [this]
  simp [List.getD_eq_getElem?_getD, List.getElem?_drop, Nat.add_comm]
set_option maxRecDepth 100000 in
set_option maxHeartbeats 8000000 in
theorem advW_is {X : WkX} {K : Nat} {w wx : World} (h : WK w K X wx) (hm : 2 ≤ X.d.mt.length) : Calls Tryz.prog 138 #[.pointer (some ⟨K, 0, none⟩)] wx fun e w' => ∃ a c, e = .returned (.tuple #[]) ∧ WK w K {X with d := {X.d with L := (advL X.d.L X.d.b.t (X.d.mt.drop 1)).1}, la := a, lc := c} w' := by
 obtain ⟨g, hma, hmc, hmm, hN⟩ := h.rows.rest hm;have HT := hideIt (termW_is (wx := wx.drew) h.box);have hL := advL_len X.d.L X.d.b.t (X.d.mt.drop 1) h.rows.sl;have HA := hideIt (advance_is X.d.L X.gl (.slice (some ⟨g, 1, none⟩) (X.d.mt.length - 1) (X.mc - 1)) X.d.b.t (X.d.mt.drop 1) wx.drew (h.keep (Below.refl _ _).drew).rows.at_.2 (hN.keep (Below.refl _ _).drew));have HX := hideIt (h.keep (Below.refl _ _).drew);obtain ⟨⟨k0, k1, k2, k3, k4, k5, k6, k7, k8, k9, k10, k11, k12, k13, k14, k15, k16, k17⟩, kf, kz⟩ := at18 h.box;rw [hma] at k13;clear h hN hma;unfold LogErr logV logA WkX.gl at HA;generalize advL X.d.L X.d.b.t (X.d.mt.drop 1) = Z at *;have e1 : (1 : Int) ≤ (X.d.mt.length : Int) := by omega
 have e2 : (X.d.mt.length : Int) ≤ (X.mc : Int) := by omega
 have e3 : (1 : Int) ≤ (X.mc : Int) := by omega
 have e4 : ¬ (X.mc = 1) := by omega
 have e5 : X.mc - 1 ≠ 0 := by omega
 go_enter Tryz.func138, Tryz.ntmps138
 go_region_law (first
  | (go_simp; refine HT.out.mono ?_; rintro e w5 ⟨rfl, rfl⟩; dsimp only)
  | (go_simp; refine HA.out.mono ?_; rintro e w1 ⟨g1, rfl, ho, hb⟩; dsimp only; obtain ⟨a1, c1, rfl⟩ := own_len ho; have HW := hideIt ((HX.out.keep hb).setLog Z.1 a1 c1 (own_base ho HX.out.bel.size) hL); obtain ⟨⟨q0, q1, q2, q3, q4, q5, q6, q7, q8, q9, q10, q11, q12, q13, q14, q15, q16, q17⟩, qf, qz⟩ := at18 (HX.out.keep hb).box; clear ho hb))
 all_goals go_wp2
 all_goals go_end0
 all_goals first | exact ⟨_, _, rfl, HW.out⟩ | exact ⟨rfl, _, _, HW.out⟩
set_option maxRecDepth 100000 in
set_option maxHeartbeats 4000000 in
theorem sentW_is (y : MsgX) (w : World) (h : EGot w (.slice y.a y.m.es.length y.c) y.m.es) : Calls Tryz.prog 96 #[.agg (msgE y).toArray] w fun e w' => e = .returned (.bool (sentB y.m)) ∧ Below w.heap.size w w' := by
 have HB := hideIt (And.intro (heap_alloc_new w (.cells (msgE y).toArray 50)) (below1 w (.cells (msgE y).toArray 50)));obtain ⟨a', c', e', _, hr⟩ := (h.keep HB.out.2).open;simp only [Value.slice.injEq] at e';have HE := hideIt (Nt.encode_is ⟨y.m.kind, y.m.frm, y.m.dst, y.m.term, y.m.pi, y.m.pt, y.a, y.m.es.length, y.c, y.m.cm, y.m.ok, y.m.mtch, y.m.si, y.m.st, y.m.tx⟩ (y.m.es.map (fun e => ⟨e.term, e.kind, e.text⟩)) (w.alloc (.cells (msgE y).toArray 50)) (fun i hi => by
  rw [List.length_map] at hi;obtain ⟨b, off, h1, h2, h3, h4, h5⟩ := hr i hi
  exact ⟨b, off, by rw [e'.1]; exact h1, h2, by simpa using h3, by simpa using h4, by simpa using h5⟩) (by simp))
 have HS : Hid ((Nt.encE ⟨y.m.kind, y.m.frm, y.m.dst, y.m.term, y.m.pi, y.m.pt, y.a, y.m.es.length, y.c, y.m.cm, y.m.ok, y.m.mtch, y.m.si, y.m.st, y.m.tx⟩ (y.m.es.map (fun e => ⟨e.term, e.kind, e.text⟩)) : Nat) = if sentB y.m then 0 else 52) := hideIt rfl;clear h hr e';generalize Nt.encE _ _ = n at *;generalize (Nt.encL _ _).toArray = bs at *;generalize sentB y.m = B at *;unfold msgE Nt.msgC at *
 go_enter Tryz.func96, Tryz.ntmps96
 go_upto_region 1 with fail
 generalize (World.alloc w _) = W0 at *;obtain ⟨⟨m0, m1, m2, m3, m4, m5, m6, m7, m8, m9, m10, m11, m12⟩, mf, mz⟩ := at13 HB.out.1
 go_wp2_with fail
 refine HE.out.mono ?_;rintro e w2 ⟨rfl, hb⟩;dsimp only;have HW := hideIt (below_via HB.out.2 hb);have hS := HS.out;clear hb HE HB HS m0 m1 m2 m3 m4 m5 m6 m7 m8 m9 m10 m11 m12 mf mz;cases B
 ·rw [if_neg (by decide)] at hS;subst hS;go_wp2;go_ret
  exact ⟨rfl, HW.out⟩
 ·rw [if_pos rfl] at hS;subst hS;go_wp2;go_ret
  exact ⟨rfl, HW.out⟩
end Go.Proofs.YtcaehfkfohianaaGreat
