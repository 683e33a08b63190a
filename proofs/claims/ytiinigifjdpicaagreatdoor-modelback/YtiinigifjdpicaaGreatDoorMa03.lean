/- Texts of my own, laid together. -/
import Derived.Test.YtiinigifjdpicaaGreatDoorMa02
namespace Go.Proofs.YtiinigifjdpicaaGreatDoor.Se
open Go.RowKit Go.Shelf
set_option linter.all false
attribute [local go_sem] Oper.semAt_some
theorem allocs_at : ∀ (os : List Obj) (w : World), (os.foldl World.alloc w).heap.size = w.heap.size + os.length ∧ Below w.heap.size w (os.foldl World.alloc w) ∧ ∀ i, i < os.length → (os.foldl World.alloc w).heap[w.heap.size + i]? = os[i]?
 | [], w => ⟨rfl, Below.refl _ _, fun i h => absurd h (by simp)⟩
 | o :: os, w => by
  obtain ⟨h1, h2, h3⟩ := allocs_at os (w.alloc o);have hs : (w.alloc o).heap.size = w.heap.size + 1 := by simp
  rw [hs] at h1 h2 h3;refine ⟨by simp only [List.foldl_cons, List.length_cons]; omega, (below1 w o).trans ⟨h2.os, h2.tape, h2.output, h2.size, fun k hk => h2.block k (by omega)⟩, fun i hi => ?_⟩
  cases i with
  | zero =>
   rw [List.foldl_cons, Nat.add_zero, h2.block _ (by omega)];exact heap_alloc_new w o
  | succ i =>
   have := h3 i (by simpa using hi);rw [List.foldl_cons, List.getElem?_cons_succ, ← this, Nat.add_assoc, Nat.add_comm 1 i]
theorem kept_cells {B b : Nat} {X Y : World} {row : Option Nat} {cs : Array Value} {t : TypeId} (h : X.heap[b]? = some (.cells cs t (0, 0))) (hg : X.grownBy Y row) (hr : ∀ r, row = some r → B ≤ r ∧ ∃ o : Obj, X.heap[r]? = some o ∧ o.isCells = false) : Y.heap[b]? = some (.cells cs t (0, 0)) :=
 (hg.block b (Array.getElem?_eq_some_iff.1 h).1 (fun e => by
  obtain ⟨_, o, ho, hc⟩ := hr b e.symm;rw [h] at ho;cases ho;cases hc)).trans h
theorem putO {W : World} {D b : Nat} {o : Obj} {x : Option Obj} (h : W.heap[b]? = x) (hn : D ≠ b) : (W.putObj D o).heap[b]? = x := by
 rw [← h]
 simp [World.putObj, Array.getElem?_setIfInBounds, hn]
def FQ (x y s : Nat) (k : Nat) : Prop := k = x ∨ k = y ∨ s ≤ k
theorem outK_b {s x y : Nat} (W : World) (l : Nat) (o o' : Obj) (hl : s ≤ l) (_ : W.heap[l]? = some o) (_ : o.isCells = false) (_ : o.isWalk = false) : Out (FQ x y s) W (W.putObj l o') :=
 Out.ofGrown (grownBy_putObj' W l o') (fun k e => by cases e; exact .inr (.inr hl))
theorem outK_t {F : Nat → Prop} {A B C : World} (h : Out F A B) (k : Out F B C) : Out F A C := h.trans k (fun _ _ e => e)
structure QI (w : World) (s Q2 Q3 Q4 : Nat) (c q : Int) (pre : List TxnV) (W : World) : Prop where
 b2 : W.heap[Q2]? = some (.cells #[.int .i64 c, .int .i64 q] 129 (0, 0))
 b3 : W.heap[Q3]? = some (.cells #[.int .i64 (pre.length : Int)] 3 (0, 0))
 b4 : W.heap[Q4]? = some (.cells #[.int .i64 (pre.count (c, q) : Int)] 3 (0, 0))
 bel : Below w.heap.size w W
 siz : s ≤ W.heap.size
theorem QI.own {w : World} {s Q2 Q3 Q4 : Nat} {c q : Int} (hs : w.heap.size ≤ s) : OwnFrom s (fun pre W => QI w s Q2 Q3 Q4 c q pre W) := fun pre X Y row h hg hr =>
 ⟨kept_cells h.b2 hg hr, kept_cells h.b3 hg hr, kept_cells h.b4 hg hr, ownFrom_below (β := Unit) (B := s) (w₀ := w) (Nat.le_refl _) hs () X Y row h.bel hg hr, Nat.le_trans h.siz hg.size⟩
set_option maxRecDepth 100000 in
set_option maxHeartbeats 4000000 in
theorem queue_is (T : TabV) (h v : Value) (k n c q : Int) (w : World) (hT : Tab w T h v) : Calls Tryz.prog 102 #[.agg #[h, v], .agg #[.int .i64 k, .int .i64 n], .agg #[.int .i64 c, .int .i64 q]] w fun e w' => e = .returned (.tuple #[.int .i64 (qL T.wait (k, n)).length, .int .i64 ((qL T.wait (k, n)).count (c, q))]) ∧ Below w.heap.size w w' := by
 obtain ⟨hd, hs⟩ := T;dsimp only;have HW := hideIt (fun h v W => waiting_is h v k n W);refine (callsIn_wide (n := 5)).1 ?_;refine callsIn_of_wp_marks Tryz.func102 rfl trivial ?_ rfl;simp only [Tryz.ntmps102, List.size_toArray, List.length_cons, List.length_nil, Nat.reduceAdd, Nat.reduceSub, Array.replicate_succ, Array.replicate_zero, List.push_toArray, List.append_toArray, List.nil_append, List.cons_append]
 gi_wp2_with (refine ⟨trivial, ?_⟩; gi_at_call 135; refine (callsIn_wide.2 (HW.out _ _ _)).mono ?_; rintro e w' ⟨rfl, rfl⟩)
 clear HW;obtain ⟨va, vc, rfl⟩ := hT.wait.slice;obtain ⟨hsz, hbel, hat⟩ := allocs_at [.cells #[h, .slice va hs.length vc] 125, .cells #[.int .i64 k, .int .i64 n] 24, .cells #[.int .i64 c, .int .i64 q] 129, .cells #[.int .i64 0] 3, .cells #[.int .i64 0] 3, .cells #[h, .slice va hs.length vc] 125, .cells #[.int .i64 k, .int .i64 n] 24] w;simp only [List.foldl_cons, List.foldl_nil, List.length_cons, List.length_nil] at hsz hbel hat;have g2 := hat 2 (by omega);have g3 := hat 3 (by omega);have g4 := hat 4 (by omega);have g5 := hat 5 (by omega);have g6 := hat 6 (by omega);clear hat;generalize ((((((w.alloc (.cells #[h, .slice va hs.length vc] 125)).alloc (.cells #[.int .i64 k, .int .i64 n] 24)).alloc (.cells #[.int .i64 c, .int .i64 q] 129)).alloc (.cells #[.int .i64 0] 3)).alloc (.cells #[.int .i64 0] 3)).alloc (.cells #[h, .slice va hs.length vc] 125)).alloc (.cells #[.int .i64 k, .int .i64 n] 24) = W0 at *;have hW := (hT.keep hbel).wait;have hw8 := hT.wait.1;have hvb := hT.wait.blk;clear hT;dsimp only at hW hw8 hvb;simp only [List.getElem?_cons_zero, List.getElem?_cons_succ] at g2 g3 g4 g5 g6;rw [show w.heap.size + 2 = w.heap.size + 1 + 1 from rfl] at g2;rw [show w.heap.size + 3 = w.heap.size + 1 + 1 + 1 from rfl] at g3;rw [show w.heap.size + 4 = w.heap.size + 1 + 1 + 1 + 1 from rfl] at g4;rw [show w.heap.size + 5 = w.heap.size + 1 + 1 + 1 + 1 + 1 from rfl] at g5;rw [show w.heap.size + 6 = w.heap.size + 1 + 1 + 1 + 1 + 1 + 1 from rfl] at g6;have HN : Hid (∃ Q0 Q1 Q2 Q3 Q4 Q5 Q6, Q0 = w.heap.size ∧ Q1 = w.heap.size + 1 ∧ Q2 = w.heap.size + 1 + 1 ∧ Q3 = w.heap.size + 1 + 1 + 1 ∧ Q4 = w.heap.size + 1 + 1 + 1 + 1 ∧ Q5 = w.heap.size + 1 + 1 + 1 + 1 + 1 ∧ Q6 = w.heap.size + 1 + 1 + 1 + 1 + 1 + 1) := ⟨_, _, _, _, _, _, _, rfl, rfl, rfl, rfl, rfl, rfl, rfl⟩;obtain ⟨Q0, Q1, Q2, Q3, Q4, Q5, Q6, e0, e1, e2, e3, e4, e5, e6⟩ := HN.out;clear HN;rw [← e6] at g6;rw [← e5] at g5;rw [← e4] at g4;rw [← e3] at g3;rw [← e2] at g2;rw [← e6, ← e5, ← e4, ← e3, ← e2, ← e1];have l2 : w.heap.size ≤ Q2 := by omega
 have l3 : Q2 < Q3 := by omega
 have l4 : Q3 < Q4 := by omega
 have l5 : Q4 < Q5 := by omega
 have l6 : Q5 < Q6 := by omega
 have l7 : Q6 < W0.heap.size := by omega
 clear e0 e1 e2 e3 e4 e5 e6 hsz;refine wpIn_rangeFunc_ownH rfl (by omega) (gf := 168) (lb := #[.pointer (some ⟨Q5, 0, none⟩), .pointer (some ⟨Q6, 0, none⟩)]) rfl trivial (enters_of Tryz.func168 (by kernel_rfl) rfl)
  (wait_stops (5 - 1) Q5 Q6 (by omega) (FQ Q3 Q4 W0.heap.size) hs h va vc k n W0 g5 g6 (by unfold FQ; omega) hW (fun b off e hb hp => by have := hvb hp b off e; unfold FQ; omega)) outK_t outK_b (Below.refl _ _) (fun _ => rfl)
  (fun pre W => QI w W0.heap.size Q2 Q3 Q4 c q pre W) (fun _ _ _ => False) (QI.own (by omega)) (fun _ _ _ _ _ hs _ _ => hs) ⟨g2, g3, g4, hbel, Nat.le_refl _⟩
  (fun x a' W => ∃ Bx, W0.heap.size ≤ Bx ∧ W.heap[Bx]? = some (.cells #[.int .i64 x.1, .int .i64 x.2] 129 (0, 0)) ∧ a' = { tmps := #[.agg #[h, .slice va hs.length vc], .agg #[.int .i64 k, .int .i64 n], .agg #[.int .i64 c, .int .i64 q], .pointer (some ⟨w.heap.size, 0, none⟩), .pointer (some ⟨Q1, 0, none⟩), .pointer (some ⟨Q2, 0, none⟩), .pointer (some ⟨Q3, 0, none⟩), .pointer (some ⟨Q4, 0, none⟩), .pointer (some ⟨Bx, 0, none⟩), .agg #[h, .slice va hs.length vc], .agg #[.int .i64 k, .int .i64 n], .func (.func 168) #[] #[.pointer (some ⟨Q5, 0, none⟩), .pointer (some ⟨Q6, 0, none⟩)], .agg #[.int .i64 x.1, .int .i64 x.2], undef, undef, undef, undef, undef, undef, undef, undef, undef], defers := [] })
  (fun x a' _ X Y row hs hg hr => by obtain ⟨Bx, h1, h2, h3⟩ := hs; exact ⟨Bx, h1, kept_cells h2 hg hr, h3⟩)
  ?assign ?body ?done ?stop
 case assign =>
  rintro l pre x W K hI hK
  gi_wp2
  exact hK _ _ ((KeepsOthers.alloc _ _).from _) (Out.ofAlloc _ _) ((QI.own (by omega)).alloc _ hI) ⟨W.heap.size, hI.siz, heap_alloc_new W _, rfl⟩
 case body =>
  rintro l pre ⟨xc, xq⟩ a' W hl ⟨r, hr⟩ hI ⟨Bx, hBx, bX, rfl⟩ hlt;have bl := hI.bel;have c2 : W.cell? ⟨Q2, 0, none⟩ = some (.int .i64 c) := by rw [cell_at hI.b2]; rfl
  have c2' : W.cell? ⟨Q2, 1, none⟩ = some (.int .i64 q) := by rw [cell_at hI.b2]; rfl
  have c3 : W.cell? ⟨Q3, 0, none⟩ = some (.int .i64 (pre.length : Int)) := by rw [cell_at hI.b3]; rfl
  have c4 : W.cell? ⟨Q4, 0, none⟩ = some (.int .i64 (pre.count (c, q) : Int)) := by rw [cell_at hI.b4]; rfl
  have cX : W.cell? ⟨Bx, 0, none⟩ = some (.int .i64 xc) := by rw [cell_at bX]; rfl
  have cX' : W.cell? ⟨Bx, 1, none⟩ = some (.int .i64 xq) := by rw [cell_at bX]; rfl
  have f3 := free_at hI.b3 0;have f4 := free_at hI.b4 0;have HI := hideIt hI;have HX := hideIt bX;have hw3 : IntKind.i64.wrap ((pre.length : Int) + 1) = (pre.length : Int) + 1 := by rw [IntKind.wrap_i64]; omega
  have hcl : pre.count (c, q) ≤ pre.length := List.count_le_length;have hw4 : IntKind.i64.wrap ((pre.count (c, q) : Int) + 1) = (pre.count (c, q) : Int) + 1 := by rw [IntKind.wrap_i64]; omega
  have m2 : Q2 ≠ Q3 := by omega
  have m4 : Q4 ≠ Q3 := by omega
  have mX : Bx ≠ Q3 := by omega
  clear hI bX hr hlt bl hcl hW hw8 hvb g2 g3 g4 g5 g6;cases hq : ((xc, xq) == (c, q))
  ·have q1 : ∀ W, (binOp .eql 129 (.agg #[.int .i64 xc, .int .i64 xq]) (.agg #[.int .i64 c, .int .i64 q])).run Tryz.prog W = .ok (.bool false) W := fun W => by rw [eq28, hq]
   have e3 : ((pre ++ [(xc, xq)]).length : Int) = (pre.length : Int) + 1 := by simp
   have e4 : (pre ++ [(xc, xq)]).count (c, q) = pre.count (c, q) := by rw [List.count_append, List.count_singleton, hq]; simp
   have HG : Hid (QI w W0.heap.size Q2 Q3 Q4 c q (pre ++ [(xc, xq)]) (W.setCell ⟨Q3, 0, none⟩ (.int .i64 ((pre.length : Int) + 1)))) := ⟨setOther _ HI.out.b2 m2, by rw [e3]; exact heap_set HI.out.b3 0 _, by rw [e4]; exact setOther _ HI.out.b4 m4, belowSet _ HI.out.bel (by omega), by simpa using HI.out.siz⟩
   clear hq e3 e4
   gi_wp2
   exact ⟨(KeepsOthers.setCell _ _ _).from _, Out.ofSet _ _ _ (.inl rfl), HG.out⟩
  ·have q1 : ∀ W, (binOp .eql 129 (.agg #[.int .i64 xc, .int .i64 xq]) (.agg #[.int .i64 c, .int .i64 q])).run Tryz.prog W = .ok (.bool true) W := fun W => by rw [eq28, hq]
   have e3 : ((pre ++ [(xc, xq)]).length : Int) = (pre.length : Int) + 1 := by simp
   have e4 : ((pre ++ [(xc, xq)]).count (c, q) : Int) = (pre.count (c, q) : Int) + 1 := by rw [List.count_append, List.count_singleton, hq]; simp
   have HG : Hid (QI w W0.heap.size Q2 Q3 Q4 c q (pre ++ [(xc, xq)]) ((W.setCell ⟨Q3, 0, none⟩ (.int .i64 ((pre.length : Int) + 1))).setCell ⟨Q4, 0, none⟩ (.int .i64 ((pre.count (c, q) : Int) + 1)))) := ⟨setOther _ (setOther _ HI.out.b2 m2) (by omega), by rw [e3]; exact setOther _ (heap_set HI.out.b3 0 _) m4.symm, by rw [e4]; exact heap_set (setOther _ HI.out.b4 m4) 0 _, belowSet _ (belowSet _ HI.out.bel (by omega)) (by omega), by simpa using HI.out.siz⟩
   clear hq e3 e4
   gi_wp2
   exact ⟨((KeepsOthers.setCell _ _ _).trans (KeepsOthers.setCell _ _ _)).from _, outK_t (Out.ofSet _ _ _ (.inl rfl)) (Out.ofSet _ _ _ (.inr (.inl rfl))), HG.out⟩
 case done =>
  rintro D xs W hD rfl hI hK
  gi_wp2
  have c3 : W.cell? ⟨Q3, 0, none⟩ = some (.int .i64 ((qL hs (k, n)).length : Int)) := by rw [cell_at hI.b3]; rfl
  have c4 : W.cell? ⟨Q4, 0, none⟩ = some (.int .i64 ((qL hs (k, n)).count (c, q) : Int)) := by rw [cell_at hI.b4]; rfl
  have f3 := free_at hI.b3 0;have f4 := free_at hI.b4 0;have nD3 : D ≠ Q3 := by omega
  have nD4 : D ≠ Q4 := by omega
  have r4 := heap_set (setOther (b := Q3) (j := 0) (.int .i64 ((qL hs (k, n)).length : Int)) hI.b4 (by omega)) 0 (.int .i64 ((qL hs (k, n)).count (c, q) : Int));have r3 := setOther (b := Q4) (j := 0) (.int .i64 ((qL hs (k, n)).count (c, q) : Int)) (heap_set hI.b3 0 (.int .i64 ((qL hs (k, n)).length : Int))) (by omega);have rD := setOther (b := Q4) (j := 0) (.int .i64 ((qL hs (k, n)).count (c, q) : Int)) (setOther (b := Q3) (j := 0) (.int .i64 ((qL hs (k, n)).length : Int)) hK nD3) nD4;have rb := belowSet (j := 0) (.int .i64 ((qL hs (k, n)).count (c, q) : Int)) (belowSet (j := 0) (.int .i64 ((qL hs (k, n)).length : Int)) hI.bel (b := Q3) (by omega)) (b := Q4) (by omega)
  gi_region
  gi_wp2
  refine ⟨by simp, .inl ⟨_, _, rfl, run_takeDeferred rD, ?_⟩⟩;have p3 := putO (o := .deferred none) (W := (((W.setCell ⟨Q3, 0, none⟩ (.int .i64 ((qL hs (k, n)).length : Int))).setCell ⟨Q4, 0, none⟩ (.int .i64 ((qL hs (k, n)).count (c, q) : Int))).drew)) r3 nD3;have p4 := putO (o := .deferred none) (W := (((W.setCell ⟨Q3, 0, none⟩ (.int .i64 ((qL hs (k, n)).length : Int))).setCell ⟨Q4, 0, none⟩ (.int .i64 ((qL hs (k, n)).count (c, q) : Int))).drew)) r4 nD4;refine ⟨.tuple #[.int .i64 ((qL hs (k, n)).length : Int), .int .i64 ((qL hs (k, n)).count (c, q) : Int)], by simp [results, Tryz.results102, go_sem, cell_at p3, cell_at p4], rfl, ?_⟩;exact rb.drew.trans (belowK_b (w := w) (Nat.le_refl _) _ D _ _ (by omega) rD rfl rfl)
 case stop =>
  rintro D c pre W _ _ h _;exact h.elim
def holB (h : HoldV) : Bool := keyB h.1 && namB h.2
theorem all_drop {α : Type} {l : List α} {p : α → Bool} {t : Nat} (h : t < l.length) : (l.drop t).all p = (p l[t] && (l.drop (t + 1)).all p) := by
 rw [List.drop_eq_getElem_cons h, List.all_cons]
theorem any_drop {α : Type} {l : List α} {p : α → Bool} {t : Nat} (h : t < l.length) : (l.drop t).any p = (p l[t] || (l.drop (t + 1)).any p) := by
 rw [List.drop_eq_getElem_cons h, List.any_cons]
set_option maxHeartbeats 4000000 in
set_option maxRecDepth 100000 in
theorem areHolds_is (v : Value) (l : List HoldV) (w : World) (h : Hols w v l) : Calls Tryz.prog 164 #[v] w fun e w' => e = .returned (.bool (l.all holB)) ∧ Below w.heap.size w w' := by
 obtain ⟨a, c, rfl, h8, hr⟩ := h.hols;have HH := hideIt hr;clear hr h;have HK := hideIt (fun k n W => isKey_is k n W);have HN := hideIt (fun k n W => isName_is k n W)
 go_enter Tryz.func164, Tryz.ntmps164
 go_wp2
 go_loopw [7] (fun v wr => ∃ t : Nat, v = .int .i64 t ∧ t ≤ l.length ∧ Hid (Below w.heap.size w wr ∧ l.all holB = (l.drop t).all holB)) (fun v _ => l.length - (intOf v).toNat)
 case atStart => exact ⟨0, rfl, Nat.zero_le _, hideIt ⟨Below.refl _ _, by simp⟩⟩
 case round =>
  obtain ⟨t, rfl, ht, HR⟩ := hrel
  by_cases hlt : t < l.length
  ·have hltI : (t : Int) < (l.length : Int) := by omega
   have ht0 : (0 : Int) ≤ (t : Int) := by omega
   have hw : IntKind.i64.wrap ((t : Int) + 1) = ((t + 1 : Nat) : Int) := by rw [IntKind.wrap_i64]; omega
   have hB := HR.out.1;obtain ⟨b, off, rfl, hbl, q0, q1, q2, q3⟩ := HH.out t hlt;have hblr : b < wr.heap.size := Nat.lt_of_lt_of_le hbl hB.size;have c0 := (hB.cell (p := ⟨b, off + t * 4, none⟩) hbl).trans q0;have c1 := (hB.cell (p := ⟨b, off + t * 4 + 1, none⟩) hbl).trans q1;have c2 := (hB.cell (p := ⟨b, off + t * 4 + 2, none⟩) hbl).trans q2;have c3 := (hB.cell (p := ⟨b, off + t * 4 + 3, none⟩) hbl).trans q3;clear q0 q1 q2 q3;have HD := hideIt (HR.out.2.trans (all_drop hlt));clear HR HH;generalize l[t] = en at *;obtain ⟨⟨x, y⟩, ⟨z, u⟩⟩ := en;dsimp only at c0 c1 c2 c3;have HB2 := hideIt (below_via hB (below1 wr (.cells #[.int .i64 x, .int .i64 y, .int .i64 z, .int .i64 u] 166)));have H4 := hideIt (heap_alloc_new wr (.cells #[.int .i64 x, .int .i64 y, .int .i64 z, .int .i64 u] 166));have HC := hideIt (HK.out x y (wr.alloc (.cells #[.int .i64 x, .int .i64 y, .int .i64 z, .int .i64 u] 166)));have HC2 := hideIt (fun W => HN.out z u W);clear hB HK HN;cases hk : keyB (x, y)
   ·rw [hk] at HC;have HE : Hid (holB ((x, y), (z, u)) = false) := by
     show holB _ = _
     simp [holB, hk]
    clear hk
    go_wp2_with fail
    refine HC.out.mono ?_;rintro e w1 ⟨rfl, hb⟩;dsimp only;have HB3 := hideIt (below_via HB2.out hb);clear hb;go_wp2;go_ret
    exact ⟨by rw [HD.out, HE.out]; rfl, HB3.out⟩
   ·rw [hk] at HC;cases hn : namB (z, u)
    ·rw [hn] at HC2;have HE : Hid (holB ((x, y), (z, u)) = false) := by
      show holB _ = _
      simp [holB, hk, hn]
     clear hk hn
     go_wp2_with fail
     refine HC.out.mono ?_;rintro e w1 ⟨rfl, hb⟩;dsimp only;have HB3 := hideIt (below_via HB2.out hb);have H5 := hideIt ((hb.block _ (by simp)).trans H4.out);have d2 : w1.cell? ⟨wr.heap.size, 2, none⟩ = some (.int .i64 z) := by rw [cell_at H5.out]; rfl
     have d3 : w1.cell? ⟨wr.heap.size, 3, none⟩ = some (.int .i64 u) := by rw [cell_at H5.out]; rfl
     clear hb HC
     go_wp2_with fail
     refine (HC2.out _).mono ?_;rintro e w2 ⟨rfl, hb⟩;dsimp only;have HB4 := hideIt (below_via HB3.out hb);clear hb;go_wp2;go_ret
     exact ⟨by rw [HD.out, HE.out]; rfl, HB4.out⟩
    ·rw [hn] at HC2;have HE : Hid (holB ((x, y), (z, u)) = true) := by
      show holB _ = _
      simp [holB, hk, hn]
     clear hk hn
     go_wp2_with fail
     refine HC.out.mono ?_;rintro e w1 ⟨rfl, hb⟩;dsimp only;have HB3 := hideIt (below_via HB2.out hb);have H5 := hideIt ((hb.block _ (by simp)).trans H4.out);have d2 : w1.cell? ⟨wr.heap.size, 2, none⟩ = some (.int .i64 z) := by rw [cell_at H5.out]; rfl
     have d3 : w1.cell? ⟨wr.heap.size, 3, none⟩ = some (.int .i64 u) := by rw [cell_at H5.out]; rfl
     clear hb HC
     go_wp2_with fail
     refine (HC2.out _).mono ?_;rintro e w2 ⟨rfl, hb⟩;dsimp only;have HB4 := hideIt (below_via HB3.out hb);clear hb;go_wp2
     go_roundw
     case rel => exact ⟨t + 1, by go_num, by omega, hideIt ⟨HB4.out, by rw [HD.out, HE.out]; rfl⟩⟩
     case measure => simp [intOf]; omega
  ·have hltI : ¬ (t : Int) < (l.length : Int) := by omega
   have HF : Hid (l.all holB = true) := by
    show _ = _
    rw [HR.out.2, List.drop_eq_nil_of_le (by omega)]
    rfl
   have HB := hideIt HR.out.1;clear HR HH HK HN;go_wp2;go_ret
   exact ⟨by rw [HF.out]; rfl, HB.out⟩
def twB : List HoldV → List HoldV → Bool
 | _, [] => false
 | pre, h :: t => pre.any (fun a => a.1 == h.1) || twB (pre ++ [h]) t
theorem tw_at {l : List HoldV} {t : Nat} (h : t < l.length) : twB (l.take t) (l.drop t) = ((l.take t).any (fun a => a.1 == l[t].1) || twB (l.take (t + 1)) (l.drop (t + 1))) := by
 rw [List.drop_eq_getElem_cons h, twB, List.take_succ_eq_append_getElem h]
theorem B1.cells {w wx : World} {p q : Value} (h : wx.heap[w.heap.size]? = some (.cells #[p, q] 125 (0, 0))) : wx.cell? ⟨w.heap.size, 0, none⟩ = some p ∧ wx.cell? ⟨w.heap.size, 1, none⟩ = some q := ⟨by rw [cell_at h]; rfl, by rw [cell_at h]; rfl⟩
set_option maxHeartbeats 4000000 in
set_option maxRecDepth 100000 in
theorem twice_is (T : TabV) (h v : Value) (w : World) (hT : Tab w T h v) : Calls Tryz.prog 165 #[.agg #[h, v]] w fun e w' => e = .returned (.bool (twB [] T.held)) ∧ Below w.heap.size w w' := by
 obtain ⟨a, c, rfl, h8, hr⟩ := hT.held.hols;have hcap := hT.held.cap;have hm : maxLen = 9223372036854775807 := by decide
 rw [hm] at hcap;obtain ⟨va, vc, rfl⟩ := hT.wait.slice;have HH := hideIt hr;clear hT hr;generalize T.held = l at *;generalize T.wait.length = m at *;have HB0 := hideIt (below1 w (.cells #[.slice a l.length c, .slice va m vc] 125));have HX0 := hideIt (heap_alloc_new w (.cells #[.slice a l.length c, .slice va m vc] 125))
 go_enter Tryz.func165, Tryz.ntmps165
 go_wp2
 go_loopw [10] (fun v wr => ∃ t : Nat, v = .int .i64 t ∧ t ≤ l.length ∧ Hid (Below w.heap.size w wr ∧ wr.heap[w.heap.size]? = some (.cells #[.slice a l.length c, .slice va m vc] 125 (0, 0)) ∧ twB [] l = twB (l.take t) (l.drop t))) (fun v _ => l.length - (intOf v).toNat)
 case atStart => exact ⟨0, rfl, Nat.zero_le _, hideIt ⟨HB0.out, HX0.out, by simp⟩⟩
 case round =>
  clear HB0 HX0;obtain ⟨t, rfl, ht, HR⟩ := hrel
  by_cases hlt : t < l.length
  ·have hltI : (t : Int) < (l.length : Int) := by omega
   have ht0 : (0 : Int) ≤ (t : Int) := by omega
   have hw : IntKind.i64.wrap ((t : Int) + 1) = ((t + 1 : Nat) : Int) := by rw [IntKind.wrap_i64]; omega
   have hB := HR.out.1;have x0 := (B1.cells HR.out.2.1).1;have hsz : w.heap.size < wr.heap.size := (Array.getElem?_eq_some_iff.1 HR.out.2.1).1;have htc : (t : Int) ≤ (c : Int) := by omega
   have HHk := HH;obtain ⟨b, off, rfl, hbl, q0, q1, q2, q3⟩ := HH.out t hlt;have hblr : b < wr.heap.size := Nat.lt_of_lt_of_le hbl hB.size;have c0 := (hB.cell (p := ⟨b, off + t * 4, none⟩) hbl).trans q0;have c1 := (hB.cell (p := ⟨b, off + t * 4 + 1, none⟩) hbl).trans q1;have c2 := (hB.cell (p := ⟨b, off + t * 4 + 2, none⟩) hbl).trans q2;have c3 := (hB.cell (p := ⟨b, off + t * 4 + 3, none⟩) hbl).trans q3;clear q0 q1 q2 q3;have HD := hideIt (HR.out.2.2.trans (tw_at hlt));have HX := hideIt ((below1 wr (.cells (holE l[t]).toArray 166)).block _ hsz |>.trans HR.out.2.1);have HB1 := hideIt (below_via hB (below1 wr (.cells (holE l[t]).toArray 166)));have HN := hideIt (heap_alloc_new wr (.cells (holE l[t]).toArray 166));unfold holE at HX HB1 HN;generalize hen : l[t] = en at *;obtain ⟨⟨x, y⟩, ⟨z, u⟩⟩ := en;dsimp only at c0 c1 c2 c3 HX HB1 HN;clear HR hen HH;go_wp2;generalize wr.alloc (.cells #[.int .i64 x, .int .i64 y, .int .i64 z, .int .i64 u] 166) = W1 at *;generalize wr.heap.size = K at *
   go_loopw [20] (fun v wi => ∃ j : Nat, v = .int .i64 j ∧ j ≤ t ∧ Hid (Below W1.heap.size W1 wi ∧ (l.take t).any (fun a => a.1 == (x, y)) = ((l.take t).drop j).any (fun a => a.1 == (x, y)))) (fun v _ => t - (intOf v).toNat)
   case atStart => exact ⟨0, rfl, Nat.zero_le _, hideIt ⟨Below.refl _ _, by simp⟩⟩
   case round =>
    obtain ⟨j, rfl, hj, HJ⟩ := hrel;have HB2 := hideIt (below_via HB1.out HJ.out.1);have HX2 := hideIt ((HJ.out.1.block _ (Array.getElem?_eq_some_iff.1 HX.out).1).trans HX.out);have HN2 := hideIt ((HJ.out.1.block _ (Array.getElem?_eq_some_iff.1 HN.out).1).trans HN.out)
    by_cases hjl : j < t
    ·have hjI : (j : Int) < (t : Int) := by omega
     have hj0 : (0 : Int) ≤ (j : Int) := by omega
     have hwj : IntKind.i64.wrap ((j : Int) + 1) = ((j + 1 : Nat) : Int) := by rw [IntKind.wrap_i64]; omega
     obtain ⟨b', off', e, -, p0, p1, p2, p3⟩ := HHk.out j (by omega);simp only [Option.some.injEq, Addr.mk.injEq, and_true] at e;obtain ⟨rfl, rfl⟩ := e;have hB2 := HB2.out;have hblr : b < wr.heap.size := Nat.lt_of_lt_of_le hbl hB2.size;have d0 := (hB2.cell (p := ⟨b, off + j * 4, none⟩) hbl).trans p0;have d1 := (hB2.cell (p := ⟨b, off + j * 4 + 1, none⟩) hbl).trans p1;have d2 := (hB2.cell (p := ⟨b, off + j * 4 + 2, none⟩) hbl).trans p2;have d3 := (hB2.cell (p := ⟨b, off + j * 4 + 3, none⟩) hbl).trans p3;have hkl : K < wr.heap.size := (Array.getElem?_eq_some_iff.1 HN2.out).1;have k0 : wr.cell? ⟨K, 0, none⟩ = some (.int .i64 x) := by rw [cell_at HN2.out]; rfl
     have k1 : wr.cell? ⟨K, 1, none⟩ = some (.int .i64 y) := by rw [cell_at HN2.out]; rfl
     have hjl2 : j < (l.take t).length := by rw [List.length_take]; omega
     have HA := hideIt (HJ.out.2.trans (any_drop hjl2));have hg : (l.take t)[j] = l[j]'(by omega) := List.getElem_take;rw [hg] at HA;have HB5 := hideIt HJ.out.1;clear p0 p1 p2 p3 hB2 HJ HHk c0 c1 c2 c3 x0 hg hjl2 hB;generalize l[j]'(by omega) = em at *;obtain ⟨⟨x', y'⟩, ⟨z', u'⟩⟩ := em;dsimp only at d0 d1 d2 d3 HA;cases hq : ((x', y') == (x, y))
     ·have q1 : ∀ W, (binOp .eql 24 (.agg #[.int .i64 x', .int .i64 y']) (.agg #[.int .i64 x, .int .i64 y])).run Tryz.prog W = .ok (.bool false) W := fun W => by rw [eq26, hq]
      rw [hq, Bool.false_or] at HA;clear hq;go_wp2
      go_roundw
      case rel => exact ⟨j + 1, by go_num, by omega, hideIt ⟨below_via HB5.out (below1 _ _), HA.out⟩⟩
      case measure => simp [intOf]; omega
     ·have q1 : ∀ W, (binOp .eql 24 (.agg #[.int .i64 x', .int .i64 y']) (.agg #[.int .i64 x, .int .i64 y])).run Tryz.prog W = .ok (.bool true) W := fun W => by rw [eq26, hq]
      rw [hq, Bool.true_or] at HA;have HF := hideIt HD.out;rw [HA.out, Bool.true_or] at HF;clear hq;go_wp2;go_ret
      exact ⟨by rw [HF.out]; rfl, below_via HB2.out (below1 _ _)⟩
    ·have hjI : ¬ (j : Int) < (t : Int) := by omega
     have HA : Hid ((l.take t).any (fun a => a.1 == (x, y)) = false) := by
      show _ = _
      rw [HJ.out.2, List.drop_eq_nil_of_le (by rw [List.length_take]; omega)]
      rfl
     have HF := hideIt HD.out;rw [HA.out, Bool.false_or] at HF;clear HJ HHk c0 c1 c2 c3 x0 hB;go_wp2
     go_roundw
     case rel => exact ⟨t + 1, by go_num, by omega, hideIt ⟨HB2.out, HX2.out, HF.out⟩⟩
     case measure => simp [intOf]; omega
  ·have hltI : ¬ (t : Int) < (l.length : Int) := by omega
   have HF : Hid (twB [] l = false) := by
    show _ = _
    rw [HR.out.2.2, List.drop_eq_nil_of_le (by omega)]
    rfl
   have HB := hideIt HR.out.1;clear HR HH;go_wp2;go_ret
   exact ⟨by rw [HF.out]; rfl, HB.out⟩
def mwB (T : TabV) (w : HoldV) : Bool := !((hdT T.held w.1 == zT) || ((hdT T.held w.1 == w.2) || (decide (4 < (qL T.wait w.1).length) || decide (1 < (qL T.wait w.1).count w.2))))
set_option maxHeartbeats 8000000 in
set_option maxRecDepth 100000 in
theorem mayWait_is (T : TabV) (h v : Value) (w : World) (hT : Tab w T h v) : Calls Tryz.prog 166 #[.agg #[h, v]] w fun e w' => e = .returned (.bool (T.wait.all (mwB T))) ∧ Below w.heap.size w w' := by
 have HD := hideIt (fun k n W (hW : Below w.heap.size w W) => holder_is T h v k n W (hT.keep hW));have HQ := hideIt (fun k n c q W (hW : Below w.heap.size w W) => queue_is T h v k n c q W (hT.keep hW));have HZ := hideIt (fun a b W => isNobody_is a b W);obtain ⟨ha, hc, rfl⟩ := hT.held.slice;obtain ⟨a, c, rfl, h8, hr⟩ := hT.wait.hols;have HH := hideIt hr;clear hT hr;have HB0 := hideIt (below1 w (.cells #[.slice ha T.held.length hc, .slice a T.wait.length c] 125));have HX0 := hideIt (heap_alloc_new w (.cells #[.slice ha T.held.length hc, .slice a T.wait.length c] 125));generalize T.held.length = m at *;generalize hl : T.wait = l at *
 go_enter Tryz.func166, Tryz.ntmps166
 go_wp2
 go_loopw [11] (fun v wr => ∃ t : Nat, v = .int .i64 t ∧ t ≤ l.length ∧ Hid (Below w.heap.size w wr ∧ wr.heap[w.heap.size]? = some (.cells #[.slice ha m hc, .slice a l.length c] 125 (0, 0)) ∧ l.all (mwB T) = (l.drop t).all (mwB T))) (fun v _ => l.length - (intOf v).toNat)
 case atStart => exact ⟨0, rfl, Nat.zero_le _, hideIt ⟨HB0.out, HX0.out, by simp⟩⟩
 case round =>
  clear HB0 HX0;obtain ⟨t, rfl, ht, HR⟩ := hrel
  by_cases hlt : t < l.length
  ·have hltI : (t : Int) < (l.length : Int) := by omega
   have ht0 : (0 : Int) ≤ (t : Int) := by omega
   have hw : IntKind.i64.wrap ((t : Int) + 1) = ((t + 1 : Nat) : Int) := by rw [IntKind.wrap_i64]; omega
   have hB := HR.out.1;have x0 := (B1.cells HR.out.2.1).1;have x1 := (B1.cells HR.out.2.1).2;have hsz : w.heap.size < wr.heap.size := (Array.getElem?_eq_some_iff.1 HR.out.2.1).1;obtain ⟨b, off, rfl, hbl, q0, q1, q2, q3⟩ := HH.out t hlt;have hblr : b < wr.heap.size := Nat.lt_of_lt_of_le hbl hB.size;have c0 := (hB.cell (p := ⟨b, off + t * 4, none⟩) hbl).trans q0;have c1 := (hB.cell (p := ⟨b, off + t * 4 + 1, none⟩) hbl).trans q1;have c2 := (hB.cell (p := ⟨b, off + t * 4 + 2, none⟩) hbl).trans q2;have c3 := (hB.cell (p := ⟨b, off + t * 4 + 3, none⟩) hbl).trans q3;clear q0 q1 q2 q3;have HA := hideIt (HR.out.2.2.trans (all_drop hlt));have HX := hideIt ((below1 wr (.cells (holE l[t]).toArray 166)).block _ hsz |>.trans HR.out.2.1);have HB1 := hideIt (below_via hB (below1 wr (.cells (holE l[t]).toArray 166)));have HN := hideIt (heap_alloc_new wr (.cells (holE l[t]).toArray 166));unfold holE at HX HB1 HN;generalize hen : l[t] = en at *;obtain ⟨⟨x, y⟩, ⟨z, u⟩⟩ := en;dsimp only at c0 c1 c2 c3 HX HB1 HN;have HM : Hid (mwB T ((x, y), (z, u)) = !((hdT T.held (x, y) == zT) || ((hdT T.held (x, y) == (z, u)) || (decide (4 < (qL l (x, y)).length) || decide (1 < (qL l (x, y)).count (z, u)))))) := by
    show mwB T _ = _
    unfold mwB;rw [hl]
   clear HR hen HH hB;have HC := hideIt (HD.out x y (wr.alloc (.cells #[.int .i64 x, .int .i64 y, .int .i64 z, .int .i64 u] 166)) HB1.out);have HC2 := hideIt (fun W hW => HQ.out x y z u W hW);generalize hdT T.held (x, y) = f at *;obtain ⟨fc, fq⟩ := f;have HC3 := hideIt (fun W => HZ.out fc fq W);clear HD HQ HZ hl;have l8 : (qL l (x, y)).length ≤ l.length := qL_len _ _;have k8 : (qL l (x, y)).count (z, u) ≤ (qL l (x, y)).length := List.count_le_length;generalize (qL l (x, y)).count (z, u) = own at *;generalize (qL l (x, y)).length = all at *
   go_wp2_with fail
   generalize wr.alloc (.cells #[.int .i64 x, .int .i64 y, .int .i64 z, .int .i64 u] 166) = W1 at *;generalize wr.heap.size = K at *;refine HC.out.mono ?_;rintro e w1 ⟨rfl, hb⟩;dsimp only;have HX1 := hideIt (((hb.block _ (Array.getElem?_eq_some_iff.1 HX.out).1).trans HX.out));have HN1 := hideIt (((hb.block _ (Array.getElem?_eq_some_iff.1 HN.out).1).trans HN.out));have HB2 := hideIt (below_via HB1.out hb);have HX2 := hideIt (((below1 w1 (.cells #[.int .i64 fc, .int .i64 fq] 129)).block _ (Array.getElem?_eq_some_iff.1 HX1.out).1).trans HX1.out);have HN2 := hideIt (((below1 w1 (.cells #[.int .i64 fc, .int .i64 fq] 129)).block _ (Array.getElem?_eq_some_iff.1 HN1.out).1).trans HN1.out);have HB3 := hideIt (below_via HB2.out (below1 w1 (.cells #[.int .i64 fc, .int .i64 fq] 129)));have HF3 := hideIt (heap_alloc_new w1 (.cells #[.int .i64 fc, .int .i64 fq] 129));clear hb HX HN HB1 HC x0 x1 c0 c1 c2 c3 HX1 HN1 HB2
   go_upto_region 5 with fail
   generalize w1.alloc (.cells #[.int .i64 fc, .int .i64 fq] 129) = W2 at *;generalize w1.heap.size = K5 at *;have x0 := (B1.cells HX2.out).1;have x1 := (B1.cells HX2.out).2;have y0 : W2.cell? ⟨K, 0, none⟩ = some (.int .i64 x) := by rw [cell_at HN2.out]; rfl
   have y1 : W2.cell? ⟨K, 1, none⟩ = some (.int .i64 y) := by rw [cell_at HN2.out]; rfl
   have y2 : W2.cell? ⟨K, 2, none⟩ = some (.int .i64 z) := by rw [cell_at HN2.out]; rfl
   have y3 : W2.cell? ⟨K, 3, none⟩ = some (.int .i64 u) := by rw [cell_at HN2.out]; rfl
   go_wp2_with fail
   refine (HC2.out _ HB3.out).mono ?_;rintro e w2 ⟨rfl, hb⟩;dsimp only;have HX4 := hideIt ((hb.block _ (Array.getElem?_eq_some_iff.1 HX2.out).1).trans HX2.out);have HN4 := hideIt ((hb.block _ (Array.getElem?_eq_some_iff.1 HN2.out).1).trans HN2.out);have HF4 := hideIt ((hb.block _ (Array.getElem?_eq_some_iff.1 HF3.out).1).trans HF3.out);have HB4 := hideIt (below_via HB3.out hb);clear hb HX2 HN2 HF3 HB3 HC2 x0 x1 y0 y1 y2 y3
   go_upto_region 6 with fail
   have f0 : w2.cell? ⟨K5, 0, none⟩ = some (.int .i64 fc) := by rw [cell_at HF4.out]; rfl
   have f1 : w2.cell? ⟨K5, 1, none⟩ = some (.int .i64 fq) := by rw [cell_at HF4.out]; rfl
   have HC4 := hideIt (HC3.out w2);clear HC3;cases hz : ((fc, fq) == zT)
   ·rw [hz] at HC4 HM;rw [Bool.false_or] at HM
    go_wp2_with fail
    refine HC4.out.mono ?_;rintro e w3 ⟨rfl, hb⟩;dsimp only;have HX5 := hideIt ((hb.block _ (Array.getElem?_eq_some_iff.1 HX4.out).1).trans HX4.out);have HN5 := hideIt ((hb.block _ (Array.getElem?_eq_some_iff.1 HN4.out).1).trans HN4.out);have HF5 := hideIt ((hb.block _ (Array.getElem?_eq_some_iff.1 HF4.out).1).trans HF4.out);have HB5 := hideIt (below_via HB4.out hb);clear hb HX4 HN4 HF4 HB4 f0 f1 hz HC4;have f0 : w3.cell? ⟨K5, 0, none⟩ = some (.int .i64 fc) := by rw [cell_at HF5.out]; rfl
    have f1 : w3.cell? ⟨K5, 1, none⟩ = some (.int .i64 fq) := by rw [cell_at HF5.out]; rfl
    have y2 : w3.cell? ⟨K, 2, none⟩ = some (.int .i64 z) := by rw [cell_at HN5.out]; rfl
    have y3 : w3.cell? ⟨K, 3, none⟩ = some (.int .i64 u) := by rw [cell_at HN5.out]; rfl
    cases hq : ((fc, fq) == (z, u))
    ·have q1 : ∀ W, (binOp .eql 129 (.agg #[.int .i64 fc, .int .i64 fq]) (.agg #[.int .i64 z, .int .i64 u])).run Tryz.prog W = .ok (.bool false) W := fun W => by rw [eq28, hq]
     rw [hq, Bool.false_or] at HM;clear hq
     by_cases h4 : 4 < all
     ·have h4I : (4 : Int) < (all : Int) := by omega
      rw [decide_eq_true h4, Bool.true_or, Bool.not_true] at HM;clear h4;go_wp2;go_ret
      exact ⟨by rw [HA.out, HM.out]; rfl, HB5.out⟩
     ·have h4I : ¬ (4 : Int) < (all : Int) := by omega
      rw [decide_eq_false h4, Bool.false_or] at HM
      by_cases h1 : 1 < own
      ·have h1I : (1 : Int) < (own : Int) := by omega
       rw [decide_eq_true h1, Bool.not_true] at HM;clear h1 h4;go_wp2;go_ret
       exact ⟨by rw [HA.out, HM.out]; rfl, HB5.out⟩
      ·have h1I : ¬ (1 : Int) < (own : Int) := by omega
       rw [decide_eq_false h1, Bool.not_false] at HM;rw [HM.out, Bool.true_and] at HA;clear h1 h4;go_wp2
       go_roundw
       case rel => exact ⟨t + 1, by go_num, by omega, hideIt ⟨HB5.out, HX5.out, HA.out⟩⟩
       case measure => simp [intOf]; omega
    ·have q1 : ∀ W, (binOp .eql 129 (.agg #[.int .i64 fc, .int .i64 fq]) (.agg #[.int .i64 z, .int .i64 u])).run Tryz.prog W = .ok (.bool true) W := fun W => by rw [eq28, hq]
     rw [hq, Bool.true_or, Bool.not_true] at HM;clear hq;go_wp2;go_ret
     exact ⟨by rw [HA.out, HM.out]; rfl, HB5.out⟩
   ·rw [hz] at HC4 HM;rw [Bool.true_or, Bool.not_true] at HM;clear hz
    go_wp2_with fail
    refine HC4.out.mono ?_;rintro e w3 ⟨rfl, hb⟩;dsimp only;have HB5 := hideIt (below_via HB4.out hb);clear hb;go_wp2;go_ret
    exact ⟨by rw [HA.out, HM.out]; rfl, HB5.out⟩
  ·have hltI : ¬ (t : Int) < (l.length : Int) := by omega
   have HF : Hid (l.all (mwB T) = true) := by
    show _ = _
    rw [HR.out.2.2, List.drop_eq_nil_of_le (by omega)]
    rfl
   have HB := hideIt HR.out.1;clear HR HH HD HQ HZ hl;go_wp2;go_ret
   exact ⟨by rw [HF.out]; rfl, HB.out⟩
def chkB (T : TabV) : Bool := decide (T.held.length + T.wait.length ≤ 200) && (T.held.all holB && (T.wait.all holB && (!(twB [] T.held) && T.wait.all (mwB T))))
def chkI (T : TabV) : Int := if chkB T = true then 0 else 160
set_option maxHeartbeats 8000000 in
set_option maxRecDepth 100000 in
theorem check_is (T : TabV) (h v : Value) (w : World) (hT : Tab w T h v) : Calls Tryz.prog 132 #[.agg #[h, v]] w fun e w' => e = .returned (.int .i64 (chkI T)) ∧ Below w.heap.size w w' := by
 have H1 := hideIt (fun W (hW : Below w.heap.size w W) => size_is T h v W (hT.keep hW));have H2 := hideIt (fun W (hW : Below w.heap.size w W) => areHolds_is h T.held W (hT.keep hW).held);have H3 := hideIt (fun W (hW : Below w.heap.size w W) => areHolds_is v T.wait W (hT.keep hW).wait);have H4 := hideIt (fun W (hW : Below w.heap.size w W) => twice_is T h v W (hT.keep hW));have H5 := hideIt (fun W (hW : Below w.heap.size w W) => mayWait_is T h v W (hT.keep hW));have hl1 := hT.held.1;have hl2 := hT.wait.1;have HE : Hid (chkI T = if chkB T = true then 0 else 160) := rfl;unfold chkB at HE;obtain ⟨ha, hc, rfl⟩ := hT.held.slice;obtain ⟨va, vc, rfl⟩ := hT.wait.slice;clear hT;generalize chkI T = res at *;generalize T.held.all holB = g2 at *;generalize T.wait.all holB = g3 at *;generalize twB [] T.held = g4 at *;generalize T.wait.all (mwB T) = g5 at *;generalize T.held.length = m at *;generalize T.wait.length = n at *;have X0 := hideIt (heap_alloc_new w (.cells #[.slice ha m hc, .slice va n vc] 125));have U0 := hideIt (below1 w (.cells #[.slice ha m hc, .slice va n vc] 125))
 by_cases hs : m + n ≤ 200
 ·have hsI : (m : Int) + (n : Int) ≤ 200 := by omega
  rw [decide_eq_true hs, Bool.true_and] at HE;clear hs;cases g2
  ·have HF : Hid (res = 160) := by rw [HE.out]; rfl
   clear HE
   go_enter Tryz.func132, Tryz.ntmps132
   go_wp2_with fail
   refine (H1.out _ U0.out).mono ?_;rintro e w1 ⟨rfl, hb⟩;dsimp only;have X1 := hideIt ((hb.block _ (Array.getElem?_eq_some_iff.1 X0.out).1).trans X0.out);have U1 := hideIt (below_via U0.out hb);have w1a := (B1.cells X1.out).1;have w1b := (B1.cells X1.out).2;clear hb
   go_wp2_with fail
   refine (H2.out _ U1.out).mono ?_;rintro e w2 ⟨rfl, hb⟩;dsimp only;have X2 := hideIt ((hb.block _ (Array.getElem?_eq_some_iff.1 X1.out).1).trans X1.out);have U2 := hideIt (below_via U1.out hb);have w2a := (B1.cells X2.out).1;have w2b := (B1.cells X2.out).2;clear hb;go_wp2;go_ret
   exact ⟨by rw [HF.out]; rfl, U2.out⟩
  ·cases g3
   ·have HF : Hid (res = 160) := by rw [HE.out]; rfl
    clear HE
    go_enter Tryz.func132, Tryz.ntmps132
    go_wp2_with fail
    refine (H1.out _ U0.out).mono ?_;rintro e w1 ⟨rfl, hb⟩;dsimp only;have X1 := hideIt ((hb.block _ (Array.getElem?_eq_some_iff.1 X0.out).1).trans X0.out);have U1 := hideIt (below_via U0.out hb);have w1a := (B1.cells X1.out).1;have w1b := (B1.cells X1.out).2;clear hb
    go_wp2_with fail
    refine (H2.out _ U1.out).mono ?_;rintro e w2 ⟨rfl, hb⟩;dsimp only;have X2 := hideIt ((hb.block _ (Array.getElem?_eq_some_iff.1 X1.out).1).trans X1.out);have U2 := hideIt (below_via U1.out hb);have w2a := (B1.cells X2.out).1;have w2b := (B1.cells X2.out).2;clear hb
    go_wp2_with fail
    refine (H3.out _ U2.out).mono ?_;rintro e w3 ⟨rfl, hb⟩;dsimp only;have X3 := hideIt ((hb.block _ (Array.getElem?_eq_some_iff.1 X2.out).1).trans X2.out);have U3 := hideIt (below_via U2.out hb);have w3a := (B1.cells X3.out).1;have w3b := (B1.cells X3.out).2;clear hb;go_wp2;go_ret
    exact ⟨by rw [HF.out]; rfl, U3.out⟩
   ·cases g4
    ·cases g5
     ·have HF : Hid (res = 160) := by rw [HE.out]; rfl
      clear HE
      go_enter Tryz.func132, Tryz.ntmps132
      go_wp2_with fail
      refine (H1.out _ U0.out).mono ?_;rintro e w1 ⟨rfl, hb⟩;dsimp only;have X1 := hideIt ((hb.block _ (Array.getElem?_eq_some_iff.1 X0.out).1).trans X0.out);have U1 := hideIt (below_via U0.out hb);have w1a := (B1.cells X1.out).1;have w1b := (B1.cells X1.out).2;clear hb
      go_wp2_with fail
      refine (H2.out _ U1.out).mono ?_;rintro e w2 ⟨rfl, hb⟩;dsimp only;have X2 := hideIt ((hb.block _ (Array.getElem?_eq_some_iff.1 X1.out).1).trans X1.out);have U2 := hideIt (below_via U1.out hb);have w2a := (B1.cells X2.out).1;have w2b := (B1.cells X2.out).2;clear hb
      go_wp2_with fail
      refine (H3.out _ U2.out).mono ?_;rintro e w3 ⟨rfl, hb⟩;dsimp only;have X3 := hideIt ((hb.block _ (Array.getElem?_eq_some_iff.1 X2.out).1).trans X2.out);have U3 := hideIt (below_via U2.out hb);have w3a := (B1.cells X3.out).1;have w3b := (B1.cells X3.out).2;clear hb
      go_wp2_with fail
      refine (H4.out _ U3.out).mono ?_;rintro e w4 ⟨rfl, hb⟩;dsimp only;have X4 := hideIt ((hb.block _ (Array.getElem?_eq_some_iff.1 X3.out).1).trans X3.out);have U4 := hideIt (below_via U3.out hb);have w4a := (B1.cells X4.out).1;have w4b := (B1.cells X4.out).2;clear hb
      go_wp2_with fail
      refine (H5.out _ U4.out).mono ?_;rintro e w5 ⟨rfl, hb⟩;dsimp only;have X5 := hideIt ((hb.block _ (Array.getElem?_eq_some_iff.1 X4.out).1).trans X4.out);have U5 := hideIt (below_via U4.out hb);have w5a := (B1.cells X5.out).1;have w5b := (B1.cells X5.out).2;clear hb;go_wp2;go_ret
      exact ⟨by rw [HF.out]; rfl, U5.out⟩
     ·have HF : Hid (res = 0) := by rw [HE.out]; rfl
      clear HE
      go_enter Tryz.func132, Tryz.ntmps132
      go_wp2_with fail
      refine (H1.out _ U0.out).mono ?_;rintro e w1 ⟨rfl, hb⟩;dsimp only;have X1 := hideIt ((hb.block _ (Array.getElem?_eq_some_iff.1 X0.out).1).trans X0.out);have U1 := hideIt (below_via U0.out hb);have w1a := (B1.cells X1.out).1;have w1b := (B1.cells X1.out).2;clear hb
      go_wp2_with fail
      refine (H2.out _ U1.out).mono ?_;rintro e w2 ⟨rfl, hb⟩;dsimp only;have X2 := hideIt ((hb.block _ (Array.getElem?_eq_some_iff.1 X1.out).1).trans X1.out);have U2 := hideIt (below_via U1.out hb);have w2a := (B1.cells X2.out).1;have w2b := (B1.cells X2.out).2;clear hb
      go_wp2_with fail
      refine (H3.out _ U2.out).mono ?_;rintro e w3 ⟨rfl, hb⟩;dsimp only;have X3 := hideIt ((hb.block _ (Array.getElem?_eq_some_iff.1 X2.out).1).trans X2.out);have U3 := hideIt (below_via U2.out hb);have w3a := (B1.cells X3.out).1;have w3b := (B1.cells X3.out).2;clear hb
      go_wp2_with fail
      refine (H4.out _ U3.out).mono ?_;rintro e w4 ⟨rfl, hb⟩;dsimp only;have X4 := hideIt ((hb.block _ (Array.getElem?_eq_some_iff.1 X3.out).1).trans X3.out);have U4 := hideIt (below_via U3.out hb);have w4a := (B1.cells X4.out).1;have w4b := (B1.cells X4.out).2;clear hb
      go_wp2_with fail
      refine (H5.out _ U4.out).mono ?_;rintro e w5 ⟨rfl, hb⟩;dsimp only;have X5 := hideIt ((hb.block _ (Array.getElem?_eq_some_iff.1 X4.out).1).trans X4.out);have U5 := hideIt (below_via U4.out hb);have w5a := (B1.cells X5.out).1;have w5b := (B1.cells X5.out).2;clear hb;go_wp2;go_ret
      exact ⟨by rw [HF.out]; rfl, U5.out⟩
    ·have HF : Hid (res = 160) := by rw [HE.out]; rfl
     clear HE
     go_enter Tryz.func132, Tryz.ntmps132
     go_wp2_with fail
     refine (H1.out _ U0.out).mono ?_;rintro e w1 ⟨rfl, hb⟩;dsimp only;have X1 := hideIt ((hb.block _ (Array.getElem?_eq_some_iff.1 X0.out).1).trans X0.out);have U1 := hideIt (below_via U0.out hb);have w1a := (B1.cells X1.out).1;have w1b := (B1.cells X1.out).2;clear hb
     go_wp2_with fail
     refine (H2.out _ U1.out).mono ?_;rintro e w2 ⟨rfl, hb⟩;dsimp only;have X2 := hideIt ((hb.block _ (Array.getElem?_eq_some_iff.1 X1.out).1).trans X1.out);have U2 := hideIt (below_via U1.out hb);have w2a := (B1.cells X2.out).1;have w2b := (B1.cells X2.out).2;clear hb
     go_wp2_with fail
     refine (H3.out _ U2.out).mono ?_;rintro e w3 ⟨rfl, hb⟩;dsimp only;have X3 := hideIt ((hb.block _ (Array.getElem?_eq_some_iff.1 X2.out).1).trans X2.out);have U3 := hideIt (below_via U2.out hb);have w3a := (B1.cells X3.out).1;have w3b := (B1.cells X3.out).2;clear hb
     go_wp2_with fail
     refine (H4.out _ U3.out).mono ?_;rintro e w4 ⟨rfl, hb⟩;dsimp only;have X4 := hideIt ((hb.block _ (Array.getElem?_eq_some_iff.1 X3.out).1).trans X3.out);have U4 := hideIt (below_via U3.out hb);have w4a := (B1.cells X4.out).1;have w4b := (B1.cells X4.out).2;clear hb;go_wp2;go_ret
     exact ⟨by rw [HF.out]; rfl, U4.out⟩
 ·have hsI : ¬ (m : Int) + (n : Int) ≤ 200 := by omega
  rw [decide_eq_false hs, Bool.false_and] at HE;clear hs;have HF : Hid (res = 160) := by rw [HE.out]; rfl
  clear HE
  go_enter Tryz.func132, Tryz.ntmps132
  go_wp2_with fail
  refine (H1.out _ U0.out).mono ?_;rintro e w1 ⟨rfl, hb⟩;dsimp only;have X1 := hideIt ((hb.block _ (Array.getElem?_eq_some_iff.1 X0.out).1).trans X0.out);have U1 := hideIt (below_via U0.out hb);have w1a := (B1.cells X1.out).1;have w1b := (B1.cells X1.out).2;clear hb;go_wp2;go_ret
  exact ⟨by rw [HF.out]; rfl, U1.out⟩
def refE (T : TabV) (k : KeyV) (t : TxnV) : Int := if chkB T = true then (if (keyB k && namB t) = true then 0 else 1) else 160
set_option maxHeartbeats 8000000 in
set_option maxRecDepth 100000 in
theorem refused_is (T : TabV) (h v : Value) (k n c q : Int) (w : World) (hT : Tab w T h v) : Calls Tryz.prog 100 #[.agg #[h, v], .agg #[.int .i64 k, .int .i64 n], .agg #[.int .i64 c, .int .i64 q]] w fun e w' => e = .returned (.int .i64 (refE T (k, n) (c, q))) ∧ Below w.heap.size w w' := by
 have H1 := hideIt (fun W (hW : Below w.heap.size w W) => check_is T h v W (hT.keep hW));have H2 := hideIt (fun W => isKey_is k n W);have H3 := hideIt (fun W => isName_is c q W);have X0 := hideIt (B3.first w (.cells #[h, v] 125) (.cells #[.int .i64 k, .int .i64 n] 24) (.cells #[.int .i64 c, .int .i64 q] 129));obtain ⟨ha, hc, rfl⟩ := hT.held.slice;obtain ⟨va, vc, rfl⟩ := hT.wait.slice;clear hT;unfold chkI at H1;simp only [refE];cases hC : chkB T
 ·rw [hC] at H1;simp only [Bool.false_eq_true, if_false] at H1 ⊢
  go_enter Tryz.func100, Tryz.ntmps100
  go_wp2_with fail
  refine (H1.out _ X0.out.bel).mono ?_;rintro e w1 ⟨rfl, hb⟩;dsimp only;have B1 := hideIt (X0.out.keep hb).bel;clear hb;go_wp2;go_ret
  exact ⟨rfl, B1.out⟩
 ·rw [hC] at H1;simp only [if_true] at H1 ⊢;cases hk : keyB (k, n)
  ·rw [hk] at H2;simp only [Bool.false_and, Bool.false_eq_true, if_false]
   go_enter Tryz.func100, Tryz.ntmps100
   go_wp2_with fail
   refine (H1.out _ X0.out.bel).mono ?_;rintro e w1 ⟨rfl, hb⟩;dsimp only;have X1 := hideIt (X0.out.keep hb);have k0 : w1.cell? ⟨w.heap.size + 1, 0, none⟩ = some (.int .i64 k) := by rw [cell_at X1.out.b1]; rfl
   have k1 : w1.cell? ⟨w.heap.size + 1, 1, none⟩ = some (.int .i64 n) := by rw [cell_at X1.out.b1]; rfl
   clear hb
   go_wp2_with fail
   refine (H2.out _).mono ?_;rintro e w2 ⟨rfl, hb⟩;dsimp only;have B2 := hideIt (X1.out.keep hb).bel;clear hb;go_wp2;go_ret
   exact ⟨rfl, B2.out⟩
  ·rw [hk] at H2;cases hn : namB (c, q)
   ·rw [hn] at H3;simp only [Bool.and_false, Bool.false_eq_true, if_false]
    go_enter Tryz.func100, Tryz.ntmps100
    go_wp2_with fail
    refine (H1.out _ X0.out.bel).mono ?_;rintro e w1 ⟨rfl, hb⟩;dsimp only;have X1 := hideIt (X0.out.keep hb);have k0 : w1.cell? ⟨w.heap.size + 1, 0, none⟩ = some (.int .i64 k) := by rw [cell_at X1.out.b1]; rfl
    have k1 : w1.cell? ⟨w.heap.size + 1, 1, none⟩ = some (.int .i64 n) := by rw [cell_at X1.out.b1]; rfl
    clear hb
    go_wp2_with fail
    refine (H2.out _).mono ?_;rintro e w2 ⟨rfl, hb⟩;dsimp only;have X2 := hideIt (X1.out.keep hb);have t0 : w2.cell? ⟨w.heap.size + 1 + 1, 0, none⟩ = some (.int .i64 c) := by rw [cell_at X2.out.b2]; rfl
    have t1 : w2.cell? ⟨w.heap.size + 1 + 1, 1, none⟩ = some (.int .i64 q) := by rw [cell_at X2.out.b2]; rfl
    clear hb
    go_wp2_with fail
    refine (H3.out _).mono ?_;rintro e w3 ⟨rfl, hb⟩;dsimp only;have B2 := hideIt (X2.out.keep hb).bel;clear hb;go_wp2;go_ret
    exact ⟨rfl, B2.out⟩
   ·rw [hn] at H3;simp only [Bool.and_true, if_true]
    go_enter Tryz.func100, Tryz.ntmps100
    go_wp2_with fail
    refine (H1.out _ X0.out.bel).mono ?_;rintro e w1 ⟨rfl, hb⟩;dsimp only;have X1 := hideIt (X0.out.keep hb);have k0 : w1.cell? ⟨w.heap.size + 1, 0, none⟩ = some (.int .i64 k) := by rw [cell_at X1.out.b1]; rfl
    have k1 : w1.cell? ⟨w.heap.size + 1, 1, none⟩ = some (.int .i64 n) := by rw [cell_at X1.out.b1]; rfl
    clear hb
    go_wp2_with fail
    refine (H2.out _).mono ?_;rintro e w2 ⟨rfl, hb⟩;dsimp only;have X2 := hideIt (X1.out.keep hb);have t0 : w2.cell? ⟨w.heap.size + 1 + 1, 0, none⟩ = some (.int .i64 c) := by rw [cell_at X2.out.b2]; rfl
    have t1 : w2.cell? ⟨w.heap.size + 1 + 1, 1, none⟩ = some (.int .i64 q) := by rw [cell_at X2.out.b2]; rfl
    clear hb
    go_wp2_with fail
    refine (H3.out _).mono ?_;rintro e w3 ⟨rfl, hb⟩;dsimp only;have B2 := hideIt (X2.out.keep hb).bel;clear hb;go_wp2;go_ret
    exact ⟨rfl, B2.out⟩
end Go.Proofs.YtiinigifjdpicaaGreatDoor.Se
