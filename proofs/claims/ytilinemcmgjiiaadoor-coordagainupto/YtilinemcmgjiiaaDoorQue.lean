/- How many wait for a key. -/
import Derived.Test.YtilinemcmgjiiaaDoorWait
namespace Go.Proofs.YtilinemcmgjiiaaDoor
open Go.RowKit Go.Shelf
set_option linter.all false
attribute [local go_sem] Oper.semAt_some
theorem allocs_at : ∀ (os : List Obj) (w : World), (os.foldl World.alloc w).heap.size = w.heap.size + os.length ∧ Below w.heap.size w (os.foldl World.alloc w) ∧ ∀ i, i < os.length → (os.foldl World.alloc w).heap[w.heap.size + i]? = os[i]?
  | [], w => ⟨rfl, Below.refl _ _, fun i h => absurd h (by simp)⟩
  | o :: os, w => by
    obtain ⟨h1, h2, h3⟩ := allocs_at os (w.alloc o)
    have hs : (w.alloc o).heap.size = w.heap.size + 1 := by simp
    rw [hs] at h1 h2 h3
    refine ⟨by simp only [List.foldl_cons, List.length_cons]; omega, (below1 w o).trans ⟨h2.os, h2.tape, h2.output, h2.size, fun k hk => h2.block k (by omega)⟩, fun i hi => ?_⟩
    cases i with
    | zero =>
      rw [List.foldl_cons, Nat.add_zero, h2.block _ (by omega)]
      exact heap_alloc_new w o
    | succ i =>
      have := h3 i (by simpa using hi)
      rw [List.foldl_cons, List.getElem?_cons_succ, ← this, Nat.add_assoc, Nat.add_comm 1 i]
theorem kept_cells {B b : Nat} {X Y : World} {row : Option Nat} {cs : Array Value} {t : TypeId} (h : X.heap[b]? = some (.cells cs t (0, 0))) (hg : X.grownBy Y row) (hr : ∀ r, row = some r → B ≤ r ∧ ∃ o : Obj, X.heap[r]? = some o ∧ o.isCells = false) : Y.heap[b]? = some (.cells cs t (0, 0)) :=
  (hg.block b (Array.getElem?_eq_some_iff.1 h).1 (fun e => by
    obtain ⟨_, o, ho, hc⟩ := hr b e.symm
    rw [h] at ho
    cases ho
    cases hc)).trans h
theorem putO {W : World} {D b : Nat} {o : Obj} {x : Option Obj} (h : W.heap[b]? = x) (hn : D ≠ b) : (W.putObj D o).heap[b]? = x := by
  rw [← h]
  simp [World.putObj, Array.getElem?_setIfInBounds, hn]
/-- What the body of a loop may write. -/
def FQ (x y s : Nat) (k : Nat) : Prop := k = x ∨ k = y ∨ s ≤ k
theorem outK_b {s x y : Nat} (W : World) (l : Nat) (o o' : Obj) (hl : s ≤ l) (_ : W.heap[l]? = some o) (_ : o.isCells = false) (_ : o.isWalk = false) : Out (FQ x y s) W (W.putObj l o') :=
  Out.ofGrown (grownBy_putObj' W l o') (fun k e => by cases e; exact .inr (.inr hl))
theorem outK_t {F : Nat → Prop} {A B C : World} (h : Out F A B) (k : Out F B C) : Out F A C := h.trans k (fun _ _ e => e)
/-- The cells of the queue's call. -/
structure QI (w : World) (s Q2 Q3 Q4 : Nat) (c q : Int) (pre : List TxnV) (W : World) : Prop where
  b2 : W.heap[Q2]? = some (.cells #[.int .i64 c, .int .i64 q] 35 (0, 0))
  b3 : W.heap[Q3]? = some (.cells #[.int .i64 (pre.length : Int)] 3 (0, 0))
  b4 : W.heap[Q4]? = some (.cells #[.int .i64 (pre.count (c, q) : Int)] 3 (0, 0))
  bel : Below w.heap.size w W
  siz : s ≤ W.heap.size
theorem QI.own {w : World} {s Q2 Q3 Q4 : Nat} {c q : Int} (hs : w.heap.size ≤ s) : OwnFrom s (fun pre W => QI w s Q2 Q3 Q4 c q pre W) := fun pre X Y row h hg hr =>
  ⟨kept_cells h.b2 hg hr, kept_cells h.b3 hg hr, kept_cells h.b4 hg hr, ownFrom_below (β := Unit) (B := s) (w₀ := w) (Nat.le_refl _) hs () X Y row h.bel hg hr, Nat.le_trans h.siz hg.size⟩
set_option maxRecDepth 100000 in
set_option maxHeartbeats 4000000 in
theorem queue_is (T : TabV) (h v : Value) (k n c q : Int) (w : World) (hT : Tab w T h v) : Calls Tryd.prog 79 #[.agg #[h, v], .agg #[.int .i64 k, .int .i64 n], .agg #[.int .i64 c, .int .i64 q]] w fun e w' => e = .returned (.tuple #[.int .i64 (qL T.wait (k, n)).length, .int .i64 ((qL T.wait (k, n)).count (c, q))]) ∧ Below w.heap.size w w' := by
  obtain ⟨hd, hs⟩ := T
  dsimp only
  have HW := hideIt (fun h v W => waiting_is h v k n W)
  refine (callsIn_wide (n := 5)).1 ?_
  refine callsIn_of_wp_marks Tryd.func79 rfl trivial ?_ rfl
  simp only [Tryd.ntmps79, List.size_toArray, List.length_cons, List.length_nil, Nat.reduceAdd, Nat.reduceSub, Array.replicate_succ, Array.replicate_zero, List.push_toArray, List.append_toArray, List.nil_append, List.cons_append]
  gi_wp2_with (refine ⟨trivial, ?_⟩; gi_at_call 88; refine (callsIn_wide.2 (HW.out _ _ _)).mono ?_; rintro e w' ⟨rfl, rfl⟩)
  clear HW
  obtain ⟨va, vc, rfl⟩ := hT.wait.slice
  obtain ⟨hsz, hbel, hat⟩ := allocs_at [.cells #[h, .slice va hs.length vc] 140, .cells #[.int .i64 k, .int .i64 n] 37, .cells #[.int .i64 c, .int .i64 q] 35, .cells #[.int .i64 0] 3, .cells #[.int .i64 0] 3, .cells #[h, .slice va hs.length vc] 140, .cells #[.int .i64 k, .int .i64 n] 37] w
  simp only [List.foldl_cons, List.foldl_nil, List.length_cons, List.length_nil] at hsz hbel hat
  have g2 := hat 2 (by omega)
  have g3 := hat 3 (by omega)
  have g4 := hat 4 (by omega)
  have g5 := hat 5 (by omega)
  have g6 := hat 6 (by omega)
  clear hat
  generalize ((((((w.alloc (.cells #[h, .slice va hs.length vc] 140)).alloc (.cells #[.int .i64 k, .int .i64 n] 37)).alloc (.cells #[.int .i64 c, .int .i64 q] 35)).alloc (.cells #[.int .i64 0] 3)).alloc (.cells #[.int .i64 0] 3)).alloc (.cells #[h, .slice va hs.length vc] 140)).alloc (.cells #[.int .i64 k, .int .i64 n] 37) = W0 at *
  have hW := (hT.keep hbel).wait
  have hw8 := hT.wait.1
  have hvb := hT.wait.blk
  clear hT
  dsimp only at hW hw8 hvb
  simp only [List.getElem?_cons_zero, List.getElem?_cons_succ] at g2 g3 g4 g5 g6
  rw [show w.heap.size + 2 = w.heap.size + 1 + 1 from rfl] at g2
  rw [show w.heap.size + 3 = w.heap.size + 1 + 1 + 1 from rfl] at g3
  rw [show w.heap.size + 4 = w.heap.size + 1 + 1 + 1 + 1 from rfl] at g4
  rw [show w.heap.size + 5 = w.heap.size + 1 + 1 + 1 + 1 + 1 from rfl] at g5
  rw [show w.heap.size + 6 = w.heap.size + 1 + 1 + 1 + 1 + 1 + 1 from rfl] at g6
  have HN : Hid (∃ Q0 Q1 Q2 Q3 Q4 Q5 Q6, Q0 = w.heap.size ∧ Q1 = w.heap.size + 1 ∧ Q2 = w.heap.size + 1 + 1 ∧ Q3 = w.heap.size + 1 + 1 + 1 ∧ Q4 = w.heap.size + 1 + 1 + 1 + 1 ∧ Q5 = w.heap.size + 1 + 1 + 1 + 1 + 1 ∧ Q6 = w.heap.size + 1 + 1 + 1 + 1 + 1 + 1) := ⟨_, _, _, _, _, _, _, rfl, rfl, rfl, rfl, rfl, rfl, rfl⟩
  obtain ⟨Q0, Q1, Q2, Q3, Q4, Q5, Q6, e0, e1, e2, e3, e4, e5, e6⟩ := HN.out
  clear HN
  rw [← e6] at g6
  rw [← e5] at g5
  rw [← e4] at g4
  rw [← e3] at g3
  rw [← e2] at g2
  rw [← e6, ← e5, ← e4, ← e3, ← e2, ← e1]
  have l2 : w.heap.size ≤ Q2 := by omega
  have l3 : Q2 < Q3 := by omega
  have l4 : Q3 < Q4 := by omega
  have l5 : Q4 < Q5 := by omega
  have l6 : Q5 < Q6 := by omega
  have l7 : Q6 < W0.heap.size := by omega
  clear e0 e1 e2 e3 e4 e5 e6 hsz
  refine wpIn_rangeFunc_ownH rfl (by omega) (gf := 93) (lb := #[.pointer (some ⟨Q5, 0, none⟩), .pointer (some ⟨Q6, 0, none⟩)]) rfl trivial (enters_of Tryd.func93 (by kernel_rfl) rfl)
    (wait_stops (5 - 1) Q5 Q6 (by omega) (FQ Q3 Q4 W0.heap.size) hs h va vc k n W0 g5 g6 (by unfold FQ; omega) hW (fun b off e hb hp => by have := hvb hp b off e; unfold FQ; omega)) outK_t outK_b (Below.refl _ _) (fun _ => rfl)
    (fun pre W => QI w W0.heap.size Q2 Q3 Q4 c q pre W) (fun _ _ _ => False) (QI.own (by omega)) (fun _ _ _ _ _ hs _ _ => hs) ⟨g2, g3, g4, hbel, Nat.le_refl _⟩
    (fun x a' W => ∃ Bx, W0.heap.size ≤ Bx ∧ W.heap[Bx]? = some (.cells #[.int .i64 x.1, .int .i64 x.2] 35 (0, 0)) ∧ a' = { tmps := #[.agg #[h, .slice va hs.length vc], .agg #[.int .i64 k, .int .i64 n], .agg #[.int .i64 c, .int .i64 q], .pointer (some ⟨w.heap.size, 0, none⟩), .pointer (some ⟨Q1, 0, none⟩), .pointer (some ⟨Q2, 0, none⟩), .pointer (some ⟨Q3, 0, none⟩), .pointer (some ⟨Q4, 0, none⟩), .pointer (some ⟨Bx, 0, none⟩), .agg #[h, .slice va hs.length vc], .agg #[.int .i64 k, .int .i64 n], .func (.func 93) #[] #[.pointer (some ⟨Q5, 0, none⟩), .pointer (some ⟨Q6, 0, none⟩)], .agg #[.int .i64 x.1, .int .i64 x.2], undef, undef, undef, undef, undef, undef, undef, undef, undef], defers := [] })
    (fun x a' _ X Y row hs hg hr => by obtain ⟨Bx, h1, h2, h3⟩ := hs; exact ⟨Bx, h1, kept_cells h2 hg hr, h3⟩)
    ?assign ?body ?done ?stop
  case assign =>
    rintro l pre x W K hI hK
    gi_wp2
    exact hK _ _ ((KeepsOthers.alloc _ _).from _) (Out.ofAlloc _ _) ((QI.own (by omega)).alloc _ hI) ⟨W.heap.size, hI.siz, heap_alloc_new W _, rfl⟩
  case body =>
    rintro l pre ⟨xc, xq⟩ a' W hl ⟨r, hr⟩ hI ⟨Bx, hBx, bX, rfl⟩ hlt
    have bl := hI.bel
    have c2 : W.cell? ⟨Q2, 0, none⟩ = some (.int .i64 c) := by rw [cell_at hI.b2]; rfl
    have c2' : W.cell? ⟨Q2, 1, none⟩ = some (.int .i64 q) := by rw [cell_at hI.b2]; rfl
    have c3 : W.cell? ⟨Q3, 0, none⟩ = some (.int .i64 (pre.length : Int)) := by rw [cell_at hI.b3]; rfl
    have c4 : W.cell? ⟨Q4, 0, none⟩ = some (.int .i64 (pre.count (c, q) : Int)) := by rw [cell_at hI.b4]; rfl
    have cX : W.cell? ⟨Bx, 0, none⟩ = some (.int .i64 xc) := by rw [cell_at bX]; rfl
    have cX' : W.cell? ⟨Bx, 1, none⟩ = some (.int .i64 xq) := by rw [cell_at bX]; rfl
    have f3 := free_at hI.b3 0
    have f4 := free_at hI.b4 0
    have HI := hideIt hI
    have HX := hideIt bX
    have hw3 : IntKind.i64.wrap ((pre.length : Int) + 1) = (pre.length : Int) + 1 := by rw [IntKind.wrap_i64]; omega
    have hcl : pre.count (c, q) ≤ pre.length := List.count_le_length
    have hw4 : IntKind.i64.wrap ((pre.count (c, q) : Int) + 1) = (pre.count (c, q) : Int) + 1 := by rw [IntKind.wrap_i64]; omega
    have m2 : Q2 ≠ Q3 := by omega
    have m4 : Q4 ≠ Q3 := by omega
    have mX : Bx ≠ Q3 := by omega
    clear hI bX hr hlt bl hcl hW hw8 hvb g2 g3 g4 g5 g6
    cases hq : ((xc, xq) == (c, q))
    · have q1 : ∀ W, (binOp .eql 35 (.agg #[.int .i64 xc, .int .i64 xq]) (.agg #[.int .i64 c, .int .i64 q])).run Tryd.prog W = .ok (.bool false) W := fun W => by rw [eq28, hq]
      have e3 : ((pre ++ [(xc, xq)]).length : Int) = (pre.length : Int) + 1 := by simp
      have e4 : (pre ++ [(xc, xq)]).count (c, q) = pre.count (c, q) := by rw [List.count_append, List.count_singleton, hq]; simp
      have HG : Hid (QI w W0.heap.size Q2 Q3 Q4 c q (pre ++ [(xc, xq)]) (W.setCell ⟨Q3, 0, none⟩ (.int .i64 ((pre.length : Int) + 1)))) := ⟨setOther _ HI.out.b2 m2, by rw [e3]; exact heap_set HI.out.b3 0 _, by rw [e4]; exact setOther _ HI.out.b4 m4, belowSet _ HI.out.bel (by omega), by simpa using HI.out.siz⟩
      clear hq e3 e4
      gi_wp2
      exact ⟨(KeepsOthers.setCell _ _ _).from _, Out.ofSet _ _ _ (.inl rfl), HG.out⟩
    · have q1 : ∀ W, (binOp .eql 35 (.agg #[.int .i64 xc, .int .i64 xq]) (.agg #[.int .i64 c, .int .i64 q])).run Tryd.prog W = .ok (.bool true) W := fun W => by rw [eq28, hq]
      have e3 : ((pre ++ [(xc, xq)]).length : Int) = (pre.length : Int) + 1 := by simp
      have e4 : ((pre ++ [(xc, xq)]).count (c, q) : Int) = (pre.count (c, q) : Int) + 1 := by rw [List.count_append, List.count_singleton, hq]; simp
      have HG : Hid (QI w W0.heap.size Q2 Q3 Q4 c q (pre ++ [(xc, xq)]) ((W.setCell ⟨Q3, 0, none⟩ (.int .i64 ((pre.length : Int) + 1))).setCell ⟨Q4, 0, none⟩ (.int .i64 ((pre.count (c, q) : Int) + 1)))) := ⟨setOther _ (setOther _ HI.out.b2 m2) (by omega), by rw [e3]; exact setOther _ (heap_set HI.out.b3 0 _) m4.symm, by rw [e4]; exact heap_set (setOther _ HI.out.b4 m4) 0 _, belowSet _ (belowSet _ HI.out.bel (by omega)) (by omega), by simpa using HI.out.siz⟩
      clear hq e3 e4
      gi_wp2
      exact ⟨((KeepsOthers.setCell _ _ _).trans (KeepsOthers.setCell _ _ _)).from _, outK_t (Out.ofSet _ _ _ (.inl rfl)) (Out.ofSet _ _ _ (.inr (.inl rfl))), HG.out⟩
  case done =>
    rintro D xs W hD rfl hI hK
    gi_wp2
    have c3 : W.cell? ⟨Q3, 0, none⟩ = some (.int .i64 ((qL hs (k, n)).length : Int)) := by rw [cell_at hI.b3]; rfl
    have c4 : W.cell? ⟨Q4, 0, none⟩ = some (.int .i64 ((qL hs (k, n)).count (c, q) : Int)) := by rw [cell_at hI.b4]; rfl
    have f3 := free_at hI.b3 0
    have f4 := free_at hI.b4 0
    have nD3 : D ≠ Q3 := by omega
    have nD4 : D ≠ Q4 := by omega
    have r4 := heap_set (setOther (b := Q3) (j := 0) (.int .i64 ((qL hs (k, n)).length : Int)) hI.b4 (by omega)) 0 (.int .i64 ((qL hs (k, n)).count (c, q) : Int))
    have r3 := setOther (b := Q4) (j := 0) (.int .i64 ((qL hs (k, n)).count (c, q) : Int)) (heap_set hI.b3 0 (.int .i64 ((qL hs (k, n)).length : Int))) (by omega)
    have rD := setOther (b := Q4) (j := 0) (.int .i64 ((qL hs (k, n)).count (c, q) : Int)) (setOther (b := Q3) (j := 0) (.int .i64 ((qL hs (k, n)).length : Int)) hK nD3) nD4
    have rb := belowSet (j := 0) (.int .i64 ((qL hs (k, n)).count (c, q) : Int)) (belowSet (j := 0) (.int .i64 ((qL hs (k, n)).length : Int)) hI.bel (b := Q3) (by omega)) (b := Q4) (by omega)
    gi_region
    gi_wp2
    refine ⟨by simp, .inl ⟨_, _, rfl, run_takeDeferred rD, ?_⟩⟩
    have p3 := putO (o := .deferred none) (W := (((W.setCell ⟨Q3, 0, none⟩ (.int .i64 ((qL hs (k, n)).length : Int))).setCell ⟨Q4, 0, none⟩ (.int .i64 ((qL hs (k, n)).count (c, q) : Int))).drew)) r3 nD3
    have p4 := putO (o := .deferred none) (W := (((W.setCell ⟨Q3, 0, none⟩ (.int .i64 ((qL hs (k, n)).length : Int))).setCell ⟨Q4, 0, none⟩ (.int .i64 ((qL hs (k, n)).count (c, q) : Int))).drew)) r4 nD4
    refine ⟨.tuple #[.int .i64 ((qL hs (k, n)).length : Int), .int .i64 ((qL hs (k, n)).count (c, q) : Int)], by simp [results, Tryd.results79, go_sem, cell_at p3, cell_at p4], rfl, ?_⟩
    exact rb.drew.trans (belowK_b (w := w) (Nat.le_refl _) _ D _ _ (by omega) rD rfl rfl)
  case stop =>
    rintro D c pre W _ _ h _
    exact h.elim
end Go.Proofs.YtilinemcmgjiiaaDoor
