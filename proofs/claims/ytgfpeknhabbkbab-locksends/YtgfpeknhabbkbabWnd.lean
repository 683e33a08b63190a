/- Does somebody older wait for what is held? -/
import Derived.Test.YtgfpeknhabbkbabQue
namespace Go.Proofs.Ytgfpeknhabbkbab
open Go.RowKit Go.Shelf
set_option linter.all false
attribute [local go_sem] Oper.semAt_some
theorem KeepsFrom.ofBelow {B : Nat} {W W' : World} (h : Below W.heap.size W W') : KeepsFrom B W W' :=
  ⟨h.size, fun i o _ hi _ => (h.block i (Array.getElem?_eq_some_iff.1 hi).1).trans hi⟩
/-- The cells of the call. -/
structure WI (w : World) (s R1 R2 : Nat) (k n c q : Int) (b : Bool) (W : World) : Prop where
  b1 : W.heap[R1]? = some (.cells #[.int .i64 k, .int .i64 n, .int .i64 c, .int .i64 q] 34 (0, 0))
  b2 : W.heap[R2]? = some (.cells #[.bool b] 4 (0, 0))
  bel : Below w.heap.size w W
  siz : s ≤ W.heap.size
theorem WI.kept {w X Y : World} {s R1 R2 : Nat} {k n c q : Int} {b : Bool} {row : Option Nat} (hs : w.heap.size ≤ s) (h : WI w s R1 R2 k n c q b X) (hg : X.grownBy Y row) (hr : ∀ r, row = some r → s ≤ r ∧ ∃ o : Obj, X.heap[r]? = some o ∧ o.isCells = false) : WI w s R1 R2 k n c q b Y :=
  ⟨kept_cells h.b1 hg hr, kept_cells h.b2 hg hr, ownFrom_below (β := Unit) (B := s) (w₀ := w) (Nat.le_refl _) hs () X Y row h.bel hg hr, Nat.le_trans h.siz hg.size⟩
theorem WI.keep {w X Y : World} {s R1 R2 : Nat} {k n c q : Int} {b : Bool} (h : WI w s R1 R2 k n c q b X) (hb : Below X.heap.size X Y) : WI w s R1 R2 k n c q b Y :=
  ⟨(hb.block _ (Array.getElem?_eq_some_iff.1 h.b1).1).trans h.b1, (hb.block _ (Array.getElem?_eq_some_iff.1 h.b2).1).trans h.b2, below_via h.bel hb, Nat.le_trans h.siz hb.size⟩
set_option maxRecDepth 100000 in
set_option maxHeartbeats 4000000 in
theorem isWounded_is (T : TabV) (h v : Value) (k n c q : Int) (w : World) (hT : Tab w T h v) : Calls Try.prog 12 #[.agg #[h, v], .agg #[.int .i64 k, .int .i64 n, .int .i64 c, .int .i64 q]] w fun e w' => e = .returned (.bool ((qL T.wait (k, n)).any (fun x => oldB x (c, q)))) ∧ Below w.heap.size w w' := by
  obtain ⟨hd, hs⟩ := T
  dsimp only
  have HW := hideIt (fun h v W => waiting_is h v k n W)
  have HO := hideIt (fun a b W => older_is a b c q W)
  refine (callsIn_wide (n := 5)).1 ?_
  refine callsIn_of_wp_marks Try.func12 rfl trivial ?_ rfl
  simp only [Try.ntmps12, List.size_toArray, List.length_cons, List.length_nil, Nat.reduceAdd, Nat.reduceSub, Array.replicate_succ, Array.replicate_zero, List.push_toArray, List.append_toArray, List.nil_append, List.cons_append]
  gi_wp2_with (refine ⟨trivial, ?_⟩; gi_at_call 26; refine (callsIn_wide.2 (HW.out _ _ _)).mono ?_; rintro e w' ⟨rfl, rfl⟩)
  clear HW
  obtain ⟨va, vc, rfl⟩ := hT.wait.slice
  obtain ⟨hsz, hbel, hat⟩ := allocs_at [.cells #[h, .slice va hs.length vc] 25, .cells #[.int .i64 k, .int .i64 n, .int .i64 c, .int .i64 q] 34, .cells #[.bool false] 4, .cells #[h, .slice va hs.length vc] 25, .cells #[.int .i64 k, .int .i64 n] 32] w
  simp only [List.foldl_cons, List.foldl_nil, List.length_cons, List.length_nil] at hsz hbel hat
  have g1 := hat 1 (by omega)
  have g2 := hat 2 (by omega)
  have g3 := hat 3 (by omega)
  have g4 := hat 4 (by omega)
  clear hat
  generalize ((((w.alloc (.cells #[h, .slice va hs.length vc] 25)).alloc (.cells #[.int .i64 k, .int .i64 n, .int .i64 c, .int .i64 q] 34)).alloc (.cells #[.bool false] 4)).alloc (.cells #[h, .slice va hs.length vc] 25)).alloc (.cells #[.int .i64 k, .int .i64 n] 32) = W0 at *
  have hW := (hT.keep hbel).wait
  have hw8 := hT.wait.1
  have hvb := hT.wait.blk
  clear hT
  dsimp only at hW hw8 hvb
  simp only [List.getElem?_cons_zero, List.getElem?_cons_succ] at g1 g2 g3 g4
  rw [show w.heap.size + 2 = w.heap.size + 1 + 1 from rfl] at g2
  rw [show w.heap.size + 3 = w.heap.size + 1 + 1 + 1 from rfl] at g3
  rw [show w.heap.size + 4 = w.heap.size + 1 + 1 + 1 + 1 from rfl] at g4
  have HN : Hid (∃ R1 R2 R3 R4, R1 = w.heap.size + 1 ∧ R2 = w.heap.size + 1 + 1 ∧ R3 = w.heap.size + 1 + 1 + 1 ∧ R4 = w.heap.size + 1 + 1 + 1 + 1) := ⟨_, _, _, _, rfl, rfl, rfl, rfl⟩
  obtain ⟨R1, R2, R3, R4, e1, e2, e3, e4⟩ := HN.out
  clear HN
  rw [← e4] at g4
  rw [← e3] at g3
  rw [← e2] at g2
  rw [← e1] at g1
  rw [← e4, ← e3, ← e2, ← e1]
  have l1 : w.heap.size ≤ R1 := by omega
  have l2 : R1 < R2 := by omega
  have l3 : R2 < R3 := by omega
  have l4 : R3 < R4 := by omega
  have l5 : R4 < W0.heap.size := by omega
  clear e1 e2 e3 e4 hsz
  refine wpIn_rangeFunc_ownH rfl (by omega) (gf := 29) (lb := #[.pointer (some ⟨R3, 0, none⟩), .pointer (some ⟨R4, 0, none⟩)]) rfl trivial (enters_of Try.func29 (by kernel_rfl) rfl)
    (wait_stops (5 - 1) R3 R4 (by omega) (FQ R2 R2 W0.heap.size) hs h va vc k n W0 g3 g4 (by unfold FQ; omega) hW (fun b off e hb hp => by have := hvb hp b off e; unfold FQ; omega)) outK_t outK_b (Below.refl _ _) (fun _ => rfl)
    (fun pre W => WI w W0.heap.size R1 R2 k n c q false W ∧ pre.any (fun x => oldB x (c, q)) = false) (fun d pre W => WI w W0.heap.size R1 R2 k n c q true W ∧ d = .ret ∧ pre.any (fun x => oldB x (c, q)) = true)
    (fun pre X Y row h hg hr => ⟨h.1.kept (by omega) hg hr, h.2⟩) (fun d pre X Y row h hg hr => ⟨h.1.kept (by omega) hg hr, h.2⟩) ⟨⟨g1, g2, hbel, Nat.le_refl _⟩, rfl⟩
    (fun x a' W => ∃ Bx, W0.heap.size ≤ Bx ∧ W.heap[Bx]? = some (.cells #[.int .i64 x.1, .int .i64 x.2] 29 (0, 0)) ∧ a' = { tmps := #[.agg #[h, .slice va hs.length vc], .agg #[.int .i64 k, .int .i64 n, .int .i64 c, .int .i64 q], .pointer (some ⟨w.heap.size, 0, none⟩), .pointer (some ⟨R1, 0, none⟩), .pointer (some ⟨R2, 0, none⟩), .pointer (some ⟨Bx, 0, none⟩), .agg #[h, .slice va hs.length vc], .pointer (some ⟨R1, 0, none⟩), .agg #[.int .i64 k, .int .i64 n], .func (.func 29) #[] #[.pointer (some ⟨R3, 0, none⟩), .pointer (some ⟨R4, 0, none⟩)], .agg #[.int .i64 x.1, .int .i64 x.2], undef, undef, undef, undef], defers := [] })
    (fun x a' _ X Y row hs hg hr => by obtain ⟨Bx, h1, h2, h3⟩ := hs; exact ⟨Bx, h1, kept_cells h2 hg hr, h3⟩)
    ?assign ?body ?done ?stop
  case assign =>
    rintro l pre x W K hI hK
    gi_wp2
    exact hK _ _ ((KeepsOthers.alloc _ _).from _) (Out.ofAlloc _ _) ⟨hI.1.keep (below1 _ _), hI.2⟩ ⟨W.heap.size, hI.1.siz, heap_alloc_new W _, rfl⟩
  case body =>
    rintro l pre ⟨xc, xq⟩ a' W hl ⟨r, hr⟩ hI ⟨Bx, hBx, bX, rfl⟩ hlt
    have c1 : W.cell? ⟨R1, 2, none⟩ = some (.int .i64 c) := by rw [cell_at hI.1.b1]; rfl
    have c1' : W.cell? ⟨R1, 3, none⟩ = some (.int .i64 q) := by rw [cell_at hI.1.b1]; rfl
    have cX : W.cell? ⟨Bx, 0, none⟩ = some (.int .i64 xc) := by rw [cell_at bX]; rfl
    have cX' : W.cell? ⟨Bx, 1, none⟩ = some (.int .i64 xq) := by rw [cell_at bX]; rfl
    have HI := hideIt hI
    clear hI bX hr hlt hW hw8 hvb g1 g2 g3 g4
    have HC := hideIt (HO.out xc xq W)
    cases hq : oldB (xc, xq) (c, q)
    · rw [hq] at HC
      have HA : Hid ((pre ++ [(xc, xq)]).any (fun x => oldB x (c, q)) = false) := by
        show _ = _
        rw [List.any_append, HI.out.2]
        simp [hq]
      clear hq
      gi_wp2_with (refine ⟨trivial, ?_⟩; gi_at_call 14; refine (CallsIn.inRound l (callsIn_wide.2 HC.out)).mono ?_; rintro e w' ⟨rfl, hb⟩)
      exact ⟨KeepsFrom.ofBelow hb, Out.ofBelow hb, HI.out.1.keep hb, HA.out⟩
    · rw [hq] at HC
      have HA : Hid ((pre ++ [(xc, xq)]).any (fun x => oldB x (c, q)) = true) := by
        show _ = _
        rw [List.any_append]
        simp [hq]
      clear hq
      gi_wp2_with (refine ⟨trivial, ?_⟩; gi_at_call 14; refine (CallsIn.inRound l (callsIn_wide.2 HC.out)).mono ?_; rintro e w' ⟨rfl, hb⟩; have Y := hideIt (HI.out.1.keep hb); have y2 : w'.cell? ⟨R2, 0, none⟩ = some (.bool false) := (by rw [cell_at Y.out.b2]; rfl); have y3 := free_at Y.out.b2 0)
      exact ⟨(KeepsFrom.ofBelow hb).trans ((KeepsOthers.setCell _ _ _).from _), ⟨setOther _ Y.out.b1 (by omega), heap_set Y.out.b2 0 _, belowSet _ Y.out.bel (by omega), by simpa using Y.out.siz⟩, rfl, HA.out⟩
  case done =>
    rintro D xs W hD rfl hI hK
    have c2 : W.cell? ⟨R2, 0, none⟩ = some (.bool false) := by rw [cell_at hI.1.b2]; rfl
    have f2 := free_at hI.1.b2 0
    have nD2 : D ≠ R2 := by omega
    have r2 := heap_set hI.1.b2 0 (.bool false)
    have rD := setOther (b := R2) (j := 0) (.bool false) hK nD2
    have rb := belowSet (j := 0) (.bool false) hI.1.bel (b := R2) (by omega)
    have HA := hideIt hI.2
    gi_wp2
    refine ⟨by simp, .inl ⟨_, _, rfl, run_takeDeferred rD, ?_⟩⟩
    have p2 := putO (o := .deferred none) r2 nD2
    refine ⟨.bool false, by simp [results, Try.results12, go_sem, cell_at p2], by rw [HA.out], ?_⟩
    exact rb.trans (belowK_b (w := w) (Nat.le_refl _) _ D _ _ (by omega) rD rfl rfl)
  case stop =>
    rintro D d pre W hD hp ⟨hI, rfl, ha⟩ hK
    have nD2 : D ≠ R2 := by omega
    have HA : Hid ((qL hs (k, n)).any (fun x => oldB x (c, q)) = true) := by
      show _ = _
      rw [List.any_eq_true] at ha ⊢
      obtain ⟨x, hx, hy⟩ := ha
      exact ⟨x, hp.subset hx, hy⟩
    gi_wp2
    refine ⟨by simp, .inl ⟨_, _, rfl, run_takeDeferred hK, ?_⟩⟩
    have p2 := putO (o := .deferred none) hI.b2 nD2
    refine ⟨.bool true, by simp [results, Try.results12, go_sem, cell_at p2], by rw [HA.out], ?_⟩
    exact hI.bel.trans (belowK_b (w := w) (Nat.le_refl _) _ D _ _ (by omega) hK rfl rfl)
end Go.Proofs.Ytgfpeknhabbkbab
