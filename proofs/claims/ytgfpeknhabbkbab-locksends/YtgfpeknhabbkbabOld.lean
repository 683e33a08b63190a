/- The oldest one of those who wait for a key. -/
import Derived.Test.YtgfpeknhabbkbabWnd
namespace Go.Proofs.Ytgfpeknhabbkbab
open Go.RowKit Go.Shelf
set_option linter.all false
attribute [local go_sem] Oper.semAt_some
def oldF (f x : TxnV) : TxnV := if (f == zT) = true then x else if oldB x f = true then x else f
def oldL (l : List TxnV) : TxnV := l.foldl oldF zT
/-- The cells of the call. -/
structure OI (w : World) (s R2 R3 : Nat) (f : TxnV) (W : World) : Prop where
  b2 : W.heap[R2]? = some (.cells #[.int .i64 0, .int .i64 0] 29 (0, 0))
  b3 : W.heap[R3]? = some (.cells #[.int .i64 f.1, .int .i64 f.2] 29 (0, 0))
  bel : Below w.heap.size w W
  siz : s ≤ W.heap.size
theorem OI.kept {w X Y : World} {s R2 R3 : Nat} {f : TxnV} {row : Option Nat} (hs : w.heap.size ≤ s) (h : OI w s R2 R3 f X) (hg : X.grownBy Y row) (hr : ∀ r, row = some r → s ≤ r ∧ ∃ o : Obj, X.heap[r]? = some o ∧ o.isCells = false) : OI w s R2 R3 f Y :=
  ⟨kept_cells h.b2 hg hr, kept_cells h.b3 hg hr, ownFrom_below (β := Unit) (B := s) (w₀ := w) (Nat.le_refl _) hs () X Y row h.bel hg hr, Nat.le_trans h.siz hg.size⟩
theorem OI.keep {w X Y : World} {s R2 R3 : Nat} {f : TxnV} (h : OI w s R2 R3 f X) (hb : Below X.heap.size X Y) : OI w s R2 R3 f Y :=
  ⟨(hb.block _ (Array.getElem?_eq_some_iff.1 h.b2).1).trans h.b2, (hb.block _ (Array.getElem?_eq_some_iff.1 h.b3).1).trans h.b3, below_via h.bel hb, Nat.le_trans h.siz hb.size⟩
theorem OI.put {w X : World} {s R2 R3 : Nat} {f : TxnV} (h : OI w s R2 R3 f X) (h23 : R2 < R3) (hw : w.heap.size ≤ R3) (x : TxnV) : OI w s R2 R3 x ((X.setCell ⟨R3, 0, none⟩ (.int .i64 x.1)).setCell ⟨R3, 1, none⟩ (.int .i64 x.2)) :=
  ⟨setOther _ (setOther _ h.b2 (by omega)) (by omega), put2 h.b3 _ _, belowSet _ (belowSet _ h.bel hw) hw, by simpa using h.siz⟩
theorem KeepsFrom.set2 {B b : Nat} (X : World) (u v : Value) : KeepsFrom B X ((X.setCell ⟨b, 0, none⟩ u).setCell ⟨b, 1, none⟩ v) := ((KeepsOthers.setCell _ _ _).trans (KeepsOthers.setCell _ _ _)).from _
theorem Out.set2 {s b c : Nat} (X : World) (u v : Value) : Out (FQ b c s) X ((X.setCell ⟨b, 0, none⟩ u).setCell ⟨b, 1, none⟩ v) := outK_t (Out.ofSet _ _ _ (.inl rfl)) (Out.ofSet _ _ _ (.inl rfl))
set_option maxRecDepth 100000 in
set_option maxHeartbeats 4000000 in
theorem oldest_is (T : TabV) (h v : Value) (k n : Int) (w : World) (hT : Tab w T h v) : Calls Try.prog 17 #[.agg #[h, v], .agg #[.int .i64 k, .int .i64 n]] w fun e w' => e = .returned (.agg #[.int .i64 (oldL (qL T.wait (k, n))).1, .int .i64 (oldL (qL T.wait (k, n))).2]) ∧ Below w.heap.size w w' := by
  obtain ⟨hd, hs⟩ := T
  dsimp only
  have HW := hideIt (fun h v W => waiting_is h v k n W)
  have HO := hideIt (fun a b c d W => older_is a b c d W)
  have HZ := hideIt (fun a b W => isNobody_is a b W)
  refine (callsIn_wide (n := 5)).1 ?_
  refine callsIn_of_wp_marks Try.func17 rfl trivial ?_ rfl
  simp only [Try.ntmps17, List.size_toArray, List.length_cons, List.length_nil, Nat.reduceAdd, Nat.reduceSub, Array.replicate_succ, Array.replicate_zero, List.push_toArray, List.append_toArray, List.nil_append, List.cons_append]
  gi_wp2_with (refine ⟨trivial, ?_⟩; gi_at_call 26; refine (callsIn_wide.2 (HW.out _ _ _)).mono ?_; rintro e w' ⟨rfl, rfl⟩)
  clear HW
  obtain ⟨va, vc, rfl⟩ := hT.wait.slice
  obtain ⟨hsz, hbel, hat⟩ := allocs_at [.cells #[h, .slice va hs.length vc] 25, .cells #[.int .i64 k, .int .i64 n] 32, .cells #[.int .i64 0, .int .i64 0] 29, .cells #[.int .i64 0, .int .i64 0] 29, .cells #[h, .slice va hs.length vc] 25, .cells #[.int .i64 k, .int .i64 n] 32] w
  simp only [List.foldl_cons, List.foldl_nil, List.length_cons, List.length_nil] at hsz hbel hat
  have g2 := hat 2 (by omega)
  have g3 := hat 3 (by omega)
  have g4 := hat 4 (by omega)
  have g5 := hat 5 (by omega)
  clear hat
  generalize (((((w.alloc (.cells #[h, .slice va hs.length vc] 25)).alloc (.cells #[.int .i64 k, .int .i64 n] 32)).alloc (.cells #[.int .i64 0, .int .i64 0] 29)).alloc (.cells #[.int .i64 0, .int .i64 0] 29)).alloc (.cells #[h, .slice va hs.length vc] 25)).alloc (.cells #[.int .i64 k, .int .i64 n] 32) = W0 at *
  have hW := (hT.keep hbel).wait
  have hw8 := hT.wait.1
  have hvb := hT.wait.blk
  clear hT
  dsimp only at hW hw8 hvb
  simp only [List.getElem?_cons_zero, List.getElem?_cons_succ] at g2 g3 g4 g5
  rw [show w.heap.size + 2 = w.heap.size + 1 + 1 from rfl] at g2
  rw [show w.heap.size + 3 = w.heap.size + 1 + 1 + 1 from rfl] at g3
  rw [show w.heap.size + 4 = w.heap.size + 1 + 1 + 1 + 1 from rfl] at g4
  rw [show w.heap.size + 5 = w.heap.size + 1 + 1 + 1 + 1 + 1 from rfl] at g5
  have HN : Hid (∃ R1 R2 R3 R4 R5, R1 = w.heap.size + 1 ∧ R2 = w.heap.size + 1 + 1 ∧ R3 = w.heap.size + 1 + 1 + 1 ∧ R4 = w.heap.size + 1 + 1 + 1 + 1 ∧ R5 = w.heap.size + 1 + 1 + 1 + 1 + 1) := ⟨_, _, _, _, _, rfl, rfl, rfl, rfl, rfl⟩
  obtain ⟨R1, R2, R3, R4, R5, e1, e2, e3, e4, e5⟩ := HN.out
  clear HN
  rw [← e5] at g5
  rw [← e4] at g4
  rw [← e3] at g3
  rw [← e2] at g2
  rw [← e5, ← e4, ← e3, ← e2, ← e1]
  have l1 : w.heap.size ≤ R1 := by omega
  have l2 : R1 < R2 := by omega
  have l3 : R2 < R3 := by omega
  have l4 : R3 < R4 := by omega
  have l5 : R4 < R5 := by omega
  have l6 : R5 < W0.heap.size := by omega
  clear e1 e2 e3 e4 e5 hsz
  refine wpIn_rangeFunc_ownH rfl (by omega) (gf := 29) (lb := #[.pointer (some ⟨R4, 0, none⟩), .pointer (some ⟨R5, 0, none⟩)]) rfl trivial (enters_of Try.func29 (by kernel_rfl) rfl)
    (wait_stops (5 - 1) R4 R5 (by omega) (FQ R3 R3 W0.heap.size) hs h va vc k n W0 g4 g5 (by unfold FQ; omega) hW (fun b off e hb hp => by have := hvb hp b off e; unfold FQ; omega)) outK_t outK_b (Below.refl _ _) (fun _ => rfl)
    (fun pre W => OI w W0.heap.size R2 R3 (oldL pre) W) (fun _ _ _ => False)
    (fun pre X Y row h hg hr => h.kept (by omega) hg hr) (fun _ _ _ _ _ hs _ _ => hs) ⟨g2, g3, hbel, Nat.le_refl _⟩
    (fun x a' W => ∃ Bx, W0.heap.size ≤ Bx ∧ W.heap[Bx]? = some (.cells #[.int .i64 x.1, .int .i64 x.2] 29 (0, 0)) ∧ a' = { tmps := #[.agg #[h, .slice va hs.length vc], .agg #[.int .i64 k, .int .i64 n], .pointer (some ⟨w.heap.size, 0, none⟩), .pointer (some ⟨R1, 0, none⟩), .pointer (some ⟨R2, 0, none⟩), .pointer (some ⟨R3, 0, none⟩), .pointer (some ⟨Bx, 0, none⟩), .agg #[h, .slice va hs.length vc], .agg #[.int .i64 k, .int .i64 n], .func (.func 29) #[] #[.pointer (some ⟨R4, 0, none⟩), .pointer (some ⟨R5, 0, none⟩)], .agg #[.int .i64 x.1, .int .i64 x.2], undef, undef, undef, undef, undef, undef, undef, undef, undef], defers := [] })
    (fun x a' _ X Y row hs hg hr => by obtain ⟨Bx, h1, h2, h3⟩ := hs; exact ⟨Bx, h1, kept_cells h2 hg hr, h3⟩)
    ?assign ?body ?done ?stop
  case assign =>
    rintro l pre x W K hI hK
    gi_wp2
    exact hK _ _ ((KeepsOthers.alloc _ _).from _) (Out.ofAlloc _ _) (hI.keep (below1 _ _)) ⟨W.heap.size, hI.siz, heap_alloc_new W _, rfl⟩
  case body =>
    rintro l pre ⟨xc, xq⟩ a' W hl ⟨r, hr⟩ hI ⟨Bx, hBx, bX, rfl⟩ hlt
    have HF : Hid (oldL (pre ++ [(xc, xq)]) = oldF (oldL pre) (xc, xq)) := by
      show _ = _
      simp [oldL]
    generalize oldL pre = f at *
    obtain ⟨fc, fq⟩ := f
    have c3 : W.cell? ⟨R3, 0, none⟩ = some (.int .i64 fc) := by rw [cell_at hI.b3]; rfl
    have c3' : W.cell? ⟨R3, 1, none⟩ = some (.int .i64 fq) := by rw [cell_at hI.b3]; rfl
    have HI := hideIt hI
    have HX := hideIt bX
    clear hI bX hr hlt hW hw8 hvb g2 g3 g4 g5
    have HC := hideIt (HZ.out fc fq W)
    cases hz : ((fc, fq) == zT)
    · rw [hz] at HC
      have HC2 := hideIt (fun W => HO.out xc xq fc fq W)
      cases hq : oldB (xc, xq) (fc, fq)
      · rw [hq] at HC2
        have HE : Hid (oldF (fc, fq) (xc, xq) = (fc, fq)) := by
          show oldF _ _ = _
          simp [oldF, hz, hq]
        clear hz hq
        gi_wp2_with (first | (refine ⟨trivial, ?_⟩; gi_at_call 19; refine (CallsIn.inRound l (callsIn_wide.2 HC.out)).mono ?_; rintro e w1 ⟨rfl, hb⟩; have Y := hideIt (HI.out.keep hb); have Z := hideIt ((hb.block Bx (Array.getElem?_eq_some_iff.1 HX.out).1).trans HX.out); have y2 : w1.cell? ⟨R3, 0, none⟩ = some (.int .i64 fc) := (by rw [cell_at Y.out.b3]; rfl); have y3 : w1.cell? ⟨R3, 1, none⟩ = some (.int .i64 fq) := (by rw [cell_at Y.out.b3]; rfl); have z2 : w1.cell? ⟨Bx, 0, none⟩ = some (.int .i64 xc) := (by rw [cell_at Z.out]; rfl); have z3 : w1.cell? ⟨Bx, 1, none⟩ = some (.int .i64 xq) := (by rw [cell_at Z.out]; rfl)) | (refine ⟨trivial, ?_⟩; gi_at_call 14; refine (CallsIn.inRound l (callsIn_wide.2 (HC2.out _))).mono ?_; rintro e w2 ⟨rfl, hb2⟩))
        exact ⟨KeepsFrom.ofBelow (below_via hb hb2), Out.ofBelow (below_via hb hb2), by show OI _ _ _ _ (oldL (pre ++ [(xc, xq)])) _; rw [HF.out, HE.out]; exact Y.out.keep hb2⟩
      · rw [hq] at HC2
        have HE : Hid (oldF (fc, fq) (xc, xq) = (xc, xq)) := by
          show oldF _ _ = _
          simp [oldF, hz, hq]
        clear hz hq
        gi_wp2_with (first | (refine ⟨trivial, ?_⟩; gi_at_call 19; refine (CallsIn.inRound l (callsIn_wide.2 HC.out)).mono ?_; rintro e w1 ⟨rfl, hb⟩; have Y := hideIt (HI.out.keep hb); have Z := hideIt ((hb.block Bx (Array.getElem?_eq_some_iff.1 HX.out).1).trans HX.out); have y2 : w1.cell? ⟨R3, 0, none⟩ = some (.int .i64 fc) := (by rw [cell_at Y.out.b3]; rfl); have y3 : w1.cell? ⟨R3, 1, none⟩ = some (.int .i64 fq) := (by rw [cell_at Y.out.b3]; rfl); have z2 : w1.cell? ⟨Bx, 0, none⟩ = some (.int .i64 xc) := (by rw [cell_at Z.out]; rfl); have z3 : w1.cell? ⟨Bx, 1, none⟩ = some (.int .i64 xq) := (by rw [cell_at Z.out]; rfl)) | (refine ⟨trivial, ?_⟩; gi_at_call 14; refine (CallsIn.inRound l (callsIn_wide.2 (HC2.out _))).mono ?_; rintro e w2 ⟨rfl, hb2⟩; have U := hideIt (Y.out.keep hb2); have V := hideIt ((hb2.block Bx (Array.getElem?_eq_some_iff.1 Z.out).1).trans Z.out); have u2 : w2.cell? ⟨R3, 0, none⟩ = some (.int .i64 fc) := (by rw [cell_at U.out.b3]; rfl); have u3 : w2.cell? ⟨R3, 1, none⟩ = some (.int .i64 fq) := (by rw [cell_at U.out.b3]; rfl); have v2 : w2.cell? ⟨Bx, 0, none⟩ = some (.int .i64 xc) := (by rw [cell_at V.out]; rfl); have v3 : w2.cell? ⟨Bx, 1, none⟩ = some (.int .i64 xq) := (by rw [cell_at V.out]; rfl); have u4 := free_at U.out.b3 0; have u5 := free_at U.out.b3 1))
        exact ⟨(KeepsFrom.ofBelow (below_via hb hb2)).trans (KeepsFrom.set2 _ _ _), outK_t (Out.ofBelow (below_via hb hb2)) (Out.set2 _ _ _), by show OI _ _ _ _ (oldL (pre ++ [(xc, xq)])) _; rw [HF.out, HE.out]; exact U.out.put l3 (by omega) (xc, xq)⟩
    · rw [hz] at HC
      have HE : Hid (oldF (fc, fq) (xc, xq) = (xc, xq)) := by
        show oldF _ _ = _
        simp [oldF, hz]
      clear hz HO
      gi_wp2_with (refine ⟨trivial, ?_⟩; gi_at_call 19; refine (CallsIn.inRound l (callsIn_wide.2 HC.out)).mono ?_; rintro e w1 ⟨rfl, hb⟩; have Y := hideIt (HI.out.keep hb); have Z := hideIt ((hb.block Bx (Array.getElem?_eq_some_iff.1 HX.out).1).trans HX.out); have y2 : w1.cell? ⟨R3, 0, none⟩ = some (.int .i64 fc) := (by rw [cell_at Y.out.b3]; rfl); have y3 : w1.cell? ⟨R3, 1, none⟩ = some (.int .i64 fq) := (by rw [cell_at Y.out.b3]; rfl); have z2 : w1.cell? ⟨Bx, 0, none⟩ = some (.int .i64 xc) := (by rw [cell_at Z.out]; rfl); have z3 : w1.cell? ⟨Bx, 1, none⟩ = some (.int .i64 xq) := (by rw [cell_at Z.out]; rfl); have u4 := free_at Y.out.b3 0; have u5 := free_at Y.out.b3 1)
      refine ⟨trivial, ?_⟩
      gi_wp2
      exact ⟨(KeepsFrom.ofBelow hb).trans (KeepsFrom.set2 _ _ _), outK_t (Out.ofBelow hb) (Out.set2 _ _ _), by show OI _ _ _ _ (oldL (pre ++ [(xc, xq)])) _; rw [HF.out, HE.out]; exact Y.out.put l3 (by omega) (xc, xq)⟩
  case done =>
    rintro D xs W hD rfl hI hK
    obtain ⟨f, hf⟩ : ∃ f, oldL (qL hs (k, n)) = f := ⟨_, rfl⟩
    rw [hf] at hI
    have HF := hideIt hf
    clear hf
    obtain ⟨fc, fq⟩ := f
    have c3 : W.cell? ⟨R3, 0, none⟩ = some (.int .i64 fc) := by rw [cell_at hI.b3]; rfl
    have c3' : W.cell? ⟨R3, 1, none⟩ = some (.int .i64 fq) := by rw [cell_at hI.b3]; rfl
    have c2 : W.cell? ⟨R2, 0, none⟩ = some (.int .i64 0) := by rw [cell_at hI.b2]; rfl
    have c2' : W.cell? ⟨R2, 1, none⟩ = some (.int .i64 0) := by rw [cell_at hI.b2]; rfl
    have f2 := free_at hI.b2 0
    have f2' := free_at hI.b2 1
    have nD2 : D ≠ R2 := by omega
    have r2 := put2 hI.b2 (.int .i64 fc) (.int .i64 fq)
    have rD := setOther (b := R2) (j := 1) (.int .i64 fq) (setOther (b := R2) (j := 0) (.int .i64 fc) hK nD2) nD2
    have rb := belowSet (j := 1) (.int .i64 fq) (belowSet (j := 0) (.int .i64 fc) hI.bel (b := R2) (by omega)) (b := R2) (by omega)
    gi_wp2
    refine ⟨by simp, .inl ⟨_, _, rfl, run_takeDeferred rD, ?_⟩⟩
    have p2 := putO (o := .deferred none) r2 nD2
    refine ⟨.agg #[.int .i64 fc, .int .i64 fq], by simp [results, Try.results17, go_sem, cell_at p2], by rw [HF.out], ?_⟩
    exact rb.trans (belowK_b (w := w) (Nat.le_refl _) _ D _ _ (by omega) rD rfl rfl)
  case stop =>
    rintro D c pre W _ _ h _
    exact h.elim
end Go.Proofs.Ytgfpeknhabbkbab
