/- What Install answers, of the program. -/
import Derived.Test.YtofbikalfpmdpabComp
namespace Go.Proofs.Ytofbikalfpmdpab
open Go.RowKit
/-- A log that begins behind a mark. -/
def instL (L : LogV) (i t : Int) : LogV × Bool × Int :=
  if mayB L then (if mkB i t = true ∧ i ≠ 0 then (if i ≤ L.cm then (L, false, 0) else (⟨i, t, if (termL L i).2 = true ∧ (termL L i).1 = t then L.l.drop (i - L.bi).toNat else [], i⟩, true, 0)) else (zL, false, 1)) else (zL, false, 90)
def LogInst (X : LogV × Bool × Int) (w : World) (e : Ending) (w' : World) : Prop := ∃ g, e = .returned (.tuple #[logV X.1 g, .bool X.2.1, .int .i64 X.2.2]) ∧ w'.ownsRow w.heap.size 39 3 g X.1.l.length (entC X.1.l) ∧ Below w.heap.size w w'
/-- Two boxes, and a log's block that the answer will lie in. -/
structure Tri (w : World) (L : LogV) (g : Value) (i t : Int) (wx : World) : Prop where
  box : wx.heap[w.heap.size]? = some (.cells (logA L g) 26 (0, 0))
  mrk : wx.heap[w.heap.size + 1]? = some (.cells #[.int .i64 i, .int .i64 t] 23 (0, 0))
  res : wx.heap[w.heap.size + 2]? = some (.cells #[.int .i64 0, .int .i64 0, .slice none 0 0, .int .i64 0] 26 (0, 0))
  bel : Below w.heap.size w wx
theorem Tri.first (w : World) (L : LogV) (g : Value) (i t : Int) : Tri w L g i t (((w.alloc (.cells (logA L g) 26)).alloc (.cells #[.int .i64 i, .int .i64 t] 23)).alloc (.cells #[.int .i64 0, .int .i64 0, .slice none 0 0, .int .i64 0] 26)) := by
  have ht := three_heap w (.cells (logA L g) 26) (.cells #[.int .i64 i, .int .i64 t] 23) (.cells #[.int .i64 0, .int .i64 0, .slice none 0 0, .int .i64 0] 26)
  exact ⟨ht.1, ht.2.1, ht.2.2.1, below3 w _ _ _⟩
theorem Tri.size {w wx : World} {L : LogV} {g : Value} {i t : Int} (h : Tri w L g i t wx) : w.heap.size + 3 ≤ wx.heap.size := (Array.getElem?_eq_some_iff.1 h.res).1
theorem Tri.keep {w wx wy : World} {L : LogV} {g : Value} {i t : Int} (h : Tri w L g i t wx) (hb : Below wx.heap.size wx wy) : Tri w L g i t wy := by
  have := h.size
  exact ⟨(hb.block _ (by omega)).trans h.box, (hb.block _ (by omega)).trans h.mrk, (hb.block _ (by omega)).trans h.res, below_via h.bel hb⟩
theorem Tri.cells {w wx : World} {L : LogV} {g : Value} {i t : Int} (h : Tri w L g i t wx) : wx.cell? ⟨w.heap.size, 0, none⟩ = some (.int .i64 L.bi) ∧ wx.cell? ⟨w.heap.size, 1, none⟩ = some (.int .i64 L.bt) ∧ wx.cell? ⟨w.heap.size, 2, none⟩ = some g ∧ wx.cell? ⟨w.heap.size, 3, none⟩ = some (.int .i64 L.cm) ∧ wx.cell? ⟨w.heap.size + 1, 0, none⟩ = some (.int .i64 i) ∧ wx.cell? ⟨w.heap.size + 1, 1, none⟩ = some (.int .i64 t) ∧ ∀ j, wx.frozen? ⟨w.heap.size, j, none⟩ = false :=
  ⟨by rw [cell_at h.box]; rfl, by rw [cell_at h.box]; rfl, by rw [cell_at h.box]; rfl, by rw [cell_at h.box]; rfl, by rw [cell_at h.mrk]; rfl, by rw [cell_at h.mrk]; rfl, fun j => free_at h.box j⟩
theorem Tri.zero {w wx : World} {L : LogV} {g : Value} {i t : Int} (h : Tri w L g i t wx) : wx.cell? ⟨w.heap.size + 1 + 1, 0, none⟩ = some (.int .i64 0) ∧ wx.cell? ⟨w.heap.size + 1 + 1, 1, none⟩ = some (.int .i64 0) ∧ wx.cell? ⟨w.heap.size + 1 + 1, 2, none⟩ = some (.slice none 0 0) ∧ wx.cell? ⟨w.heap.size + 1 + 1, 3, none⟩ = some (.int .i64 0) ∧ ∀ j, wx.frozen? ⟨w.heap.size + 1 + 1, j, none⟩ = false :=
  ⟨by rw [cell_at h.res]; rfl, by rw [cell_at h.res]; rfl, by rw [cell_at h.res]; rfl, by rw [cell_at h.res]; rfl, fun j => free_at h.res j⟩
theorem Tri.put {w wx : World} {L : LogV} {g : Value} {i t : Int} (h : Tri w L g i t wx) (v0 v1 v2 v3 : Value) : Hid (((((wx.setCell ⟨w.heap.size + 1 + 1, 0, none⟩ v0).setCell ⟨w.heap.size + 1 + 1, 1, none⟩ v1).setCell ⟨w.heap.size + 1 + 1, 2, none⟩ v2).setCell ⟨w.heap.size + 1 + 1, 3, none⟩ v3).heap[w.heap.size + 1 + 1]? = some (.cells #[v0, v1, v2, v3] 26 (0, 0)) ∧ Below w.heap.size w ((((wx.setCell ⟨w.heap.size + 1 + 1, 0, none⟩ v0).setCell ⟨w.heap.size + 1 + 1, 1, none⟩ v1).setCell ⟨w.heap.size + 1 + 1, 2, none⟩ v2).setCell ⟨w.heap.size + 1 + 1, 3, none⟩ v3)) :=
  fin4 v0 v1 v2 v3 h.res (by omega) h.bel
theorem size_may {L : LogV} (h : mayB L = true) : L.l.length * 32 ≤ 140737488355328 := by
  have := mayB_in h
  omega
set_option maxHeartbeats 16000000 in
set_option maxRecDepth 100000 in
theorem install_is (L : LogV) (g : Value) (i t : Int) (w : World) (h : EGot w g L.l) : Calls Try.prog 15 #[logV L g, .agg #[.int .i64 i, .int .i64 t]] w (LogInst (instL L i t) w) := by
  have T0 := hideIt (Tri.first w L g i t)
  have H1 := hideIt (check_is L g _ (h.keep T0.out.bel))
  have HM := hideIt (fun wx => sIsMark_is i t wx)
  unfold LogInst instL
  cases hm : mayB L
  · rw [show chkI L = 80 by simp [chkI, hm]] at H1
    simp only [Bool.false_eq_true, if_false]
    obtain ⟨a, c, rfl⟩ := h.slice
    unfold logV logA at *
    obtain ⟨bi, bt, l, cm⟩ := L
    simp only at H1 T0 ⊢
    clear h HM
    go_enter Try.func15, Try.ntmps15
    go_wp2_with fail
    refine H1.out.mono ?_
    rintro e w1 ⟨rfl, hbl⟩
    dsimp only
    have T1 := hideIt (T0.out.keep hbl)
    obtain ⟨z0, z1, z2, z3, zf⟩ := T1.out.zero
    have HP := T1.out.put (.int .i64 0) (.int .i64 0) (.slice none 0 0) (.int .i64 0)
    clear T0 T1 H1 hbl
    obtain ⟨e1, e2⟩ := HP.out
    clear HP
    go_wp2
    revert e1 e2
    generalize (World.setCell _ ⟨w.heap.size + 1 + 1, 3, none⟩ _) = W
    intro e1 e2
    exact bodyPost_ret (v := .tuple #[logV zL (.slice none 0 0), .bool false, .int .i64 90]) (by simp [results, Try.results15, go_sem, cell_at e1, logV, logA, zL]) rfl ⟨_, rfl, own_nil _ _, e2⟩
  · rw [show chkI L = 0 by simp [chkI, hm]] at H1
    simp only [if_true]
    by_cases hk : mkB i t = true ∧ i ≠ 0
    · rw [if_pos hk]
      obtain ⟨hk1, hk2⟩ := hk
      rw [hk1] at HM
      have hin := mayB_in hm
      have hmi := (mkB_in hk1).1
      have hi0b : (i == 0) = false := beq_eq_false_iff_ne.2 hk2
      have HCU := hideIt (fun wx (hx : Below w.heap.size w wx) => cut_is L g wx (h.keep hx))
      by_cases hc : i ≤ L.cm
      · rw [if_pos hc]
        have HCF := hideIt (fun (k : Nat) w0 wx (hbx : Box w0 k L g wx) (hx : Below w.heap.size w wx) => cutf_is k L g L.bi w0 wx hbx (h.keep hx) ⟨by omega, by omega⟩)
        have e0 := from_behind hm L.bi (Int.le_refl _)
        rw [show (L.bi - L.bi).toNat = 0 by omega, List.drop_zero] at e0
        rw [e0] at HCF
        unfold EntsBack at HCF
        clear e0
        obtain ⟨a, c, rfl⟩ := h.slice
        unfold logV logA at *
        obtain ⟨bi, bt, l, cm⟩ := L
        simp only at H1 T0 HCU HCF hc hin ⊢
        clear h hin hmi
        go_enter Try.func15, Try.ntmps15
        go_wp2_with fail
        refine H1.out.mono ?_
        rintro e w1 ⟨rfl, hbl⟩
        dsimp only
        have T1 := hideIt (T0.out.keep hbl)
        obtain ⟨c0, c1, c2, c3, m0, m1, cf⟩ := T1.out.cells
        simp only at c0 c1 c2 c3
        clear T0 H1 hbl
        go_wp2_with fail
        refine (HM.out _).mono ?_
        rintro e w2 ⟨rfl, hbl⟩
        dsimp only
        have T2 := hideIt (T1.out.keep hbl)
        clear hbl HM T1 c0 c1 c2 c3 m0 m1 cf
        obtain ⟨c0, c1, c2, c3, m0, m1, cf⟩ := T2.out.cells
        simp only at c0 c1 c2 c3
        go_wp2_with fail
        refine (HCU.out _ T2.out.bel).mono ?_
        rintro e w3 ⟨rfl, rfl⟩
        dsimp only
        have HBX := hideIt (And.intro (heap_alloc_new w2 (.cells #[.int .i64 bi, .int .i64 bt, .slice a l.length c, .int .i64 cm] 26)) (T2.out.keep (below1 w2 (.cells #[.int .i64 bi, .int .i64 bt, .slice a l.length c, .int .i64 cm] 26))))
        generalize w2.alloc (.cells #[.int .i64 bi, .int .i64 bt, .slice a l.length c, .int .i64 cm] 26) = w3 at *
        generalize w2.heap.size = kb at *
        clear T2 c0 c1 c2 c3 m0 m1 cf HCU
        obtain ⟨c0, c1, c2, c3, m0, m1, cf⟩ := HBX.out.2.cells
        simp only at c0 c1 c2 c3
        have HR := hideIt (HCF.out kb w w3 ⟨HBX.out.1, HBX.out.2.bel⟩ HBX.out.2.bel)
        clear HCF
        go_wp2_with fail
        refine HR.out.mono ?_
        rintro e w4 ⟨r, rfl, ho, hbl⟩
        dsimp only
        have T4 := hideIt (HBX.out.2.keep hbl)
        obtain ⟨ra, rc, rfl⟩ := own_len ho
        have HO := hideIt (And.intro ho HBX.out.2.size)
        clear ho hbl HR HBX c0 c1 c2 c3 m0 m1 cf
        obtain ⟨c0, c1, c2, c3, m0, m1, cf⟩ := T4.out.cells
        simp only at c0 c1 c2 c3
        obtain ⟨z0, z1, z2, z3, zf⟩ := T4.out.zero
        have HF := fin4 (w := w) (wx := w4.setCell ⟨w.heap.size, 2, none⟩ (.slice ra l.length rc)) (R := w.heap.size + 1 + 1) (.int .i64 bi) (.int .i64 bt) (.slice ra l.length rc) (.int .i64 cm) (setOther _ T4.out.res (by omega)) (by omega) (belowSet _ T4.out.bel (by omega))
        have HG := own4 (R := w.heap.size + 1 + 1) (.int .i64 bi) (.int .i64 bt) (.slice ra l.length rc) (.int .i64 cm) (ownSet (b := w.heap.size) (j := 2) (.slice ra l.length rc) HO.out.1 (by have := HO.out.2; omega)) (by have := HO.out.2; omega) w.heap.size (by have := HO.out.2; omega)
        clear T4 HO
        go_wp2
        obtain ⟨e1, e2⟩ := HF.out
        have e3 := HG.out
        revert e1 e2 e3
        generalize (World.setCell _ ⟨w.heap.size + 1 + 1, 3, none⟩ _) = W
        intro e1 e2 e3
        exact bodyPost_ret (v := .tuple #[logV ⟨bi, bt, l, cm⟩ (.slice ra l.length rc), .bool false, .int .i64 0]) (by simp [results, Try.results15, go_sem, cell_at e1, logV, logA]) rfl ⟨_, rfl, e3, e2⟩
      · rw [if_neg hc]
        have HTA := hideIt (fun wx (hx : Below w.heap.size w wx) => termAt_is L g i wx (h.keep hx))
        have HCF := hideIt (fun (k : Nat) w0 wx (hbx : Box w0 k L g wx) (hx : Below w.heap.size w wx) => cutf_is k L g i w0 wx hbx (h.keep hx) ⟨by omega, by omega⟩)
        rw [from_behind hm i (by omega)] at HCF
        unfold EntsBack at HCF
        generalize L.l.drop (i - L.bi).toNat = D at *
        generalize termL L i = tm at *
        obtain ⟨tt, tb⟩ := tm
        obtain ⟨a, c, rfl⟩ := h.slice
        unfold logV logA at *
        obtain ⟨bi, bt, l, cm⟩ := L
        simp only at H1 T0 HCU HCF HTA hc ⊢
        clear h hin hmi
        have hcI : ¬ (i ≤ cm) := hc
        have pre : ∀ (X : List EntV) (hX : X = if tb = true ∧ tt = t then D else []), Calls Try.prog 15 #[.agg #[.int .i64 bi, .int .i64 bt, .slice a l.length c, .int .i64 cm], .agg #[.int .i64 i, .int .i64 t]] w fun e w' => ∃ g, e = .returned (.tuple #[.agg #[.int .i64 i, .int .i64 t, g, .int .i64 i], .bool true, .int .i64 0]) ∧ w'.ownsRow w.heap.size 39 3 g X.length (entC X) ∧ Below w.heap.size w w' := by
          intro X hX
          have HX := hideIt hX
          clear hX
          by_cases hq : tb = true ∧ tt = t
          · rw [if_pos hq] at HX
            obtain ⟨rfl, hqt⟩ := hq
            have hq2 := hqt.symm
            subst hq2
            clear hqt
            go_enter Try.func15, Try.ntmps15
            go_wp2_with fail
            refine H1.out.mono ?_
            rintro e w1 ⟨rfl, hbl⟩
            dsimp only
            have T1 := hideIt (T0.out.keep hbl)
            obtain ⟨c0, c1, c2, c3, m0, m1, cf⟩ := T1.out.cells
            simp only at c0 c1 c2 c3
            clear T0 H1 hbl
            go_wp2_with fail
            refine (HM.out _).mono ?_
            rintro e w2 ⟨rfl, hbl⟩
            dsimp only
            have T2 := hideIt (T1.out.keep hbl)
            clear hbl HM T1 c0 c1 c2 c3 m0 m1 cf
            obtain ⟨c0, c1, c2, c3, m0, m1, cf⟩ := T2.out.cells
            simp only at c0 c1 c2 c3
            go_wp2_with fail
            refine (HCU.out _ T2.out.bel).mono ?_
            rintro e w3 ⟨rfl, rfl⟩
            dsimp only
            have HBX := hideIt (And.intro (heap_alloc_new w2 (.cells #[.int .i64 bi, .int .i64 bt, .slice a l.length c, .int .i64 cm] 26)) (T2.out.keep (below1 w2 (.cells #[.int .i64 bi, .int .i64 bt, .slice a l.length c, .int .i64 cm] 26))))
            generalize w2.alloc (.cells #[.int .i64 bi, .int .i64 bt, .slice a l.length c, .int .i64 cm] 26) = w3 at *
            generalize w2.heap.size = kb at *
            clear T2 c0 c1 c2 c3 m0 m1 cf HCU
            obtain ⟨c0, c1, c2, c3, m0, m1, cf⟩ := HBX.out.2.cells
            simp only at c0 c1 c2 c3
            go_upto_region 10 with fail
            have HB4 := hideIt (And.intro (HBX.out.2.keep (below1 w3 (.cells #[.int .i64 i, .int .i64 t, .slice none 0 0, .int .i64 i] 26))) (And.intro (heap_alloc_new w3 (.cells #[.int .i64 i, .int .i64 t, .slice none 0 0, .int .i64 i] 26)) (((below1 w3 (.cells #[.int .i64 i, .int .i64 t, .slice none 0 0, .int .i64 i] 26)).block kb (Array.getElem?_eq_some_iff.1 HBX.out.1).1).trans HBX.out.1)))
            have hk8 : w.heap.size + 3 ≤ w3.heap.size := HBX.out.2.size
            generalize w3.alloc (.cells #[.int .i64 i, .int .i64 t, .slice none 0 0, .int .i64 i] 26) = w4 at *
            generalize w3.heap.size = k8 at *
            clear HBX c0 c1 c2 c3 m0 m1 cf
            obtain ⟨c0, c1, c2, c3, m0, m1, cf⟩ := HB4.out.1.cells
            simp only at c0 c1 c2 c3
            go_wp2_with fail
            refine (HTA.out _ HB4.out.1.bel).mono ?_
            rintro e w5 ⟨rfl, hbl⟩
            dsimp only
            have T5 := hideIt (HB4.out.1.keep hbl)
            have H85 := hideIt ((hbl.block _ (Array.getElem?_eq_some_iff.1 HB4.out.2.1).1).trans HB4.out.2.1)
            have HB5 : Hid (Box w kb ⟨bi, bt, l, cm⟩ (.slice a l.length c) w5) := ⟨(hbl.block _ (Array.getElem?_eq_some_iff.1 HB4.out.2.2).1).trans HB4.out.2.2, T5.out.bel⟩
            clear hbl HTA HB4 c0 c1 c2 c3 m0 m1 cf
            obtain ⟨c0, c1, c2, c3, m0, m1, cf⟩ := T5.out.cells
            simp only at c0 c1 c2 c3
            have HR := hideIt (HCF.out kb w w5 HB5.out T5.out.bel)
            clear HCF
            go_wp2_with fail
            refine HR.out.mono ?_
            rintro e w6 ⟨r, rfl, ho, hbl⟩
            dsimp only
            have T6 := hideIt (T5.out.keep hbl)
            have H86 := hideIt ((hbl.block _ (Array.getElem?_eq_some_iff.1 H85.out).1).trans H85.out)
            obtain ⟨ra, rc, rfl⟩ := own_len ho
            have HO := hideIt (And.intro ho (Array.getElem?_eq_some_iff.1 H85.out).1)
            clear ho hbl HR T5 H85 HB5 c0 c1 c2 c3 m0 m1 cf
            have e0 : w6.cell? ⟨k8, 0, none⟩ = some (.int .i64 i) := by rw [cell_at H86.out]; rfl
            have e1 : w6.cell? ⟨k8, 1, none⟩ = some (.int .i64 t) := by rw [cell_at H86.out]; rfl
            have e2 : w6.cell? ⟨k8, 2, none⟩ = some (.slice none 0 0) := by rw [cell_at H86.out]; rfl
            have e3 : w6.cell? ⟨k8, 3, none⟩ = some (.int .i64 i) := by rw [cell_at H86.out]; rfl
            have ef : ∀ j, w6.frozen? ⟨k8, j, none⟩ = false := fun j => free_at H86.out j
            obtain ⟨z0, z1, z2, z3, zf⟩ := T6.out.zero
            have HF := fin4 (w := w) (wx := w6.setCell ⟨k8, 2, none⟩ (.slice ra D.length rc)) (R := w.heap.size + 1 + 1) (.int .i64 i) (.int .i64 t) (.slice ra D.length rc) (.int .i64 i) (setOther _ T6.out.res (by omega)) (by omega) (belowSet _ T6.out.bel (by omega))
            have HG := own4 (R := w.heap.size + 1 + 1) (.int .i64 i) (.int .i64 t) (.slice ra D.length rc) (.int .i64 i) (ownSet (b := k8) (j := 2) (.slice ra D.length rc) HO.out.1 HO.out.2) (by have := HO.out.2; omega) w.heap.size (by have := HO.out.2; omega)
            clear T6 HO H86
            go_wp2
            obtain ⟨e1, e2⟩ := HF.out
            have e3 := HG.out
            revert e1 e2 e3
            generalize (World.setCell _ ⟨w.heap.size + 1 + 1, 3, none⟩ _) = W
            intro e1 e2 e3
            rw [HX.out]
            exact bodyPost_ret (v := .tuple #[.agg #[.int .i64 i, .int .i64 t, .slice ra D.length rc, .int .i64 i], .bool true, .int .i64 0]) (by simp [results, Try.results15, go_sem, cell_at e1]) rfl ⟨_, rfl, e3, e2⟩
          · rw [if_neg hq] at HX
            have hqb : (tb && (tt == t)) = false := by
              rw [Bool.eq_false_iff]
              intro e
              rw [Bool.and_eq_true, beq_iff_eq] at e
              exact hq e
            rcases Bool.eq_false_or_eq_true tb with htb | htb
            · subst htb
              have htt : (tt == t) = false := by simpa using hqb
              go_enter Try.func15, Try.ntmps15
              go_wp2_with fail
              refine H1.out.mono ?_
              rintro e w1 ⟨rfl, hbl⟩
              dsimp only
              have T1 := hideIt (T0.out.keep hbl)
              obtain ⟨c0, c1, c2, c3, m0, m1, cf⟩ := T1.out.cells
              simp only at c0 c1 c2 c3
              clear T0 H1 hbl
              go_wp2_with fail
              refine (HM.out _).mono ?_
              rintro e w2 ⟨rfl, hbl⟩
              dsimp only
              have T2 := hideIt (T1.out.keep hbl)
              clear hbl HM T1 c0 c1 c2 c3 m0 m1 cf
              obtain ⟨c0, c1, c2, c3, m0, m1, cf⟩ := T2.out.cells
              simp only at c0 c1 c2 c3
              go_wp2_with fail
              refine (HCU.out _ T2.out.bel).mono ?_
              rintro e w3 ⟨rfl, rfl⟩
              dsimp only
              have HBX := hideIt (And.intro (heap_alloc_new w2 (.cells #[.int .i64 bi, .int .i64 bt, .slice a l.length c, .int .i64 cm] 26)) (T2.out.keep (below1 w2 (.cells #[.int .i64 bi, .int .i64 bt, .slice a l.length c, .int .i64 cm] 26))))
              generalize w2.alloc (.cells #[.int .i64 bi, .int .i64 bt, .slice a l.length c, .int .i64 cm] 26) = w3 at *
              generalize w2.heap.size = kb at *
              clear T2 c0 c1 c2 c3 m0 m1 cf HCU
              obtain ⟨c0, c1, c2, c3, m0, m1, cf⟩ := HBX.out.2.cells
              simp only at c0 c1 c2 c3
              go_upto_region 10 with fail
              have HB4 := hideIt (And.intro (HBX.out.2.keep (below1 w3 (.cells #[.int .i64 i, .int .i64 t, .slice none 0 0, .int .i64 i] 26))) (And.intro (heap_alloc_new w3 (.cells #[.int .i64 i, .int .i64 t, .slice none 0 0, .int .i64 i] 26)) (((below1 w3 (.cells #[.int .i64 i, .int .i64 t, .slice none 0 0, .int .i64 i] 26)).block kb (Array.getElem?_eq_some_iff.1 HBX.out.1).1).trans HBX.out.1)))
              have hk8 : w.heap.size + 3 ≤ w3.heap.size := HBX.out.2.size
              generalize w3.alloc (.cells #[.int .i64 i, .int .i64 t, .slice none 0 0, .int .i64 i] 26) = w4 at *
              generalize w3.heap.size = k8 at *
              clear HBX c0 c1 c2 c3 m0 m1 cf
              obtain ⟨c0, c1, c2, c3, m0, m1, cf⟩ := HB4.out.1.cells
              simp only at c0 c1 c2 c3
              go_wp2_with fail
              refine (HTA.out _ HB4.out.1.bel).mono ?_
              rintro e w5 ⟨rfl, hbl⟩
              dsimp only
              have T5 := hideIt (HB4.out.1.keep hbl)
              have H85 := hideIt ((hbl.block _ (Array.getElem?_eq_some_iff.1 HB4.out.2.1).1).trans HB4.out.2.1)
              have HB5 : Hid (Box w kb ⟨bi, bt, l, cm⟩ (.slice a l.length c) w5) := ⟨(hbl.block _ (Array.getElem?_eq_some_iff.1 HB4.out.2.2).1).trans HB4.out.2.2, T5.out.bel⟩
              clear hbl HTA HB4 c0 c1 c2 c3 m0 m1 cf
              obtain ⟨c0, c1, c2, c3, m0, m1, cf⟩ := T5.out.cells
              simp only at c0 c1 c2 c3
              clear HCF
              have e0 : w5.cell? ⟨k8, 0, none⟩ = some (.int .i64 i) := by rw [cell_at H85.out]; rfl
              have e1 : w5.cell? ⟨k8, 1, none⟩ = some (.int .i64 t) := by rw [cell_at H85.out]; rfl
              have e2 : w5.cell? ⟨k8, 2, none⟩ = some (.slice none 0 0) := by rw [cell_at H85.out]; rfl
              have e3 : w5.cell? ⟨k8, 3, none⟩ = some (.int .i64 i) := by rw [cell_at H85.out]; rfl
              obtain ⟨z0, z1, z2, z3, zf⟩ := T5.out.zero
              have HF := T5.out.put (.int .i64 i) (.int .i64 t) (.slice none 0 0) (.int .i64 i)
              clear T5 H85 HB5
              go_wp2
              obtain ⟨e1, e2⟩ := HF.out
              revert e1 e2
              generalize (World.setCell _ ⟨w.heap.size + 1 + 1, 3, none⟩ _) = W
              intro e1 e2
              rw [HX.out]
              exact bodyPost_ret (v := .tuple #[.agg #[.int .i64 i, .int .i64 t, .slice none 0 0, .int .i64 i], .bool true, .int .i64 0]) (by simp [results, Try.results15, go_sem, cell_at e1]) rfl ⟨_, rfl, own_nil _ _, e2⟩
            · subst htb
              go_enter Try.func15, Try.ntmps15
              go_wp2_with fail
              refine H1.out.mono ?_
              rintro e w1 ⟨rfl, hbl⟩
              dsimp only
              have T1 := hideIt (T0.out.keep hbl)
              obtain ⟨c0, c1, c2, c3, m0, m1, cf⟩ := T1.out.cells
              simp only at c0 c1 c2 c3
              clear T0 H1 hbl
              go_wp2_with fail
              refine (HM.out _).mono ?_
              rintro e w2 ⟨rfl, hbl⟩
              dsimp only
              have T2 := hideIt (T1.out.keep hbl)
              clear hbl HM T1 c0 c1 c2 c3 m0 m1 cf
              obtain ⟨c0, c1, c2, c3, m0, m1, cf⟩ := T2.out.cells
              simp only at c0 c1 c2 c3
              go_wp2_with fail
              refine (HCU.out _ T2.out.bel).mono ?_
              rintro e w3 ⟨rfl, rfl⟩
              dsimp only
              have HBX := hideIt (And.intro (heap_alloc_new w2 (.cells #[.int .i64 bi, .int .i64 bt, .slice a l.length c, .int .i64 cm] 26)) (T2.out.keep (below1 w2 (.cells #[.int .i64 bi, .int .i64 bt, .slice a l.length c, .int .i64 cm] 26))))
              generalize w2.alloc (.cells #[.int .i64 bi, .int .i64 bt, .slice a l.length c, .int .i64 cm] 26) = w3 at *
              generalize w2.heap.size = kb at *
              clear T2 c0 c1 c2 c3 m0 m1 cf HCU
              obtain ⟨c0, c1, c2, c3, m0, m1, cf⟩ := HBX.out.2.cells
              simp only at c0 c1 c2 c3
              go_upto_region 10 with fail
              have HB4 := hideIt (And.intro (HBX.out.2.keep (below1 w3 (.cells #[.int .i64 i, .int .i64 t, .slice none 0 0, .int .i64 i] 26))) (And.intro (heap_alloc_new w3 (.cells #[.int .i64 i, .int .i64 t, .slice none 0 0, .int .i64 i] 26)) (((below1 w3 (.cells #[.int .i64 i, .int .i64 t, .slice none 0 0, .int .i64 i] 26)).block kb (Array.getElem?_eq_some_iff.1 HBX.out.1).1).trans HBX.out.1)))
              have hk8 : w.heap.size + 3 ≤ w3.heap.size := HBX.out.2.size
              generalize w3.alloc (.cells #[.int .i64 i, .int .i64 t, .slice none 0 0, .int .i64 i] 26) = w4 at *
              generalize w3.heap.size = k8 at *
              clear HBX c0 c1 c2 c3 m0 m1 cf
              obtain ⟨c0, c1, c2, c3, m0, m1, cf⟩ := HB4.out.1.cells
              simp only at c0 c1 c2 c3
              go_wp2_with fail
              refine (HTA.out _ HB4.out.1.bel).mono ?_
              rintro e w5 ⟨rfl, hbl⟩
              dsimp only
              have T5 := hideIt (HB4.out.1.keep hbl)
              have H85 := hideIt ((hbl.block _ (Array.getElem?_eq_some_iff.1 HB4.out.2.1).1).trans HB4.out.2.1)
              have HB5 : Hid (Box w kb ⟨bi, bt, l, cm⟩ (.slice a l.length c) w5) := ⟨(hbl.block _ (Array.getElem?_eq_some_iff.1 HB4.out.2.2).1).trans HB4.out.2.2, T5.out.bel⟩
              clear hbl HTA HB4 c0 c1 c2 c3 m0 m1 cf
              obtain ⟨c0, c1, c2, c3, m0, m1, cf⟩ := T5.out.cells
              simp only at c0 c1 c2 c3
              clear HCF
              have e0 : w5.cell? ⟨k8, 0, none⟩ = some (.int .i64 i) := by rw [cell_at H85.out]; rfl
              have e1 : w5.cell? ⟨k8, 1, none⟩ = some (.int .i64 t) := by rw [cell_at H85.out]; rfl
              have e2 : w5.cell? ⟨k8, 2, none⟩ = some (.slice none 0 0) := by rw [cell_at H85.out]; rfl
              have e3 : w5.cell? ⟨k8, 3, none⟩ = some (.int .i64 i) := by rw [cell_at H85.out]; rfl
              obtain ⟨z0, z1, z2, z3, zf⟩ := T5.out.zero
              have HF := T5.out.put (.int .i64 i) (.int .i64 t) (.slice none 0 0) (.int .i64 i)
              clear T5 H85 HB5
              go_wp2
              obtain ⟨e1, e2⟩ := HF.out
              revert e1 e2
              generalize (World.setCell _ ⟨w.heap.size + 1 + 1, 3, none⟩ _) = W
              intro e1 e2
              rw [HX.out]
              exact bodyPost_ret (v := .tuple #[.agg #[.int .i64 i, .int .i64 t, .slice none 0 0, .int .i64 i], .bool true, .int .i64 0]) (by simp [results, Try.results15, go_sem, cell_at e1]) rfl ⟨_, rfl, own_nil _ _, e2⟩
        have := pre _ rfl
        refine this.mono ?_
        rintro e w' ⟨g, rfl, h1, h2⟩
        exact ⟨g, rfl, h1, h2⟩
    · rw [if_neg hk]
      obtain ⟨a, c, rfl⟩ := h.slice
      unfold logV logA at *
      obtain ⟨bi, bt, l, cm⟩ := L
      simp only at H1 T0 ⊢
      clear h
      cases hk1 : mkB i t
      · rw [hk1] at HM
        clear hk
        go_enter Try.func15, Try.ntmps15
        go_wp2_with fail
        refine H1.out.mono ?_
        rintro e w1 ⟨rfl, hbl⟩
        dsimp only
        have T1 := hideIt (T0.out.keep hbl)
        obtain ⟨c0, c1, c2, c3, m0, m1, cf⟩ := T1.out.cells
        simp only at c0 c1 c2 c3
        clear T0 H1 hbl
        go_wp2_with fail
        refine (HM.out _).mono ?_
        rintro e w2 ⟨rfl, hbl⟩
        dsimp only
        have T2 := hideIt (T1.out.keep hbl)
        obtain ⟨z0, z1, z2, z3, zf⟩ := T2.out.zero
        have HP := T2.out.put (.int .i64 0) (.int .i64 0) (.slice none 0 0) (.int .i64 0)
        clear T1 T2 hbl HM c0 c1 c2 c3 m0 m1 cf
        obtain ⟨e1, e2⟩ := HP.out
        clear HP
        go_wp2
        revert e1 e2
        generalize (World.setCell _ ⟨w.heap.size + 1 + 1, 3, none⟩ _) = W
        intro e1 e2
        exact bodyPost_ret (v := .tuple #[logV zL (.slice none 0 0), .bool false, .int .i64 1]) (by simp [results, Try.results15, go_sem, cell_at e1, logV, logA, zL]) rfl ⟨_, rfl, own_nil _ _, e2⟩
      · have hi0 : i = 0 := by
          rw [hk1] at hk
          simpa using hk
        subst hi0
        rw [hk1] at HM
        clear hk
        go_enter Try.func15, Try.ntmps15
        go_wp2_with fail
        refine H1.out.mono ?_
        rintro e w1 ⟨rfl, hbl⟩
        dsimp only
        have T1 := hideIt (T0.out.keep hbl)
        obtain ⟨c0, c1, c2, c3, m0, m1, cf⟩ := T1.out.cells
        simp only at c0 c1 c2 c3
        clear T0 H1 hbl
        go_wp2_with fail
        refine (HM.out _).mono ?_
        rintro e w2 ⟨rfl, hbl⟩
        dsimp only
        have T2 := hideIt (T1.out.keep hbl)
        obtain ⟨z0, z1, z2, z3, zf⟩ := T2.out.zero
        clear c0 c1 c2 c3 m0 m1 cf
        obtain ⟨c0, c1, c2, c3, m0, m1, cf⟩ := T2.out.cells
        have HP := T2.out.put (.int .i64 0) (.int .i64 0) (.slice none 0 0) (.int .i64 0)
        clear T1 T2 hbl HM
        obtain ⟨e1, e2⟩ := HP.out
        clear HP
        go_wp2
        revert e1 e2
        generalize (World.setCell _ ⟨w.heap.size + 1 + 1, 3, none⟩ _) = W
        intro e1 e2
        exact bodyPost_ret (v := .tuple #[logV zL (.slice none 0 0), .bool false, .int .i64 1]) (by simp [results, Try.results15, go_sem, cell_at e1, logV, logA, zL]) rfl ⟨_, rfl, own_nil _ _, e2⟩
end Go.Proofs.Ytofbikalfpmdpab
