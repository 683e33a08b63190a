/- What the document's Install answers. -/
import Derived.Test.YtofbikalfpmdpabInst
namespace Go.Proofs.Ytofbikalfpmdpab
open Go.RowKit
theorem term_in {L : LogV} (h : mayB L = true) (i : Int) (hq : (termL L i).2 = true) : L.bi ≤ i ∧ i ≤ lasI L := by
  rw [termL_may i h] at hq
  simp only [markL] at hq
  have hin := mayB_in h
  by_cases h1 : i = L.bi
  · omega
  · rw [if_neg h1] at hq
    cases hb : hasB L i
    · rw [hb] at hq
      simp at hq
    · have hn : L.bi + 1 ≤ i ∧ i ≤ lasI L := of_decide_eq_true hb
      omega
set_option maxHeartbeats 16000000 in
set_option maxRecDepth 100000 in
theorem rInstall_is (L : LogV) (g : Value) (i t : Int) (w : World) (h : EGot w g L.l) : Calls Try.prog 16 #[logV L g, .agg #[.int .i64 i, .int .i64 t]] w (LogInst (instL L i t) w) := by
  have T0 := hideIt (Tri.first w L g i t)
  have H1 := hideIt (rCheck_is L g _ (h.keep T0.out.bel))
  have HM := hideIt (fun wx => rMark_is i t wx)
  unfold LogInst instL
  cases hm : mayB L
  · rw [show chkI L = 80 by simp [chkI, hm]] at H1
    simp only [Bool.false_eq_true, if_false]
    obtain ⟨a, c, rfl⟩ := h.slice
    unfold logV logA at *
    obtain ⟨bi, bt, l, cm⟩ := L
    simp only at H1 T0 ⊢
    clear h HM
    go_enter Try.func16, Try.ntmps16
    go_wp2_with fail
    refine H1.out.mono ?_
    rintro e w1 ⟨rfl, hbl⟩
    dsimp only
    have T1 := hideIt (T0.out.keep hbl)
    obtain ⟨z0, z1, z2, z3, zf⟩ := T1.out.zero
    have HP := T1.out.put (.int .i64 0) (.int .i64 0) (.slice none 0 0) (.int .i64 0)
    clear T0 T1 H1 hbl
    obtain ⟨e1, e2⟩ := HP.out
    clear HP
    go_wp2
    revert e1 e2
    generalize (World.setCell _ ⟨w.heap.size + 1 + 1, 3, none⟩ _) = W
    intro e1 e2
    exact bodyPost_ret (v := .tuple #[logV zL (.slice none 0 0), .bool false, .int .i64 90]) (by simp [results, Try.results16, go_sem, cell_at e1, logV, logA, zL]) rfl ⟨_, rfl, own_nil _ _, e2⟩
  · rw [show chkI L = 0 by simp [chkI, hm]] at H1
    simp only [if_true]
    by_cases hk : mkB i t = true ∧ i ≠ 0
    · rw [if_pos hk]
      obtain ⟨hk1, hk2⟩ := hk
      rw [hk1] at HM
      have hin := mayB_in hm
      have hmi := (mkB_in hk1).1
      have hi0b : (i == 0) = false := beq_eq_false_iff_ne.2 hk2
      by_cases hc : i ≤ L.cm
      · rw [if_pos hc]
        have HCP := hideIt (fun wx (hx : Below w.heap.size w wx) => copy_is L g wx (h.keep hx))
        obtain ⟨a, c, rfl⟩ := h.slice
        unfold LogBack at HCP
        unfold logV logA at *
        obtain ⟨bi, bt, l, cm⟩ := L
        simp only at H1 T0 HCP hc hin ⊢
        clear h hin hmi
        go_enter Try.func16, Try.ntmps16
        go_wp2_with fail
        refine H1.out.mono ?_
        rintro e w1 ⟨rfl, hbl⟩
        dsimp only
        have T1 := hideIt (T0.out.keep hbl)
        obtain ⟨c0, c1, c2, c3, m0, m1, cf⟩ := T1.out.cells
        simp only at c0 c1 c2 c3
        clear T0 H1 hbl
        go_wp2_with fail
        refine (HM.out _).mono ?_
        rintro e w2 ⟨rfl, hbl⟩
        dsimp only
        have T2 := hideIt (T1.out.keep hbl)
        clear hbl HM T1 c0 c1 c2 c3 m0 m1 cf
        obtain ⟨c0, c1, c2, c3, m0, m1, cf⟩ := T2.out.cells
        simp only at c0 c1 c2 c3
        have HR := hideIt (HCP.out w2 T2.out.bel)
        clear HCP
        go_wp2_with fail
        refine HR.out.mono ?_
        rintro e w4 ⟨gx, rfl, ho, hbl⟩
        dsimp only
        have T4 := hideIt (T2.out.keep hbl)
        obtain ⟨ra, rc, rfl⟩ := own_len ho
        have HO := hideIt (And.intro ho T2.out.size)
        clear ho hbl HR T2 c0 c1 c2 c3 m0 m1 cf
        obtain ⟨z0, z1, z2, z3, zf⟩ := T4.out.zero
        have HF := T4.out.put (.int .i64 bi) (.int .i64 bt) (.slice ra l.length rc) (.int .i64 cm)
        have HG := own4 (R := w.heap.size + 1 + 1) (.int .i64 bi) (.int .i64 bt) (.slice ra l.length rc) (.int .i64 cm) HO.out.1 (by have := HO.out.2; omega) w.heap.size (by have := HO.out.2; omega)
        clear T4 HO
        go_wp2
        obtain ⟨e1, e2⟩ := HF.out
        have e3 := HG.out
        revert e1 e2 e3
        generalize (World.setCell _ ⟨w.heap.size + 1 + 1, 3, none⟩ _) = W
        intro e1 e2 e3
        exact bodyPost_ret (v := .tuple #[logV ⟨bi, bt, l, cm⟩ (.slice ra l.length rc), .bool false, .int .i64 0]) (by simp [results, Try.results16, go_sem, cell_at e1, logV, logA]) rfl ⟨_, rfl, e3, e2⟩
      · rw [if_neg hc]
        have HTA := hideIt (fun wx (hx : Below w.heap.size w wx) => rTermAt_is L g i wx (h.keep hx))
        have HCF := hideIt (fun (hq : (termL L i).2 = true) wx (hx : Below w.heap.size w wx) => behind_is L g i wx (h.keep hx) ⟨by omega, by omega⟩ (term_in hm i hq) (by omega))
        unfold EntsBack at HCF
        generalize L.l.drop (i - L.bi).toNat = D at *
        generalize termL L i = tm at *
        obtain ⟨tt, tb⟩ := tm
        obtain ⟨a, c, rfl⟩ := h.slice
        unfold logV logA at *
        obtain ⟨bi, bt, l, cm⟩ := L
        simp only at H1 T0 HCF HTA hc ⊢
        clear h hin hmi
        have hcI : ¬ (i ≤ cm) := hc
        have pre : ∀ (X : List EntV) (hX : X = if tb = true ∧ tt = t then D else []), Calls Try.prog 16 #[.agg #[.int .i64 bi, .int .i64 bt, .slice a l.length c, .int .i64 cm], .agg #[.int .i64 i, .int .i64 t]] w fun e w' => ∃ g, e = .returned (.tuple #[.agg #[.int .i64 i, .int .i64 t, g, .int .i64 i], .bool true, .int .i64 0]) ∧ w'.ownsRow w.heap.size 39 3 g X.length (entC X) ∧ Below w.heap.size w w' := by
          intro X hX
          have HX := hideIt hX
          clear hX
          by_cases hq : tb = true ∧ tt = t
          · rw [if_pos hq] at HX
            obtain ⟨rfl, hqt⟩ := hq
            have hq2 := hqt.symm
            subst hq2
            clear hqt
            go_enter Try.func16, Try.ntmps16
            go_wp2_with fail
            refine H1.out.mono ?_
            rintro e w1 ⟨rfl, hbl⟩
            dsimp only
            have T1 := hideIt (T0.out.keep hbl)
            obtain ⟨c0, c1, c2, c3, m0, m1, cf⟩ := T1.out.cells
            simp only at c0 c1 c2 c3
            clear T0 H1 hbl
            go_wp2_with fail
            refine (HM.out _).mono ?_
            rintro e w3 ⟨rfl, hbl⟩
            dsimp only
            have T2 := hideIt (T1.out.keep hbl)
            clear hbl HM T1 c0 c1 c2 c3 m0 m1 cf
            obtain ⟨c0, c1, c2, c3, m0, m1, cf⟩ := T2.out.cells
            simp only at c0 c1 c2 c3
            go_upto_region 8 with fail
            have HB4 := hideIt (And.intro (T2.out.keep (below1 w3 (.cells #[.int .i64 i, .int .i64 t, .slice none 0 0, .int .i64 i] 26))) (heap_alloc_new w3 (.cells #[.int .i64 i, .int .i64 t, .slice none 0 0, .int .i64 i] 26)))
            have hk8 : w.heap.size + 3 ≤ w3.heap.size := T2.out.size
            generalize w3.alloc (.cells #[.int .i64 i, .int .i64 t, .slice none 0 0, .int .i64 i] 26) = w4 at *
            generalize w3.heap.size = k8 at *
            clear T2 c0 c1 c2 c3 m0 m1 cf
            obtain ⟨c0, c1, c2, c3, m0, m1, cf⟩ := HB4.out.1.cells
            simp only at c0 c1 c2 c3
            go_wp2_with fail
            refine (HTA.out _ HB4.out.1.bel).mono ?_
            rintro e w5 ⟨rfl, hbl⟩
            dsimp only
            have T5 := hideIt (HB4.out.1.keep hbl)
            have H85 := hideIt ((hbl.block _ (Array.getElem?_eq_some_iff.1 HB4.out.2).1).trans HB4.out.2)
            clear hbl HTA HB4 c0 c1 c2 c3 m0 m1 cf
            obtain ⟨c0, c1, c2, c3, m0, m1, cf⟩ := T5.out.cells
            simp only at c0 c1 c2 c3
            have HR := hideIt (HCF.out trivial w5 T5.out.bel)
            clear HCF
            go_wp2_with fail
            refine HR.out.mono ?_
            rintro e w6 ⟨r, rfl, ho, hbl⟩
            dsimp only
            have T6 := hideIt (T5.out.keep hbl)
            have H86 := hideIt ((hbl.block _ (Array.getElem?_eq_some_iff.1 H85.out).1).trans H85.out)
            obtain ⟨ra, rc, rfl⟩ := own_len ho
            have HO := hideIt (And.intro ho (Array.getElem?_eq_some_iff.1 H85.out).1)
            clear ho hbl HR T5 H85 c0 c1 c2 c3 m0 m1 cf
            have e0 : w6.cell? ⟨k8, 0, none⟩ = some (.int .i64 i) := by rw [cell_at H86.out]; rfl
            have e1 : w6.cell? ⟨k8, 1, none⟩ = some (.int .i64 t) := by rw [cell_at H86.out]; rfl
            have e2 : w6.cell? ⟨k8, 2, none⟩ = some (.slice none 0 0) := by rw [cell_at H86.out]; rfl
            have e3 : w6.cell? ⟨k8, 3, none⟩ = some (.int .i64 i) := by rw [cell_at H86.out]; rfl
            have ef : ∀ j, w6.frozen? ⟨k8, j, none⟩ = false := fun j => free_at H86.out j
            obtain ⟨z0, z1, z2, z3, zf⟩ := T6.out.zero
            have HF := fin4 (w := w) (wx := w6.setCell ⟨k8, 2, none⟩ (.slice ra D.length rc)) (R := w.heap.size + 1 + 1) (.int .i64 i) (.int .i64 t) (.slice ra D.length rc) (.int .i64 i) (setOther _ T6.out.res (by omega)) (by omega) (belowSet _ T6.out.bel (by omega))
            have HG := own4 (R := w.heap.size + 1 + 1) (.int .i64 i) (.int .i64 t) (.slice ra D.length rc) (.int .i64 i) (ownSet (b := k8) (j := 2) (.slice ra D.length rc) HO.out.1 HO.out.2) (by have := HO.out.2; omega) w.heap.size (by have := HO.out.2; omega)
            clear T6 HO H86
            go_wp2
            obtain ⟨e1, e2⟩ := HF.out
            have e3 := HG.out
            revert e1 e2 e3
            generalize (World.setCell _ ⟨w.heap.size + 1 + 1, 3, none⟩ _) = W
            intro e1 e2 e3
            rw [HX.out]
            exact bodyPost_ret (v := .tuple #[.agg #[.int .i64 i, .int .i64 t, .slice ra D.length rc, .int .i64 i], .bool true, .int .i64 0]) (by simp [results, Try.results16, go_sem, cell_at e1]) rfl ⟨_, rfl, e3, e2⟩
          · rw [if_neg hq] at HX
            have hqb : (tb && (tt == t)) = false := by
              rw [Bool.eq_false_iff]
              intro e
              rw [Bool.and_eq_true, beq_iff_eq] at e
              exact hq e
            rcases Bool.eq_false_or_eq_true tb with htb | htb
            · subst htb
              have htt : (tt == t) = false := by simpa using hqb
              go_enter Try.func16, Try.ntmps16
              go_wp2_with fail
              refine H1.out.mono ?_
              rintro e w1 ⟨rfl, hbl⟩
              dsimp only
              have T1 := hideIt (T0.out.keep hbl)
              obtain ⟨c0, c1, c2, c3, m0, m1, cf⟩ := T1.out.cells
              simp only at c0 c1 c2 c3
              clear T0 H1 hbl
              go_wp2_with fail
              refine (HM.out _).mono ?_
              rintro e w3 ⟨rfl, hbl⟩
              dsimp only
              have T2 := hideIt (T1.out.keep hbl)
              clear hbl HM T1 c0 c1 c2 c3 m0 m1 cf
              obtain ⟨c0, c1, c2, c3, m0, m1, cf⟩ := T2.out.cells
              simp only at c0 c1 c2 c3
              go_upto_region 8 with fail
              have HB4 := hideIt (And.intro (T2.out.keep (below1 w3 (.cells #[.int .i64 i, .int .i64 t, .slice none 0 0, .int .i64 i] 26))) (heap_alloc_new w3 (.cells #[.int .i64 i, .int .i64 t, .slice none 0 0, .int .i64 i] 26)))
              have hk8 : w.heap.size + 3 ≤ w3.heap.size := T2.out.size
              generalize w3.alloc (.cells #[.int .i64 i, .int .i64 t, .slice none 0 0, .int .i64 i] 26) = w4 at *
              generalize w3.heap.size = k8 at *
              clear T2 c0 c1 c2 c3 m0 m1 cf
              obtain ⟨c0, c1, c2, c3, m0, m1, cf⟩ := HB4.out.1.cells
              simp only at c0 c1 c2 c3
              go_wp2_with fail
              refine (HTA.out _ HB4.out.1.bel).mono ?_
              rintro e w5 ⟨rfl, hbl⟩
              dsimp only
              have T5 := hideIt (HB4.out.1.keep hbl)
              have H85 := hideIt ((hbl.block _ (Array.getElem?_eq_some_iff.1 HB4.out.2).1).trans HB4.out.2)
              clear hbl HTA HB4 c0 c1 c2 c3 m0 m1 cf
              obtain ⟨c0, c1, c2, c3, m0, m1, cf⟩ := T5.out.cells
              simp only at c0 c1 c2 c3
              clear HCF
              have e0 : w5.cell? ⟨k8, 0, none⟩ = some (.int .i64 i) := by rw [cell_at H85.out]; rfl
              have e1 : w5.cell? ⟨k8, 1, none⟩ = some (.int .i64 t) := by rw [cell_at H85.out]; rfl
              have e2 : w5.cell? ⟨k8, 2, none⟩ = some (.slice none 0 0) := by rw [cell_at H85.out]; rfl
              have e3 : w5.cell? ⟨k8, 3, none⟩ = some (.int .i64 i) := by rw [cell_at H85.out]; rfl
              obtain ⟨z0, z1, z2, z3, zf⟩ := T5.out.zero
              have HF := T5.out.put (.int .i64 i) (.int .i64 t) (.slice none 0 0) (.int .i64 i)
              clear T5 H85
              go_wp2
              obtain ⟨e1, e2⟩ := HF.out
              revert e1 e2
              generalize (World.setCell _ ⟨w.heap.size + 1 + 1, 3, none⟩ _) = W
              intro e1 e2
              rw [HX.out]
              exact bodyPost_ret (v := .tuple #[.agg #[.int .i64 i, .int .i64 t, .slice none 0 0, .int .i64 i], .bool true, .int .i64 0]) (by simp [results, Try.results16, go_sem, cell_at e1]) rfl ⟨_, rfl, own_nil _ _, e2⟩
            · subst htb
              go_enter Try.func16, Try.ntmps16
              go_wp2_with fail
              refine H1.out.mono ?_
              rintro e w1 ⟨rfl, hbl⟩
              dsimp only
              have T1 := hideIt (T0.out.keep hbl)
              obtain ⟨c0, c1, c2, c3, m0, m1, cf⟩ := T1.out.cells
              simp only at c0 c1 c2 c3
              clear T0 H1 hbl
              go_wp2_with fail
              refine (HM.out _).mono ?_
              rintro e w3 ⟨rfl, hbl⟩
              dsimp only
              have T2 := hideIt (T1.out.keep hbl)
              clear hbl HM T1 c0 c1 c2 c3 m0 m1 cf
              obtain ⟨c0, c1, c2, c3, m0, m1, cf⟩ := T2.out.cells
              simp only at c0 c1 c2 c3
              go_upto_region 8 with fail
              have HB4 := hideIt (And.intro (T2.out.keep (below1 w3 (.cells #[.int .i64 i, .int .i64 t, .slice none 0 0, .int .i64 i] 26))) (heap_alloc_new w3 (.cells #[.int .i64 i, .int .i64 t, .slice none 0 0, .int .i64 i] 26)))
              have hk8 : w.heap.size + 3 ≤ w3.heap.size := T2.out.size
              generalize w3.alloc (.cells #[.int .i64 i, .int .i64 t, .slice none 0 0, .int .i64 i] 26) = w4 at *
              generalize w3.heap.size = k8 at *
              clear T2 c0 c1 c2 c3 m0 m1 cf
              obtain ⟨c0, c1, c2, c3, m0, m1, cf⟩ := HB4.out.1.cells
              simp only at c0 c1 c2 c3
              go_wp2_with fail
              refine (HTA.out _ HB4.out.1.bel).mono ?_
              rintro e w5 ⟨rfl, hbl⟩
              dsimp only
              have T5 := hideIt (HB4.out.1.keep hbl)
              have H85 := hideIt ((hbl.block _ (Array.getElem?_eq_some_iff.1 HB4.out.2).1).trans HB4.out.2)
              clear hbl HTA HB4 c0 c1 c2 c3 m0 m1 cf
              obtain ⟨c0, c1, c2, c3, m0, m1, cf⟩ := T5.out.cells
              simp only at c0 c1 c2 c3
              clear HCF
              have e0 : w5.cell? ⟨k8, 0, none⟩ = some (.int .i64 i) := by rw [cell_at H85.out]; rfl
              have e1 : w5.cell? ⟨k8, 1, none⟩ = some (.int .i64 t) := by rw [cell_at H85.out]; rfl
              have e2 : w5.cell? ⟨k8, 2, none⟩ = some (.slice none 0 0) := by rw [cell_at H85.out]; rfl
              have e3 : w5.cell? ⟨k8, 3, none⟩ = some (.int .i64 i) := by rw [cell_at H85.out]; rfl
              obtain ⟨z0, z1, z2, z3, zf⟩ := T5.out.zero
              have HF := T5.out.put (.int .i64 i) (.int .i64 t) (.slice none 0 0) (.int .i64 i)
              clear T5 H85
              go_wp2
              obtain ⟨e1, e2⟩ := HF.out
              revert e1 e2
              generalize (World.setCell _ ⟨w.heap.size + 1 + 1, 3, none⟩ _) = W
              intro e1 e2
              rw [HX.out]
              exact bodyPost_ret (v := .tuple #[.agg #[.int .i64 i, .int .i64 t, .slice none 0 0, .int .i64 i], .bool true, .int .i64 0]) (by simp [results, Try.results16, go_sem, cell_at e1]) rfl ⟨_, rfl, own_nil _ _, e2⟩
        have := pre _ rfl
        refine this.mono ?_
        rintro e w' ⟨g, rfl, h1, h2⟩
        exact ⟨g, rfl, h1, h2⟩
    · rw [if_neg hk]
      obtain ⟨a, c, rfl⟩ := h.slice
      unfold logV logA at *
      obtain ⟨bi, bt, l, cm⟩ := L
      simp only at H1 T0 ⊢
      clear h
      cases hk1 : mkB i t
      · rw [hk1] at HM
        clear hk
        go_enter Try.func16, Try.ntmps16
        go_wp2_with fail
        refine H1.out.mono ?_
        rintro e w1 ⟨rfl, hbl⟩
        dsimp only
        have T1 := hideIt (T0.out.keep hbl)
        obtain ⟨c0, c1, c2, c3, m0, m1, cf⟩ := T1.out.cells
        simp only at c0 c1 c2 c3
        clear T0 H1 hbl
        go_wp2_with fail
        refine (HM.out _).mono ?_
        rintro e w2 ⟨rfl, hbl⟩
        dsimp only
        have T2 := hideIt (T1.out.keep hbl)
        obtain ⟨z0, z1, z2, z3, zf⟩ := T2.out.zero
        have HP := T2.out.put (.int .i64 0) (.int .i64 0) (.slice none 0 0) (.int .i64 0)
        clear T1 T2 hbl HM c0 c1 c2 c3 m0 m1 cf
        obtain ⟨e1, e2⟩ := HP.out
        clear HP
        go_wp2
        revert e1 e2
        generalize (World.setCell _ ⟨w.heap.size + 1 + 1, 3, none⟩ _) = W
        intro e1 e2
        exact bodyPost_ret (v := .tuple #[logV zL (.slice none 0 0), .bool false, .int .i64 1]) (by simp [results, Try.results16, go_sem, cell_at e1, logV, logA, zL]) rfl ⟨_, rfl, own_nil _ _, e2⟩
      · have hi0 : i = 0 := by
          rw [hk1] at hk
          simpa using hk
        subst hi0
        rw [hk1] at HM
        clear hk
        go_enter Try.func16, Try.ntmps16
        go_wp2_with fail
        refine H1.out.mono ?_
        rintro e w1 ⟨rfl, hbl⟩
        dsimp only
        have T1 := hideIt (T0.out.keep hbl)
        obtain ⟨c0, c1, c2, c3, m0, m1, cf⟩ := T1.out.cells
        simp only at c0 c1 c2 c3
        clear T0 H1 hbl
        go_wp2_with fail
        refine (HM.out _).mono ?_
        rintro e w2 ⟨rfl, hbl⟩
        dsimp only
        have T2 := hideIt (T1.out.keep hbl)
        obtain ⟨z0, z1, z2, z3, zf⟩ := T2.out.zero
        clear c0 c1 c2 c3 m0 m1 cf
        obtain ⟨c0, c1, c2, c3, m0, m1, cf⟩ := T2.out.cells
        have HP := T2.out.put (.int .i64 0) (.int .i64 0) (.slice none 0 0) (.int .i64 0)
        clear T1 T2 hbl HM
        obtain ⟨e1, e2⟩ := HP.out
        clear HP
        go_wp2
        revert e1 e2
        generalize (World.setCell _ ⟨w.heap.size + 1 + 1, 3, none⟩ _) = W
        intro e1 e2
        exact bodyPost_ret (v := .tuple #[logV zL (.slice none 0 0), .bool false, .int .i64 1]) (by simp [results, Try.results16, go_sem, cell_at e1, logV, logA, zL]) rfl ⟨_, rfl, own_nil _ _, e2⟩
end Go.Proofs.Ytofbikalfpmdpab
