/- The document's own: a ballot that counts an answer. -/
import Derived.Test.YtkoecdcbopkkbaaRefP
namespace Go.Proofs.Ytkoecdcbopkkbaa
open Go.RowKit
theorem may_s {b : Bal} (h : mayB b = true) : b.l.Pairwise (· < ·) ∧ ∀ x ∈ b.l, 1 ≤ x ∧ x ≤ 7 := by
  have hr : roleB b.v b.r b.l = true := by
    simp only [mayB, Bool.and_eq_true] at h
    exact h.2
  unfold roleB at hr
  split at hr
  · rw [List.isEmpty_iff] at hr
    rw [hr]
    exact ⟨List.Pairwise.nil, fun x hx => by cases hx⟩
  · split at hr
    · simp only [Bool.and_eq_true] at hr
      obtain ⟨h1, h2⟩ := nodes_l _ _ hr.1
      exact ⟨h1, fun x hx => (h2 x hx).2⟩
    · cases hr
theorem hear_s {b : Bal} (y : Int) (h : mayB b = true) : (hearL b y).l.Pairwise (· < ·) ∧ ∀ x ∈ (hearL b y).l, 1 ≤ x ∧ x ≤ 7 := by
  unfold hearL
  split
  · exact ⟨List.Pairwise.nil, fun x hx => by cases hx⟩
  · exact may_s h
theorem wi_le {x a b : Int} (h : wiB x a b = true) : x ≤ b := by
  simp only [wiB, decide_eq_true_eq] at h
  exact h.2
set_option maxHeartbeats 8000000 in
set_option maxRecDepth 100000 in
theorem rcount_is (b : Bal) (g : Value) (x y : Int) (ok : Bool) (n : Int) (w : World) (h : GotAt w g b.l) : Calls Try.prog 22 #[balV b g, .int .i64 x, .int .i64 y, .bool ok, .int .i64 n] w (BalErr w.heap.size w (countL b x y ok n).1 (countL b x y ok n).2) := by
  have T0 := hideIt (Two.start w b g)
  have HM := hideIt (rmay_is b g _ (h.keep T0.out.bel))
  have HO1 := hideIt (fun W => rwithin_is n 1 7 W)
  have HO2 := hideIt (fun W => rwithin_is x 1 n W)
  have HT := hideIt (fun W => rwithin_is y 1 1000000 W)
  have HH := hideIt (fun W hW => heard_is b g y W (h.keep hW))
  have HL := hideIt (@hear_s b y)
  have HL8 := hideIt (@hear_l b y)
  clear h
  obtain ⟨A, hA⟩ : ∃ A, countL b x y ok n = A := ⟨_, rfl⟩
  rw [hA]
  unfold countL oneB at hA
  generalize hearL b y = V at *
  obtain ⟨t, v, r, l⟩ := b
  unfold balV at HM HH ⊢
  simp only at hA T0 HM HH ⊢
  cases hm : mayB ⟨t, v, r, l⟩
  · rw [hm] at HM hA
    rw [if_pos rfl] at hA
    subst hA
    go_enter Try.func22, Try.ntmps22
    go_wp2_with fail
    refine HM.out.mono ?_
    rintro e w1 ⟨rfl, hb⟩
    dsimp only
    have T1 := hideIt (T0.out.keep hb)
    clear hb T0 HM
    have bc0 : w1.cell? ⟨w.heap.size, 0, none⟩ = some (.int .i64 t) := by rw [cell_at T1.out.box]; rfl
    have bc1 : w1.cell? ⟨w.heap.size, 1, none⟩ = some (.int .i64 v) := by rw [cell_at T1.out.box]; rfl
    have bc2 : w1.cell? ⟨w.heap.size, 2, none⟩ = some (.int .i64 r) := by rw [cell_at T1.out.box]; rfl
    have bc3 : w1.cell? ⟨w.heap.size, 3, none⟩ = some (g) := by rw [cell_at T1.out.box]; rfl
    have bf : ∀ j, w1.frozen? ⟨w.heap.size, j, none⟩ = false := fun j => free_at T1.out.box j
    have zc0 : w1.cell? ⟨w.heap.size + 1, 0, none⟩ = some (.int .i64 0) := by rw [cell_at T1.out.res]; rfl
    have zc1 : w1.cell? ⟨w.heap.size + 1, 1, none⟩ = some (.int .i64 0) := by rw [cell_at T1.out.res]; rfl
    have zc2 : w1.cell? ⟨w.heap.size + 1, 2, none⟩ = some (.int .i64 0) := by rw [cell_at T1.out.res]; rfl
    have zc3 : w1.cell? ⟨w.heap.size + 1, 3, none⟩ = some (.slice none 0 0) := by rw [cell_at T1.out.res]; rfl
    have zf : ∀ j, w1.frozen? ⟨w.heap.size + 1, j, none⟩ = false := fun j => free_at T1.out.res j
    have HF := fin4 (w := w) (.int .i64 0) (.int .i64 0) (.int .i64 0) (.slice none 0 0) T1.out.res (by omega) T1.out.bel
    clear T1
    go_wp2
    obtain ⟨e1, e2⟩ := HF.out
    revert e1 e2
    generalize (World.setCell _ ⟨w.heap.size + 1, 3, none⟩ _) = W
    intro e1 e2
    exact bodyPost_ret (v := .tuple #[balV zB (.slice none 0 0), .int .i64 70]) (by simp [results, Try.results22, go_sem, cell_at e1, balV, zB]) rfl ⟨_, rfl, ⟨rfl, .inl ⟨rfl, rfl⟩⟩, e2⟩
  · rw [hm] at HM hA
    rw [if_neg (by simp)] at hA
    have HL2 := hideIt (HL.out hm)
    have HL3 := hideIt (HL8.out hm).2
    clear HL HL8 hm
    cases ho1 : wiB n 1 7
    · rw [ho1] at HO1 hA
      rw [if_pos (by simp)] at hA
      subst hA
      go_enter Try.func22, Try.ntmps22
      go_wp2_with fail
      refine HM.out.mono ?_
      rintro e w1 ⟨rfl, hb⟩
      dsimp only
      have T1 := hideIt (T0.out.keep hb)
      clear hb T0 HM
      have bc0 : w1.cell? ⟨w.heap.size, 0, none⟩ = some (.int .i64 t) := by rw [cell_at T1.out.box]; rfl
      have bc1 : w1.cell? ⟨w.heap.size, 1, none⟩ = some (.int .i64 v) := by rw [cell_at T1.out.box]; rfl
      have bc2 : w1.cell? ⟨w.heap.size, 2, none⟩ = some (.int .i64 r) := by rw [cell_at T1.out.box]; rfl
      have bc3 : w1.cell? ⟨w.heap.size, 3, none⟩ = some (g) := by rw [cell_at T1.out.box]; rfl
      have bf : ∀ j, w1.frozen? ⟨w.heap.size, j, none⟩ = false := fun j => free_at T1.out.box j
      have zc0 : w1.cell? ⟨w.heap.size + 1, 0, none⟩ = some (.int .i64 0) := by rw [cell_at T1.out.res]; rfl
      have zc1 : w1.cell? ⟨w.heap.size + 1, 1, none⟩ = some (.int .i64 0) := by rw [cell_at T1.out.res]; rfl
      have zc2 : w1.cell? ⟨w.heap.size + 1, 2, none⟩ = some (.int .i64 0) := by rw [cell_at T1.out.res]; rfl
      have zc3 : w1.cell? ⟨w.heap.size + 1, 3, none⟩ = some (.slice none 0 0) := by rw [cell_at T1.out.res]; rfl
      have zf : ∀ j, w1.frozen? ⟨w.heap.size + 1, j, none⟩ = false := fun j => free_at T1.out.res j
      have HF := fin4 (w := w) (.int .i64 0) (.int .i64 0) (.int .i64 0) (.slice none 0 0) T1.out.res (by omega) T1.out.bel
      clear T1
      go_wp2_with fail
      refine (HO1.out _).mono ?_
      rintro e w2 ⟨rfl, rfl⟩
      dsimp only
      go_wp2
      obtain ⟨e1, e2⟩ := HF.out
      revert e1 e2
      generalize (World.setCell _ ⟨w.heap.size + 1, 3, none⟩ _) = W
      intro e1 e2
      exact bodyPost_ret (v := .tuple #[balV zB (.slice none 0 0), .int .i64 1]) (by simp [results, Try.results22, go_sem, cell_at e1, balV, zB]) rfl ⟨_, rfl, ⟨rfl, .inl ⟨rfl, rfl⟩⟩, e2⟩
    · cases ho2 : wiB x 1 n
      · rw [ho1] at HO1
        rw [ho2] at HO2
        rw [ho1, ho2] at hA
        rw [if_pos (by simp)] at hA
        subst hA
        clear ho1 ho2
        go_enter Try.func22, Try.ntmps22
        go_wp2_with fail
        refine HM.out.mono ?_
        rintro e w1 ⟨rfl, hb⟩
        dsimp only
        have T1 := hideIt (T0.out.keep hb)
        clear hb T0 HM
        have bc0 : w1.cell? ⟨w.heap.size, 0, none⟩ = some (.int .i64 t) := by rw [cell_at T1.out.box]; rfl
        have bc1 : w1.cell? ⟨w.heap.size, 1, none⟩ = some (.int .i64 v) := by rw [cell_at T1.out.box]; rfl
        have bc2 : w1.cell? ⟨w.heap.size, 2, none⟩ = some (.int .i64 r) := by rw [cell_at T1.out.box]; rfl
        have bc3 : w1.cell? ⟨w.heap.size, 3, none⟩ = some (g) := by rw [cell_at T1.out.box]; rfl
        have bf : ∀ j, w1.frozen? ⟨w.heap.size, j, none⟩ = false := fun j => free_at T1.out.box j
        have zc0 : w1.cell? ⟨w.heap.size + 1, 0, none⟩ = some (.int .i64 0) := by rw [cell_at T1.out.res]; rfl
        have zc1 : w1.cell? ⟨w.heap.size + 1, 1, none⟩ = some (.int .i64 0) := by rw [cell_at T1.out.res]; rfl
        have zc2 : w1.cell? ⟨w.heap.size + 1, 2, none⟩ = some (.int .i64 0) := by rw [cell_at T1.out.res]; rfl
        have zc3 : w1.cell? ⟨w.heap.size + 1, 3, none⟩ = some (.slice none 0 0) := by rw [cell_at T1.out.res]; rfl
        have zf : ∀ j, w1.frozen? ⟨w.heap.size + 1, j, none⟩ = false := fun j => free_at T1.out.res j
        have HF := fin4 (w := w) (.int .i64 0) (.int .i64 0) (.int .i64 0) (.slice none 0 0) T1.out.res (by omega) T1.out.bel
        clear T1
        go_wp2_with fail
        refine (HO1.out _).mono ?_
        rintro e w2 ⟨rfl, rfl⟩
        dsimp only
        go_wp2_with fail
        refine (HO2.out _).mono ?_
        rintro e w3 ⟨rfl, rfl⟩
        dsimp only
        go_wp2
        obtain ⟨e1, e2⟩ := HF.out
        revert e1 e2
        generalize (World.setCell _ ⟨w.heap.size + 1, 3, none⟩ _) = W
        intro e1 e2
        exact bodyPost_ret (v := .tuple #[balV zB (.slice none 0 0), .int .i64 1]) (by simp [results, Try.results22, go_sem, cell_at e1, balV, zB]) rfl ⟨_, rfl, ⟨rfl, .inl ⟨rfl, rfl⟩⟩, e2⟩
      · have hx : 1 ≤ x ∧ x ≤ 7 := ⟨wi_ge ho2, Int.le_trans (wi_le ho2) (wi_le ho1)⟩
        rw [ho1] at HO1
        rw [ho2] at HO2
        rw [ho1, ho2] at hA
        rw [if_neg (by simp)] at hA
        clear ho1 ho2
        have HPA := hideIt (put_add V.l x HL2.out.1 HL2.out.2 hx)
        clear HL2 hx
        cases ht : wiB y 1 1000000
        · rw [ht] at HT hA
          rw [if_pos rfl] at hA
          subst hA
          clear ht
          go_enter Try.func22, Try.ntmps22
          go_wp2_with fail
          refine HM.out.mono ?_
          rintro e w1 ⟨rfl, hb⟩
          dsimp only
          have T1 := hideIt (T0.out.keep hb)
          clear hb T0 HM
          have bc0 : w1.cell? ⟨w.heap.size, 0, none⟩ = some (.int .i64 t) := by rw [cell_at T1.out.box]; rfl
          have bc1 : w1.cell? ⟨w.heap.size, 1, none⟩ = some (.int .i64 v) := by rw [cell_at T1.out.box]; rfl
          have bc2 : w1.cell? ⟨w.heap.size, 2, none⟩ = some (.int .i64 r) := by rw [cell_at T1.out.box]; rfl
          have bc3 : w1.cell? ⟨w.heap.size, 3, none⟩ = some (g) := by rw [cell_at T1.out.box]; rfl
          have bf : ∀ j, w1.frozen? ⟨w.heap.size, j, none⟩ = false := fun j => free_at T1.out.box j
          have zc0 : w1.cell? ⟨w.heap.size + 1, 0, none⟩ = some (.int .i64 0) := by rw [cell_at T1.out.res]; rfl
          have zc1 : w1.cell? ⟨w.heap.size + 1, 1, none⟩ = some (.int .i64 0) := by rw [cell_at T1.out.res]; rfl
          have zc2 : w1.cell? ⟨w.heap.size + 1, 2, none⟩ = some (.int .i64 0) := by rw [cell_at T1.out.res]; rfl
          have zc3 : w1.cell? ⟨w.heap.size + 1, 3, none⟩ = some (.slice none 0 0) := by rw [cell_at T1.out.res]; rfl
          have zf : ∀ j, w1.frozen? ⟨w.heap.size + 1, j, none⟩ = false := fun j => free_at T1.out.res j
          have HF := fin4 (w := w) (.int .i64 0) (.int .i64 0) (.int .i64 0) (.slice none 0 0) T1.out.res (by omega) T1.out.bel
          clear T1
          go_wp2_with fail
          refine (HO1.out _).mono ?_
          rintro e w2 ⟨rfl, rfl⟩
          dsimp only
          go_wp2_with fail
          refine (HO2.out _).mono ?_
          rintro e w3 ⟨rfl, rfl⟩
          dsimp only
          go_wp2_with fail
          refine (HT.out _).mono ?_
          rintro e w4 ⟨rfl, rfl⟩
          dsimp only
          go_wp2
          obtain ⟨e1, e2⟩ := HF.out
          revert e1 e2
          generalize (World.setCell _ ⟨w.heap.size + 1, 3, none⟩ _) = W
          intro e1 e2
          exact bodyPost_ret (v := .tuple #[balV zB (.slice none 0 0), .int .i64 1]) (by simp [results, Try.results22, go_sem, cell_at e1, balV, zB]) rfl ⟨_, rfl, ⟨rfl, .inl ⟨rfl, rfl⟩⟩, e2⟩
        · rw [ht] at HT hA
          rw [if_neg (by simp)] at hA
          clear ht
          cases ok
          · rw [if_neg (by simp)] at hA
            clear HPA
            subst hA
            go_enter Try.func22, Try.ntmps22
            go_wp2_with fail
            refine HM.out.mono ?_
            rintro e w1 ⟨rfl, hb⟩
            dsimp only
            have T1 := hideIt (T0.out.keep hb)
            clear hb T0 HM
            have bc0 : w1.cell? ⟨w.heap.size, 0, none⟩ = some (.int .i64 t) := by rw [cell_at T1.out.box]; rfl
            have bc1 : w1.cell? ⟨w.heap.size, 1, none⟩ = some (.int .i64 v) := by rw [cell_at T1.out.box]; rfl
            have bc2 : w1.cell? ⟨w.heap.size, 2, none⟩ = some (.int .i64 r) := by rw [cell_at T1.out.box]; rfl
            have bc3 : w1.cell? ⟨w.heap.size, 3, none⟩ = some (g) := by rw [cell_at T1.out.box]; rfl
            have bf : ∀ j, w1.frozen? ⟨w.heap.size, j, none⟩ = false := fun j => free_at T1.out.box j
            go_wp2_with fail
            refine (HO1.out _).mono ?_
            rintro e w2 ⟨rfl, rfl⟩
            dsimp only
            go_wp2_with fail
            refine (HO2.out _).mono ?_
            rintro e w3 ⟨rfl, rfl⟩
            dsimp only
            go_wp2_with fail
            refine (HT.out _).mono ?_
            rintro e w3b ⟨rfl, rfl⟩
            dsimp only
            clear HO1 HO2 HT
            go_wp2_with fail
            refine (HH.out _ T1.out.bel).mono ?_
            rintro e w4 ⟨g2, rfl, h1, h2⟩
            dsimp only
            obtain ⟨a2, cc, rfl⟩ := own_len h1
            have hs := hideIt T1.out.size
            have T2 := hideIt (T1.out.keep h2)
            have HW := hideIt h1
            clear h1 h2 T1 HH bc0 bc1 bc2 bc3 bf
            unfold balV
            have T3 := hideIt (T2.out.keep (below1 w4 (.cells #[.int .i64 V.t, .int .i64 V.v, .int .i64 V.r, .slice a2 V.l.length cc] 26)))
            have HX := hideIt (own_keep HW.out (below1 w4 (.cells #[.int .i64 V.t, .int .i64 V.v, .int .i64 V.r, .slice a2 V.l.length cc] 26)))
            have zc0 : (w4.alloc (.cells #[.int .i64 V.t, .int .i64 V.v, .int .i64 V.r, .slice a2 V.l.length cc] 26)).cell? ⟨w.heap.size + 1, 0, none⟩ = some (.int .i64 0) := by rw [cell_at T3.out.res]; rfl
            have zc1 : (w4.alloc (.cells #[.int .i64 V.t, .int .i64 V.v, .int .i64 V.r, .slice a2 V.l.length cc] 26)).cell? ⟨w.heap.size + 1, 1, none⟩ = some (.int .i64 0) := by rw [cell_at T3.out.res]; rfl
            have zc2 : (w4.alloc (.cells #[.int .i64 V.t, .int .i64 V.v, .int .i64 V.r, .slice a2 V.l.length cc] 26)).cell? ⟨w.heap.size + 1, 2, none⟩ = some (.int .i64 0) := by rw [cell_at T3.out.res]; rfl
            have zc3 : (w4.alloc (.cells #[.int .i64 V.t, .int .i64 V.v, .int .i64 V.r, .slice a2 V.l.length cc] 26)).cell? ⟨w.heap.size + 1, 3, none⟩ = some (.slice none 0 0) := by rw [cell_at T3.out.res]; rfl
            have zf : ∀ j, (w4.alloc (.cells #[.int .i64 V.t, .int .i64 V.v, .int .i64 V.r, .slice a2 V.l.length cc] 26)).frozen? ⟨w.heap.size + 1, j, none⟩ = false := fun j => free_at T3.out.res j
            have HF := fin4 (w := w) (.int .i64 V.t) (.int .i64 V.v) (.int .i64 V.r) (.slice a2 V.l.length cc) T3.out.res (by omega) T3.out.bel
            have HG := own4 (R := w.heap.size + 1) (.int .i64 V.t) (.int .i64 V.v) (.int .i64 V.r) (.slice a2 V.l.length cc) HX.out hs.out w.heap.size (by have := hs.out; omega)
            clear T2 T3 HW HX hs
            go_wp2
            obtain ⟨e1, e2⟩ := HF.out
            have e3 := HG.out
            revert e1 e2 e3
            generalize (World.setCell _ ⟨w.heap.size + 1, 3, none⟩ _) = W
            intro e1 e2 e3
            exact bodyPost_ret (v := .tuple #[balV V (.slice a2 V.l.length cc), .int .i64 0]) (by simp [results, Try.results22, go_sem, cell_at e1, balV]) rfl ⟨_, rfl, e3, e2⟩
          · simp only [Bool.true_and] at hA
            by_cases c1 : V.r = 2
            · have c1b : (V.r == 2) = true := by simp [c1]
              by_cases c2 : V.t = y
              · have c2b : (V.t == y) = true := by simp [c2]
                rw [if_pos (by simp [c1, c2])] at hA
                clear c1 c2
                have HP := hideIt (fun W g hg => rput_is g V.l x W hg)
                have hlen := putK_len V.l x 7
                unfold voteL at hA
                rw [← HPA.out] at hA
                generalize putK V.l x 7 = L at *
                clear HPA
                go_enter Try.func22, Try.ntmps22
                go_wp2_with fail
                refine HM.out.mono ?_
                rintro e w1 ⟨rfl, hb⟩
                dsimp only
                have T1 := hideIt (T0.out.keep hb)
                clear hb T0 HM
                have bc0 : w1.cell? ⟨w.heap.size, 0, none⟩ = some (.int .i64 t) := by rw [cell_at T1.out.box]; rfl
                have bc1 : w1.cell? ⟨w.heap.size, 1, none⟩ = some (.int .i64 v) := by rw [cell_at T1.out.box]; rfl
                have bc2 : w1.cell? ⟨w.heap.size, 2, none⟩ = some (.int .i64 r) := by rw [cell_at T1.out.box]; rfl
                have bc3 : w1.cell? ⟨w.heap.size, 3, none⟩ = some (g) := by rw [cell_at T1.out.box]; rfl
                have bf : ∀ j, w1.frozen? ⟨w.heap.size, j, none⟩ = false := fun j => free_at T1.out.box j
                go_wp2_with fail
                refine (HO1.out _).mono ?_
                rintro e w2 ⟨rfl, rfl⟩
                dsimp only
                go_wp2_with fail
                refine (HO2.out _).mono ?_
                rintro e w3 ⟨rfl, rfl⟩
                dsimp only
                go_wp2_with fail
                refine (HT.out _).mono ?_
                rintro e w3b ⟨rfl, rfl⟩
                dsimp only
                clear HO1 HO2 HT
                go_wp2_with fail
                refine (HH.out _ T1.out.bel).mono ?_
                rintro e w4 ⟨g2, rfl, h1, h2⟩
                dsimp only
                obtain ⟨a2, cc, rfl⟩ := own_len h1
                have hs := hideIt T1.out.size
                have T2 := hideIt (T1.out.keep h2)
                have HW := hideIt h1
                clear h1 h2 T1 HH bc0 bc1 bc2 bc3 bf
                unfold balV
                have T3 := hideIt (T2.out.keep (below1 w4 (.cells #[.int .i64 V.t, .int .i64 V.v, .int .i64 V.r, .slice a2 V.l.length cc] 26)))
                have HX := hideIt (own_keep HW.out (below1 w4 (.cells #[.int .i64 V.t, .int .i64 V.v, .int .i64 V.r, .slice a2 V.l.length cc] 26)))
                have zc0 : (w4.alloc (.cells #[.int .i64 V.t, .int .i64 V.v, .int .i64 V.r, .slice a2 V.l.length cc] 26)).cell? ⟨w.heap.size + 1, 0, none⟩ = some (.int .i64 0) := by rw [cell_at T3.out.res]; rfl
                have zc1 : (w4.alloc (.cells #[.int .i64 V.t, .int .i64 V.v, .int .i64 V.r, .slice a2 V.l.length cc] 26)).cell? ⟨w.heap.size + 1, 1, none⟩ = some (.int .i64 0) := by rw [cell_at T3.out.res]; rfl
                have zc2 : (w4.alloc (.cells #[.int .i64 V.t, .int .i64 V.v, .int .i64 V.r, .slice a2 V.l.length cc] 26)).cell? ⟨w.heap.size + 1, 2, none⟩ = some (.int .i64 0) := by rw [cell_at T3.out.res]; rfl
                have zc3 : (w4.alloc (.cells #[.int .i64 V.t, .int .i64 V.v, .int .i64 V.r, .slice a2 V.l.length cc] 26)).cell? ⟨w.heap.size + 1, 3, none⟩ = some (.slice none 0 0) := by rw [cell_at T3.out.res]; rfl
                have zf : ∀ j, (w4.alloc (.cells #[.int .i64 V.t, .int .i64 V.v, .int .i64 V.r, .slice a2 V.l.length cc] 26)).frozen? ⟨w.heap.size + 1, j, none⟩ = false := fun j => free_at T3.out.res j
                have GA := hideIt (own_got HX.out (by have := HL3.out; omega))
                go_wp2_with fail
                refine (HP.out _ _ GA.out).mono ?_
                rintro e w5 ⟨g3, rfl, h1, h2⟩
                dsimp only
                obtain ⟨a3, c3, rfl⟩ := own_len h1
                have T4 := hideIt (T3.out.keep h2)
                have HE := hideIt ((h2.block w4.heap.size (by simp)).trans (heap_alloc_new w4 _))
                have hb1 : Hid (w4.heap.size < (w4.alloc (.cells #[.int .i64 V.t, .int .i64 V.v, .int .i64 V.r, .slice a2 V.l.length cc] 26)).heap.size) := by
                  show _ < _
                  simp
                have HY := hideIt h1
                have hs4 := hideIt T2.out.size
                clear h1 h2 T2 T3 HX HW HP GA zc0 zc1 zc2 zc3 zf
                have hne : ¬ (w4.heap.size = w.heap.size + 1) := by have := hs4.out; omega
                have hne2 : ¬ (w.heap.size + 1 = w4.heap.size) := by have := hs4.out; omega
                have ec0 : w5.cell? ⟨w4.heap.size, 0, none⟩ = some (.int .i64 V.t) := by rw [cell_at HE.out]; rfl
                have ec1 : w5.cell? ⟨w4.heap.size, 1, none⟩ = some (.int .i64 V.v) := by rw [cell_at HE.out]; rfl
                have ec2 : w5.cell? ⟨w4.heap.size, 2, none⟩ = some (.int .i64 V.r) := by rw [cell_at HE.out]; rfl
                have ec3 : w5.cell? ⟨w4.heap.size, 3, none⟩ = some (.slice a2 V.l.length cc) := by rw [cell_at HE.out]; rfl
                have ef : ∀ j, w5.frozen? ⟨w4.heap.size, j, none⟩ = false := fun j => free_at HE.out j
                have zc0 : w5.cell? ⟨w.heap.size + 1, 0, none⟩ = some (.int .i64 0) := by rw [cell_at T4.out.res]; rfl
                have zc1 : w5.cell? ⟨w.heap.size + 1, 1, none⟩ = some (.int .i64 0) := by rw [cell_at T4.out.res]; rfl
                have zc2 : w5.cell? ⟨w.heap.size + 1, 2, none⟩ = some (.int .i64 0) := by rw [cell_at T4.out.res]; rfl
                have zc3 : w5.cell? ⟨w.heap.size + 1, 3, none⟩ = some (.slice none 0 0) := by rw [cell_at T4.out.res]; rfl
                have zf : ∀ j, w5.frozen? ⟨w.heap.size + 1, j, none⟩ = false := fun j => free_at T4.out.res j
                by_cases hm : n < 2 * (L.length : Int)
                · rw [if_pos hm] at hA
                  subst hA
                  have HF := fin4 (w := w) (wx := (w5.setCell ⟨w4.heap.size, 3, none⟩ (.slice a3 L.length c3)).setCell ⟨w4.heap.size, 2, none⟩ (.int .i64 3)) (R := w.heap.size + 1) (.int .i64 V.t) (.int .i64 V.v) (.int .i64 3) (.slice a3 L.length c3) (setOther _ (setOther _ T4.out.res hne2) hne2) (by omega) (belowSet _ (belowSet _ T4.out.bel (by have := hs4.out; omega)) (by have := hs4.out; omega))
                  have HG := own4 (R := w.heap.size + 1) (.int .i64 V.t) (.int .i64 V.v) (.int .i64 3) (.slice a3 L.length c3) (ownSet (b := w4.heap.size) (j := 2) (.int .i64 3) (ownSet (b := w4.heap.size) (j := 3) (.slice a3 L.length c3) HY.out hb1.out) hb1.out) (by have := hb1.out; have := hs4.out; omega) w.heap.size (by have := hb1.out; have := hs4.out; omega)
                  clear T4 HY HE hs hs4 hb1 HL3
                  go_wp2
                  obtain ⟨e1, e2⟩ := HF.out
                  have e3 := HG.out
                  revert e1 e2 e3
                  generalize (World.setCell _ ⟨w.heap.size + 1, 3, none⟩ _) = W
                  intro e1 e2 e3
                  exact bodyPost_ret (v := .tuple #[balV ⟨V.t, V.v, 3, L⟩ (.slice a3 L.length c3), .int .i64 0]) (by simp [results, Try.results22, go_sem, cell_at e1, balV]) rfl ⟨_, rfl, e3, e2⟩
                · rw [if_neg hm] at hA
                  subst hA
                  have HF := fin4 (w := w) (wx := w5.setCell ⟨w4.heap.size, 3, none⟩ (.slice a3 L.length c3)) (R := w.heap.size + 1) (.int .i64 V.t) (.int .i64 V.v) (.int .i64 V.r) (.slice a3 L.length c3) (setOther _ T4.out.res hne2) (by omega) (belowSet _ T4.out.bel (by have := hs4.out; omega))
                  have HG := own4 (R := w.heap.size + 1) (.int .i64 V.t) (.int .i64 V.v) (.int .i64 V.r) (.slice a3 L.length c3) (ownSet (b := w4.heap.size) (j := 3) (.slice a3 L.length c3) HY.out hb1.out) (by have := hb1.out; have := hs4.out; omega) w.heap.size (by have := hb1.out; have := hs4.out; omega)
                  clear T4 HY HE hs hs4 hb1 HL3
                  go_wp2
                  obtain ⟨e1, e2⟩ := HF.out
                  have e3 := HG.out
                  revert e1 e2 e3
                  generalize (World.setCell _ ⟨w.heap.size + 1, 3, none⟩ _) = W
                  intro e1 e2 e3
                  exact bodyPost_ret (v := .tuple #[balV ⟨V.t, V.v, V.r, L⟩ (.slice a3 L.length c3), .int .i64 0]) (by simp [results, Try.results22, go_sem, cell_at e1, balV]) rfl ⟨_, rfl, e3, e2⟩
              · have c2b : (V.t == y) = false := by simp [c2]
                rw [if_neg (by simp [c2])] at hA
                clear c1 c2 HPA
                subst hA
                go_enter Try.func22, Try.ntmps22
                go_wp2_with fail
                refine HM.out.mono ?_
                rintro e w1 ⟨rfl, hb⟩
                dsimp only
                have T1 := hideIt (T0.out.keep hb)
                clear hb T0 HM
                have bc0 : w1.cell? ⟨w.heap.size, 0, none⟩ = some (.int .i64 t) := by rw [cell_at T1.out.box]; rfl
                have bc1 : w1.cell? ⟨w.heap.size, 1, none⟩ = some (.int .i64 v) := by rw [cell_at T1.out.box]; rfl
                have bc2 : w1.cell? ⟨w.heap.size, 2, none⟩ = some (.int .i64 r) := by rw [cell_at T1.out.box]; rfl
                have bc3 : w1.cell? ⟨w.heap.size, 3, none⟩ = some (g) := by rw [cell_at T1.out.box]; rfl
                have bf : ∀ j, w1.frozen? ⟨w.heap.size, j, none⟩ = false := fun j => free_at T1.out.box j
                go_wp2_with fail
                refine (HO1.out _).mono ?_
                rintro e w2 ⟨rfl, rfl⟩
                dsimp only
                go_wp2_with fail
                refine (HO2.out _).mono ?_
                rintro e w3 ⟨rfl, rfl⟩
                dsimp only
                go_wp2_with fail
                refine (HT.out _).mono ?_
                rintro e w3b ⟨rfl, rfl⟩
                dsimp only
                clear HO1 HO2 HT
                go_wp2_with fail
                refine (HH.out _ T1.out.bel).mono ?_
                rintro e w4 ⟨g2, rfl, h1, h2⟩
                dsimp only
                obtain ⟨a2, cc, rfl⟩ := own_len h1
                have hs := hideIt T1.out.size
                have T2 := hideIt (T1.out.keep h2)
                have HW := hideIt h1
                clear h1 h2 T1 HH bc0 bc1 bc2 bc3 bf
                unfold balV
                have T3 := hideIt (T2.out.keep (below1 w4 (.cells #[.int .i64 V.t, .int .i64 V.v, .int .i64 V.r, .slice a2 V.l.length cc] 26)))
                have HX := hideIt (own_keep HW.out (below1 w4 (.cells #[.int .i64 V.t, .int .i64 V.v, .int .i64 V.r, .slice a2 V.l.length cc] 26)))
                have zc0 : (w4.alloc (.cells #[.int .i64 V.t, .int .i64 V.v, .int .i64 V.r, .slice a2 V.l.length cc] 26)).cell? ⟨w.heap.size + 1, 0, none⟩ = some (.int .i64 0) := by rw [cell_at T3.out.res]; rfl
                have zc1 : (w4.alloc (.cells #[.int .i64 V.t, .int .i64 V.v, .int .i64 V.r, .slice a2 V.l.length cc] 26)).cell? ⟨w.heap.size + 1, 1, none⟩ = some (.int .i64 0) := by rw [cell_at T3.out.res]; rfl
                have zc2 : (w4.alloc (.cells #[.int .i64 V.t, .int .i64 V.v, .int .i64 V.r, .slice a2 V.l.length cc] 26)).cell? ⟨w.heap.size + 1, 2, none⟩ = some (.int .i64 0) := by rw [cell_at T3.out.res]; rfl
                have zc3 : (w4.alloc (.cells #[.int .i64 V.t, .int .i64 V.v, .int .i64 V.r, .slice a2 V.l.length cc] 26)).cell? ⟨w.heap.size + 1, 3, none⟩ = some (.slice none 0 0) := by rw [cell_at T3.out.res]; rfl
                have zf : ∀ j, (w4.alloc (.cells #[.int .i64 V.t, .int .i64 V.v, .int .i64 V.r, .slice a2 V.l.length cc] 26)).frozen? ⟨w.heap.size + 1, j, none⟩ = false := fun j => free_at T3.out.res j
                have HF := fin4 (w := w) (.int .i64 V.t) (.int .i64 V.v) (.int .i64 V.r) (.slice a2 V.l.length cc) T3.out.res (by omega) T3.out.bel
                have HG := own4 (R := w.heap.size + 1) (.int .i64 V.t) (.int .i64 V.v) (.int .i64 V.r) (.slice a2 V.l.length cc) HX.out hs.out w.heap.size (by have := hs.out; omega)
                clear T2 T3 HW HX hs
                go_wp2
                obtain ⟨e1, e2⟩ := HF.out
                have e3 := HG.out
                revert e1 e2 e3
                generalize (World.setCell _ ⟨w.heap.size + 1, 3, none⟩ _) = W
                intro e1 e2 e3
                exact bodyPost_ret (v := .tuple #[balV V (.slice a2 V.l.length cc), .int .i64 0]) (by simp [results, Try.results22, go_sem, cell_at e1, balV]) rfl ⟨_, rfl, e3, e2⟩
            · have c1b : (V.r == 2) = false := by simp [c1]
              rw [if_neg (by simp [c1])] at hA
              clear c1 HPA
              subst hA
              go_enter Try.func22, Try.ntmps22
              go_wp2_with fail
              refine HM.out.mono ?_
              rintro e w1 ⟨rfl, hb⟩
              dsimp only
              have T1 := hideIt (T0.out.keep hb)
              clear hb T0 HM
              have bc0 : w1.cell? ⟨w.heap.size, 0, none⟩ = some (.int .i64 t) := by rw [cell_at T1.out.box]; rfl
              have bc1 : w1.cell? ⟨w.heap.size, 1, none⟩ = some (.int .i64 v) := by rw [cell_at T1.out.box]; rfl
              have bc2 : w1.cell? ⟨w.heap.size, 2, none⟩ = some (.int .i64 r) := by rw [cell_at T1.out.box]; rfl
              have bc3 : w1.cell? ⟨w.heap.size, 3, none⟩ = some (g) := by rw [cell_at T1.out.box]; rfl
              have bf : ∀ j, w1.frozen? ⟨w.heap.size, j, none⟩ = false := fun j => free_at T1.out.box j
              go_wp2_with fail
              refine (HO1.out _).mono ?_
              rintro e w2 ⟨rfl, rfl⟩
              dsimp only
              go_wp2_with fail
              refine (HO2.out _).mono ?_
              rintro e w3 ⟨rfl, rfl⟩
              dsimp only
              go_wp2_with fail
              refine (HT.out _).mono ?_
              rintro e w3b ⟨rfl, rfl⟩
              dsimp only
              clear HO1 HO2 HT
              go_wp2_with fail
              refine (HH.out _ T1.out.bel).mono ?_
              rintro e w4 ⟨g2, rfl, h1, h2⟩
              dsimp only
              obtain ⟨a2, cc, rfl⟩ := own_len h1
              have hs := hideIt T1.out.size
              have T2 := hideIt (T1.out.keep h2)
              have HW := hideIt h1
              clear h1 h2 T1 HH bc0 bc1 bc2 bc3 bf
              unfold balV
              have T3 := hideIt (T2.out.keep (below1 w4 (.cells #[.int .i64 V.t, .int .i64 V.v, .int .i64 V.r, .slice a2 V.l.length cc] 26)))
              have HX := hideIt (own_keep HW.out (below1 w4 (.cells #[.int .i64 V.t, .int .i64 V.v, .int .i64 V.r, .slice a2 V.l.length cc] 26)))
              have zc0 : (w4.alloc (.cells #[.int .i64 V.t, .int .i64 V.v, .int .i64 V.r, .slice a2 V.l.length cc] 26)).cell? ⟨w.heap.size + 1, 0, none⟩ = some (.int .i64 0) := by rw [cell_at T3.out.res]; rfl
              have zc1 : (w4.alloc (.cells #[.int .i64 V.t, .int .i64 V.v, .int .i64 V.r, .slice a2 V.l.length cc] 26)).cell? ⟨w.heap.size + 1, 1, none⟩ = some (.int .i64 0) := by rw [cell_at T3.out.res]; rfl
              have zc2 : (w4.alloc (.cells #[.int .i64 V.t, .int .i64 V.v, .int .i64 V.r, .slice a2 V.l.length cc] 26)).cell? ⟨w.heap.size + 1, 2, none⟩ = some (.int .i64 0) := by rw [cell_at T3.out.res]; rfl
              have zc3 : (w4.alloc (.cells #[.int .i64 V.t, .int .i64 V.v, .int .i64 V.r, .slice a2 V.l.length cc] 26)).cell? ⟨w.heap.size + 1, 3, none⟩ = some (.slice none 0 0) := by rw [cell_at T3.out.res]; rfl
              have zf : ∀ j, (w4.alloc (.cells #[.int .i64 V.t, .int .i64 V.v, .int .i64 V.r, .slice a2 V.l.length cc] 26)).frozen? ⟨w.heap.size + 1, j, none⟩ = false := fun j => free_at T3.out.res j
              have HF := fin4 (w := w) (.int .i64 V.t) (.int .i64 V.v) (.int .i64 V.r) (.slice a2 V.l.length cc) T3.out.res (by omega) T3.out.bel
              have HG := own4 (R := w.heap.size + 1) (.int .i64 V.t) (.int .i64 V.v) (.int .i64 V.r) (.slice a2 V.l.length cc) HX.out hs.out w.heap.size (by have := hs.out; omega)
              clear T2 T3 HW HX hs
              go_wp2
              obtain ⟨e1, e2⟩ := HF.out
              have e3 := HG.out
              revert e1 e2 e3
              generalize (World.setCell _ ⟨w.heap.size + 1, 3, none⟩ _) = W
              intro e1 e2 e3
              exact bodyPost_ret (v := .tuple #[balV V (.slice a2 V.l.length cc), .int .i64 0]) (by simp [results, Try.results22, go_sem, cell_at e1, balV]) rfl ⟨_, rfl, e3, e2⟩
end Go.Proofs.Ytkoecdcbopkkbaa
