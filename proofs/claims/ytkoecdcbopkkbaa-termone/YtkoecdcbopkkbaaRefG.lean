/- The document's own: a ballot that is asked for its vote. -/
import Derived.Test.YtkoecdcbopkkbaaRef
namespace Go.Proofs.Ytkoecdcbopkkbaa
open Go.RowKit
theorem freeB_eq (t v r qf qt : Int) : freeB t v r qf qt = if t = qt ∧ r = 1 ∧ (v = 0 ∨ v = qf) then true else false := by
  by_cases h : t = qt ∧ r = 1 ∧ (v = 0 ∨ v = qf)
  · rw [if_pos h]
    simp [freeB, h]
  · rw [if_neg h]
    simp only [freeB]
    by_cases h1 : t = qt
    · by_cases h2 : r = 1
      · have h3 : ¬ (v = 0 ∨ v = qf) := fun h3 => h ⟨h1, h2, h3⟩
        have h4 : v ≠ 0 := fun e => h3 (.inl e)
        have h5 : v ≠ qf := fun e => h3 (.inr e)
        simp [h4, h5]
      · simp [h2]
    · simp [h1]
set_option maxHeartbeats 8000000 in
set_option maxRecDepth 100000 in
theorem rgrant_is (b : Bal) (g : Value) (qf qt qi qm li lm : Int) (w : World) (h : GotAt w g b.l) : Calls Try.prog 18 #[balV b g, .agg #[.int .i64 qf, .int .i64 qt, .int .i64 qi, .int .i64 qm], .agg #[.int .i64 li, .int .i64 lm]] w (BalOk w.heap.size w (grantL b qf qt qi qm li lm)) := by
  have F0 := hideIt (Four.start w b g qf qt qi qm li lm)
  have HM := hideIt (rmay_is b g _ (h.keep F0.out.bel))
  have N1 := hideIt (fun W => rwithin_is qf 1 7 W)
  have N2 := hideIt (fun W => rwithin_is qt 1 1000000 W)
  have N3 := hideIt (fun W => rMark_is qi qm W)
  have N4 := hideIt (fun W => rMark_is li lm W)
  have HH := hideIt (fun W hW => heard_is b g qt W (h.keep hW))
  have HL := hideIt (fun W => rless_is qi qm li lm W)
  clear h
  obtain ⟨A, hA⟩ : ∃ A, grantL b qf qt qi qm li lm = A := ⟨_, rfl⟩
  rw [hA]
  unfold grantL at hA
  generalize hearL b qt = V at *
  obtain ⟨t, v, r, l⟩ := b
  unfold balV at HM HH ⊢
  simp only at hA F0 HM HH ⊢
  cases hm : mayB ⟨t, v, r, l⟩
  · rw [hm] at HM hA
    rw [if_pos rfl] at hA
    subst hA
    go_enter Try.func18, Try.ntmps18
    go_wp2_with fail
    refine HM.out.mono ?_
    rintro e w1 ⟨rfl, hb⟩
    dsimp only
    have F1 := hideIt (F0.out.keep hb)
    clear hb F0 HM
    have bc0 : w1.cell? ⟨w.heap.size, 0, none⟩ = some (.int .i64 t) := by rw [cell_at F1.out.box]; rfl
    have bc1 : w1.cell? ⟨w.heap.size, 1, none⟩ = some (.int .i64 v) := by rw [cell_at F1.out.box]; rfl
    have bc2 : w1.cell? ⟨w.heap.size, 2, none⟩ = some (.int .i64 r) := by rw [cell_at F1.out.box]; rfl
    have bc3 : w1.cell? ⟨w.heap.size, 3, none⟩ = some (g) := by rw [cell_at F1.out.box]; rfl
    have bf : ∀ j, w1.frozen? ⟨w.heap.size, j, none⟩ = false := fun j => free_at F1.out.box j
    have kc0 : w1.cell? ⟨w.heap.size + 1, 0, none⟩ = some (.int .i64 qf) := by rw [cell_at F1.out.q]; rfl
    have kc1 : w1.cell? ⟨w.heap.size + 1, 1, none⟩ = some (.int .i64 qt) := by rw [cell_at F1.out.q]; rfl
    have kc2 : w1.cell? ⟨w.heap.size + 1, 2, none⟩ = some (.int .i64 qi) := by rw [cell_at F1.out.q]; rfl
    have kc3 : w1.cell? ⟨w.heap.size + 1, 3, none⟩ = some (.int .i64 qm) := by rw [cell_at F1.out.q]; rfl
    have kf : ∀ j, w1.frozen? ⟨w.heap.size + 1, j, none⟩ = false := fun j => free_at F1.out.q j
    have lc0 : w1.cell? ⟨w.heap.size + 2, 0, none⟩ = some (.int .i64 li) := by rw [cell_at F1.out.last]; rfl
    have lc1 : w1.cell? ⟨w.heap.size + 2, 1, none⟩ = some (.int .i64 lm) := by rw [cell_at F1.out.last]; rfl
    have zc0 : w1.cell? ⟨w.heap.size + 3, 0, none⟩ = some (.int .i64 0) := by rw [cell_at F1.out.res]; rfl
    have zc1 : w1.cell? ⟨w.heap.size + 3, 1, none⟩ = some (.int .i64 0) := by rw [cell_at F1.out.res]; rfl
    have zc2 : w1.cell? ⟨w.heap.size + 3, 2, none⟩ = some (.int .i64 0) := by rw [cell_at F1.out.res]; rfl
    have zc3 : w1.cell? ⟨w.heap.size + 3, 3, none⟩ = some (.slice none 0 0) := by rw [cell_at F1.out.res]; rfl
    have zf : ∀ j, w1.frozen? ⟨w.heap.size + 3, j, none⟩ = false := fun j => free_at F1.out.res j
    have HF := fin4 (w := w) (.int .i64 0) (.int .i64 0) (.int .i64 0) (.slice none 0 0) F1.out.res (by omega) F1.out.bel
    clear F1
    go_wp2
    obtain ⟨e1, e2⟩ := HF.out
    revert e1 e2
    generalize (World.setCell _ ⟨w.heap.size + 3, 3, none⟩ _) = W
    intro e1 e2
    exact bodyPost_ret (v := .tuple #[balV zB (.slice none 0 0), .bool false, .int .i64 70]) (by simp [results, Try.results18, go_sem, cell_at e1, balV, zB]) rfl ⟨_, rfl, ⟨rfl, .inl ⟨rfl, rfl⟩⟩, e2⟩
  · rw [hm] at HM hA
    rw [if_neg (by simp)] at hA
    clear hm
    unfold askB at hA
    cases h1 : wiB qf 1 7
    · rw [h1] at N1 hA
      rw [if_pos (by simp)] at hA
      subst hA
      go_enter Try.func18, Try.ntmps18
      go_wp2_with fail
      refine HM.out.mono ?_
      rintro e w1 ⟨rfl, hb⟩
      dsimp only
      have F1 := hideIt (F0.out.keep hb)
      clear hb F0 HM
      have bc0 : w1.cell? ⟨w.heap.size, 0, none⟩ = some (.int .i64 t) := by rw [cell_at F1.out.box]; rfl
      have bc1 : w1.cell? ⟨w.heap.size, 1, none⟩ = some (.int .i64 v) := by rw [cell_at F1.out.box]; rfl
      have bc2 : w1.cell? ⟨w.heap.size, 2, none⟩ = some (.int .i64 r) := by rw [cell_at F1.out.box]; rfl
      have bc3 : w1.cell? ⟨w.heap.size, 3, none⟩ = some (g) := by rw [cell_at F1.out.box]; rfl
      have bf : ∀ j, w1.frozen? ⟨w.heap.size, j, none⟩ = false := fun j => free_at F1.out.box j
      have kc0 : w1.cell? ⟨w.heap.size + 1, 0, none⟩ = some (.int .i64 qf) := by rw [cell_at F1.out.q]; rfl
      have kc1 : w1.cell? ⟨w.heap.size + 1, 1, none⟩ = some (.int .i64 qt) := by rw [cell_at F1.out.q]; rfl
      have kc2 : w1.cell? ⟨w.heap.size + 1, 2, none⟩ = some (.int .i64 qi) := by rw [cell_at F1.out.q]; rfl
      have kc3 : w1.cell? ⟨w.heap.size + 1, 3, none⟩ = some (.int .i64 qm) := by rw [cell_at F1.out.q]; rfl
      have kf : ∀ j, w1.frozen? ⟨w.heap.size + 1, j, none⟩ = false := fun j => free_at F1.out.q j
      have lc0 : w1.cell? ⟨w.heap.size + 2, 0, none⟩ = some (.int .i64 li) := by rw [cell_at F1.out.last]; rfl
      have lc1 : w1.cell? ⟨w.heap.size + 2, 1, none⟩ = some (.int .i64 lm) := by rw [cell_at F1.out.last]; rfl
      have zc0 : w1.cell? ⟨w.heap.size + 3, 0, none⟩ = some (.int .i64 0) := by rw [cell_at F1.out.res]; rfl
      have zc1 : w1.cell? ⟨w.heap.size + 3, 1, none⟩ = some (.int .i64 0) := by rw [cell_at F1.out.res]; rfl
      have zc2 : w1.cell? ⟨w.heap.size + 3, 2, none⟩ = some (.int .i64 0) := by rw [cell_at F1.out.res]; rfl
      have zc3 : w1.cell? ⟨w.heap.size + 3, 3, none⟩ = some (.slice none 0 0) := by rw [cell_at F1.out.res]; rfl
      have zf : ∀ j, w1.frozen? ⟨w.heap.size + 3, j, none⟩ = false := fun j => free_at F1.out.res j
      go_wp2_with fail
      refine (N1.out _).mono ?_
      rintro e w2 ⟨rfl, rfl⟩
      dsimp only
      have HF := fin4 (w := w) (.int .i64 0) (.int .i64 0) (.int .i64 0) (.slice none 0 0) F1.out.res (by omega) F1.out.bel
      clear F1
      go_wp2
      obtain ⟨e1, e2⟩ := HF.out
      revert e1 e2
      generalize (World.setCell _ ⟨w.heap.size + 3, 3, none⟩ _) = W
      intro e1 e2
      exact bodyPost_ret (v := .tuple #[balV zB (.slice none 0 0), .bool false, .int .i64 1]) (by simp [results, Try.results18, go_sem, cell_at e1, balV, zB]) rfl ⟨_, rfl, ⟨rfl, .inl ⟨rfl, rfl⟩⟩, e2⟩
    · cases h2 : wiB qt 1 1000000
      · rw [h1] at N1
        rw [h1, h2] at hA
        rw [h2] at N2
        rw [if_pos (by simp)] at hA
        subst hA
        go_enter Try.func18, Try.ntmps18
        go_wp2_with fail
        refine HM.out.mono ?_
        rintro e w1 ⟨rfl, hb⟩
        dsimp only
        have F1 := hideIt (F0.out.keep hb)
        clear hb F0 HM
        have bc0 : w1.cell? ⟨w.heap.size, 0, none⟩ = some (.int .i64 t) := by rw [cell_at F1.out.box]; rfl
        have bc1 : w1.cell? ⟨w.heap.size, 1, none⟩ = some (.int .i64 v) := by rw [cell_at F1.out.box]; rfl
        have bc2 : w1.cell? ⟨w.heap.size, 2, none⟩ = some (.int .i64 r) := by rw [cell_at F1.out.box]; rfl
        have bc3 : w1.cell? ⟨w.heap.size, 3, none⟩ = some (g) := by rw [cell_at F1.out.box]; rfl
        have bf : ∀ j, w1.frozen? ⟨w.heap.size, j, none⟩ = false := fun j => free_at F1.out.box j
        have kc0 : w1.cell? ⟨w.heap.size + 1, 0, none⟩ = some (.int .i64 qf) := by rw [cell_at F1.out.q]; rfl
        have kc1 : w1.cell? ⟨w.heap.size + 1, 1, none⟩ = some (.int .i64 qt) := by rw [cell_at F1.out.q]; rfl
        have kc2 : w1.cell? ⟨w.heap.size + 1, 2, none⟩ = some (.int .i64 qi) := by rw [cell_at F1.out.q]; rfl
        have kc3 : w1.cell? ⟨w.heap.size + 1, 3, none⟩ = some (.int .i64 qm) := by rw [cell_at F1.out.q]; rfl
        have kf : ∀ j, w1.frozen? ⟨w.heap.size + 1, j, none⟩ = false := fun j => free_at F1.out.q j
        have lc0 : w1.cell? ⟨w.heap.size + 2, 0, none⟩ = some (.int .i64 li) := by rw [cell_at F1.out.last]; rfl
        have lc1 : w1.cell? ⟨w.heap.size + 2, 1, none⟩ = some (.int .i64 lm) := by rw [cell_at F1.out.last]; rfl
        have zc0 : w1.cell? ⟨w.heap.size + 3, 0, none⟩ = some (.int .i64 0) := by rw [cell_at F1.out.res]; rfl
        have zc1 : w1.cell? ⟨w.heap.size + 3, 1, none⟩ = some (.int .i64 0) := by rw [cell_at F1.out.res]; rfl
        have zc2 : w1.cell? ⟨w.heap.size + 3, 2, none⟩ = some (.int .i64 0) := by rw [cell_at F1.out.res]; rfl
        have zc3 : w1.cell? ⟨w.heap.size + 3, 3, none⟩ = some (.slice none 0 0) := by rw [cell_at F1.out.res]; rfl
        have zf : ∀ j, w1.frozen? ⟨w.heap.size + 3, j, none⟩ = false := fun j => free_at F1.out.res j
        go_wp2_with fail
        refine (N1.out _).mono ?_
        rintro e w2 ⟨rfl, rfl⟩
        dsimp only
        go_wp2_with fail
        refine (N2.out _).mono ?_
        rintro e w3 ⟨rfl, rfl⟩
        dsimp only
        have HF := fin4 (w := w) (.int .i64 0) (.int .i64 0) (.int .i64 0) (.slice none 0 0) F1.out.res (by omega) F1.out.bel
        clear F1
        go_wp2
        obtain ⟨e1, e2⟩ := HF.out
        revert e1 e2
        generalize (World.setCell _ ⟨w.heap.size + 3, 3, none⟩ _) = W
        intro e1 e2
        exact bodyPost_ret (v := .tuple #[balV zB (.slice none 0 0), .bool false, .int .i64 1]) (by simp [results, Try.results18, go_sem, cell_at e1, balV, zB]) rfl ⟨_, rfl, ⟨rfl, .inl ⟨rfl, rfl⟩⟩, e2⟩
      · cases h3 : mkB qi qm
        · rw [h1] at N1
          rw [h2] at N2
          rw [h3] at N3
          rw [h1, h2, h3] at hA
          rw [if_pos (by simp)] at hA
          subst hA
          clear h1 h2 h3
          go_enter Try.func18, Try.ntmps18
          go_wp2_with fail
          refine HM.out.mono ?_
          rintro e w1 ⟨rfl, hb⟩
          dsimp only
          have F1 := hideIt (F0.out.keep hb)
          clear hb F0 HM
          have bc0 : w1.cell? ⟨w.heap.size, 0, none⟩ = some (.int .i64 t) := by rw [cell_at F1.out.box]; rfl
          have bc1 : w1.cell? ⟨w.heap.size, 1, none⟩ = some (.int .i64 v) := by rw [cell_at F1.out.box]; rfl
          have bc2 : w1.cell? ⟨w.heap.size, 2, none⟩ = some (.int .i64 r) := by rw [cell_at F1.out.box]; rfl
          have bc3 : w1.cell? ⟨w.heap.size, 3, none⟩ = some (g) := by rw [cell_at F1.out.box]; rfl
          have bf : ∀ j, w1.frozen? ⟨w.heap.size, j, none⟩ = false := fun j => free_at F1.out.box j
          have kc0 : w1.cell? ⟨w.heap.size + 1, 0, none⟩ = some (.int .i64 qf) := by rw [cell_at F1.out.q]; rfl
          have kc1 : w1.cell? ⟨w.heap.size + 1, 1, none⟩ = some (.int .i64 qt) := by rw [cell_at F1.out.q]; rfl
          have kc2 : w1.cell? ⟨w.heap.size + 1, 2, none⟩ = some (.int .i64 qi) := by rw [cell_at F1.out.q]; rfl
          have kc3 : w1.cell? ⟨w.heap.size + 1, 3, none⟩ = some (.int .i64 qm) := by rw [cell_at F1.out.q]; rfl
          have kf : ∀ j, w1.frozen? ⟨w.heap.size + 1, j, none⟩ = false := fun j => free_at F1.out.q j
          have lc0 : w1.cell? ⟨w.heap.size + 2, 0, none⟩ = some (.int .i64 li) := by rw [cell_at F1.out.last]; rfl
          have lc1 : w1.cell? ⟨w.heap.size + 2, 1, none⟩ = some (.int .i64 lm) := by rw [cell_at F1.out.last]; rfl
          have zc0 : w1.cell? ⟨w.heap.size + 3, 0, none⟩ = some (.int .i64 0) := by rw [cell_at F1.out.res]; rfl
          have zc1 : w1.cell? ⟨w.heap.size + 3, 1, none⟩ = some (.int .i64 0) := by rw [cell_at F1.out.res]; rfl
          have zc2 : w1.cell? ⟨w.heap.size + 3, 2, none⟩ = some (.int .i64 0) := by rw [cell_at F1.out.res]; rfl
          have zc3 : w1.cell? ⟨w.heap.size + 3, 3, none⟩ = some (.slice none 0 0) := by rw [cell_at F1.out.res]; rfl
          have zf : ∀ j, w1.frozen? ⟨w.heap.size + 3, j, none⟩ = false := fun j => free_at F1.out.res j
          go_wp2_with fail
          refine (N1.out _).mono ?_
          rintro e w2 ⟨rfl, rfl⟩
          dsimp only
          go_wp2_with fail
          refine (N2.out _).mono ?_
          rintro e w3 ⟨rfl, rfl⟩
          dsimp only
          go_wp2_with fail
          refine (N3.out _).mono ?_
          rintro e w4 ⟨rfl, hb⟩
          dsimp only
          have F2 := hideIt (F1.out.keep hb)
          clear hb F1 bc0 bc1 bc2 bc3 bf kc0 kc1 kc2 kc3 kf lc0 lc1 zc0 zc1 zc2 zc3 zf
          have bc0 : w4.cell? ⟨w.heap.size, 0, none⟩ = some (.int .i64 t) := by rw [cell_at F2.out.box]; rfl
          have bc1 : w4.cell? ⟨w.heap.size, 1, none⟩ = some (.int .i64 v) := by rw [cell_at F2.out.box]; rfl
          have bc2 : w4.cell? ⟨w.heap.size, 2, none⟩ = some (.int .i64 r) := by rw [cell_at F2.out.box]; rfl
          have bc3 : w4.cell? ⟨w.heap.size, 3, none⟩ = some (g) := by rw [cell_at F2.out.box]; rfl
          have bf : ∀ j, w4.frozen? ⟨w.heap.size, j, none⟩ = false := fun j => free_at F2.out.box j
          have kc0 : w4.cell? ⟨w.heap.size + 1, 0, none⟩ = some (.int .i64 qf) := by rw [cell_at F2.out.q]; rfl
          have kc1 : w4.cell? ⟨w.heap.size + 1, 1, none⟩ = some (.int .i64 qt) := by rw [cell_at F2.out.q]; rfl
          have kc2 : w4.cell? ⟨w.heap.size + 1, 2, none⟩ = some (.int .i64 qi) := by rw [cell_at F2.out.q]; rfl
          have kc3 : w4.cell? ⟨w.heap.size + 1, 3, none⟩ = some (.int .i64 qm) := by rw [cell_at F2.out.q]; rfl
          have kf : ∀ j, w4.frozen? ⟨w.heap.size + 1, j, none⟩ = false := fun j => free_at F2.out.q j
          have lc0 : w4.cell? ⟨w.heap.size + 2, 0, none⟩ = some (.int .i64 li) := by rw [cell_at F2.out.last]; rfl
          have lc1 : w4.cell? ⟨w.heap.size + 2, 1, none⟩ = some (.int .i64 lm) := by rw [cell_at F2.out.last]; rfl
          have zc0 : w4.cell? ⟨w.heap.size + 3, 0, none⟩ = some (.int .i64 0) := by rw [cell_at F2.out.res]; rfl
          have zc1 : w4.cell? ⟨w.heap.size + 3, 1, none⟩ = some (.int .i64 0) := by rw [cell_at F2.out.res]; rfl
          have zc2 : w4.cell? ⟨w.heap.size + 3, 2, none⟩ = some (.int .i64 0) := by rw [cell_at F2.out.res]; rfl
          have zc3 : w4.cell? ⟨w.heap.size + 3, 3, none⟩ = some (.slice none 0 0) := by rw [cell_at F2.out.res]; rfl
          have zf : ∀ j, w4.frozen? ⟨w.heap.size + 3, j, none⟩ = false := fun j => free_at F2.out.res j
          have HF := fin4 (w := w) (.int .i64 0) (.int .i64 0) (.int .i64 0) (.slice none 0 0) F2.out.res (by omega) F2.out.bel
          clear F2
          go_wp2
          obtain ⟨e1, e2⟩ := HF.out
          revert e1 e2
          generalize (World.setCell _ ⟨w.heap.size + 3, 3, none⟩ _) = W
          intro e1 e2
          exact bodyPost_ret (v := .tuple #[balV zB (.slice none 0 0), .bool false, .int .i64 1]) (by simp [results, Try.results18, go_sem, cell_at e1, balV, zB]) rfl ⟨_, rfl, ⟨rfl, .inl ⟨rfl, rfl⟩⟩, e2⟩
        · cases h4 : mkB li lm
          · rw [h1] at N1
            rw [h2] at N2
            rw [h3] at N3
            rw [h4] at N4
            rw [h1, h2, h3, h4] at hA
            rw [if_pos (by simp)] at hA
            subst hA
            clear h1 h2 h3 h4
            go_enter Try.func18, Try.ntmps18
            go_wp2_with fail
            refine HM.out.mono ?_
            rintro e w1 ⟨rfl, hb⟩
            dsimp only
            have F1 := hideIt (F0.out.keep hb)
            clear hb F0 HM
            have bc0 : w1.cell? ⟨w.heap.size, 0, none⟩ = some (.int .i64 t) := by rw [cell_at F1.out.box]; rfl
            have bc1 : w1.cell? ⟨w.heap.size, 1, none⟩ = some (.int .i64 v) := by rw [cell_at F1.out.box]; rfl
            have bc2 : w1.cell? ⟨w.heap.size, 2, none⟩ = some (.int .i64 r) := by rw [cell_at F1.out.box]; rfl
            have bc3 : w1.cell? ⟨w.heap.size, 3, none⟩ = some (g) := by rw [cell_at F1.out.box]; rfl
            have bf : ∀ j, w1.frozen? ⟨w.heap.size, j, none⟩ = false := fun j => free_at F1.out.box j
            have kc0 : w1.cell? ⟨w.heap.size + 1, 0, none⟩ = some (.int .i64 qf) := by rw [cell_at F1.out.q]; rfl
            have kc1 : w1.cell? ⟨w.heap.size + 1, 1, none⟩ = some (.int .i64 qt) := by rw [cell_at F1.out.q]; rfl
            have kc2 : w1.cell? ⟨w.heap.size + 1, 2, none⟩ = some (.int .i64 qi) := by rw [cell_at F1.out.q]; rfl
            have kc3 : w1.cell? ⟨w.heap.size + 1, 3, none⟩ = some (.int .i64 qm) := by rw [cell_at F1.out.q]; rfl
            have kf : ∀ j, w1.frozen? ⟨w.heap.size + 1, j, none⟩ = false := fun j => free_at F1.out.q j
            have lc0 : w1.cell? ⟨w.heap.size + 2, 0, none⟩ = some (.int .i64 li) := by rw [cell_at F1.out.last]; rfl
            have lc1 : w1.cell? ⟨w.heap.size + 2, 1, none⟩ = some (.int .i64 lm) := by rw [cell_at F1.out.last]; rfl
            have zc0 : w1.cell? ⟨w.heap.size + 3, 0, none⟩ = some (.int .i64 0) := by rw [cell_at F1.out.res]; rfl
            have zc1 : w1.cell? ⟨w.heap.size + 3, 1, none⟩ = some (.int .i64 0) := by rw [cell_at F1.out.res]; rfl
            have zc2 : w1.cell? ⟨w.heap.size + 3, 2, none⟩ = some (.int .i64 0) := by rw [cell_at F1.out.res]; rfl
            have zc3 : w1.cell? ⟨w.heap.size + 3, 3, none⟩ = some (.slice none 0 0) := by rw [cell_at F1.out.res]; rfl
            have zf : ∀ j, w1.frozen? ⟨w.heap.size + 3, j, none⟩ = false := fun j => free_at F1.out.res j
            go_wp2_with fail
            refine (N1.out _).mono ?_
            rintro e w2 ⟨rfl, rfl⟩
            dsimp only
            go_wp2_with fail
            refine (N2.out _).mono ?_
            rintro e w3 ⟨rfl, rfl⟩
            dsimp only
            go_wp2_with fail
            refine (N3.out _).mono ?_
            rintro e w4 ⟨rfl, hb⟩
            dsimp only
            have F2 := hideIt (F1.out.keep hb)
            clear hb F1 bc0 bc1 bc2 bc3 bf kc0 kc1 kc2 kc3 kf lc0 lc1 zc0 zc1 zc2 zc3 zf
            have bc0 : w4.cell? ⟨w.heap.size, 0, none⟩ = some (.int .i64 t) := by rw [cell_at F2.out.box]; rfl
            have bc1 : w4.cell? ⟨w.heap.size, 1, none⟩ = some (.int .i64 v) := by rw [cell_at F2.out.box]; rfl
            have bc2 : w4.cell? ⟨w.heap.size, 2, none⟩ = some (.int .i64 r) := by rw [cell_at F2.out.box]; rfl
            have bc3 : w4.cell? ⟨w.heap.size, 3, none⟩ = some (g) := by rw [cell_at F2.out.box]; rfl
            have bf : ∀ j, w4.frozen? ⟨w.heap.size, j, none⟩ = false := fun j => free_at F2.out.box j
            have kc0 : w4.cell? ⟨w.heap.size + 1, 0, none⟩ = some (.int .i64 qf) := by rw [cell_at F2.out.q]; rfl
            have kc1 : w4.cell? ⟨w.heap.size + 1, 1, none⟩ = some (.int .i64 qt) := by rw [cell_at F2.out.q]; rfl
            have kc2 : w4.cell? ⟨w.heap.size + 1, 2, none⟩ = some (.int .i64 qi) := by rw [cell_at F2.out.q]; rfl
            have kc3 : w4.cell? ⟨w.heap.size + 1, 3, none⟩ = some (.int .i64 qm) := by rw [cell_at F2.out.q]; rfl
            have kf : ∀ j, w4.frozen? ⟨w.heap.size + 1, j, none⟩ = false := fun j => free_at F2.out.q j
            have lc0 : w4.cell? ⟨w.heap.size + 2, 0, none⟩ = some (.int .i64 li) := by rw [cell_at F2.out.last]; rfl
            have lc1 : w4.cell? ⟨w.heap.size + 2, 1, none⟩ = some (.int .i64 lm) := by rw [cell_at F2.out.last]; rfl
            have zc0 : w4.cell? ⟨w.heap.size + 3, 0, none⟩ = some (.int .i64 0) := by rw [cell_at F2.out.res]; rfl
            have zc1 : w4.cell? ⟨w.heap.size + 3, 1, none⟩ = some (.int .i64 0) := by rw [cell_at F2.out.res]; rfl
            have zc2 : w4.cell? ⟨w.heap.size + 3, 2, none⟩ = some (.int .i64 0) := by rw [cell_at F2.out.res]; rfl
            have zc3 : w4.cell? ⟨w.heap.size + 3, 3, none⟩ = some (.slice none 0 0) := by rw [cell_at F2.out.res]; rfl
            have zf : ∀ j, w4.frozen? ⟨w.heap.size + 3, j, none⟩ = false := fun j => free_at F2.out.res j
            go_wp2_with fail
            refine (N4.out _).mono ?_
            rintro e w5 ⟨rfl, hb⟩
            dsimp only
            have F3 := hideIt (F2.out.keep hb)
            clear hb F2 bc0 bc1 bc2 bc3 bf kc0 kc1 kc2 kc3 kf lc0 lc1 zc0 zc1 zc2 zc3 zf
            have bc0 : w5.cell? ⟨w.heap.size, 0, none⟩ = some (.int .i64 t) := by rw [cell_at F3.out.box]; rfl
            have bc1 : w5.cell? ⟨w.heap.size, 1, none⟩ = some (.int .i64 v) := by rw [cell_at F3.out.box]; rfl
            have bc2 : w5.cell? ⟨w.heap.size, 2, none⟩ = some (.int .i64 r) := by rw [cell_at F3.out.box]; rfl
            have bc3 : w5.cell? ⟨w.heap.size, 3, none⟩ = some (g) := by rw [cell_at F3.out.box]; rfl
            have bf : ∀ j, w5.frozen? ⟨w.heap.size, j, none⟩ = false := fun j => free_at F3.out.box j
            have kc0 : w5.cell? ⟨w.heap.size + 1, 0, none⟩ = some (.int .i64 qf) := by rw [cell_at F3.out.q]; rfl
            have kc1 : w5.cell? ⟨w.heap.size + 1, 1, none⟩ = some (.int .i64 qt) := by rw [cell_at F3.out.q]; rfl
            have kc2 : w5.cell? ⟨w.heap.size + 1, 2, none⟩ = some (.int .i64 qi) := by rw [cell_at F3.out.q]; rfl
            have kc3 : w5.cell? ⟨w.heap.size + 1, 3, none⟩ = some (.int .i64 qm) := by rw [cell_at F3.out.q]; rfl
            have kf : ∀ j, w5.frozen? ⟨w.heap.size + 1, j, none⟩ = false := fun j => free_at F3.out.q j
            have lc0 : w5.cell? ⟨w.heap.size + 2, 0, none⟩ = some (.int .i64 li) := by rw [cell_at F3.out.last]; rfl
            have lc1 : w5.cell? ⟨w.heap.size + 2, 1, none⟩ = some (.int .i64 lm) := by rw [cell_at F3.out.last]; rfl
            have zc0 : w5.cell? ⟨w.heap.size + 3, 0, none⟩ = some (.int .i64 0) := by rw [cell_at F3.out.res]; rfl
            have zc1 : w5.cell? ⟨w.heap.size + 3, 1, none⟩ = some (.int .i64 0) := by rw [cell_at F3.out.res]; rfl
            have zc2 : w5.cell? ⟨w.heap.size + 3, 2, none⟩ = some (.int .i64 0) := by rw [cell_at F3.out.res]; rfl
            have zc3 : w5.cell? ⟨w.heap.size + 3, 3, none⟩ = some (.slice none 0 0) := by rw [cell_at F3.out.res]; rfl
            have zf : ∀ j, w5.frozen? ⟨w.heap.size + 3, j, none⟩ = false := fun j => free_at F3.out.res j
            have HF := fin4 (w := w) (.int .i64 0) (.int .i64 0) (.int .i64 0) (.slice none 0 0) F3.out.res (by omega) F3.out.bel
            clear F3
            go_wp2
            obtain ⟨e1, e2⟩ := HF.out
            revert e1 e2
            generalize (World.setCell _ ⟨w.heap.size + 3, 3, none⟩ _) = W
            intro e1 e2
            exact bodyPost_ret (v := .tuple #[balV zB (.slice none 0 0), .bool false, .int .i64 1]) (by simp [results, Try.results18, go_sem, cell_at e1, balV, zB]) rfl ⟨_, rfl, ⟨rfl, .inl ⟨rfl, rfl⟩⟩, e2⟩
          · rw [h1] at N1
            rw [h2] at N2
            rw [h3] at N3
            rw [h4] at N4
            rw [h1, h2, h3, h4] at hA
            rw [if_neg (by simp)] at hA
            clear h1 h2 h3 h4
            unfold grantC at hA
            by_cases c1 : V.t = qt
            · by_cases c2 : V.r = 1
              · by_cases c3 : V.v = 0
                · rw [show freeB V.t V.v V.r qf qt = true by rw [freeB_eq]; exact if_pos ⟨c1, c2, .inl c3⟩] at hA
                  have c1b : (V.t != qt) = false := by simp [c1]
                  have c2b : (V.r != 1) = false := by simp [c2]
                  have c3b : (V.v != 0) = false := by simp [c3]
                  clear c1 c2 c3
                  cases hl : lessB qi qm li lm
                  · rw [hl] at HL hA
                    rw [if_pos (by simp)] at hA
                    subst hA
                    clear hl
                    go_enter Try.func18, Try.ntmps18
                    go_wp2_with fail
                    refine HM.out.mono ?_
                    rintro e w1 ⟨rfl, hb⟩
                    dsimp only
                    have F1 := hideIt (F0.out.keep hb)
                    clear hb F0 HM
                    have bc0 : w1.cell? ⟨w.heap.size, 0, none⟩ = some (.int .i64 t) := by rw [cell_at F1.out.box]; rfl
                    have bc1 : w1.cell? ⟨w.heap.size, 1, none⟩ = some (.int .i64 v) := by rw [cell_at F1.out.box]; rfl
                    have bc2 : w1.cell? ⟨w.heap.size, 2, none⟩ = some (.int .i64 r) := by rw [cell_at F1.out.box]; rfl
                    have bc3 : w1.cell? ⟨w.heap.size, 3, none⟩ = some (g) := by rw [cell_at F1.out.box]; rfl
                    have bf : ∀ j, w1.frozen? ⟨w.heap.size, j, none⟩ = false := fun j => free_at F1.out.box j
                    have kc0 : w1.cell? ⟨w.heap.size + 1, 0, none⟩ = some (.int .i64 qf) := by rw [cell_at F1.out.q]; rfl
                    have kc1 : w1.cell? ⟨w.heap.size + 1, 1, none⟩ = some (.int .i64 qt) := by rw [cell_at F1.out.q]; rfl
                    have kc2 : w1.cell? ⟨w.heap.size + 1, 2, none⟩ = some (.int .i64 qi) := by rw [cell_at F1.out.q]; rfl
                    have kc3 : w1.cell? ⟨w.heap.size + 1, 3, none⟩ = some (.int .i64 qm) := by rw [cell_at F1.out.q]; rfl
                    have kf : ∀ j, w1.frozen? ⟨w.heap.size + 1, j, none⟩ = false := fun j => free_at F1.out.q j
                    have lc0 : w1.cell? ⟨w.heap.size + 2, 0, none⟩ = some (.int .i64 li) := by rw [cell_at F1.out.last]; rfl
                    have lc1 : w1.cell? ⟨w.heap.size + 2, 1, none⟩ = some (.int .i64 lm) := by rw [cell_at F1.out.last]; rfl
                    have zc0 : w1.cell? ⟨w.heap.size + 3, 0, none⟩ = some (.int .i64 0) := by rw [cell_at F1.out.res]; rfl
                    have zc1 : w1.cell? ⟨w.heap.size + 3, 1, none⟩ = some (.int .i64 0) := by rw [cell_at F1.out.res]; rfl
                    have zc2 : w1.cell? ⟨w.heap.size + 3, 2, none⟩ = some (.int .i64 0) := by rw [cell_at F1.out.res]; rfl
                    have zc3 : w1.cell? ⟨w.heap.size + 3, 3, none⟩ = some (.slice none 0 0) := by rw [cell_at F1.out.res]; rfl
                    have zf : ∀ j, w1.frozen? ⟨w.heap.size + 3, j, none⟩ = false := fun j => free_at F1.out.res j
                    go_wp2_with fail
                    refine (N1.out _).mono ?_
                    rintro e w2 ⟨rfl, rfl⟩
                    dsimp only
                    go_wp2_with fail
                    refine (N2.out _).mono ?_
                    rintro e w3 ⟨rfl, rfl⟩
                    dsimp only
                    go_wp2_with fail
                    refine (N3.out _).mono ?_
                    rintro e w4 ⟨rfl, hb⟩
                    dsimp only
                    have F2 := hideIt (F1.out.keep hb)
                    clear hb F1 bc0 bc1 bc2 bc3 bf kc0 kc1 kc2 kc3 kf lc0 lc1 zc0 zc1 zc2 zc3 zf
                    have bc0 : w4.cell? ⟨w.heap.size, 0, none⟩ = some (.int .i64 t) := by rw [cell_at F2.out.box]; rfl
                    have bc1 : w4.cell? ⟨w.heap.size, 1, none⟩ = some (.int .i64 v) := by rw [cell_at F2.out.box]; rfl
                    have bc2 : w4.cell? ⟨w.heap.size, 2, none⟩ = some (.int .i64 r) := by rw [cell_at F2.out.box]; rfl
                    have bc3 : w4.cell? ⟨w.heap.size, 3, none⟩ = some (g) := by rw [cell_at F2.out.box]; rfl
                    have bf : ∀ j, w4.frozen? ⟨w.heap.size, j, none⟩ = false := fun j => free_at F2.out.box j
                    have kc0 : w4.cell? ⟨w.heap.size + 1, 0, none⟩ = some (.int .i64 qf) := by rw [cell_at F2.out.q]; rfl
                    have kc1 : w4.cell? ⟨w.heap.size + 1, 1, none⟩ = some (.int .i64 qt) := by rw [cell_at F2.out.q]; rfl
                    have kc2 : w4.cell? ⟨w.heap.size + 1, 2, none⟩ = some (.int .i64 qi) := by rw [cell_at F2.out.q]; rfl
                    have kc3 : w4.cell? ⟨w.heap.size + 1, 3, none⟩ = some (.int .i64 qm) := by rw [cell_at F2.out.q]; rfl
                    have kf : ∀ j, w4.frozen? ⟨w.heap.size + 1, j, none⟩ = false := fun j => free_at F2.out.q j
                    have lc0 : w4.cell? ⟨w.heap.size + 2, 0, none⟩ = some (.int .i64 li) := by rw [cell_at F2.out.last]; rfl
                    have lc1 : w4.cell? ⟨w.heap.size + 2, 1, none⟩ = some (.int .i64 lm) := by rw [cell_at F2.out.last]; rfl
                    have zc0 : w4.cell? ⟨w.heap.size + 3, 0, none⟩ = some (.int .i64 0) := by rw [cell_at F2.out.res]; rfl
                    have zc1 : w4.cell? ⟨w.heap.size + 3, 1, none⟩ = some (.int .i64 0) := by rw [cell_at F2.out.res]; rfl
                    have zc2 : w4.cell? ⟨w.heap.size + 3, 2, none⟩ = some (.int .i64 0) := by rw [cell_at F2.out.res]; rfl
                    have zc3 : w4.cell? ⟨w.heap.size + 3, 3, none⟩ = some (.slice none 0 0) := by rw [cell_at F2.out.res]; rfl
                    have zf : ∀ j, w4.frozen? ⟨w.heap.size + 3, j, none⟩ = false := fun j => free_at F2.out.res j
                    go_wp2_with fail
                    refine (N4.out _).mono ?_
                    rintro e w5 ⟨rfl, hb⟩
                    dsimp only
                    have F3 := hideIt (F2.out.keep hb)
                    clear hb F2 bc0 bc1 bc2 bc3 bf kc0 kc1 kc2 kc3 kf lc0 lc1 zc0 zc1 zc2 zc3 zf
                    have bc0 : w5.cell? ⟨w.heap.size, 0, none⟩ = some (.int .i64 t) := by rw [cell_at F3.out.box]; rfl
                    have bc1 : w5.cell? ⟨w.heap.size, 1, none⟩ = some (.int .i64 v) := by rw [cell_at F3.out.box]; rfl
                    have bc2 : w5.cell? ⟨w.heap.size, 2, none⟩ = some (.int .i64 r) := by rw [cell_at F3.out.box]; rfl
                    have bc3 : w5.cell? ⟨w.heap.size, 3, none⟩ = some (g) := by rw [cell_at F3.out.box]; rfl
                    have bf : ∀ j, w5.frozen? ⟨w.heap.size, j, none⟩ = false := fun j => free_at F3.out.box j
                    have kc0 : w5.cell? ⟨w.heap.size + 1, 0, none⟩ = some (.int .i64 qf) := by rw [cell_at F3.out.q]; rfl
                    have kc1 : w5.cell? ⟨w.heap.size + 1, 1, none⟩ = some (.int .i64 qt) := by rw [cell_at F3.out.q]; rfl
                    have kc2 : w5.cell? ⟨w.heap.size + 1, 2, none⟩ = some (.int .i64 qi) := by rw [cell_at F3.out.q]; rfl
                    have kc3 : w5.cell? ⟨w.heap.size + 1, 3, none⟩ = some (.int .i64 qm) := by rw [cell_at F3.out.q]; rfl
                    have kf : ∀ j, w5.frozen? ⟨w.heap.size + 1, j, none⟩ = false := fun j => free_at F3.out.q j
                    have lc0 : w5.cell? ⟨w.heap.size + 2, 0, none⟩ = some (.int .i64 li) := by rw [cell_at F3.out.last]; rfl
                    have lc1 : w5.cell? ⟨w.heap.size + 2, 1, none⟩ = some (.int .i64 lm) := by rw [cell_at F3.out.last]; rfl
                    have zc0 : w5.cell? ⟨w.heap.size + 3, 0, none⟩ = some (.int .i64 0) := by rw [cell_at F3.out.res]; rfl
                    have zc1 : w5.cell? ⟨w.heap.size + 3, 1, none⟩ = some (.int .i64 0) := by rw [cell_at F3.out.res]; rfl
                    have zc2 : w5.cell? ⟨w.heap.size + 3, 2, none⟩ = some (.int .i64 0) := by rw [cell_at F3.out.res]; rfl
                    have zc3 : w5.cell? ⟨w.heap.size + 3, 3, none⟩ = some (.slice none 0 0) := by rw [cell_at F3.out.res]; rfl
                    have zf : ∀ j, w5.frozen? ⟨w.heap.size + 3, j, none⟩ = false := fun j => free_at F3.out.res j
                    clear N1 N2 N3 N4
                    go_wp2_with fail
                    refine (HH.out _ F3.out.bel).mono ?_
                    rintro e w6 ⟨g2, rfl, h1, h2⟩
                    dsimp only
                    obtain ⟨a2, cc, rfl⟩ := own_len h1
                    have hs := hideIt F3.out.size
                    have F4 := hideIt ((F3.out.keep h2).keep (below1 w6 (.cells #[.int .i64 V.t, .int .i64 V.v, .int .i64 V.r, .slice a2 V.l.length cc] 26)))
                    have HW := hideIt (own_keep h1 (below1 w6 (.cells #[.int .i64 V.t, .int .i64 V.v, .int .i64 V.r, .slice a2 V.l.length cc] 26)))
                    have hbk : Hid (∀ k, (Value.slice a2 V.l.length cc).ownBlock = some k → k ≠ w6.heap.size) := fun k hk => by have := (own_block h1 hk).1; omega
                    have hs6 : Hid (w.heap.size + 4 ≤ w6.heap.size) := Nat.le_trans hs.out h2.size
                    clear h1 h2 F3 HH bc0 bc1 bc2 bc3 bf kc0 kc1 kc2 kc3 kf lc0 lc1 zc0 zc1 zc2 zc3 zf
                    unfold balV
                    have kc0 : (w6.alloc (.cells #[.int .i64 V.t, .int .i64 V.v, .int .i64 V.r, .slice a2 V.l.length cc] 26)).cell? ⟨w.heap.size + 1, 0, none⟩ = some (.int .i64 qf) := by rw [cell_at F4.out.q]; rfl
                    have kc1 : (w6.alloc (.cells #[.int .i64 V.t, .int .i64 V.v, .int .i64 V.r, .slice a2 V.l.length cc] 26)).cell? ⟨w.heap.size + 1, 1, none⟩ = some (.int .i64 qt) := by rw [cell_at F4.out.q]; rfl
                    have kc2 : (w6.alloc (.cells #[.int .i64 V.t, .int .i64 V.v, .int .i64 V.r, .slice a2 V.l.length cc] 26)).cell? ⟨w.heap.size + 1, 2, none⟩ = some (.int .i64 qi) := by rw [cell_at F4.out.q]; rfl
                    have kc3 : (w6.alloc (.cells #[.int .i64 V.t, .int .i64 V.v, .int .i64 V.r, .slice a2 V.l.length cc] 26)).cell? ⟨w.heap.size + 1, 3, none⟩ = some (.int .i64 qm) := by rw [cell_at F4.out.q]; rfl
                    have kf : ∀ j, (w6.alloc (.cells #[.int .i64 V.t, .int .i64 V.v, .int .i64 V.r, .slice a2 V.l.length cc] 26)).frozen? ⟨w.heap.size + 1, j, none⟩ = false := fun j => free_at F4.out.q j
                    have lc0 : (w6.alloc (.cells #[.int .i64 V.t, .int .i64 V.v, .int .i64 V.r, .slice a2 V.l.length cc] 26)).cell? ⟨w.heap.size + 2, 0, none⟩ = some (.int .i64 li) := by rw [cell_at F4.out.last]; rfl
                    have lc1 : (w6.alloc (.cells #[.int .i64 V.t, .int .i64 V.v, .int .i64 V.r, .slice a2 V.l.length cc] 26)).cell? ⟨w.heap.size + 2, 1, none⟩ = some (.int .i64 lm) := by rw [cell_at F4.out.last]; rfl
                    have ec0 : (w6.alloc (.cells #[.int .i64 V.t, .int .i64 V.v, .int .i64 V.r, .slice a2 V.l.length cc] 26)).cell? ⟨w6.heap.size, 0, none⟩ = some (.int .i64 V.t) := by rw [cell_at (heap_alloc_new w6 _)]; rfl
                    have ec1 : (w6.alloc (.cells #[.int .i64 V.t, .int .i64 V.v, .int .i64 V.r, .slice a2 V.l.length cc] 26)).cell? ⟨w6.heap.size, 1, none⟩ = some (.int .i64 V.v) := by rw [cell_at (heap_alloc_new w6 _)]; rfl
                    have ec2 : (w6.alloc (.cells #[.int .i64 V.t, .int .i64 V.v, .int .i64 V.r, .slice a2 V.l.length cc] 26)).cell? ⟨w6.heap.size, 2, none⟩ = some (.int .i64 V.r) := by rw [cell_at (heap_alloc_new w6 _)]; rfl
                    have ec3 : (w6.alloc (.cells #[.int .i64 V.t, .int .i64 V.v, .int .i64 V.r, .slice a2 V.l.length cc] 26)).cell? ⟨w6.heap.size, 3, none⟩ = some (.slice a2 V.l.length cc) := by rw [cell_at (heap_alloc_new w6 _)]; rfl
                    have ef : ∀ j, (w6.alloc (.cells #[.int .i64 V.t, .int .i64 V.v, .int .i64 V.r, .slice a2 V.l.length cc] 26)).frozen? ⟨w6.heap.size, j, none⟩ = false := fun j => free_at (heap_alloc_new w6 _) j
                    have zc0 : (w6.alloc (.cells #[.int .i64 V.t, .int .i64 V.v, .int .i64 V.r, .slice a2 V.l.length cc] 26)).cell? ⟨w.heap.size + 3, 0, none⟩ = some (.int .i64 0) := by rw [cell_at F4.out.res]; rfl
                    have zc1 : (w6.alloc (.cells #[.int .i64 V.t, .int .i64 V.v, .int .i64 V.r, .slice a2 V.l.length cc] 26)).cell? ⟨w.heap.size + 3, 1, none⟩ = some (.int .i64 0) := by rw [cell_at F4.out.res]; rfl
                    have zc2 : (w6.alloc (.cells #[.int .i64 V.t, .int .i64 V.v, .int .i64 V.r, .slice a2 V.l.length cc] 26)).cell? ⟨w.heap.size + 3, 2, none⟩ = some (.int .i64 0) := by rw [cell_at F4.out.res]; rfl
                    have zc3 : (w6.alloc (.cells #[.int .i64 V.t, .int .i64 V.v, .int .i64 V.r, .slice a2 V.l.length cc] 26)).cell? ⟨w.heap.size + 3, 3, none⟩ = some (.slice none 0 0) := by rw [cell_at F4.out.res]; rfl
                    have zf : ∀ j, (w6.alloc (.cells #[.int .i64 V.t, .int .i64 V.v, .int .i64 V.r, .slice a2 V.l.length cc] 26)).frozen? ⟨w.heap.size + 3, j, none⟩ = false := fun j => free_at F4.out.res j
                    go_wp2_with fail
                    refine (HL.out _).mono ?_
                    rintro e w8 ⟨rfl, hb⟩
                    dsimp only
                    have F6 := hideIt (F4.out.keep hb)
                    have HY2 := hideIt (own_keep HW.out hb)
                    have HE2 := hideIt ((hb.block w6.heap.size (by simp)).trans (heap_alloc_new w6 _))
                    clear hb F4 HW HL kc0 kc1 kc2 kc3 kf lc0 lc1 ec0 ec1 ec2 ec3 ef zc0 zc1 zc2 zc3 zf
                    have ec0 : w8.cell? ⟨w6.heap.size, 0, none⟩ = some (.int .i64 V.t) := by rw [cell_at HE2.out]; rfl
                    have ec1 : w8.cell? ⟨w6.heap.size, 1, none⟩ = some (.int .i64 V.v) := by rw [cell_at HE2.out]; rfl
                    have ec2 : w8.cell? ⟨w6.heap.size, 2, none⟩ = some (.int .i64 V.r) := by rw [cell_at HE2.out]; rfl
                    have ec3 : w8.cell? ⟨w6.heap.size, 3, none⟩ = some (.slice a2 V.l.length cc) := by rw [cell_at HE2.out]; rfl
                    have ef : ∀ j, w8.frozen? ⟨w6.heap.size, j, none⟩ = false := fun j => free_at HE2.out j
                    have kc0 : w8.cell? ⟨w.heap.size + 1, 0, none⟩ = some (.int .i64 qf) := by rw [cell_at F6.out.q]; rfl
                    have kc1 : w8.cell? ⟨w.heap.size + 1, 1, none⟩ = some (.int .i64 qt) := by rw [cell_at F6.out.q]; rfl
                    have kc2 : w8.cell? ⟨w.heap.size + 1, 2, none⟩ = some (.int .i64 qi) := by rw [cell_at F6.out.q]; rfl
                    have kc3 : w8.cell? ⟨w.heap.size + 1, 3, none⟩ = some (.int .i64 qm) := by rw [cell_at F6.out.q]; rfl
                    have kf : ∀ j, w8.frozen? ⟨w.heap.size + 1, j, none⟩ = false := fun j => free_at F6.out.q j
                    have lc0 : w8.cell? ⟨w.heap.size + 2, 0, none⟩ = some (.int .i64 li) := by rw [cell_at F6.out.last]; rfl
                    have lc1 : w8.cell? ⟨w.heap.size + 2, 1, none⟩ = some (.int .i64 lm) := by rw [cell_at F6.out.last]; rfl
                    have zc0 : w8.cell? ⟨w.heap.size + 3, 0, none⟩ = some (.int .i64 0) := by rw [cell_at F6.out.res]; rfl
                    have zc1 : w8.cell? ⟨w.heap.size + 3, 1, none⟩ = some (.int .i64 0) := by rw [cell_at F6.out.res]; rfl
                    have zc2 : w8.cell? ⟨w.heap.size + 3, 2, none⟩ = some (.int .i64 0) := by rw [cell_at F6.out.res]; rfl
                    have zc3 : w8.cell? ⟨w.heap.size + 3, 3, none⟩ = some (.slice none 0 0) := by rw [cell_at F6.out.res]; rfl
                    have zf : ∀ j, w8.frozen? ⟨w.heap.size + 3, j, none⟩ = false := fun j => free_at F6.out.res j
                    have hne : ¬ (w6.heap.size = w.heap.size + 3) := by have := hs6.out; omega
                    have hne2 : ¬ (w.heap.size + 3 = w6.heap.size) := by have := hs6.out; omega
                    have HZ : Hid ((w8.setCell ⟨w6.heap.size, 1, none⟩ (.int .i64 qf)).heap[w.heap.size + 3]? = some (.cells #[.int .i64 0, .int .i64 0, .int .i64 0, .slice none 0 0] 26 (0, 0))) := setOther _ F6.out.res hne2
                    have HF := fin4 (w := w) (.int .i64 V.t) (.int .i64 qf) (.int .i64 V.r) (.slice a2 V.l.length cc) HZ.out (by omega) (belowSet _ F6.out.bel (by have := hs6.out; omega))
                    have HG := own4 (R := w.heap.size + 3) (.int .i64 V.t) (.int .i64 qf) (.int .i64 V.r) (.slice a2 V.l.length cc) (ownOther (b := w6.heap.size) (j := 1) (.int .i64 qf) HY2.out hbk.out) hs.out w.heap.size (by have := hs.out; omega)
                    clear F6 HY2 HE2 hs hs6 hbk HZ
                    go_wp2
                    obtain ⟨e1, e2⟩ := HF.out
                    have e3 := HG.out
                    revert e1 e2 e3
                    generalize (World.setCell _ ⟨w.heap.size + 3, 3, none⟩ _) = W
                    intro e1 e2 e3
                    exact bodyPost_ret (v := .tuple #[balV ⟨V.t, qf, V.r, V.l⟩ (.slice a2 V.l.length cc), .bool true, .int .i64 0]) (by simp [results, Try.results18, go_sem, cell_at e1, balV]) rfl ⟨_, rfl, e3, e2⟩
                  · rw [hl] at HL hA
                    rw [if_neg (by simp)] at hA
                    subst hA
                    clear hl
                    go_enter Try.func18, Try.ntmps18
                    go_wp2_with fail
                    refine HM.out.mono ?_
                    rintro e w1 ⟨rfl, hb⟩
                    dsimp only
                    have F1 := hideIt (F0.out.keep hb)
                    clear hb F0 HM
                    have bc0 : w1.cell? ⟨w.heap.size, 0, none⟩ = some (.int .i64 t) := by rw [cell_at F1.out.box]; rfl
                    have bc1 : w1.cell? ⟨w.heap.size, 1, none⟩ = some (.int .i64 v) := by rw [cell_at F1.out.box]; rfl
                    have bc2 : w1.cell? ⟨w.heap.size, 2, none⟩ = some (.int .i64 r) := by rw [cell_at F1.out.box]; rfl
                    have bc3 : w1.cell? ⟨w.heap.size, 3, none⟩ = some (g) := by rw [cell_at F1.out.box]; rfl
                    have bf : ∀ j, w1.frozen? ⟨w.heap.size, j, none⟩ = false := fun j => free_at F1.out.box j
                    have kc0 : w1.cell? ⟨w.heap.size + 1, 0, none⟩ = some (.int .i64 qf) := by rw [cell_at F1.out.q]; rfl
                    have kc1 : w1.cell? ⟨w.heap.size + 1, 1, none⟩ = some (.int .i64 qt) := by rw [cell_at F1.out.q]; rfl
                    have kc2 : w1.cell? ⟨w.heap.size + 1, 2, none⟩ = some (.int .i64 qi) := by rw [cell_at F1.out.q]; rfl
                    have kc3 : w1.cell? ⟨w.heap.size + 1, 3, none⟩ = some (.int .i64 qm) := by rw [cell_at F1.out.q]; rfl
                    have kf : ∀ j, w1.frozen? ⟨w.heap.size + 1, j, none⟩ = false := fun j => free_at F1.out.q j
                    have lc0 : w1.cell? ⟨w.heap.size + 2, 0, none⟩ = some (.int .i64 li) := by rw [cell_at F1.out.last]; rfl
                    have lc1 : w1.cell? ⟨w.heap.size + 2, 1, none⟩ = some (.int .i64 lm) := by rw [cell_at F1.out.last]; rfl
                    have zc0 : w1.cell? ⟨w.heap.size + 3, 0, none⟩ = some (.int .i64 0) := by rw [cell_at F1.out.res]; rfl
                    have zc1 : w1.cell? ⟨w.heap.size + 3, 1, none⟩ = some (.int .i64 0) := by rw [cell_at F1.out.res]; rfl
                    have zc2 : w1.cell? ⟨w.heap.size + 3, 2, none⟩ = some (.int .i64 0) := by rw [cell_at F1.out.res]; rfl
                    have zc3 : w1.cell? ⟨w.heap.size + 3, 3, none⟩ = some (.slice none 0 0) := by rw [cell_at F1.out.res]; rfl
                    have zf : ∀ j, w1.frozen? ⟨w.heap.size + 3, j, none⟩ = false := fun j => free_at F1.out.res j
                    go_wp2_with fail
                    refine (N1.out _).mono ?_
                    rintro e w2 ⟨rfl, rfl⟩
                    dsimp only
                    go_wp2_with fail
                    refine (N2.out _).mono ?_
                    rintro e w3 ⟨rfl, rfl⟩
                    dsimp only
                    go_wp2_with fail
                    refine (N3.out _).mono ?_
                    rintro e w4 ⟨rfl, hb⟩
                    dsimp only
                    have F2 := hideIt (F1.out.keep hb)
                    clear hb F1 bc0 bc1 bc2 bc3 bf kc0 kc1 kc2 kc3 kf lc0 lc1 zc0 zc1 zc2 zc3 zf
                    have bc0 : w4.cell? ⟨w.heap.size, 0, none⟩ = some (.int .i64 t) := by rw [cell_at F2.out.box]; rfl
                    have bc1 : w4.cell? ⟨w.heap.size, 1, none⟩ = some (.int .i64 v) := by rw [cell_at F2.out.box]; rfl
                    have bc2 : w4.cell? ⟨w.heap.size, 2, none⟩ = some (.int .i64 r) := by rw [cell_at F2.out.box]; rfl
                    have bc3 : w4.cell? ⟨w.heap.size, 3, none⟩ = some (g) := by rw [cell_at F2.out.box]; rfl
                    have bf : ∀ j, w4.frozen? ⟨w.heap.size, j, none⟩ = false := fun j => free_at F2.out.box j
                    have kc0 : w4.cell? ⟨w.heap.size + 1, 0, none⟩ = some (.int .i64 qf) := by rw [cell_at F2.out.q]; rfl
                    have kc1 : w4.cell? ⟨w.heap.size + 1, 1, none⟩ = some (.int .i64 qt) := by rw [cell_at F2.out.q]; rfl
                    have kc2 : w4.cell? ⟨w.heap.size + 1, 2, none⟩ = some (.int .i64 qi) := by rw [cell_at F2.out.q]; rfl
                    have kc3 : w4.cell? ⟨w.heap.size + 1, 3, none⟩ = some (.int .i64 qm) := by rw [cell_at F2.out.q]; rfl
                    have kf : ∀ j, w4.frozen? ⟨w.heap.size + 1, j, none⟩ = false := fun j => free_at F2.out.q j
                    have lc0 : w4.cell? ⟨w.heap.size + 2, 0, none⟩ = some (.int .i64 li) := by rw [cell_at F2.out.last]; rfl
                    have lc1 : w4.cell? ⟨w.heap.size + 2, 1, none⟩ = some (.int .i64 lm) := by rw [cell_at F2.out.last]; rfl
                    have zc0 : w4.cell? ⟨w.heap.size + 3, 0, none⟩ = some (.int .i64 0) := by rw [cell_at F2.out.res]; rfl
                    have zc1 : w4.cell? ⟨w.heap.size + 3, 1, none⟩ = some (.int .i64 0) := by rw [cell_at F2.out.res]; rfl
                    have zc2 : w4.cell? ⟨w.heap.size + 3, 2, none⟩ = some (.int .i64 0) := by rw [cell_at F2.out.res]; rfl
                    have zc3 : w4.cell? ⟨w.heap.size + 3, 3, none⟩ = some (.slice none 0 0) := by rw [cell_at F2.out.res]; rfl
                    have zf : ∀ j, w4.frozen? ⟨w.heap.size + 3, j, none⟩ = false := fun j => free_at F2.out.res j
                    go_wp2_with fail
                    refine (N4.out _).mono ?_
                    rintro e w5 ⟨rfl, hb⟩
                    dsimp only
                    have F3 := hideIt (F2.out.keep hb)
                    clear hb F2 bc0 bc1 bc2 bc3 bf kc0 kc1 kc2 kc3 kf lc0 lc1 zc0 zc1 zc2 zc3 zf
                    have bc0 : w5.cell? ⟨w.heap.size, 0, none⟩ = some (.int .i64 t) := by rw [cell_at F3.out.box]; rfl
                    have bc1 : w5.cell? ⟨w.heap.size, 1, none⟩ = some (.int .i64 v) := by rw [cell_at F3.out.box]; rfl
                    have bc2 : w5.cell? ⟨w.heap.size, 2, none⟩ = some (.int .i64 r) := by rw [cell_at F3.out.box]; rfl
                    have bc3 : w5.cell? ⟨w.heap.size, 3, none⟩ = some (g) := by rw [cell_at F3.out.box]; rfl
                    have bf : ∀ j, w5.frozen? ⟨w.heap.size, j, none⟩ = false := fun j => free_at F3.out.box j
                    have kc0 : w5.cell? ⟨w.heap.size + 1, 0, none⟩ = some (.int .i64 qf) := by rw [cell_at F3.out.q]; rfl
                    have kc1 : w5.cell? ⟨w.heap.size + 1, 1, none⟩ = some (.int .i64 qt) := by rw [cell_at F3.out.q]; rfl
                    have kc2 : w5.cell? ⟨w.heap.size + 1, 2, none⟩ = some (.int .i64 qi) := by rw [cell_at F3.out.q]; rfl
                    have kc3 : w5.cell? ⟨w.heap.size + 1, 3, none⟩ = some (.int .i64 qm) := by rw [cell_at F3.out.q]; rfl
                    have kf : ∀ j, w5.frozen? ⟨w.heap.size + 1, j, none⟩ = false := fun j => free_at F3.out.q j
                    have lc0 : w5.cell? ⟨w.heap.size + 2, 0, none⟩ = some (.int .i64 li) := by rw [cell_at F3.out.last]; rfl
                    have lc1 : w5.cell? ⟨w.heap.size + 2, 1, none⟩ = some (.int .i64 lm) := by rw [cell_at F3.out.last]; rfl
                    have zc0 : w5.cell? ⟨w.heap.size + 3, 0, none⟩ = some (.int .i64 0) := by rw [cell_at F3.out.res]; rfl
                    have zc1 : w5.cell? ⟨w.heap.size + 3, 1, none⟩ = some (.int .i64 0) := by rw [cell_at F3.out.res]; rfl
                    have zc2 : w5.cell? ⟨w.heap.size + 3, 2, none⟩ = some (.int .i64 0) := by rw [cell_at F3.out.res]; rfl
                    have zc3 : w5.cell? ⟨w.heap.size + 3, 3, none⟩ = some (.slice none 0 0) := by rw [cell_at F3.out.res]; rfl
                    have zf : ∀ j, w5.frozen? ⟨w.heap.size + 3, j, none⟩ = false := fun j => free_at F3.out.res j
                    clear N1 N2 N3 N4
                    go_wp2_with fail
                    refine (HH.out _ F3.out.bel).mono ?_
                    rintro e w6 ⟨g2, rfl, h1, h2⟩
                    dsimp only
                    obtain ⟨a2, cc, rfl⟩ := own_len h1
                    have hs := hideIt F3.out.size
                    have F4 := hideIt ((F3.out.keep h2).keep (below1 w6 (.cells #[.int .i64 V.t, .int .i64 V.v, .int .i64 V.r, .slice a2 V.l.length cc] 26)))
                    have HW := hideIt (own_keep h1 (below1 w6 (.cells #[.int .i64 V.t, .int .i64 V.v, .int .i64 V.r, .slice a2 V.l.length cc] 26)))
                    have hbk : Hid (∀ k, (Value.slice a2 V.l.length cc).ownBlock = some k → k ≠ w6.heap.size) := fun k hk => by have := (own_block h1 hk).1; omega
                    have hs6 : Hid (w.heap.size + 4 ≤ w6.heap.size) := Nat.le_trans hs.out h2.size
                    clear h1 h2 F3 HH bc0 bc1 bc2 bc3 bf kc0 kc1 kc2 kc3 kf lc0 lc1 zc0 zc1 zc2 zc3 zf
                    unfold balV
                    have kc0 : (w6.alloc (.cells #[.int .i64 V.t, .int .i64 V.v, .int .i64 V.r, .slice a2 V.l.length cc] 26)).cell? ⟨w.heap.size + 1, 0, none⟩ = some (.int .i64 qf) := by rw [cell_at F4.out.q]; rfl
                    have kc1 : (w6.alloc (.cells #[.int .i64 V.t, .int .i64 V.v, .int .i64 V.r, .slice a2 V.l.length cc] 26)).cell? ⟨w.heap.size + 1, 1, none⟩ = some (.int .i64 qt) := by rw [cell_at F4.out.q]; rfl
                    have kc2 : (w6.alloc (.cells #[.int .i64 V.t, .int .i64 V.v, .int .i64 V.r, .slice a2 V.l.length cc] 26)).cell? ⟨w.heap.size + 1, 2, none⟩ = some (.int .i64 qi) := by rw [cell_at F4.out.q]; rfl
                    have kc3 : (w6.alloc (.cells #[.int .i64 V.t, .int .i64 V.v, .int .i64 V.r, .slice a2 V.l.length cc] 26)).cell? ⟨w.heap.size + 1, 3, none⟩ = some (.int .i64 qm) := by rw [cell_at F4.out.q]; rfl
                    have kf : ∀ j, (w6.alloc (.cells #[.int .i64 V.t, .int .i64 V.v, .int .i64 V.r, .slice a2 V.l.length cc] 26)).frozen? ⟨w.heap.size + 1, j, none⟩ = false := fun j => free_at F4.out.q j
                    have lc0 : (w6.alloc (.cells #[.int .i64 V.t, .int .i64 V.v, .int .i64 V.r, .slice a2 V.l.length cc] 26)).cell? ⟨w.heap.size + 2, 0, none⟩ = some (.int .i64 li) := by rw [cell_at F4.out.last]; rfl
                    have lc1 : (w6.alloc (.cells #[.int .i64 V.t, .int .i64 V.v, .int .i64 V.r, .slice a2 V.l.length cc] 26)).cell? ⟨w.heap.size + 2, 1, none⟩ = some (.int .i64 lm) := by rw [cell_at F4.out.last]; rfl
                    have ec0 : (w6.alloc (.cells #[.int .i64 V.t, .int .i64 V.v, .int .i64 V.r, .slice a2 V.l.length cc] 26)).cell? ⟨w6.heap.size, 0, none⟩ = some (.int .i64 V.t) := by rw [cell_at (heap_alloc_new w6 _)]; rfl
                    have ec1 : (w6.alloc (.cells #[.int .i64 V.t, .int .i64 V.v, .int .i64 V.r, .slice a2 V.l.length cc] 26)).cell? ⟨w6.heap.size, 1, none⟩ = some (.int .i64 V.v) := by rw [cell_at (heap_alloc_new w6 _)]; rfl
                    have ec2 : (w6.alloc (.cells #[.int .i64 V.t, .int .i64 V.v, .int .i64 V.r, .slice a2 V.l.length cc] 26)).cell? ⟨w6.heap.size, 2, none⟩ = some (.int .i64 V.r) := by rw [cell_at (heap_alloc_new w6 _)]; rfl
                    have ec3 : (w6.alloc (.cells #[.int .i64 V.t, .int .i64 V.v, .int .i64 V.r, .slice a2 V.l.length cc] 26)).cell? ⟨w6.heap.size, 3, none⟩ = some (.slice a2 V.l.length cc) := by rw [cell_at (heap_alloc_new w6 _)]; rfl
                    have ef : ∀ j, (w6.alloc (.cells #[.int .i64 V.t, .int .i64 V.v, .int .i64 V.r, .slice a2 V.l.length cc] 26)).frozen? ⟨w6.heap.size, j, none⟩ = false := fun j => free_at (heap_alloc_new w6 _) j
                    have zc0 : (w6.alloc (.cells #[.int .i64 V.t, .int .i64 V.v, .int .i64 V.r, .slice a2 V.l.length cc] 26)).cell? ⟨w.heap.size + 3, 0, none⟩ = some (.int .i64 0) := by rw [cell_at F4.out.res]; rfl
                    have zc1 : (w6.alloc (.cells #[.int .i64 V.t, .int .i64 V.v, .int .i64 V.r, .slice a2 V.l.length cc] 26)).cell? ⟨w.heap.size + 3, 1, none⟩ = some (.int .i64 0) := by rw [cell_at F4.out.res]; rfl
                    have zc2 : (w6.alloc (.cells #[.int .i64 V.t, .int .i64 V.v, .int .i64 V.r, .slice a2 V.l.length cc] 26)).cell? ⟨w.heap.size + 3, 2, none⟩ = some (.int .i64 0) := by rw [cell_at F4.out.res]; rfl
                    have zc3 : (w6.alloc (.cells #[.int .i64 V.t, .int .i64 V.v, .int .i64 V.r, .slice a2 V.l.length cc] 26)).cell? ⟨w.heap.size + 3, 3, none⟩ = some (.slice none 0 0) := by rw [cell_at F4.out.res]; rfl
                    have zf : ∀ j, (w6.alloc (.cells #[.int .i64 V.t, .int .i64 V.v, .int .i64 V.r, .slice a2 V.l.length cc] 26)).frozen? ⟨w.heap.size + 3, j, none⟩ = false := fun j => free_at F4.out.res j
                    go_wp2_with fail
                    refine (HL.out _).mono ?_
                    rintro e w8 ⟨rfl, hb⟩
                    dsimp only
                    have F6 := hideIt (F4.out.keep hb)
                    have HY2 := hideIt (own_keep HW.out hb)
                    have HE2 := hideIt ((hb.block w6.heap.size (by simp)).trans (heap_alloc_new w6 _))
                    clear hb F4 HW HL kc0 kc1 kc2 kc3 kf lc0 lc1 ec0 ec1 ec2 ec3 ef zc0 zc1 zc2 zc3 zf
                    have ec0 : w8.cell? ⟨w6.heap.size, 0, none⟩ = some (.int .i64 V.t) := by rw [cell_at HE2.out]; rfl
                    have ec1 : w8.cell? ⟨w6.heap.size, 1, none⟩ = some (.int .i64 V.v) := by rw [cell_at HE2.out]; rfl
                    have ec2 : w8.cell? ⟨w6.heap.size, 2, none⟩ = some (.int .i64 V.r) := by rw [cell_at HE2.out]; rfl
                    have ec3 : w8.cell? ⟨w6.heap.size, 3, none⟩ = some (.slice a2 V.l.length cc) := by rw [cell_at HE2.out]; rfl
                    have ef : ∀ j, w8.frozen? ⟨w6.heap.size, j, none⟩ = false := fun j => free_at HE2.out j
                    have kc0 : w8.cell? ⟨w.heap.size + 1, 0, none⟩ = some (.int .i64 qf) := by rw [cell_at F6.out.q]; rfl
                    have kc1 : w8.cell? ⟨w.heap.size + 1, 1, none⟩ = some (.int .i64 qt) := by rw [cell_at F6.out.q]; rfl
                    have kc2 : w8.cell? ⟨w.heap.size + 1, 2, none⟩ = some (.int .i64 qi) := by rw [cell_at F6.out.q]; rfl
                    have kc3 : w8.cell? ⟨w.heap.size + 1, 3, none⟩ = some (.int .i64 qm) := by rw [cell_at F6.out.q]; rfl
                    have kf : ∀ j, w8.frozen? ⟨w.heap.size + 1, j, none⟩ = false := fun j => free_at F6.out.q j
                    have lc0 : w8.cell? ⟨w.heap.size + 2, 0, none⟩ = some (.int .i64 li) := by rw [cell_at F6.out.last]; rfl
                    have lc1 : w8.cell? ⟨w.heap.size + 2, 1, none⟩ = some (.int .i64 lm) := by rw [cell_at F6.out.last]; rfl
                    have zc0 : w8.cell? ⟨w.heap.size + 3, 0, none⟩ = some (.int .i64 0) := by rw [cell_at F6.out.res]; rfl
                    have zc1 : w8.cell? ⟨w.heap.size + 3, 1, none⟩ = some (.int .i64 0) := by rw [cell_at F6.out.res]; rfl
                    have zc2 : w8.cell? ⟨w.heap.size + 3, 2, none⟩ = some (.int .i64 0) := by rw [cell_at F6.out.res]; rfl
                    have zc3 : w8.cell? ⟨w.heap.size + 3, 3, none⟩ = some (.slice none 0 0) := by rw [cell_at F6.out.res]; rfl
                    have zf : ∀ j, w8.frozen? ⟨w.heap.size + 3, j, none⟩ = false := fun j => free_at F6.out.res j
                    have HF := fin4 (w := w) (.int .i64 V.t) (.int .i64 V.v) (.int .i64 V.r) (.slice a2 V.l.length cc) F6.out.res (by omega) F6.out.bel
                    have HG := own4 (R := w.heap.size + 3) (.int .i64 V.t) (.int .i64 V.v) (.int .i64 V.r) (.slice a2 V.l.length cc) HY2.out hs.out w.heap.size (by have := hs.out; omega)
                    clear F6 HY2 HE2 hs hs6 hbk
                    go_wp2
                    obtain ⟨e1, e2⟩ := HF.out
                    have e3 := HG.out
                    revert e1 e2 e3
                    generalize (World.setCell _ ⟨w.heap.size + 3, 3, none⟩ _) = W
                    intro e1 e2 e3
                    exact bodyPost_ret (v := .tuple #[balV V (.slice a2 V.l.length cc), .bool false, .int .i64 0]) (by simp [results, Try.results18, go_sem, cell_at e1, balV]) rfl ⟨_, rfl, e3, e2⟩
                · by_cases c4 : V.v = qf
                  · rw [show freeB V.t V.v V.r qf qt = true by rw [freeB_eq]; exact if_pos ⟨c1, c2, .inr c4⟩] at hA
                    have c1b : (V.t != qt) = false := by simp [c1]
                    have c2b : (V.r != 1) = false := by simp [c2]
                    have c3b : (V.v != 0) = true := by simp [c3]
                    have c4b : (V.v != qf) = false := by simp [c4]
                    clear c1 c2 c3 c4
                    cases hl : lessB qi qm li lm
                    · rw [hl] at HL hA
                      rw [if_pos (by simp)] at hA
                      subst hA
                      clear hl
                      go_enter Try.func18, Try.ntmps18
                      go_wp2_with fail
                      refine HM.out.mono ?_
                      rintro e w1 ⟨rfl, hb⟩
                      dsimp only
                      have F1 := hideIt (F0.out.keep hb)
                      clear hb F0 HM
                      have bc0 : w1.cell? ⟨w.heap.size, 0, none⟩ = some (.int .i64 t) := by rw [cell_at F1.out.box]; rfl
                      have bc1 : w1.cell? ⟨w.heap.size, 1, none⟩ = some (.int .i64 v) := by rw [cell_at F1.out.box]; rfl
                      have bc2 : w1.cell? ⟨w.heap.size, 2, none⟩ = some (.int .i64 r) := by rw [cell_at F1.out.box]; rfl
                      have bc3 : w1.cell? ⟨w.heap.size, 3, none⟩ = some (g) := by rw [cell_at F1.out.box]; rfl
                      have bf : ∀ j, w1.frozen? ⟨w.heap.size, j, none⟩ = false := fun j => free_at F1.out.box j
                      have kc0 : w1.cell? ⟨w.heap.size + 1, 0, none⟩ = some (.int .i64 qf) := by rw [cell_at F1.out.q]; rfl
                      have kc1 : w1.cell? ⟨w.heap.size + 1, 1, none⟩ = some (.int .i64 qt) := by rw [cell_at F1.out.q]; rfl
                      have kc2 : w1.cell? ⟨w.heap.size + 1, 2, none⟩ = some (.int .i64 qi) := by rw [cell_at F1.out.q]; rfl
                      have kc3 : w1.cell? ⟨w.heap.size + 1, 3, none⟩ = some (.int .i64 qm) := by rw [cell_at F1.out.q]; rfl
                      have kf : ∀ j, w1.frozen? ⟨w.heap.size + 1, j, none⟩ = false := fun j => free_at F1.out.q j
                      have lc0 : w1.cell? ⟨w.heap.size + 2, 0, none⟩ = some (.int .i64 li) := by rw [cell_at F1.out.last]; rfl
                      have lc1 : w1.cell? ⟨w.heap.size + 2, 1, none⟩ = some (.int .i64 lm) := by rw [cell_at F1.out.last]; rfl
                      have zc0 : w1.cell? ⟨w.heap.size + 3, 0, none⟩ = some (.int .i64 0) := by rw [cell_at F1.out.res]; rfl
                      have zc1 : w1.cell? ⟨w.heap.size + 3, 1, none⟩ = some (.int .i64 0) := by rw [cell_at F1.out.res]; rfl
                      have zc2 : w1.cell? ⟨w.heap.size + 3, 2, none⟩ = some (.int .i64 0) := by rw [cell_at F1.out.res]; rfl
                      have zc3 : w1.cell? ⟨w.heap.size + 3, 3, none⟩ = some (.slice none 0 0) := by rw [cell_at F1.out.res]; rfl
                      have zf : ∀ j, w1.frozen? ⟨w.heap.size + 3, j, none⟩ = false := fun j => free_at F1.out.res j
                      go_wp2_with fail
                      refine (N1.out _).mono ?_
                      rintro e w2 ⟨rfl, rfl⟩
                      dsimp only
                      go_wp2_with fail
                      refine (N2.out _).mono ?_
                      rintro e w3 ⟨rfl, rfl⟩
                      dsimp only
                      go_wp2_with fail
                      refine (N3.out _).mono ?_
                      rintro e w4 ⟨rfl, hb⟩
                      dsimp only
                      have F2 := hideIt (F1.out.keep hb)
                      clear hb F1 bc0 bc1 bc2 bc3 bf kc0 kc1 kc2 kc3 kf lc0 lc1 zc0 zc1 zc2 zc3 zf
                      have bc0 : w4.cell? ⟨w.heap.size, 0, none⟩ = some (.int .i64 t) := by rw [cell_at F2.out.box]; rfl
                      have bc1 : w4.cell? ⟨w.heap.size, 1, none⟩ = some (.int .i64 v) := by rw [cell_at F2.out.box]; rfl
                      have bc2 : w4.cell? ⟨w.heap.size, 2, none⟩ = some (.int .i64 r) := by rw [cell_at F2.out.box]; rfl
                      have bc3 : w4.cell? ⟨w.heap.size, 3, none⟩ = some (g) := by rw [cell_at F2.out.box]; rfl
                      have bf : ∀ j, w4.frozen? ⟨w.heap.size, j, none⟩ = false := fun j => free_at F2.out.box j
                      have kc0 : w4.cell? ⟨w.heap.size + 1, 0, none⟩ = some (.int .i64 qf) := by rw [cell_at F2.out.q]; rfl
                      have kc1 : w4.cell? ⟨w.heap.size + 1, 1, none⟩ = some (.int .i64 qt) := by rw [cell_at F2.out.q]; rfl
                      have kc2 : w4.cell? ⟨w.heap.size + 1, 2, none⟩ = some (.int .i64 qi) := by rw [cell_at F2.out.q]; rfl
                      have kc3 : w4.cell? ⟨w.heap.size + 1, 3, none⟩ = some (.int .i64 qm) := by rw [cell_at F2.out.q]; rfl
                      have kf : ∀ j, w4.frozen? ⟨w.heap.size + 1, j, none⟩ = false := fun j => free_at F2.out.q j
                      have lc0 : w4.cell? ⟨w.heap.size + 2, 0, none⟩ = some (.int .i64 li) := by rw [cell_at F2.out.last]; rfl
                      have lc1 : w4.cell? ⟨w.heap.size + 2, 1, none⟩ = some (.int .i64 lm) := by rw [cell_at F2.out.last]; rfl
                      have zc0 : w4.cell? ⟨w.heap.size + 3, 0, none⟩ = some (.int .i64 0) := by rw [cell_at F2.out.res]; rfl
                      have zc1 : w4.cell? ⟨w.heap.size + 3, 1, none⟩ = some (.int .i64 0) := by rw [cell_at F2.out.res]; rfl
                      have zc2 : w4.cell? ⟨w.heap.size + 3, 2, none⟩ = some (.int .i64 0) := by rw [cell_at F2.out.res]; rfl
                      have zc3 : w4.cell? ⟨w.heap.size + 3, 3, none⟩ = some (.slice none 0 0) := by rw [cell_at F2.out.res]; rfl
                      have zf : ∀ j, w4.frozen? ⟨w.heap.size + 3, j, none⟩ = false := fun j => free_at F2.out.res j
                      go_wp2_with fail
                      refine (N4.out _).mono ?_
                      rintro e w5 ⟨rfl, hb⟩
                      dsimp only
                      have F3 := hideIt (F2.out.keep hb)
                      clear hb F2 bc0 bc1 bc2 bc3 bf kc0 kc1 kc2 kc3 kf lc0 lc1 zc0 zc1 zc2 zc3 zf
                      have bc0 : w5.cell? ⟨w.heap.size, 0, none⟩ = some (.int .i64 t) := by rw [cell_at F3.out.box]; rfl
                      have bc1 : w5.cell? ⟨w.heap.size, 1, none⟩ = some (.int .i64 v) := by rw [cell_at F3.out.box]; rfl
                      have bc2 : w5.cell? ⟨w.heap.size, 2, none⟩ = some (.int .i64 r) := by rw [cell_at F3.out.box]; rfl
                      have bc3 : w5.cell? ⟨w.heap.size, 3, none⟩ = some (g) := by rw [cell_at F3.out.box]; rfl
                      have bf : ∀ j, w5.frozen? ⟨w.heap.size, j, none⟩ = false := fun j => free_at F3.out.box j
                      have kc0 : w5.cell? ⟨w.heap.size + 1, 0, none⟩ = some (.int .i64 qf) := by rw [cell_at F3.out.q]; rfl
                      have kc1 : w5.cell? ⟨w.heap.size + 1, 1, none⟩ = some (.int .i64 qt) := by rw [cell_at F3.out.q]; rfl
                      have kc2 : w5.cell? ⟨w.heap.size + 1, 2, none⟩ = some (.int .i64 qi) := by rw [cell_at F3.out.q]; rfl
                      have kc3 : w5.cell? ⟨w.heap.size + 1, 3, none⟩ = some (.int .i64 qm) := by rw [cell_at F3.out.q]; rfl
                      have kf : ∀ j, w5.frozen? ⟨w.heap.size + 1, j, none⟩ = false := fun j => free_at F3.out.q j
                      have lc0 : w5.cell? ⟨w.heap.size + 2, 0, none⟩ = some (.int .i64 li) := by rw [cell_at F3.out.last]; rfl
                      have lc1 : w5.cell? ⟨w.heap.size + 2, 1, none⟩ = some (.int .i64 lm) := by rw [cell_at F3.out.last]; rfl
                      have zc0 : w5.cell? ⟨w.heap.size + 3, 0, none⟩ = some (.int .i64 0) := by rw [cell_at F3.out.res]; rfl
                      have zc1 : w5.cell? ⟨w.heap.size + 3, 1, none⟩ = some (.int .i64 0) := by rw [cell_at F3.out.res]; rfl
                      have zc2 : w5.cell? ⟨w.heap.size + 3, 2, none⟩ = some (.int .i64 0) := by rw [cell_at F3.out.res]; rfl
                      have zc3 : w5.cell? ⟨w.heap.size + 3, 3, none⟩ = some (.slice none 0 0) := by rw [cell_at F3.out.res]; rfl
                      have zf : ∀ j, w5.frozen? ⟨w.heap.size + 3, j, none⟩ = false := fun j => free_at F3.out.res j
                      clear N1 N2 N3 N4
                      go_wp2_with fail
                      refine (HH.out _ F3.out.bel).mono ?_
                      rintro e w6 ⟨g2, rfl, h1, h2⟩
                      dsimp only
                      obtain ⟨a2, cc, rfl⟩ := own_len h1
                      have hs := hideIt F3.out.size
                      have F4 := hideIt ((F3.out.keep h2).keep (below1 w6 (.cells #[.int .i64 V.t, .int .i64 V.v, .int .i64 V.r, .slice a2 V.l.length cc] 26)))
                      have HW := hideIt (own_keep h1 (below1 w6 (.cells #[.int .i64 V.t, .int .i64 V.v, .int .i64 V.r, .slice a2 V.l.length cc] 26)))
                      have hbk : Hid (∀ k, (Value.slice a2 V.l.length cc).ownBlock = some k → k ≠ w6.heap.size) := fun k hk => by have := (own_block h1 hk).1; omega
                      have hs6 : Hid (w.heap.size + 4 ≤ w6.heap.size) := Nat.le_trans hs.out h2.size
                      clear h1 h2 F3 HH bc0 bc1 bc2 bc3 bf kc0 kc1 kc2 kc3 kf lc0 lc1 zc0 zc1 zc2 zc3 zf
                      unfold balV
                      have kc0 : (w6.alloc (.cells #[.int .i64 V.t, .int .i64 V.v, .int .i64 V.r, .slice a2 V.l.length cc] 26)).cell? ⟨w.heap.size + 1, 0, none⟩ = some (.int .i64 qf) := by rw [cell_at F4.out.q]; rfl
                      have kc1 : (w6.alloc (.cells #[.int .i64 V.t, .int .i64 V.v, .int .i64 V.r, .slice a2 V.l.length cc] 26)).cell? ⟨w.heap.size + 1, 1, none⟩ = some (.int .i64 qt) := by rw [cell_at F4.out.q]; rfl
                      have kc2 : (w6.alloc (.cells #[.int .i64 V.t, .int .i64 V.v, .int .i64 V.r, .slice a2 V.l.length cc] 26)).cell? ⟨w.heap.size + 1, 2, none⟩ = some (.int .i64 qi) := by rw [cell_at F4.out.q]; rfl
                      have kc3 : (w6.alloc (.cells #[.int .i64 V.t, .int .i64 V.v, .int .i64 V.r, .slice a2 V.l.length cc] 26)).cell? ⟨w.heap.size + 1, 3, none⟩ = some (.int .i64 qm) := by rw [cell_at F4.out.q]; rfl
                      have kf : ∀ j, (w6.alloc (.cells #[.int .i64 V.t, .int .i64 V.v, .int .i64 V.r, .slice a2 V.l.length cc] 26)).frozen? ⟨w.heap.size + 1, j, none⟩ = false := fun j => free_at F4.out.q j
                      have lc0 : (w6.alloc (.cells #[.int .i64 V.t, .int .i64 V.v, .int .i64 V.r, .slice a2 V.l.length cc] 26)).cell? ⟨w.heap.size + 2, 0, none⟩ = some (.int .i64 li) := by rw [cell_at F4.out.last]; rfl
                      have lc1 : (w6.alloc (.cells #[.int .i64 V.t, .int .i64 V.v, .int .i64 V.r, .slice a2 V.l.length cc] 26)).cell? ⟨w.heap.size + 2, 1, none⟩ = some (.int .i64 lm) := by rw [cell_at F4.out.last]; rfl
                      have ec0 : (w6.alloc (.cells #[.int .i64 V.t, .int .i64 V.v, .int .i64 V.r, .slice a2 V.l.length cc] 26)).cell? ⟨w6.heap.size, 0, none⟩ = some (.int .i64 V.t) := by rw [cell_at (heap_alloc_new w6 _)]; rfl
                      have ec1 : (w6.alloc (.cells #[.int .i64 V.t, .int .i64 V.v, .int .i64 V.r, .slice a2 V.l.length cc] 26)).cell? ⟨w6.heap.size, 1, none⟩ = some (.int .i64 V.v) := by rw [cell_at (heap_alloc_new w6 _)]; rfl
                      have ec2 : (w6.alloc (.cells #[.int .i64 V.t, .int .i64 V.v, .int .i64 V.r, .slice a2 V.l.length cc] 26)).cell? ⟨w6.heap.size, 2, none⟩ = some (.int .i64 V.r) := by rw [cell_at (heap_alloc_new w6 _)]; rfl
                      have ec3 : (w6.alloc (.cells #[.int .i64 V.t, .int .i64 V.v, .int .i64 V.r, .slice a2 V.l.length cc] 26)).cell? ⟨w6.heap.size, 3, none⟩ = some (.slice a2 V.l.length cc) := by rw [cell_at (heap_alloc_new w6 _)]; rfl
                      have ef : ∀ j, (w6.alloc (.cells #[.int .i64 V.t, .int .i64 V.v, .int .i64 V.r, .slice a2 V.l.length cc] 26)).frozen? ⟨w6.heap.size, j, none⟩ = false := fun j => free_at (heap_alloc_new w6 _) j
                      have zc0 : (w6.alloc (.cells #[.int .i64 V.t, .int .i64 V.v, .int .i64 V.r, .slice a2 V.l.length cc] 26)).cell? ⟨w.heap.size + 3, 0, none⟩ = some (.int .i64 0) := by rw [cell_at F4.out.res]; rfl
                      have zc1 : (w6.alloc (.cells #[.int .i64 V.t, .int .i64 V.v, .int .i64 V.r, .slice a2 V.l.length cc] 26)).cell? ⟨w.heap.size + 3, 1, none⟩ = some (.int .i64 0) := by rw [cell_at F4.out.res]; rfl
                      have zc2 : (w6.alloc (.cells #[.int .i64 V.t, .int .i64 V.v, .int .i64 V.r, .slice a2 V.l.length cc] 26)).cell? ⟨w.heap.size + 3, 2, none⟩ = some (.int .i64 0) := by rw [cell_at F4.out.res]; rfl
                      have zc3 : (w6.alloc (.cells #[.int .i64 V.t, .int .i64 V.v, .int .i64 V.r, .slice a2 V.l.length cc] 26)).cell? ⟨w.heap.size + 3, 3, none⟩ = some (.slice none 0 0) := by rw [cell_at F4.out.res]; rfl
                      have zf : ∀ j, (w6.alloc (.cells #[.int .i64 V.t, .int .i64 V.v, .int .i64 V.r, .slice a2 V.l.length cc] 26)).frozen? ⟨w.heap.size + 3, j, none⟩ = false := fun j => free_at F4.out.res j
                      go_wp2_with fail
                      refine (HL.out _).mono ?_
                      rintro e w8 ⟨rfl, hb⟩
                      dsimp only
                      have F6 := hideIt (F4.out.keep hb)
                      have HY2 := hideIt (own_keep HW.out hb)
                      have HE2 := hideIt ((hb.block w6.heap.size (by simp)).trans (heap_alloc_new w6 _))
                      clear hb F4 HW HL kc0 kc1 kc2 kc3 kf lc0 lc1 ec0 ec1 ec2 ec3 ef zc0 zc1 zc2 zc3 zf
                      have ec0 : w8.cell? ⟨w6.heap.size, 0, none⟩ = some (.int .i64 V.t) := by rw [cell_at HE2.out]; rfl
                      have ec1 : w8.cell? ⟨w6.heap.size, 1, none⟩ = some (.int .i64 V.v) := by rw [cell_at HE2.out]; rfl
                      have ec2 : w8.cell? ⟨w6.heap.size, 2, none⟩ = some (.int .i64 V.r) := by rw [cell_at HE2.out]; rfl
                      have ec3 : w8.cell? ⟨w6.heap.size, 3, none⟩ = some (.slice a2 V.l.length cc) := by rw [cell_at HE2.out]; rfl
                      have ef : ∀ j, w8.frozen? ⟨w6.heap.size, j, none⟩ = false := fun j => free_at HE2.out j
                      have kc0 : w8.cell? ⟨w.heap.size + 1, 0, none⟩ = some (.int .i64 qf) := by rw [cell_at F6.out.q]; rfl
                      have kc1 : w8.cell? ⟨w.heap.size + 1, 1, none⟩ = some (.int .i64 qt) := by rw [cell_at F6.out.q]; rfl
                      have kc2 : w8.cell? ⟨w.heap.size + 1, 2, none⟩ = some (.int .i64 qi) := by rw [cell_at F6.out.q]; rfl
                      have kc3 : w8.cell? ⟨w.heap.size + 1, 3, none⟩ = some (.int .i64 qm) := by rw [cell_at F6.out.q]; rfl
                      have kf : ∀ j, w8.frozen? ⟨w.heap.size + 1, j, none⟩ = false := fun j => free_at F6.out.q j
                      have lc0 : w8.cell? ⟨w.heap.size + 2, 0, none⟩ = some (.int .i64 li) := by rw [cell_at F6.out.last]; rfl
                      have lc1 : w8.cell? ⟨w.heap.size + 2, 1, none⟩ = some (.int .i64 lm) := by rw [cell_at F6.out.last]; rfl
                      have zc0 : w8.cell? ⟨w.heap.size + 3, 0, none⟩ = some (.int .i64 0) := by rw [cell_at F6.out.res]; rfl
                      have zc1 : w8.cell? ⟨w.heap.size + 3, 1, none⟩ = some (.int .i64 0) := by rw [cell_at F6.out.res]; rfl
                      have zc2 : w8.cell? ⟨w.heap.size + 3, 2, none⟩ = some (.int .i64 0) := by rw [cell_at F6.out.res]; rfl
                      have zc3 : w8.cell? ⟨w.heap.size + 3, 3, none⟩ = some (.slice none 0 0) := by rw [cell_at F6.out.res]; rfl
                      have zf : ∀ j, w8.frozen? ⟨w.heap.size + 3, j, none⟩ = false := fun j => free_at F6.out.res j
                      have hne : ¬ (w6.heap.size = w.heap.size + 3) := by have := hs6.out; omega
                      have hne2 : ¬ (w.heap.size + 3 = w6.heap.size) := by have := hs6.out; omega
                      have HZ : Hid ((w8.setCell ⟨w6.heap.size, 1, none⟩ (.int .i64 qf)).heap[w.heap.size + 3]? = some (.cells #[.int .i64 0, .int .i64 0, .int .i64 0, .slice none 0 0] 26 (0, 0))) := setOther _ F6.out.res hne2
                      have HF := fin4 (w := w) (.int .i64 V.t) (.int .i64 qf) (.int .i64 V.r) (.slice a2 V.l.length cc) HZ.out (by omega) (belowSet _ F6.out.bel (by have := hs6.out; omega))
                      have HG := own4 (R := w.heap.size + 3) (.int .i64 V.t) (.int .i64 qf) (.int .i64 V.r) (.slice a2 V.l.length cc) (ownOther (b := w6.heap.size) (j := 1) (.int .i64 qf) HY2.out hbk.out) hs.out w.heap.size (by have := hs.out; omega)
                      clear F6 HY2 HE2 hs hs6 hbk HZ
                      go_wp2
                      obtain ⟨e1, e2⟩ := HF.out
                      have e3 := HG.out
                      revert e1 e2 e3
                      generalize (World.setCell _ ⟨w.heap.size + 3, 3, none⟩ _) = W
                      intro e1 e2 e3
                      exact bodyPost_ret (v := .tuple #[balV ⟨V.t, qf, V.r, V.l⟩ (.slice a2 V.l.length cc), .bool true, .int .i64 0]) (by simp [results, Try.results18, go_sem, cell_at e1, balV]) rfl ⟨_, rfl, e3, e2⟩
                    · rw [hl] at HL hA
                      rw [if_neg (by simp)] at hA
                      subst hA
                      clear hl
                      go_enter Try.func18, Try.ntmps18
                      go_wp2_with fail
                      refine HM.out.mono ?_
                      rintro e w1 ⟨rfl, hb⟩
                      dsimp only
                      have F1 := hideIt (F0.out.keep hb)
                      clear hb F0 HM
                      have bc0 : w1.cell? ⟨w.heap.size, 0, none⟩ = some (.int .i64 t) := by rw [cell_at F1.out.box]; rfl
                      have bc1 : w1.cell? ⟨w.heap.size, 1, none⟩ = some (.int .i64 v) := by rw [cell_at F1.out.box]; rfl
                      have bc2 : w1.cell? ⟨w.heap.size, 2, none⟩ = some (.int .i64 r) := by rw [cell_at F1.out.box]; rfl
                      have bc3 : w1.cell? ⟨w.heap.size, 3, none⟩ = some (g) := by rw [cell_at F1.out.box]; rfl
                      have bf : ∀ j, w1.frozen? ⟨w.heap.size, j, none⟩ = false := fun j => free_at F1.out.box j
                      have kc0 : w1.cell? ⟨w.heap.size + 1, 0, none⟩ = some (.int .i64 qf) := by rw [cell_at F1.out.q]; rfl
                      have kc1 : w1.cell? ⟨w.heap.size + 1, 1, none⟩ = some (.int .i64 qt) := by rw [cell_at F1.out.q]; rfl
                      have kc2 : w1.cell? ⟨w.heap.size + 1, 2, none⟩ = some (.int .i64 qi) := by rw [cell_at F1.out.q]; rfl
                      have kc3 : w1.cell? ⟨w.heap.size + 1, 3, none⟩ = some (.int .i64 qm) := by rw [cell_at F1.out.q]; rfl
                      have kf : ∀ j, w1.frozen? ⟨w.heap.size + 1, j, none⟩ = false := fun j => free_at F1.out.q j
                      have lc0 : w1.cell? ⟨w.heap.size + 2, 0, none⟩ = some (.int .i64 li) := by rw [cell_at F1.out.last]; rfl
                      have lc1 : w1.cell? ⟨w.heap.size + 2, 1, none⟩ = some (.int .i64 lm) := by rw [cell_at F1.out.last]; rfl
                      have zc0 : w1.cell? ⟨w.heap.size + 3, 0, none⟩ = some (.int .i64 0) := by rw [cell_at F1.out.res]; rfl
                      have zc1 : w1.cell? ⟨w.heap.size + 3, 1, none⟩ = some (.int .i64 0) := by rw [cell_at F1.out.res]; rfl
                      have zc2 : w1.cell? ⟨w.heap.size + 3, 2, none⟩ = some (.int .i64 0) := by rw [cell_at F1.out.res]; rfl
                      have zc3 : w1.cell? ⟨w.heap.size + 3, 3, none⟩ = some (.slice none 0 0) := by rw [cell_at F1.out.res]; rfl
                      have zf : ∀ j, w1.frozen? ⟨w.heap.size + 3, j, none⟩ = false := fun j => free_at F1.out.res j
                      go_wp2_with fail
                      refine (N1.out _).mono ?_
                      rintro e w2 ⟨rfl, rfl⟩
                      dsimp only
                      go_wp2_with fail
                      refine (N2.out _).mono ?_
                      rintro e w3 ⟨rfl, rfl⟩
                      dsimp only
                      go_wp2_with fail
                      refine (N3.out _).mono ?_
                      rintro e w4 ⟨rfl, hb⟩
                      dsimp only
                      have F2 := hideIt (F1.out.keep hb)
                      clear hb F1 bc0 bc1 bc2 bc3 bf kc0 kc1 kc2 kc3 kf lc0 lc1 zc0 zc1 zc2 zc3 zf
                      have bc0 : w4.cell? ⟨w.heap.size, 0, none⟩ = some (.int .i64 t) := by rw [cell_at F2.out.box]; rfl
                      have bc1 : w4.cell? ⟨w.heap.size, 1, none⟩ = some (.int .i64 v) := by rw [cell_at F2.out.box]; rfl
                      have bc2 : w4.cell? ⟨w.heap.size, 2, none⟩ = some (.int .i64 r) := by rw [cell_at F2.out.box]; rfl
                      have bc3 : w4.cell? ⟨w.heap.size, 3, none⟩ = some (g) := by rw [cell_at F2.out.box]; rfl
                      have bf : ∀ j, w4.frozen? ⟨w.heap.size, j, none⟩ = false := fun j => free_at F2.out.box j
                      have kc0 : w4.cell? ⟨w.heap.size + 1, 0, none⟩ = some (.int .i64 qf) := by rw [cell_at F2.out.q]; rfl
                      have kc1 : w4.cell? ⟨w.heap.size + 1, 1, none⟩ = some (.int .i64 qt) := by rw [cell_at F2.out.q]; rfl
                      have kc2 : w4.cell? ⟨w.heap.size + 1, 2, none⟩ = some (.int .i64 qi) := by rw [cell_at F2.out.q]; rfl
                      have kc3 : w4.cell? ⟨w.heap.size + 1, 3, none⟩ = some (.int .i64 qm) := by rw [cell_at F2.out.q]; rfl
                      have kf : ∀ j, w4.frozen? ⟨w.heap.size + 1, j, none⟩ = false := fun j => free_at F2.out.q j
                      have lc0 : w4.cell? ⟨w.heap.size + 2, 0, none⟩ = some (.int .i64 li) := by rw [cell_at F2.out.last]; rfl
                      have lc1 : w4.cell? ⟨w.heap.size + 2, 1, none⟩ = some (.int .i64 lm) := by rw [cell_at F2.out.last]; rfl
                      have zc0 : w4.cell? ⟨w.heap.size + 3, 0, none⟩ = some (.int .i64 0) := by rw [cell_at F2.out.res]; rfl
                      have zc1 : w4.cell? ⟨w.heap.size + 3, 1, none⟩ = some (.int .i64 0) := by rw [cell_at F2.out.res]; rfl
                      have zc2 : w4.cell? ⟨w.heap.size + 3, 2, none⟩ = some (.int .i64 0) := by rw [cell_at F2.out.res]; rfl
                      have zc3 : w4.cell? ⟨w.heap.size + 3, 3, none⟩ = some (.slice none 0 0) := by rw [cell_at F2.out.res]; rfl
                      have zf : ∀ j, w4.frozen? ⟨w.heap.size + 3, j, none⟩ = false := fun j => free_at F2.out.res j
                      go_wp2_with fail
                      refine (N4.out _).mono ?_
                      rintro e w5 ⟨rfl, hb⟩
                      dsimp only
                      have F3 := hideIt (F2.out.keep hb)
                      clear hb F2 bc0 bc1 bc2 bc3 bf kc0 kc1 kc2 kc3 kf lc0 lc1 zc0 zc1 zc2 zc3 zf
                      have bc0 : w5.cell? ⟨w.heap.size, 0, none⟩ = some (.int .i64 t) := by rw [cell_at F3.out.box]; rfl
                      have bc1 : w5.cell? ⟨w.heap.size, 1, none⟩ = some (.int .i64 v) := by rw [cell_at F3.out.box]; rfl
                      have bc2 : w5.cell? ⟨w.heap.size, 2, none⟩ = some (.int .i64 r) := by rw [cell_at F3.out.box]; rfl
                      have bc3 : w5.cell? ⟨w.heap.size, 3, none⟩ = some (g) := by rw [cell_at F3.out.box]; rfl
                      have bf : ∀ j, w5.frozen? ⟨w.heap.size, j, none⟩ = false := fun j => free_at F3.out.box j
                      have kc0 : w5.cell? ⟨w.heap.size + 1, 0, none⟩ = some (.int .i64 qf) := by rw [cell_at F3.out.q]; rfl
                      have kc1 : w5.cell? ⟨w.heap.size + 1, 1, none⟩ = some (.int .i64 qt) := by rw [cell_at F3.out.q]; rfl
                      have kc2 : w5.cell? ⟨w.heap.size + 1, 2, none⟩ = some (.int .i64 qi) := by rw [cell_at F3.out.q]; rfl
                      have kc3 : w5.cell? ⟨w.heap.size + 1, 3, none⟩ = some (.int .i64 qm) := by rw [cell_at F3.out.q]; rfl
                      have kf : ∀ j, w5.frozen? ⟨w.heap.size + 1, j, none⟩ = false := fun j => free_at F3.out.q j
                      have lc0 : w5.cell? ⟨w.heap.size + 2, 0, none⟩ = some (.int .i64 li) := by rw [cell_at F3.out.last]; rfl
                      have lc1 : w5.cell? ⟨w.heap.size + 2, 1, none⟩ = some (.int .i64 lm) := by rw [cell_at F3.out.last]; rfl
                      have zc0 : w5.cell? ⟨w.heap.size + 3, 0, none⟩ = some (.int .i64 0) := by rw [cell_at F3.out.res]; rfl
                      have zc1 : w5.cell? ⟨w.heap.size + 3, 1, none⟩ = some (.int .i64 0) := by rw [cell_at F3.out.res]; rfl
                      have zc2 : w5.cell? ⟨w.heap.size + 3, 2, none⟩ = some (.int .i64 0) := by rw [cell_at F3.out.res]; rfl
                      have zc3 : w5.cell? ⟨w.heap.size + 3, 3, none⟩ = some (.slice none 0 0) := by rw [cell_at F3.out.res]; rfl
                      have zf : ∀ j, w5.frozen? ⟨w.heap.size + 3, j, none⟩ = false := fun j => free_at F3.out.res j
                      clear N1 N2 N3 N4
                      go_wp2_with fail
                      refine (HH.out _ F3.out.bel).mono ?_
                      rintro e w6 ⟨g2, rfl, h1, h2⟩
                      dsimp only
                      obtain ⟨a2, cc, rfl⟩ := own_len h1
                      have hs := hideIt F3.out.size
                      have F4 := hideIt ((F3.out.keep h2).keep (below1 w6 (.cells #[.int .i64 V.t, .int .i64 V.v, .int .i64 V.r, .slice a2 V.l.length cc] 26)))
                      have HW := hideIt (own_keep h1 (below1 w6 (.cells #[.int .i64 V.t, .int .i64 V.v, .int .i64 V.r, .slice a2 V.l.length cc] 26)))
                      have hbk : Hid (∀ k, (Value.slice a2 V.l.length cc).ownBlock = some k → k ≠ w6.heap.size) := fun k hk => by have := (own_block h1 hk).1; omega
                      have hs6 : Hid (w.heap.size + 4 ≤ w6.heap.size) := Nat.le_trans hs.out h2.size
                      clear h1 h2 F3 HH bc0 bc1 bc2 bc3 bf kc0 kc1 kc2 kc3 kf lc0 lc1 zc0 zc1 zc2 zc3 zf
                      unfold balV
                      have kc0 : (w6.alloc (.cells #[.int .i64 V.t, .int .i64 V.v, .int .i64 V.r, .slice a2 V.l.length cc] 26)).cell? ⟨w.heap.size + 1, 0, none⟩ = some (.int .i64 qf) := by rw [cell_at F4.out.q]; rfl
                      have kc1 : (w6.alloc (.cells #[.int .i64 V.t, .int .i64 V.v, .int .i64 V.r, .slice a2 V.l.length cc] 26)).cell? ⟨w.heap.size + 1, 1, none⟩ = some (.int .i64 qt) := by rw [cell_at F4.out.q]; rfl
                      have kc2 : (w6.alloc (.cells #[.int .i64 V.t, .int .i64 V.v, .int .i64 V.r, .slice a2 V.l.length cc] 26)).cell? ⟨w.heap.size + 1, 2, none⟩ = some (.int .i64 qi) := by rw [cell_at F4.out.q]; rfl
                      have kc3 : (w6.alloc (.cells #[.int .i64 V.t, .int .i64 V.v, .int .i64 V.r, .slice a2 V.l.length cc] 26)).cell? ⟨w.heap.size + 1, 3, none⟩ = some (.int .i64 qm) := by rw [cell_at F4.out.q]; rfl
                      have kf : ∀ j, (w6.alloc (.cells #[.int .i64 V.t, .int .i64 V.v, .int .i64 V.r, .slice a2 V.l.length cc] 26)).frozen? ⟨w.heap.size + 1, j, none⟩ = false := fun j => free_at F4.out.q j
                      have lc0 : (w6.alloc (.cells #[.int .i64 V.t, .int .i64 V.v, .int .i64 V.r, .slice a2 V.l.length cc] 26)).cell? ⟨w.heap.size + 2, 0, none⟩ = some (.int .i64 li) := by rw [cell_at F4.out.last]; rfl
                      have lc1 : (w6.alloc (.cells #[.int .i64 V.t, .int .i64 V.v, .int .i64 V.r, .slice a2 V.l.length cc] 26)).cell? ⟨w.heap.size + 2, 1, none⟩ = some (.int .i64 lm) := by rw [cell_at F4.out.last]; rfl
                      have ec0 : (w6.alloc (.cells #[.int .i64 V.t, .int .i64 V.v, .int .i64 V.r, .slice a2 V.l.length cc] 26)).cell? ⟨w6.heap.size, 0, none⟩ = some (.int .i64 V.t) := by rw [cell_at (heap_alloc_new w6 _)]; rfl
                      have ec1 : (w6.alloc (.cells #[.int .i64 V.t, .int .i64 V.v, .int .i64 V.r, .slice a2 V.l.length cc] 26)).cell? ⟨w6.heap.size, 1, none⟩ = some (.int .i64 V.v) := by rw [cell_at (heap_alloc_new w6 _)]; rfl
                      have ec2 : (w6.alloc (.cells #[.int .i64 V.t, .int .i64 V.v, .int .i64 V.r, .slice a2 V.l.length cc] 26)).cell? ⟨w6.heap.size, 2, none⟩ = some (.int .i64 V.r) := by rw [cell_at (heap_alloc_new w6 _)]; rfl
                      have ec3 : (w6.alloc (.cells #[.int .i64 V.t, .int .i64 V.v, .int .i64 V.r, .slice a2 V.l.length cc] 26)).cell? ⟨w6.heap.size, 3, none⟩ = some (.slice a2 V.l.length cc) := by rw [cell_at (heap_alloc_new w6 _)]; rfl
                      have ef : ∀ j, (w6.alloc (.cells #[.int .i64 V.t, .int .i64 V.v, .int .i64 V.r, .slice a2 V.l.length cc] 26)).frozen? ⟨w6.heap.size, j, none⟩ = false := fun j => free_at (heap_alloc_new w6 _) j
                      have zc0 : (w6.alloc (.cells #[.int .i64 V.t, .int .i64 V.v, .int .i64 V.r, .slice a2 V.l.length cc] 26)).cell? ⟨w.heap.size + 3, 0, none⟩ = some (.int .i64 0) := by rw [cell_at F4.out.res]; rfl
                      have zc1 : (w6.alloc (.cells #[.int .i64 V.t, .int .i64 V.v, .int .i64 V.r, .slice a2 V.l.length cc] 26)).cell? ⟨w.heap.size + 3, 1, none⟩ = some (.int .i64 0) := by rw [cell_at F4.out.res]; rfl
                      have zc2 : (w6.alloc (.cells #[.int .i64 V.t, .int .i64 V.v, .int .i64 V.r, .slice a2 V.l.length cc] 26)).cell? ⟨w.heap.size + 3, 2, none⟩ = some (.int .i64 0) := by rw [cell_at F4.out.res]; rfl
                      have zc3 : (w6.alloc (.cells #[.int .i64 V.t, .int .i64 V.v, .int .i64 V.r, .slice a2 V.l.length cc] 26)).cell? ⟨w.heap.size + 3, 3, none⟩ = some (.slice none 0 0) := by rw [cell_at F4.out.res]; rfl
                      have zf : ∀ j, (w6.alloc (.cells #[.int .i64 V.t, .int .i64 V.v, .int .i64 V.r, .slice a2 V.l.length cc] 26)).frozen? ⟨w.heap.size + 3, j, none⟩ = false := fun j => free_at F4.out.res j
                      go_wp2_with fail
                      refine (HL.out _).mono ?_
                      rintro e w8 ⟨rfl, hb⟩
                      dsimp only
                      have F6 := hideIt (F4.out.keep hb)
                      have HY2 := hideIt (own_keep HW.out hb)
                      have HE2 := hideIt ((hb.block w6.heap.size (by simp)).trans (heap_alloc_new w6 _))
                      clear hb F4 HW HL kc0 kc1 kc2 kc3 kf lc0 lc1 ec0 ec1 ec2 ec3 ef zc0 zc1 zc2 zc3 zf
                      have ec0 : w8.cell? ⟨w6.heap.size, 0, none⟩ = some (.int .i64 V.t) := by rw [cell_at HE2.out]; rfl
                      have ec1 : w8.cell? ⟨w6.heap.size, 1, none⟩ = some (.int .i64 V.v) := by rw [cell_at HE2.out]; rfl
                      have ec2 : w8.cell? ⟨w6.heap.size, 2, none⟩ = some (.int .i64 V.r) := by rw [cell_at HE2.out]; rfl
                      have ec3 : w8.cell? ⟨w6.heap.size, 3, none⟩ = some (.slice a2 V.l.length cc) := by rw [cell_at HE2.out]; rfl
                      have ef : ∀ j, w8.frozen? ⟨w6.heap.size, j, none⟩ = false := fun j => free_at HE2.out j
                      have kc0 : w8.cell? ⟨w.heap.size + 1, 0, none⟩ = some (.int .i64 qf) := by rw [cell_at F6.out.q]; rfl
                      have kc1 : w8.cell? ⟨w.heap.size + 1, 1, none⟩ = some (.int .i64 qt) := by rw [cell_at F6.out.q]; rfl
                      have kc2 : w8.cell? ⟨w.heap.size + 1, 2, none⟩ = some (.int .i64 qi) := by rw [cell_at F6.out.q]; rfl
                      have kc3 : w8.cell? ⟨w.heap.size + 1, 3, none⟩ = some (.int .i64 qm) := by rw [cell_at F6.out.q]; rfl
                      have kf : ∀ j, w8.frozen? ⟨w.heap.size + 1, j, none⟩ = false := fun j => free_at F6.out.q j
                      have lc0 : w8.cell? ⟨w.heap.size + 2, 0, none⟩ = some (.int .i64 li) := by rw [cell_at F6.out.last]; rfl
                      have lc1 : w8.cell? ⟨w.heap.size + 2, 1, none⟩ = some (.int .i64 lm) := by rw [cell_at F6.out.last]; rfl
                      have zc0 : w8.cell? ⟨w.heap.size + 3, 0, none⟩ = some (.int .i64 0) := by rw [cell_at F6.out.res]; rfl
                      have zc1 : w8.cell? ⟨w.heap.size + 3, 1, none⟩ = some (.int .i64 0) := by rw [cell_at F6.out.res]; rfl
                      have zc2 : w8.cell? ⟨w.heap.size + 3, 2, none⟩ = some (.int .i64 0) := by rw [cell_at F6.out.res]; rfl
                      have zc3 : w8.cell? ⟨w.heap.size + 3, 3, none⟩ = some (.slice none 0 0) := by rw [cell_at F6.out.res]; rfl
                      have zf : ∀ j, w8.frozen? ⟨w.heap.size + 3, j, none⟩ = false := fun j => free_at F6.out.res j
                      have HF := fin4 (w := w) (.int .i64 V.t) (.int .i64 V.v) (.int .i64 V.r) (.slice a2 V.l.length cc) F6.out.res (by omega) F6.out.bel
                      have HG := own4 (R := w.heap.size + 3) (.int .i64 V.t) (.int .i64 V.v) (.int .i64 V.r) (.slice a2 V.l.length cc) HY2.out hs.out w.heap.size (by have := hs.out; omega)
                      clear F6 HY2 HE2 hs hs6 hbk
                      go_wp2
                      obtain ⟨e1, e2⟩ := HF.out
                      have e3 := HG.out
                      revert e1 e2 e3
                      generalize (World.setCell _ ⟨w.heap.size + 3, 3, none⟩ _) = W
                      intro e1 e2 e3
                      exact bodyPost_ret (v := .tuple #[balV V (.slice a2 V.l.length cc), .bool false, .int .i64 0]) (by simp [results, Try.results18, go_sem, cell_at e1, balV]) rfl ⟨_, rfl, e3, e2⟩
                  · rw [show freeB V.t V.v V.r qf qt = false by rw [freeB_eq]; exact if_neg (fun h => h.2.2.elim c3 c4)] at hA
                    have c1b : (V.t != qt) = false := by simp [c1]
                    have c2b : (V.r != 1) = false := by simp [c2]
                    have c3b : (V.v != 0) = true := by simp [c3]
                    have c4b : (V.v != qf) = true := by simp [c4]
                    clear c1 c2 c3 c4
                    rw [if_neg (by simp)] at hA
                    subst hA
                    clear HL
                    go_enter Try.func18, Try.ntmps18
                    go_wp2_with fail
                    refine HM.out.mono ?_
                    rintro e w1 ⟨rfl, hb⟩
                    dsimp only
                    have F1 := hideIt (F0.out.keep hb)
                    clear hb F0 HM
                    have bc0 : w1.cell? ⟨w.heap.size, 0, none⟩ = some (.int .i64 t) := by rw [cell_at F1.out.box]; rfl
                    have bc1 : w1.cell? ⟨w.heap.size, 1, none⟩ = some (.int .i64 v) := by rw [cell_at F1.out.box]; rfl
                    have bc2 : w1.cell? ⟨w.heap.size, 2, none⟩ = some (.int .i64 r) := by rw [cell_at F1.out.box]; rfl
                    have bc3 : w1.cell? ⟨w.heap.size, 3, none⟩ = some (g) := by rw [cell_at F1.out.box]; rfl
                    have bf : ∀ j, w1.frozen? ⟨w.heap.size, j, none⟩ = false := fun j => free_at F1.out.box j
                    have kc0 : w1.cell? ⟨w.heap.size + 1, 0, none⟩ = some (.int .i64 qf) := by rw [cell_at F1.out.q]; rfl
                    have kc1 : w1.cell? ⟨w.heap.size + 1, 1, none⟩ = some (.int .i64 qt) := by rw [cell_at F1.out.q]; rfl
                    have kc2 : w1.cell? ⟨w.heap.size + 1, 2, none⟩ = some (.int .i64 qi) := by rw [cell_at F1.out.q]; rfl
                    have kc3 : w1.cell? ⟨w.heap.size + 1, 3, none⟩ = some (.int .i64 qm) := by rw [cell_at F1.out.q]; rfl
                    have kf : ∀ j, w1.frozen? ⟨w.heap.size + 1, j, none⟩ = false := fun j => free_at F1.out.q j
                    have lc0 : w1.cell? ⟨w.heap.size + 2, 0, none⟩ = some (.int .i64 li) := by rw [cell_at F1.out.last]; rfl
                    have lc1 : w1.cell? ⟨w.heap.size + 2, 1, none⟩ = some (.int .i64 lm) := by rw [cell_at F1.out.last]; rfl
                    have zc0 : w1.cell? ⟨w.heap.size + 3, 0, none⟩ = some (.int .i64 0) := by rw [cell_at F1.out.res]; rfl
                    have zc1 : w1.cell? ⟨w.heap.size + 3, 1, none⟩ = some (.int .i64 0) := by rw [cell_at F1.out.res]; rfl
                    have zc2 : w1.cell? ⟨w.heap.size + 3, 2, none⟩ = some (.int .i64 0) := by rw [cell_at F1.out.res]; rfl
                    have zc3 : w1.cell? ⟨w.heap.size + 3, 3, none⟩ = some (.slice none 0 0) := by rw [cell_at F1.out.res]; rfl
                    have zf : ∀ j, w1.frozen? ⟨w.heap.size + 3, j, none⟩ = false := fun j => free_at F1.out.res j
                    go_wp2_with fail
                    refine (N1.out _).mono ?_
                    rintro e w2 ⟨rfl, rfl⟩
                    dsimp only
                    go_wp2_with fail
                    refine (N2.out _).mono ?_
                    rintro e w3 ⟨rfl, rfl⟩
                    dsimp only
                    go_wp2_with fail
                    refine (N3.out _).mono ?_
                    rintro e w4 ⟨rfl, hb⟩
                    dsimp only
                    have F2 := hideIt (F1.out.keep hb)
                    clear hb F1 bc0 bc1 bc2 bc3 bf kc0 kc1 kc2 kc3 kf lc0 lc1 zc0 zc1 zc2 zc3 zf
                    have bc0 : w4.cell? ⟨w.heap.size, 0, none⟩ = some (.int .i64 t) := by rw [cell_at F2.out.box]; rfl
                    have bc1 : w4.cell? ⟨w.heap.size, 1, none⟩ = some (.int .i64 v) := by rw [cell_at F2.out.box]; rfl
                    have bc2 : w4.cell? ⟨w.heap.size, 2, none⟩ = some (.int .i64 r) := by rw [cell_at F2.out.box]; rfl
                    have bc3 : w4.cell? ⟨w.heap.size, 3, none⟩ = some (g) := by rw [cell_at F2.out.box]; rfl
                    have bf : ∀ j, w4.frozen? ⟨w.heap.size, j, none⟩ = false := fun j => free_at F2.out.box j
                    have kc0 : w4.cell? ⟨w.heap.size + 1, 0, none⟩ = some (.int .i64 qf) := by rw [cell_at F2.out.q]; rfl
                    have kc1 : w4.cell? ⟨w.heap.size + 1, 1, none⟩ = some (.int .i64 qt) := by rw [cell_at F2.out.q]; rfl
                    have kc2 : w4.cell? ⟨w.heap.size + 1, 2, none⟩ = some (.int .i64 qi) := by rw [cell_at F2.out.q]; rfl
                    have kc3 : w4.cell? ⟨w.heap.size + 1, 3, none⟩ = some (.int .i64 qm) := by rw [cell_at F2.out.q]; rfl
                    have kf : ∀ j, w4.frozen? ⟨w.heap.size + 1, j, none⟩ = false := fun j => free_at F2.out.q j
                    have lc0 : w4.cell? ⟨w.heap.size + 2, 0, none⟩ = some (.int .i64 li) := by rw [cell_at F2.out.last]; rfl
                    have lc1 : w4.cell? ⟨w.heap.size + 2, 1, none⟩ = some (.int .i64 lm) := by rw [cell_at F2.out.last]; rfl
                    have zc0 : w4.cell? ⟨w.heap.size + 3, 0, none⟩ = some (.int .i64 0) := by rw [cell_at F2.out.res]; rfl
                    have zc1 : w4.cell? ⟨w.heap.size + 3, 1, none⟩ = some (.int .i64 0) := by rw [cell_at F2.out.res]; rfl
                    have zc2 : w4.cell? ⟨w.heap.size + 3, 2, none⟩ = some (.int .i64 0) := by rw [cell_at F2.out.res]; rfl
                    have zc3 : w4.cell? ⟨w.heap.size + 3, 3, none⟩ = some (.slice none 0 0) := by rw [cell_at F2.out.res]; rfl
                    have zf : ∀ j, w4.frozen? ⟨w.heap.size + 3, j, none⟩ = false := fun j => free_at F2.out.res j
                    go_wp2_with fail
                    refine (N4.out _).mono ?_
                    rintro e w5 ⟨rfl, hb⟩
                    dsimp only
                    have F3 := hideIt (F2.out.keep hb)
                    clear hb F2 bc0 bc1 bc2 bc3 bf kc0 kc1 kc2 kc3 kf lc0 lc1 zc0 zc1 zc2 zc3 zf
                    have bc0 : w5.cell? ⟨w.heap.size, 0, none⟩ = some (.int .i64 t) := by rw [cell_at F3.out.box]; rfl
                    have bc1 : w5.cell? ⟨w.heap.size, 1, none⟩ = some (.int .i64 v) := by rw [cell_at F3.out.box]; rfl
                    have bc2 : w5.cell? ⟨w.heap.size, 2, none⟩ = some (.int .i64 r) := by rw [cell_at F3.out.box]; rfl
                    have bc3 : w5.cell? ⟨w.heap.size, 3, none⟩ = some (g) := by rw [cell_at F3.out.box]; rfl
                    have bf : ∀ j, w5.frozen? ⟨w.heap.size, j, none⟩ = false := fun j => free_at F3.out.box j
                    have kc0 : w5.cell? ⟨w.heap.size + 1, 0, none⟩ = some (.int .i64 qf) := by rw [cell_at F3.out.q]; rfl
                    have kc1 : w5.cell? ⟨w.heap.size + 1, 1, none⟩ = some (.int .i64 qt) := by rw [cell_at F3.out.q]; rfl
                    have kc2 : w5.cell? ⟨w.heap.size + 1, 2, none⟩ = some (.int .i64 qi) := by rw [cell_at F3.out.q]; rfl
                    have kc3 : w5.cell? ⟨w.heap.size + 1, 3, none⟩ = some (.int .i64 qm) := by rw [cell_at F3.out.q]; rfl
                    have kf : ∀ j, w5.frozen? ⟨w.heap.size + 1, j, none⟩ = false := fun j => free_at F3.out.q j
                    have lc0 : w5.cell? ⟨w.heap.size + 2, 0, none⟩ = some (.int .i64 li) := by rw [cell_at F3.out.last]; rfl
                    have lc1 : w5.cell? ⟨w.heap.size + 2, 1, none⟩ = some (.int .i64 lm) := by rw [cell_at F3.out.last]; rfl
                    have zc0 : w5.cell? ⟨w.heap.size + 3, 0, none⟩ = some (.int .i64 0) := by rw [cell_at F3.out.res]; rfl
                    have zc1 : w5.cell? ⟨w.heap.size + 3, 1, none⟩ = some (.int .i64 0) := by rw [cell_at F3.out.res]; rfl
                    have zc2 : w5.cell? ⟨w.heap.size + 3, 2, none⟩ = some (.int .i64 0) := by rw [cell_at F3.out.res]; rfl
                    have zc3 : w5.cell? ⟨w.heap.size + 3, 3, none⟩ = some (.slice none 0 0) := by rw [cell_at F3.out.res]; rfl
                    have zf : ∀ j, w5.frozen? ⟨w.heap.size + 3, j, none⟩ = false := fun j => free_at F3.out.res j
                    clear N1 N2 N3 N4
                    go_wp2_with fail
                    refine (HH.out _ F3.out.bel).mono ?_
                    rintro e w6 ⟨g2, rfl, h1, h2⟩
                    dsimp only
                    obtain ⟨a2, cc, rfl⟩ := own_len h1
                    have hs := hideIt F3.out.size
                    have F4 := hideIt ((F3.out.keep h2).keep (below1 w6 (.cells #[.int .i64 V.t, .int .i64 V.v, .int .i64 V.r, .slice a2 V.l.length cc] 26)))
                    have HW := hideIt (own_keep h1 (below1 w6 (.cells #[.int .i64 V.t, .int .i64 V.v, .int .i64 V.r, .slice a2 V.l.length cc] 26)))
                    have hbk : Hid (∀ k, (Value.slice a2 V.l.length cc).ownBlock = some k → k ≠ w6.heap.size) := fun k hk => by have := (own_block h1 hk).1; omega
                    have hs6 : Hid (w.heap.size + 4 ≤ w6.heap.size) := Nat.le_trans hs.out h2.size
                    clear h1 h2 F3 HH bc0 bc1 bc2 bc3 bf kc0 kc1 kc2 kc3 kf lc0 lc1 zc0 zc1 zc2 zc3 zf
                    unfold balV
                    have kc0 : (w6.alloc (.cells #[.int .i64 V.t, .int .i64 V.v, .int .i64 V.r, .slice a2 V.l.length cc] 26)).cell? ⟨w.heap.size + 1, 0, none⟩ = some (.int .i64 qf) := by rw [cell_at F4.out.q]; rfl
                    have kc1 : (w6.alloc (.cells #[.int .i64 V.t, .int .i64 V.v, .int .i64 V.r, .slice a2 V.l.length cc] 26)).cell? ⟨w.heap.size + 1, 1, none⟩ = some (.int .i64 qt) := by rw [cell_at F4.out.q]; rfl
                    have kc2 : (w6.alloc (.cells #[.int .i64 V.t, .int .i64 V.v, .int .i64 V.r, .slice a2 V.l.length cc] 26)).cell? ⟨w.heap.size + 1, 2, none⟩ = some (.int .i64 qi) := by rw [cell_at F4.out.q]; rfl
                    have kc3 : (w6.alloc (.cells #[.int .i64 V.t, .int .i64 V.v, .int .i64 V.r, .slice a2 V.l.length cc] 26)).cell? ⟨w.heap.size + 1, 3, none⟩ = some (.int .i64 qm) := by rw [cell_at F4.out.q]; rfl
                    have kf : ∀ j, (w6.alloc (.cells #[.int .i64 V.t, .int .i64 V.v, .int .i64 V.r, .slice a2 V.l.length cc] 26)).frozen? ⟨w.heap.size + 1, j, none⟩ = false := fun j => free_at F4.out.q j
                    have lc0 : (w6.alloc (.cells #[.int .i64 V.t, .int .i64 V.v, .int .i64 V.r, .slice a2 V.l.length cc] 26)).cell? ⟨w.heap.size + 2, 0, none⟩ = some (.int .i64 li) := by rw [cell_at F4.out.last]; rfl
                    have lc1 : (w6.alloc (.cells #[.int .i64 V.t, .int .i64 V.v, .int .i64 V.r, .slice a2 V.l.length cc] 26)).cell? ⟨w.heap.size + 2, 1, none⟩ = some (.int .i64 lm) := by rw [cell_at F4.out.last]; rfl
                    have ec0 : (w6.alloc (.cells #[.int .i64 V.t, .int .i64 V.v, .int .i64 V.r, .slice a2 V.l.length cc] 26)).cell? ⟨w6.heap.size, 0, none⟩ = some (.int .i64 V.t) := by rw [cell_at (heap_alloc_new w6 _)]; rfl
                    have ec1 : (w6.alloc (.cells #[.int .i64 V.t, .int .i64 V.v, .int .i64 V.r, .slice a2 V.l.length cc] 26)).cell? ⟨w6.heap.size, 1, none⟩ = some (.int .i64 V.v) := by rw [cell_at (heap_alloc_new w6 _)]; rfl
                    have ec2 : (w6.alloc (.cells #[.int .i64 V.t, .int .i64 V.v, .int .i64 V.r, .slice a2 V.l.length cc] 26)).cell? ⟨w6.heap.size, 2, none⟩ = some (.int .i64 V.r) := by rw [cell_at (heap_alloc_new w6 _)]; rfl
                    have ec3 : (w6.alloc (.cells #[.int .i64 V.t, .int .i64 V.v, .int .i64 V.r, .slice a2 V.l.length cc] 26)).cell? ⟨w6.heap.size, 3, none⟩ = some (.slice a2 V.l.length cc) := by rw [cell_at (heap_alloc_new w6 _)]; rfl
                    have ef : ∀ j, (w6.alloc (.cells #[.int .i64 V.t, .int .i64 V.v, .int .i64 V.r, .slice a2 V.l.length cc] 26)).frozen? ⟨w6.heap.size, j, none⟩ = false := fun j => free_at (heap_alloc_new w6 _) j
                    have zc0 : (w6.alloc (.cells #[.int .i64 V.t, .int .i64 V.v, .int .i64 V.r, .slice a2 V.l.length cc] 26)).cell? ⟨w.heap.size + 3, 0, none⟩ = some (.int .i64 0) := by rw [cell_at F4.out.res]; rfl
                    have zc1 : (w6.alloc (.cells #[.int .i64 V.t, .int .i64 V.v, .int .i64 V.r, .slice a2 V.l.length cc] 26)).cell? ⟨w.heap.size + 3, 1, none⟩ = some (.int .i64 0) := by rw [cell_at F4.out.res]; rfl
                    have zc2 : (w6.alloc (.cells #[.int .i64 V.t, .int .i64 V.v, .int .i64 V.r, .slice a2 V.l.length cc] 26)).cell? ⟨w.heap.size + 3, 2, none⟩ = some (.int .i64 0) := by rw [cell_at F4.out.res]; rfl
                    have zc3 : (w6.alloc (.cells #[.int .i64 V.t, .int .i64 V.v, .int .i64 V.r, .slice a2 V.l.length cc] 26)).cell? ⟨w.heap.size + 3, 3, none⟩ = some (.slice none 0 0) := by rw [cell_at F4.out.res]; rfl
                    have zf : ∀ j, (w6.alloc (.cells #[.int .i64 V.t, .int .i64 V.v, .int .i64 V.r, .slice a2 V.l.length cc] 26)).frozen? ⟨w.heap.size + 3, j, none⟩ = false := fun j => free_at F4.out.res j
                    have HF := fin4 (w := w) (.int .i64 V.t) (.int .i64 V.v) (.int .i64 V.r) (.slice a2 V.l.length cc) F4.out.res (by omega) F4.out.bel
                    have HG := own4 (R := w.heap.size + 3) (.int .i64 V.t) (.int .i64 V.v) (.int .i64 V.r) (.slice a2 V.l.length cc) HW.out hs.out w.heap.size (by have := hs.out; omega)
                    clear F4 HW hs hs6 hbk
                    go_wp2
                    obtain ⟨e1, e2⟩ := HF.out
                    have e3 := HG.out
                    revert e1 e2 e3
                    generalize (World.setCell _ ⟨w.heap.size + 3, 3, none⟩ _) = W
                    intro e1 e2 e3
                    exact bodyPost_ret (v := .tuple #[balV V (.slice a2 V.l.length cc), .bool false, .int .i64 0]) (by simp [results, Try.results18, go_sem, cell_at e1, balV]) rfl ⟨_, rfl, e3, e2⟩
              · rw [show freeB V.t V.v V.r qf qt = false by rw [freeB_eq]; exact if_neg (fun h => c2 h.2.1)] at hA
                have c1b : (V.t != qt) = false := by simp [c1]
                have c2b : (V.r != 1) = true := by simp [c2]
                clear c1 c2
                rw [if_neg (by simp)] at hA
                subst hA
                clear HL
                go_enter Try.func18, Try.ntmps18
                go_wp2_with fail
                refine HM.out.mono ?_
                rintro e w1 ⟨rfl, hb⟩
                dsimp only
                have F1 := hideIt (F0.out.keep hb)
                clear hb F0 HM
                have bc0 : w1.cell? ⟨w.heap.size, 0, none⟩ = some (.int .i64 t) := by rw [cell_at F1.out.box]; rfl
                have bc1 : w1.cell? ⟨w.heap.size, 1, none⟩ = some (.int .i64 v) := by rw [cell_at F1.out.box]; rfl
                have bc2 : w1.cell? ⟨w.heap.size, 2, none⟩ = some (.int .i64 r) := by rw [cell_at F1.out.box]; rfl
                have bc3 : w1.cell? ⟨w.heap.size, 3, none⟩ = some (g) := by rw [cell_at F1.out.box]; rfl
                have bf : ∀ j, w1.frozen? ⟨w.heap.size, j, none⟩ = false := fun j => free_at F1.out.box j
                have kc0 : w1.cell? ⟨w.heap.size + 1, 0, none⟩ = some (.int .i64 qf) := by rw [cell_at F1.out.q]; rfl
                have kc1 : w1.cell? ⟨w.heap.size + 1, 1, none⟩ = some (.int .i64 qt) := by rw [cell_at F1.out.q]; rfl
                have kc2 : w1.cell? ⟨w.heap.size + 1, 2, none⟩ = some (.int .i64 qi) := by rw [cell_at F1.out.q]; rfl
                have kc3 : w1.cell? ⟨w.heap.size + 1, 3, none⟩ = some (.int .i64 qm) := by rw [cell_at F1.out.q]; rfl
                have kf : ∀ j, w1.frozen? ⟨w.heap.size + 1, j, none⟩ = false := fun j => free_at F1.out.q j
                have lc0 : w1.cell? ⟨w.heap.size + 2, 0, none⟩ = some (.int .i64 li) := by rw [cell_at F1.out.last]; rfl
                have lc1 : w1.cell? ⟨w.heap.size + 2, 1, none⟩ = some (.int .i64 lm) := by rw [cell_at F1.out.last]; rfl
                have zc0 : w1.cell? ⟨w.heap.size + 3, 0, none⟩ = some (.int .i64 0) := by rw [cell_at F1.out.res]; rfl
                have zc1 : w1.cell? ⟨w.heap.size + 3, 1, none⟩ = some (.int .i64 0) := by rw [cell_at F1.out.res]; rfl
                have zc2 : w1.cell? ⟨w.heap.size + 3, 2, none⟩ = some (.int .i64 0) := by rw [cell_at F1.out.res]; rfl
                have zc3 : w1.cell? ⟨w.heap.size + 3, 3, none⟩ = some (.slice none 0 0) := by rw [cell_at F1.out.res]; rfl
                have zf : ∀ j, w1.frozen? ⟨w.heap.size + 3, j, none⟩ = false := fun j => free_at F1.out.res j
                go_wp2_with fail
                refine (N1.out _).mono ?_
                rintro e w2 ⟨rfl, rfl⟩
                dsimp only
                go_wp2_with fail
                refine (N2.out _).mono ?_
                rintro e w3 ⟨rfl, rfl⟩
                dsimp only
                go_wp2_with fail
                refine (N3.out _).mono ?_
                rintro e w4 ⟨rfl, hb⟩
                dsimp only
                have F2 := hideIt (F1.out.keep hb)
                clear hb F1 bc0 bc1 bc2 bc3 bf kc0 kc1 kc2 kc3 kf lc0 lc1 zc0 zc1 zc2 zc3 zf
                have bc0 : w4.cell? ⟨w.heap.size, 0, none⟩ = some (.int .i64 t) := by rw [cell_at F2.out.box]; rfl
                have bc1 : w4.cell? ⟨w.heap.size, 1, none⟩ = some (.int .i64 v) := by rw [cell_at F2.out.box]; rfl
                have bc2 : w4.cell? ⟨w.heap.size, 2, none⟩ = some (.int .i64 r) := by rw [cell_at F2.out.box]; rfl
                have bc3 : w4.cell? ⟨w.heap.size, 3, none⟩ = some (g) := by rw [cell_at F2.out.box]; rfl
                have bf : ∀ j, w4.frozen? ⟨w.heap.size, j, none⟩ = false := fun j => free_at F2.out.box j
                have kc0 : w4.cell? ⟨w.heap.size + 1, 0, none⟩ = some (.int .i64 qf) := by rw [cell_at F2.out.q]; rfl
                have kc1 : w4.cell? ⟨w.heap.size + 1, 1, none⟩ = some (.int .i64 qt) := by rw [cell_at F2.out.q]; rfl
                have kc2 : w4.cell? ⟨w.heap.size + 1, 2, none⟩ = some (.int .i64 qi) := by rw [cell_at F2.out.q]; rfl
                have kc3 : w4.cell? ⟨w.heap.size + 1, 3, none⟩ = some (.int .i64 qm) := by rw [cell_at F2.out.q]; rfl
                have kf : ∀ j, w4.frozen? ⟨w.heap.size + 1, j, none⟩ = false := fun j => free_at F2.out.q j
                have lc0 : w4.cell? ⟨w.heap.size + 2, 0, none⟩ = some (.int .i64 li) := by rw [cell_at F2.out.last]; rfl
                have lc1 : w4.cell? ⟨w.heap.size + 2, 1, none⟩ = some (.int .i64 lm) := by rw [cell_at F2.out.last]; rfl
                have zc0 : w4.cell? ⟨w.heap.size + 3, 0, none⟩ = some (.int .i64 0) := by rw [cell_at F2.out.res]; rfl
                have zc1 : w4.cell? ⟨w.heap.size + 3, 1, none⟩ = some (.int .i64 0) := by rw [cell_at F2.out.res]; rfl
                have zc2 : w4.cell? ⟨w.heap.size + 3, 2, none⟩ = some (.int .i64 0) := by rw [cell_at F2.out.res]; rfl
                have zc3 : w4.cell? ⟨w.heap.size + 3, 3, none⟩ = some (.slice none 0 0) := by rw [cell_at F2.out.res]; rfl
                have zf : ∀ j, w4.frozen? ⟨w.heap.size + 3, j, none⟩ = false := fun j => free_at F2.out.res j
                go_wp2_with fail
                refine (N4.out _).mono ?_
                rintro e w5 ⟨rfl, hb⟩
                dsimp only
                have F3 := hideIt (F2.out.keep hb)
                clear hb F2 bc0 bc1 bc2 bc3 bf kc0 kc1 kc2 kc3 kf lc0 lc1 zc0 zc1 zc2 zc3 zf
                have bc0 : w5.cell? ⟨w.heap.size, 0, none⟩ = some (.int .i64 t) := by rw [cell_at F3.out.box]; rfl
                have bc1 : w5.cell? ⟨w.heap.size, 1, none⟩ = some (.int .i64 v) := by rw [cell_at F3.out.box]; rfl
                have bc2 : w5.cell? ⟨w.heap.size, 2, none⟩ = some (.int .i64 r) := by rw [cell_at F3.out.box]; rfl
                have bc3 : w5.cell? ⟨w.heap.size, 3, none⟩ = some (g) := by rw [cell_at F3.out.box]; rfl
                have bf : ∀ j, w5.frozen? ⟨w.heap.size, j, none⟩ = false := fun j => free_at F3.out.box j
                have kc0 : w5.cell? ⟨w.heap.size + 1, 0, none⟩ = some (.int .i64 qf) := by rw [cell_at F3.out.q]; rfl
                have kc1 : w5.cell? ⟨w.heap.size + 1, 1, none⟩ = some (.int .i64 qt) := by rw [cell_at F3.out.q]; rfl
                have kc2 : w5.cell? ⟨w.heap.size + 1, 2, none⟩ = some (.int .i64 qi) := by rw [cell_at F3.out.q]; rfl
                have kc3 : w5.cell? ⟨w.heap.size + 1, 3, none⟩ = some (.int .i64 qm) := by rw [cell_at F3.out.q]; rfl
                have kf : ∀ j, w5.frozen? ⟨w.heap.size + 1, j, none⟩ = false := fun j => free_at F3.out.q j
                have lc0 : w5.cell? ⟨w.heap.size + 2, 0, none⟩ = some (.int .i64 li) := by rw [cell_at F3.out.last]; rfl
                have lc1 : w5.cell? ⟨w.heap.size + 2, 1, none⟩ = some (.int .i64 lm) := by rw [cell_at F3.out.last]; rfl
                have zc0 : w5.cell? ⟨w.heap.size + 3, 0, none⟩ = some (.int .i64 0) := by rw [cell_at F3.out.res]; rfl
                have zc1 : w5.cell? ⟨w.heap.size + 3, 1, none⟩ = some (.int .i64 0) := by rw [cell_at F3.out.res]; rfl
                have zc2 : w5.cell? ⟨w.heap.size + 3, 2, none⟩ = some (.int .i64 0) := by rw [cell_at F3.out.res]; rfl
                have zc3 : w5.cell? ⟨w.heap.size + 3, 3, none⟩ = some (.slice none 0 0) := by rw [cell_at F3.out.res]; rfl
                have zf : ∀ j, w5.frozen? ⟨w.heap.size + 3, j, none⟩ = false := fun j => free_at F3.out.res j
                clear N1 N2 N3 N4
                go_wp2_with fail
                refine (HH.out _ F3.out.bel).mono ?_
                rintro e w6 ⟨g2, rfl, h1, h2⟩
                dsimp only
                obtain ⟨a2, cc, rfl⟩ := own_len h1
                have hs := hideIt F3.out.size
                have F4 := hideIt ((F3.out.keep h2).keep (below1 w6 (.cells #[.int .i64 V.t, .int .i64 V.v, .int .i64 V.r, .slice a2 V.l.length cc] 26)))
                have HW := hideIt (own_keep h1 (below1 w6 (.cells #[.int .i64 V.t, .int .i64 V.v, .int .i64 V.r, .slice a2 V.l.length cc] 26)))
                have hbk : Hid (∀ k, (Value.slice a2 V.l.length cc).ownBlock = some k → k ≠ w6.heap.size) := fun k hk => by have := (own_block h1 hk).1; omega
                have hs6 : Hid (w.heap.size + 4 ≤ w6.heap.size) := Nat.le_trans hs.out h2.size
                clear h1 h2 F3 HH bc0 bc1 bc2 bc3 bf kc0 kc1 kc2 kc3 kf lc0 lc1 zc0 zc1 zc2 zc3 zf
                unfold balV
                have kc0 : (w6.alloc (.cells #[.int .i64 V.t, .int .i64 V.v, .int .i64 V.r, .slice a2 V.l.length cc] 26)).cell? ⟨w.heap.size + 1, 0, none⟩ = some (.int .i64 qf) := by rw [cell_at F4.out.q]; rfl
                have kc1 : (w6.alloc (.cells #[.int .i64 V.t, .int .i64 V.v, .int .i64 V.r, .slice a2 V.l.length cc] 26)).cell? ⟨w.heap.size + 1, 1, none⟩ = some (.int .i64 qt) := by rw [cell_at F4.out.q]; rfl
                have kc2 : (w6.alloc (.cells #[.int .i64 V.t, .int .i64 V.v, .int .i64 V.r, .slice a2 V.l.length cc] 26)).cell? ⟨w.heap.size + 1, 2, none⟩ = some (.int .i64 qi) := by rw [cell_at F4.out.q]; rfl
                have kc3 : (w6.alloc (.cells #[.int .i64 V.t, .int .i64 V.v, .int .i64 V.r, .slice a2 V.l.length cc] 26)).cell? ⟨w.heap.size + 1, 3, none⟩ = some (.int .i64 qm) := by rw [cell_at F4.out.q]; rfl
                have kf : ∀ j, (w6.alloc (.cells #[.int .i64 V.t, .int .i64 V.v, .int .i64 V.r, .slice a2 V.l.length cc] 26)).frozen? ⟨w.heap.size + 1, j, none⟩ = false := fun j => free_at F4.out.q j
                have lc0 : (w6.alloc (.cells #[.int .i64 V.t, .int .i64 V.v, .int .i64 V.r, .slice a2 V.l.length cc] 26)).cell? ⟨w.heap.size + 2, 0, none⟩ = some (.int .i64 li) := by rw [cell_at F4.out.last]; rfl
                have lc1 : (w6.alloc (.cells #[.int .i64 V.t, .int .i64 V.v, .int .i64 V.r, .slice a2 V.l.length cc] 26)).cell? ⟨w.heap.size + 2, 1, none⟩ = some (.int .i64 lm) := by rw [cell_at F4.out.last]; rfl
                have ec0 : (w6.alloc (.cells #[.int .i64 V.t, .int .i64 V.v, .int .i64 V.r, .slice a2 V.l.length cc] 26)).cell? ⟨w6.heap.size, 0, none⟩ = some (.int .i64 V.t) := by rw [cell_at (heap_alloc_new w6 _)]; rfl
                have ec1 : (w6.alloc (.cells #[.int .i64 V.t, .int .i64 V.v, .int .i64 V.r, .slice a2 V.l.length cc] 26)).cell? ⟨w6.heap.size, 1, none⟩ = some (.int .i64 V.v) := by rw [cell_at (heap_alloc_new w6 _)]; rfl
                have ec2 : (w6.alloc (.cells #[.int .i64 V.t, .int .i64 V.v, .int .i64 V.r, .slice a2 V.l.length cc] 26)).cell? ⟨w6.heap.size, 2, none⟩ = some (.int .i64 V.r) := by rw [cell_at (heap_alloc_new w6 _)]; rfl
                have ec3 : (w6.alloc (.cells #[.int .i64 V.t, .int .i64 V.v, .int .i64 V.r, .slice a2 V.l.length cc] 26)).cell? ⟨w6.heap.size, 3, none⟩ = some (.slice a2 V.l.length cc) := by rw [cell_at (heap_alloc_new w6 _)]; rfl
                have ef : ∀ j, (w6.alloc (.cells #[.int .i64 V.t, .int .i64 V.v, .int .i64 V.r, .slice a2 V.l.length cc] 26)).frozen? ⟨w6.heap.size, j, none⟩ = false := fun j => free_at (heap_alloc_new w6 _) j
                have zc0 : (w6.alloc (.cells #[.int .i64 V.t, .int .i64 V.v, .int .i64 V.r, .slice a2 V.l.length cc] 26)).cell? ⟨w.heap.size + 3, 0, none⟩ = some (.int .i64 0) := by rw [cell_at F4.out.res]; rfl
                have zc1 : (w6.alloc (.cells #[.int .i64 V.t, .int .i64 V.v, .int .i64 V.r, .slice a2 V.l.length cc] 26)).cell? ⟨w.heap.size + 3, 1, none⟩ = some (.int .i64 0) := by rw [cell_at F4.out.res]; rfl
                have zc2 : (w6.alloc (.cells #[.int .i64 V.t, .int .i64 V.v, .int .i64 V.r, .slice a2 V.l.length cc] 26)).cell? ⟨w.heap.size + 3, 2, none⟩ = some (.int .i64 0) := by rw [cell_at F4.out.res]; rfl
                have zc3 : (w6.alloc (.cells #[.int .i64 V.t, .int .i64 V.v, .int .i64 V.r, .slice a2 V.l.length cc] 26)).cell? ⟨w.heap.size + 3, 3, none⟩ = some (.slice none 0 0) := by rw [cell_at F4.out.res]; rfl
                have zf : ∀ j, (w6.alloc (.cells #[.int .i64 V.t, .int .i64 V.v, .int .i64 V.r, .slice a2 V.l.length cc] 26)).frozen? ⟨w.heap.size + 3, j, none⟩ = false := fun j => free_at F4.out.res j
                have HF := fin4 (w := w) (.int .i64 V.t) (.int .i64 V.v) (.int .i64 V.r) (.slice a2 V.l.length cc) F4.out.res (by omega) F4.out.bel
                have HG := own4 (R := w.heap.size + 3) (.int .i64 V.t) (.int .i64 V.v) (.int .i64 V.r) (.slice a2 V.l.length cc) HW.out hs.out w.heap.size (by have := hs.out; omega)
                clear F4 HW hs hs6 hbk
                go_wp2
                obtain ⟨e1, e2⟩ := HF.out
                have e3 := HG.out
                revert e1 e2 e3
                generalize (World.setCell _ ⟨w.heap.size + 3, 3, none⟩ _) = W
                intro e1 e2 e3
                exact bodyPost_ret (v := .tuple #[balV V (.slice a2 V.l.length cc), .bool false, .int .i64 0]) (by simp [results, Try.results18, go_sem, cell_at e1, balV]) rfl ⟨_, rfl, e3, e2⟩
            · rw [show freeB V.t V.v V.r qf qt = false by rw [freeB_eq]; exact if_neg (fun h => c1 h.1)] at hA
              have c1b : (V.t != qt) = true := by simp [c1]
              clear c1
              rw [if_neg (by simp)] at hA
              subst hA
              clear HL
              go_enter Try.func18, Try.ntmps18
              go_wp2_with fail
              refine HM.out.mono ?_
              rintro e w1 ⟨rfl, hb⟩
              dsimp only
              have F1 := hideIt (F0.out.keep hb)
              clear hb F0 HM
              have bc0 : w1.cell? ⟨w.heap.size, 0, none⟩ = some (.int .i64 t) := by rw [cell_at F1.out.box]; rfl
              have bc1 : w1.cell? ⟨w.heap.size, 1, none⟩ = some (.int .i64 v) := by rw [cell_at F1.out.box]; rfl
              have bc2 : w1.cell? ⟨w.heap.size, 2, none⟩ = some (.int .i64 r) := by rw [cell_at F1.out.box]; rfl
              have bc3 : w1.cell? ⟨w.heap.size, 3, none⟩ = some (g) := by rw [cell_at F1.out.box]; rfl
              have bf : ∀ j, w1.frozen? ⟨w.heap.size, j, none⟩ = false := fun j => free_at F1.out.box j
              have kc0 : w1.cell? ⟨w.heap.size + 1, 0, none⟩ = some (.int .i64 qf) := by rw [cell_at F1.out.q]; rfl
              have kc1 : w1.cell? ⟨w.heap.size + 1, 1, none⟩ = some (.int .i64 qt) := by rw [cell_at F1.out.q]; rfl
              have kc2 : w1.cell? ⟨w.heap.size + 1, 2, none⟩ = some (.int .i64 qi) := by rw [cell_at F1.out.q]; rfl
              have kc3 : w1.cell? ⟨w.heap.size + 1, 3, none⟩ = some (.int .i64 qm) := by rw [cell_at F1.out.q]; rfl
              have kf : ∀ j, w1.frozen? ⟨w.heap.size + 1, j, none⟩ = false := fun j => free_at F1.out.q j
              have lc0 : w1.cell? ⟨w.heap.size + 2, 0, none⟩ = some (.int .i64 li) := by rw [cell_at F1.out.last]; rfl
              have lc1 : w1.cell? ⟨w.heap.size + 2, 1, none⟩ = some (.int .i64 lm) := by rw [cell_at F1.out.last]; rfl
              have zc0 : w1.cell? ⟨w.heap.size + 3, 0, none⟩ = some (.int .i64 0) := by rw [cell_at F1.out.res]; rfl
              have zc1 : w1.cell? ⟨w.heap.size + 3, 1, none⟩ = some (.int .i64 0) := by rw [cell_at F1.out.res]; rfl
              have zc2 : w1.cell? ⟨w.heap.size + 3, 2, none⟩ = some (.int .i64 0) := by rw [cell_at F1.out.res]; rfl
              have zc3 : w1.cell? ⟨w.heap.size + 3, 3, none⟩ = some (.slice none 0 0) := by rw [cell_at F1.out.res]; rfl
              have zf : ∀ j, w1.frozen? ⟨w.heap.size + 3, j, none⟩ = false := fun j => free_at F1.out.res j
              go_wp2_with fail
              refine (N1.out _).mono ?_
              rintro e w2 ⟨rfl, rfl⟩
              dsimp only
              go_wp2_with fail
              refine (N2.out _).mono ?_
              rintro e w3 ⟨rfl, rfl⟩
              dsimp only
              go_wp2_with fail
              refine (N3.out _).mono ?_
              rintro e w4 ⟨rfl, hb⟩
              dsimp only
              have F2 := hideIt (F1.out.keep hb)
              clear hb F1 bc0 bc1 bc2 bc3 bf kc0 kc1 kc2 kc3 kf lc0 lc1 zc0 zc1 zc2 zc3 zf
              have bc0 : w4.cell? ⟨w.heap.size, 0, none⟩ = some (.int .i64 t) := by rw [cell_at F2.out.box]; rfl
              have bc1 : w4.cell? ⟨w.heap.size, 1, none⟩ = some (.int .i64 v) := by rw [cell_at F2.out.box]; rfl
              have bc2 : w4.cell? ⟨w.heap.size, 2, none⟩ = some (.int .i64 r) := by rw [cell_at F2.out.box]; rfl
              have bc3 : w4.cell? ⟨w.heap.size, 3, none⟩ = some (g) := by rw [cell_at F2.out.box]; rfl
              have bf : ∀ j, w4.frozen? ⟨w.heap.size, j, none⟩ = false := fun j => free_at F2.out.box j
              have kc0 : w4.cell? ⟨w.heap.size + 1, 0, none⟩ = some (.int .i64 qf) := by rw [cell_at F2.out.q]; rfl
              have kc1 : w4.cell? ⟨w.heap.size + 1, 1, none⟩ = some (.int .i64 qt) := by rw [cell_at F2.out.q]; rfl
              have kc2 : w4.cell? ⟨w.heap.size + 1, 2, none⟩ = some (.int .i64 qi) := by rw [cell_at F2.out.q]; rfl
              have kc3 : w4.cell? ⟨w.heap.size + 1, 3, none⟩ = some (.int .i64 qm) := by rw [cell_at F2.out.q]; rfl
              have kf : ∀ j, w4.frozen? ⟨w.heap.size + 1, j, none⟩ = false := fun j => free_at F2.out.q j
              have lc0 : w4.cell? ⟨w.heap.size + 2, 0, none⟩ = some (.int .i64 li) := by rw [cell_at F2.out.last]; rfl
              have lc1 : w4.cell? ⟨w.heap.size + 2, 1, none⟩ = some (.int .i64 lm) := by rw [cell_at F2.out.last]; rfl
              have zc0 : w4.cell? ⟨w.heap.size + 3, 0, none⟩ = some (.int .i64 0) := by rw [cell_at F2.out.res]; rfl
              have zc1 : w4.cell? ⟨w.heap.size + 3, 1, none⟩ = some (.int .i64 0) := by rw [cell_at F2.out.res]; rfl
              have zc2 : w4.cell? ⟨w.heap.size + 3, 2, none⟩ = some (.int .i64 0) := by rw [cell_at F2.out.res]; rfl
              have zc3 : w4.cell? ⟨w.heap.size + 3, 3, none⟩ = some (.slice none 0 0) := by rw [cell_at F2.out.res]; rfl
              have zf : ∀ j, w4.frozen? ⟨w.heap.size + 3, j, none⟩ = false := fun j => free_at F2.out.res j
              go_wp2_with fail
              refine (N4.out _).mono ?_
              rintro e w5 ⟨rfl, hb⟩
              dsimp only
              have F3 := hideIt (F2.out.keep hb)
              clear hb F2 bc0 bc1 bc2 bc3 bf kc0 kc1 kc2 kc3 kf lc0 lc1 zc0 zc1 zc2 zc3 zf
              have bc0 : w5.cell? ⟨w.heap.size, 0, none⟩ = some (.int .i64 t) := by rw [cell_at F3.out.box]; rfl
              have bc1 : w5.cell? ⟨w.heap.size, 1, none⟩ = some (.int .i64 v) := by rw [cell_at F3.out.box]; rfl
              have bc2 : w5.cell? ⟨w.heap.size, 2, none⟩ = some (.int .i64 r) := by rw [cell_at F3.out.box]; rfl
              have bc3 : w5.cell? ⟨w.heap.size, 3, none⟩ = some (g) := by rw [cell_at F3.out.box]; rfl
              have bf : ∀ j, w5.frozen? ⟨w.heap.size, j, none⟩ = false := fun j => free_at F3.out.box j
              have kc0 : w5.cell? ⟨w.heap.size + 1, 0, none⟩ = some (.int .i64 qf) := by rw [cell_at F3.out.q]; rfl
              have kc1 : w5.cell? ⟨w.heap.size + 1, 1, none⟩ = some (.int .i64 qt) := by rw [cell_at F3.out.q]; rfl
              have kc2 : w5.cell? ⟨w.heap.size + 1, 2, none⟩ = some (.int .i64 qi) := by rw [cell_at F3.out.q]; rfl
              have kc3 : w5.cell? ⟨w.heap.size + 1, 3, none⟩ = some (.int .i64 qm) := by rw [cell_at F3.out.q]; rfl
              have kf : ∀ j, w5.frozen? ⟨w.heap.size + 1, j, none⟩ = false := fun j => free_at F3.out.q j
              have lc0 : w5.cell? ⟨w.heap.size + 2, 0, none⟩ = some (.int .i64 li) := by rw [cell_at F3.out.last]; rfl
              have lc1 : w5.cell? ⟨w.heap.size + 2, 1, none⟩ = some (.int .i64 lm) := by rw [cell_at F3.out.last]; rfl
              have zc0 : w5.cell? ⟨w.heap.size + 3, 0, none⟩ = some (.int .i64 0) := by rw [cell_at F3.out.res]; rfl
              have zc1 : w5.cell? ⟨w.heap.size + 3, 1, none⟩ = some (.int .i64 0) := by rw [cell_at F3.out.res]; rfl
              have zc2 : w5.cell? ⟨w.heap.size + 3, 2, none⟩ = some (.int .i64 0) := by rw [cell_at F3.out.res]; rfl
              have zc3 : w5.cell? ⟨w.heap.size + 3, 3, none⟩ = some (.slice none 0 0) := by rw [cell_at F3.out.res]; rfl
              have zf : ∀ j, w5.frozen? ⟨w.heap.size + 3, j, none⟩ = false := fun j => free_at F3.out.res j
              clear N1 N2 N3 N4
              go_wp2_with fail
              refine (HH.out _ F3.out.bel).mono ?_
              rintro e w6 ⟨g2, rfl, h1, h2⟩
              dsimp only
              obtain ⟨a2, cc, rfl⟩ := own_len h1
              have hs := hideIt F3.out.size
              have F4 := hideIt ((F3.out.keep h2).keep (below1 w6 (.cells #[.int .i64 V.t, .int .i64 V.v, .int .i64 V.r, .slice a2 V.l.length cc] 26)))
              have HW := hideIt (own_keep h1 (below1 w6 (.cells #[.int .i64 V.t, .int .i64 V.v, .int .i64 V.r, .slice a2 V.l.length cc] 26)))
              have hbk : Hid (∀ k, (Value.slice a2 V.l.length cc).ownBlock = some k → k ≠ w6.heap.size) := fun k hk => by have := (own_block h1 hk).1; omega
              have hs6 : Hid (w.heap.size + 4 ≤ w6.heap.size) := Nat.le_trans hs.out h2.size
              clear h1 h2 F3 HH bc0 bc1 bc2 bc3 bf kc0 kc1 kc2 kc3 kf lc0 lc1 zc0 zc1 zc2 zc3 zf
              unfold balV
              have kc0 : (w6.alloc (.cells #[.int .i64 V.t, .int .i64 V.v, .int .i64 V.r, .slice a2 V.l.length cc] 26)).cell? ⟨w.heap.size + 1, 0, none⟩ = some (.int .i64 qf) := by rw [cell_at F4.out.q]; rfl
              have kc1 : (w6.alloc (.cells #[.int .i64 V.t, .int .i64 V.v, .int .i64 V.r, .slice a2 V.l.length cc] 26)).cell? ⟨w.heap.size + 1, 1, none⟩ = some (.int .i64 qt) := by rw [cell_at F4.out.q]; rfl
              have kc2 : (w6.alloc (.cells #[.int .i64 V.t, .int .i64 V.v, .int .i64 V.r, .slice a2 V.l.length cc] 26)).cell? ⟨w.heap.size + 1, 2, none⟩ = some (.int .i64 qi) := by rw [cell_at F4.out.q]; rfl
              have kc3 : (w6.alloc (.cells #[.int .i64 V.t, .int .i64 V.v, .int .i64 V.r, .slice a2 V.l.length cc] 26)).cell? ⟨w.heap.size + 1, 3, none⟩ = some (.int .i64 qm) := by rw [cell_at F4.out.q]; rfl
              have kf : ∀ j, (w6.alloc (.cells #[.int .i64 V.t, .int .i64 V.v, .int .i64 V.r, .slice a2 V.l.length cc] 26)).frozen? ⟨w.heap.size + 1, j, none⟩ = false := fun j => free_at F4.out.q j
              have lc0 : (w6.alloc (.cells #[.int .i64 V.t, .int .i64 V.v, .int .i64 V.r, .slice a2 V.l.length cc] 26)).cell? ⟨w.heap.size + 2, 0, none⟩ = some (.int .i64 li) := by rw [cell_at F4.out.last]; rfl
              have lc1 : (w6.alloc (.cells #[.int .i64 V.t, .int .i64 V.v, .int .i64 V.r, .slice a2 V.l.length cc] 26)).cell? ⟨w.heap.size + 2, 1, none⟩ = some (.int .i64 lm) := by rw [cell_at F4.out.last]; rfl
              have ec0 : (w6.alloc (.cells #[.int .i64 V.t, .int .i64 V.v, .int .i64 V.r, .slice a2 V.l.length cc] 26)).cell? ⟨w6.heap.size, 0, none⟩ = some (.int .i64 V.t) := by rw [cell_at (heap_alloc_new w6 _)]; rfl
              have ec1 : (w6.alloc (.cells #[.int .i64 V.t, .int .i64 V.v, .int .i64 V.r, .slice a2 V.l.length cc] 26)).cell? ⟨w6.heap.size, 1, none⟩ = some (.int .i64 V.v) := by rw [cell_at (heap_alloc_new w6 _)]; rfl
              have ec2 : (w6.alloc (.cells #[.int .i64 V.t, .int .i64 V.v, .int .i64 V.r, .slice a2 V.l.length cc] 26)).cell? ⟨w6.heap.size, 2, none⟩ = some (.int .i64 V.r) := by rw [cell_at (heap_alloc_new w6 _)]; rfl
              have ec3 : (w6.alloc (.cells #[.int .i64 V.t, .int .i64 V.v, .int .i64 V.r, .slice a2 V.l.length cc] 26)).cell? ⟨w6.heap.size, 3, none⟩ = some (.slice a2 V.l.length cc) := by rw [cell_at (heap_alloc_new w6 _)]; rfl
              have ef : ∀ j, (w6.alloc (.cells #[.int .i64 V.t, .int .i64 V.v, .int .i64 V.r, .slice a2 V.l.length cc] 26)).frozen? ⟨w6.heap.size, j, none⟩ = false := fun j => free_at (heap_alloc_new w6 _) j
              have zc0 : (w6.alloc (.cells #[.int .i64 V.t, .int .i64 V.v, .int .i64 V.r, .slice a2 V.l.length cc] 26)).cell? ⟨w.heap.size + 3, 0, none⟩ = some (.int .i64 0) := by rw [cell_at F4.out.res]; rfl
              have zc1 : (w6.alloc (.cells #[.int .i64 V.t, .int .i64 V.v, .int .i64 V.r, .slice a2 V.l.length cc] 26)).cell? ⟨w.heap.size + 3, 1, none⟩ = some (.int .i64 0) := by rw [cell_at F4.out.res]; rfl
              have zc2 : (w6.alloc (.cells #[.int .i64 V.t, .int .i64 V.v, .int .i64 V.r, .slice a2 V.l.length cc] 26)).cell? ⟨w.heap.size + 3, 2, none⟩ = some (.int .i64 0) := by rw [cell_at F4.out.res]; rfl
              have zc3 : (w6.alloc (.cells #[.int .i64 V.t, .int .i64 V.v, .int .i64 V.r, .slice a2 V.l.length cc] 26)).cell? ⟨w.heap.size + 3, 3, none⟩ = some (.slice none 0 0) := by rw [cell_at F4.out.res]; rfl
              have zf : ∀ j, (w6.alloc (.cells #[.int .i64 V.t, .int .i64 V.v, .int .i64 V.r, .slice a2 V.l.length cc] 26)).frozen? ⟨w.heap.size + 3, j, none⟩ = false := fun j => free_at F4.out.res j
              have HF := fin4 (w := w) (.int .i64 V.t) (.int .i64 V.v) (.int .i64 V.r) (.slice a2 V.l.length cc) F4.out.res (by omega) F4.out.bel
              have HG := own4 (R := w.heap.size + 3) (.int .i64 V.t) (.int .i64 V.v) (.int .i64 V.r) (.slice a2 V.l.length cc) HW.out hs.out w.heap.size (by have := hs.out; omega)
              clear F4 HW hs hs6 hbk
              go_wp2
              obtain ⟨e1, e2⟩ := HF.out
              have e3 := HG.out
              revert e1 e2 e3
              generalize (World.setCell _ ⟨w.heap.size + 3, 3, none⟩ _) = W
              intro e1 e2 e3
              exact bodyPost_ret (v := .tuple #[balV V (.slice a2 V.l.length cc), .bool false, .int .i64 0]) (by simp [results, Try.results18, go_sem, cell_at e1, balV]) rfl ⟨_, rfl, e3, e2⟩
end Go.Proofs.Ytkoecdcbopkkbaa
