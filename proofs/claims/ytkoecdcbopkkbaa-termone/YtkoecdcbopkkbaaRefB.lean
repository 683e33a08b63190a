/- The document's own: what a ballot is when an election begins, or a term is heard of. -/
import Derived.Test.YtkoecdcbopkkbaaRef
namespace Go.Proofs.Ytkoecdcbopkkbaa
open Go.RowKit
set_option maxHeartbeats 4000000 in
set_option maxRecDepth 100000 in
theorem rhear_is (b : Bal) (g : Value) (x : Int) (w : World) (h : GotAt w g b.l) : Calls Try.prog 13 #[balV b g, .int .i64 x] w (BalErr w.heap.size w (hear2L b x).1 (hear2L b x).2) := by
  have T0 := hideIt (Two.start w b g)
  have HM := hideIt (rmay_is b g _ (h.keep T0.out.bel))
  have HO := hideIt (fun W => rwithin_is x 1 1000000 W)
  have HH := hideIt (fun W hW => heard_is b g x W (h.keep hW))
  clear h
  obtain ⟨A, hA⟩ : ∃ A, hear2L b x = A := ⟨_, rfl⟩
  rw [hA]
  unfold hear2L at hA
  generalize hearL b x = V at *
  obtain ⟨t, v, r, l⟩ := b
  unfold balV at HM HH ⊢
  simp only at hA T0 HM HH ⊢
  cases hm : mayB ⟨t, v, r, l⟩
  · rw [hm] at HM hA
    rw [if_pos rfl] at hA
    subst hA
    go_enter Try.func13, Try.ntmps13
    go_wp2_with fail
    refine HM.out.mono ?_
    rintro e w1 ⟨rfl, hb⟩
    dsimp only
    have T1 := hideIt (T0.out.keep hb)
    clear hb T0 HM
    have bc0 : w1.cell? ⟨w.heap.size, 0, none⟩ = some (.int .i64 t) := by rw [cell_at T1.out.box]; rfl
    have bc1 : w1.cell? ⟨w.heap.size, 1, none⟩ = some (.int .i64 v) := by rw [cell_at T1.out.box]; rfl
    have bc2 : w1.cell? ⟨w.heap.size, 2, none⟩ = some (.int .i64 r) := by rw [cell_at T1.out.box]; rfl
    have bc3 : w1.cell? ⟨w.heap.size, 3, none⟩ = some (g) := by rw [cell_at T1.out.box]; rfl
    have bf : ∀ j, w1.frozen? ⟨w.heap.size, j, none⟩ = false := fun j => free_at T1.out.box j
    have zc0 : w1.cell? ⟨w.heap.size + 1, 0, none⟩ = some (.int .i64 0) := by rw [cell_at T1.out.res]; rfl
    have zc1 : w1.cell? ⟨w.heap.size + 1, 1, none⟩ = some (.int .i64 0) := by rw [cell_at T1.out.res]; rfl
    have zc2 : w1.cell? ⟨w.heap.size + 1, 2, none⟩ = some (.int .i64 0) := by rw [cell_at T1.out.res]; rfl
    have zc3 : w1.cell? ⟨w.heap.size + 1, 3, none⟩ = some (.slice none 0 0) := by rw [cell_at T1.out.res]; rfl
    have zf : ∀ j, w1.frozen? ⟨w.heap.size + 1, j, none⟩ = false := fun j => free_at T1.out.res j
    have HF := fin4 (w := w) (.int .i64 0) (.int .i64 0) (.int .i64 0) (.slice none 0 0) T1.out.res (by omega) T1.out.bel
    clear T1
    go_wp2
    obtain ⟨e1, e2⟩ := HF.out
    revert e1 e2
    generalize (World.setCell _ ⟨w.heap.size + 1, 3, none⟩ _) = W
    intro e1 e2
    exact bodyPost_ret (v := .tuple #[balV zB (.slice none 0 0), .int .i64 70]) (by simp [results, Try.results13, go_sem, cell_at e1, balV, zB]) rfl ⟨_, rfl, ⟨rfl, .inl ⟨rfl, rfl⟩⟩, e2⟩
  · rw [hm] at HM hA
    rw [if_neg (by simp)] at hA
    cases ho : wiB x 1 1000000
    · rw [ho] at HO hA
      rw [if_pos rfl] at hA
      subst hA
      go_enter Try.func13, Try.ntmps13
      go_wp2_with fail
      refine HM.out.mono ?_
      rintro e w1 ⟨rfl, hb⟩
      dsimp only
      have T1 := hideIt (T0.out.keep hb)
      clear hb T0 HM
      have bc0 : w1.cell? ⟨w.heap.size, 0, none⟩ = some (.int .i64 t) := by rw [cell_at T1.out.box]; rfl
      have bc1 : w1.cell? ⟨w.heap.size, 1, none⟩ = some (.int .i64 v) := by rw [cell_at T1.out.box]; rfl
      have bc2 : w1.cell? ⟨w.heap.size, 2, none⟩ = some (.int .i64 r) := by rw [cell_at T1.out.box]; rfl
      have bc3 : w1.cell? ⟨w.heap.size, 3, none⟩ = some (g) := by rw [cell_at T1.out.box]; rfl
      have bf : ∀ j, w1.frozen? ⟨w.heap.size, j, none⟩ = false := fun j => free_at T1.out.box j
      have zc0 : w1.cell? ⟨w.heap.size + 1, 0, none⟩ = some (.int .i64 0) := by rw [cell_at T1.out.res]; rfl
      have zc1 : w1.cell? ⟨w.heap.size + 1, 1, none⟩ = some (.int .i64 0) := by rw [cell_at T1.out.res]; rfl
      have zc2 : w1.cell? ⟨w.heap.size + 1, 2, none⟩ = some (.int .i64 0) := by rw [cell_at T1.out.res]; rfl
      have zc3 : w1.cell? ⟨w.heap.size + 1, 3, none⟩ = some (.slice none 0 0) := by rw [cell_at T1.out.res]; rfl
      have zf : ∀ j, w1.frozen? ⟨w.heap.size + 1, j, none⟩ = false := fun j => free_at T1.out.res j
      have HF := fin4 (w := w) (.int .i64 0) (.int .i64 0) (.int .i64 0) (.slice none 0 0) T1.out.res (by omega) T1.out.bel
      clear T1
      go_wp2_with fail
      refine (HO.out _).mono ?_
      rintro e w2 ⟨rfl, rfl⟩
      dsimp only
      go_wp2
      obtain ⟨e1, e2⟩ := HF.out
      revert e1 e2
      generalize (World.setCell _ ⟨w.heap.size + 1, 3, none⟩ _) = W
      intro e1 e2
      exact bodyPost_ret (v := .tuple #[balV zB (.slice none 0 0), .int .i64 1]) (by simp [results, Try.results13, go_sem, cell_at e1, balV, zB]) rfl ⟨_, rfl, ⟨rfl, .inl ⟨rfl, rfl⟩⟩, e2⟩
    · rw [ho] at HO hA
      rw [if_neg (by simp)] at hA
      subst hA
      go_enter Try.func13, Try.ntmps13
      go_wp2_with fail
      refine HM.out.mono ?_
      rintro e w1 ⟨rfl, hb⟩
      dsimp only
      have T1 := hideIt (T0.out.keep hb)
      clear hb T0 HM
      have bc0 : w1.cell? ⟨w.heap.size, 0, none⟩ = some (.int .i64 t) := by rw [cell_at T1.out.box]; rfl
      have bc1 : w1.cell? ⟨w.heap.size, 1, none⟩ = some (.int .i64 v) := by rw [cell_at T1.out.box]; rfl
      have bc2 : w1.cell? ⟨w.heap.size, 2, none⟩ = some (.int .i64 r) := by rw [cell_at T1.out.box]; rfl
      have bc3 : w1.cell? ⟨w.heap.size, 3, none⟩ = some (g) := by rw [cell_at T1.out.box]; rfl
      have bf : ∀ j, w1.frozen? ⟨w.heap.size, j, none⟩ = false := fun j => free_at T1.out.box j
      go_wp2_with fail
      refine (HO.out _).mono ?_
      rintro e w2 ⟨rfl, rfl⟩
      dsimp only
      clear HO
      go_wp2_with fail
      refine (HH.out _ T1.out.bel).mono ?_
      rintro e w3 ⟨g2, rfl, h1, h2⟩
      dsimp only
      obtain ⟨a2, cc, rfl⟩ := own_len h1
      have hs := hideIt T1.out.size
      have T2 := hideIt (T1.out.keep h2)
      have HW := hideIt h1
      clear h1 h2 T1 HH bc0 bc1 bc2 bc3 bf
      have zc0 : w3.cell? ⟨w.heap.size + 1, 0, none⟩ = some (.int .i64 0) := by rw [cell_at T2.out.res]; rfl
      have zc1 : w3.cell? ⟨w.heap.size + 1, 1, none⟩ = some (.int .i64 0) := by rw [cell_at T2.out.res]; rfl
      have zc2 : w3.cell? ⟨w.heap.size + 1, 2, none⟩ = some (.int .i64 0) := by rw [cell_at T2.out.res]; rfl
      have zc3 : w3.cell? ⟨w.heap.size + 1, 3, none⟩ = some (.slice none 0 0) := by rw [cell_at T2.out.res]; rfl
      have zf : ∀ j, w3.frozen? ⟨w.heap.size + 1, j, none⟩ = false := fun j => free_at T2.out.res j
      unfold balV
      have HF := fin4 (w := w) (.int .i64 V.t) (.int .i64 V.v) (.int .i64 V.r) (.slice a2 V.l.length cc) T2.out.res (by omega) T2.out.bel
      have HG := own4 (R := w.heap.size + 1) (.int .i64 V.t) (.int .i64 V.v) (.int .i64 V.r) (.slice a2 V.l.length cc) HW.out hs.out w.heap.size (by have := hs.out; omega)
      clear T2 HW hs
      go_wp2
      obtain ⟨e1, e2⟩ := HF.out
      have e3 := HG.out
      revert e1 e2 e3
      generalize (World.setCell _ ⟨w.heap.size + 1, 3, none⟩ _) = W
      intro e1 e2 e3
      exact bodyPost_ret (v := .tuple #[balV V (.slice a2 V.l.length cc), .int .i64 0]) (by simp [results, Try.results13, go_sem, cell_at e1, balV]) rfl ⟨_, rfl, e3, e2⟩
set_option maxHeartbeats 4000000 in
set_option maxRecDepth 100000 in
theorem rbegin_is (b : Bal) (g : Value) (me n : Int) (w : World) (h : GotAt w g b.l) : Calls Try.prog 11 #[balV b g, .int .i64 me, .int .i64 n] w (BalErr w.heap.size w (beginL b me n).1 (beginL b me n).2) := by
  have T0 := hideIt (Two.start w b g)
  have HM := hideIt (rmay_is b g _ (h.keep T0.out.bel))
  have HO1 := hideIt (fun W => rwithin_is n 1 7 W)
  have HO2 := hideIt (fun W => rwithin_is me 1 n W)
  clear h
  obtain ⟨A, hA⟩ : ∃ A, beginL b me n = A := ⟨_, rfl⟩
  rw [hA]
  unfold beginL oneB at hA
  have ht := @may_t b
  obtain ⟨t, v, r, l⟩ := b
  unfold balV at HM ⊢
  simp only at hA T0 ht HM ⊢
  cases hm : mayB ⟨t, v, r, l⟩
  · rw [hm] at HM hA
    rw [if_pos rfl] at hA
    subst hA
    clear ht
    go_enter Try.func11, Try.ntmps11
    go_wp2_with fail
    refine HM.out.mono ?_
    rintro e w1 ⟨rfl, hb⟩
    dsimp only
    have T1 := hideIt (T0.out.keep hb)
    clear hb T0 HM
    have bc0 : w1.cell? ⟨w.heap.size, 0, none⟩ = some (.int .i64 t) := by rw [cell_at T1.out.box]; rfl
    have bc1 : w1.cell? ⟨w.heap.size, 1, none⟩ = some (.int .i64 v) := by rw [cell_at T1.out.box]; rfl
    have bc2 : w1.cell? ⟨w.heap.size, 2, none⟩ = some (.int .i64 r) := by rw [cell_at T1.out.box]; rfl
    have bc3 : w1.cell? ⟨w.heap.size, 3, none⟩ = some (g) := by rw [cell_at T1.out.box]; rfl
    have bf : ∀ j, w1.frozen? ⟨w.heap.size, j, none⟩ = false := fun j => free_at T1.out.box j
    have zc0 : w1.cell? ⟨w.heap.size + 1, 0, none⟩ = some (.int .i64 0) := by rw [cell_at T1.out.res]; rfl
    have zc1 : w1.cell? ⟨w.heap.size + 1, 1, none⟩ = some (.int .i64 0) := by rw [cell_at T1.out.res]; rfl
    have zc2 : w1.cell? ⟨w.heap.size + 1, 2, none⟩ = some (.int .i64 0) := by rw [cell_at T1.out.res]; rfl
    have zc3 : w1.cell? ⟨w.heap.size + 1, 3, none⟩ = some (.slice none 0 0) := by rw [cell_at T1.out.res]; rfl
    have zf : ∀ j, w1.frozen? ⟨w.heap.size + 1, j, none⟩ = false := fun j => free_at T1.out.res j
    have HF := fin4 (w := w) (.int .i64 0) (.int .i64 0) (.int .i64 0) (.slice none 0 0) T1.out.res (by omega) T1.out.bel
    clear T1
    go_wp2
    obtain ⟨e1, e2⟩ := HF.out
    revert e1 e2
    generalize (World.setCell _ ⟨w.heap.size + 1, 3, none⟩ _) = W
    intro e1 e2
    exact bodyPost_ret (v := .tuple #[balV zB (.slice none 0 0), .int .i64 70]) (by simp [results, Try.results11, go_sem, cell_at e1, balV, zB]) rfl ⟨_, rfl, ⟨rfl, .inl ⟨rfl, rfl⟩⟩, e2⟩
  · rw [hm] at HM hA
    rw [if_neg (by simp)] at hA
    have ht2 := ht hm
    clear ht
    cases ho1 : wiB n 1 7
    · rw [ho1] at HO1 hA
      rw [if_pos (by simp)] at hA
      subst hA
      go_enter Try.func11, Try.ntmps11
      go_wp2_with fail
      refine HM.out.mono ?_
      rintro e w1 ⟨rfl, hb⟩
      dsimp only
      have T1 := hideIt (T0.out.keep hb)
      clear hb T0 HM
      have bc0 : w1.cell? ⟨w.heap.size, 0, none⟩ = some (.int .i64 t) := by rw [cell_at T1.out.box]; rfl
      have bc1 : w1.cell? ⟨w.heap.size, 1, none⟩ = some (.int .i64 v) := by rw [cell_at T1.out.box]; rfl
      have bc2 : w1.cell? ⟨w.heap.size, 2, none⟩ = some (.int .i64 r) := by rw [cell_at T1.out.box]; rfl
      have bc3 : w1.cell? ⟨w.heap.size, 3, none⟩ = some (g) := by rw [cell_at T1.out.box]; rfl
      have bf : ∀ j, w1.frozen? ⟨w.heap.size, j, none⟩ = false := fun j => free_at T1.out.box j
      have zc0 : w1.cell? ⟨w.heap.size + 1, 0, none⟩ = some (.int .i64 0) := by rw [cell_at T1.out.res]; rfl
      have zc1 : w1.cell? ⟨w.heap.size + 1, 1, none⟩ = some (.int .i64 0) := by rw [cell_at T1.out.res]; rfl
      have zc2 : w1.cell? ⟨w.heap.size + 1, 2, none⟩ = some (.int .i64 0) := by rw [cell_at T1.out.res]; rfl
      have zc3 : w1.cell? ⟨w.heap.size + 1, 3, none⟩ = some (.slice none 0 0) := by rw [cell_at T1.out.res]; rfl
      have zf : ∀ j, w1.frozen? ⟨w.heap.size + 1, j, none⟩ = false := fun j => free_at T1.out.res j
      have HF := fin4 (w := w) (.int .i64 0) (.int .i64 0) (.int .i64 0) (.slice none 0 0) T1.out.res (by omega) T1.out.bel
      clear T1
      go_wp2_with fail
      refine (HO1.out _).mono ?_
      rintro e w2 ⟨rfl, rfl⟩
      dsimp only
      go_wp2
      obtain ⟨e1, e2⟩ := HF.out
      revert e1 e2
      generalize (World.setCell _ ⟨w.heap.size + 1, 3, none⟩ _) = W
      intro e1 e2
      exact bodyPost_ret (v := .tuple #[balV zB (.slice none 0 0), .int .i64 1]) (by simp [results, Try.results11, go_sem, cell_at e1, balV, zB]) rfl ⟨_, rfl, ⟨rfl, .inl ⟨rfl, rfl⟩⟩, e2⟩
    · cases ho2 : wiB me 1 n
      · rw [ho1] at HO1
        rw [ho2] at HO2
        rw [ho1, ho2] at hA
        rw [if_pos (by simp)] at hA
        subst hA
        clear ho1 ho2
        go_enter Try.func11, Try.ntmps11
        go_wp2_with fail
        refine HM.out.mono ?_
        rintro e w1 ⟨rfl, hb⟩
        dsimp only
        have T1 := hideIt (T0.out.keep hb)
        clear hb T0 HM
        have bc0 : w1.cell? ⟨w.heap.size, 0, none⟩ = some (.int .i64 t) := by rw [cell_at T1.out.box]; rfl
        have bc1 : w1.cell? ⟨w.heap.size, 1, none⟩ = some (.int .i64 v) := by rw [cell_at T1.out.box]; rfl
        have bc2 : w1.cell? ⟨w.heap.size, 2, none⟩ = some (.int .i64 r) := by rw [cell_at T1.out.box]; rfl
        have bc3 : w1.cell? ⟨w.heap.size, 3, none⟩ = some (g) := by rw [cell_at T1.out.box]; rfl
        have bf : ∀ j, w1.frozen? ⟨w.heap.size, j, none⟩ = false := fun j => free_at T1.out.box j
        have zc0 : w1.cell? ⟨w.heap.size + 1, 0, none⟩ = some (.int .i64 0) := by rw [cell_at T1.out.res]; rfl
        have zc1 : w1.cell? ⟨w.heap.size + 1, 1, none⟩ = some (.int .i64 0) := by rw [cell_at T1.out.res]; rfl
        have zc2 : w1.cell? ⟨w.heap.size + 1, 2, none⟩ = some (.int .i64 0) := by rw [cell_at T1.out.res]; rfl
        have zc3 : w1.cell? ⟨w.heap.size + 1, 3, none⟩ = some (.slice none 0 0) := by rw [cell_at T1.out.res]; rfl
        have zf : ∀ j, w1.frozen? ⟨w.heap.size + 1, j, none⟩ = false := fun j => free_at T1.out.res j
        have HF := fin4 (w := w) (.int .i64 0) (.int .i64 0) (.int .i64 0) (.slice none 0 0) T1.out.res (by omega) T1.out.bel
        clear T1
        go_wp2_with fail
        refine (HO1.out _).mono ?_
        rintro e w2 ⟨rfl, rfl⟩
        dsimp only
        go_wp2_with fail
        refine (HO2.out _).mono ?_
        rintro e w3 ⟨rfl, rfl⟩
        dsimp only
        go_wp2
        obtain ⟨e1, e2⟩ := HF.out
        revert e1 e2
        generalize (World.setCell _ ⟨w.heap.size + 1, 3, none⟩ _) = W
        intro e1 e2
        exact bodyPost_ret (v := .tuple #[balV zB (.slice none 0 0), .int .i64 1]) (by simp [results, Try.results11, go_sem, cell_at e1, balV, zB]) rfl ⟨_, rfl, ⟨rfl, .inl ⟨rfl, rfl⟩⟩, e2⟩
      · have hn1 : 1 ≤ n := wi_ge ho1
        rw [ho1] at HO1
        rw [ho2] at HO2
        rw [ho1, ho2] at hA
        rw [if_neg (by simp)] at hA
        clear ho1 ho2
        by_cases h6 : t = 1000000
        · rw [if_pos h6] at hA
          subst hA
          subst h6
          go_enter Try.func11, Try.ntmps11
          go_wp2_with fail
          refine HM.out.mono ?_
          rintro e w1 ⟨rfl, hb⟩
          dsimp only
          have T1 := hideIt (T0.out.keep hb)
          clear hb T0 HM
          have bc0 : w1.cell? ⟨w.heap.size, 0, none⟩ = some (.int .i64 1000000) := by rw [cell_at T1.out.box]; rfl
          have bc1 : w1.cell? ⟨w.heap.size, 1, none⟩ = some (.int .i64 v) := by rw [cell_at T1.out.box]; rfl
          have bc2 : w1.cell? ⟨w.heap.size, 2, none⟩ = some (.int .i64 r) := by rw [cell_at T1.out.box]; rfl
          have bc3 : w1.cell? ⟨w.heap.size, 3, none⟩ = some (g) := by rw [cell_at T1.out.box]; rfl
          have bf : ∀ j, w1.frozen? ⟨w.heap.size, j, none⟩ = false := fun j => free_at T1.out.box j
          have zc0 : w1.cell? ⟨w.heap.size + 1, 0, none⟩ = some (.int .i64 0) := by rw [cell_at T1.out.res]; rfl
          have zc1 : w1.cell? ⟨w.heap.size + 1, 1, none⟩ = some (.int .i64 0) := by rw [cell_at T1.out.res]; rfl
          have zc2 : w1.cell? ⟨w.heap.size + 1, 2, none⟩ = some (.int .i64 0) := by rw [cell_at T1.out.res]; rfl
          have zc3 : w1.cell? ⟨w.heap.size + 1, 3, none⟩ = some (.slice none 0 0) := by rw [cell_at T1.out.res]; rfl
          have zf : ∀ j, w1.frozen? ⟨w.heap.size + 1, j, none⟩ = false := fun j => free_at T1.out.res j
          have HF := fin4 (w := w) (.int .i64 0) (.int .i64 0) (.int .i64 0) (.slice none 0 0) T1.out.res (by omega) T1.out.bel
          clear T1
          go_wp2_with fail
          refine (HO1.out _).mono ?_
          rintro e w2 ⟨rfl, rfl⟩
          dsimp only
          go_wp2_with fail
          refine (HO2.out _).mono ?_
          rintro e w3 ⟨rfl, rfl⟩
          dsimp only
          go_wp2
          obtain ⟨e1, e2⟩ := HF.out
          revert e1 e2
          generalize (World.setCell _ ⟨w.heap.size + 1, 3, none⟩ _) = W
          intro e1 e2
          exact bodyPost_ret (v := .tuple #[balV zB (.slice none 0 0), .int .i64 2]) (by simp [results, Try.results11, go_sem, cell_at e1, balV, zB]) rfl ⟨_, rfl, ⟨rfl, .inl ⟨rfl, rfl⟩⟩, e2⟩
        · rw [if_neg h6] at hA
          have h6b : (t == 1000000) = false := beq_eq_false_iff_ne.2 h6
          have hlt : t < 1000000 := by omega
          have hge : 0 ≤ t := ht2.1
          clear h6 ht2
          by_cases hn : n = 1
          · subst hn
            rw [show voteL ⟨t + 1, me, 2, []⟩ me 1 = ⟨t + 1, me, 3, [me]⟩ by simp [voteL, addL, insL]] at hA
            subst hA
            go_enter Try.func11, Try.ntmps11
            go_wp2_with fail
            refine HM.out.mono ?_
            rintro e w1 ⟨rfl, hb⟩
            dsimp only
            have T1 := hideIt (T0.out.keep hb)
            clear hb T0 HM
            have bc0 : w1.cell? ⟨w.heap.size, 0, none⟩ = some (.int .i64 t) := by rw [cell_at T1.out.box]; rfl
            have bc1 : w1.cell? ⟨w.heap.size, 1, none⟩ = some (.int .i64 v) := by rw [cell_at T1.out.box]; rfl
            have bc2 : w1.cell? ⟨w.heap.size, 2, none⟩ = some (.int .i64 r) := by rw [cell_at T1.out.box]; rfl
            have bc3 : w1.cell? ⟨w.heap.size, 3, none⟩ = some (g) := by rw [cell_at T1.out.box]; rfl
            have bf : ∀ j, w1.frozen? ⟨w.heap.size, j, none⟩ = false := fun j => free_at T1.out.box j
            go_wp2_with fail
            refine (HO1.out _).mono ?_
            rintro e w2 ⟨rfl, rfl⟩
            dsimp only
            go_wp2_with fail
            refine (HO2.out _).mono ?_
            rintro e w3 ⟨rfl, rfl⟩
            dsimp only
            clear HO1 HO2
            have hs := hideIt T1.out.size
            have T2 := hideIt ((T1.out.keep (below1 w3 (.cells #[.int .i64 me] 3))).keep (below1 _ (.cells #[.int .i64 (t + 1), .int .i64 me, .int .i64 3, .slice (some ⟨w3.heap.size, 0, none⟩) 1 1] 26)))
            have HW : Hid (((w3.alloc (.cells #[.int .i64 me] 3)).alloc (.cells #[.int .i64 (t + 1), .int .i64 me, .int .i64 3, .slice (some ⟨w3.heap.size, 0, none⟩) 1 1] 26)).ownsRow w3.heap.size 3 1 (.slice (some ⟨w3.heap.size, 0, none⟩) 1 1) 1 ([me].map iv)) :=
              ⟨rfl, .inr ⟨w3.heap.size, 1, #[.int .i64 me], rfl, Nat.le_refl _, (two_heap w3 _ _).1, Nat.le_refl _, by decide, rfl, rfl⟩⟩
            clear T1
            have zc0 : ((w3.alloc (.cells #[.int .i64 me] 3)).alloc (.cells #[.int .i64 (t + 1), .int .i64 me, .int .i64 3, .slice (some ⟨w3.heap.size, 0, none⟩) 1 1] 26)).cell? ⟨w.heap.size + 1, 0, none⟩ = some (.int .i64 0) := by rw [cell_at T2.out.res]; rfl
            have zc1 : ((w3.alloc (.cells #[.int .i64 me] 3)).alloc (.cells #[.int .i64 (t + 1), .int .i64 me, .int .i64 3, .slice (some ⟨w3.heap.size, 0, none⟩) 1 1] 26)).cell? ⟨w.heap.size + 1, 1, none⟩ = some (.int .i64 0) := by rw [cell_at T2.out.res]; rfl
            have zc2 : ((w3.alloc (.cells #[.int .i64 me] 3)).alloc (.cells #[.int .i64 (t + 1), .int .i64 me, .int .i64 3, .slice (some ⟨w3.heap.size, 0, none⟩) 1 1] 26)).cell? ⟨w.heap.size + 1, 2, none⟩ = some (.int .i64 0) := by rw [cell_at T2.out.res]; rfl
            have zc3 : ((w3.alloc (.cells #[.int .i64 me] 3)).alloc (.cells #[.int .i64 (t + 1), .int .i64 me, .int .i64 3, .slice (some ⟨w3.heap.size, 0, none⟩) 1 1] 26)).cell? ⟨w.heap.size + 1, 3, none⟩ = some (.slice none 0 0) := by rw [cell_at T2.out.res]; rfl
            have zf : ∀ j, ((w3.alloc (.cells #[.int .i64 me] 3)).alloc (.cells #[.int .i64 (t + 1), .int .i64 me, .int .i64 3, .slice (some ⟨w3.heap.size, 0, none⟩) 1 1] 26)).frozen? ⟨w.heap.size + 1, j, none⟩ = false := fun j => free_at T2.out.res j
            have HF := fin4 (w := w) (.int .i64 (t + 1)) (.int .i64 me) (.int .i64 3) (.slice (some ⟨w3.heap.size, 0, none⟩) 1 1) T2.out.res (by omega) T2.out.bel
            have HG := own4 (R := w.heap.size + 1) (.int .i64 (t + 1)) (.int .i64 me) (.int .i64 3) (.slice (some ⟨w3.heap.size, 0, none⟩) 1 1) HW.out (by have := hs.out; omega) w.heap.size (by have := hs.out; omega)
            clear T2 HW hs
            go_wp2
            obtain ⟨e1, e2⟩ := HF.out
            have e3 := HG.out
            revert e1 e2 e3
            generalize (World.setCell _ ⟨w.heap.size + 1, 3, none⟩ _) = W
            intro e1 e2 e3
            exact bodyPost_ret (v := .tuple #[balV ⟨t + 1, me, 3, [me]⟩ (.slice (some ⟨w3.heap.size, 0, none⟩) 1 1), .int .i64 0]) (by simp [results, Try.results11, go_sem, cell_at e1, balV]) rfl ⟨_, rfl, e3, e2⟩
          · have hnb : (n == 1) = false := beq_eq_false_iff_ne.2 hn
            rw [show voteL ⟨t + 1, me, 2, []⟩ me n = ⟨t + 1, me, 2, [me]⟩ by
              simp [voteL, addL, insL]
              omega] at hA
            subst hA
            go_enter Try.func11, Try.ntmps11
            go_wp2_with fail
            refine HM.out.mono ?_
            rintro e w1 ⟨rfl, hb⟩
            dsimp only
            have T1 := hideIt (T0.out.keep hb)
            clear hb T0 HM
            have bc0 : w1.cell? ⟨w.heap.size, 0, none⟩ = some (.int .i64 t) := by rw [cell_at T1.out.box]; rfl
            have bc1 : w1.cell? ⟨w.heap.size, 1, none⟩ = some (.int .i64 v) := by rw [cell_at T1.out.box]; rfl
            have bc2 : w1.cell? ⟨w.heap.size, 2, none⟩ = some (.int .i64 r) := by rw [cell_at T1.out.box]; rfl
            have bc3 : w1.cell? ⟨w.heap.size, 3, none⟩ = some (g) := by rw [cell_at T1.out.box]; rfl
            have bf : ∀ j, w1.frozen? ⟨w.heap.size, j, none⟩ = false := fun j => free_at T1.out.box j
            go_wp2_with fail
            refine (HO1.out _).mono ?_
            rintro e w2 ⟨rfl, rfl⟩
            dsimp only
            go_wp2_with fail
            refine (HO2.out _).mono ?_
            rintro e w3 ⟨rfl, rfl⟩
            dsimp only
            clear HO1 HO2
            have hs := hideIt T1.out.size
            have T2 := hideIt ((T1.out.keep (below1 w3 (.cells #[.int .i64 me] 3))).keep (below1 _ (.cells #[.int .i64 (t + 1), .int .i64 me, .int .i64 2, .slice (some ⟨w3.heap.size, 0, none⟩) 1 1] 26)))
            have HW : Hid (((w3.alloc (.cells #[.int .i64 me] 3)).alloc (.cells #[.int .i64 (t + 1), .int .i64 me, .int .i64 2, .slice (some ⟨w3.heap.size, 0, none⟩) 1 1] 26)).ownsRow w3.heap.size 3 1 (.slice (some ⟨w3.heap.size, 0, none⟩) 1 1) 1 ([me].map iv)) :=
              ⟨rfl, .inr ⟨w3.heap.size, 1, #[.int .i64 me], rfl, Nat.le_refl _, (two_heap w3 _ _).1, Nat.le_refl _, by decide, rfl, rfl⟩⟩
            clear T1
            have zc0 : ((w3.alloc (.cells #[.int .i64 me] 3)).alloc (.cells #[.int .i64 (t + 1), .int .i64 me, .int .i64 2, .slice (some ⟨w3.heap.size, 0, none⟩) 1 1] 26)).cell? ⟨w.heap.size + 1, 0, none⟩ = some (.int .i64 0) := by rw [cell_at T2.out.res]; rfl
            have zc1 : ((w3.alloc (.cells #[.int .i64 me] 3)).alloc (.cells #[.int .i64 (t + 1), .int .i64 me, .int .i64 2, .slice (some ⟨w3.heap.size, 0, none⟩) 1 1] 26)).cell? ⟨w.heap.size + 1, 1, none⟩ = some (.int .i64 0) := by rw [cell_at T2.out.res]; rfl
            have zc2 : ((w3.alloc (.cells #[.int .i64 me] 3)).alloc (.cells #[.int .i64 (t + 1), .int .i64 me, .int .i64 2, .slice (some ⟨w3.heap.size, 0, none⟩) 1 1] 26)).cell? ⟨w.heap.size + 1, 2, none⟩ = some (.int .i64 0) := by rw [cell_at T2.out.res]; rfl
            have zc3 : ((w3.alloc (.cells #[.int .i64 me] 3)).alloc (.cells #[.int .i64 (t + 1), .int .i64 me, .int .i64 2, .slice (some ⟨w3.heap.size, 0, none⟩) 1 1] 26)).cell? ⟨w.heap.size + 1, 3, none⟩ = some (.slice none 0 0) := by rw [cell_at T2.out.res]; rfl
            have zf : ∀ j, ((w3.alloc (.cells #[.int .i64 me] 3)).alloc (.cells #[.int .i64 (t + 1), .int .i64 me, .int .i64 2, .slice (some ⟨w3.heap.size, 0, none⟩) 1 1] 26)).frozen? ⟨w.heap.size + 1, j, none⟩ = false := fun j => free_at T2.out.res j
            have HF := fin4 (w := w) (.int .i64 (t + 1)) (.int .i64 me) (.int .i64 2) (.slice (some ⟨w3.heap.size, 0, none⟩) 1 1) T2.out.res (by omega) T2.out.bel
            have HG := own4 (R := w.heap.size + 1) (.int .i64 (t + 1)) (.int .i64 me) (.int .i64 2) (.slice (some ⟨w3.heap.size, 0, none⟩) 1 1) HW.out (by have := hs.out; omega) w.heap.size (by have := hs.out; omega)
            clear T2 HW hs
            go_wp2
            obtain ⟨e1, e2⟩ := HF.out
            have e3 := HG.out
            revert e1 e2 e3
            generalize (World.setCell _ ⟨w.heap.size + 1, 3, none⟩ _) = W
            intro e1 e2 e3
            exact bodyPost_ret (v := .tuple #[balV ⟨t + 1, me, 2, [me]⟩ (.slice (some ⟨w3.heap.size, 0, none⟩) 1 1), .int .i64 0]) (by simp [results, Try.results11, go_sem, cell_at e1, balV]) rfl ⟨_, rfl, e3, e2⟩
end Go.Proofs.Ytkoecdcbopkkbaa
