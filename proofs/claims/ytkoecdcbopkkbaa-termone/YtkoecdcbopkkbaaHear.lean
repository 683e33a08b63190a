/- A ballot that hears of a term. -/
import Derived.Test.YtkoecdcbopkkbaaTerm
namespace Go.Proofs.Ytkoecdcbopkkbaa
open Go.RowKit
theorem nodes_l (l : List Int) : ∀ p, nodesB p l = true → l.Pairwise (· < ·) ∧ (∀ x ∈ l, p < x ∧ 1 ≤ x ∧ x ≤ 7) := by
  induction l with
  | nil => intro p _; exact ⟨List.Pairwise.nil, fun x hx => by cases hx⟩
  | cons y r ih =>
    intro p h
    simp [nodesB, wiB] at h
    obtain ⟨⟨h1, h2⟩, h3⟩ := h
    obtain ⟨i1, i2⟩ := ih y h3
    refine ⟨List.Pairwise.cons (fun x hx => (i2 x hx).1) i1, fun x hx => ?_⟩
    rcases List.mem_cons.1 hx with rfl | hx
    · exact ⟨h2, h1.1, h1.2⟩
    · have := i2 x hx
      omega
theorem nodes_len (l : List Int) : ∀ p, 0 ≤ p → p ≤ 7 → nodesB p l = true → (l.length : Int) ≤ 7 - p := by
  induction l with
  | nil => intro p h1 h2 _; simp; omega
  | cons y r ih =>
    intro p h1 h2 h
    simp [nodesB, wiB] at h
    have := ih y (by omega) (by omega) h.2
    simp
    omega
theorem may_l {b : Bal} (h : mayB b = true) : b.l.Pairwise (· ≤ ·) ∧ b.l.length ≤ 7 := by
  have hr : roleB b.v b.r b.l = true := by
    simp only [mayB, Bool.and_eq_true] at h
    exact h.2
  unfold roleB at hr
  split at hr
  · rw [List.isEmpty_iff] at hr
    rw [hr]
    exact ⟨List.Pairwise.nil, by simp⟩
  · split at hr
    · simp only [Bool.and_eq_true] at hr
      obtain ⟨h1, h2⟩ := nodes_l _ _ hr.1
      have h3 := nodes_len _ 0 (by omega) (by omega) hr.1
      exact ⟨h1.imp (fun h => Int.le_of_lt h), by omega⟩
    · cases hr
theorem hear_l {b : Bal} (x : Int) (h : mayB b = true) : (hearL b x).l.Pairwise (· ≤ ·) ∧ (hearL b x).l.length ≤ 7 := by
  unfold hearL
  split
  · exact ⟨List.Pairwise.nil, by simp⟩
  · exact may_l h
def hear2L (b : Bal) (x : Int) : Bal × Int := if mayB b = false then (zB, 70) else if wiB x 1 1000000 = false then (zB, 1) else (hearL b x, 0)
set_option maxHeartbeats 4000000 in
set_option maxRecDepth 100000 in
theorem hear_is (b : Bal) (g : Value) (x : Int) (w : World) (h : GotAt w g b.l) : Calls Try.prog 12 #[balV b g, .int .i64 x] w (BalErr w.heap.size w (hear2L b x).1 (hear2L b x).2) := by
  have T0 := hideIt (Two.start w b g)
  have HM := hideIt (mayBe_is b g _ (h.keep T0.out.bel))
  have HO := hideIt (fun W => isTerm_is x W)
  have HH := hideIt (fun W hW => hearing_is b g x W (h.keep hW))
  clear h
  obtain ⟨A, hA⟩ : ∃ A, hear2L b x = A := ⟨_, rfl⟩
  rw [hA]
  unfold hear2L at hA
  generalize hearL b x = V at *
  obtain ⟨t, v, r, l⟩ := b
  unfold balV at HM HH ⊢
  simp only at hA T0 HM HH ⊢
  cases hm : mayB ⟨t, v, r, l⟩
  · rw [hm] at HM hA
    rw [if_pos rfl] at hA
    subst hA
    go_enter Try.func12, Try.ntmps12
    go_wp2_with fail
    refine HM.out.mono ?_
    rintro e w1 ⟨rfl, hb⟩
    dsimp only
    have T1 := hideIt (T0.out.keep hb)
    clear hb T0 HM
    have bc0 : w1.cell? ⟨w.heap.size, 0, none⟩ = some (.int .i64 t) := by rw [cell_at T1.out.box]; rfl
    have bc1 : w1.cell? ⟨w.heap.size, 1, none⟩ = some (.int .i64 v) := by rw [cell_at T1.out.box]; rfl
    have bc2 : w1.cell? ⟨w.heap.size, 2, none⟩ = some (.int .i64 r) := by rw [cell_at T1.out.box]; rfl
    have bc3 : w1.cell? ⟨w.heap.size, 3, none⟩ = some (g) := by rw [cell_at T1.out.box]; rfl
    have bf : ∀ j, w1.frozen? ⟨w.heap.size, j, none⟩ = false := fun j => free_at T1.out.box j
    have zc0 : w1.cell? ⟨w.heap.size + 1, 0, none⟩ = some (.int .i64 0) := by rw [cell_at T1.out.res]; rfl
    have zc1 : w1.cell? ⟨w.heap.size + 1, 1, none⟩ = some (.int .i64 0) := by rw [cell_at T1.out.res]; rfl
    have zc2 : w1.cell? ⟨w.heap.size + 1, 2, none⟩ = some (.int .i64 0) := by rw [cell_at T1.out.res]; rfl
    have zc3 : w1.cell? ⟨w.heap.size + 1, 3, none⟩ = some (.slice none 0 0) := by rw [cell_at T1.out.res]; rfl
    have zf : ∀ j, w1.frozen? ⟨w.heap.size + 1, j, none⟩ = false := fun j => free_at T1.out.res j
    have HF := fin4 (w := w) (.int .i64 0) (.int .i64 0) (.int .i64 0) (.slice none 0 0) T1.out.res (by omega) T1.out.bel
    clear T1
    go_wp2
    obtain ⟨e1, e2⟩ := HF.out
    revert e1 e2
    generalize (World.setCell _ ⟨w.heap.size + 1, 3, none⟩ _) = W
    intro e1 e2
    exact bodyPost_ret (v := .tuple #[balV zB (.slice none 0 0), .int .i64 70]) (by simp [results, Try.results12, go_sem, cell_at e1, balV, zB]) rfl ⟨_, rfl, ⟨rfl, .inl ⟨rfl, rfl⟩⟩, e2⟩
  · rw [hm] at HM hA
    rw [if_neg (by simp)] at hA
    cases ho : wiB x 1 1000000
    · rw [ho] at HO hA
      rw [if_pos rfl] at hA
      subst hA
      go_enter Try.func12, Try.ntmps12
      go_wp2_with fail
      refine HM.out.mono ?_
      rintro e w1 ⟨rfl, hb⟩
      dsimp only
      have T1 := hideIt (T0.out.keep hb)
      clear hb T0 HM
      have bc0 : w1.cell? ⟨w.heap.size, 0, none⟩ = some (.int .i64 t) := by rw [cell_at T1.out.box]; rfl
      have bc1 : w1.cell? ⟨w.heap.size, 1, none⟩ = some (.int .i64 v) := by rw [cell_at T1.out.box]; rfl
      have bc2 : w1.cell? ⟨w.heap.size, 2, none⟩ = some (.int .i64 r) := by rw [cell_at T1.out.box]; rfl
      have bc3 : w1.cell? ⟨w.heap.size, 3, none⟩ = some (g) := by rw [cell_at T1.out.box]; rfl
      have bf : ∀ j, w1.frozen? ⟨w.heap.size, j, none⟩ = false := fun j => free_at T1.out.box j
      have zc0 : w1.cell? ⟨w.heap.size + 1, 0, none⟩ = some (.int .i64 0) := by rw [cell_at T1.out.res]; rfl
      have zc1 : w1.cell? ⟨w.heap.size + 1, 1, none⟩ = some (.int .i64 0) := by rw [cell_at T1.out.res]; rfl
      have zc2 : w1.cell? ⟨w.heap.size + 1, 2, none⟩ = some (.int .i64 0) := by rw [cell_at T1.out.res]; rfl
      have zc3 : w1.cell? ⟨w.heap.size + 1, 3, none⟩ = some (.slice none 0 0) := by rw [cell_at T1.out.res]; rfl
      have zf : ∀ j, w1.frozen? ⟨w.heap.size + 1, j, none⟩ = false := fun j => free_at T1.out.res j
      have HF := fin4 (w := w) (.int .i64 0) (.int .i64 0) (.int .i64 0) (.slice none 0 0) T1.out.res (by omega) T1.out.bel
      clear T1
      go_wp2_with fail
      refine (HO.out _).mono ?_
      rintro e w2 ⟨rfl, rfl⟩
      dsimp only
      go_wp2
      obtain ⟨e1, e2⟩ := HF.out
      revert e1 e2
      generalize (World.setCell _ ⟨w.heap.size + 1, 3, none⟩ _) = W
      intro e1 e2
      exact bodyPost_ret (v := .tuple #[balV zB (.slice none 0 0), .int .i64 1]) (by simp [results, Try.results12, go_sem, cell_at e1, balV, zB]) rfl ⟨_, rfl, ⟨rfl, .inl ⟨rfl, rfl⟩⟩, e2⟩
    · rw [ho] at HO hA
      rw [if_neg (by simp)] at hA
      subst hA
      go_enter Try.func12, Try.ntmps12
      go_wp2_with fail
      refine HM.out.mono ?_
      rintro e w1 ⟨rfl, hb⟩
      dsimp only
      have T1 := hideIt (T0.out.keep hb)
      clear hb T0 HM
      have bc0 : w1.cell? ⟨w.heap.size, 0, none⟩ = some (.int .i64 t) := by rw [cell_at T1.out.box]; rfl
      have bc1 : w1.cell? ⟨w.heap.size, 1, none⟩ = some (.int .i64 v) := by rw [cell_at T1.out.box]; rfl
      have bc2 : w1.cell? ⟨w.heap.size, 2, none⟩ = some (.int .i64 r) := by rw [cell_at T1.out.box]; rfl
      have bc3 : w1.cell? ⟨w.heap.size, 3, none⟩ = some (g) := by rw [cell_at T1.out.box]; rfl
      have bf : ∀ j, w1.frozen? ⟨w.heap.size, j, none⟩ = false := fun j => free_at T1.out.box j
      go_wp2_with fail
      refine (HO.out _).mono ?_
      rintro e w2 ⟨rfl, rfl⟩
      dsimp only
      clear HO
      go_wp2_with fail
      refine (HH.out _ T1.out.bel).mono ?_
      rintro e w3 ⟨g2, rfl, h1, h2⟩
      dsimp only
      obtain ⟨a2, cc, rfl⟩ := own_len h1
      have hs := hideIt T1.out.size
      have T2 := hideIt (T1.out.keep h2)
      have HW := hideIt h1
      clear h1 h2 T1 HH bc0 bc1 bc2 bc3 bf
      have zc0 : w3.cell? ⟨w.heap.size + 1, 0, none⟩ = some (.int .i64 0) := by rw [cell_at T2.out.res]; rfl
      have zc1 : w3.cell? ⟨w.heap.size + 1, 1, none⟩ = some (.int .i64 0) := by rw [cell_at T2.out.res]; rfl
      have zc2 : w3.cell? ⟨w.heap.size + 1, 2, none⟩ = some (.int .i64 0) := by rw [cell_at T2.out.res]; rfl
      have zc3 : w3.cell? ⟨w.heap.size + 1, 3, none⟩ = some (.slice none 0 0) := by rw [cell_at T2.out.res]; rfl
      have zf : ∀ j, w3.frozen? ⟨w.heap.size + 1, j, none⟩ = false := fun j => free_at T2.out.res j
      unfold balV
      have HF := fin4 (w := w) (.int .i64 V.t) (.int .i64 V.v) (.int .i64 V.r) (.slice a2 V.l.length cc) T2.out.res (by omega) T2.out.bel
      have HG := own4 (R := w.heap.size + 1) (.int .i64 V.t) (.int .i64 V.v) (.int .i64 V.r) (.slice a2 V.l.length cc) HW.out hs.out w.heap.size (by have := hs.out; omega)
      clear T2 HW hs
      go_wp2
      obtain ⟨e1, e2⟩ := HF.out
      have e3 := HG.out
      revert e1 e2 e3
      generalize (World.setCell _ ⟨w.heap.size + 1, 3, none⟩ _) = W
      intro e1 e2 e3
      exact bodyPost_ret (v := .tuple #[balV V (.slice a2 V.l.length cc), .int .i64 0]) (by simp [results, Try.results12, go_sem, cell_at e1, balV]) rfl ⟨_, rfl, e3, e2⟩
end Go.Proofs.Ytkoecdcbopkkbaa
