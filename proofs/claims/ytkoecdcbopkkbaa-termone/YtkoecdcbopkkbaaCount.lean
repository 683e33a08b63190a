/- A ballot that counts an answer. -/
import Derived.Test.YtkoecdcbopkkbaaHear
namespace Go.Proofs.Ytkoecdcbopkkbaa
open Go.RowKit
def countL (b : Bal) (x y : Int) (ok : Bool) (n : Int) : Bal × Int :=
  if mayB b = false then (zB, 70) else if oneB x n = false then (zB, 1) else if wiB y 1 1000000 = false then (zB, 1)
  else if (ok && ((hearL b y).t == y && (hearL b y).r == 2)) = true then (voteL (hearL b y) x n, 0) else (hearL b y, 0)
theorem own_block {w : World} {B : Nat} {e : TypeId} {z n k : Nat} {v : Value} {xs : List Value} (h : w.ownsRow B e z v n xs) (hk : v.ownBlock = some k) : k < w.heap.size ∧ B ≤ k := by
  obtain ⟨_, ⟨rfl, _⟩ | ⟨g, cap, cur, rfl, hB, hg, _⟩⟩ := h
  · cases hk
  · simp [Value.ownBlock] at hk
    subst hk
    exact ⟨(Array.getElem?_eq_some_iff.1 hg).1, hB⟩
theorem ownOther {B b j n : Nat} {e : TypeId} {z : Nat} {g : Value} {w : World} {xs : List Value} (v : Value) (h : w.ownsRow B e z g n xs) (hb : ∀ k, g.ownBlock = some k → k ≠ b) : (w.setCell ⟨b, j, none⟩ v).ownsRow B e z g n xs := by
  obtain ⟨h1, h2 | ⟨k, cap, cur, hv, hB, hg, r⟩⟩ := h
  · exact ⟨h1, .inl h2⟩
  · subst hv
    exact ⟨h1, .inr ⟨k, cap, cur, rfl, hB, (heap_set_other _ _ _ _ _ (hb k rfl)).trans hg, r⟩⟩
theorem own_mid {w wx : World} {B n : Nat} {e : TypeId} {z : Nat} {g : Value} {xs : List Value} (h : w.ownsRow B e z g n xs) (hb : Below w.heap.size w wx) : wx.ownsRow B e z g n xs ∧ ∀ k, g.ownBlock = some k → k < w.heap.size :=
  ⟨own_keep h hb, fun _ hk => (own_block h hk).1⟩
set_option maxHeartbeats 8000000 in
set_option maxRecDepth 100000 in
theorem count_is (b : Bal) (g : Value) (x y : Int) (ok : Bool) (n : Int) (w : World) (h : GotAt w g b.l) : Calls Try.prog 21 #[balV b g, .int .i64 x, .int .i64 y, .bool ok, .int .i64 n] w (BalErr w.heap.size w (countL b x y ok n).1 (countL b x y ok n).2) := by
  have T0 := hideIt (Two.start w b g)
  have HM := hideIt (mayBe_is b g _ (h.keep T0.out.bel))
  have HO := hideIt (fun W => isOneOf_is x n W)
  have HT := hideIt (fun W => isTerm_is y W)
  have HH := hideIt (fun W hW => hearing_is b g y W (h.keep hW))
  have HL := hideIt (@hear_l b y)
  clear h
  obtain ⟨A, hA⟩ : ∃ A, countL b x y ok n = A := ⟨_, rfl⟩
  rw [hA]
  unfold countL at hA
  generalize hearL b y = V at *
  obtain ⟨t, v, r, l⟩ := b
  unfold balV at HM HH ⊢
  simp only at hA T0 HM HH ⊢
  cases hm : mayB ⟨t, v, r, l⟩
  · rw [hm] at HM hA
    rw [if_pos rfl] at hA
    subst hA
    go_enter Try.func21, Try.ntmps21
    go_wp2_with fail
    refine HM.out.mono ?_
    rintro e w1 ⟨rfl, hb⟩
    dsimp only
    have T1 := hideIt (T0.out.keep hb)
    clear hb T0 HM
    have bc0 : w1.cell? ⟨w.heap.size, 0, none⟩ = some (.int .i64 t) := by rw [cell_at T1.out.box]; rfl
    have bc1 : w1.cell? ⟨w.heap.size, 1, none⟩ = some (.int .i64 v) := by rw [cell_at T1.out.box]; rfl
    have bc2 : w1.cell? ⟨w.heap.size, 2, none⟩ = some (.int .i64 r) := by rw [cell_at T1.out.box]; rfl
    have bc3 : w1.cell? ⟨w.heap.size, 3, none⟩ = some (g) := by rw [cell_at T1.out.box]; rfl
    have bf : ∀ j, w1.frozen? ⟨w.heap.size, j, none⟩ = false := fun j => free_at T1.out.box j
    have zc0 : w1.cell? ⟨w.heap.size + 1, 0, none⟩ = some (.int .i64 0) := by rw [cell_at T1.out.res]; rfl
    have zc1 : w1.cell? ⟨w.heap.size + 1, 1, none⟩ = some (.int .i64 0) := by rw [cell_at T1.out.res]; rfl
    have zc2 : w1.cell? ⟨w.heap.size + 1, 2, none⟩ = some (.int .i64 0) := by rw [cell_at T1.out.res]; rfl
    have zc3 : w1.cell? ⟨w.heap.size + 1, 3, none⟩ = some (.slice none 0 0) := by rw [cell_at T1.out.res]; rfl
    have zf : ∀ j, w1.frozen? ⟨w.heap.size + 1, j, none⟩ = false := fun j => free_at T1.out.res j
    have HF := fin4 (w := w) (.int .i64 0) (.int .i64 0) (.int .i64 0) (.slice none 0 0) T1.out.res (by omega) T1.out.bel
    clear T1
    go_wp2
    obtain ⟨e1, e2⟩ := HF.out
    revert e1 e2
    generalize (World.setCell _ ⟨w.heap.size + 1, 3, none⟩ _) = W
    intro e1 e2
    exact bodyPost_ret (v := .tuple #[balV zB (.slice none 0 0), .int .i64 70]) (by simp [results, Try.results21, go_sem, cell_at e1, balV, zB]) rfl ⟨_, rfl, ⟨rfl, .inl ⟨rfl, rfl⟩⟩, e2⟩
  · rw [hm] at HM hA
    rw [if_neg (by simp)] at hA
    have HL2 := hideIt (HL.out hm)
    clear HL hm
    cases ho : oneB x n
    · rw [ho] at HO hA
      rw [if_pos rfl] at hA
      subst hA
      go_enter Try.func21, Try.ntmps21
      go_wp2_with fail
      refine HM.out.mono ?_
      rintro e w1 ⟨rfl, hb⟩
      dsimp only
      have T1 := hideIt (T0.out.keep hb)
      clear hb T0 HM
      have bc0 : w1.cell? ⟨w.heap.size, 0, none⟩ = some (.int .i64 t) := by rw [cell_at T1.out.box]; rfl
      have bc1 : w1.cell? ⟨w.heap.size, 1, none⟩ = some (.int .i64 v) := by rw [cell_at T1.out.box]; rfl
      have bc2 : w1.cell? ⟨w.heap.size, 2, none⟩ = some (.int .i64 r) := by rw [cell_at T1.out.box]; rfl
      have bc3 : w1.cell? ⟨w.heap.size, 3, none⟩ = some (g) := by rw [cell_at T1.out.box]; rfl
      have bf : ∀ j, w1.frozen? ⟨w.heap.size, j, none⟩ = false := fun j => free_at T1.out.box j
      have zc0 : w1.cell? ⟨w.heap.size + 1, 0, none⟩ = some (.int .i64 0) := by rw [cell_at T1.out.res]; rfl
      have zc1 : w1.cell? ⟨w.heap.size + 1, 1, none⟩ = some (.int .i64 0) := by rw [cell_at T1.out.res]; rfl
      have zc2 : w1.cell? ⟨w.heap.size + 1, 2, none⟩ = some (.int .i64 0) := by rw [cell_at T1.out.res]; rfl
      have zc3 : w1.cell? ⟨w.heap.size + 1, 3, none⟩ = some (.slice none 0 0) := by rw [cell_at T1.out.res]; rfl
      have zf : ∀ j, w1.frozen? ⟨w.heap.size + 1, j, none⟩ = false := fun j => free_at T1.out.res j
      have HF := fin4 (w := w) (.int .i64 0) (.int .i64 0) (.int .i64 0) (.slice none 0 0) T1.out.res (by omega) T1.out.bel
      clear T1
      go_wp2_with fail
      refine (HO.out _).mono ?_
      rintro e w2 ⟨rfl, rfl⟩
      dsimp only
      go_wp2
      obtain ⟨e1, e2⟩ := HF.out
      revert e1 e2
      generalize (World.setCell _ ⟨w.heap.size + 1, 3, none⟩ _) = W
      intro e1 e2
      exact bodyPost_ret (v := .tuple #[balV zB (.slice none 0 0), .int .i64 1]) (by simp [results, Try.results21, go_sem, cell_at e1, balV, zB]) rfl ⟨_, rfl, ⟨rfl, .inl ⟨rfl, rfl⟩⟩, e2⟩
    · rw [ho] at HO hA
      rw [if_neg (by simp)] at hA
      clear ho
      cases ht : wiB y 1 1000000
      · rw [ht] at HT hA
        rw [if_pos rfl] at hA
        subst hA
        go_enter Try.func21, Try.ntmps21
        go_wp2_with fail
        refine HM.out.mono ?_
        rintro e w1 ⟨rfl, hb⟩
        dsimp only
        have T1 := hideIt (T0.out.keep hb)
        clear hb T0 HM
        have bc0 : w1.cell? ⟨w.heap.size, 0, none⟩ = some (.int .i64 t) := by rw [cell_at T1.out.box]; rfl
        have bc1 : w1.cell? ⟨w.heap.size, 1, none⟩ = some (.int .i64 v) := by rw [cell_at T1.out.box]; rfl
        have bc2 : w1.cell? ⟨w.heap.size, 2, none⟩ = some (.int .i64 r) := by rw [cell_at T1.out.box]; rfl
        have bc3 : w1.cell? ⟨w.heap.size, 3, none⟩ = some (g) := by rw [cell_at T1.out.box]; rfl
        have bf : ∀ j, w1.frozen? ⟨w.heap.size, j, none⟩ = false := fun j => free_at T1.out.box j
        have zc0 : w1.cell? ⟨w.heap.size + 1, 0, none⟩ = some (.int .i64 0) := by rw [cell_at T1.out.res]; rfl
        have zc1 : w1.cell? ⟨w.heap.size + 1, 1, none⟩ = some (.int .i64 0) := by rw [cell_at T1.out.res]; rfl
        have zc2 : w1.cell? ⟨w.heap.size + 1, 2, none⟩ = some (.int .i64 0) := by rw [cell_at T1.out.res]; rfl
        have zc3 : w1.cell? ⟨w.heap.size + 1, 3, none⟩ = some (.slice none 0 0) := by rw [cell_at T1.out.res]; rfl
        have zf : ∀ j, w1.frozen? ⟨w.heap.size + 1, j, none⟩ = false := fun j => free_at T1.out.res j
        have HF := fin4 (w := w) (.int .i64 0) (.int .i64 0) (.int .i64 0) (.slice none 0 0) T1.out.res (by omega) T1.out.bel
        clear T1
        go_wp2_with fail
        refine (HO.out _).mono ?_
        rintro e w2 ⟨rfl, rfl⟩
        dsimp only
        go_wp2_with fail
        refine (HT.out _).mono ?_
        rintro e w3 ⟨rfl, rfl⟩
        dsimp only
        go_wp2
        obtain ⟨e1, e2⟩ := HF.out
        revert e1 e2
        generalize (World.setCell _ ⟨w.heap.size + 1, 3, none⟩ _) = W
        intro e1 e2
        exact bodyPost_ret (v := .tuple #[balV zB (.slice none 0 0), .int .i64 1]) (by simp [results, Try.results21, go_sem, cell_at e1, balV, zB]) rfl ⟨_, rfl, ⟨rfl, .inl ⟨rfl, rfl⟩⟩, e2⟩
      · rw [ht] at HT hA
        rw [if_neg (by simp)] at hA
        clear ht
        cases ok
        · rw [if_neg (by simp)] at hA
          subst hA
          go_enter Try.func21, Try.ntmps21
          go_wp2_with fail
          refine HM.out.mono ?_
          rintro e w1 ⟨rfl, hb⟩
          dsimp only
          have T1 := hideIt (T0.out.keep hb)
          clear hb T0 HM
          have bc0 : w1.cell? ⟨w.heap.size, 0, none⟩ = some (.int .i64 t) := by rw [cell_at T1.out.box]; rfl
          have bc1 : w1.cell? ⟨w.heap.size, 1, none⟩ = some (.int .i64 v) := by rw [cell_at T1.out.box]; rfl
          have bc2 : w1.cell? ⟨w.heap.size, 2, none⟩ = some (.int .i64 r) := by rw [cell_at T1.out.box]; rfl
          have bc3 : w1.cell? ⟨w.heap.size, 3, none⟩ = some (g) := by rw [cell_at T1.out.box]; rfl
          have bf : ∀ j, w1.frozen? ⟨w.heap.size, j, none⟩ = false := fun j => free_at T1.out.box j
          go_wp2_with fail
          refine (HO.out _).mono ?_
          rintro e w2 ⟨rfl, rfl⟩
          dsimp only
          go_wp2_with fail
          refine (HT.out _).mono ?_
          rintro e w3 ⟨rfl, rfl⟩
          dsimp only
          clear HO HT
          go_wp2_with fail
          refine (HH.out _ T1.out.bel).mono ?_
          rintro e w4 ⟨g2, rfl, h1, h2⟩
          dsimp only
          obtain ⟨a2, cc, rfl⟩ := own_len h1
          have hs := hideIt T1.out.size
          have T2 := hideIt (T1.out.keep h2)
          have HW := hideIt h1
          clear h1 h2 T1 HH bc0 bc1 bc2 bc3 bf
          unfold balV
          have T3 := hideIt (T2.out.keep (below1 w4 (.cells #[.int .i64 V.t, .int .i64 V.v, .int .i64 V.r, .slice a2 V.l.length cc] 60)))
          have HX := hideIt (own_keep HW.out (below1 w4 (.cells #[.int .i64 V.t, .int .i64 V.v, .int .i64 V.r, .slice a2 V.l.length cc] 60)))
          have zc0 : (w4.alloc (.cells #[.int .i64 V.t, .int .i64 V.v, .int .i64 V.r, .slice a2 V.l.length cc] 60)).cell? ⟨w.heap.size + 1, 0, none⟩ = some (.int .i64 0) := by rw [cell_at T3.out.res]; rfl
          have zc1 : (w4.alloc (.cells #[.int .i64 V.t, .int .i64 V.v, .int .i64 V.r, .slice a2 V.l.length cc] 60)).cell? ⟨w.heap.size + 1, 1, none⟩ = some (.int .i64 0) := by rw [cell_at T3.out.res]; rfl
          have zc2 : (w4.alloc (.cells #[.int .i64 V.t, .int .i64 V.v, .int .i64 V.r, .slice a2 V.l.length cc] 60)).cell? ⟨w.heap.size + 1, 2, none⟩ = some (.int .i64 0) := by rw [cell_at T3.out.res]; rfl
          have zc3 : (w4.alloc (.cells #[.int .i64 V.t, .int .i64 V.v, .int .i64 V.r, .slice a2 V.l.length cc] 60)).cell? ⟨w.heap.size + 1, 3, none⟩ = some (.slice none 0 0) := by rw [cell_at T3.out.res]; rfl
          have zf : ∀ j, (w4.alloc (.cells #[.int .i64 V.t, .int .i64 V.v, .int .i64 V.r, .slice a2 V.l.length cc] 60)).frozen? ⟨w.heap.size + 1, j, none⟩ = false := fun j => free_at T3.out.res j
          have HF := fin4 (w := w) (.int .i64 V.t) (.int .i64 V.v) (.int .i64 V.r) (.slice a2 V.l.length cc) T3.out.res (by omega) T3.out.bel
          have HG := own4 (R := w.heap.size + 1) (.int .i64 V.t) (.int .i64 V.v) (.int .i64 V.r) (.slice a2 V.l.length cc) HX.out hs.out w.heap.size (by have := hs.out; omega)
          clear T2 T3 HW HX hs
          go_wp2
          obtain ⟨e1, e2⟩ := HF.out
          have e3 := HG.out
          revert e1 e2 e3
          generalize (World.setCell _ ⟨w.heap.size + 1, 3, none⟩ _) = W
          intro e1 e2 e3
          exact bodyPost_ret (v := .tuple #[balV V (.slice a2 V.l.length cc), .int .i64 0]) (by simp [results, Try.results21, go_sem, cell_at e1, balV]) rfl ⟨_, rfl, e3, e2⟩
        · have HS := hideIt (fun W a2 cc => stands_is V.t V.v V.r (.slice a2 V.l.length cc) y W)
          have HV := hideIt (fun W g hg => vote_is V g x n W hg HL2.out.1 HL2.out.2)
          have HL3 := hideIt HL2.out.2
          clear HL2
          generalize voteL V x n = U at *
          simp only [Bool.true_and] at hA
          cases hst : (V.t == y && V.r == 2)
          · rw [hst] at HS hA
            rw [if_neg (by simp)] at hA
            subst hA
            clear hst HV
            go_enter Try.func21, Try.ntmps21
            go_wp2_with fail
            refine HM.out.mono ?_
            rintro e w1 ⟨rfl, hb⟩
            dsimp only
            have T1 := hideIt (T0.out.keep hb)
            clear hb T0 HM
            have bc0 : w1.cell? ⟨w.heap.size, 0, none⟩ = some (.int .i64 t) := by rw [cell_at T1.out.box]; rfl
            have bc1 : w1.cell? ⟨w.heap.size, 1, none⟩ = some (.int .i64 v) := by rw [cell_at T1.out.box]; rfl
            have bc2 : w1.cell? ⟨w.heap.size, 2, none⟩ = some (.int .i64 r) := by rw [cell_at T1.out.box]; rfl
            have bc3 : w1.cell? ⟨w.heap.size, 3, none⟩ = some (g) := by rw [cell_at T1.out.box]; rfl
            have bf : ∀ j, w1.frozen? ⟨w.heap.size, j, none⟩ = false := fun j => free_at T1.out.box j
            go_wp2_with fail
            refine (HO.out _).mono ?_
            rintro e w2 ⟨rfl, rfl⟩
            dsimp only
            go_wp2_with fail
            refine (HT.out _).mono ?_
            rintro e w3 ⟨rfl, rfl⟩
            dsimp only
            clear HO HT
            go_wp2_with fail
            refine (HH.out _ T1.out.bel).mono ?_
            rintro e w4 ⟨g2, rfl, h1, h2⟩
            dsimp only
            obtain ⟨a2, cc, rfl⟩ := own_len h1
            have hs := hideIt T1.out.size
            have T2 := hideIt (T1.out.keep h2)
            have HW := hideIt h1
            clear h1 h2 T1 HH bc0 bc1 bc2 bc3 bf
            unfold balV
            have T3 := hideIt (T2.out.keep (below1 w4 (.cells #[.int .i64 V.t, .int .i64 V.v, .int .i64 V.r, .slice a2 V.l.length cc] 60)))
            have HX := hideIt (own_keep HW.out (below1 w4 (.cells #[.int .i64 V.t, .int .i64 V.v, .int .i64 V.r, .slice a2 V.l.length cc] 60)))
            clear T2 HW
            go_wp2_with fail
            refine (HS.out _ a2 cc).mono ?_
            rintro e w5 ⟨rfl, hb⟩
            dsimp only
            have T4 := hideIt (T3.out.keep hb)
            have HY := hideIt (own_keep HX.out hb)
            have HE := hideIt ((hb.block w4.heap.size (by simp)).trans (heap_alloc_new w4 _))
            clear hb T3 HX HS
            have ec0 : w5.cell? ⟨w4.heap.size, 0, none⟩ = some (.int .i64 V.t) := by rw [cell_at HE.out]; rfl
            have ec1 : w5.cell? ⟨w4.heap.size, 1, none⟩ = some (.int .i64 V.v) := by rw [cell_at HE.out]; rfl
            have ec2 : w5.cell? ⟨w4.heap.size, 2, none⟩ = some (.int .i64 V.r) := by rw [cell_at HE.out]; rfl
            have ec3 : w5.cell? ⟨w4.heap.size, 3, none⟩ = some (.slice a2 V.l.length cc) := by rw [cell_at HE.out]; rfl
            have ef : ∀ j, w5.frozen? ⟨w4.heap.size, j, none⟩ = false := fun j => free_at HE.out j
            have zc0 : w5.cell? ⟨w.heap.size + 1, 0, none⟩ = some (.int .i64 0) := by rw [cell_at T4.out.res]; rfl
            have zc1 : w5.cell? ⟨w.heap.size + 1, 1, none⟩ = some (.int .i64 0) := by rw [cell_at T4.out.res]; rfl
            have zc2 : w5.cell? ⟨w.heap.size + 1, 2, none⟩ = some (.int .i64 0) := by rw [cell_at T4.out.res]; rfl
            have zc3 : w5.cell? ⟨w.heap.size + 1, 3, none⟩ = some (.slice none 0 0) := by rw [cell_at T4.out.res]; rfl
            have zf : ∀ j, w5.frozen? ⟨w.heap.size + 1, j, none⟩ = false := fun j => free_at T4.out.res j
            have HF := fin4 (w := w) (.int .i64 V.t) (.int .i64 V.v) (.int .i64 V.r) (.slice a2 V.l.length cc) T4.out.res (by omega) T4.out.bel
            have HG := own4 (R := w.heap.size + 1) (.int .i64 V.t) (.int .i64 V.v) (.int .i64 V.r) (.slice a2 V.l.length cc) HY.out hs.out w.heap.size (by have := hs.out; omega)
            clear T4 HY hs HE
            go_wp2
            obtain ⟨e1, e2⟩ := HF.out
            have e3 := HG.out
            revert e1 e2 e3
            generalize (World.setCell _ ⟨w.heap.size + 1, 3, none⟩ _) = W
            intro e1 e2 e3
            exact bodyPost_ret (v := .tuple #[balV V (.slice a2 V.l.length cc), .int .i64 0]) (by simp [results, Try.results21, go_sem, cell_at e1, balV]) rfl ⟨_, rfl, e3, e2⟩
          · rw [hst] at HS hA
            rw [if_pos rfl] at hA
            subst hA
            clear hst
            go_enter Try.func21, Try.ntmps21
            go_wp2_with fail
            refine HM.out.mono ?_
            rintro e w1 ⟨rfl, hb⟩
            dsimp only
            have T1 := hideIt (T0.out.keep hb)
            clear hb T0 HM
            have bc0 : w1.cell? ⟨w.heap.size, 0, none⟩ = some (.int .i64 t) := by rw [cell_at T1.out.box]; rfl
            have bc1 : w1.cell? ⟨w.heap.size, 1, none⟩ = some (.int .i64 v) := by rw [cell_at T1.out.box]; rfl
            have bc2 : w1.cell? ⟨w.heap.size, 2, none⟩ = some (.int .i64 r) := by rw [cell_at T1.out.box]; rfl
            have bc3 : w1.cell? ⟨w.heap.size, 3, none⟩ = some (g) := by rw [cell_at T1.out.box]; rfl
            have bf : ∀ j, w1.frozen? ⟨w.heap.size, j, none⟩ = false := fun j => free_at T1.out.box j
            go_wp2_with fail
            refine (HO.out _).mono ?_
            rintro e w2 ⟨rfl, rfl⟩
            dsimp only
            go_wp2_with fail
            refine (HT.out _).mono ?_
            rintro e w3 ⟨rfl, rfl⟩
            dsimp only
            clear HO HT
            go_wp2_with fail
            refine (HH.out _ T1.out.bel).mono ?_
            rintro e w4 ⟨g2, rfl, h1, h2⟩
            dsimp only
            obtain ⟨a2, cc, rfl⟩ := own_len h1
            have T2 := hideIt (T1.out.keep h2)
            have HW := hideIt h1
            clear h1 h2 T1 HH bc0 bc1 bc2 bc3 bf
            unfold balV
            have T3 := hideIt (T2.out.keep (below1 w4 (.cells #[.int .i64 V.t, .int .i64 V.v, .int .i64 V.r, .slice a2 V.l.length cc] 60)))
            have HX := hideIt (own_keep HW.out (below1 w4 (.cells #[.int .i64 V.t, .int .i64 V.v, .int .i64 V.r, .slice a2 V.l.length cc] 60)))
            have hs4 := hideIt T2.out.size
            clear T2 HW
            go_wp2_with fail
            refine (HS.out _ a2 cc).mono ?_
            rintro e w5 ⟨rfl, hb⟩
            dsimp only
            have T4 := hideIt (T3.out.keep hb)
            have HY := hideIt (own_keep HX.out hb)
            have HE := hideIt ((hb.block w4.heap.size (by simp)).trans (heap_alloc_new w4 _))
            have hsz : Hid (w4.heap.size < w5.heap.size) := (Array.getElem?_eq_some_iff.1 HE.out).1
            clear hb T3 HX HS
            have ec0 : w5.cell? ⟨w4.heap.size, 0, none⟩ = some (.int .i64 V.t) := by rw [cell_at HE.out]; rfl
            have ec1 : w5.cell? ⟨w4.heap.size, 1, none⟩ = some (.int .i64 V.v) := by rw [cell_at HE.out]; rfl
            have ec2 : w5.cell? ⟨w4.heap.size, 2, none⟩ = some (.int .i64 V.r) := by rw [cell_at HE.out]; rfl
            have ec3 : w5.cell? ⟨w4.heap.size, 3, none⟩ = some (.slice a2 V.l.length cc) := by rw [cell_at HE.out]; rfl
            have ef : ∀ j, w5.frozen? ⟨w4.heap.size, j, none⟩ = false := fun j => free_at HE.out j
            have HV2 := hideIt (HV.out w5 _ (own_got HY.out (by have := HL3.out; omega)))
            unfold balV at HV2
            go_wp2_with fail
            refine HV2.out.mono ?_
            rintro e w6 ⟨g3, rfl, h1, h2⟩
            dsimp only
            obtain ⟨a3, c3, rfl⟩ := own_len h1
            unfold balV
            have T5 := hideIt (T4.out.keep h2)
            have HE2 := hideIt ((h2.block w4.heap.size hsz.out).trans HE.out)
            have HW := hideIt h1
            clear h1 h2 T4 HY HE HV HV2 ec0 ec1 ec2 ec3 ef
            have hne : ¬ (w4.heap.size = w.heap.size + 1) := by have := hs4.out; omega
            have hne2 : ¬ (w.heap.size + 1 = w4.heap.size) := by have := hs4.out; omega
            have ec0 : w6.cell? ⟨w4.heap.size, 0, none⟩ = some (.int .i64 V.t) := by rw [cell_at HE2.out]; rfl
            have ec1 : w6.cell? ⟨w4.heap.size, 1, none⟩ = some (.int .i64 V.v) := by rw [cell_at HE2.out]; rfl
            have ec2 : w6.cell? ⟨w4.heap.size, 2, none⟩ = some (.int .i64 V.r) := by rw [cell_at HE2.out]; rfl
            have ec3 : w6.cell? ⟨w4.heap.size, 3, none⟩ = some (.slice a2 V.l.length cc) := by rw [cell_at HE2.out]; rfl
            have ef : ∀ j, w6.frozen? ⟨w4.heap.size, j, none⟩ = false := fun j => free_at HE2.out j
            have zc0 : w6.cell? ⟨w.heap.size + 1, 0, none⟩ = some (.int .i64 0) := by rw [cell_at T5.out.res]; rfl
            have zc1 : w6.cell? ⟨w.heap.size + 1, 1, none⟩ = some (.int .i64 0) := by rw [cell_at T5.out.res]; rfl
            have zc2 : w6.cell? ⟨w.heap.size + 1, 2, none⟩ = some (.int .i64 0) := by rw [cell_at T5.out.res]; rfl
            have zc3 : w6.cell? ⟨w.heap.size + 1, 3, none⟩ = some (.slice none 0 0) := by rw [cell_at T5.out.res]; rfl
            have zf : ∀ j, w6.frozen? ⟨w.heap.size + 1, j, none⟩ = false := fun j => free_at T5.out.res j
            have HP := fin4 (w := w) (R := w4.heap.size) (.int .i64 U.t) (.int .i64 U.v) (.int .i64 U.r) (.slice a3 U.l.length c3) HE2.out (by have := hs4.out; omega) T5.out.bel
            have HQ := own4 (R := w4.heap.size) (.int .i64 U.t) (.int .i64 U.v) (.int .i64 U.r) (.slice a3 U.l.length c3) HW.out hsz.out w5.heap.size (Nat.le_refl _)
            have HZ : Hid (((((w6.setCell ⟨w4.heap.size, 0, none⟩ (.int .i64 U.t)).setCell ⟨w4.heap.size, 1, none⟩ (.int .i64 U.v)).setCell ⟨w4.heap.size, 2, none⟩ (.int .i64 U.r)).setCell ⟨w4.heap.size, 3, none⟩ (.slice a3 U.l.length c3)).heap[w.heap.size + 1]? = some (.cells #[.int .i64 0, .int .i64 0, .int .i64 0, .slice none 0 0] 26 (0, 0))) := setOther _ (setOther _ (setOther _ (setOther _ T5.out.res hne2) hne2) hne2) hne2
            have HF := fin4 (w := w) (.int .i64 U.t) (.int .i64 U.v) (.int .i64 U.r) (.slice a3 U.l.length c3) HZ.out (by omega) HP.out.2
            have HG := own4 (R := w.heap.size + 1) (.int .i64 U.t) (.int .i64 U.v) (.int .i64 U.r) (.slice a3 U.l.length c3) HQ.out (by have := hs4.out; have := hsz.out; omega) w.heap.size (by have := hs4.out; have := hsz.out; omega)
            clear T5 HW HE2 HP HQ HZ hs4 hsz HL3
            go_wp2
            obtain ⟨e1, e2⟩ := HF.out
            have e3 := HG.out
            revert e1 e2 e3
            generalize (World.setCell _ ⟨w.heap.size + 1, 3, none⟩ _) = W
            intro e1 e2 e3
            exact bodyPost_ret (v := .tuple #[balV U (.slice a3 U.l.length c3), .int .i64 0]) (by simp [results, Try.results21, go_sem, cell_at e1, balV]) rfl ⟨_, rfl, e3, e2⟩
end Go.Proofs.Ytkoecdcbopkkbaa
