/- The calls of term: a ballot that has heard of a term, an election that begins, a question, an answer. -/
import Derived.Test.YtkoecdcbopkkbaaVote
namespace Go.Proofs.Ytkoecdcbopkkbaa
open Go.RowKit
def hearL (b : Bal) (x : Int) : Bal := if b.t < x then ⟨x, 0, 1, []⟩ else b
set_option maxHeartbeats 4000000 in
set_option maxRecDepth 100000 in
theorem hearing_is (b : Bal) (g : Value) (x : Int) (w : World) (h : GotAt w g b.l) : Calls Try.prog 30 #[balV b g, .int .i64 x] w (BalBack w.heap.size w (hearL b x)) := by
  obtain ⟨t, v, r, l⟩ := b
  simp only at h
  unfold balV
  simp only
  by_cases hx : t < x
  · rw [show hearL ⟨t, v, r, l⟩ x = ⟨x, 0, 1, []⟩ by simp [hearL, hx]]
    clear h
    go_enter Try.func30, Try.ntmps30
    go_wp2
    exact bodyPost_ret (v := balV ⟨x, 0, 1, []⟩ (.slice none 0 0)) (by simp [results, Try.results30, go_sem, balV]) rfl ⟨_, rfl, ⟨rfl, .inl ⟨rfl, rfl⟩⟩, below2 w _ _⟩
  · rw [show hearL ⟨t, v, r, l⟩ x = ⟨t, v, r, l⟩ by simp [hearL, hx]]
    have HC := hideIt (clone_any g l _ (h.keep (below2 w (.cells #[.int .i64 t, .int .i64 v, .int .i64 r, g] 60) (.cells #[.int .i64 0, .int .i64 0, .int .i64 0, .slice none 0 0] 60))))
    clear h
    go_enter Try.func30, Try.ntmps30
    go_wp2_with fail
    refine HC.out.mono ?_
    rintro e w1 ⟨g1, rfl, h1, h2⟩
    dsimp only
    have R1 := hideIt (Ready.first (b := ⟨t, v, r, l⟩) h1 h2)
    clear h1 h2 HC
    obtain ⟨a2, cc, rfl⟩ := own_len R1.out.own
    have bc0 : w1.cell? ⟨w.heap.size, 0, none⟩ = some (.int .i64 t) := by rw [cell_at R1.out.box]; rfl
    have bc1 : w1.cell? ⟨w.heap.size, 1, none⟩ = some (.int .i64 v) := by rw [cell_at R1.out.box]; rfl
    have bc2 : w1.cell? ⟨w.heap.size, 2, none⟩ = some (.int .i64 r) := by rw [cell_at R1.out.box]; rfl
    have bc3 : w1.cell? ⟨w.heap.size, 3, none⟩ = some (g) := by rw [cell_at R1.out.box]; rfl
    have bf : ∀ j, w1.frozen? ⟨w.heap.size, j, none⟩ = false := fun j => free_at R1.out.box j
    have zc0 : w1.cell? ⟨w.heap.size + 1, 0, none⟩ = some (.int .i64 0) := by rw [cell_at R1.out.res]; rfl
    have zc1 : w1.cell? ⟨w.heap.size + 1, 1, none⟩ = some (.int .i64 0) := by rw [cell_at R1.out.res]; rfl
    have zc2 : w1.cell? ⟨w.heap.size + 1, 2, none⟩ = some (.int .i64 0) := by rw [cell_at R1.out.res]; rfl
    have zc3 : w1.cell? ⟨w.heap.size + 1, 3, none⟩ = some (.slice none 0 0) := by rw [cell_at R1.out.res]; rfl
    have zf : ∀ j, w1.frozen? ⟨w.heap.size + 1, j, none⟩ = false := fun j => free_at R1.out.res j
    have HF := R1.out.done (w1.setCell ⟨w.heap.size, 3, none⟩ (.slice a2 l.length cc)) r (by rw [heap_set_other _ _ _ _ _ (by omega)]) (ownSet _ R1.out.own (by omega)) (belowSet _ R1.out.bel (by omega))
    clear R1
    go_wp2
    obtain ⟨e1, e2, e3⟩ := HF.out
    revert e1 e2 e3
    generalize (World.setCell _ ⟨w.heap.size + 1, 3, none⟩ _) = W
    intro e1 e2 e3
    exact bodyPost_ret (v := balV ⟨t, v, r, l⟩ (.slice a2 l.length cc)) (by simp [results, Try.results30, go_sem, cell_at e1, balV]) rfl ⟨_, rfl, e2, e3⟩
/-- A ballot and a word come back, the list in memory from B on. -/
def BalErr (B : Nat) (w : World) (b : Bal) (x : Int) (e : Ending) (w' : World) : Prop := ∃ g, e = .returned (.tuple #[balV b g, .int .i64 x]) ∧ w'.ownsRow B 3 1 g b.l.length (b.l.map iv) ∧ Below B w w'
def zB : Bal := ⟨0, 0, 0, []⟩
/-- Four values are laid into the result's block. -/
theorem fin4 {w wx : World} {R : Nat} {ty : TypeId} (v0 v1 v2 v3 : Value) {z0 z1 z2 z3 : Value} (hz : wx.heap[R]? = some (.cells #[z0, z1, z2, z3] ty (0, 0))) (hR : w.heap.size ≤ R) (hb : Below w.heap.size w wx) :
    Hid (((((wx.setCell ⟨R, 0, none⟩ v0).setCell ⟨R, 1, none⟩ v1).setCell ⟨R, 2, none⟩ v2).setCell ⟨R, 3, none⟩ v3).heap[R]? = some (.cells #[v0, v1, v2, v3] ty (0, 0)) ∧ Below w.heap.size w ((((wx.setCell ⟨R, 0, none⟩ v0).setCell ⟨R, 1, none⟩ v1).setCell ⟨R, 2, none⟩ v2).setCell ⟨R, 3, none⟩ v3)) :=
  ⟨put4 _ _ ty _ _ _ _ hz, belowSet _ (belowSet _ (belowSet _ (belowSet _ hb hR) hR) hR) hR⟩
theorem own4 {wx : World} {R B n : Nat} {e : TypeId} {z : Nat} {g : Value} {xs : List Value} (v0 v1 v2 v3 : Value) (ho : wx.ownsRow B e z g n xs) (hR : R < B) (B' : Nat) (hB : B' ≤ B) :
    Hid (((((wx.setCell ⟨R, 0, none⟩ v0).setCell ⟨R, 1, none⟩ v1).setCell ⟨R, 2, none⟩ v2).setCell ⟨R, 3, none⟩ v3).ownsRow B' e z g n xs) :=
  own_base (ownSet _ (ownSet _ (ownSet _ (ownSet _ ho hR) hR) hR) hR) hB
/-- The box of a ballot and the result's block behind it. -/
structure Two (w : World) (b : Bal) (g : Value) (wx : World) : Prop where
  box : wx.heap[w.heap.size]? = some (.cells #[.int .i64 b.t, .int .i64 b.v, .int .i64 b.r, g] 26 (0, 0))
  res : wx.heap[w.heap.size + 1]? = some (.cells #[.int .i64 0, .int .i64 0, .int .i64 0, .slice none 0 0] 26 (0, 0))
  bel : Below w.heap.size w wx
theorem Two.size {w wx : World} {b : Bal} {g : Value} (h : Two w b g wx) : w.heap.size + 2 ≤ wx.heap.size := (Array.getElem?_eq_some_iff.1 h.res).1
theorem Two.start (w : World) (b : Bal) (g : Value) : Two w b g ((w.alloc (.cells #[.int .i64 b.t, .int .i64 b.v, .int .i64 b.r, g] 26)).alloc (.cells #[.int .i64 0, .int .i64 0, .int .i64 0, .slice none 0 0] 26)) := by
  have ht := two_heap w (.cells #[.int .i64 b.t, .int .i64 b.v, .int .i64 b.r, g] 26) (.cells #[.int .i64 0, .int .i64 0, .int .i64 0, .slice none 0 0] 26)
  exact ⟨ht.1, ht.2.1, below2 w _ _⟩
theorem Two.keep {w wx wy : World} {b : Bal} {g : Value} (h : Two w b g wx) (hb : Below wx.heap.size wx wy) : Two w b g wy := by
  have hs := h.size
  exact ⟨(hb.block _ (by omega)).trans h.box, (hb.block _ (by omega)).trans h.res, below_via h.bel hb⟩
def beginL (b : Bal) (me n : Int) : Bal × Int :=
  if mayB b = false then (zB, 70) else if oneB me n = false then (zB, 1) else if b.t = 1000000 then (zB, 2) else (voteL ⟨b.t + 1, me, 2, []⟩ me n, 0)
theorem may_t {b : Bal} (h : mayB b = true) : 0 ≤ b.t ∧ b.t ≤ 1000000 := by
  simp [mayB, wiB] at h
  omega
set_option maxHeartbeats 4000000 in
set_option maxRecDepth 100000 in
theorem begin_is (b : Bal) (g : Value) (me n : Int) (w : World) (h : GotAt w g b.l) : Calls Try.prog 10 #[balV b g, .int .i64 me, .int .i64 n] w (BalErr w.heap.size w (beginL b me n).1 (beginL b me n).2) := by
  have T0 := hideIt (Two.start w b g)
  have HM := hideIt (mayBe_is b g _ (h.keep T0.out.bel))
  have HO := hideIt (fun W => isOneOf_is me n W)
  clear h
  obtain ⟨A, hA⟩ : ∃ A, beginL b me n = A := ⟨_, rfl⟩
  rw [hA]
  unfold beginL at hA
  have ht := @may_t b
  obtain ⟨t, v, r, l⟩ := b
  unfold balV at HM ⊢
  simp only at hA T0 ht HM ⊢
  cases hm : mayB ⟨t, v, r, l⟩
  · rw [hm] at HM hA
    rw [if_pos rfl] at hA
    subst hA
    clear ht
    go_enter Try.func10, Try.ntmps10
    go_wp2_with fail
    refine HM.out.mono ?_
    rintro e w1 ⟨rfl, hb⟩
    dsimp only
    have T1 := hideIt (T0.out.keep hb)
    clear hb T0 HM
    have bc0 : w1.cell? ⟨w.heap.size, 0, none⟩ = some (.int .i64 t) := by rw [cell_at T1.out.box]; rfl
    have bc1 : w1.cell? ⟨w.heap.size, 1, none⟩ = some (.int .i64 v) := by rw [cell_at T1.out.box]; rfl
    have bc2 : w1.cell? ⟨w.heap.size, 2, none⟩ = some (.int .i64 r) := by rw [cell_at T1.out.box]; rfl
    have bc3 : w1.cell? ⟨w.heap.size, 3, none⟩ = some (g) := by rw [cell_at T1.out.box]; rfl
    have bf : ∀ j, w1.frozen? ⟨w.heap.size, j, none⟩ = false := fun j => free_at T1.out.box j
    have zc0 : w1.cell? ⟨w.heap.size + 1, 0, none⟩ = some (.int .i64 0) := by rw [cell_at T1.out.res]; rfl
    have zc1 : w1.cell? ⟨w.heap.size + 1, 1, none⟩ = some (.int .i64 0) := by rw [cell_at T1.out.res]; rfl
    have zc2 : w1.cell? ⟨w.heap.size + 1, 2, none⟩ = some (.int .i64 0) := by rw [cell_at T1.out.res]; rfl
    have zc3 : w1.cell? ⟨w.heap.size + 1, 3, none⟩ = some (.slice none 0 0) := by rw [cell_at T1.out.res]; rfl
    have zf : ∀ j, w1.frozen? ⟨w.heap.size + 1, j, none⟩ = false := fun j => free_at T1.out.res j
    have HF := fin4 (w := w) (.int .i64 0) (.int .i64 0) (.int .i64 0) (.slice none 0 0) T1.out.res (by omega) T1.out.bel
    clear T1
    go_wp2
    obtain ⟨e1, e2⟩ := HF.out
    revert e1 e2
    generalize (World.setCell _ ⟨w.heap.size + 1, 3, none⟩ _) = W
    intro e1 e2
    exact bodyPost_ret (v := .tuple #[balV zB (.slice none 0 0), .int .i64 70]) (by simp [results, Try.results10, go_sem, cell_at e1, balV, zB]) rfl ⟨_, rfl, ⟨rfl, .inl ⟨rfl, rfl⟩⟩, e2⟩
  · rw [hm] at HM hA
    rw [if_neg (by simp)] at hA
    have ht2 := ht hm
    clear ht
    cases ho : oneB me n
    · rw [ho] at HO hA
      rw [if_pos rfl] at hA
      subst hA
      go_enter Try.func10, Try.ntmps10
      go_wp2_with fail
      refine HM.out.mono ?_
      rintro e w1 ⟨rfl, hb⟩
      dsimp only
      have T1 := hideIt (T0.out.keep hb)
      clear hb T0 HM
      have bc0 : w1.cell? ⟨w.heap.size, 0, none⟩ = some (.int .i64 t) := by rw [cell_at T1.out.box]; rfl
      have bc1 : w1.cell? ⟨w.heap.size, 1, none⟩ = some (.int .i64 v) := by rw [cell_at T1.out.box]; rfl
      have bc2 : w1.cell? ⟨w.heap.size, 2, none⟩ = some (.int .i64 r) := by rw [cell_at T1.out.box]; rfl
      have bc3 : w1.cell? ⟨w.heap.size, 3, none⟩ = some (g) := by rw [cell_at T1.out.box]; rfl
      have bf : ∀ j, w1.frozen? ⟨w.heap.size, j, none⟩ = false := fun j => free_at T1.out.box j
      have zc0 : w1.cell? ⟨w.heap.size + 1, 0, none⟩ = some (.int .i64 0) := by rw [cell_at T1.out.res]; rfl
      have zc1 : w1.cell? ⟨w.heap.size + 1, 1, none⟩ = some (.int .i64 0) := by rw [cell_at T1.out.res]; rfl
      have zc2 : w1.cell? ⟨w.heap.size + 1, 2, none⟩ = some (.int .i64 0) := by rw [cell_at T1.out.res]; rfl
      have zc3 : w1.cell? ⟨w.heap.size + 1, 3, none⟩ = some (.slice none 0 0) := by rw [cell_at T1.out.res]; rfl
      have zf : ∀ j, w1.frozen? ⟨w.heap.size + 1, j, none⟩ = false := fun j => free_at T1.out.res j
      have HF := fin4 (w := w) (.int .i64 0) (.int .i64 0) (.int .i64 0) (.slice none 0 0) T1.out.res (by omega) T1.out.bel
      clear T1
      go_wp2_with fail
      refine (HO.out _).mono ?_
      rintro e w2 ⟨rfl, rfl⟩
      dsimp only
      go_wp2
      obtain ⟨e1, e2⟩ := HF.out
      revert e1 e2
      generalize (World.setCell _ ⟨w.heap.size + 1, 3, none⟩ _) = W
      intro e1 e2
      exact bodyPost_ret (v := .tuple #[balV zB (.slice none 0 0), .int .i64 1]) (by simp [results, Try.results10, go_sem, cell_at e1, balV, zB]) rfl ⟨_, rfl, ⟨rfl, .inl ⟨rfl, rfl⟩⟩, e2⟩
    · rw [ho] at HO hA
      rw [if_neg (by simp)] at hA
      by_cases h6 : t = 1000000
      · rw [if_pos h6] at hA
        subst hA
        subst h6
        go_enter Try.func10, Try.ntmps10
        go_wp2_with fail
        refine HM.out.mono ?_
        rintro e w1 ⟨rfl, hb⟩
        dsimp only
        have T1 := hideIt (T0.out.keep hb)
        clear hb T0 HM
        have bc0 : w1.cell? ⟨w.heap.size, 0, none⟩ = some (.int .i64 1000000) := by rw [cell_at T1.out.box]; rfl
        have bc1 : w1.cell? ⟨w.heap.size, 1, none⟩ = some (.int .i64 v) := by rw [cell_at T1.out.box]; rfl
        have bc2 : w1.cell? ⟨w.heap.size, 2, none⟩ = some (.int .i64 r) := by rw [cell_at T1.out.box]; rfl
        have bc3 : w1.cell? ⟨w.heap.size, 3, none⟩ = some (g) := by rw [cell_at T1.out.box]; rfl
        have bf : ∀ j, w1.frozen? ⟨w.heap.size, j, none⟩ = false := fun j => free_at T1.out.box j
        have zc0 : w1.cell? ⟨w.heap.size + 1, 0, none⟩ = some (.int .i64 0) := by rw [cell_at T1.out.res]; rfl
        have zc1 : w1.cell? ⟨w.heap.size + 1, 1, none⟩ = some (.int .i64 0) := by rw [cell_at T1.out.res]; rfl
        have zc2 : w1.cell? ⟨w.heap.size + 1, 2, none⟩ = some (.int .i64 0) := by rw [cell_at T1.out.res]; rfl
        have zc3 : w1.cell? ⟨w.heap.size + 1, 3, none⟩ = some (.slice none 0 0) := by rw [cell_at T1.out.res]; rfl
        have zf : ∀ j, w1.frozen? ⟨w.heap.size + 1, j, none⟩ = false := fun j => free_at T1.out.res j
        have HF := fin4 (w := w) (.int .i64 0) (.int .i64 0) (.int .i64 0) (.slice none 0 0) T1.out.res (by omega) T1.out.bel
        clear T1
        go_wp2_with fail
        refine (HO.out _).mono ?_
        rintro e w2 ⟨rfl, rfl⟩
        dsimp only
        go_wp2
        obtain ⟨e1, e2⟩ := HF.out
        revert e1 e2
        generalize (World.setCell _ ⟨w.heap.size + 1, 3, none⟩ _) = W
        intro e1 e2
        exact bodyPost_ret (v := .tuple #[balV zB (.slice none 0 0), .int .i64 2]) (by simp [results, Try.results10, go_sem, cell_at e1, balV, zB]) rfl ⟨_, rfl, ⟨rfl, .inl ⟨rfl, rfl⟩⟩, e2⟩
      · rw [if_neg h6] at hA
        have h6b : (t == 1000000) = false := beq_eq_false_iff_ne.2 h6
        have hlt : t < 1000000 := by omega
        have hge : 0 ≤ t := ht2.1
        clear h6 ht2
        have HV := hideIt (fun W => vote_is ⟨t + 1, me, 2, []⟩ (.slice none 0 0) me n W (GotAt.nil _ _ _) List.Pairwise.nil (by simp))
        generalize voteL ⟨t + 1, me, 2, []⟩ me n = V at *
        subst hA
        unfold balV at HV
        simp only at HV
        go_enter Try.func10, Try.ntmps10
        go_wp2_with fail
        refine HM.out.mono ?_
        rintro e w1 ⟨rfl, hb⟩
        dsimp only
        have T1 := hideIt (T0.out.keep hb)
        clear hb T0 HM
        have bc0 : w1.cell? ⟨w.heap.size, 0, none⟩ = some (.int .i64 t) := by rw [cell_at T1.out.box]; rfl
        have bc1 : w1.cell? ⟨w.heap.size, 1, none⟩ = some (.int .i64 v) := by rw [cell_at T1.out.box]; rfl
        have bc2 : w1.cell? ⟨w.heap.size, 2, none⟩ = some (.int .i64 r) := by rw [cell_at T1.out.box]; rfl
        have bc3 : w1.cell? ⟨w.heap.size, 3, none⟩ = some (g) := by rw [cell_at T1.out.box]; rfl
        have bf : ∀ j, w1.frozen? ⟨w.heap.size, j, none⟩ = false := fun j => free_at T1.out.box j
        go_wp2_with fail
        refine (HO.out _).mono ?_
        rintro e w2 ⟨rfl, rfl⟩
        dsimp only
        clear HO
        go_wp2_with fail
        refine (HV.out _).mono ?_
        rintro e w3 ⟨g2, rfl, h1, h2⟩
        dsimp only
        obtain ⟨a2, cc, rfl⟩ := own_len h1
        have hs := T1.out.size
        have T2 := hideIt ((T1.out.keep (below1 w2 _)).keep h2)
        have HW := hideIt h1
        clear h1 h2 T1 HV bc0 bc1 bc2 bc3 bf
        have zc0 : w3.cell? ⟨w.heap.size + 1, 0, none⟩ = some (.int .i64 0) := by rw [cell_at T2.out.res]; rfl
        have zc1 : w3.cell? ⟨w.heap.size + 1, 1, none⟩ = some (.int .i64 0) := by rw [cell_at T2.out.res]; rfl
        have zc2 : w3.cell? ⟨w.heap.size + 1, 2, none⟩ = some (.int .i64 0) := by rw [cell_at T2.out.res]; rfl
        have zc3 : w3.cell? ⟨w.heap.size + 1, 3, none⟩ = some (.slice none 0 0) := by rw [cell_at T2.out.res]; rfl
        have zf : ∀ j, w3.frozen? ⟨w.heap.size + 1, j, none⟩ = false := fun j => free_at T2.out.res j
        unfold balV
        have hs2 : Hid (w.heap.size + 2 ≤ (w2.alloc (.cells #[.int .i64 (t + 1), .int .i64 me, .int .i64 2, .slice none 0 0] 60)).heap.size) := by
          show _ ≤ _
          simp
          omega
        clear hs
        have HF := fin4 (w := w) (.int .i64 V.t) (.int .i64 V.v) (.int .i64 V.r) (.slice a2 V.l.length cc) T2.out.res (by omega) T2.out.bel
        have HG := own4 (R := w.heap.size + 1) (.int .i64 V.t) (.int .i64 V.v) (.int .i64 V.r) (.slice a2 V.l.length cc) HW.out hs2.out w.heap.size (by have := hs2.out; omega)
        clear T2 HW
        go_wp2
        obtain ⟨e1, e2⟩ := HF.out
        have e3 := HG.out
        revert e1 e2 e3
        generalize (World.setCell _ ⟨w.heap.size + 1, 3, none⟩ _) = W
        intro e1 e2 e3
        exact bodyPost_ret (v := .tuple #[balV V (.slice a2 V.l.length cc), .int .i64 0]) (by simp [results, Try.results10, go_sem, cell_at e1, balV]) rfl ⟨_, rfl, e3, e2⟩
end Go.Proofs.Ytkoecdcbopkkbaa
