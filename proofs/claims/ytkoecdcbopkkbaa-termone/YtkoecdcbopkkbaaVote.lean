/- A ballot with a vote more; a ballot that has heard of a term. -/
import Derived.Test.YtkoecdcbopkkbaaMayBe
namespace Go.Proofs.Ytkoecdcbopkkbaa
open Go.RowKit
/-- A ballot comes back, its list in memory of its own from B on. -/
def BalBack (B : Nat) (w : World) (b : Bal) (e : Ending) (w' : World) : Prop := ∃ g, e = .returned (balV b g) ∧ w'.ownsRow B 3 1 g b.l.length (b.l.map iv) ∧ Below B w w'
def addL (l : List Int) (x : Int) : List Int := if l.contains x then l else insL l (l.countP (· < x)) x
def voteL (b : Bal) (x n : Int) : Bal := ⟨b.t, b.v, if n < 2 * ((addL b.l x).length : Int) then 3 else b.r, addL b.l x⟩
/-- Four cells of a block are written. -/
theorem put4 (wc : World) (b : Nat) (ty : TypeId) (v0 v1 v2 v3 : Value) {z0 z1 z2 z3 : Value} (h : wc.heap[b]? = some (.cells #[z0, z1, z2, z3] ty (0, 0))) :
    ((((wc.setCell ⟨b, 0, none⟩ v0).setCell ⟨b, 1, none⟩ v1).setCell ⟨b, 2, none⟩ v2).setCell ⟨b, 3, none⟩ v3).heap[b]? = some (.cells #[v0, v1, v2, v3] ty (0, 0)) := by
  have h0 := heap_set h 0 v0
  have h1 := heap_set h0 1 v1
  have h2 := heap_set h1 2 v2
  exact heap_set h2 3 v3
theorem setOther {w : World} {b k j : Nat} {o : Option Obj} (v : Value) (h : w.heap[k]? = o) (hk : k ≠ b) : (w.setCell ⟨b, j, none⟩ v).heap[k]? = o := (heap_set_other w b j k v hk).trans h
theorem belowSet {B b j : Nat} {w0 w : World} (v : Value) (h : Below B w0 w) (hb : B ≤ b) : Below B w0 (w.setCell ⟨b, j, none⟩ v) :=
  ⟨h.os, h.tape, h.output, by simpa using h.size, fun k hk => by rw [heap_set_other _ _ _ _ _ (by omega)]; exact h.block k hk⟩
theorem ownSet {B b j n : Nat} {e : TypeId} {z : Nat} {g : Value} {w : World} {xs : List Value} (v : Value) (h : w.ownsRow B e z g n xs) (hb : b < B) : (w.setCell ⟨b, j, none⟩ v).ownsRow B e z g n xs := by
  obtain ⟨h1, h2 | ⟨k, cap, cur, hv, hB, hg, r⟩⟩ := h
  · exact ⟨h1, .inl h2⟩
  · exact ⟨h1, .inr ⟨k, cap, cur, hv, hB, (heap_set_other _ _ _ _ _ (by omega)).trans hg, r⟩⟩
/-- What lies ready when a list has been made: the box, the result's block, the list. -/
structure Ready (w : World) (b : Bal) (g0 : Value) (l : List Int) (g : Value) (wx : World) : Prop where
  box : wx.heap[w.heap.size]? = some (.cells #[.int .i64 b.t, .int .i64 b.v, .int .i64 b.r, g0] 60 (0, 0))
  res : wx.heap[w.heap.size + 1]? = some (.cells #[.int .i64 0, .int .i64 0, .int .i64 0, .slice none 0 0] 60 (0, 0))
  own : wx.ownsRow (w.heap.size + 2) 3 1 g l.length (l.map iv)
  bel : Below w.heap.size w wx
theorem two_heap (w : World) (o p : Obj) : ((w.alloc o).alloc p).heap[w.heap.size]? = some o ∧ ((w.alloc o).alloc p).heap[w.heap.size + 1]? = some p ∧ ((w.alloc o).alloc p).heap.size = w.heap.size + 2 := by
  refine ⟨?_, ?_, by simp⟩
  · rw [heap_alloc_old _ _ (by simp)]
    exact heap_alloc_new w _
  · have e : w.heap.size + 1 = (w.alloc o).heap.size := by simp
    rw [e]
    exact heap_alloc_new _ _
theorem Ready.first {w w1 : World} {b : Bal} {g0 g : Value} {l : List Int} (h : w1.ownsRow ((w.alloc (.cells #[.int .i64 b.t, .int .i64 b.v, .int .i64 b.r, g0] 60)).alloc (.cells #[.int .i64 0, .int .i64 0, .int .i64 0, .slice none 0 0] 60)).heap.size 3 1 g l.length (l.map iv)) (hb : Below ((w.alloc (.cells #[.int .i64 b.t, .int .i64 b.v, .int .i64 b.r, g0] 60)).alloc (.cells #[.int .i64 0, .int .i64 0, .int .i64 0, .slice none 0 0] 60)).heap.size ((w.alloc (.cells #[.int .i64 b.t, .int .i64 b.v, .int .i64 b.r, g0] 60)).alloc (.cells #[.int .i64 0, .int .i64 0, .int .i64 0, .slice none 0 0] 60)) w1) : Ready w b g0 l g w1 := by
  have ht := two_heap w (.cells #[.int .i64 b.t, .int .i64 b.v, .int .i64 b.r, g0] 60) (.cells #[.int .i64 0, .int .i64 0, .int .i64 0, .slice none 0 0] 60)
  rw [ht.2.2] at h
  refine ⟨(hb.block _ (by rw [ht.2.2]; omega)).trans ht.1, (hb.block _ (by rw [ht.2.2]; omega)).trans ht.2.1, h, below_via (below2 w _ _) hb⟩
theorem Ready.more {w w1 w2 : World} {b : Bal} {g0 g g' : Value} {l l' : List Int} (h : Ready w b g0 l g w1) (ho : w2.ownsRow (w.heap.size + 2) 3 1 g' l'.length (l'.map iv)) (hb : Below (w.heap.size + 2) w1 w2) : Ready w b g0 l' g' w2 :=
  ⟨(hb.block _ (by omega)).trans h.box, (hb.block _ (by omega)).trans h.res, ho, h.bel.trans ⟨hb.os, hb.tape, hb.output, hb.size, fun i hi => hb.block i (by omega)⟩⟩
theorem Ready.size {w w1 : World} {b : Bal} {g0 g : Value} {l : List Int} (h : Ready w b g0 l g w1) : w.heap.size + 2 ≤ w1.heap.size := (Array.getElem?_eq_some_iff.1 h.res).1
/-- The box with another list and role, copied into the result's block. -/
theorem Ready.done {w wx : World} {b : Bal} {g0 g : Value} {l : List Int} (h : Ready w b g0 l g wx) (wy : World) (r' : Int) (hy : wy.heap[w.heap.size + 1]? = wx.heap[w.heap.size + 1]?) (ho : wy.ownsRow (w.heap.size + 2) 3 1 g l.length (l.map iv)) (hb : Below w.heap.size w wy) :
    Hid (((((wy.setCell ⟨w.heap.size + 1, 0, none⟩ (.int .i64 b.t)).setCell ⟨w.heap.size + 1, 1, none⟩ (.int .i64 b.v)).setCell ⟨w.heap.size + 1, 2, none⟩ (.int .i64 r')).setCell ⟨w.heap.size + 1, 3, none⟩ g).heap[w.heap.size + 1]? = some (.cells #[.int .i64 b.t, .int .i64 b.v, .int .i64 r', g] 60 (0, 0)) ∧
      ((((wy.setCell ⟨w.heap.size + 1, 0, none⟩ (.int .i64 b.t)).setCell ⟨w.heap.size + 1, 1, none⟩ (.int .i64 b.v)).setCell ⟨w.heap.size + 1, 2, none⟩ (.int .i64 r')).setCell ⟨w.heap.size + 1, 3, none⟩ g).ownsRow w.heap.size 3 1 g l.length (l.map iv) ∧
      Below w.heap.size w ((((wy.setCell ⟨w.heap.size + 1, 0, none⟩ (.int .i64 b.t)).setCell ⟨w.heap.size + 1, 1, none⟩ (.int .i64 b.v)).setCell ⟨w.heap.size + 1, 2, none⟩ (.int .i64 r')).setCell ⟨w.heap.size + 1, 3, none⟩ g)) :=
  ⟨put4 _ _ 60 _ _ _ _ (hy.trans h.res), own_base (ownSet _ (ownSet _ (ownSet _ (ownSet _ ho (by omega)) (by omega)) (by omega)) (by omega)) (by omega), belowSet _ (belowSet _ (belowSet _ (belowSet _ hb (by omega)) (by omega)) (by omega)) (by omega)⟩
set_option maxHeartbeats 4000000 in
set_option maxRecDepth 100000 in
theorem vote_is (b : Bal) (g : Value) (x n : Int) (w : World) (h : GotAt w g b.l) (hs : b.l.Pairwise (· ≤ ·)) (hl : b.l.length ≤ 7) : Calls Try.prog 26 #[balV b g, .int .i64 x, .int .i64 n] w (BalBack w.heap.size w (voteL b x n)) := by
  obtain ⟨t, v, r, l⟩ := b
  simp only at h hs hl
  have HC := hideIt (clone_any g l _ (h.keep (below2 w (.cells #[.int .i64 t, .int .i64 v, .int .i64 r, g] 60) (.cells #[.int .i64 0, .int .i64 0, .int .i64 0, .slice none 0 0] 60))))
  clear h
  unfold balV
  simp only
  obtain ⟨V, hV⟩ : ∃ V, voteL ⟨t, v, r, l⟩ x n = V := ⟨_, rfl⟩
  rw [hV]
  have HV := hideIt hV
  clear hV
  have hcount : l.countP (· < x) ≤ l.length := List.countP_le_length
  go_enter Try.func26, Try.ntmps26
  go_wp2_with fail
  refine HC.out.mono ?_
  rintro e w1 ⟨g1, rfl, h1, h2⟩
  dsimp only
  have R1 := hideIt (Ready.first (b := ⟨t, v, r, l⟩) h1 h2)
  clear h1 h2 HC
  have HS := hideIt (search_any g1 l x w1 (own_got R1.out.own (by omega)) hs)
  go_wp2_with fail
  refine HS.out.mono ?_
  rintro e w2 ⟨rfl, q, rfl⟩
  dsimp only
  clear HS
  have R2 := hideIt (Ready.more (w2 := w1.drewN q) R1.out R1.out.own (below_drewN (Below.refl _ _) q))
  clear R1
  generalize w1.drewN q = w3 at *
  cases hc : l.contains x
  · have HA : Hid (addL l x = insL l (l.countP (· < x)) x) := by
      show _ = _
      rw [addL, hc]
      rfl
    have HI := hideIt (insert_own (w.heap.size + 2) g1 l (l.countP (· < x)) x w3 R2.out.size hcount (by omega) R2.out.own)
    clear hc
    have hle := insL_len l (l.countP (· < x)) x
    generalize insL l (l.countP (· < x)) x = l2 at *
    have hl2 : l2.length ≤ 8 := by omega
    clear hle
    generalize l.countP (· < x) = k at *
    go_wp2_with fail
    refine HI.out.mono ?_
    rintro e w4 ⟨g2, rfl, h1, h2⟩
    dsimp only
    have R3 := hideIt (Ready.more R2.out h1 h2)
    clear h1 h2 R2 HI
    obtain ⟨a2, cc, rfl⟩ := own_len R3.out.own
    have c0 : w4.cell? ⟨w.heap.size, 0, none⟩ = some (.int .i64 t) := by rw [cell_at R3.out.box]; rfl
    have c1 : w4.cell? ⟨w.heap.size, 1, none⟩ = some (.int .i64 v) := by rw [cell_at R3.out.box]; rfl
    have c2 : w4.cell? ⟨w.heap.size, 2, none⟩ = some (.int .i64 r) := by rw [cell_at R3.out.box]; rfl
    have c3 : w4.cell? ⟨w.heap.size, 3, none⟩ = some g := by rw [cell_at R3.out.box]; rfl
    have d0 : w4.cell? ⟨w.heap.size + 1, 0, none⟩ = some (.int .i64 0) := by rw [cell_at R3.out.res]; rfl
    have d1 : w4.cell? ⟨w.heap.size + 1, 1, none⟩ = some (.int .i64 0) := by rw [cell_at R3.out.res]; rfl
    have d2 : w4.cell? ⟨w.heap.size + 1, 2, none⟩ = some (.int .i64 0) := by rw [cell_at R3.out.res]; rfl
    have d3 : w4.cell? ⟨w.heap.size + 1, 3, none⟩ = some (.slice none 0 0) := by rw [cell_at R3.out.res]; rfl
    have f0 : ∀ j, w4.frozen? ⟨w.heap.size, j, none⟩ = false := fun j => free_at R3.out.box j
    have f1 : ∀ j, w4.frozen? ⟨w.heap.size + 1, j, none⟩ = false := fun j => free_at R3.out.res j
    by_cases hm : n < 2 * (l2.length : Int)
    · have HF := R3.out.done ((w4.setCell ⟨w.heap.size, 3, none⟩ (.slice a2 l2.length cc)).setCell ⟨w.heap.size, 2, none⟩ (.int .i64 3)) 3 (by rw [heap_set_other _ _ _ _ _ (by omega), heap_set_other _ _ _ _ _ (by omega)]) (ownSet _ (ownSet _ R3.out.own (by omega)) (by omega)) (belowSet _ (belowSet _ R3.out.bel (by omega)) (by omega))
      have HV2 : Hid (V = ⟨t, v, 3, l2⟩) := by
        show _ = _
        rw [← HV.out, voteL, HA.out, if_pos hm]
      clear HV HA R3
      go_wp2
      obtain ⟨e1, e2, e3⟩ := HF.out
      obtain rfl := HV2.out
      revert e1 e2 e3
      generalize (World.setCell _ ⟨w.heap.size + 1, 3, none⟩ _) = W
      intro e1 e2 e3
      exact bodyPost_ret (v := balV ⟨t, v, 3, l2⟩ (.slice a2 l2.length cc)) (by simp [results, Try.results26, go_sem, cell_at e1, balV]) rfl ⟨_, rfl, e2, e3⟩
    · have HF := R3.out.done (w4.setCell ⟨w.heap.size, 3, none⟩ (.slice a2 l2.length cc)) r (by rw [heap_set_other _ _ _ _ _ (by omega)]) (ownSet _ R3.out.own (by omega)) (belowSet _ R3.out.bel (by omega))
      have HV2 : Hid (V = ⟨t, v, r, l2⟩) := by
        show _ = _
        rw [← HV.out, voteL, HA.out, if_neg hm]
      clear HV HA R3
      go_wp2
      obtain ⟨e1, e2, e3⟩ := HF.out
      obtain rfl := HV2.out
      revert e1 e2 e3
      generalize (World.setCell _ ⟨w.heap.size + 1, 3, none⟩ _) = W
      intro e1 e2 e3
      exact bodyPost_ret (v := balV ⟨t, v, r, l2⟩ (.slice a2 l2.length cc)) (by simp [results, Try.results26, go_sem, cell_at e1, balV]) rfl ⟨_, rfl, e2, e3⟩
  · have HA : Hid (addL l x = l) := by
      show _ = _
      rw [addL, hc]
      rfl
    clear hc
    have R3 := R2
    clear R2
    obtain ⟨a2, cc, rfl⟩ := own_len R3.out.own
    generalize l.countP (· < x) = k at *
    have c0 : w3.cell? ⟨w.heap.size, 0, none⟩ = some (.int .i64 t) := by rw [cell_at R3.out.box]; rfl
    have c1 : w3.cell? ⟨w.heap.size, 1, none⟩ = some (.int .i64 v) := by rw [cell_at R3.out.box]; rfl
    have c2 : w3.cell? ⟨w.heap.size, 2, none⟩ = some (.int .i64 r) := by rw [cell_at R3.out.box]; rfl
    have c3 : w3.cell? ⟨w.heap.size, 3, none⟩ = some g := by rw [cell_at R3.out.box]; rfl
    have d0 : w3.cell? ⟨w.heap.size + 1, 0, none⟩ = some (.int .i64 0) := by rw [cell_at R3.out.res]; rfl
    have d1 : w3.cell? ⟨w.heap.size + 1, 1, none⟩ = some (.int .i64 0) := by rw [cell_at R3.out.res]; rfl
    have d2 : w3.cell? ⟨w.heap.size + 1, 2, none⟩ = some (.int .i64 0) := by rw [cell_at R3.out.res]; rfl
    have d3 : w3.cell? ⟨w.heap.size + 1, 3, none⟩ = some (.slice none 0 0) := by rw [cell_at R3.out.res]; rfl
    have f0 : ∀ j, w3.frozen? ⟨w.heap.size, j, none⟩ = false := fun j => free_at R3.out.box j
    have f1 : ∀ j, w3.frozen? ⟨w.heap.size + 1, j, none⟩ = false := fun j => free_at R3.out.res j
    by_cases hm : n < 2 * (l.length : Int)
    · have HF := R3.out.done ((w3.setCell ⟨w.heap.size, 3, none⟩ (.slice a2 l.length cc)).setCell ⟨w.heap.size, 2, none⟩ (.int .i64 3)) 3 (by rw [heap_set_other _ _ _ _ _ (by omega), heap_set_other _ _ _ _ _ (by omega)]) (ownSet _ (ownSet _ R3.out.own (by omega)) (by omega)) (belowSet _ (belowSet _ R3.out.bel (by omega)) (by omega))
      have HV2 : Hid (V = ⟨t, v, 3, l⟩) := by
        show _ = _
        rw [← HV.out, voteL, HA.out, if_pos hm]
      clear HV HA R3
      go_wp2
      obtain ⟨e1, e2, e3⟩ := HF.out
      obtain rfl := HV2.out
      revert e1 e2 e3
      generalize (World.setCell _ ⟨w.heap.size + 1, 3, none⟩ _) = W
      intro e1 e2 e3
      exact bodyPost_ret (v := balV ⟨t, v, 3, l⟩ (.slice a2 l.length cc)) (by simp [results, Try.results26, go_sem, cell_at e1, balV]) rfl ⟨_, rfl, e2, e3⟩
    · have HF := R3.out.done (w3.setCell ⟨w.heap.size, 3, none⟩ (.slice a2 l.length cc)) r (by rw [heap_set_other _ _ _ _ _ (by omega)]) (ownSet _ R3.out.own (by omega)) (belowSet _ R3.out.bel (by omega))
      have HV2 : Hid (V = ⟨t, v, r, l⟩) := by
        show _ = _
        rw [← HV.out, voteL, HA.out, if_neg hm]
      clear HV HA R3
      go_wp2
      obtain ⟨e1, e2, e3⟩ := HF.out
      obtain rfl := HV2.out
      revert e1 e2 e3
      generalize (World.setCell _ ⟨w.heap.size + 1, 3, none⟩ _) = W
      intro e1 e2 e3
      exact bodyPost_ret (v := balV ⟨t, v, r, l⟩ (.slice a2 l.length cc)) (by simp [results, Try.results26, go_sem, cell_at e1, balV]) rfl ⟨_, rfl, e2, e3⟩
end Go.Proofs.Ytkoecdcbopkkbaa
