/- Texts of my own, laid together. -/
import Derived.Test.YtcaehfkfohianaaGreatPz00
set_option linter.all false
namespace Go.Proofs.YtcaehfkfohianaaGreat.Tm
open Go.RowKit
def BalBack (B : Nat) (w : World) (b : Bal) (e : Ending) (w' : World) : Prop := ∃ g, e = .returned (balV b g) ∧ w'.ownsRow B 3 1 g b.l.length (b.l.map iv) ∧ Below B w w'
def addL (l : List Int) (x : Int) : List Int := if l.contains x then l else insL l (l.countP (· < x)) x
def voteL (b : Bal) (x n : Int) : Bal := ⟨b.t, b.v, if n < 2 * ((addL b.l x).length : Int) then 3 else b.r, addL b.l x⟩
theorem put4 (wc : World) (b : Nat) (ty : TypeId) (v0 v1 v2 v3 : Value) {z0 z1 z2 z3 : Value} (h : wc.heap[b]? = some (.cells #[z0, z1, z2, z3] ty (0, 0))) :
  ((((wc.setCell ⟨b, 0, none⟩ v0).setCell ⟨b, 1, none⟩ v1).setCell ⟨b, 2, none⟩ v2).setCell ⟨b, 3, none⟩ v3).heap[b]? = some (.cells #[v0, v1, v2, v3] ty (0, 0)) := by
 have h0 := heap_set h 0 v0;have h1 := heap_set h0 1 v1;have h2 := heap_set h1 2 v2;exact heap_set h2 3 v3
theorem setOther {w : World} {b k j : Nat} {o : Option Obj} (v : Value) (h : w.heap[k]? = o) (hk : k ≠ b) : (w.setCell ⟨b, j, none⟩ v).heap[k]? = o := (heap_set_other w b j k v hk).trans h
theorem belowSet {B b j : Nat} {w0 w : World} (v : Value) (h : Below B w0 w) (hb : B ≤ b) : Below B w0 (w.setCell ⟨b, j, none⟩ v) :=
 ⟨h.os, h.tape, h.output, by simpa using h.size, fun k hk => by rw [heap_set_other _ _ _ _ _ (by omega)]; exact h.block k hk⟩
theorem ownSet {B b j n : Nat} {e : TypeId} {z : Nat} {g : Value} {w : World} {xs : List Value} (v : Value) (h : w.ownsRow B e z g n xs) (hb : b < B) : (w.setCell ⟨b, j, none⟩ v).ownsRow B e z g n xs := by
 obtain ⟨h1, h2 | ⟨k, cap, cur, hv, hB, hg, r⟩⟩ := h
 ·exact ⟨h1, .inl h2⟩
 ·exact ⟨h1, .inr ⟨k, cap, cur, hv, hB, (heap_set_other _ _ _ _ _ (by omega)).trans hg, r⟩⟩
structure Ready (w : World) (b : Bal) (g0 : Value) (l : List Int) (g : Value) (wx : World) : Prop where
 box : wx.heap[w.heap.size]? = some (.cells #[.int .i64 b.t, .int .i64 b.v, .int .i64 b.r, g0] 146 (0, 0))
 res : wx.heap[w.heap.size + 1]? = some (.cells #[.int .i64 0, .int .i64 0, .int .i64 0, .slice none 0 0] 146 (0, 0))
 own : wx.ownsRow (w.heap.size + 2) 3 1 g l.length (l.map iv)
 bel : Below w.heap.size w wx
theorem two_heap (w : World) (o p : Obj) : ((w.alloc o).alloc p).heap[w.heap.size]? = some o ∧ ((w.alloc o).alloc p).heap[w.heap.size + 1]? = some p ∧ ((w.alloc o).alloc p).heap.size = w.heap.size + 2 := by
 refine ⟨?_, ?_, by simp⟩
 ·rw [heap_alloc_old _ _ (by simp)];exact heap_alloc_new w _
 ·have e : w.heap.size + 1 = (w.alloc o).heap.size := by simp
  rw [e];exact heap_alloc_new _ _
theorem Ready.first {w w1 : World} {b : Bal} {g0 g : Value} {l : List Int} (h : w1.ownsRow ((w.alloc (.cells #[.int .i64 b.t, .int .i64 b.v, .int .i64 b.r, g0] 146)).alloc (.cells #[.int .i64 0, .int .i64 0, .int .i64 0, .slice none 0 0] 146)).heap.size 3 1 g l.length (l.map iv)) (hb : Below ((w.alloc (.cells #[.int .i64 b.t, .int .i64 b.v, .int .i64 b.r, g0] 146)).alloc (.cells #[.int .i64 0, .int .i64 0, .int .i64 0, .slice none 0 0] 146)).heap.size ((w.alloc (.cells #[.int .i64 b.t, .int .i64 b.v, .int .i64 b.r, g0] 146)).alloc (.cells #[.int .i64 0, .int .i64 0, .int .i64 0, .slice none 0 0] 146)) w1) : Ready w b g0 l g w1 := by
 have ht := two_heap w (.cells #[.int .i64 b.t, .int .i64 b.v, .int .i64 b.r, g0] 146) (.cells #[.int .i64 0, .int .i64 0, .int .i64 0, .slice none 0 0] 146);rw [ht.2.2] at h;refine ⟨(hb.block _ (by rw [ht.2.2]; omega)).trans ht.1, (hb.block _ (by rw [ht.2.2]; omega)).trans ht.2.1, h, below_via (below2 w _ _) hb⟩
theorem Ready.more {w w1 w2 : World} {b : Bal} {g0 g g' : Value} {l l' : List Int} (h : Ready w b g0 l g w1) (ho : w2.ownsRow (w.heap.size + 2) 3 1 g' l'.length (l'.map iv)) (hb : Below (w.heap.size + 2) w1 w2) : Ready w b g0 l' g' w2 :=
 ⟨(hb.block _ (by omega)).trans h.box, (hb.block _ (by omega)).trans h.res, ho, h.bel.trans ⟨hb.os, hb.tape, hb.output, hb.size, fun i hi => hb.block i (by omega)⟩⟩
theorem Ready.size {w w1 : World} {b : Bal} {g0 g : Value} {l : List Int} (h : Ready w b g0 l g w1) : w.heap.size + 2 ≤ w1.heap.size := (Array.getElem?_eq_some_iff.1 h.res).1
theorem Ready.done {w wx : World} {b : Bal} {g0 g : Value} {l : List Int} (h : Ready w b g0 l g wx) (wy : World) (r' : Int) (hy : wy.heap[w.heap.size + 1]? = wx.heap[w.heap.size + 1]?) (ho : wy.ownsRow (w.heap.size + 2) 3 1 g l.length (l.map iv)) (hb : Below w.heap.size w wy) :
  Hid (((((wy.setCell ⟨w.heap.size + 1, 0, none⟩ (.int .i64 b.t)).setCell ⟨w.heap.size + 1, 1, none⟩ (.int .i64 b.v)).setCell ⟨w.heap.size + 1, 2, none⟩ (.int .i64 r')).setCell ⟨w.heap.size + 1, 3, none⟩ g).heap[w.heap.size + 1]? = some (.cells #[.int .i64 b.t, .int .i64 b.v, .int .i64 r', g] 146 (0, 0)) ∧
   ((((wy.setCell ⟨w.heap.size + 1, 0, none⟩ (.int .i64 b.t)).setCell ⟨w.heap.size + 1, 1, none⟩ (.int .i64 b.v)).setCell ⟨w.heap.size + 1, 2, none⟩ (.int .i64 r')).setCell ⟨w.heap.size + 1, 3, none⟩ g).ownsRow w.heap.size 3 1 g l.length (l.map iv) ∧
   Below w.heap.size w ((((wy.setCell ⟨w.heap.size + 1, 0, none⟩ (.int .i64 b.t)).setCell ⟨w.heap.size + 1, 1, none⟩ (.int .i64 b.v)).setCell ⟨w.heap.size + 1, 2, none⟩ (.int .i64 r')).setCell ⟨w.heap.size + 1, 3, none⟩ g)) :=
 ⟨put4 _ _ 146 _ _ _ _ (hy.trans h.res), own_base (ownSet _ (ownSet _ (ownSet _ (ownSet _ ho (by omega)) (by omega)) (by omega)) (by omega)) (by omega), belowSet _ (belowSet _ (belowSet _ (belowSet _ hb (by omega)) (by omega)) (by omega)) (by omega)⟩
set_option maxHeartbeats 4000000 in
set_option maxRecDepth 100000 in
theorem vote_is (b : Bal) (g : Value) (x n : Int) (w : World) (h : GotAt w g b.l) (hs : b.l.Pairwise (· ≤ ·)) (hl : b.l.length ≤ 7) : Calls Tryz.prog 134 #[balV b g, .int .i64 x, .int .i64 n] w (BalBack w.heap.size w (voteL b x n)) := by
 obtain ⟨t, v, r, l⟩ := b;simp only at h hs hl;have HC := hideIt (clone_any g l _ (h.keep (below2 w (.cells #[.int .i64 t, .int .i64 v, .int .i64 r, g] 146) (.cells #[.int .i64 0, .int .i64 0, .int .i64 0, .slice none 0 0] 146))));clear h;unfold balV
 simp only
 obtain ⟨V, hV⟩ : ∃ V, voteL ⟨t, v, r, l⟩ x n = V := ⟨_, rfl⟩;rw [hV];have HV := hideIt hV;clear hV;have hcount : l.countP (· < x) ≤ l.length := List.countP_le_length
 go_enter Tryz.func134, Tryz.ntmps134
 go_wp2_with fail
 refine HC.out.mono ?_;rintro e w1 ⟨g1, rfl, h1, h2⟩;dsimp only;have R1 := hideIt (Ready.first (b := ⟨t, v, r, l⟩) h1 h2);clear h1 h2 HC;have HS := hideIt (search_any g1 l x w1 (own_got R1.out.own (by omega)) hs)
 go_wp2_with fail
 refine HS.out.mono ?_;rintro e w2 ⟨rfl, q, rfl⟩;dsimp only;clear HS;have R2 := hideIt (Ready.more (w2 := w1.drewN q) R1.out R1.out.own (below_drewN (Below.refl _ _) q));clear R1;generalize w1.drewN q = w3 at *;cases hc : l.contains x
 ·have HA : Hid (addL l x = insL l (l.countP (· < x)) x) := by
   show _ = _
   rw [addL, hc]
   rfl
  have HI := hideIt (insert_own (w.heap.size + 2) g1 l (l.countP (· < x)) x w3 R2.out.size hcount (by omega) R2.out.own);clear hc;have hle := insL_len l (l.countP (· < x)) x;generalize insL l (l.countP (· < x)) x = l2 at *;have hl2 : l2.length ≤ 8 := by omega
  clear hle;generalize l.countP (· < x) = k at *
  go_wp2_with fail
  refine HI.out.mono ?_;rintro e w4 ⟨g2, rfl, h1, h2⟩;dsimp only;have R3 := hideIt (Ready.more R2.out h1 h2);clear h1 h2 R2 HI;obtain ⟨a2, cc, rfl⟩ := own_len R3.out.own;have c0 : w4.cell? ⟨w.heap.size, 0, none⟩ = some (.int .i64 t) := by rw [cell_at R3.out.box]; rfl
  have c1 : w4.cell? ⟨w.heap.size, 1, none⟩ = some (.int .i64 v) := by rw [cell_at R3.out.box]; rfl
  have c2 : w4.cell? ⟨w.heap.size, 2, none⟩ = some (.int .i64 r) := by rw [cell_at R3.out.box]; rfl
  have c3 : w4.cell? ⟨w.heap.size, 3, none⟩ = some g := by rw [cell_at R3.out.box]; rfl
  have d0 : w4.cell? ⟨w.heap.size + 1, 0, none⟩ = some (.int .i64 0) := by rw [cell_at R3.out.res]; rfl
  have d1 : w4.cell? ⟨w.heap.size + 1, 1, none⟩ = some (.int .i64 0) := by rw [cell_at R3.out.res]; rfl
  have d2 : w4.cell? ⟨w.heap.size + 1, 2, none⟩ = some (.int .i64 0) := by rw [cell_at R3.out.res]; rfl
  have d3 : w4.cell? ⟨w.heap.size + 1, 3, none⟩ = some (.slice none 0 0) := by rw [cell_at R3.out.res]; rfl
  have f0 : ∀ j, w4.frozen? ⟨w.heap.size, j, none⟩ = false := fun j => free_at R3.out.box j
  have f1 : ∀ j, w4.frozen? ⟨w.heap.size + 1, j, none⟩ = false := fun j => free_at R3.out.res j
  by_cases hm : n < 2 * (l2.length : Int)
  ·have HF := R3.out.done ((w4.setCell ⟨w.heap.size, 3, none⟩ (.slice a2 l2.length cc)).setCell ⟨w.heap.size, 2, none⟩ (.int .i64 3)) 3 (by rw [heap_set_other _ _ _ _ _ (by omega), heap_set_other _ _ _ _ _ (by omega)]) (ownSet _ (ownSet _ R3.out.own (by omega)) (by omega)) (belowSet _ (belowSet _ R3.out.bel (by omega)) (by omega));have HV2 : Hid (V = ⟨t, v, 3, l2⟩) := by
    show _ = _
    rw [← HV.out, voteL, HA.out, if_pos hm]
   clear HV HA R3;go_wp2;obtain ⟨e1, e2, e3⟩ := HF.out;obtain rfl := HV2.out
   revert e1 e2 e3
   generalize (World.setCell _ ⟨w.heap.size + 1, 3, none⟩ _) = W;intro e1 e2 e3;exact bodyPost_ret (v := balV ⟨t, v, 3, l2⟩ (.slice a2 l2.length cc)) (by simp [results, Tryz.results134, go_sem, cell_at e1, balV]) rfl ⟨_, rfl, e2, e3⟩
  ·have HF := R3.out.done (w4.setCell ⟨w.heap.size, 3, none⟩ (.slice a2 l2.length cc)) r (by rw [heap_set_other _ _ _ _ _ (by omega)]) (ownSet _ R3.out.own (by omega)) (belowSet _ R3.out.bel (by omega));have HV2 : Hid (V = ⟨t, v, r, l2⟩) := by
    show _ = _
    rw [← HV.out, voteL, HA.out, if_neg hm]
   clear HV HA R3;go_wp2;obtain ⟨e1, e2, e3⟩ := HF.out;obtain rfl := HV2.out
   revert e1 e2 e3
   generalize (World.setCell _ ⟨w.heap.size + 1, 3, none⟩ _) = W;intro e1 e2 e3;exact bodyPost_ret (v := balV ⟨t, v, r, l2⟩ (.slice a2 l2.length cc)) (by simp [results, Tryz.results134, go_sem, cell_at e1, balV]) rfl ⟨_, rfl, e2, e3⟩
 ·have HA : Hid (addL l x = l) := by
   show _ = _
   rw [addL, hc]
   rfl
  clear hc;have R3 := R2;clear R2;obtain ⟨a2, cc, rfl⟩ := own_len R3.out.own;generalize l.countP (· < x) = k at *;have c0 : w3.cell? ⟨w.heap.size, 0, none⟩ = some (.int .i64 t) := by rw [cell_at R3.out.box]; rfl
  have c1 : w3.cell? ⟨w.heap.size, 1, none⟩ = some (.int .i64 v) := by rw [cell_at R3.out.box]; rfl
  have c2 : w3.cell? ⟨w.heap.size, 2, none⟩ = some (.int .i64 r) := by rw [cell_at R3.out.box]; rfl
  have c3 : w3.cell? ⟨w.heap.size, 3, none⟩ = some g := by rw [cell_at R3.out.box]; rfl
  have d0 : w3.cell? ⟨w.heap.size + 1, 0, none⟩ = some (.int .i64 0) := by rw [cell_at R3.out.res]; rfl
  have d1 : w3.cell? ⟨w.heap.size + 1, 1, none⟩ = some (.int .i64 0) := by rw [cell_at R3.out.res]; rfl
  have d2 : w3.cell? ⟨w.heap.size + 1, 2, none⟩ = some (.int .i64 0) := by rw [cell_at R3.out.res]; rfl
  have d3 : w3.cell? ⟨w.heap.size + 1, 3, none⟩ = some (.slice none 0 0) := by rw [cell_at R3.out.res]; rfl
  have f0 : ∀ j, w3.frozen? ⟨w.heap.size, j, none⟩ = false := fun j => free_at R3.out.box j
  have f1 : ∀ j, w3.frozen? ⟨w.heap.size + 1, j, none⟩ = false := fun j => free_at R3.out.res j
  by_cases hm : n < 2 * (l.length : Int)
  ·have HF := R3.out.done ((w3.setCell ⟨w.heap.size, 3, none⟩ (.slice a2 l.length cc)).setCell ⟨w.heap.size, 2, none⟩ (.int .i64 3)) 3 (by rw [heap_set_other _ _ _ _ _ (by omega), heap_set_other _ _ _ _ _ (by omega)]) (ownSet _ (ownSet _ R3.out.own (by omega)) (by omega)) (belowSet _ (belowSet _ R3.out.bel (by omega)) (by omega));have HV2 : Hid (V = ⟨t, v, 3, l⟩) := by
    show _ = _
    rw [← HV.out, voteL, HA.out, if_pos hm]
   clear HV HA R3;go_wp2;obtain ⟨e1, e2, e3⟩ := HF.out;obtain rfl := HV2.out
   revert e1 e2 e3
   generalize (World.setCell _ ⟨w.heap.size + 1, 3, none⟩ _) = W;intro e1 e2 e3;exact bodyPost_ret (v := balV ⟨t, v, 3, l⟩ (.slice a2 l.length cc)) (by simp [results, Tryz.results134, go_sem, cell_at e1, balV]) rfl ⟨_, rfl, e2, e3⟩
  ·have HF := R3.out.done (w3.setCell ⟨w.heap.size, 3, none⟩ (.slice a2 l.length cc)) r (by rw [heap_set_other _ _ _ _ _ (by omega)]) (ownSet _ R3.out.own (by omega)) (belowSet _ R3.out.bel (by omega));have HV2 : Hid (V = ⟨t, v, r, l⟩) := by
    show _ = _
    rw [← HV.out, voteL, HA.out, if_neg hm]
   clear HV HA R3;go_wp2;obtain ⟨e1, e2, e3⟩ := HF.out;obtain rfl := HV2.out
   revert e1 e2 e3
   generalize (World.setCell _ ⟨w.heap.size + 1, 3, none⟩ _) = W;intro e1 e2 e3;exact bodyPost_ret (v := balV ⟨t, v, r, l⟩ (.slice a2 l.length cc)) (by simp [results, Tryz.results134, go_sem, cell_at e1, balV]) rfl ⟨_, rfl, e2, e3⟩
def hearL (b : Bal) (x : Int) : Bal := if b.t < x then ⟨x, 0, 1, []⟩ else b
set_option maxHeartbeats 4000000 in
set_option maxRecDepth 100000 in
theorem hearing_is (b : Bal) (g : Value) (x : Int) (w : World) (h : GotAt w g b.l) : Calls Tryz.prog 121 #[balV b g, .int .i64 x] w (BalBack w.heap.size w (hearL b x)) := by
 obtain ⟨t, v, r, l⟩ := b;simp only at h;unfold balV
 simp only
 by_cases hx : t < x
 ·rw [show hearL ⟨t, v, r, l⟩ x = ⟨x, 0, 1, []⟩ by simp [hearL, hx]];clear h
  go_enter Tryz.func121, Tryz.ntmps121
  go_wp2;exact bodyPost_ret (v := balV ⟨x, 0, 1, []⟩ (.slice none 0 0)) (by simp [results, Tryz.results121, go_sem, balV]) rfl ⟨_, rfl, ⟨rfl, .inl ⟨rfl, rfl⟩⟩, below2 w _ _⟩
 ·rw [show hearL ⟨t, v, r, l⟩ x = ⟨t, v, r, l⟩ by simp [hearL, hx]];have HC := hideIt (clone_any g l _ (h.keep (below2 w (.cells #[.int .i64 t, .int .i64 v, .int .i64 r, g] 146) (.cells #[.int .i64 0, .int .i64 0, .int .i64 0, .slice none 0 0] 146))));clear h
  go_enter Tryz.func121, Tryz.ntmps121
  go_wp2_with fail
  refine HC.out.mono ?_;rintro e w1 ⟨g1, rfl, h1, h2⟩;dsimp only;have R1 := hideIt (Ready.first (b := ⟨t, v, r, l⟩) h1 h2);clear h1 h2 HC;obtain ⟨a2, cc, rfl⟩ := own_len R1.out.own;have bc0 : w1.cell? ⟨w.heap.size, 0, none⟩ = some (.int .i64 t) := by rw [cell_at R1.out.box]; rfl
  have bc1 : w1.cell? ⟨w.heap.size, 1, none⟩ = some (.int .i64 v) := by rw [cell_at R1.out.box]; rfl
  have bc2 : w1.cell? ⟨w.heap.size, 2, none⟩ = some (.int .i64 r) := by rw [cell_at R1.out.box]; rfl
  have bc3 : w1.cell? ⟨w.heap.size, 3, none⟩ = some (g) := by rw [cell_at R1.out.box]; rfl
  have bf : ∀ j, w1.frozen? ⟨w.heap.size, j, none⟩ = false := fun j => free_at R1.out.box j
  have zc0 : w1.cell? ⟨w.heap.size + 1, 0, none⟩ = some (.int .i64 0) := by rw [cell_at R1.out.res]; rfl
  have zc1 : w1.cell? ⟨w.heap.size + 1, 1, none⟩ = some (.int .i64 0) := by rw [cell_at R1.out.res]; rfl
  have zc2 : w1.cell? ⟨w.heap.size + 1, 2, none⟩ = some (.int .i64 0) := by rw [cell_at R1.out.res]; rfl
  have zc3 : w1.cell? ⟨w.heap.size + 1, 3, none⟩ = some (.slice none 0 0) := by rw [cell_at R1.out.res]; rfl
  have zf : ∀ j, w1.frozen? ⟨w.heap.size + 1, j, none⟩ = false := fun j => free_at R1.out.res j
  have HF := R1.out.done (w1.setCell ⟨w.heap.size, 3, none⟩ (.slice a2 l.length cc)) r (by rw [heap_set_other _ _ _ _ _ (by omega)]) (ownSet _ R1.out.own (by omega)) (belowSet _ R1.out.bel (by omega));clear R1;go_wp2;obtain ⟨e1, e2, e3⟩ := HF.out
  revert e1 e2 e3
  generalize (World.setCell _ ⟨w.heap.size + 1, 3, none⟩ _) = W;intro e1 e2 e3;exact bodyPost_ret (v := balV ⟨t, v, r, l⟩ (.slice a2 l.length cc)) (by simp [results, Tryz.results121, go_sem, cell_at e1, balV]) rfl ⟨_, rfl, e2, e3⟩
def BalErr (B : Nat) (w : World) (b : Bal) (x : Int) (e : Ending) (w' : World) : Prop := ∃ g, e = .returned (.tuple #[balV b g, .int .i64 x]) ∧ w'.ownsRow B 3 1 g b.l.length (b.l.map iv) ∧ Below B w w'
def zB : Bal := ⟨0, 0, 0, []⟩
theorem fin4 {w wx : World} {R : Nat} {ty : TypeId} (v0 v1 v2 v3 : Value) {z0 z1 z2 z3 : Value} (hz : wx.heap[R]? = some (.cells #[z0, z1, z2, z3] ty (0, 0))) (hR : w.heap.size ≤ R) (hb : Below w.heap.size w wx) :
  Hid (((((wx.setCell ⟨R, 0, none⟩ v0).setCell ⟨R, 1, none⟩ v1).setCell ⟨R, 2, none⟩ v2).setCell ⟨R, 3, none⟩ v3).heap[R]? = some (.cells #[v0, v1, v2, v3] ty (0, 0)) ∧ Below w.heap.size w ((((wx.setCell ⟨R, 0, none⟩ v0).setCell ⟨R, 1, none⟩ v1).setCell ⟨R, 2, none⟩ v2).setCell ⟨R, 3, none⟩ v3)) :=
 ⟨put4 _ _ ty _ _ _ _ hz, belowSet _ (belowSet _ (belowSet _ (belowSet _ hb hR) hR) hR) hR⟩
theorem own4 {wx : World} {R B n : Nat} {e : TypeId} {z : Nat} {g : Value} {xs : List Value} (v0 v1 v2 v3 : Value) (ho : wx.ownsRow B e z g n xs) (hR : R < B) (B' : Nat) (hB : B' ≤ B) :
  Hid (((((wx.setCell ⟨R, 0, none⟩ v0).setCell ⟨R, 1, none⟩ v1).setCell ⟨R, 2, none⟩ v2).setCell ⟨R, 3, none⟩ v3).ownsRow B' e z g n xs) :=
 own_base (ownSet _ (ownSet _ (ownSet _ (ownSet _ ho hR) hR) hR) hR) hB
structure Two (w : World) (b : Bal) (g : Value) (wx : World) : Prop where
 box : wx.heap[w.heap.size]? = some (.cells #[.int .i64 b.t, .int .i64 b.v, .int .i64 b.r, g] 34 (0, 0))
 res : wx.heap[w.heap.size + 1]? = some (.cells #[.int .i64 0, .int .i64 0, .int .i64 0, .slice none 0 0] 34 (0, 0))
 bel : Below w.heap.size w wx
theorem Two.size {w wx : World} {b : Bal} {g : Value} (h : Two w b g wx) : w.heap.size + 2 ≤ wx.heap.size := (Array.getElem?_eq_some_iff.1 h.res).1
theorem Two.start (w : World) (b : Bal) (g : Value) : Two w b g ((w.alloc (.cells #[.int .i64 b.t, .int .i64 b.v, .int .i64 b.r, g] 34)).alloc (.cells #[.int .i64 0, .int .i64 0, .int .i64 0, .slice none 0 0] 34)) := by
 have ht := two_heap w (.cells #[.int .i64 b.t, .int .i64 b.v, .int .i64 b.r, g] 34) (.cells #[.int .i64 0, .int .i64 0, .int .i64 0, .slice none 0 0] 34)
 exact ⟨ht.1, ht.2.1, below2 w _ _⟩
theorem Two.keep {w wx wy : World} {b : Bal} {g : Value} (h : Two w b g wx) (hb : Below wx.heap.size wx wy) : Two w b g wy := by
 have hs := h.size
 exact ⟨(hb.block _ (by omega)).trans h.box, (hb.block _ (by omega)).trans h.res, below_via h.bel hb⟩
def beginL (b : Bal) (me n : Int) : Bal × Int :=
 if mayB b = false then (zB, 70) else if oneB me n = false then (zB, 1) else if b.t = 1000000 then (zB, 2) else (voteL ⟨b.t + 1, me, 2, []⟩ me n, 0)
theorem may_t {b : Bal} (h : mayB b = true) : 0 ≤ b.t ∧ b.t ≤ 1000000 := by
 simp [mayB, wiB] at h
 omega
set_option maxHeartbeats 4000000 in
set_option maxRecDepth 100000 in
theorem begin_is (b : Bal) (g : Value) (me n : Int) (w : World) (h : GotAt w g b.l) : Calls Tryz.prog 90 #[balV b g, .int .i64 me, .int .i64 n] w (BalErr w.heap.size w (beginL b me n).1 (beginL b me n).2) := by
 have T0 := hideIt (Two.start w b g);have HM := hideIt (mayBe_is b g _ (h.keep T0.out.bel));have HO := hideIt (fun W => isOneOf_is me n W);clear h;obtain ⟨A, hA⟩ : ∃ A, beginL b me n = A := ⟨_, rfl⟩;rw [hA];unfold beginL at hA;have ht := @may_t b;obtain ⟨t, v, r, l⟩ := b;unfold balV at HM ⊢;simp only at hA T0 ht HM ⊢;cases hm : mayB ⟨t, v, r, l⟩
 ·rw [hm] at HM hA;rw [if_pos rfl] at hA;subst hA;clear ht
  go_enter Tryz.func90, Tryz.ntmps90
  go_wp2_with fail
  refine HM.out.mono ?_;rintro e w1 ⟨rfl, hb⟩;dsimp only;have T1 := hideIt (T0.out.keep hb);clear hb T0 HM;have bc0 : w1.cell? ⟨w.heap.size, 0, none⟩ = some (.int .i64 t) := by rw [cell_at T1.out.box]; rfl
  have bc1 : w1.cell? ⟨w.heap.size, 1, none⟩ = some (.int .i64 v) := by rw [cell_at T1.out.box]; rfl
  have bc2 : w1.cell? ⟨w.heap.size, 2, none⟩ = some (.int .i64 r) := by rw [cell_at T1.out.box]; rfl
  have bc3 : w1.cell? ⟨w.heap.size, 3, none⟩ = some (g) := by rw [cell_at T1.out.box]; rfl
  have bf : ∀ j, w1.frozen? ⟨w.heap.size, j, none⟩ = false := fun j => free_at T1.out.box j
  have zc0 : w1.cell? ⟨w.heap.size + 1, 0, none⟩ = some (.int .i64 0) := by rw [cell_at T1.out.res]; rfl
  have zc1 : w1.cell? ⟨w.heap.size + 1, 1, none⟩ = some (.int .i64 0) := by rw [cell_at T1.out.res]; rfl
  have zc2 : w1.cell? ⟨w.heap.size + 1, 2, none⟩ = some (.int .i64 0) := by rw [cell_at T1.out.res]; rfl
  have zc3 : w1.cell? ⟨w.heap.size + 1, 3, none⟩ = some (.slice none 0 0) := by rw [cell_at T1.out.res]; rfl
  have zf : ∀ j, w1.frozen? ⟨w.heap.size + 1, j, none⟩ = false := fun j => free_at T1.out.res j
  have HF := fin4 (w := w) (.int .i64 0) (.int .i64 0) (.int .i64 0) (.slice none 0 0) T1.out.res (by omega) T1.out.bel;clear T1;go_wp2;obtain ⟨e1, e2⟩ := HF.out
  revert e1 e2
  generalize (World.setCell _ ⟨w.heap.size + 1, 3, none⟩ _) = W;intro e1 e2;exact bodyPost_ret (v := .tuple #[balV zB (.slice none 0 0), .int .i64 70]) (by simp [results, Tryz.results90, go_sem, cell_at e1, balV, zB]) rfl ⟨_, rfl, ⟨rfl, .inl ⟨rfl, rfl⟩⟩, e2⟩
 ·rw [hm] at HM hA;rw [if_neg (by simp)] at hA;have ht2 := ht hm;clear ht;cases ho : oneB me n
  ·rw [ho] at HO hA;rw [if_pos rfl] at hA;subst hA
   go_enter Tryz.func90, Tryz.ntmps90
   go_wp2_with fail
   refine HM.out.mono ?_;rintro e w1 ⟨rfl, hb⟩;dsimp only;have T1 := hideIt (T0.out.keep hb);clear hb T0 HM;have bc0 : w1.cell? ⟨w.heap.size, 0, none⟩ = some (.int .i64 t) := by rw [cell_at T1.out.box]; rfl
   have bc1 : w1.cell? ⟨w.heap.size, 1, none⟩ = some (.int .i64 v) := by rw [cell_at T1.out.box]; rfl
   have bc2 : w1.cell? ⟨w.heap.size, 2, none⟩ = some (.int .i64 r) := by rw [cell_at T1.out.box]; rfl
   have bc3 : w1.cell? ⟨w.heap.size, 3, none⟩ = some (g) := by rw [cell_at T1.out.box]; rfl
   have bf : ∀ j, w1.frozen? ⟨w.heap.size, j, none⟩ = false := fun j => free_at T1.out.box j
   have zc0 : w1.cell? ⟨w.heap.size + 1, 0, none⟩ = some (.int .i64 0) := by rw [cell_at T1.out.res]; rfl
   have zc1 : w1.cell? ⟨w.heap.size + 1, 1, none⟩ = some (.int .i64 0) := by rw [cell_at T1.out.res]; rfl
   have zc2 : w1.cell? ⟨w.heap.size + 1, 2, none⟩ = some (.int .i64 0) := by rw [cell_at T1.out.res]; rfl
   have zc3 : w1.cell? ⟨w.heap.size + 1, 3, none⟩ = some (.slice none 0 0) := by rw [cell_at T1.out.res]; rfl
   have zf : ∀ j, w1.frozen? ⟨w.heap.size + 1, j, none⟩ = false := fun j => free_at T1.out.res j
   have HF := fin4 (w := w) (.int .i64 0) (.int .i64 0) (.int .i64 0) (.slice none 0 0) T1.out.res (by omega) T1.out.bel;clear T1
   go_wp2_with fail
   refine (HO.out _).mono ?_;rintro e w2 ⟨rfl, rfl⟩;dsimp only;go_wp2;obtain ⟨e1, e2⟩ := HF.out
   revert e1 e2
   generalize (World.setCell _ ⟨w.heap.size + 1, 3, none⟩ _) = W;intro e1 e2;exact bodyPost_ret (v := .tuple #[balV zB (.slice none 0 0), .int .i64 1]) (by simp [results, Tryz.results90, go_sem, cell_at e1, balV, zB]) rfl ⟨_, rfl, ⟨rfl, .inl ⟨rfl, rfl⟩⟩, e2⟩
  ·rw [ho] at HO hA;rw [if_neg (by simp)] at hA
   by_cases h6 : t = 1000000
   ·rw [if_pos h6] at hA;subst hA;subst h6
    go_enter Tryz.func90, Tryz.ntmps90
    go_wp2_with fail
    refine HM.out.mono ?_;rintro e w1 ⟨rfl, hb⟩;dsimp only;have T1 := hideIt (T0.out.keep hb);clear hb T0 HM;have bc0 : w1.cell? ⟨w.heap.size, 0, none⟩ = some (.int .i64 1000000) := by rw [cell_at T1.out.box]; rfl
    have bc1 : w1.cell? ⟨w.heap.size, 1, none⟩ = some (.int .i64 v) := by rw [cell_at T1.out.box]; rfl
    have bc2 : w1.cell? ⟨w.heap.size, 2, none⟩ = some (.int .i64 r) := by rw [cell_at T1.out.box]; rfl
    have bc3 : w1.cell? ⟨w.heap.size, 3, none⟩ = some (g) := by rw [cell_at T1.out.box]; rfl
    have bf : ∀ j, w1.frozen? ⟨w.heap.size, j, none⟩ = false := fun j => free_at T1.out.box j
    have zc0 : w1.cell? ⟨w.heap.size + 1, 0, none⟩ = some (.int .i64 0) := by rw [cell_at T1.out.res]; rfl
    have zc1 : w1.cell? ⟨w.heap.size + 1, 1, none⟩ = some (.int .i64 0) := by rw [cell_at T1.out.res]; rfl
    have zc2 : w1.cell? ⟨w.heap.size + 1, 2, none⟩ = some (.int .i64 0) := by rw [cell_at T1.out.res]; rfl
    have zc3 : w1.cell? ⟨w.heap.size + 1, 3, none⟩ = some (.slice none 0 0) := by rw [cell_at T1.out.res]; rfl
    have zf : ∀ j, w1.frozen? ⟨w.heap.size + 1, j, none⟩ = false := fun j => free_at T1.out.res j
    have HF := fin4 (w := w) (.int .i64 0) (.int .i64 0) (.int .i64 0) (.slice none 0 0) T1.out.res (by omega) T1.out.bel;clear T1
    go_wp2_with fail
    refine (HO.out _).mono ?_;rintro e w2 ⟨rfl, rfl⟩;dsimp only;go_wp2;obtain ⟨e1, e2⟩ := HF.out
    revert e1 e2
    generalize (World.setCell _ ⟨w.heap.size + 1, 3, none⟩ _) = W;intro e1 e2;exact bodyPost_ret (v := .tuple #[balV zB (.slice none 0 0), .int .i64 2]) (by simp [results, Tryz.results90, go_sem, cell_at e1, balV, zB]) rfl ⟨_, rfl, ⟨rfl, .inl ⟨rfl, rfl⟩⟩, e2⟩
   ·rw [if_neg h6] at hA;have h6b : (t == 1000000) = false := beq_eq_false_iff_ne.2 h6;have hlt : t < 1000000 := by omega
    have hge : 0 ≤ t := ht2.1;clear h6 ht2;have HV := hideIt (fun W => vote_is ⟨t + 1, me, 2, []⟩ (.slice none 0 0) me n W (GotAt.nil _ _ _) List.Pairwise.nil (by simp));generalize voteL ⟨t + 1, me, 2, []⟩ me n = V at *;subst hA;unfold balV at HV;simp only at HV
    go_enter Tryz.func90, Tryz.ntmps90
    go_wp2_with fail
    refine HM.out.mono ?_;rintro e w1 ⟨rfl, hb⟩;dsimp only;have T1 := hideIt (T0.out.keep hb);clear hb T0 HM;have bc0 : w1.cell? ⟨w.heap.size, 0, none⟩ = some (.int .i64 t) := by rw [cell_at T1.out.box]; rfl
    have bc1 : w1.cell? ⟨w.heap.size, 1, none⟩ = some (.int .i64 v) := by rw [cell_at T1.out.box]; rfl
    have bc2 : w1.cell? ⟨w.heap.size, 2, none⟩ = some (.int .i64 r) := by rw [cell_at T1.out.box]; rfl
    have bc3 : w1.cell? ⟨w.heap.size, 3, none⟩ = some (g) := by rw [cell_at T1.out.box]; rfl
    have bf : ∀ j, w1.frozen? ⟨w.heap.size, j, none⟩ = false := fun j => free_at T1.out.box j
    go_wp2_with fail
    refine (HO.out _).mono ?_;rintro e w2 ⟨rfl, rfl⟩;dsimp only;clear HO
    go_wp2_with fail
    refine (HV.out _).mono ?_;rintro e w3 ⟨g2, rfl, h1, h2⟩;dsimp only;obtain ⟨a2, cc, rfl⟩ := own_len h1;have hs := T1.out.size;have T2 := hideIt ((T1.out.keep (below1 w2 _)).keep h2);have HW := hideIt h1;clear h1 h2 T1 HV bc0 bc1 bc2 bc3 bf;have zc0 : w3.cell? ⟨w.heap.size + 1, 0, none⟩ = some (.int .i64 0) := by rw [cell_at T2.out.res]; rfl
    have zc1 : w3.cell? ⟨w.heap.size + 1, 1, none⟩ = some (.int .i64 0) := by rw [cell_at T2.out.res]; rfl
    have zc2 : w3.cell? ⟨w.heap.size + 1, 2, none⟩ = some (.int .i64 0) := by rw [cell_at T2.out.res]; rfl
    have zc3 : w3.cell? ⟨w.heap.size + 1, 3, none⟩ = some (.slice none 0 0) := by rw [cell_at T2.out.res]; rfl
    have zf : ∀ j, w3.frozen? ⟨w.heap.size + 1, j, none⟩ = false := fun j => free_at T2.out.res j
    unfold balV;have hs2 : Hid (w.heap.size + 2 ≤ (w2.alloc (.cells #[.int .i64 (t + 1), .int .i64 me, .int .i64 2, .slice none 0 0] 146)).heap.size) := by
     show _ ≤ _
     simp
     omega
    clear hs;have HF := fin4 (w := w) (.int .i64 V.t) (.int .i64 V.v) (.int .i64 V.r) (.slice a2 V.l.length cc) T2.out.res (by omega) T2.out.bel;have HG := own4 (R := w.heap.size + 1) (.int .i64 V.t) (.int .i64 V.v) (.int .i64 V.r) (.slice a2 V.l.length cc) HW.out hs2.out w.heap.size (by have := hs2.out; omega)
    clear T2 HW;go_wp2;obtain ⟨e1, e2⟩ := HF.out;have e3 := HG.out
    revert e1 e2 e3
    generalize (World.setCell _ ⟨w.heap.size + 1, 3, none⟩ _) = W;intro e1 e2 e3;exact bodyPost_ret (v := .tuple #[balV V (.slice a2 V.l.length cc), .int .i64 0]) (by simp [results, Tryz.results90, go_sem, cell_at e1, balV]) rfl ⟨_, rfl, e3, e2⟩
theorem nodes_l (l : List Int) : ∀ p, nodesB p l = true → l.Pairwise (· < ·) ∧ (∀ x ∈ l, p < x ∧ 1 ≤ x ∧ x ≤ 7) := by
 induction l with
 | nil => intro p _; exact ⟨List.Pairwise.nil, fun x hx => by cases hx⟩
 | cons y r ih =>
  intro p h
  simp [nodesB, wiB] at h
  obtain ⟨⟨h1, h2⟩, h3⟩ := h;obtain ⟨i1, i2⟩ := ih y h3;refine ⟨List.Pairwise.cons (fun x hx => (i2 x hx).1) i1, fun x hx => ?_⟩
  rcases List.mem_cons.1 hx with rfl | hx
  ·exact ⟨h2, h1.1, h1.2⟩
  ·have := i2 x hx;omega
theorem nodes_len (l : List Int) : ∀ p, 0 ≤ p → p ≤ 7 → nodesB p l = true → (l.length : Int) ≤ 7 - p := by
 induction l with
 | nil => intro p h1 h2 _; simp; omega
 | cons y r ih =>
  intro p h1 h2 h
  simp [nodesB, wiB] at h
  have := ih y (by omega) (by omega) h.2
  simp
  omega
theorem may_l {b : Bal} (h : mayB b = true) : b.l.Pairwise (· ≤ ·) ∧ b.l.length ≤ 7 := by
 have hr : roleB b.v b.r b.l = true := by
  simp only [mayB, Bool.and_eq_true] at h;exact h.2
 unfold roleB at hr
 split at hr
 ·rw [List.isEmpty_iff] at hr;rw [hr]
  exact ⟨List.Pairwise.nil, by simp⟩
 ·split at hr
  ·simp only [Bool.and_eq_true] at hr;obtain ⟨h1, h2⟩ := nodes_l _ _ hr.1;have h3 := nodes_len _ 0 (by omega) (by omega) hr.1
   exact ⟨h1.imp (fun h => Int.le_of_lt h), by omega⟩
  ·cases hr
theorem hear_l {b : Bal} (x : Int) (h : mayB b = true) : (hearL b x).l.Pairwise (· ≤ ·) ∧ (hearL b x).l.length ≤ 7 := by
 unfold hearL
 split
 ·exact ⟨List.Pairwise.nil, by simp⟩
 ·exact may_l h
def hear2L (b : Bal) (x : Int) : Bal × Int := if mayB b = false then (zB, 70) else if wiB x 1 1000000 = false then (zB, 1) else (hearL b x, 0)
set_option maxHeartbeats 4000000 in
set_option maxRecDepth 100000 in
theorem hear_is (b : Bal) (g : Value) (x : Int) (w : World) (h : GotAt w g b.l) : Calls Tryz.prog 80 #[balV b g, .int .i64 x] w (BalErr w.heap.size w (hear2L b x).1 (hear2L b x).2) := by
 have T0 := hideIt (Two.start w b g);have HM := hideIt (mayBe_is b g _ (h.keep T0.out.bel));have HO := hideIt (fun W => isTerm_is x W);have HH := hideIt (fun W hW => hearing_is b g x W (h.keep hW));clear h;obtain ⟨A, hA⟩ : ∃ A, hear2L b x = A := ⟨_, rfl⟩;rw [hA];unfold hear2L at hA;generalize hearL b x = V at *;obtain ⟨t, v, r, l⟩ := b;unfold balV at HM HH ⊢;simp only at hA T0 HM HH ⊢;cases hm : mayB ⟨t, v, r, l⟩
 ·rw [hm] at HM hA;rw [if_pos rfl] at hA;subst hA
  go_enter Tryz.func80, Tryz.ntmps80
  go_wp2_with fail
  refine HM.out.mono ?_;rintro e w1 ⟨rfl, hb⟩;dsimp only;have T1 := hideIt (T0.out.keep hb);clear hb T0 HM;have bc0 : w1.cell? ⟨w.heap.size, 0, none⟩ = some (.int .i64 t) := by rw [cell_at T1.out.box]; rfl
  have bc1 : w1.cell? ⟨w.heap.size, 1, none⟩ = some (.int .i64 v) := by rw [cell_at T1.out.box]; rfl
  have bc2 : w1.cell? ⟨w.heap.size, 2, none⟩ = some (.int .i64 r) := by rw [cell_at T1.out.box]; rfl
  have bc3 : w1.cell? ⟨w.heap.size, 3, none⟩ = some (g) := by rw [cell_at T1.out.box]; rfl
  have bf : ∀ j, w1.frozen? ⟨w.heap.size, j, none⟩ = false := fun j => free_at T1.out.box j
  have zc0 : w1.cell? ⟨w.heap.size + 1, 0, none⟩ = some (.int .i64 0) := by rw [cell_at T1.out.res]; rfl
  have zc1 : w1.cell? ⟨w.heap.size + 1, 1, none⟩ = some (.int .i64 0) := by rw [cell_at T1.out.res]; rfl
  have zc2 : w1.cell? ⟨w.heap.size + 1, 2, none⟩ = some (.int .i64 0) := by rw [cell_at T1.out.res]; rfl
  have zc3 : w1.cell? ⟨w.heap.size + 1, 3, none⟩ = some (.slice none 0 0) := by rw [cell_at T1.out.res]; rfl
  have zf : ∀ j, w1.frozen? ⟨w.heap.size + 1, j, none⟩ = false := fun j => free_at T1.out.res j
  have HF := fin4 (w := w) (.int .i64 0) (.int .i64 0) (.int .i64 0) (.slice none 0 0) T1.out.res (by omega) T1.out.bel;clear T1;go_wp2;obtain ⟨e1, e2⟩ := HF.out
  revert e1 e2
  generalize (World.setCell _ ⟨w.heap.size + 1, 3, none⟩ _) = W;intro e1 e2;exact bodyPost_ret (v := .tuple #[balV zB (.slice none 0 0), .int .i64 70]) (by simp [results, Tryz.results80, go_sem, cell_at e1, balV, zB]) rfl ⟨_, rfl, ⟨rfl, .inl ⟨rfl, rfl⟩⟩, e2⟩
 ·rw [hm] at HM hA;rw [if_neg (by simp)] at hA;cases ho : wiB x 1 1000000
  ·rw [ho] at HO hA;rw [if_pos rfl] at hA;subst hA
   go_enter Tryz.func80, Tryz.ntmps80
   go_wp2_with fail
   refine HM.out.mono ?_;rintro e w1 ⟨rfl, hb⟩;dsimp only;have T1 := hideIt (T0.out.keep hb);clear hb T0 HM;have bc0 : w1.cell? ⟨w.heap.size, 0, none⟩ = some (.int .i64 t) := by rw [cell_at T1.out.box]; rfl
   have bc1 : w1.cell? ⟨w.heap.size, 1, none⟩ = some (.int .i64 v) := by rw [cell_at T1.out.box]; rfl
   have bc2 : w1.cell? ⟨w.heap.size, 2, none⟩ = some (.int .i64 r) := by rw [cell_at T1.out.box]; rfl
   have bc3 : w1.cell? ⟨w.heap.size, 3, none⟩ = some (g) := by rw [cell_at T1.out.box]; rfl
   have bf : ∀ j, w1.frozen? ⟨w.heap.size, j, none⟩ = false := fun j => free_at T1.out.box j
   have zc0 : w1.cell? ⟨w.heap.size + 1, 0, none⟩ = some (.int .i64 0) := by rw [cell_at T1.out.res]; rfl
   have zc1 : w1.cell? ⟨w.heap.size + 1, 1, none⟩ = some (.int .i64 0) := by rw [cell_at T1.out.res]; rfl
   have zc2 : w1.cell? ⟨w.heap.size + 1, 2, none⟩ = some (.int .i64 0) := by rw [cell_at T1.out.res]; rfl
   have zc3 : w1.cell? ⟨w.heap.size + 1, 3, none⟩ = some (.slice none 0 0) := by rw [cell_at T1.out.res]; rfl
   have zf : ∀ j, w1.frozen? ⟨w.heap.size + 1, j, none⟩ = false := fun j => free_at T1.out.res j
   have HF := fin4 (w := w) (.int .i64 0) (.int .i64 0) (.int .i64 0) (.slice none 0 0) T1.out.res (by omega) T1.out.bel;clear T1
   go_wp2_with fail
   refine (HO.out _).mono ?_;rintro e w2 ⟨rfl, rfl⟩;dsimp only;go_wp2;obtain ⟨e1, e2⟩ := HF.out
   revert e1 e2
   generalize (World.setCell _ ⟨w.heap.size + 1, 3, none⟩ _) = W;intro e1 e2;exact bodyPost_ret (v := .tuple #[balV zB (.slice none 0 0), .int .i64 1]) (by simp [results, Tryz.results80, go_sem, cell_at e1, balV, zB]) rfl ⟨_, rfl, ⟨rfl, .inl ⟨rfl, rfl⟩⟩, e2⟩
  ·rw [ho] at HO hA;rw [if_neg (by simp)] at hA;subst hA
   go_enter Tryz.func80, Tryz.ntmps80
   go_wp2_with fail
   refine HM.out.mono ?_;rintro e w1 ⟨rfl, hb⟩;dsimp only;have T1 := hideIt (T0.out.keep hb);clear hb T0 HM;have bc0 : w1.cell? ⟨w.heap.size, 0, none⟩ = some (.int .i64 t) := by rw [cell_at T1.out.box]; rfl
   have bc1 : w1.cell? ⟨w.heap.size, 1, none⟩ = some (.int .i64 v) := by rw [cell_at T1.out.box]; rfl
   have bc2 : w1.cell? ⟨w.heap.size, 2, none⟩ = some (.int .i64 r) := by rw [cell_at T1.out.box]; rfl
   have bc3 : w1.cell? ⟨w.heap.size, 3, none⟩ = some (g) := by rw [cell_at T1.out.box]; rfl
   have bf : ∀ j, w1.frozen? ⟨w.heap.size, j, none⟩ = false := fun j => free_at T1.out.box j
   go_wp2_with fail
   refine (HO.out _).mono ?_;rintro e w2 ⟨rfl, rfl⟩;dsimp only;clear HO
   go_wp2_with fail
   refine (HH.out _ T1.out.bel).mono ?_;rintro e w3 ⟨g2, rfl, h1, h2⟩;dsimp only;obtain ⟨a2, cc, rfl⟩ := own_len h1;have hs := hideIt T1.out.size;have T2 := hideIt (T1.out.keep h2);have HW := hideIt h1;clear h1 h2 T1 HH bc0 bc1 bc2 bc3 bf;have zc0 : w3.cell? ⟨w.heap.size + 1, 0, none⟩ = some (.int .i64 0) := by rw [cell_at T2.out.res]; rfl
   have zc1 : w3.cell? ⟨w.heap.size + 1, 1, none⟩ = some (.int .i64 0) := by rw [cell_at T2.out.res]; rfl
   have zc2 : w3.cell? ⟨w.heap.size + 1, 2, none⟩ = some (.int .i64 0) := by rw [cell_at T2.out.res]; rfl
   have zc3 : w3.cell? ⟨w.heap.size + 1, 3, none⟩ = some (.slice none 0 0) := by rw [cell_at T2.out.res]; rfl
   have zf : ∀ j, w3.frozen? ⟨w.heap.size + 1, j, none⟩ = false := fun j => free_at T2.out.res j
   unfold balV;have HF := fin4 (w := w) (.int .i64 V.t) (.int .i64 V.v) (.int .i64 V.r) (.slice a2 V.l.length cc) T2.out.res (by omega) T2.out.bel;have HG := own4 (R := w.heap.size + 1) (.int .i64 V.t) (.int .i64 V.v) (.int .i64 V.r) (.slice a2 V.l.length cc) HW.out hs.out w.heap.size (by have := hs.out; omega)
   clear T2 HW hs;go_wp2;obtain ⟨e1, e2⟩ := HF.out;have e3 := HG.out
   revert e1 e2 e3
   generalize (World.setCell _ ⟨w.heap.size + 1, 3, none⟩ _) = W;intro e1 e2 e3;exact bodyPost_ret (v := .tuple #[balV V (.slice a2 V.l.length cc), .int .i64 0]) (by simp [results, Tryz.results80, go_sem, cell_at e1, balV]) rfl ⟨_, rfl, e3, e2⟩
def countL (b : Bal) (x y : Int) (ok : Bool) (n : Int) : Bal × Int :=
 if mayB b = false then (zB, 70) else if oneB x n = false then (zB, 1) else if wiB y 1 1000000 = false then (zB, 1)
 else if (ok && ((hearL b y).t == y && (hearL b y).r == 2)) = true then (voteL (hearL b y) x n, 0) else (hearL b y, 0)
theorem own_block {w : World} {B : Nat} {e : TypeId} {z n k : Nat} {v : Value} {xs : List Value} (h : w.ownsRow B e z v n xs) (hk : v.ownBlock = some k) : k < w.heap.size ∧ B ≤ k := by
 obtain ⟨_, ⟨rfl, _⟩ | ⟨g, cap, cur, rfl, hB, hg, _⟩⟩ := h
 ·cases hk
 ·simp [Value.ownBlock] at hk
  subst hk
  exact ⟨(Array.getElem?_eq_some_iff.1 hg).1, hB⟩
theorem ownOther {B b j n : Nat} {e : TypeId} {z : Nat} {g : Value} {w : World} {xs : List Value} (v : Value) (h : w.ownsRow B e z g n xs) (hb : ∀ k, g.ownBlock = some k → k ≠ b) : (w.setCell ⟨b, j, none⟩ v).ownsRow B e z g n xs := by
 obtain ⟨h1, h2 | ⟨k, cap, cur, hv, hB, hg, r⟩⟩ := h
 ·exact ⟨h1, .inl h2⟩
 ·subst hv
  exact ⟨h1, .inr ⟨k, cap, cur, rfl, hB, (heap_set_other _ _ _ _ _ (hb k rfl)).trans hg, r⟩⟩
set_option maxHeartbeats 8000000 in
set_option maxRecDepth 100000 in
theorem count_is (b : Bal) (g : Value) (x y : Int) (ok : Bool) (n : Int) (w : World) (h : GotAt w g b.l) : Calls Tryz.prog 163 #[balV b g, .int .i64 x, .int .i64 y, .bool ok, .int .i64 n] w (BalErr w.heap.size w (countL b x y ok n).1 (countL b x y ok n).2) := by
 have T0 := hideIt (Two.start w b g);have HM := hideIt (mayBe_is b g _ (h.keep T0.out.bel));have HO := hideIt (fun W => isOneOf_is x n W);have HT := hideIt (fun W => isTerm_is y W);have HH := hideIt (fun W hW => hearing_is b g y W (h.keep hW));have HL := hideIt (@hear_l b y);clear h;obtain ⟨A, hA⟩ : ∃ A, countL b x y ok n = A := ⟨_, rfl⟩;rw [hA];unfold countL at hA;generalize hearL b y = V at *;obtain ⟨t, v, r, l⟩ := b;unfold balV at HM HH ⊢;simp only at hA T0 HM HH ⊢;cases hm : mayB ⟨t, v, r, l⟩
 ·rw [hm] at HM hA;rw [if_pos rfl] at hA;subst hA
  go_enter Tryz.func163, Tryz.ntmps163
  go_wp2_with fail
  refine HM.out.mono ?_;rintro e w1 ⟨rfl, hb⟩;dsimp only;have T1 := hideIt (T0.out.keep hb);clear hb T0 HM;have bc0 : w1.cell? ⟨w.heap.size, 0, none⟩ = some (.int .i64 t) := by rw [cell_at T1.out.box]; rfl
  have bc1 : w1.cell? ⟨w.heap.size, 1, none⟩ = some (.int .i64 v) := by rw [cell_at T1.out.box]; rfl
  have bc2 : w1.cell? ⟨w.heap.size, 2, none⟩ = some (.int .i64 r) := by rw [cell_at T1.out.box]; rfl
  have bc3 : w1.cell? ⟨w.heap.size, 3, none⟩ = some (g) := by rw [cell_at T1.out.box]; rfl
  have bf : ∀ j, w1.frozen? ⟨w.heap.size, j, none⟩ = false := fun j => free_at T1.out.box j
  have zc0 : w1.cell? ⟨w.heap.size + 1, 0, none⟩ = some (.int .i64 0) := by rw [cell_at T1.out.res]; rfl
  have zc1 : w1.cell? ⟨w.heap.size + 1, 1, none⟩ = some (.int .i64 0) := by rw [cell_at T1.out.res]; rfl
  have zc2 : w1.cell? ⟨w.heap.size + 1, 2, none⟩ = some (.int .i64 0) := by rw [cell_at T1.out.res]; rfl
  have zc3 : w1.cell? ⟨w.heap.size + 1, 3, none⟩ = some (.slice none 0 0) := by rw [cell_at T1.out.res]; rfl
  have zf : ∀ j, w1.frozen? ⟨w.heap.size + 1, j, none⟩ = false := fun j => free_at T1.out.res j
  have HF := fin4 (w := w) (.int .i64 0) (.int .i64 0) (.int .i64 0) (.slice none 0 0) T1.out.res (by omega) T1.out.bel;clear T1;go_wp2;obtain ⟨e1, e2⟩ := HF.out
  revert e1 e2
  generalize (World.setCell _ ⟨w.heap.size + 1, 3, none⟩ _) = W;intro e1 e2;exact bodyPost_ret (v := .tuple #[balV zB (.slice none 0 0), .int .i64 70]) (by simp [results, Tryz.results163, go_sem, cell_at e1, balV, zB]) rfl ⟨_, rfl, ⟨rfl, .inl ⟨rfl, rfl⟩⟩, e2⟩
 ·rw [hm] at HM hA;rw [if_neg (by simp)] at hA;have HL2 := hideIt (HL.out hm);clear HL hm;cases ho : oneB x n
  ·rw [ho] at HO hA;rw [if_pos rfl] at hA;subst hA
   go_enter Tryz.func163, Tryz.ntmps163
   go_wp2_with fail
   refine HM.out.mono ?_;rintro e w1 ⟨rfl, hb⟩;dsimp only;have T1 := hideIt (T0.out.keep hb);clear hb T0 HM;have bc0 : w1.cell? ⟨w.heap.size, 0, none⟩ = some (.int .i64 t) := by rw [cell_at T1.out.box]; rfl
   have bc1 : w1.cell? ⟨w.heap.size, 1, none⟩ = some (.int .i64 v) := by rw [cell_at T1.out.box]; rfl
   have bc2 : w1.cell? ⟨w.heap.size, 2, none⟩ = some (.int .i64 r) := by rw [cell_at T1.out.box]; rfl
   have bc3 : w1.cell? ⟨w.heap.size, 3, none⟩ = some (g) := by rw [cell_at T1.out.box]; rfl
   have bf : ∀ j, w1.frozen? ⟨w.heap.size, j, none⟩ = false := fun j => free_at T1.out.box j
   have zc0 : w1.cell? ⟨w.heap.size + 1, 0, none⟩ = some (.int .i64 0) := by rw [cell_at T1.out.res]; rfl
   have zc1 : w1.cell? ⟨w.heap.size + 1, 1, none⟩ = some (.int .i64 0) := by rw [cell_at T1.out.res]; rfl
   have zc2 : w1.cell? ⟨w.heap.size + 1, 2, none⟩ = some (.int .i64 0) := by rw [cell_at T1.out.res]; rfl
   have zc3 : w1.cell? ⟨w.heap.size + 1, 3, none⟩ = some (.slice none 0 0) := by rw [cell_at T1.out.res]; rfl
   have zf : ∀ j, w1.frozen? ⟨w.heap.size + 1, j, none⟩ = false := fun j => free_at T1.out.res j
   have HF := fin4 (w := w) (.int .i64 0) (.int .i64 0) (.int .i64 0) (.slice none 0 0) T1.out.res (by omega) T1.out.bel;clear T1
   go_wp2_with fail
   refine (HO.out _).mono ?_;rintro e w2 ⟨rfl, rfl⟩;dsimp only;go_wp2;obtain ⟨e1, e2⟩ := HF.out
   revert e1 e2
   generalize (World.setCell _ ⟨w.heap.size + 1, 3, none⟩ _) = W;intro e1 e2;exact bodyPost_ret (v := .tuple #[balV zB (.slice none 0 0), .int .i64 1]) (by simp [results, Tryz.results163, go_sem, cell_at e1, balV, zB]) rfl ⟨_, rfl, ⟨rfl, .inl ⟨rfl, rfl⟩⟩, e2⟩
  ·rw [ho] at HO hA;rw [if_neg (by simp)] at hA;clear ho;cases ht : wiB y 1 1000000
   ·rw [ht] at HT hA;rw [if_pos rfl] at hA;subst hA
    go_enter Tryz.func163, Tryz.ntmps163
    go_wp2_with fail
    refine HM.out.mono ?_;rintro e w1 ⟨rfl, hb⟩;dsimp only;have T1 := hideIt (T0.out.keep hb);clear hb T0 HM;have bc0 : w1.cell? ⟨w.heap.size, 0, none⟩ = some (.int .i64 t) := by rw [cell_at T1.out.box]; rfl
    have bc1 : w1.cell? ⟨w.heap.size, 1, none⟩ = some (.int .i64 v) := by rw [cell_at T1.out.box]; rfl
    have bc2 : w1.cell? ⟨w.heap.size, 2, none⟩ = some (.int .i64 r) := by rw [cell_at T1.out.box]; rfl
    have bc3 : w1.cell? ⟨w.heap.size, 3, none⟩ = some (g) := by rw [cell_at T1.out.box]; rfl
    have bf : ∀ j, w1.frozen? ⟨w.heap.size, j, none⟩ = false := fun j => free_at T1.out.box j
    have zc0 : w1.cell? ⟨w.heap.size + 1, 0, none⟩ = some (.int .i64 0) := by rw [cell_at T1.out.res]; rfl
    have zc1 : w1.cell? ⟨w.heap.size + 1, 1, none⟩ = some (.int .i64 0) := by rw [cell_at T1.out.res]; rfl
    have zc2 : w1.cell? ⟨w.heap.size + 1, 2, none⟩ = some (.int .i64 0) := by rw [cell_at T1.out.res]; rfl
    have zc3 : w1.cell? ⟨w.heap.size + 1, 3, none⟩ = some (.slice none 0 0) := by rw [cell_at T1.out.res]; rfl
    have zf : ∀ j, w1.frozen? ⟨w.heap.size + 1, j, none⟩ = false := fun j => free_at T1.out.res j
    have HF := fin4 (w := w) (.int .i64 0) (.int .i64 0) (.int .i64 0) (.slice none 0 0) T1.out.res (by omega) T1.out.bel;clear T1
    go_wp2_with fail
    refine (HO.out _).mono ?_;rintro e w2 ⟨rfl, rfl⟩;dsimp only
    go_wp2_with fail
    refine (HT.out _).mono ?_;rintro e w3 ⟨rfl, rfl⟩;dsimp only;go_wp2;obtain ⟨e1, e2⟩ := HF.out
    revert e1 e2
    generalize (World.setCell _ ⟨w.heap.size + 1, 3, none⟩ _) = W;intro e1 e2;exact bodyPost_ret (v := .tuple #[balV zB (.slice none 0 0), .int .i64 1]) (by simp [results, Tryz.results163, go_sem, cell_at e1, balV, zB]) rfl ⟨_, rfl, ⟨rfl, .inl ⟨rfl, rfl⟩⟩, e2⟩
   ·rw [ht] at HT hA;rw [if_neg (by simp)] at hA;clear ht;cases ok
    ·rw [if_neg (by simp)] at hA;subst hA
     go_enter Tryz.func163, Tryz.ntmps163
     go_wp2_with fail
     refine HM.out.mono ?_;rintro e w1 ⟨rfl, hb⟩;dsimp only;have T1 := hideIt (T0.out.keep hb);clear hb T0 HM;have bc0 : w1.cell? ⟨w.heap.size, 0, none⟩ = some (.int .i64 t) := by rw [cell_at T1.out.box]; rfl
     have bc1 : w1.cell? ⟨w.heap.size, 1, none⟩ = some (.int .i64 v) := by rw [cell_at T1.out.box]; rfl
     have bc2 : w1.cell? ⟨w.heap.size, 2, none⟩ = some (.int .i64 r) := by rw [cell_at T1.out.box]; rfl
     have bc3 : w1.cell? ⟨w.heap.size, 3, none⟩ = some (g) := by rw [cell_at T1.out.box]; rfl
     have bf : ∀ j, w1.frozen? ⟨w.heap.size, j, none⟩ = false := fun j => free_at T1.out.box j
     go_wp2_with fail
     refine (HO.out _).mono ?_;rintro e w2 ⟨rfl, rfl⟩;dsimp only
     go_wp2_with fail
     refine (HT.out _).mono ?_;rintro e w3 ⟨rfl, rfl⟩;dsimp only;clear HO HT
     go_wp2_with fail
     refine (HH.out _ T1.out.bel).mono ?_;rintro e w4 ⟨g2, rfl, h1, h2⟩;dsimp only;obtain ⟨a2, cc, rfl⟩ := own_len h1;have hs := hideIt T1.out.size;have T2 := hideIt (T1.out.keep h2);have HW := hideIt h1;clear h1 h2 T1 HH bc0 bc1 bc2 bc3 bf;unfold balV;have T3 := hideIt (T2.out.keep (below1 w4 (.cells #[.int .i64 V.t, .int .i64 V.v, .int .i64 V.r, .slice a2 V.l.length cc] 146)));have HX := hideIt (own_keep HW.out (below1 w4 (.cells #[.int .i64 V.t, .int .i64 V.v, .int .i64 V.r, .slice a2 V.l.length cc] 146)));have zc0 : (w4.alloc (.cells #[.int .i64 V.t, .int .i64 V.v, .int .i64 V.r, .slice a2 V.l.length cc] 146)).cell? ⟨w.heap.size + 1, 0, none⟩ = some (.int .i64 0) := by rw [cell_at T3.out.res]; rfl
     have zc1 : (w4.alloc (.cells #[.int .i64 V.t, .int .i64 V.v, .int .i64 V.r, .slice a2 V.l.length cc] 146)).cell? ⟨w.heap.size + 1, 1, none⟩ = some (.int .i64 0) := by rw [cell_at T3.out.res]; rfl
     have zc2 : (w4.alloc (.cells #[.int .i64 V.t, .int .i64 V.v, .int .i64 V.r, .slice a2 V.l.length cc] 146)).cell? ⟨w.heap.size + 1, 2, none⟩ = some (.int .i64 0) := by rw [cell_at T3.out.res]; rfl
     have zc3 : (w4.alloc (.cells #[.int .i64 V.t, .int .i64 V.v, .int .i64 V.r, .slice a2 V.l.length cc] 146)).cell? ⟨w.heap.size + 1, 3, none⟩ = some (.slice none 0 0) := by rw [cell_at T3.out.res]; rfl
     have zf : ∀ j, (w4.alloc (.cells #[.int .i64 V.t, .int .i64 V.v, .int .i64 V.r, .slice a2 V.l.length cc] 146)).frozen? ⟨w.heap.size + 1, j, none⟩ = false := fun j => free_at T3.out.res j
     have HF := fin4 (w := w) (.int .i64 V.t) (.int .i64 V.v) (.int .i64 V.r) (.slice a2 V.l.length cc) T3.out.res (by omega) T3.out.bel;have HG := own4 (R := w.heap.size + 1) (.int .i64 V.t) (.int .i64 V.v) (.int .i64 V.r) (.slice a2 V.l.length cc) HX.out hs.out w.heap.size (by have := hs.out; omega)
     clear T2 T3 HW HX hs;go_wp2;obtain ⟨e1, e2⟩ := HF.out;have e3 := HG.out
     revert e1 e2 e3
     generalize (World.setCell _ ⟨w.heap.size + 1, 3, none⟩ _) = W;intro e1 e2 e3;exact bodyPost_ret (v := .tuple #[balV V (.slice a2 V.l.length cc), .int .i64 0]) (by simp [results, Tryz.results163, go_sem, cell_at e1, balV]) rfl ⟨_, rfl, e3, e2⟩
    ·have HS := hideIt (fun W a2 cc => stands_is V.t V.v V.r (.slice a2 V.l.length cc) y W);have HV := hideIt (fun W g hg => vote_is V g x n W hg HL2.out.1 HL2.out.2);have HL3 := hideIt HL2.out.2;clear HL2;generalize voteL V x n = U at *;simp only [Bool.true_and] at hA;cases hst : (V.t == y && V.r == 2)
     ·rw [hst] at HS hA;rw [if_neg (by simp)] at hA;subst hA;clear hst HV
      go_enter Tryz.func163, Tryz.ntmps163
      go_wp2_with fail
      refine HM.out.mono ?_;rintro e w1 ⟨rfl, hb⟩;dsimp only;have T1 := hideIt (T0.out.keep hb);clear hb T0 HM;have bc0 : w1.cell? ⟨w.heap.size, 0, none⟩ = some (.int .i64 t) := by rw [cell_at T1.out.box]; rfl
      have bc1 : w1.cell? ⟨w.heap.size, 1, none⟩ = some (.int .i64 v) := by rw [cell_at T1.out.box]; rfl
      have bc2 : w1.cell? ⟨w.heap.size, 2, none⟩ = some (.int .i64 r) := by rw [cell_at T1.out.box]; rfl
      have bc3 : w1.cell? ⟨w.heap.size, 3, none⟩ = some (g) := by rw [cell_at T1.out.box]; rfl
      have bf : ∀ j, w1.frozen? ⟨w.heap.size, j, none⟩ = false := fun j => free_at T1.out.box j
      go_wp2_with fail
      refine (HO.out _).mono ?_;rintro e w2 ⟨rfl, rfl⟩;dsimp only
      go_wp2_with fail
      refine (HT.out _).mono ?_;rintro e w3 ⟨rfl, rfl⟩;dsimp only;clear HO HT
      go_wp2_with fail
      refine (HH.out _ T1.out.bel).mono ?_;rintro e w4 ⟨g2, rfl, h1, h2⟩;dsimp only;obtain ⟨a2, cc, rfl⟩ := own_len h1;have hs := hideIt T1.out.size;have T2 := hideIt (T1.out.keep h2);have HW := hideIt h1;clear h1 h2 T1 HH bc0 bc1 bc2 bc3 bf;unfold balV;have T3 := hideIt (T2.out.keep (below1 w4 (.cells #[.int .i64 V.t, .int .i64 V.v, .int .i64 V.r, .slice a2 V.l.length cc] 146)));have HX := hideIt (own_keep HW.out (below1 w4 (.cells #[.int .i64 V.t, .int .i64 V.v, .int .i64 V.r, .slice a2 V.l.length cc] 146)));clear T2 HW
      go_wp2_with fail
      refine (HS.out _ a2 cc).mono ?_;rintro e w5 ⟨rfl, hb⟩;dsimp only;have T4 := hideIt (T3.out.keep hb);have HY := hideIt (own_keep HX.out hb);have HE := hideIt ((hb.block w4.heap.size (by simp)).trans (heap_alloc_new w4 _));clear hb T3 HX HS;have ec0 : w5.cell? ⟨w4.heap.size, 0, none⟩ = some (.int .i64 V.t) := by rw [cell_at HE.out]; rfl
      have ec1 : w5.cell? ⟨w4.heap.size, 1, none⟩ = some (.int .i64 V.v) := by rw [cell_at HE.out]; rfl
      have ec2 : w5.cell? ⟨w4.heap.size, 2, none⟩ = some (.int .i64 V.r) := by rw [cell_at HE.out]; rfl
      have ec3 : w5.cell? ⟨w4.heap.size, 3, none⟩ = some (.slice a2 V.l.length cc) := by rw [cell_at HE.out]; rfl
      have ef : ∀ j, w5.frozen? ⟨w4.heap.size, j, none⟩ = false := fun j => free_at HE.out j
      have zc0 : w5.cell? ⟨w.heap.size + 1, 0, none⟩ = some (.int .i64 0) := by rw [cell_at T4.out.res]; rfl
      have zc1 : w5.cell? ⟨w.heap.size + 1, 1, none⟩ = some (.int .i64 0) := by rw [cell_at T4.out.res]; rfl
      have zc2 : w5.cell? ⟨w.heap.size + 1, 2, none⟩ = some (.int .i64 0) := by rw [cell_at T4.out.res]; rfl
      have zc3 : w5.cell? ⟨w.heap.size + 1, 3, none⟩ = some (.slice none 0 0) := by rw [cell_at T4.out.res]; rfl
      have zf : ∀ j, w5.frozen? ⟨w.heap.size + 1, j, none⟩ = false := fun j => free_at T4.out.res j
      have HF := fin4 (w := w) (.int .i64 V.t) (.int .i64 V.v) (.int .i64 V.r) (.slice a2 V.l.length cc) T4.out.res (by omega) T4.out.bel;have HG := own4 (R := w.heap.size + 1) (.int .i64 V.t) (.int .i64 V.v) (.int .i64 V.r) (.slice a2 V.l.length cc) HY.out hs.out w.heap.size (by have := hs.out; omega)
      clear T4 HY hs HE;go_wp2;obtain ⟨e1, e2⟩ := HF.out;have e3 := HG.out
      revert e1 e2 e3
      generalize (World.setCell _ ⟨w.heap.size + 1, 3, none⟩ _) = W;intro e1 e2 e3;exact bodyPost_ret (v := .tuple #[balV V (.slice a2 V.l.length cc), .int .i64 0]) (by simp [results, Tryz.results163, go_sem, cell_at e1, balV]) rfl ⟨_, rfl, e3, e2⟩
     ·rw [hst] at HS hA;rw [if_pos rfl] at hA;subst hA;clear hst
      go_enter Tryz.func163, Tryz.ntmps163
      go_wp2_with fail
      refine HM.out.mono ?_;rintro e w1 ⟨rfl, hb⟩;dsimp only;have T1 := hideIt (T0.out.keep hb);clear hb T0 HM;have bc0 : w1.cell? ⟨w.heap.size, 0, none⟩ = some (.int .i64 t) := by rw [cell_at T1.out.box]; rfl
      have bc1 : w1.cell? ⟨w.heap.size, 1, none⟩ = some (.int .i64 v) := by rw [cell_at T1.out.box]; rfl
      have bc2 : w1.cell? ⟨w.heap.size, 2, none⟩ = some (.int .i64 r) := by rw [cell_at T1.out.box]; rfl
      have bc3 : w1.cell? ⟨w.heap.size, 3, none⟩ = some (g) := by rw [cell_at T1.out.box]; rfl
      have bf : ∀ j, w1.frozen? ⟨w.heap.size, j, none⟩ = false := fun j => free_at T1.out.box j
      go_wp2_with fail
      refine (HO.out _).mono ?_;rintro e w2 ⟨rfl, rfl⟩;dsimp only
      go_wp2_with fail
      refine (HT.out _).mono ?_;rintro e w3 ⟨rfl, rfl⟩;dsimp only;clear HO HT
      go_wp2_with fail
      refine (HH.out _ T1.out.bel).mono ?_;rintro e w4 ⟨g2, rfl, h1, h2⟩;dsimp only;obtain ⟨a2, cc, rfl⟩ := own_len h1;have T2 := hideIt (T1.out.keep h2);have HW := hideIt h1;clear h1 h2 T1 HH bc0 bc1 bc2 bc3 bf;unfold balV;have T3 := hideIt (T2.out.keep (below1 w4 (.cells #[.int .i64 V.t, .int .i64 V.v, .int .i64 V.r, .slice a2 V.l.length cc] 146)));have HX := hideIt (own_keep HW.out (below1 w4 (.cells #[.int .i64 V.t, .int .i64 V.v, .int .i64 V.r, .slice a2 V.l.length cc] 146)));have hs4 := hideIt T2.out.size;clear T2 HW
      go_wp2_with fail
      refine (HS.out _ a2 cc).mono ?_;rintro e w5 ⟨rfl, hb⟩;dsimp only;have T4 := hideIt (T3.out.keep hb);have HY := hideIt (own_keep HX.out hb);have HE := hideIt ((hb.block w4.heap.size (by simp)).trans (heap_alloc_new w4 _));have hsz : Hid (w4.heap.size < w5.heap.size) := (Array.getElem?_eq_some_iff.1 HE.out).1;clear hb T3 HX HS;have ec0 : w5.cell? ⟨w4.heap.size, 0, none⟩ = some (.int .i64 V.t) := by rw [cell_at HE.out]; rfl
      have ec1 : w5.cell? ⟨w4.heap.size, 1, none⟩ = some (.int .i64 V.v) := by rw [cell_at HE.out]; rfl
      have ec2 : w5.cell? ⟨w4.heap.size, 2, none⟩ = some (.int .i64 V.r) := by rw [cell_at HE.out]; rfl
      have ec3 : w5.cell? ⟨w4.heap.size, 3, none⟩ = some (.slice a2 V.l.length cc) := by rw [cell_at HE.out]; rfl
      have ef : ∀ j, w5.frozen? ⟨w4.heap.size, j, none⟩ = false := fun j => free_at HE.out j
      have HV2 := hideIt (HV.out w5 _ (own_got HY.out (by have := HL3.out; omega)))
      unfold balV at HV2
      go_wp2_with fail
      refine HV2.out.mono ?_;rintro e w6 ⟨g3, rfl, h1, h2⟩;dsimp only;obtain ⟨a3, c3, rfl⟩ := own_len h1;unfold balV;have T5 := hideIt (T4.out.keep h2);have HE2 := hideIt ((h2.block w4.heap.size hsz.out).trans HE.out);have HW := hideIt h1;clear h1 h2 T4 HY HE HV HV2 ec0 ec1 ec2 ec3 ef;have hne : ¬ (w4.heap.size = w.heap.size + 1) := by have := hs4.out; omega
      have hne2 : ¬ (w.heap.size + 1 = w4.heap.size) := by have := hs4.out; omega
      have ec0 : w6.cell? ⟨w4.heap.size, 0, none⟩ = some (.int .i64 V.t) := by rw [cell_at HE2.out]; rfl
      have ec1 : w6.cell? ⟨w4.heap.size, 1, none⟩ = some (.int .i64 V.v) := by rw [cell_at HE2.out]; rfl
      have ec2 : w6.cell? ⟨w4.heap.size, 2, none⟩ = some (.int .i64 V.r) := by rw [cell_at HE2.out]; rfl
      have ec3 : w6.cell? ⟨w4.heap.size, 3, none⟩ = some (.slice a2 V.l.length cc) := by rw [cell_at HE2.out]; rfl
      have ef : ∀ j, w6.frozen? ⟨w4.heap.size, j, none⟩ = false := fun j => free_at HE2.out j
      have zc0 : w6.cell? ⟨w.heap.size + 1, 0, none⟩ = some (.int .i64 0) := by rw [cell_at T5.out.res]; rfl
      have zc1 : w6.cell? ⟨w.heap.size + 1, 1, none⟩ = some (.int .i64 0) := by rw [cell_at T5.out.res]; rfl
      have zc2 : w6.cell? ⟨w.heap.size + 1, 2, none⟩ = some (.int .i64 0) := by rw [cell_at T5.out.res]; rfl
      have zc3 : w6.cell? ⟨w.heap.size + 1, 3, none⟩ = some (.slice none 0 0) := by rw [cell_at T5.out.res]; rfl
      have zf : ∀ j, w6.frozen? ⟨w.heap.size + 1, j, none⟩ = false := fun j => free_at T5.out.res j
      have HP := fin4 (w := w) (R := w4.heap.size) (.int .i64 U.t) (.int .i64 U.v) (.int .i64 U.r) (.slice a3 U.l.length c3) HE2.out (by have := hs4.out; omega) T5.out.bel
      have HQ := own4 (R := w4.heap.size) (.int .i64 U.t) (.int .i64 U.v) (.int .i64 U.r) (.slice a3 U.l.length c3) HW.out hsz.out w5.heap.size (Nat.le_refl _);have HZ : Hid (((((w6.setCell ⟨w4.heap.size, 0, none⟩ (.int .i64 U.t)).setCell ⟨w4.heap.size, 1, none⟩ (.int .i64 U.v)).setCell ⟨w4.heap.size, 2, none⟩ (.int .i64 U.r)).setCell ⟨w4.heap.size, 3, none⟩ (.slice a3 U.l.length c3)).heap[w.heap.size + 1]? = some (.cells #[.int .i64 0, .int .i64 0, .int .i64 0, .slice none 0 0] 34 (0, 0))) := setOther _ (setOther _ (setOther _ (setOther _ T5.out.res hne2) hne2) hne2) hne2;have HF := fin4 (w := w) (.int .i64 U.t) (.int .i64 U.v) (.int .i64 U.r) (.slice a3 U.l.length c3) HZ.out (by omega) HP.out.2;have HG := own4 (R := w.heap.size + 1) (.int .i64 U.t) (.int .i64 U.v) (.int .i64 U.r) (.slice a3 U.l.length c3) HQ.out (by have := hs4.out; have := hsz.out; omega) w.heap.size (by have := hs4.out; have := hsz.out; omega)
      clear T5 HW HE2 HP HQ HZ hs4 hsz HL3;go_wp2;obtain ⟨e1, e2⟩ := HF.out;have e3 := HG.out
      revert e1 e2 e3
      generalize (World.setCell _ ⟨w.heap.size + 1, 3, none⟩ _) = W;intro e1 e2 e3;exact bodyPost_ret (v := .tuple #[balV U (.slice a3 U.l.length c3), .int .i64 0]) (by simp [results, Tryz.results163, go_sem, cell_at e1, balV]) rfl ⟨_, rfl, e3, e2⟩
end Go.Proofs.YtcaehfkfohianaaGreat.Tm
