/- Texts of my own, laid together. -/
import Derived.Test.YtcaehfkfohianaaGreatZq
import Derived.Test.YtcaehfkfohianaaGreatPz06
import Derived.Shelf.LaysM
import Derived.Shelf.Strconv.Clone
import Derived.Test.YtcaehfkfohianaaGreatPz05
set_option linter.all false
namespace Go.Proofs.YtcaehfkfohianaaGreat
open Go.RowKit
def hasB (L : LogV) (i : Int) : Bool := wiB i (L.bi + 1) (lasI L)
theorem near_may {L : LogV} (h : mayB L = true) : Near L := by
 have := mayB_in h
 exact ⟨by omega, by omega, by omega⟩
set_option maxHeartbeats 16000000 in
set_option maxRecDepth 100000 in
theorem hasEntry_is (L : LogV) (g : Value) (i : Int) (w : World) (h : EGot w g L.l) (hn : Near L) : Calls Tryz.prog 84 #[logV L g, .int .i64 i] w fun e w' => e = .returned (.bool (hasB L i)) ∧ Below w.heap.size w w' := by
 have HI := hideIt (Box.first w L g);have T3 : ∀ wx, Box w w.heap.size L g wx → Calls Tryz.prog 124 #[logV L g] wx fun e w' => e = .returned (.int .i64 (lasI L)) ∧ Hid (Box w w.heap.size L g w') ∧ w'.cell? ⟨w.heap.size, 0, none⟩ = some (.int .i64 L.bi) ∧ w'.cell? ⟨w.heap.size, 1, none⟩ = some (.int .i64 L.bt) ∧ w'.cell? ⟨w.heap.size, 2, none⟩ = some g ∧ w'.cell? ⟨w.heap.size, 3, none⟩ = some (.int .i64 L.cm) := by
  intro wx hx;refine (lastIndex_is L g wx (h.keep hx.bel) hn).mono ?_;rintro e w' ⟨rfl, rfl⟩
  exact ⟨rfl, hideIt (hx.keep (below1 _ _)), (hx.keep (below1 _ _)).cells⟩
 have T4 : ∀ wx, Box w w.heap.size L g wx → Calls Tryz.prog 125 #[.int .i64 i, .int .i64 (L.bi + 1), .int .i64 (lasI L)] wx fun e w' => e = .returned (.bool (wiB i (L.bi + 1) (lasI L))) ∧ Hid (Box w w.heap.size L g w') ∧ w'.cell? ⟨w.heap.size, 0, none⟩ = some (.int .i64 L.bi) ∧ w'.cell? ⟨w.heap.size, 1, none⟩ = some (.int .i64 L.bt) ∧ w'.cell? ⟨w.heap.size, 2, none⟩ = some g ∧ w'.cell? ⟨w.heap.size, 3, none⟩ = some (.int .i64 L.cm) := by
  intro wx hx;refine (within_is i (L.bi + 1) (lasI L) wx).mono ?_;rintro e w' ⟨rfl, rfl⟩
  exact ⟨rfl, hideIt hx, hx.cells⟩
 have H3 := hideIt T3;have H4 := hideIt T4;clear T3 T4;obtain ⟨a, c, rfl, h8, _⟩ := h.open;unfold hasB;unfold logV logA at *;generalize lasI L = li at *;obtain ⟨bi, bt, l, cm⟩ := L;obtain ⟨n1, n2, n3⟩ := hn;simp only at H3 H4 HI h8 n1 n2 n3 ⊢;clear h;generalize wiB i (bi + 1) li = b4 at *;have hw : IntKind.i64.wrap (bi + 1) = bi + 1 := by
  rw [IntKind.wrap_i64];omega
 go_enter Tryz.func84, Tryz.ntmps84
 go_upto_region 1 with fail
 refine wp_region_held_drew (S := fun w' => w'.cell? ⟨w.heap.size, 0, none⟩ = some (.int .i64 bi) ∧ w'.cell? ⟨w.heap.size, 1, none⟩ = some (.int .i64 bt) ∧ w'.cell? ⟨w.heap.size, 2, none⟩ = some (.slice a l.length c) ∧ w'.cell? ⟨w.heap.size, 3, none⟩ = some (.int .i64 cm)) (by kernel_rfl) HI.out.drew.cells (fun hHeld => ?_);refine wpAnyH_take (i := 0) (oi := ⟨some 5, _, _, _, _, _⟩) (v := ?_) rfl (by kernel_rfl) (by kernel_rfl) (by kernel_rfl) (fun _ _ _ h => h) (Or.inl ⟨by rfl, ?_⟩) (by assumption) ?_
 rotate_left
 ·intro w5 hSw
  (try dsimp only at hSw)
  go_simp
  (try with_reducible rfl)
 try simp only [aP, aQ, aA, aB, aC]
 refine wpAnyH_take (i := 1) (oi := ⟨some 6, _, _, _, _, _⟩) (v := ?_) rfl (by kernel_rfl) (by kernel_rfl) (by kernel_rfl) (fun _ _ _ h => h) (Or.inl ⟨by rfl, ?_⟩) (by assumption) ?_
 rotate_left
 ·intro w5 hSw
  (try dsimp only at hSw)
  go_simp
  (try with_reducible rfl)
 try simp only [aP, aQ, aA, aB, aC]
 refine wpAnyH_take (i := 2) (oi := ⟨some 7, _, _, _, _, _⟩) (v := ?_) rfl (by kernel_rfl) (by kernel_rfl) (by kernel_rfl) (fun _ _ _ h => h) (Or.inl ⟨by rfl, ?_⟩) (by assumption) ?_
 rotate_left
 ·intro w5 hSw
  (try dsimp only at hSw)
  go_simp
  (try with_reducible rfl)
 try simp only [aP, aQ, aA, aB, aC]
 refine wpAnyH_take (i := 3) (oi := ⟨some 8, _, _, _, _, _⟩) (v := ?_) rfl (by kernel_rfl) (by kernel_rfl) (by kernel_rfl) (fun _ _ _ h => h) (Or.inl ⟨by rfl, ?_⟩) (by assumption) ?_
 rotate_left
 ·intro w5 hSw
  (try dsimp only at hSw)
  go_simp
  (try with_reducible rfl)
 try simp only [aP, aQ, aA, aB, aC]
 refine wpAnyH_take (i := 4) (oi := ⟨some 9, _, _, _, _, _⟩) (v := ?_) rfl (by kernel_rfl) (by kernel_rfl) (by kernel_rfl) (fun _ _ _ h => h) (Or.inl ⟨by rfl, ?_⟩) (by assumption) ?_
 rotate_left
 ·intro w5 hSw
  (try dsimp only at hSw)
  go_simp
  (try with_reducible rfl)
 try simp only [aP, aQ, aA, aB, aC]
 refine wpAnyH_take (i := 5) (oi := ⟨some 10, _, _, _, _, _⟩) (v := ?_) rfl (by kernel_rfl) (by kernel_rfl) (by kernel_rfl) (fun _ _ _ h => h) (Or.inl ⟨by rfl, ?_⟩) (by assumption) ?_
 rotate_left
 ·intro w5 hSw
  (try dsimp only at hSw)
  go_simp
  (try with_reducible rfl)
 try simp only [aP, aQ, aA, aB, aC]
 refine wpAnyH_ready (rs := [6]) (by kernel_rfl) (by simp) ?_;refine AllReadyH.cons (o := ⟨some 11, _, _, _, _, _⟩) rfl (fun K hK => ?_) AllReadyH.nil;go_simp
 go_at_call 124
 refine (H3.out _ (by first | exact HI.out | exact HI.out.drew)).mono ?_;clear HI;rintro e w1 ⟨rfl, HI, j0, j1, j2, j3⟩;refine hK.out _ _ ⟨j0, j1, j2, j3⟩ (fun hHeld => ?_);clear hK K
 try simp only [aP, aQ, aA, aB, aC]
 refine wpAnyH_ready (rs := [7]) (by kernel_rfl) (by simp) ?_;refine AllReadyH.cons (o := ⟨some 12, _, _, _, _, _⟩) rfl (fun K hK => ?_) AllReadyH.nil;go_simp
 go_at_call 125
 refine (H4.out _ (by first | exact HI.out | exact HI.out.drew)).mono ?_;clear HI;rintro e w1 ⟨rfl, HI, j0, j1, j2, j3⟩;refine hK.out _ _ ⟨j0, j1, j2, j3⟩ (fun hHeld => ?_);clear hK K
 try simp only [aP, aQ, aA, aB, aC]
 refine wpAnyH_take (i := 8) (oi := ⟨some 4, _, _, _, _, _⟩) (v := ?_) rfl (by kernel_rfl) (by kernel_rfl) (by kernel_rfl) (fun _ _ _ h => h) (Or.inl ⟨by rfl, ?_⟩) (by assumption) ?_
 rotate_left
 ·intro w5 hSw
  (try dsimp only at hSw)
  go_simp
  (try with_reducible rfl)
 try simp only [aP, aQ, aA, aB, aC]
 refine wpAnyH_done (by kernel_rfl) ?_ _;go_wp2;go_ret
 exact ⟨rfl, HI.out.bel⟩
def markL (L : LogV) (i : Int) : (Int × Int) × Bool :=
 if i = L.bi then ((L.bi, L.bt), true) else if hasB L i then ((i, (L.l.getD (i - L.bi - 1).toNat noE).term), true) else ((0, 0), false)
theorem put2 (wc : World) (b : Nat) (ty : TypeId) (v0 v1 : Value) {z0 z1 : Value} (h : wc.heap[b]? = some (.cells #[z0, z1] ty (0, 0))) :
  ((wc.setCell ⟨b, 0, none⟩ v0).setCell ⟨b, 1, none⟩ v1).heap[b]? = some (.cells #[v0, v1] ty (0, 0)) := by
 have h0 := heap_set h 0 v0;exact heap_set h0 1 v1
structure Two (w : World) (L : LogV) (g : Value) (wx : World) : Prop where
 box : wx.heap[w.heap.size]? = some (.cells (logA L g) 36 (0, 0))
 res : wx.heap[w.heap.size + 1]? = some (.cells #[.int .i64 0, .int .i64 0] 25 (0, 0))
 bel : Below w.heap.size w wx
theorem Two.first (w : World) (L : LogV) (g : Value) : Two w L g ((w.alloc (.cells (logA L g) 36)).alloc (.cells #[.int .i64 0, .int .i64 0] 25)) := by
 have ht := two_heap w (.cells (logA L g) 36) (.cells #[.int .i64 0, .int .i64 0] 25)
 exact ⟨ht.1, ht.2.1, below2 w _ _⟩
theorem Two.size {w wx : World} {L : LogV} {g : Value} (h : Two w L g wx) : w.heap.size + 2 ≤ wx.heap.size := (Array.getElem?_eq_some_iff.1 h.res).1
theorem Two.keep {w wx wy : World} {L : LogV} {g : Value} (h : Two w L g wx) (hb : Below wx.heap.size wx wy) : Two w L g wy := by
 have := h.size
 exact ⟨(hb.block _ (by omega)).trans h.box, (hb.block _ (by omega)).trans h.res, below_via h.bel hb⟩
theorem Two.cells {w wx : World} {L : LogV} {g : Value} (h : Two w L g wx) : wx.cell? ⟨w.heap.size, 0, none⟩ = some (.int .i64 L.bi) ∧ wx.cell? ⟨w.heap.size, 1, none⟩ = some (.int .i64 L.bt) ∧ wx.cell? ⟨w.heap.size, 2, none⟩ = some g ∧ wx.cell? ⟨w.heap.size, 3, none⟩ = some (.int .i64 L.cm) ∧ wx.cell? ⟨w.heap.size + 1, 0, none⟩ = some (.int .i64 0) ∧ wx.cell? ⟨w.heap.size + 1, 1, none⟩ = some (.int .i64 0) ∧ ∀ j, wx.frozen? ⟨w.heap.size + 1, j, none⟩ = false :=
 ⟨by rw [cell_at h.box]; rfl, by rw [cell_at h.box]; rfl, by rw [cell_at h.box]; rfl, by rw [cell_at h.box]; rfl, by rw [cell_at h.res]; rfl, by rw [cell_at h.res]; rfl, fun j => free_at h.res j⟩
theorem Two.put {w wx : World} {L : LogV} {g : Value} (h : Two w L g wx) (v0 v1 : Value) : Hid (((wx.setCell ⟨w.heap.size + 1, 0, none⟩ v0).setCell ⟨w.heap.size + 1, 1, none⟩ v1).heap[w.heap.size + 1]? = some (.cells #[v0, v1] 25 (0, 0)) ∧ Below w.heap.size w ((wx.setCell ⟨w.heap.size + 1, 0, none⟩ v0).setCell ⟨w.heap.size + 1, 1, none⟩ v1)) :=
 ⟨put2 _ _ 25 _ _ h.res, belowSet _ (belowSet _ h.bel (by omega)) (by omega)⟩
def MarkBack (x : (Int × Int) × Bool) (w : World) (e : Ending) (w' : World) : Prop := e = .returned (.tuple #[.agg #[.int .i64 x.1.1, .int .i64 x.1.2], .bool x.2]) ∧ Below w.heap.size w w'
set_option maxHeartbeats 16000000 in
set_option maxRecDepth 100000 in
theorem markAt_is (L : LogV) (g : Value) (i : Int) (w : World) (h : EGot w g L.l) (hn : Near L) : Calls Tryz.prog 152 #[logV L g, .int .i64 i] w (MarkBack (markL L i) w) := by
 have T0 := hideIt (Two.first w L g);have H1 := hideIt (hasEntry_is L g i _ (h.keep T0.out.bel) hn);unfold MarkBack markL;have hh := hideIt h;have hnn := hideIt hn;obtain ⟨a, c, rfl, h8, _⟩ := h.open;have HB : Hid (hasB L i = decide (L.bi + 1 ≤ i ∧ i ≤ lasI L)) := rfl;clear h hn;unfold logV logA at *;obtain ⟨bi, bt, l, cm⟩ := L;obtain ⟨n1, n2, n3⟩ := hnn.out;simp only at H1 h8 n1 n2 n3 HB T0 ⊢
 by_cases hi : i = bi
 ·subst hi;rw [if_pos rfl]
  go_enter Tryz.func152, Tryz.ntmps152
  go_upto_region 1 with fail
  generalize ((w.alloc (.cells #[.int .i64 i, .int .i64 bt, .slice a l.length c, .int .i64 cm] 36)).alloc (.cells #[.int .i64 0, .int .i64 0] 25)) = X at *;obtain ⟨c0, c1, c2, c3, z0, z1, zf⟩ := T0.out.cells;have HP := T0.out.put (.int .i64 i) (.int .i64 bt);simp only at c0 c1;clear T0 H1 HB hh hnn;obtain ⟨e1, e2⟩ := HP.out;clear HP;go_wp2
  revert e1 e2
  generalize (World.setCell _ ⟨w.heap.size + 1, 1, none⟩ _) = W;intro e1 e2;exact bodyPost_ret (v := .tuple #[.agg #[.int .i64 i, .int .i64 bt], .bool true]) (by simp [results, Tryz.results152, go_sem, cell_at e1]) rfl ⟨by rfl, e2⟩
 ·have hib : (i == bi) = false := beq_eq_false_iff_ne.2 hi;rw [if_neg hi];cases hb : hasB ⟨bi, bt, l, cm⟩ i
  ·rw [hb] at H1;simp only [Bool.false_eq_true, if_false]
   go_enter Tryz.func152, Tryz.ntmps152
   go_wp2_with fail
   refine H1.out.mono ?_;rintro e w1 ⟨rfl, hbl⟩;dsimp only;have T1 := hideIt (T0.out.keep hbl);obtain ⟨c0, c1, c2, c3, z0, z1, zf⟩ := T1.out.cells;have HP := T1.out.put (.int .i64 0) (.int .i64 0);clear T0 T1 H1 hbl;obtain ⟨e1, e2⟩ := HP.out;clear HP;go_wp2
   revert e1 e2
   generalize (World.setCell _ ⟨w.heap.size + 1, 1, none⟩ _) = W;intro e1 e2;exact bodyPost_ret (v := .tuple #[.agg #[.int .i64 0, .int .i64 0], .bool false]) (by simp [results, Tryz.results152, go_sem, cell_at e1]) rfl ⟨by rfl, e2⟩
  ·rw [hb] at H1;have hin := HB.out;rw [hb, eq_comm, decide_eq_true_eq] at hin;unfold lasI at hin;simp only at hin;obtain ⟨k, hk⟩ : ∃ k : Nat, i - bi - 1 = (k : Int) := Int.eq_ofNat_of_zero_le (by omega);have hkl : k < l.length := by omega
   have k0 : (0 : Int) ≤ (k : Int) := by omega
   have k1 : (k : Int) < (l.length : Int) := by omega
   obtain ⟨et, HE⟩ : ∃ et, Hid (l[k].term = et) := ⟨_, hideIt rfl⟩;simp only [if_true, hk, Int.toNat_natCast, List.getD, List.getElem?_eq_getElem hkl, Option.getD_some, HE.out]
   go_enter Tryz.func152, Tryz.ntmps152
   go_wp2_with fail
   refine H1.out.mono ?_;rintro e w1 ⟨rfl, hbl⟩;dsimp only;have T1 := hideIt (T0.out.keep hbl);have E1 := hh.out.keep T1.out.bel;obtain ⟨a2, c2', e2, _, hr⟩ := E1.open;simp only [Value.slice.injEq] at e2;obtain ⟨rfl, _, rfl⟩ := e2;obtain ⟨b, off, rfl, hbl2, q0, _, _⟩ := hr k hkl;have HP := T1.out.put (.int .i64 i) (.int .i64 et);obtain ⟨c0, c1, c2, c3, z0, z1, zf⟩ := T1.out.cells;simp only at c0 q0 HP;rw [HE.out] at q0;clear E1 hr T0 T1 H1 HE HB hh hnn hbl hb;obtain ⟨e1, e2⟩ := HP.out;clear HP;go_wp2
   revert e1 e2
   generalize (World.setCell _ ⟨w.heap.size + 1, 1, none⟩ _) = W;intro e1 e2;exact bodyPost_ret (v := .tuple #[.agg #[.int .i64 i, .int .i64 et], .bool true]) (by simp [results, Tryz.results152, go_sem, cell_at e1]) rfl ⟨by rfl, e2⟩
def chkI (L : LogV) : Int := if mayB L then 0 else 80
set_option maxHeartbeats 4000000 in
theorem check_is (L : LogV) (g : Value) (w : World) (h : EGot w g L.l) : Calls Tryz.prog 47 #[logV L g] w fun e w' => e = .returned (.int .i64 (chkI L)) ∧ Below w.heap.size w w' := by
 have H1 := hideIt (mayBe_is L g _ (h.keep (below1 w (.cells (logA L g) 36))));have HB := hideIt (below1 w (.cells (logA L g) 36));obtain ⟨a, c, rfl, _⟩ := h.open;unfold chkI;unfold logV logA at *;obtain ⟨bi, bt, l, cm⟩ := L;simp only at H1 HB ⊢;clear h;cases hb : mayB ⟨bi, bt, l, cm⟩
 ·rw [hb] at H1;simp only [Bool.false_eq_true, if_false]
  go_enter Tryz.func47, Tryz.ntmps47
  go_wp2_with fail
  refine H1.out.mono ?_;rintro e w1 ⟨rfl, hbl⟩;dsimp only;have HB2 := hideIt (below_via HB.out hbl);clear hbl;go_wp2;go_ret
  exact ⟨rfl, HB2.out⟩
 ·rw [hb] at H1;simp only [if_true]
  go_enter Tryz.func47, Tryz.ntmps47
  go_wp2_with fail
  refine H1.out.mono ?_;rintro e w1 ⟨rfl, hbl⟩;dsimp only;have HB2 := hideIt (below_via HB.out hbl);clear hbl;go_wp2;go_ret
  exact ⟨rfl, HB2.out⟩
def termL (L : LogV) (i : Int) : Int × Bool := if mayB L then ((markL L i).1.2, (markL L i).2) else (0, false)
set_option maxHeartbeats 4000000 in
theorem termAt_is (L : LogV) (g : Value) (i : Int) (w : World) (h : EGot w g L.l) : Calls Tryz.prog 132 #[logV L g, .int .i64 i] w fun e w' => e = .returned (.tuple #[.int .i64 (termL L i).1, .bool (termL L i).2]) ∧ Below w.heap.size w w' := by
 have H1 := hideIt (mayBe_is L g _ (h.keep (below1 w (.cells (logA L g) 36))));have HI := hideIt (Box.first w L g);have H2 := hideIt (fun wx (hx : Below w.heap.size w wx) (hm : mayB L = true) => markAt_is L g i wx (h.keep hx) (near_may hm));obtain ⟨a, c, rfl, _⟩ := h.open;unfold termL;unfold logV logA MarkBack at *;generalize markL L i = mk at *;obtain ⟨⟨mi, mt⟩, mo⟩ := mk;obtain ⟨bi, bt, l, cm⟩ := L;simp only at H1 H2 HI ⊢;clear h;cases hb : mayB ⟨bi, bt, l, cm⟩
 ·rw [hb] at H1;simp only [Bool.false_eq_true, if_false]
  go_enter Tryz.func132, Tryz.ntmps132
  go_wp2_with fail
  refine H1.out.mono ?_;rintro e w1 ⟨rfl, hbl⟩;dsimp only;have HB2 := hideIt (below_via HI.out.bel hbl);clear hbl H2;go_wp2;exact bodyPost_ret (v := .tuple #[.int .i64 0, .bool false]) (by simp [results, Tryz.results132, go_sem]) rfl ⟨rfl, HB2.out⟩
 ·rw [hb] at H1;simp only [if_true];have H3 := hideIt (fun wx hx => H2.out wx hx hb);clear H2 hb
  go_enter Tryz.func132, Tryz.ntmps132
  go_wp2_with fail
  refine H1.out.mono ?_;rintro e w1 ⟨rfl, hbl⟩;dsimp only;have HI1 := hideIt (HI.out.keep hbl);obtain ⟨c0, c1, c2, c3⟩ := HI1.out.cells;clear hbl HI;simp only at c0 c1 c2 c3
  go_wp2_with fail
  refine (H3.out _ HI1.out.bel).mono ?_;rintro e w2 ⟨rfl, hbl⟩;dsimp only;have HB2 := hideIt (below_via (below_via HI1.out.bel hbl) (below1 w2 (.cells #[.int .i64 mi, .int .i64 mt] 25)));clear hbl c0 c1 c2 c3 H3;go_wp2;exact bodyPost_ret (v := .tuple #[.int .i64 mt, .bool mo]) (by simp [results, Tryz.results132, go_sem]) rfl ⟨rfl, HB2.out⟩
def lasM (L : LogV) : Int × Int := (markL L (lasI L)).1
theorem Two.drew {w wx : World} {L : LogV} {g : Value} (h : Two w L g wx) : Two w L g wx.drew := ⟨h.box, h.res, h.bel.drew⟩
theorem Two.four {w wx : World} {L : LogV} {g : Value} (h : Two w L g wx) : wx.cell? ⟨w.heap.size, 0, none⟩ = some (.int .i64 L.bi) ∧ wx.cell? ⟨w.heap.size, 1, none⟩ = some (.int .i64 L.bt) ∧ wx.cell? ⟨w.heap.size, 2, none⟩ = some g ∧ wx.cell? ⟨w.heap.size, 3, none⟩ = some (.int .i64 L.cm) :=
 ⟨by rw [cell_at h.box]; rfl, by rw [cell_at h.box]; rfl, by rw [cell_at h.box]; rfl, by rw [cell_at h.box]; rfl⟩
def Zer (k : Nat) (wx : World) : Prop := wx.heap[k]? = some (.cells #[.int .i64 0, .int .i64 0] 25 (0, 0))
theorem Zer.keep {k : Nat} {wx wy : World} (h : Zer k wx) (hb : Below wx.heap.size wx wy) : Zer k wy := (hb.block _ (Array.getElem?_eq_some_iff.1 h).1).trans h
theorem Two.other {w wx : World} {L : LogV} {g : Value} (h : Two w L g wx) {k : Nat} (hk : w.heap.size + 2 ≤ k) (v0 v1 : Value) : Two w L g ((wx.setCell ⟨k, 0, none⟩ v0).setCell ⟨k, 1, none⟩ v1) :=
 ⟨setOther _ (setOther _ h.box (by omega)) (by omega), setOther _ (setOther _ h.res (by omega)) (by omega), belowSet _ (belowSet _ h.bel (by omega)) (by omega)⟩
set_option maxHeartbeats 16000000 in
set_option maxRecDepth 100000 in
theorem lastMark_is (L : LogV) (g : Value) (w : World) (h : EGot w g L.l) (hn : Near L) : Calls Tryz.prog 126 #[logV L g] w fun e w' => e = .returned (.agg #[.int .i64 (lasM L).1, .int .i64 (lasM L).2]) ∧ Below w.heap.size w w' := by
 have T0 := hideIt (Two.first w L g);have HE := hideIt (fun wx (hx : Two w L g wx) => (lastIndex_is L g wx (h.keep hx.bel) hn).mono (R' := fun e w' => e = .returned (.int .i64 (lasI L)) ∧ Below wx.heap.size wx w') (by rintro e w' ⟨rfl, rfl⟩; exact ⟨rfl, below1 _ _⟩))
 have HM := hideIt (fun wx (hx : Two w L g wx) => markAt_is L g (lasI L) wx (h.keep hx.bel) hn);unfold lasM;unfold MarkBack at HM;obtain ⟨a, c, rfl⟩ : ∃ a c, g = .slice a L.l.length c := by
  obtain ⟨a, c, e, _⟩ := h.open
  exact ⟨a, c, e⟩
 generalize markL L (lasI L) = mk at *;obtain ⟨⟨mi, mt⟩, mo⟩ := mk;generalize lasI L = li at *;unfold logV logA at *;obtain ⟨bi, bt, l, cm⟩ := L;simp only at HE HM T0 ⊢;clear h hn
 go_enter Tryz.func126, Tryz.ntmps126
 go_upto_region 1 with fail
 have T1 := hideIt T0.out.drew;refine wp_region_held_drew (S := fun w' => w'.cell? ⟨w.heap.size, 0, none⟩ = some (.int .i64 bi) ∧ w'.cell? ⟨w.heap.size, 1, none⟩ = some (.int .i64 bt) ∧ w'.cell? ⟨w.heap.size, 2, none⟩ = some (.slice a l.length c) ∧ w'.cell? ⟨w.heap.size, 3, none⟩ = some (.int .i64 cm)) (by kernel_rfl) T1.out.four (fun hHeld => ?_);refine wpAnyH_take (i := 0) (oi := ⟨some 6, _, _, _, _, _⟩) (v := ?_) rfl (by kernel_rfl) (by kernel_rfl) (by kernel_rfl) (fun _ _ _ h => h) (Or.inl ⟨by rfl, ?_⟩) (by assumption) ?_
 rotate_left
 ·intro w5 hSw
  (try dsimp only at hSw)
  go_simp
  (try with_reducible rfl)
 try simp only [aP, aQ, aA, aB, aC]
 refine wpAnyH_take (i := 1) (oi := ⟨some 7, _, _, _, _, _⟩) (v := ?_) rfl (by kernel_rfl) (by kernel_rfl) (by kernel_rfl) (fun _ _ _ h => h) (Or.inl ⟨by rfl, ?_⟩) (by assumption) ?_
 rotate_left
 ·intro w5 hSw
  (try dsimp only at hSw)
  go_simp
  (try with_reducible rfl)
 try simp only [aP, aQ, aA, aB, aC]
 generalize ((w.alloc (.cells #[.int .i64 bi, .int .i64 bt, .slice a l.length c, .int .i64 cm] 36)).alloc (.cells #[.int .i64 0, .int .i64 0] 25)).drew = X at *;clear T0;refine wpAnyH_ready (rs := [2, 7]) (by kernel_rfl) (by simp) ?_;refine AllReadyH.cons (o := ⟨some 8, _, _, _, _, _⟩) rfl (fun K hK => ?_) ?_
 ·go_simp
  go_at_call 124
  refine (HE.out _ T1.out).mono ?_;rintro e w1 ⟨rfl, hbl⟩;have T2 := hideIt (T1.out.keep hbl);refine hK.out _ _ T2.out.four (fun hHeld => ?_);clear hK K
  try simp only [aP, aQ, aA, aB, aC]
  refine wpAnyH_ready (rs := [3, 7]) (by kernel_rfl) (by simp) ?_;refine AllReadyH.cons (o := ⟨some 9, _, _, _, _, _⟩) rfl (fun K hK => ?_) ?_
  ·go_simp
   go_at_call 152
   refine (HM.out _ T2.out).mono ?_;rintro e w2 ⟨rfl, hbl⟩;have T3 := hideIt (T2.out.keep hbl);refine hK.out _ _ T3.out.four (fun hHeld => ?_);clear hK K
   try simp only [aP, aQ, aA, aB, aC]
   clear hbl;refine wpAnyH_take (i := 4) (oi := ⟨some 5, _, _, _, _, _⟩) (v := ?_) rfl (by kernel_rfl) (by kernel_rfl) (by kernel_rfl) (fun _ _ _ h => h) (Or.inl ⟨by rfl, ?_⟩) (by assumption) ?_
   rotate_left
   ·intro w5 hSw
    (try dsimp only at hSw)
    go_simp
    (try with_reducible rfl)
   try simp only [aP, aQ, aA, aB, aC]
   refine wpAnyH_take (i := 5) (oi := ⟨some 10, _, _, _, _, _⟩) (v := ?_) rfl (by kernel_rfl) (by kernel_rfl) (by kernel_rfl) (fun _ _ _ h => h) (Or.inl ⟨by rfl, ?_⟩) (by assumption) ?_
   rotate_left
   ·intro w5 hSw
    (try dsimp only at hSw)
    go_simp
    (try with_reducible rfl)
   try simp only [aP, aQ, aA, aB, aC]
   refine wpAnyH_take (i := 6) (oi := ⟨some 11, _, _, _, _, _⟩) (v := ?_) rfl (by kernel_rfl) (by kernel_rfl) (by kernel_rfl) (fun _ _ _ h => h) (Or.inl ⟨by rfl, ?_⟩) (by assumption) ?_
   rotate_left
   ·intro w5 hSw
    (try dsimp only at hSw)
    go_simp
    (try with_reducible rfl)
   try simp only [aP, aQ, aA, aB, aC]
   refine wpAnyH_ready (rs := [7]) (by kernel_rfl) (by simp) ?_;refine AllReadyH.cons (o := ⟨some 3, _, _, _, _, _⟩) rfl (fun K hK => ?_) AllReadyH.nil;go_simp;have T4 := hideIt (T3.out.keep (below1 w2 (.cells #[.int .i64 0, .int .i64 0] 25)));have Z4 : Hid (Zer (w2).heap.size ((w2).alloc (.cells #[.int .i64 0, .int .i64 0] 25)) ∧ w.heap.size + 2 ≤ (w2).heap.size) := ⟨heap_alloc_new _ _, T3.out.size⟩;refine hK.out _ _ T4.out.four (fun hHeld => ?_);clear hK K;generalize (w2).alloc (.cells #[.int .i64 0, .int .i64 0] 25) = w3 at *;generalize (w2).heap.size = kb at *
   try simp only [aP, aQ, aA, aB, aC]
   have z0 : (w3).cell? ⟨kb, 0, none⟩ = some (.int .i64 0) := by rw [cell_at Z4.out.1]; rfl
   have z1 : (w3).cell? ⟨kb, 1, none⟩ = some (.int .i64 0) := by rw [cell_at Z4.out.1]; rfl
   have zf : ∀ j, (w3).frozen? ⟨kb, j, none⟩ = false := fun j => free_at Z4.out.1 j
   have TE := hideIt (T4.out.other Z4.out.2 (.int .i64 mi) (.int .i64 mt));have KE := hideIt (put2 w3 kb 25 (.int .i64 mi) (.int .i64 mt) Z4.out.1);refine wpAnyH_ready (rs := [8]) (by kernel_rfl) (by simp) ?_;refine AllReadyH.cons (o := ⟨none, _, _, _, _, _⟩) rfl (fun K hK => ?_) AllReadyH.nil;go_simp;refine hK.out _ _ TE.out.four (fun hHeld => ?_);clear hK K z0 z1 zf;generalize ((w3).setCell ⟨kb, 0, none⟩ (.int .i64 mi)).setCell ⟨kb, 1, none⟩ (.int .i64 mt) = WE at *
   try simp only [aP, aQ, aA, aB, aC]
   refine wpAnyH_take (i := 9) (oi := ⟨some 4, _, _, _, _, _⟩) (v := ?_) rfl (by kernel_rfl) (by kernel_rfl) (by kernel_rfl) (fun _ _ _ h => h) (Or.inl ⟨by rfl, ?_⟩) (by assumption) ?_
   rotate_left
   ·intro w5 hSw
    (try dsimp only at hSw)
    go_simp
    (try with_reducible rfl)
   try simp only [aP, aQ, aA, aB, aC]
   refine wpAnyH_done (by kernel_rfl) ?_ _;have y0 : WE.cell? ⟨kb, 0, none⟩ = some (.int .i64 mi) := by rw [cell_at KE.out]; rfl
   have y1 : WE.cell? ⟨kb, 1, none⟩ = some (.int .i64 mt) := by rw [cell_at KE.out]; rfl
   obtain ⟨_, _, _, _, r0, r1, rf⟩ := TE.out.cells;have HP := TE.out.put (.int .i64 mi) (.int .i64 mt);clear hHeld;go_wp2;obtain ⟨e1, e2⟩ := HP.out
   revert e1 e2
   generalize (World.setCell _ ⟨w.heap.size + 1, 1, none⟩ _) = WF;intro e1 e2;exact bodyPost_ret (v := .agg #[.int .i64 mi, .int .i64 mt]) (by simp [results, Tryz.results126, go_sem, cell_at e1]) rfl ⟨rfl, e2⟩
  ·refine AllReadyH.cons (o := ⟨some 3, _, _, _, _, _⟩) rfl (fun K hK => ?_) AllReadyH.nil;go_simp;have T3 := hideIt (T2.out.keep (below1 w1 (.cells #[.int .i64 0, .int .i64 0] 25)));have Z3 : Hid (Zer (w1).heap.size ((w1).alloc (.cells #[.int .i64 0, .int .i64 0] 25)) ∧ w.heap.size + 2 ≤ (w1).heap.size) := ⟨heap_alloc_new _ _, T2.out.size⟩;refine hK.out _ _ T3.out.four (fun hHeld => ?_);clear hK K;generalize (w1).alloc (.cells #[.int .i64 0, .int .i64 0] 25) = w2 at *;generalize (w1).heap.size = kb at *
   try simp only [aP, aQ, aA, aB, aC]
   refine wpAnyH_ready (rs := [3]) (by kernel_rfl) (by simp) ?_;refine AllReadyH.cons (o := ⟨some 9, _, _, _, _, _⟩) rfl (fun K hK => ?_) AllReadyH.nil;go_simp
   go_at_call 152
   refine (HM.out _ T3.out).mono ?_;rintro e w3 ⟨rfl, hbl⟩;have T4 := hideIt (T3.out.keep hbl);refine hK.out _ _ T4.out.four (fun hHeld => ?_);clear hK K
   try simp only [aP, aQ, aA, aB, aC]
   have Z4 := hideIt (And.intro (Z3.out.1.keep hbl) Z3.out.2);clear hbl;refine wpAnyH_take (i := 4) (oi := ⟨some 5, _, _, _, _, _⟩) (v := ?_) rfl (by kernel_rfl) (by kernel_rfl) (by kernel_rfl) (fun _ _ _ h => h) (Or.inl ⟨by rfl, ?_⟩) (by assumption) ?_
   rotate_left
   ·intro w5 hSw
    (try dsimp only at hSw)
    go_simp
    (try with_reducible rfl)
   try simp only [aP, aQ, aA, aB, aC]
   refine wpAnyH_take (i := 5) (oi := ⟨some 10, _, _, _, _, _⟩) (v := ?_) rfl (by kernel_rfl) (by kernel_rfl) (by kernel_rfl) (fun _ _ _ h => h) (Or.inl ⟨by rfl, ?_⟩) (by assumption) ?_
   rotate_left
   ·intro w5 hSw
    (try dsimp only at hSw)
    go_simp
    (try with_reducible rfl)
   try simp only [aP, aQ, aA, aB, aC]
   refine wpAnyH_take (i := 6) (oi := ⟨some 11, _, _, _, _, _⟩) (v := ?_) rfl (by kernel_rfl) (by kernel_rfl) (by kernel_rfl) (fun _ _ _ h => h) (Or.inl ⟨by rfl, ?_⟩) (by assumption) ?_
   rotate_left
   ·intro w5 hSw
    (try dsimp only at hSw)
    go_simp
    (try with_reducible rfl)
   try simp only [aP, aQ, aA, aB, aC]
   have z0 : (w3).cell? ⟨kb, 0, none⟩ = some (.int .i64 0) := by rw [cell_at Z4.out.1]; rfl
   have z1 : (w3).cell? ⟨kb, 1, none⟩ = some (.int .i64 0) := by rw [cell_at Z4.out.1]; rfl
   have zf : ∀ j, (w3).frozen? ⟨kb, j, none⟩ = false := fun j => free_at Z4.out.1 j
   have TE := hideIt (T4.out.other Z4.out.2 (.int .i64 mi) (.int .i64 mt));have KE := hideIt (put2 w3 kb 25 (.int .i64 mi) (.int .i64 mt) Z4.out.1);refine wpAnyH_ready (rs := [8]) (by kernel_rfl) (by simp) ?_;refine AllReadyH.cons (o := ⟨none, _, _, _, _, _⟩) rfl (fun K hK => ?_) AllReadyH.nil;go_simp;refine hK.out _ _ TE.out.four (fun hHeld => ?_);clear hK K z0 z1 zf;generalize ((w3).setCell ⟨kb, 0, none⟩ (.int .i64 mi)).setCell ⟨kb, 1, none⟩ (.int .i64 mt) = WE at *
   try simp only [aP, aQ, aA, aB, aC]
   refine wpAnyH_take (i := 9) (oi := ⟨some 4, _, _, _, _, _⟩) (v := ?_) rfl (by kernel_rfl) (by kernel_rfl) (by kernel_rfl) (fun _ _ _ h => h) (Or.inl ⟨by rfl, ?_⟩) (by assumption) ?_
   rotate_left
   ·intro w5 hSw
    (try dsimp only at hSw)
    go_simp
    (try with_reducible rfl)
   try simp only [aP, aQ, aA, aB, aC]
   refine wpAnyH_done (by kernel_rfl) ?_ _;have y0 : WE.cell? ⟨kb, 0, none⟩ = some (.int .i64 mi) := by rw [cell_at KE.out]; rfl
   have y1 : WE.cell? ⟨kb, 1, none⟩ = some (.int .i64 mt) := by rw [cell_at KE.out]; rfl
   obtain ⟨_, _, _, _, r0, r1, rf⟩ := TE.out.cells;have HP := TE.out.put (.int .i64 mi) (.int .i64 mt);clear hHeld;go_wp2;obtain ⟨e1, e2⟩ := HP.out
   revert e1 e2
   generalize (World.setCell _ ⟨w.heap.size + 1, 1, none⟩ _) = WF;intro e1 e2;exact bodyPost_ret (v := .agg #[.int .i64 mi, .int .i64 mt]) (by simp [results, Tryz.results126, go_sem, cell_at e1]) rfl ⟨rfl, e2⟩
 ·refine AllReadyH.cons (o := ⟨some 3, _, _, _, _, _⟩) rfl (fun K hK => ?_) AllReadyH.nil;go_simp;have T2 := hideIt (T1.out.keep (below1 X (.cells #[.int .i64 0, .int .i64 0] 25)));have Z2 : Hid (Zer (X).heap.size ((X).alloc (.cells #[.int .i64 0, .int .i64 0] 25)) ∧ w.heap.size + 2 ≤ (X).heap.size) := ⟨heap_alloc_new _ _, T1.out.size⟩;refine hK.out _ _ T2.out.four (fun hHeld => ?_);clear hK K;generalize (X).alloc (.cells #[.int .i64 0, .int .i64 0] 25) = w1 at *;generalize (X).heap.size = kb at *
  try simp only [aP, aQ, aA, aB, aC]
  refine wpAnyH_ready (rs := [2]) (by kernel_rfl) (by simp) ?_;refine AllReadyH.cons (o := ⟨some 8, _, _, _, _, _⟩) rfl (fun K hK => ?_) AllReadyH.nil;go_simp
  go_at_call 124
  refine (HE.out _ T2.out).mono ?_;rintro e w2 ⟨rfl, hbl⟩;have T3 := hideIt (T2.out.keep hbl);refine hK.out _ _ T3.out.four (fun hHeld => ?_);clear hK K
  try simp only [aP, aQ, aA, aB, aC]
  have Z3 := hideIt (And.intro (Z2.out.1.keep hbl) Z2.out.2);clear hbl;refine wpAnyH_ready (rs := [3]) (by kernel_rfl) (by simp) ?_;refine AllReadyH.cons (o := ⟨some 9, _, _, _, _, _⟩) rfl (fun K hK => ?_) AllReadyH.nil;go_simp
  go_at_call 152
  refine (HM.out _ T3.out).mono ?_;rintro e w3 ⟨rfl, hbl⟩;have T4 := hideIt (T3.out.keep hbl);refine hK.out _ _ T4.out.four (fun hHeld => ?_);clear hK K
  try simp only [aP, aQ, aA, aB, aC]
  have Z4 := hideIt (And.intro (Z3.out.1.keep hbl) Z3.out.2);clear hbl;refine wpAnyH_take (i := 4) (oi := ⟨some 5, _, _, _, _, _⟩) (v := ?_) rfl (by kernel_rfl) (by kernel_rfl) (by kernel_rfl) (fun _ _ _ h => h) (Or.inl ⟨by rfl, ?_⟩) (by assumption) ?_
  rotate_left
  ·intro w5 hSw
   (try dsimp only at hSw)
   go_simp
   (try with_reducible rfl)
  try simp only [aP, aQ, aA, aB, aC]
  refine wpAnyH_take (i := 5) (oi := ⟨some 10, _, _, _, _, _⟩) (v := ?_) rfl (by kernel_rfl) (by kernel_rfl) (by kernel_rfl) (fun _ _ _ h => h) (Or.inl ⟨by rfl, ?_⟩) (by assumption) ?_
  rotate_left
  ·intro w5 hSw
   (try dsimp only at hSw)
   go_simp
   (try with_reducible rfl)
  try simp only [aP, aQ, aA, aB, aC]
  refine wpAnyH_take (i := 6) (oi := ⟨some 11, _, _, _, _, _⟩) (v := ?_) rfl (by kernel_rfl) (by kernel_rfl) (by kernel_rfl) (fun _ _ _ h => h) (Or.inl ⟨by rfl, ?_⟩) (by assumption) ?_
  rotate_left
  ·intro w5 hSw
   (try dsimp only at hSw)
   go_simp
   (try with_reducible rfl)
  try simp only [aP, aQ, aA, aB, aC]
  have z0 : (w3).cell? ⟨kb, 0, none⟩ = some (.int .i64 0) := by rw [cell_at Z4.out.1]; rfl
  have z1 : (w3).cell? ⟨kb, 1, none⟩ = some (.int .i64 0) := by rw [cell_at Z4.out.1]; rfl
  have zf : ∀ j, (w3).frozen? ⟨kb, j, none⟩ = false := fun j => free_at Z4.out.1 j
  have TE := hideIt (T4.out.other Z4.out.2 (.int .i64 mi) (.int .i64 mt));have KE := hideIt (put2 w3 kb 25 (.int .i64 mi) (.int .i64 mt) Z4.out.1);refine wpAnyH_ready (rs := [8]) (by kernel_rfl) (by simp) ?_;refine AllReadyH.cons (o := ⟨none, _, _, _, _, _⟩) rfl (fun K hK => ?_) AllReadyH.nil;go_simp;refine hK.out _ _ TE.out.four (fun hHeld => ?_);clear hK K z0 z1 zf;generalize ((w3).setCell ⟨kb, 0, none⟩ (.int .i64 mi)).setCell ⟨kb, 1, none⟩ (.int .i64 mt) = WE at *
  try simp only [aP, aQ, aA, aB, aC]
  refine wpAnyH_take (i := 9) (oi := ⟨some 4, _, _, _, _, _⟩) (v := ?_) rfl (by kernel_rfl) (by kernel_rfl) (by kernel_rfl) (fun _ _ _ h => h) (Or.inl ⟨by rfl, ?_⟩) (by assumption) ?_
  rotate_left
  ·intro w5 hSw
   (try dsimp only at hSw)
   go_simp
   (try with_reducible rfl)
  try simp only [aP, aQ, aA, aB, aC]
  refine wpAnyH_done (by kernel_rfl) ?_ _;have y0 : WE.cell? ⟨kb, 0, none⟩ = some (.int .i64 mi) := by rw [cell_at KE.out]; rfl
  have y1 : WE.cell? ⟨kb, 1, none⟩ = some (.int .i64 mt) := by rw [cell_at KE.out]; rfl
  obtain ⟨_, _, _, _, r0, r1, rf⟩ := TE.out.cells;have HP := TE.out.put (.int .i64 mi) (.int .i64 mt);clear hHeld;go_wp2;obtain ⟨e1, e2⟩ := HP.out
  revert e1 e2
  generalize (World.setCell _ ⟨w.heap.size + 1, 1, none⟩ _) = WF;intro e1 e2;exact bodyPost_ret (v := .agg #[.int .i64 mi, .int .i64 mt]) (by simp [results, Tryz.results126, go_sem, cell_at e1]) rfl ⟨rfl, e2⟩
def lastL (L : LogV) : Int × Int := if mayB L then lasM L else (0, 0)
set_option maxHeartbeats 4000000 in
theorem last_is (L : LogV) (g : Value) (w : World) (h : EGot w g L.l) : Calls Tryz.prog 82 #[logV L g] w fun e w' => e = .returned (.agg #[.int .i64 (lastL L).1, .int .i64 (lastL L).2]) ∧ Below w.heap.size w w' := by
 have T0 := hideIt (Two.first w L g);have H1 := hideIt (mayBe_is L g _ (h.keep T0.out.bel));have H2 := hideIt (fun wx (hx : Below w.heap.size w wx) (hm : mayB L = true) => lastMark_is L g wx (h.keep hx) (near_may hm));obtain ⟨a, c, rfl⟩ : ∃ a c, g = .slice a L.l.length c := by
  obtain ⟨a, c, e, _⟩ := h.open
  exact ⟨a, c, e⟩
 unfold lastL;unfold logV logA at *;generalize lasM L = mk at *;obtain ⟨mi, mt⟩ := mk;obtain ⟨bi, bt, l, cm⟩ := L;simp only at H1 H2 T0 ⊢;clear h;cases hb : mayB ⟨bi, bt, l, cm⟩
 ·rw [hb] at H1;simp only [Bool.false_eq_true, if_false]
  go_enter Tryz.func82, Tryz.ntmps82
  go_wp2_with fail
  refine H1.out.mono ?_;rintro e w1 ⟨rfl, hbl⟩;dsimp only;have T1 := hideIt (T0.out.keep hbl);obtain ⟨_, _, _, _, r0, r1, rf⟩ := T1.out.cells;have HP := T1.out.put (.int .i64 0) (.int .i64 0);clear hbl H2 T0;go_wp2;obtain ⟨e1, e2⟩ := HP.out
  revert e1 e2
  generalize (World.setCell _ ⟨w.heap.size + 1, 1, none⟩ _) = WF;intro e1 e2;exact bodyPost_ret (v := .agg #[.int .i64 0, .int .i64 0]) (by simp [results, Tryz.results82, go_sem, cell_at e1]) rfl ⟨rfl, e2⟩
 ·rw [hb] at H1;simp only [if_true];have H3 := hideIt (fun wx hx => H2.out wx hx hb);clear H2 hb
  go_enter Tryz.func82, Tryz.ntmps82
  go_wp2_with fail
  refine H1.out.mono ?_;rintro e w1 ⟨rfl, hbl⟩;dsimp only;have T1 := hideIt (T0.out.keep hbl);obtain ⟨c0, c1, c2, c3⟩ := T1.out.four;simp only at c0 c1 c2 c3;clear hbl T0
  go_wp2_with fail
  refine (H3.out _ T1.out.bel).mono ?_;rintro e w2 ⟨rfl, hbl⟩;dsimp only;have T2 := hideIt (T1.out.keep hbl);obtain ⟨_, _, _, _, r0, r1, rf⟩ := T2.out.cells;have HP := T2.out.put (.int .i64 mi) (.int .i64 mt);clear hbl H3 T1 c0 c1 c2 c3;go_wp2;obtain ⟨e1, e2⟩ := HP.out
  revert e1 e2
  generalize (World.setCell _ ⟨w.heap.size + 1, 1, none⟩ _) = WF;intro e1 e2;exact bodyPost_ret (v := .agg #[.int .i64 mi, .int .i64 mt]) (by simp [results, Tryz.results82, go_sem, cell_at e1]) rfl ⟨rfl, e2⟩
def zL : LogV := ⟨0, 0, [], 0⟩
def hasM (L : LogV) (i t : Int) : Bool := (markL L i).2 && ((markL L i).1.1 == i && (markL L i).1.2 == t)
theorem markL_fst {L : LogV} {i : Int} (h : (markL L i).2 = true) : (markL L i).1.1 = i ∧ L.bi ≤ i ∧ i ≤ lasI L ∨ i = L.bi := by
 unfold markL at h ⊢
 by_cases c : i = L.bi
 ·exact .inr c
 ·rw [if_neg c] at h ⊢;cases hb : hasB L i
  ·rw [hb] at h
   simp at h
  ·have : L.bi + 1 ≤ i ∧ i ≤ lasI L := of_decide_eq_true hb;exact .inl ⟨by simp, by omega, this.2⟩
theorem hasM_in {L : LogV} {i t : Int} (h : hasM L i t = true) : L.bi ≤ i ∧ i ≤ lasI L := by
 simp only [hasM, Bool.and_eq_true] at h
 rcases markL_fst h.1 with ⟨_, h1, h2⟩ | h1
 ·exact ⟨h1, h2⟩
 ·unfold lasI;omega
def passR (L : LogV) : Int → List EntV → Nat
 | _, [] => 0
 | p, e :: es => if p + 1 ≤ L.bi ∨ hasM L (p + 1) e.term = true then passR L (p + 1) es + 1 else 0
theorem passR_le (L : LogV) : ∀ (es : List EntV) (p : Int), passR L p es ≤ es.length
 | [], _ => Nat.le_refl _
 | e :: es, p => by
  rw [passR]
  split
  ·have := passR_le L es (p + 1);rw [List.length_cons];omega
  ·exact Nat.zero_le _
theorem passR_in (L : LogV) : ∀ (es : List EntV) (p : Int), p ≤ lasI L → p + passR L p es ≤ lasI L
 | [], p, h => by simpa [passR] using h
 | e :: es, p, h => by
  rw [passR]
  split
  ·rename_i hc
   have hp : p + 1 ≤ lasI L := by
    rcases hc with hc | hc
    ·unfold lasI;omega
    ·exact (hasM_in hc).2
   have := passR_in L es (p + 1) hp;omega
  ·simpa using h
theorem passR_base (L : LogV) : ∀ (es : List EntV) (p : Int), passR L p es < es.length → L.bi ≤ p + passR L p es ∨ p + passR L p es < L.bi → L.bi ≤ p + passR L p es
 | [], p, h, _ => by simp at h
 | e :: es, p, h, _ => by
  rw [passR] at h ⊢
  split at h
  ·rename_i hc
   rw [if_pos hc];rw [List.length_cons] at h;have := passR_base L es (p + 1) (by omega) (by omega);omega
  ·rename_i hc
   rw [if_neg hc];have : ¬ p + 1 ≤ L.bi := fun h => hc (.inl h)
   omega
theorem passR_drop (L : LogV) (es : List EntV) (p : Int) (t : Nat) (h : t < es.length) : passR L (p + t) (es.drop t) = if p + t + 1 ≤ L.bi ∨ hasM L (p + t + 1) (es[t]).term = true then passR L (p + t + 1) (es.drop (t + 1)) + 1 else 0 := by
 rw [List.drop_eq_getElem_cons h]
 rfl
def cutL (L : LogV) (i : Int) : LogV := ⟨L.bi, L.bt, L.l.take (i - L.bi).toNat, L.cm⟩
def putL (L : LogV) (p : Int) (es : List EntV) : LogV × Int :=
 if passR L p es = es.length then (L, 0) else if p + passR L p es < L.cm then (zL, 80) else
 if (es.getD (passR L p es) noE).term < (lasM (cutL L (p + passR L p es))).2 then (zL, 80) else
 if 400 < (cutL L (p + passR L p es)).l.length + (es.length - passR L p es) ∨ 1000000 < lasI (cutL L (p + passR L p es)) + ((es.length - passR L p es : Nat) : Int) then (zL, 2) else
 (⟨L.bi, L.bt, (cutL L (p + passR L p es)).l ++ es.drop (passR L p es), L.cm⟩, 0)
def argB (pi pt : Int) (es : List EntV) (c : Int) : Bool := mkB pi pt && wiB c 0 1000000 && rowsB es pt
def accL (L : LogV) (pi pt : Int) (es : List EntV) (c : Int) : LogV × Int × Bool × Int :=
 if mayB L = false then (zL, 0, false, 80) else if argB pi pt es c = false then (zL, 0, false, 1) else
 if L.bi ≤ pi ∧ hasM L pi pt = false then (L, 0, false, 0) else
 if (putL L pi es).2 ≠ 0 then (zL, 0, false, (putL L pi es).2) else
 (⟨(putL L pi es).1.bi, (putL L pi es).1.bt, (putL L pi es).1.l, max L.cm (min c (pi + (es.length : Int)))⟩, max (pi + (es.length : Int)) L.bi, true, 0)
theorem put_len (L : LogV) (p : Int) (es : List EntV) (h : L.l.length ≤ 400) : (putL L p es).1.l.length ≤ 400 := by
 unfold putL
 split
 ·exact h
 ·split
  ·exact Nat.zero_le _
  ·split
   ·exact Nat.zero_le _
   ·split
    ·exact Nat.zero_le _
    ·rename_i hc
     simp only [List.length_append, List.length_drop];omega
structure LM (w : World) (L : LogV) (g : Value) (i t : Int) (wx : World) : Prop where
 box : wx.heap[w.heap.size]? = some (.cells (logA L g) 36 (0, 0))
 mrk : wx.heap[w.heap.size + 1]? = some (.cells #[.int .i64 i, .int .i64 t] 25 (0, 0))
 bel : Below w.heap.size w wx
theorem LM.first (w : World) (L : LogV) (g : Value) (i t : Int) : LM w L g i t ((w.alloc (.cells (logA L g) 36)).alloc (.cells #[.int .i64 i, .int .i64 t] 25)) := by
 have ht := two_heap w (.cells (logA L g) 36) (.cells #[.int .i64 i, .int .i64 t] 25)
 exact ⟨ht.1, ht.2.1, below2 w _ _⟩
theorem LM.size {w wx : World} {L : LogV} {g : Value} {i t : Int} (h : LM w L g i t wx) : w.heap.size + 2 ≤ wx.heap.size := (Array.getElem?_eq_some_iff.1 h.mrk).1
theorem LM.keep {w wx wy : World} {L : LogV} {g : Value} {i t : Int} (h : LM w L g i t wx) (hb : Below wx.heap.size wx wy) : LM w L g i t wy := by
 have := h.size
 exact ⟨(hb.block _ (by omega)).trans h.box, (hb.block _ (by omega)).trans h.mrk, below_via h.bel hb⟩
theorem LM.cells {w wx : World} {L : LogV} {g : Value} {i t : Int} (h : LM w L g i t wx) : wx.cell? ⟨w.heap.size, 0, none⟩ = some (.int .i64 L.bi) ∧ wx.cell? ⟨w.heap.size, 1, none⟩ = some (.int .i64 L.bt) ∧ wx.cell? ⟨w.heap.size, 2, none⟩ = some g ∧ wx.cell? ⟨w.heap.size, 3, none⟩ = some (.int .i64 L.cm) ∧ wx.cell? ⟨w.heap.size + 1, 0, none⟩ = some (.int .i64 i) ∧ wx.cell? ⟨w.heap.size + 1, 1, none⟩ = some (.int .i64 t) :=
 ⟨by rw [cell_at h.box]; rfl, by rw [cell_at h.box]; rfl, by rw [cell_at h.box]; rfl, by rw [cell_at h.box]; rfl, by rw [cell_at h.mrk]; rfl, by rw [cell_at h.mrk]; rfl⟩
set_option maxHeartbeats 8000000 in
set_option maxRecDepth 100000 in
theorem hasMark_is (L : LogV) (g : Value) (i t : Int) (w : World) (h : EGot w g L.l) (hn : Near L) : Calls Tryz.prog 177 #[logV L g, .agg #[.int .i64 i, .int .i64 t]] w fun e w' => e = .returned (.bool (hasM L i t)) ∧ Below w.heap.size w w' := by
 have T0 := hideIt (LM.first w L g i t);have H1 := hideIt (markAt_is L g i _ (h.keep T0.out.bel) hn);unfold hasM;unfold MarkBack at H1;generalize markL L i = mk at *;obtain ⟨⟨mi, mt⟩, mo⟩ := mk;obtain ⟨a, c, rfl⟩ : ∃ a c, g = .slice a L.l.length c := by
  obtain ⟨a, c, e, _⟩ := h.open
  exact ⟨a, c, e⟩
 unfold logV logA at *;obtain ⟨bi, bt, l, cm⟩ := L;simp only at H1 T0 ⊢;have n1 := eq23 mi mt i t;clear h hn;cases mo
 ·go_enter Tryz.func177, Tryz.ntmps177
  go_wp2_with fail
  refine H1.out.mono ?_;rintro e w1 ⟨rfl, hbl⟩;dsimp only;have T1 := hideIt (T0.out.keep (below_via hbl (below1 w1 (.cells #[.int .i64 mi, .int .i64 mt] 25))));clear hbl T0 H1;go_wp2;go_ret
  exact ⟨rfl, T1.out.bel⟩
 ·go_enter Tryz.func177, Tryz.ntmps177
  go_wp2_with fail
  refine H1.out.mono ?_;rintro e w1 ⟨rfl, hbl⟩;dsimp only;have T1 := hideIt (T0.out.keep (below_via hbl (below1 w1 (.cells #[.int .i64 mi, .int .i64 mt] 25))));have X1 := hideIt (heap_alloc_new w1 (.cells #[.int .i64 mi, .int .i64 mt] 25));clear hbl T0 H1
  go_upto_region 2 with fail
  generalize w1.alloc (.cells #[.int .i64 mi, .int .i64 mt] 25) = w2 at *;generalize w1.heap.size = k1 at *;obtain ⟨c0, c1, c2, c3, d0, d1⟩ := T1.out.cells;have x0 : w2.cell? ⟨k1, 0, none⟩ = some (.int .i64 mi) := by rw [cell_at X1.out]; rfl
  have x1 : w2.cell? ⟨k1, 1, none⟩ = some (.int .i64 mt) := by rw [cell_at X1.out]; rfl
  clear X1 c0 c1 c2 c3;go_wp2;go_ret
  exact ⟨by simp, T1.out.bel⟩
set_option maxHeartbeats 8000000 in
set_option maxRecDepth 100000 in
theorem passedOver_is (L : LogV) (g k : Value) (pi pt : Int) (es : List EntV) (w : World) (h : EGot w g L.l) (hk : EGot w k es) (hn : Near L) (hp : 0 ≤ pi ∧ pi ≤ 1000000) : Calls Tryz.prog 213 #[logV L g, .agg #[.int .i64 pi, .int .i64 pt], k] w fun e w' => e = .returned (.int .i64 (passR L pi es : Int)) ∧ Below w.heap.size w w' := by
 have T0 := hideIt (LM.first w L g pi pt);have HM := hideIt (fun i t wx (hx : Below w.heap.size w wx) => hasMark_is L g i t wx (h.keep hx) hn);obtain ⟨ka, kc, rfl, h8, hr⟩ := hk.open;have HH := hideIt hr;have HPD := hideIt (passR_drop L es pi);obtain ⟨a, c, rfl⟩ : ∃ a c, g = .slice a L.l.length c := by
  obtain ⟨a, c, e, _⟩ := h.open
  exact ⟨a, c, e⟩
 have hbi : -1000000 ≤ L.bi ∧ L.bi ≤ 2000000 := ⟨hn.1, hn.2.1⟩;unfold logV logA at *;obtain ⟨hp1, hp2⟩ := hp;obtain ⟨hb1, hb2⟩ := hbi;clear h hk hr hn
 go_enter Tryz.func213, Tryz.ntmps213
 go_wp2
 go_step3
 go_wp2
 go_step3
 go_wp2
 go_loopw [7, 13] (fun u v wr => ∃ t : Nat, u = .int .i64 t ∧ v = .int .i64 t ∧ t ≤ es.length ∧ Hid (passR L pi es = t + passR L (pi + t) (es.drop t) ∧ LM w L (.slice a L.l.length c) pi pt wr)) (fun _ v _ => es.length - (intOf v).toNat)
 case atStart => exact ⟨0, rfl, rfl, Nat.zero_le _, hideIt ⟨by simp, T0.out⟩⟩
 case round =>
  obtain ⟨t, rfl, rfl, ht, HR⟩ := hrel;obtain ⟨c0, c1, c2, c3, d0, d1⟩ := HR.out.2.cells;have hsz := HR.out.2.size;have hs1 : w.heap.size < wr.heap.size := by omega
  have hs2 : w.heap.size + 1 < wr.heap.size := by omega
  by_cases hlt : t < es.length
  ·have hltI : (t : Int) < (es.length : Int) := by omega
   have ht0 : (0 : Int) ≤ (t : Int) := by omega
   obtain ⟨b, off, rfl, hbl, q0, q1, q2⟩ := HH.out t hlt;have hB := HR.out.2.bel;have e0 := (hB.cell (p := ⟨b, off + t * 3, none⟩) hbl).trans q0;have e1 := (hB.cell (p := ⟨b, off + t * 3 + 1, none⟩) hbl).trans q1;have e2 := (hB.cell (p := ⟨b, off + t * 3 + 2, none⟩) hbl).trans q2;have HRD := hideIt (HPD.out t hlt);generalize es[t] = en at *;obtain ⟨et, ek, ex⟩ := en;simp only at e0 e1 e2 HRD;have hw1 : IntKind.i64.wrap (pi + t) = pi + t := by rw [IntKind.wrap_i64]; omega
   have hw2 : IntKind.i64.wrap (pi + t + 1) = pi + t + 1 := by rw [IntKind.wrap_i64]; omega
   have hX := HR.out.2.keep (below2 wr (.cells #[.int .i64 et, .int .i64 ek, .string ex] 55) (.cells #[.int .i64 (pi + t + 1), .int .i64 et] 25));have HX := hideIt hX;have HMK := hideIt (HM.out (pi + t + 1) et _ hX.bel);have hN := (two_heap wr (.cells #[.int .i64 et, .int .i64 ek, .string ex] 55) (.cells #[.int .i64 (pi + t + 1), .int .i64 et] 25)).2.1;have HN := hideIt hN;clear q0 q1 q2 hB hX hN
   by_cases h1 : pi + t + 1 ≤ L.bi
   ·have HF : Hid (passR L pi es = (t + 1 : Nat) + passR L (pi + (t + 1 : Nat)) (es.drop (t + 1))) := by
     show _ = _
     rw [HR.out.1, HRD.out, if_pos (.inl h1), show pi + ((t + 1 : Nat) : Int) = pi + t + 1 by omega];omega
    clear HR HRD HMK HN;go_wp2
    go_roundw
    case rel => exact ⟨t + 1, by go_num, by go_num, by omega, hideIt ⟨HF.out, HX.out⟩⟩
    case measure => simp [intOf]; omega
   ·have h1I : ¬ (pi + t + 1 ≤ L.bi) := h1;cases h2 : hasM L (pi + t + 1) et
    ·rw [h2] at HMK;have HF : Hid (passR L pi es = t) := by
      show _ = _
      rw [HR.out.1, HRD.out, if_neg (fun hc => by rcases hc with hc | hc <;> first | exact h1 hc | (rw [h2] at hc; cases hc))]
      rfl
     clear HR HRD h1
     go_wp2_with fail
     refine HMK.out.mono ?_;rintro e w1 ⟨rfl, hbl2⟩;dsimp only;have B2 := hideIt (below_via HX.out.bel hbl2);clear hbl2 HN;go_wp2
     try rw [Exit.noGoto_ret]
     go_ret
     exact ⟨by rw [HF.out]; rfl, B2.out⟩
    ·rw [h2] at HMK;have HF : Hid (passR L pi es = (t + 1 : Nat) + passR L (pi + (t + 1 : Nat)) (es.drop (t + 1))) := by
      show _ = _
      rw [HR.out.1, HRD.out, if_pos (.inr h2), show pi + ((t + 1 : Nat) : Int) = pi + t + 1 by omega];omega
     clear HR HRD h1
     go_wp2_with fail
     refine HMK.out.mono ?_;rintro e w1 ⟨rfl, hbl2⟩;dsimp only;have X2 := hideIt (HX.out.keep hbl2);clear hbl2 HN;go_wp2
     go_roundw
     case rel => exact ⟨t + 1, by go_num, by go_num, by omega, hideIt ⟨HF.out, X2.out⟩⟩
     case measure => simp [intOf]; omega
  ·have hltI : ¬ (t : Int) < (es.length : Int) := by omega
   have HF : Hid (passR L pi es = t) := by
    show _ = _
    rw [HR.out.1, List.drop_of_length_le (by omega)]
    rfl
   have B2 := hideIt HR.out.2.bel;clear HR;go_wp2
   try rw [Exit.noGoto_ret]
   go_ret
   exact ⟨by rw [HF.out]; rfl, B2.out⟩
end Go.Proofs.YtcaehfkfohianaaGreat
namespace Go.Proofs.YtcaehfkfohianaaGreat
open Go.Shelf
def renClone : Go.Shelf.Ren := ⟨fun | 316 => 86 | n => n, fun | 9 => 9 | 3 => 3 | 4 => 4 | 37 => 151 | 0 => 0 | 127 => 152 | 5 => 5 | n => n, fun | n => n⟩
theorem layClone : Go.Proofs.LaysM.n316 Tryz.prog renClone := {
 mixed := by kernel_rfl
 f316 := Tryz.func86.trans (congrArg some (by kernel_rfl))
 t0 := Tryz.underlying0
 a0 := Tryz.isAgg0
 z0 := Tryz.sizeOf0
 v0 := Tryz.zeroValue0
 t3 := Tryz.underlying3
 a3 := Tryz.isAgg3
 z3 := Tryz.sizeOf3
 v3 := Tryz.zeroValue3
 t4 := Tryz.underlying4
 a4 := Tryz.isAgg4
 z4 := Tryz.sizeOf4
 v4 := Tryz.zeroValue4
 t9 := Tryz.underlying9
 a9 := Tryz.isAgg9
 z9 := Tryz.sizeOf9
 v9 := Tryz.zeroValue9
 t37 := Tryz.underlying151
 a37 := Tryz.isAgg151
 z37 := Tryz.sizeOf151
 v37 := Tryz.zeroValue151
 t127 := Tryz.underlying152
 a127 := Tryz.isAgg152
 z127 := Tryz.sizeOf152
 v127 := Tryz.zeroValue152
 t5 := Tryz.underlying5
 a5 := Tryz.isAgg5
 z5 := Tryz.sizeOf5
 v5 := Tryz.zeroValue5
 i0 := by kernel_rfl
 i3 := by kernel_rfl
 i4 := by kernel_rfl
 i5 := by kernel_rfl
 i9 := by kernel_rfl
 i37 := by kernel_rfl
 i127 := by kernel_rfl }
open Go.RowKit in
theorem clone_any (s : ByteArray) (w : World) (hlim : s.size ≤ 60000) :
  Calls Tryz.prog 52 #[.string s] w fun e w' => e = .returned (.string s) ∧ Below w.heap.size w w' := by
 go_enter Tryz.func52, Tryz.ntmps52
 go_wp2_with fail
 refine (Any.stringslite_Clone layClone s _ (by omega)).mono ?_;rintro e w1 ⟨rfl, hb⟩;go_wp2;go_ret
 exact ⟨rfl, hb⟩
end Go.Proofs.YtcaehfkfohianaaGreat
