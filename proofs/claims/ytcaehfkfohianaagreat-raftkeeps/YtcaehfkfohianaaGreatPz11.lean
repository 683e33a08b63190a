/- Texts of my own, laid together. -/
import Derived.Test.YtcaehfkfohianaaGreatZq
import Derived.Test.YtcaehfkfohianaaGreatPz08
import Derived.Test.YtcaehfkfohianaaGreatPz07
import Derived.Test.YtcaehfkfohianaaGreatPz02
import Derived.Test.YtcaehfkfohianaaGreatPz01
import Derived.Test.YtcaehfkfohianaaGreatPz04
import Derived.Test.YtcaehfkfohianaaGreatPz09
import Derived.Test.YtcaehfkfohianaaGreatPz10
set_option linter.all false
namespace Go.Proofs.YtcaehfkfohianaaGreat
open Go.RowKit
theorem hmf (fn : Fn) (first cap : Array Value) (w : World) : (Instr.makeFunc fn first cap).run Tryz.prog w = .ok (.func fn first cap) w := rfl
set_option maxHeartbeats 2000000 in
theorem cut_is (L : LogV) (g : Value) (w : World) (h : EGot w g L.l) : Calls Tryz.prog 145 #[logV L g] w fun e w' => e = .returned (.func (.func 167) #[] #[.pointer (some ⟨w.heap.size, 0, none⟩)]) ∧ w' = w.alloc (.cells (logA L g) 36) := by
 obtain ⟨a, c, rfl⟩ := h.slice;obtain ⟨bi, bt, l, cm⟩ := L;unfold logV logA
 simp only
 have hm := hmf
 go_enter Tryz.func145, Tryz.ntmps145
 go_wp2;go_ret
 exact ⟨rfl, rfl⟩
set_option maxHeartbeats 2000000 in
theorem cutf_is (k : Nat) (L : LogV) (g : Value) (i : Int) (w0 w : World) (hbx : Box w0 k L g w) (h : EGot w g L.l) (hi : 0 ≤ i ∧ i ≤ 2000000) : Calls Tryz.prog 167 #[.int .i64 i, .pointer (some ⟨k, 0, none⟩)] w (EntsBack (fromL L (i + 1) 400) w) := by
 have H1 := hideIt (from_is L g (i + 1) 400 w h ⟨⟨by omega, by omega⟩, by unfold i64B; omega⟩)
 obtain ⟨c0, c1, c2, c3⟩ := hbx.cells;obtain ⟨a, c, rfl⟩ := h.slice;unfold EntsBack at *;generalize fromL L (i + 1) 400 = F at *;obtain ⟨bi, bt, l, cm⟩ := L;unfold logV logA at *;simp only at c0 c1 c2 c3 H1;obtain ⟨hi1, hi2⟩ := hi;clear hbx h
 go_enter Tryz.func167, Tryz.ntmps167
 go_wp2_with fail
 refine H1.out.mono ?_;rintro e w1 ⟨r, rfl, ho, hbl⟩;dsimp only;have HO := hideIt (And.intro ho hbl);clear ho hbl;go_wp2;go_ret
 exact ⟨_, rfl, HO.out.1, HO.out.2⟩
theorem may_mark (i t : Int) : mayB ⟨i, t, [], i⟩ = mkB i t := by
 unfold mayB;cases h : mkB i t
 ·rfl
 ·have := mkB_in h;simp only [rowsB, List.length_nil, lasI, wiB, Bool.true_and, Bool.and_true];rw [Bool.and_eq_true, Bool.and_eq_true];refine ⟨⟨by simp, ?_⟩, ?_⟩
  ·exact decide_eq_true (by simp only [Int.natCast_zero]; omega)
  ·exact decide_eq_true ⟨Int.le_refl _, by simp⟩
set_option maxHeartbeats 2000000 in
theorem sIsMark_is (i t : Int) (w : World) : Calls Tryz.prog 208 #[.agg #[.int .i64 i, .int .i64 t]] w fun e w' => e = .returned (.bool (mkB i t)) ∧ Below w.heap.size w w' := by
 have HB := hideIt (below1 w (.cells #[.int .i64 i, .int .i64 t] 25));have H1 := hideIt (check_is ⟨i, t, [], i⟩ (.slice none 0 0) (w.alloc (.cells #[.int .i64 i, .int .i64 t] 25)) (EGot.nil _ _ _ (Nat.zero_le _)));unfold chkI at H1;rw [may_mark] at H1;unfold logV logA at H1;simp only at H1;cases h : mkB i t
 ·rw [h] at H1;simp only [Bool.false_eq_true, if_false] at H1
  go_enter Tryz.func208, Tryz.ntmps208
  go_wp2_with fail
  refine H1.out.mono ?_;rintro e w1 ⟨rfl, hbl⟩;dsimp only;have HB2 := hideIt (below_via HB.out hbl);clear hbl;go_wp2;go_ret
  exact ⟨rfl, HB2.out⟩
 ·rw [h] at H1;simp only [if_true] at H1
  go_enter Tryz.func208, Tryz.ntmps208
  go_wp2_with fail
  refine H1.out.mono ?_;rintro e w1 ⟨rfl, hbl⟩;dsimp only;have HB2 := hideIt (below_via HB.out hbl);clear hbl;go_wp2;go_ret
  exact ⟨rfl, HB2.out⟩
def compL (L : LogV) (i : Int) : LogV × Int := if mayB L then (if L.bi < i ∧ i ≤ L.cm then (⟨i, (termL L i).1, L.l.drop (i - L.bi).toNat, L.cm⟩, 0) else (zL, 91)) else (zL, 90)
theorem from_behind {L : LogV} (h : mayB L = true) (i : Int) (h1 : L.bi ≤ i) : fromL L (i + 1) 400 = L.l.drop (i - L.bi).toNat := by
 have hin := mayB_in h;unfold fromL;rw [h, Bool.true_and];cases hb : hasB L (i + 1)
 ·simp only [Bool.false_and, Bool.false_eq_true, if_false];have hn : ¬ (L.bi + 1 ≤ i + 1 ∧ i + 1 ≤ lasI L) := of_decide_eq_false hb;unfold lasI at hn;rw [List.drop_of_length_le (by omega)]
 ·rw [show (true && decide ((1 : Int) ≤ 400)) = true from rfl, if_pos rfl];rw [show i + 1 - L.bi - 1 = i - L.bi by omega];exact List.take_of_length_le (by rw [List.length_drop]; show _ ≤ 400; omega)
structure Duo (w : World) (L : LogV) (g : Value) (wx : World) : Prop where
 box : wx.heap[w.heap.size]? = some (.cells (logA L g) 36 (0, 0))
 res : wx.heap[w.heap.size + 1]? = some (.cells #[.int .i64 0, .int .i64 0, .slice none 0 0, .int .i64 0] 36 (0, 0))
 bel : Below w.heap.size w wx
theorem Duo.first (w : World) (L : LogV) (g : Value) : Duo w L g ((w.alloc (.cells (logA L g) 36)).alloc (.cells #[.int .i64 0, .int .i64 0, .slice none 0 0, .int .i64 0] 36)) := by
 have ht := two_heap w (.cells (logA L g) 36) (.cells #[.int .i64 0, .int .i64 0, .slice none 0 0, .int .i64 0] 36)
 exact ⟨ht.1, ht.2.1, below2 w _ _⟩
theorem Duo.size {w wx : World} {L : LogV} {g : Value} (h : Duo w L g wx) : w.heap.size + 2 ≤ wx.heap.size := (Array.getElem?_eq_some_iff.1 h.res).1
theorem Duo.keep {w wx wy : World} {L : LogV} {g : Value} (h : Duo w L g wx) (hb : Below wx.heap.size wx wy) : Duo w L g wy := by
 have := h.size
 exact ⟨(hb.block _ (by omega)).trans h.box, (hb.block _ (by omega)).trans h.res, below_via h.bel hb⟩
theorem Duo.drew {w wx : World} {L : LogV} {g : Value} (h : Duo w L g wx) : Duo w L g wx.drew := ⟨h.box, h.res, h.bel.drew⟩
theorem Duo.cells {w wx : World} {L : LogV} {g : Value} (h : Duo w L g wx) : wx.cell? ⟨w.heap.size, 0, none⟩ = some (.int .i64 L.bi) ∧ wx.cell? ⟨w.heap.size, 1, none⟩ = some (.int .i64 L.bt) ∧ wx.cell? ⟨w.heap.size, 2, none⟩ = some g ∧ wx.cell? ⟨w.heap.size, 3, none⟩ = some (.int .i64 L.cm) :=
 ⟨by rw [cell_at h.box]; rfl, by rw [cell_at h.box]; rfl, by rw [cell_at h.box]; rfl, by rw [cell_at h.box]; rfl⟩
theorem Duo.zero {w wx : World} {L : LogV} {g : Value} (h : Duo w L g wx) : wx.cell? ⟨w.heap.size + 1, 0, none⟩ = some (.int .i64 0) ∧ wx.cell? ⟨w.heap.size + 1, 1, none⟩ = some (.int .i64 0) ∧ wx.cell? ⟨w.heap.size + 1, 2, none⟩ = some (.slice none 0 0) ∧ wx.cell? ⟨w.heap.size + 1, 3, none⟩ = some (.int .i64 0) ∧ ∀ j, wx.frozen? ⟨w.heap.size + 1, j, none⟩ = false :=
 ⟨by rw [cell_at h.res]; rfl, by rw [cell_at h.res]; rfl, by rw [cell_at h.res]; rfl, by rw [cell_at h.res]; rfl, fun j => free_at h.res j⟩
theorem Duo.put {w wx : World} {L : LogV} {g : Value} (h : Duo w L g wx) (v0 v1 v2 v3 : Value) : Hid (((((wx.setCell ⟨w.heap.size + 1, 0, none⟩ v0).setCell ⟨w.heap.size + 1, 1, none⟩ v1).setCell ⟨w.heap.size + 1, 2, none⟩ v2).setCell ⟨w.heap.size + 1, 3, none⟩ v3).heap[w.heap.size + 1]? = some (.cells #[v0, v1, v2, v3] 36 (0, 0)) ∧ Below w.heap.size w ((((wx.setCell ⟨w.heap.size + 1, 0, none⟩ v0).setCell ⟨w.heap.size + 1, 1, none⟩ v1).setCell ⟨w.heap.size + 1, 2, none⟩ v2).setCell ⟨w.heap.size + 1, 3, none⟩ v3)) :=
 fin4 v0 v1 v2 v3 h.res (by omega) h.bel
set_option maxHeartbeats 8000000 in
set_option maxRecDepth 100000 in
theorem compact_is (L : LogV) (g : Value) (i : Int) (w : World) (h : EGot w g L.l) : Calls Tryz.prog 99 #[logV L g, .int .i64 i] w (LogErr (compL L i) w) := by
 have T0 := hideIt (Duo.first w L g);have H1 := hideIt (check_is L g _ (h.keep T0.out.bel));have hh := hideIt h;unfold LogErr compL;cases hm : mayB L
 ·rw [show chkI L = 80 by simp [chkI, hm]] at H1;simp only [Bool.false_eq_true, if_false];obtain ⟨a, c, rfl⟩ := h.slice;unfold logV logA at *;obtain ⟨bi, bt, l, cm⟩ := L;simp only at H1 T0 ⊢;clear h
  go_enter Tryz.func99, Tryz.ntmps99
  go_wp2_with fail
  refine H1.out.mono ?_;rintro e w1 ⟨rfl, hbl⟩;dsimp only;have T1 := hideIt (T0.out.keep hbl);obtain ⟨z0, z1, z2, z3, zf⟩ := T1.out.zero;have HP := T1.out.put (.int .i64 0) (.int .i64 0) (.slice none 0 0) (.int .i64 0);clear T0 T1 H1 hbl;obtain ⟨e1, e2⟩ := HP.out;clear HP;go_wp2
  revert e1 e2
  generalize (World.setCell _ ⟨w.heap.size + 1, 3, none⟩ _) = W;intro e1 e2;exact bodyPost_ret (v := .tuple #[logV zL (.slice none 0 0), .int .i64 90]) (by simp [results, Tryz.results99, go_sem, cell_at e1, logV, logA, zL]) rfl ⟨_, rfl, own_nil _ _, e2⟩
 ·rw [show chkI L = 0 by simp [chkI, hm]] at H1;simp only [if_true]
  by_cases hi : L.bi < i ∧ i ≤ L.cm
  ·rw [if_pos hi];obtain ⟨hi1, hi2⟩ := hi;have hin := mayB_in hm;have HFB := hideIt (from_behind hm i (by omega));have HTA := hideIt (fun wx (hx : Below w.heap.size w wx) => termAt_is L g i wx (h.keep hx));have HCU := hideIt (fun wx (hx : Below w.heap.size w wx) => cut_is L g wx (h.keep hx));have HCF := hideIt (fun (k : Nat) w0 wx (hbx : Box w0 k L g wx) (hx : Below w.heap.size w wx) => cutf_is k L g i w0 wx hbx (h.keep hx) (by omega));rw [HFB.out] at HCF;unfold EntsBack at HCF;generalize L.l.drop (i - L.bi).toNat = D at *;generalize termL L i = tm at *;obtain ⟨tt, tb⟩ := tm;obtain ⟨a, c, rfl⟩ := h.slice;unfold logV logA at *;obtain ⟨bi, bt, l, cm⟩ := L;simp only at H1 T0 HTA HCU hi1 hi2 ⊢;have hiA : ¬ (i ≤ bi) := by omega
   have hiB : ¬ (cm < i) := by omega
   clear h hin HFB
   go_enter Tryz.func99, Tryz.ntmps99
   go_wp2_with fail
   refine H1.out.mono ?_;rintro e w1 ⟨rfl, hbl⟩;dsimp only;have T1 := hideIt (T0.out.keep hbl);obtain ⟨c0, c1, c2, c3⟩ := T1.out.cells;simp only at c0 c1 c2 c3;clear T0 H1 hbl
   go_wp2_with fail
   refine (HCU.out _ T1.out.bel).mono ?_;rintro e w2 ⟨rfl, rfl⟩;dsimp only;have HBX := hideIt (And.intro (heap_alloc_new w1 (.cells #[.int .i64 bi, .int .i64 bt, .slice a l.length c, .int .i64 cm] 36)) (T1.out.keep (below1 w1 (.cells #[.int .i64 bi, .int .i64 bt, .slice a l.length c, .int .i64 cm] 36))));have hkk : w1.heap.size < (w1.alloc (.cells #[.int .i64 bi, .int .i64 bt, .slice a l.length c, .int .i64 cm] 36)).heap.size := by simp
   generalize w1.alloc (.cells #[.int .i64 bi, .int .i64 bt, .slice a l.length c, .int .i64 cm] 36) = w2 at *;generalize w1.heap.size = kb at *;clear T1 c0 c1 c2 c3 HCU;obtain ⟨c0, c1, c2, c3⟩ := HBX.out.2.cells;simp only at c0 c1 c2 c3
   go_wp2_with fail
   refine (HTA.out _ HBX.out.2.bel).mono ?_;rintro e w3 ⟨rfl, hbl⟩;dsimp only;have T3 := hideIt (HBX.out.2.keep hbl);have HB3 : Hid (Box w kb ⟨bi, bt, l, cm⟩ (.slice a l.length c) w3) := ⟨(hbl.block _ hkk).trans HBX.out.1, T3.out.bel⟩;clear hbl HTA HBX c0 c1 c2 c3 hkk
   go_upto_region 7 with fail
   have T3d := T3.out.drew;have HR := hideIt (HCF.out kb w w3.drew HB3.out.drew T3d.bel);refine wp_region_held_drew (S := fun w' => w'.cell? ⟨w.heap.size, 3, none⟩ = some (.int .i64 cm)) (by kernel_rfl) T3d.cells.2.2.2 (fun hHeld => ?_);refine wpAnyH_take (i := 0) (oi := ⟨some 33, _, _, _, _, _⟩) (v := ?_) rfl (by kernel_rfl) (by kernel_rfl) (by kernel_rfl) (fun _ _ _ h => h) (Or.inl ⟨by rfl, ?_⟩) (by assumption) ?_
   rotate_left
   ·intro w5 hSw
    (try dsimp only at hSw)
    go_simp
    (try with_reducible rfl)
   try simp only [aP, aQ, aA, aB, aC]
   refine wpAnyH_take (i := 1) (oi := ⟨some 34, _, _, _, _, _⟩) (v := ?_) rfl (by kernel_rfl) (by kernel_rfl) (by kernel_rfl) (fun _ _ _ h => h) (Or.inl ⟨by rfl, ?_⟩) (by assumption) ?_
   rotate_left
   ·intro w5 hSw
    (try dsimp only at hSw)
    go_simp
    (try with_reducible rfl)
   try simp only [aP, aQ, aA, aB, aC]
   refine wpAnyH_take (i := 2) (oi := ⟨some 35, _, _, _, _, _⟩) (v := ?_) rfl (by kernel_rfl) (by kernel_rfl) (by kernel_rfl) (fun _ _ _ h => h) (Or.inl ⟨by rfl, ?_⟩) (by assumption) ?_
   rotate_left
   ·intro w5 hSw
    (try dsimp only at hSw)
    go_simp
    (try with_reducible rfl)
   try simp only [aP, aQ, aA, aB, aC]
   refine wpAnyH_take (i := 3) (oi := ⟨some 36, _, _, _, _, _⟩) (v := ?_) rfl (by kernel_rfl) (by kernel_rfl) (by kernel_rfl) (fun _ _ _ h => h) (Or.inl ⟨by rfl, ?_⟩) (by assumption) ?_
   rotate_left
   ·intro w5 hSw
    (try dsimp only at hSw)
    go_simp
    (try with_reducible rfl)
   try simp only [aP, aQ, aA, aB, aC]
   refine wpAnyH_take (i := 4) (oi := ⟨some 37, _, _, _, _, _⟩) (v := ?_) rfl (by kernel_rfl) (by kernel_rfl) (by kernel_rfl) (fun _ _ _ h => h) (Or.inl ⟨by rfl, ?_⟩) (by assumption) ?_
   rotate_left
   ·intro w5 hSw
    (try dsimp only at hSw)
    go_simp
    (try with_reducible rfl)
   try simp only [aP, aQ, aA, aB, aC]
   refine wpAnyH_take (i := 6) (oi := ⟨some 39, _, _, _, _, _⟩) (v := ?_) rfl (by kernel_rfl) (by kernel_rfl) (by kernel_rfl) (fun _ _ _ h => h) (Or.inl ⟨by rfl, ?_⟩) (by assumption) ?_
   rotate_left
   ·intro w5 hSw
    (try dsimp only at hSw)
    go_simp
    (try with_reducible rfl)
   try simp only [aP, aQ, aA, aB, aC]
   refine wpAnyH_take (i := 7) (oi := ⟨some 40, _, _, _, _, _⟩) (v := ?_) rfl (by kernel_rfl) (by kernel_rfl) (by kernel_rfl) (fun _ _ _ h => h) (Or.inl ⟨by rfl, ?_⟩) (by assumption) ?_
   rotate_left
   ·intro w5 hSw
    (try dsimp only at hSw)
    go_simp
    (try with_reducible rfl)
   try simp only [aP, aQ, aA, aB, aC]
   refine wpAnyH_ready (rs := [5]) (by kernel_rfl) (by simp) ?_;refine AllReadyH.cons (o := ⟨some 38, _, _, _, _, _⟩) rfl (fun K hK => ?_) AllReadyH.nil;go_simp
   go_at_call 167
   refine HR.out.mono ?_;rintro e w4 ⟨r, rfl, ho, hbl⟩;have T4 := hideIt (T3d.keep hbl);refine hK.out _ _ T4.out.cells.2.2.2 (fun hHeld => ?_);obtain ⟨ra, rc, rfl⟩ := own_len ho;have HO := hideIt (own4 (R := w.heap.size + 1) (.int .i64 i) (.int .i64 tt) (.slice ra D.length rc) (.int .i64 cm) ho (by have := T3d.size; omega) w.heap.size (by have := T3d.size; omega)).out
   have HP := T4.out.put (.int .i64 i) (.int .i64 tt) (.slice ra D.length rc) (.int .i64 cm);have HS : Hid (((((w4.setCell ⟨w.heap.size + 1, 0, none⟩ (.int .i64 i)).setCell ⟨w.heap.size + 1, 1, none⟩ (.int .i64 tt)).setCell ⟨w.heap.size + 1, 2, none⟩ (.slice ra D.length rc)).setCell ⟨w.heap.size + 1, 3, none⟩ (.int .i64 cm)).cell? ⟨w.heap.size, 3, none⟩ = some (.int .i64 cm)) := by
    show _ = _
    rw [cell_at (setOther _ (setOther _ (setOther _ (setOther _ T4.out.box (by omega)) (by omega)) (by omega)) (by omega))]
    rfl
   obtain ⟨z0, z1, z2, z3, zf⟩ := T4.out.zero;clear hK K ho hbl HR HCF T3 HB3 T3d T4
   try simp only [aP, aQ, aA, aB, aC]
   refine wpAnyH_take (i := 8) (oi := ⟨some 41, _, _, _, _, _⟩) (v := ?_) rfl (by kernel_rfl) (by kernel_rfl) (by kernel_rfl) (fun _ _ _ h => h) (Or.inl ⟨by rfl, ?_⟩) (by assumption) ?_
   rotate_left
   ·intro w5 hSw
    (try dsimp only at hSw)
    go_simp
    (try with_reducible rfl)
   try simp only [aP, aQ, aA, aB, aC]
   refine wpAnyH_ready (rs := [9]) (by kernel_rfl) (by simp) ?_;refine AllReadyH.cons (o := ⟨none, _, _, _, _, _⟩) rfl (fun K hK => ?_) AllReadyH.nil;go_simp;refine hK.out _ _ HS.out (fun hHeld => ?_);clear hK K;generalize ((((w4.setCell ⟨w.heap.size + 1, 0, none⟩ (.int .i64 i)).setCell ⟨w.heap.size + 1, 1, none⟩ (.int .i64 tt)).setCell ⟨w.heap.size + 1, 2, none⟩ (.slice ra D.length rc)).setCell ⟨w.heap.size + 1, 3, none⟩ (.int .i64 cm)) = W at *
   try simp only [aP, aQ, aA, aB, aC]
   refine wpAnyH_take (i := 10) (oi := ⟨some 5, _, _, _, _, _⟩) (v := ?_) rfl (by kernel_rfl) (by kernel_rfl) (by kernel_rfl) (fun _ _ _ h => h) (Or.inl ⟨by rfl, ?_⟩) (by assumption) ?_
   rotate_left
   ·intro w5 hSw
    (try dsimp only at hSw)
    go_simp
    (try with_reducible rfl)
   try simp only [aP, aQ, aA, aB, aC]
   refine wpAnyH_done (by kernel_rfl) ?_ _;clear z0 z1 z2 z3 zf hHeld HS;go_wp2;obtain ⟨e1, e2⟩ := HP.out;exact bodyPost_ret (v := .tuple #[logV ⟨i, tt, D, cm⟩ (.slice ra D.length rc), .int .i64 0]) (by simp [results, Tryz.results99, go_sem, cell_at e1, logV, logA]) rfl ⟨_, rfl, HO.out, e2⟩
  ·rw [if_neg hi];obtain ⟨a, c, rfl⟩ := h.slice;unfold logV logA at *;obtain ⟨bi, bt, l, cm⟩ := L;simp only at H1 T0 hi ⊢;clear h
   by_cases hiA : i ≤ bi
   ·clear hi
    go_enter Tryz.func99, Tryz.ntmps99
    go_wp2_with fail
    refine H1.out.mono ?_;rintro e w1 ⟨rfl, hbl⟩;dsimp only;have T1 := hideIt (T0.out.keep hbl);obtain ⟨c0, c1, c2, c3⟩ := T1.out.cells;simp only at c0 c1 c2 c3;obtain ⟨z0, z1, z2, z3, zf⟩ := T1.out.zero;have HP := T1.out.put (.int .i64 0) (.int .i64 0) (.slice none 0 0) (.int .i64 0);clear T0 T1 H1 hbl;obtain ⟨e1, e2⟩ := HP.out;clear HP;go_wp2
    revert e1 e2
    generalize (World.setCell _ ⟨w.heap.size + 1, 3, none⟩ _) = W;intro e1 e2;exact bodyPost_ret (v := .tuple #[logV zL (.slice none 0 0), .int .i64 91]) (by simp [results, Tryz.results99, go_sem, cell_at e1, logV, logA, zL]) rfl ⟨_, rfl, own_nil _ _, e2⟩
   ·have hiB : cm < i := by omega
    clear hi
    go_enter Tryz.func99, Tryz.ntmps99
    go_wp2_with fail
    refine H1.out.mono ?_;rintro e w1 ⟨rfl, hbl⟩;dsimp only;have T1 := hideIt (T0.out.keep hbl);obtain ⟨c0, c1, c2, c3⟩ := T1.out.cells;simp only at c0 c1 c2 c3;obtain ⟨z0, z1, z2, z3, zf⟩ := T1.out.zero;have HP := T1.out.put (.int .i64 0) (.int .i64 0) (.slice none 0 0) (.int .i64 0);clear T0 T1 H1 hbl;obtain ⟨e1, e2⟩ := HP.out;clear HP;go_wp2
    revert e1 e2
    generalize (World.setCell _ ⟨w.heap.size + 1, 3, none⟩ _) = W;intro e1 e2;exact bodyPost_ret (v := .tuple #[logV zL (.slice none 0 0), .int .i64 91]) (by simp [results, Tryz.results99, go_sem, cell_at e1, logV, logA, zL]) rfl ⟨_, rfl, own_nil _ _, e2⟩
def instL (L : LogV) (i t : Int) : LogV × Bool × Int :=
 if mayB L then (if mkB i t = true ∧ i ≠ 0 then (if i ≤ L.cm then (L, false, 0) else (⟨i, t, if (termL L i).2 = true ∧ (termL L i).1 = t then L.l.drop (i - L.bi).toNat else [], i⟩, true, 0)) else (zL, false, 1)) else (zL, false, 90)
def LogInst (X : LogV × Bool × Int) (w : World) (e : Ending) (w' : World) : Prop := ∃ g, e = .returned (.tuple #[logV X.1 g, .bool X.2.1, .int .i64 X.2.2]) ∧ w'.ownsRow w.heap.size 55 3 g X.1.l.length (entC X.1.l) ∧ Below w.heap.size w w'
structure Tri (w : World) (L : LogV) (g : Value) (i t : Int) (wx : World) : Prop where
 box : wx.heap[w.heap.size]? = some (.cells (logA L g) 36 (0, 0))
 mrk : wx.heap[w.heap.size + 1]? = some (.cells #[.int .i64 i, .int .i64 t] 25 (0, 0))
 res : wx.heap[w.heap.size + 2]? = some (.cells #[.int .i64 0, .int .i64 0, .slice none 0 0, .int .i64 0] 36 (0, 0))
 bel : Below w.heap.size w wx
theorem Tri.first (w : World) (L : LogV) (g : Value) (i t : Int) : Tri w L g i t (((w.alloc (.cells (logA L g) 36)).alloc (.cells #[.int .i64 i, .int .i64 t] 25)).alloc (.cells #[.int .i64 0, .int .i64 0, .slice none 0 0, .int .i64 0] 36)) := by
 have ht := three_heap w (.cells (logA L g) 36) (.cells #[.int .i64 i, .int .i64 t] 25) (.cells #[.int .i64 0, .int .i64 0, .slice none 0 0, .int .i64 0] 36)
 exact ⟨ht.1, ht.2.1, ht.2.2.1, below3 w _ _ _⟩
theorem Tri.size {w wx : World} {L : LogV} {g : Value} {i t : Int} (h : Tri w L g i t wx) : w.heap.size + 3 ≤ wx.heap.size := (Array.getElem?_eq_some_iff.1 h.res).1
theorem Tri.keep {w wx wy : World} {L : LogV} {g : Value} {i t : Int} (h : Tri w L g i t wx) (hb : Below wx.heap.size wx wy) : Tri w L g i t wy := by
 have := h.size
 exact ⟨(hb.block _ (by omega)).trans h.box, (hb.block _ (by omega)).trans h.mrk, (hb.block _ (by omega)).trans h.res, below_via h.bel hb⟩
theorem Tri.cells {w wx : World} {L : LogV} {g : Value} {i t : Int} (h : Tri w L g i t wx) : wx.cell? ⟨w.heap.size, 0, none⟩ = some (.int .i64 L.bi) ∧ wx.cell? ⟨w.heap.size, 1, none⟩ = some (.int .i64 L.bt) ∧ wx.cell? ⟨w.heap.size, 2, none⟩ = some g ∧ wx.cell? ⟨w.heap.size, 3, none⟩ = some (.int .i64 L.cm) ∧ wx.cell? ⟨w.heap.size + 1, 0, none⟩ = some (.int .i64 i) ∧ wx.cell? ⟨w.heap.size + 1, 1, none⟩ = some (.int .i64 t) ∧ ∀ j, wx.frozen? ⟨w.heap.size, j, none⟩ = false :=
 ⟨by rw [cell_at h.box]; rfl, by rw [cell_at h.box]; rfl, by rw [cell_at h.box]; rfl, by rw [cell_at h.box]; rfl, by rw [cell_at h.mrk]; rfl, by rw [cell_at h.mrk]; rfl, fun j => free_at h.box j⟩
theorem Tri.zero {w wx : World} {L : LogV} {g : Value} {i t : Int} (h : Tri w L g i t wx) : wx.cell? ⟨w.heap.size + 1 + 1, 0, none⟩ = some (.int .i64 0) ∧ wx.cell? ⟨w.heap.size + 1 + 1, 1, none⟩ = some (.int .i64 0) ∧ wx.cell? ⟨w.heap.size + 1 + 1, 2, none⟩ = some (.slice none 0 0) ∧ wx.cell? ⟨w.heap.size + 1 + 1, 3, none⟩ = some (.int .i64 0) ∧ ∀ j, wx.frozen? ⟨w.heap.size + 1 + 1, j, none⟩ = false :=
 ⟨by rw [cell_at h.res]; rfl, by rw [cell_at h.res]; rfl, by rw [cell_at h.res]; rfl, by rw [cell_at h.res]; rfl, fun j => free_at h.res j⟩
theorem Tri.put {w wx : World} {L : LogV} {g : Value} {i t : Int} (h : Tri w L g i t wx) (v0 v1 v2 v3 : Value) : Hid (((((wx.setCell ⟨w.heap.size + 1 + 1, 0, none⟩ v0).setCell ⟨w.heap.size + 1 + 1, 1, none⟩ v1).setCell ⟨w.heap.size + 1 + 1, 2, none⟩ v2).setCell ⟨w.heap.size + 1 + 1, 3, none⟩ v3).heap[w.heap.size + 1 + 1]? = some (.cells #[v0, v1, v2, v3] 36 (0, 0)) ∧ Below w.heap.size w ((((wx.setCell ⟨w.heap.size + 1 + 1, 0, none⟩ v0).setCell ⟨w.heap.size + 1 + 1, 1, none⟩ v1).setCell ⟨w.heap.size + 1 + 1, 2, none⟩ v2).setCell ⟨w.heap.size + 1 + 1, 3, none⟩ v3)) :=
 fin4 v0 v1 v2 v3 h.res (by omega) h.bel
set_option maxHeartbeats 16000000 in
set_option maxRecDepth 100000 in
theorem install_is (L : LogV) (g : Value) (i t : Int) (w : World) (h : EGot w g L.l) : Calls Tryz.prog 197 #[logV L g, .agg #[.int .i64 i, .int .i64 t]] w (LogInst (instL L i t) w) := by
 have T0 := hideIt (Tri.first w L g i t);have H1 := hideIt (check_is L g _ (h.keep T0.out.bel));have HM := hideIt (fun wx => sIsMark_is i t wx);unfold LogInst instL;cases hm : mayB L
 ·rw [show chkI L = 80 by simp [chkI, hm]] at H1;simp only [Bool.false_eq_true, if_false];obtain ⟨a, c, rfl⟩ := h.slice;unfold logV logA at *;obtain ⟨bi, bt, l, cm⟩ := L;simp only at H1 T0 ⊢;clear h HM
  go_enter Tryz.func197, Tryz.ntmps197
  go_wp2_with fail
  refine H1.out.mono ?_;rintro e w1 ⟨rfl, hbl⟩;dsimp only;have T1 := hideIt (T0.out.keep hbl);obtain ⟨z0, z1, z2, z3, zf⟩ := T1.out.zero;have HP := T1.out.put (.int .i64 0) (.int .i64 0) (.slice none 0 0) (.int .i64 0);clear T0 T1 H1 hbl;obtain ⟨e1, e2⟩ := HP.out;clear HP;go_wp2
  revert e1 e2
  generalize (World.setCell _ ⟨w.heap.size + 1 + 1, 3, none⟩ _) = W;intro e1 e2;exact bodyPost_ret (v := .tuple #[logV zL (.slice none 0 0), .bool false, .int .i64 90]) (by simp [results, Tryz.results197, go_sem, cell_at e1, logV, logA, zL]) rfl ⟨_, rfl, own_nil _ _, e2⟩
 ·rw [show chkI L = 0 by simp [chkI, hm]] at H1;simp only [if_true]
  by_cases hk : mkB i t = true ∧ i ≠ 0
  ·rw [if_pos hk];obtain ⟨hk1, hk2⟩ := hk;rw [hk1] at HM;have hin := mayB_in hm;have hmi := (mkB_in hk1).1;have hi0b : (i == 0) = false := beq_eq_false_iff_ne.2 hk2;have HCU := hideIt (fun wx (hx : Below w.heap.size w wx) => cut_is L g wx (h.keep hx))
   by_cases hc : i ≤ L.cm
   ·rw [if_pos hc];have HCF := hideIt (fun (k : Nat) w0 wx (hbx : Box w0 k L g wx) (hx : Below w.heap.size w wx) => cutf_is k L g L.bi w0 wx hbx (h.keep hx) ⟨by omega, by omega⟩);have e0 := from_behind hm L.bi (Int.le_refl _);rw [show (L.bi - L.bi).toNat = 0 by omega, List.drop_zero] at e0;rw [e0] at HCF;unfold EntsBack at HCF;clear e0;obtain ⟨a, c, rfl⟩ := h.slice;unfold logV logA at *;obtain ⟨bi, bt, l, cm⟩ := L;simp only at H1 T0 HCU HCF hc hin ⊢;clear h hin hmi
    go_enter Tryz.func197, Tryz.ntmps197
    go_wp2_with fail
    refine H1.out.mono ?_;rintro e w1 ⟨rfl, hbl⟩;dsimp only;have T1 := hideIt (T0.out.keep hbl);obtain ⟨c0, c1, c2, c3, m0, m1, cf⟩ := T1.out.cells;simp only at c0 c1 c2 c3;clear T0 H1 hbl
    go_wp2_with fail
    refine (HM.out _).mono ?_;rintro e w2 ⟨rfl, hbl⟩;dsimp only;have T2 := hideIt (T1.out.keep hbl);clear hbl HM T1 c0 c1 c2 c3 m0 m1 cf;obtain ⟨c0, c1, c2, c3, m0, m1, cf⟩ := T2.out.cells;simp only at c0 c1 c2 c3
    go_wp2_with fail
    refine (HCU.out _ T2.out.bel).mono ?_;rintro e w3 ⟨rfl, rfl⟩;dsimp only;have HBX := hideIt (And.intro (heap_alloc_new w2 (.cells #[.int .i64 bi, .int .i64 bt, .slice a l.length c, .int .i64 cm] 36)) (T2.out.keep (below1 w2 (.cells #[.int .i64 bi, .int .i64 bt, .slice a l.length c, .int .i64 cm] 36))));generalize w2.alloc (.cells #[.int .i64 bi, .int .i64 bt, .slice a l.length c, .int .i64 cm] 36) = w3 at *;generalize w2.heap.size = kb at *;clear T2 c0 c1 c2 c3 m0 m1 cf HCU;obtain ⟨c0, c1, c2, c3, m0, m1, cf⟩ := HBX.out.2.cells;simp only at c0 c1 c2 c3;have HR := hideIt (HCF.out kb w w3 ⟨HBX.out.1, HBX.out.2.bel⟩ HBX.out.2.bel);clear HCF
    go_wp2_with fail
    refine HR.out.mono ?_;rintro e w4 ⟨r, rfl, ho, hbl⟩;dsimp only;have T4 := hideIt (HBX.out.2.keep hbl);obtain ⟨ra, rc, rfl⟩ := own_len ho;have HO := hideIt (And.intro ho HBX.out.2.size);clear ho hbl HR HBX c0 c1 c2 c3 m0 m1 cf;obtain ⟨c0, c1, c2, c3, m0, m1, cf⟩ := T4.out.cells;simp only at c0 c1 c2 c3;obtain ⟨z0, z1, z2, z3, zf⟩ := T4.out.zero;have HF := fin4 (w := w) (wx := w4.setCell ⟨w.heap.size, 2, none⟩ (.slice ra l.length rc)) (R := w.heap.size + 1 + 1) (.int .i64 bi) (.int .i64 bt) (.slice ra l.length rc) (.int .i64 cm) (setOther _ T4.out.res (by omega)) (by omega) (belowSet _ T4.out.bel (by omega));have HG := own4 (R := w.heap.size + 1 + 1) (.int .i64 bi) (.int .i64 bt) (.slice ra l.length rc) (.int .i64 cm) (ownSet (b := w.heap.size) (j := 2) (.slice ra l.length rc) HO.out.1 (by have := HO.out.2; omega)) (by have := HO.out.2; omega) w.heap.size (by have := HO.out.2; omega)
    clear T4 HO;go_wp2;obtain ⟨e1, e2⟩ := HF.out;have e3 := HG.out
    revert e1 e2 e3
    generalize (World.setCell _ ⟨w.heap.size + 1 + 1, 3, none⟩ _) = W;intro e1 e2 e3;exact bodyPost_ret (v := .tuple #[logV ⟨bi, bt, l, cm⟩ (.slice ra l.length rc), .bool false, .int .i64 0]) (by simp [results, Tryz.results197, go_sem, cell_at e1, logV, logA]) rfl ⟨_, rfl, e3, e2⟩
   ·rw [if_neg hc];have HTA := hideIt (fun wx (hx : Below w.heap.size w wx) => termAt_is L g i wx (h.keep hx));have HCF := hideIt (fun (k : Nat) w0 wx (hbx : Box w0 k L g wx) (hx : Below w.heap.size w wx) => cutf_is k L g i w0 wx hbx (h.keep hx) ⟨by omega, by omega⟩);rw [from_behind hm i (by omega)] at HCF;unfold EntsBack at HCF;generalize L.l.drop (i - L.bi).toNat = D at *;generalize termL L i = tm at *;obtain ⟨tt, tb⟩ := tm;obtain ⟨a, c, rfl⟩ := h.slice;unfold logV logA at *;obtain ⟨bi, bt, l, cm⟩ := L;simp only at H1 T0 HCU HCF HTA hc ⊢;clear h hin hmi;have hcI : ¬ (i ≤ cm) := hc;have pre : ∀ (X : List EntV) (hX : X = if tb = true ∧ tt = t then D else []), Calls Tryz.prog 197 #[.agg #[.int .i64 bi, .int .i64 bt, .slice a l.length c, .int .i64 cm], .agg #[.int .i64 i, .int .i64 t]] w fun e w' => ∃ g, e = .returned (.tuple #[.agg #[.int .i64 i, .int .i64 t, g, .int .i64 i], .bool true, .int .i64 0]) ∧ w'.ownsRow w.heap.size 55 3 g X.length (entC X) ∧ Below w.heap.size w w' := by
     intro X hX;have HX := hideIt hX;clear hX
     by_cases hq : tb = true ∧ tt = t
     ·rw [if_pos hq] at HX;obtain ⟨rfl, hqt⟩ := hq;have hq2 := hqt.symm;subst hq2;clear hqt
      go_enter Tryz.func197, Tryz.ntmps197
      go_wp2_with fail
      refine H1.out.mono ?_;rintro e w1 ⟨rfl, hbl⟩;dsimp only;have T1 := hideIt (T0.out.keep hbl);obtain ⟨c0, c1, c2, c3, m0, m1, cf⟩ := T1.out.cells;simp only at c0 c1 c2 c3;clear T0 H1 hbl
      go_wp2_with fail
      refine (HM.out _).mono ?_;rintro e w2 ⟨rfl, hbl⟩;dsimp only;have T2 := hideIt (T1.out.keep hbl);clear hbl HM T1 c0 c1 c2 c3 m0 m1 cf;obtain ⟨c0, c1, c2, c3, m0, m1, cf⟩ := T2.out.cells;simp only at c0 c1 c2 c3
      go_wp2_with fail
      refine (HCU.out _ T2.out.bel).mono ?_;rintro e w3 ⟨rfl, rfl⟩;dsimp only;have HBX := hideIt (And.intro (heap_alloc_new w2 (.cells #[.int .i64 bi, .int .i64 bt, .slice a l.length c, .int .i64 cm] 36)) (T2.out.keep (below1 w2 (.cells #[.int .i64 bi, .int .i64 bt, .slice a l.length c, .int .i64 cm] 36))));generalize w2.alloc (.cells #[.int .i64 bi, .int .i64 bt, .slice a l.length c, .int .i64 cm] 36) = w3 at *;generalize w2.heap.size = kb at *;clear T2 c0 c1 c2 c3 m0 m1 cf HCU;obtain ⟨c0, c1, c2, c3, m0, m1, cf⟩ := HBX.out.2.cells;simp only at c0 c1 c2 c3
      go_upto_region 10 with fail
      have HB4 := hideIt (And.intro (HBX.out.2.keep (below1 w3 (.cells #[.int .i64 i, .int .i64 t, .slice none 0 0, .int .i64 i] 36))) (And.intro (heap_alloc_new w3 (.cells #[.int .i64 i, .int .i64 t, .slice none 0 0, .int .i64 i] 36)) (((below1 w3 (.cells #[.int .i64 i, .int .i64 t, .slice none 0 0, .int .i64 i] 36)).block kb (Array.getElem?_eq_some_iff.1 HBX.out.1).1).trans HBX.out.1)));have hk8 : w.heap.size + 3 ≤ w3.heap.size := HBX.out.2.size;generalize w3.alloc (.cells #[.int .i64 i, .int .i64 t, .slice none 0 0, .int .i64 i] 36) = w4 at *;generalize w3.heap.size = k8 at *;clear HBX c0 c1 c2 c3 m0 m1 cf;obtain ⟨c0, c1, c2, c3, m0, m1, cf⟩ := HB4.out.1.cells;simp only at c0 c1 c2 c3
      go_wp2_with fail
      refine (HTA.out _ HB4.out.1.bel).mono ?_;rintro e w5 ⟨rfl, hbl⟩;dsimp only;have T5 := hideIt (HB4.out.1.keep hbl);have H85 := hideIt ((hbl.block _ (Array.getElem?_eq_some_iff.1 HB4.out.2.1).1).trans HB4.out.2.1);have HB5 : Hid (Box w kb ⟨bi, bt, l, cm⟩ (.slice a l.length c) w5) := ⟨(hbl.block _ (Array.getElem?_eq_some_iff.1 HB4.out.2.2).1).trans HB4.out.2.2, T5.out.bel⟩;clear hbl HTA HB4 c0 c1 c2 c3 m0 m1 cf;obtain ⟨c0, c1, c2, c3, m0, m1, cf⟩ := T5.out.cells;simp only at c0 c1 c2 c3;have HR := hideIt (HCF.out kb w w5 HB5.out T5.out.bel);clear HCF
      go_wp2_with fail
      refine HR.out.mono ?_;rintro e w6 ⟨r, rfl, ho, hbl⟩;dsimp only;have T6 := hideIt (T5.out.keep hbl);have H86 := hideIt ((hbl.block _ (Array.getElem?_eq_some_iff.1 H85.out).1).trans H85.out);obtain ⟨ra, rc, rfl⟩ := own_len ho;have HO := hideIt (And.intro ho (Array.getElem?_eq_some_iff.1 H85.out).1);clear ho hbl HR T5 H85 HB5 c0 c1 c2 c3 m0 m1 cf;have e0 : w6.cell? ⟨k8, 0, none⟩ = some (.int .i64 i) := by rw [cell_at H86.out]; rfl
      have e1 : w6.cell? ⟨k8, 1, none⟩ = some (.int .i64 t) := by rw [cell_at H86.out]; rfl
      have e2 : w6.cell? ⟨k8, 2, none⟩ = some (.slice none 0 0) := by rw [cell_at H86.out]; rfl
      have e3 : w6.cell? ⟨k8, 3, none⟩ = some (.int .i64 i) := by rw [cell_at H86.out]; rfl
      have ef : ∀ j, w6.frozen? ⟨k8, j, none⟩ = false := fun j => free_at H86.out j
      obtain ⟨z0, z1, z2, z3, zf⟩ := T6.out.zero;have HF := fin4 (w := w) (wx := w6.setCell ⟨k8, 2, none⟩ (.slice ra D.length rc)) (R := w.heap.size + 1 + 1) (.int .i64 i) (.int .i64 t) (.slice ra D.length rc) (.int .i64 i) (setOther _ T6.out.res (by omega)) (by omega) (belowSet _ T6.out.bel (by omega));have HG := own4 (R := w.heap.size + 1 + 1) (.int .i64 i) (.int .i64 t) (.slice ra D.length rc) (.int .i64 i) (ownSet (b := k8) (j := 2) (.slice ra D.length rc) HO.out.1 HO.out.2) (by have := HO.out.2; omega) w.heap.size (by have := HO.out.2; omega)
      clear T6 HO H86;go_wp2;obtain ⟨e1, e2⟩ := HF.out;have e3 := HG.out
      revert e1 e2 e3
      generalize (World.setCell _ ⟨w.heap.size + 1 + 1, 3, none⟩ _) = W;intro e1 e2 e3;rw [HX.out];exact bodyPost_ret (v := .tuple #[.agg #[.int .i64 i, .int .i64 t, .slice ra D.length rc, .int .i64 i], .bool true, .int .i64 0]) (by simp [results, Tryz.results197, go_sem, cell_at e1]) rfl ⟨_, rfl, e3, e2⟩
     ·rw [if_neg hq] at HX;have hqb : (tb && (tt == t)) = false := by
       rw [Bool.eq_false_iff];intro e;rw [Bool.and_eq_true, beq_iff_eq] at e;exact hq e
      rcases Bool.eq_false_or_eq_true tb with htb | htb
      ·subst htb;have htt : (tt == t) = false := by simpa using hqb
       go_enter Tryz.func197, Tryz.ntmps197
       go_wp2_with fail
       refine H1.out.mono ?_;rintro e w1 ⟨rfl, hbl⟩;dsimp only;have T1 := hideIt (T0.out.keep hbl);obtain ⟨c0, c1, c2, c3, m0, m1, cf⟩ := T1.out.cells;simp only at c0 c1 c2 c3;clear T0 H1 hbl
       go_wp2_with fail
       refine (HM.out _).mono ?_;rintro e w2 ⟨rfl, hbl⟩;dsimp only;have T2 := hideIt (T1.out.keep hbl);clear hbl HM T1 c0 c1 c2 c3 m0 m1 cf;obtain ⟨c0, c1, c2, c3, m0, m1, cf⟩ := T2.out.cells;simp only at c0 c1 c2 c3
       go_wp2_with fail
       refine (HCU.out _ T2.out.bel).mono ?_;rintro e w3 ⟨rfl, rfl⟩;dsimp only;have HBX := hideIt (And.intro (heap_alloc_new w2 (.cells #[.int .i64 bi, .int .i64 bt, .slice a l.length c, .int .i64 cm] 36)) (T2.out.keep (below1 w2 (.cells #[.int .i64 bi, .int .i64 bt, .slice a l.length c, .int .i64 cm] 36))));generalize w2.alloc (.cells #[.int .i64 bi, .int .i64 bt, .slice a l.length c, .int .i64 cm] 36) = w3 at *;generalize w2.heap.size = kb at *;clear T2 c0 c1 c2 c3 m0 m1 cf HCU;obtain ⟨c0, c1, c2, c3, m0, m1, cf⟩ := HBX.out.2.cells;simp only at c0 c1 c2 c3
       go_upto_region 10 with fail
       have HB4 := hideIt (And.intro (HBX.out.2.keep (below1 w3 (.cells #[.int .i64 i, .int .i64 t, .slice none 0 0, .int .i64 i] 36))) (And.intro (heap_alloc_new w3 (.cells #[.int .i64 i, .int .i64 t, .slice none 0 0, .int .i64 i] 36)) (((below1 w3 (.cells #[.int .i64 i, .int .i64 t, .slice none 0 0, .int .i64 i] 36)).block kb (Array.getElem?_eq_some_iff.1 HBX.out.1).1).trans HBX.out.1)));have hk8 : w.heap.size + 3 ≤ w3.heap.size := HBX.out.2.size;generalize w3.alloc (.cells #[.int .i64 i, .int .i64 t, .slice none 0 0, .int .i64 i] 36) = w4 at *;generalize w3.heap.size = k8 at *;clear HBX c0 c1 c2 c3 m0 m1 cf;obtain ⟨c0, c1, c2, c3, m0, m1, cf⟩ := HB4.out.1.cells;simp only at c0 c1 c2 c3
       go_wp2_with fail
       refine (HTA.out _ HB4.out.1.bel).mono ?_;rintro e w5 ⟨rfl, hbl⟩;dsimp only;have T5 := hideIt (HB4.out.1.keep hbl);have H85 := hideIt ((hbl.block _ (Array.getElem?_eq_some_iff.1 HB4.out.2.1).1).trans HB4.out.2.1);have HB5 : Hid (Box w kb ⟨bi, bt, l, cm⟩ (.slice a l.length c) w5) := ⟨(hbl.block _ (Array.getElem?_eq_some_iff.1 HB4.out.2.2).1).trans HB4.out.2.2, T5.out.bel⟩;clear hbl HTA HB4 c0 c1 c2 c3 m0 m1 cf;obtain ⟨c0, c1, c2, c3, m0, m1, cf⟩ := T5.out.cells;simp only at c0 c1 c2 c3;clear HCF;have e0 : w5.cell? ⟨k8, 0, none⟩ = some (.int .i64 i) := by rw [cell_at H85.out]; rfl
       have e1 : w5.cell? ⟨k8, 1, none⟩ = some (.int .i64 t) := by rw [cell_at H85.out]; rfl
       have e2 : w5.cell? ⟨k8, 2, none⟩ = some (.slice none 0 0) := by rw [cell_at H85.out]; rfl
       have e3 : w5.cell? ⟨k8, 3, none⟩ = some (.int .i64 i) := by rw [cell_at H85.out]; rfl
       obtain ⟨z0, z1, z2, z3, zf⟩ := T5.out.zero;have HF := T5.out.put (.int .i64 i) (.int .i64 t) (.slice none 0 0) (.int .i64 i);clear T5 H85 HB5;go_wp2;obtain ⟨e1, e2⟩ := HF.out
       revert e1 e2
       generalize (World.setCell _ ⟨w.heap.size + 1 + 1, 3, none⟩ _) = W;intro e1 e2;rw [HX.out];exact bodyPost_ret (v := .tuple #[.agg #[.int .i64 i, .int .i64 t, .slice none 0 0, .int .i64 i], .bool true, .int .i64 0]) (by simp [results, Tryz.results197, go_sem, cell_at e1]) rfl ⟨_, rfl, own_nil _ _, e2⟩
      ·subst htb
       go_enter Tryz.func197, Tryz.ntmps197
       go_wp2_with fail
       refine H1.out.mono ?_;rintro e w1 ⟨rfl, hbl⟩;dsimp only;have T1 := hideIt (T0.out.keep hbl);obtain ⟨c0, c1, c2, c3, m0, m1, cf⟩ := T1.out.cells;simp only at c0 c1 c2 c3;clear T0 H1 hbl
       go_wp2_with fail
       refine (HM.out _).mono ?_;rintro e w2 ⟨rfl, hbl⟩;dsimp only;have T2 := hideIt (T1.out.keep hbl);clear hbl HM T1 c0 c1 c2 c3 m0 m1 cf;obtain ⟨c0, c1, c2, c3, m0, m1, cf⟩ := T2.out.cells;simp only at c0 c1 c2 c3
       go_wp2_with fail
       refine (HCU.out _ T2.out.bel).mono ?_;rintro e w3 ⟨rfl, rfl⟩;dsimp only;have HBX := hideIt (And.intro (heap_alloc_new w2 (.cells #[.int .i64 bi, .int .i64 bt, .slice a l.length c, .int .i64 cm] 36)) (T2.out.keep (below1 w2 (.cells #[.int .i64 bi, .int .i64 bt, .slice a l.length c, .int .i64 cm] 36))));generalize w2.alloc (.cells #[.int .i64 bi, .int .i64 bt, .slice a l.length c, .int .i64 cm] 36) = w3 at *;generalize w2.heap.size = kb at *;clear T2 c0 c1 c2 c3 m0 m1 cf HCU;obtain ⟨c0, c1, c2, c3, m0, m1, cf⟩ := HBX.out.2.cells;simp only at c0 c1 c2 c3
       go_upto_region 10 with fail
       have HB4 := hideIt (And.intro (HBX.out.2.keep (below1 w3 (.cells #[.int .i64 i, .int .i64 t, .slice none 0 0, .int .i64 i] 36))) (And.intro (heap_alloc_new w3 (.cells #[.int .i64 i, .int .i64 t, .slice none 0 0, .int .i64 i] 36)) (((below1 w3 (.cells #[.int .i64 i, .int .i64 t, .slice none 0 0, .int .i64 i] 36)).block kb (Array.getElem?_eq_some_iff.1 HBX.out.1).1).trans HBX.out.1)));have hk8 : w.heap.size + 3 ≤ w3.heap.size := HBX.out.2.size;generalize w3.alloc (.cells #[.int .i64 i, .int .i64 t, .slice none 0 0, .int .i64 i] 36) = w4 at *;generalize w3.heap.size = k8 at *;clear HBX c0 c1 c2 c3 m0 m1 cf;obtain ⟨c0, c1, c2, c3, m0, m1, cf⟩ := HB4.out.1.cells;simp only at c0 c1 c2 c3
       go_wp2_with fail
       refine (HTA.out _ HB4.out.1.bel).mono ?_;rintro e w5 ⟨rfl, hbl⟩;dsimp only;have T5 := hideIt (HB4.out.1.keep hbl);have H85 := hideIt ((hbl.block _ (Array.getElem?_eq_some_iff.1 HB4.out.2.1).1).trans HB4.out.2.1);have HB5 : Hid (Box w kb ⟨bi, bt, l, cm⟩ (.slice a l.length c) w5) := ⟨(hbl.block _ (Array.getElem?_eq_some_iff.1 HB4.out.2.2).1).trans HB4.out.2.2, T5.out.bel⟩;clear hbl HTA HB4 c0 c1 c2 c3 m0 m1 cf;obtain ⟨c0, c1, c2, c3, m0, m1, cf⟩ := T5.out.cells;simp only at c0 c1 c2 c3;clear HCF;have e0 : w5.cell? ⟨k8, 0, none⟩ = some (.int .i64 i) := by rw [cell_at H85.out]; rfl
       have e1 : w5.cell? ⟨k8, 1, none⟩ = some (.int .i64 t) := by rw [cell_at H85.out]; rfl
       have e2 : w5.cell? ⟨k8, 2, none⟩ = some (.slice none 0 0) := by rw [cell_at H85.out]; rfl
       have e3 : w5.cell? ⟨k8, 3, none⟩ = some (.int .i64 i) := by rw [cell_at H85.out]; rfl
       obtain ⟨z0, z1, z2, z3, zf⟩ := T5.out.zero;have HF := T5.out.put (.int .i64 i) (.int .i64 t) (.slice none 0 0) (.int .i64 i);clear T5 H85 HB5;go_wp2;obtain ⟨e1, e2⟩ := HF.out
       revert e1 e2
       generalize (World.setCell _ ⟨w.heap.size + 1 + 1, 3, none⟩ _) = W;intro e1 e2;rw [HX.out];exact bodyPost_ret (v := .tuple #[.agg #[.int .i64 i, .int .i64 t, .slice none 0 0, .int .i64 i], .bool true, .int .i64 0]) (by simp [results, Tryz.results197, go_sem, cell_at e1]) rfl ⟨_, rfl, own_nil _ _, e2⟩
    have := pre _ rfl;refine this.mono ?_;rintro e w' ⟨g, rfl, h1, h2⟩
    exact ⟨g, rfl, h1, h2⟩
  ·rw [if_neg hk];obtain ⟨a, c, rfl⟩ := h.slice;unfold logV logA at *;obtain ⟨bi, bt, l, cm⟩ := L;simp only at H1 T0 ⊢;clear h;cases hk1 : mkB i t
   ·rw [hk1] at HM;clear hk
    go_enter Tryz.func197, Tryz.ntmps197
    go_wp2_with fail
    refine H1.out.mono ?_;rintro e w1 ⟨rfl, hbl⟩;dsimp only;have T1 := hideIt (T0.out.keep hbl);obtain ⟨c0, c1, c2, c3, m0, m1, cf⟩ := T1.out.cells;simp only at c0 c1 c2 c3;clear T0 H1 hbl
    go_wp2_with fail
    refine (HM.out _).mono ?_;rintro e w2 ⟨rfl, hbl⟩;dsimp only;have T2 := hideIt (T1.out.keep hbl);obtain ⟨z0, z1, z2, z3, zf⟩ := T2.out.zero;have HP := T2.out.put (.int .i64 0) (.int .i64 0) (.slice none 0 0) (.int .i64 0);clear T1 T2 hbl HM c0 c1 c2 c3 m0 m1 cf;obtain ⟨e1, e2⟩ := HP.out;clear HP;go_wp2
    revert e1 e2
    generalize (World.setCell _ ⟨w.heap.size + 1 + 1, 3, none⟩ _) = W;intro e1 e2;exact bodyPost_ret (v := .tuple #[logV zL (.slice none 0 0), .bool false, .int .i64 1]) (by simp [results, Tryz.results197, go_sem, cell_at e1, logV, logA, zL]) rfl ⟨_, rfl, own_nil _ _, e2⟩
   ·have hi0 : i = 0 := by
     rw [hk1] at hk
     simpa using hk
    subst hi0;rw [hk1] at HM;clear hk
    go_enter Tryz.func197, Tryz.ntmps197
    go_wp2_with fail
    refine H1.out.mono ?_;rintro e w1 ⟨rfl, hbl⟩;dsimp only;have T1 := hideIt (T0.out.keep hbl);obtain ⟨c0, c1, c2, c3, m0, m1, cf⟩ := T1.out.cells;simp only at c0 c1 c2 c3;clear T0 H1 hbl
    go_wp2_with fail
    refine (HM.out _).mono ?_;rintro e w2 ⟨rfl, hbl⟩;dsimp only;have T2 := hideIt (T1.out.keep hbl);obtain ⟨z0, z1, z2, z3, zf⟩ := T2.out.zero;clear c0 c1 c2 c3 m0 m1 cf;obtain ⟨c0, c1, c2, c3, m0, m1, cf⟩ := T2.out.cells;have HP := T2.out.put (.int .i64 0) (.int .i64 0) (.slice none 0 0) (.int .i64 0);clear T1 T2 hbl HM;obtain ⟨e1, e2⟩ := HP.out;clear HP;go_wp2
    revert e1 e2
    generalize (World.setCell _ ⟨w.heap.size + 1 + 1, 3, none⟩ _) = W;intro e1 e2;exact bodyPost_ret (v := .tuple #[logV zL (.slice none 0 0), .bool false, .int .i64 1]) (by simp [results, Tryz.results197, go_sem, cell_at e1, logV, logA, zL]) rfl ⟨_, rfl, own_nil _ _, e2⟩
structure NodeV where
 me : Int
 n : Int
 b : Tm.Bal
 ld : Int
 L : LogV
 tx : ByteArray
 nx : List Int
 mt : List Int
structure MsgW where
 kind : Int
 frm : Int
 dst : Int
 term : Int
 pi : Int
 pt : Int
 es : List EntV
 cm : Int
 ok : Bool
 mtch : Int
 si : Int
 st : Int
 tx : ByteArray
structure RecV where
 kind : Int
 ht : Int
 hv : Int
 at_ : Int
 es : List EntV
 si : Int
 st : Int
 tx : ByteArray
structure EvV where
 kind : Int
 idx : Int
 tx : ByteArray
 m : MsgW
structure WkV where
 d : NodeV
 rs : List RecV
 ms : List MsgW
 ix : Int
 wt : Bool
def noT : ByteArray := ⟨#[]⟩
def ofNodes (l : List Int) (n least most : Int) : Bool := decide ((l.length : Int) = n + 1) && (decide (l.head? = some 0) && (decide (least ≤ Lib.minOf (l.drop 1)) && decide (Lib.maxOf l ≤ most)))
def leadB (d : NodeV) : Bool := if d.b.r = 3 then decide (d.ld = d.me) && (ofNodes d.nx d.n 1 ((lastL d.L).1 + 1) && ofNodes d.mt d.n 0 (lastL d.L).1) else decide (d.nx.length = 0) && decide (d.mt.length = 0)
def textB (t : ByteArray) (bi : Int) : Bool := decide (t.size ≤ 50000) && (decide (0 < bi) || decide (t.size = 0))
def nodeB (d : NodeV) : Bool := wiB d.n 1 7 && (wiB d.me 1 d.n && (wiB d.ld 0 d.n && (Tm.mayB d.b && (decide ((d.b.l.length : Int) ≤ d.n) && (mayB d.L && (textB d.tx d.L.bi && leadB d))))))
def zNode : NodeV := ⟨0, 0, Tm.zB, 0, zL, noT, [], []⟩
def startN (me n t v si st : Int) (tx : ByteArray) (l : List EntV) : NodeV × Int :=
 if nodeB ⟨me, n, ⟨t, v, 1, []⟩, 0, ⟨si, st, l, si⟩, tx, [], []⟩ then (⟨me, n, ⟨t, v, 1, []⟩, 0, ⟨si, st, l, si⟩, tx, [], []⟩, 0) else (zNode, 100)
def tellW (W : WkV) (m : MsgW) : WkV := {W with ms := W.ms ++ [{m with frm := W.d.me, term := W.d.b.t}]}
def msg0 (kind dst : Int) : MsgW := ⟨kind, 0, dst, 0, 0, 0, [], 0, false, 0, 0, 0, noT⟩
def sendW (W : WkV) (k : Nat) : WkV :=
 if W.d.nx.getD k 0 ≤ W.d.L.bi then tellW W {msg0 5 k with si := W.d.L.bi, st := W.d.L.bt, tx := W.d.tx}
 else tellW W {msg0 3 k with pi := W.d.nx.getD k 0 - 1, pt := (termL W.d.L (W.d.nx.getD k 0 - 1)).1, es := fromL W.d.L (W.d.nx.getD k 0) 16, cm := W.d.L.cm}
def pollW (W : WkV) (k : Nat) : WkV := tellW W {msg0 1 k with pi := (lastL W.d.L).1, pt := (lastL W.d.L).2}
def eachW (f : WkV → Nat → WkV) : Nat → WkV → WkV
 | 0, W => W
 | k + 1, W => if ((k + 1 : Nat) : Int) = (eachW f k W).d.me then eachW f k W else f (eachW f k W) (k + 1)
def allW (f : WkV → Nat → WkV) (W : WkV) : WkV := eachW f W.d.n.toNat W
def tailW (W : WkV) (i : Int) : WkV := {W with rs := W.rs ++ [⟨2, 0, 0, i, fromL W.d.L i 400, 0, 0, noT⟩]}
def snapW (W : WkV) : WkV := {W with rs := W.rs ++ [⟨3, 0, 0, 0, [], W.d.L.bi, W.d.L.bt, W.d.tx⟩]}
def advW (W : WkV) : WkV := {W with d := {W.d with L := (advL W.d.L W.d.b.t (W.d.mt.drop 1)).1}}
def putN (l : List Int) (k x : Int) : List Int := l.set k.toNat x
def addW (W : WkV) (e : EntV) : WkV × Int :=
 if (addL W.d.L e).2 = 0 then
  (allW sendW (advW {tailW {W with d := {W.d with L := (addL W.d.L e).1}} (lastL (addL W.d.L e).1).1 with d := {W.d with L := (addL W.d.L e).1, mt := putN W.d.mt W.d.me (lastL (addL W.d.L e).1).1}}), 0)
 else (W, 102)
def leadW (W : WkV) : WkV × Int :=
 addW {W with d := {W.d with ld := W.d.me, nx := (List.replicate (W.d.n + 1).toNat ((lastL W.d.L).1 + 1)).set 0 0, mt := List.replicate (W.d.n + 1).toNat 0}, wt := true} ⟨W.d.b.t, 1, noT⟩
def timeW (W : WkV) : WkV × Int :=
 if W.d.b.r = 3 then (allW sendW {W with wt := true}, 0)
 else if (Tm.beginL W.d.b W.d.me W.d.n).2 ≠ 0 then ({W with wt := true}, 102)
 else if (Tm.beginL W.d.b W.d.me W.d.n).1.r = 3 then leadW {W with d := {W.d with b := (Tm.beginL W.d.b W.d.me W.d.n).1, ld := 0}, wt := true}
 else (allW pollW {W with d := {W.d with b := (Tm.beginL W.d.b W.d.me W.d.n).1, ld := 0}, wt := true}, 0)
def propW (W : WkV) (t : ByteArray) : WkV × Int :=
 if W.d.b.r ≠ 3 then (W, 101) else if 4000 < t.size then (W, 2)
 else ({(addW W ⟨W.d.b.t, 2, t⟩).1 with ix := (lastL (addW W ⟨W.d.b.t, 2, t⟩).1.d.L).1}, (addW W ⟨W.d.b.t, 2, t⟩).2)
def saveW (W : WkV) (i : Int) (t : ByteArray) : WkV × Int :=
 if 50000 < t.size then (W, 2) else if (compL W.d.L i).2 ≠ 0 then (W, (compL W.d.L i).2)
 else (snapW {W with d := {W.d with L := (compL W.d.L i).1, tx := t}}, 0)
def follW (W : WkV) (ld : Int) : WkV := {W with d := {W.d with b := ⟨W.d.b.t, W.d.b.v, 1, []⟩, ld := ld, nx := [], mt := []}}
def hearW (W : WkV) (t : Int) : WkV :=
 if (Tm.hear2L W.d.b t).1.t = W.d.b.t ∧ (Tm.hear2L W.d.b t).1.v = W.d.b.v then W else follW {W with d := {W.d with b := (Tm.hear2L W.d.b t).1}} 0
def answW (W : WkV) (m : MsgW) (ok : Bool) (x : Int) : WkV := tellW W {msg0 4 m.frm with ok := ok, mtch := x}
def pollED (W : WkV) (m : MsgW) : WkV :=
 tellW {W with d := {W.d with b := (Tm.grantL W.d.b m.frm m.term m.pi m.pt (lastL W.d.L).1 (lastL W.d.L).2).1}, wt := (Tm.grantL W.d.b m.frm m.term m.pi m.pt (lastL W.d.L).1 (lastL W.d.L).2).2.1} {msg0 2 m.frm with ok := (Tm.grantL W.d.b m.frm m.term m.pi m.pt (lastL W.d.L).1 (lastL W.d.L).2).2.1}
def granED (W : WkV) (m : MsgW) : WkV × Int :=
 if W.d.b.r = 3 ∨ (Tm.countL W.d.b m.frm m.term m.ok W.d.n).1.r ≠ 3 then ({W with d := {W.d with b := (Tm.countL W.d.b m.frm m.term m.ok W.d.n).1}}, 0)
 else leadW {W with d := {W.d with b := (Tm.countL W.d.b m.frm m.term m.ok W.d.n).1}}
def sameN : List EntV → List EntV → Nat
 | a :: l, b :: k => if eqE a b then sameN l k + 1 else 0
 | _, _ => 0
def accW (W : WkV) (m : MsgW) : WkV :=
 if (accL W.d.L m.pi m.pt m.es m.cm).2.2.2 ≠ 0 then answW W m false W.d.L.cm
 else if (accL W.d.L m.pi m.pt m.es m.cm).2.2.1 = false then answW W m false (min (lastL W.d.L).1 (m.pi - 1))
 else answW (if sameN W.d.L.l (accL W.d.L m.pi m.pt m.es m.cm).1.l < max W.d.L.l.length (accL W.d.L m.pi m.pt m.es m.cm).1.l.length then tailW {W with d := {W.d with L := (accL W.d.L m.pi m.pt m.es m.cm).1}} ((accL W.d.L m.pi m.pt m.es m.cm).1.bi + 1 + (sameN W.d.L.l (accL W.d.L m.pi m.pt m.es m.cm).1.l : Nat)) else {W with d := {W.d with L := (accL W.d.L m.pi m.pt m.es m.cm).1}}) m true (accL W.d.L m.pi m.pt m.es m.cm).2.1
def instW (W : WkV) (m : MsgW) : WkV :=
 answW (if (instL W.d.L m.si m.st).2.1 then snapW {W with d := {W.d with L := (instL W.d.L m.si m.st).1, tx := m.tx}} else W) m true (min m.si (if (instL W.d.L m.si m.st).2.1 then (instL W.d.L m.si m.st).1.cm else W.d.L.cm))
def ledW (W : WkV) (m : MsgW) : WkV :=
 if m.term < W.d.b.t then answW W m false 0
 else if W.d.b.r = 3 then W
 else if m.kind = 3 then accW {follW W m.frm with wt := true} m else instW {follW W m.frm with wt := true} m
def appdW (W : WkV) (m : MsgW) : WkV :=
 if W.d.b.r ≠ 3 ∨ m.term ≠ W.d.b.t ∨ (lastL W.d.L).1 < m.mtch then W
 else if m.ok = false then sendW {W with d := {W.d with nx := putN W.d.nx m.frm (max (min (m.mtch + 1) (W.d.nx.getD m.frm.toNat 0)) (W.d.mt.getD m.frm.toNat 0 + 1))}} m.frm.toNat
 else
  let W1 := advW {W with d := {W.d with mt := putN W.d.mt m.frm (max (W.d.mt.getD m.frm.toNat 0) m.mtch), nx := putN W.d.nx m.frm (max (W.d.nx.getD m.frm.toNat 0) (max (W.d.mt.getD m.frm.toNat 0) m.mtch + 1))}}
  if W1.d.nx.getD m.frm.toNat 0 ≤ (lastL W.d.L).1 then sendW W1 m.frm.toNat else W1
def msgN (m : MsgW) : Nt.MsgV × List Nt.EntV := (⟨m.kind, m.frm, m.dst, m.term, m.pi, m.pt, none, m.es.length, 0, m.cm, m.ok, m.mtch, m.si, m.st, m.tx⟩, m.es.map (fun e => ⟨e.term, e.kind, e.text⟩))
def sentB (m : MsgW) : Bool := Nt.mayB (msgN m).1 (msgN m).2
def messW (W : WkV) (m : MsgW) : WkV × Int :=
 if sentB m = false ∨ m.dst ≠ W.d.me ∨ W.d.n < m.frm then (W, 1)
 else if m.kind = 1 then (pollED (hearW W m.term) m, 0)
 else if m.kind = 2 then granED (hearW W m.term) m
 else if m.kind = 4 then (appdW (hearW W m.term) m, 0)
 else (ledW (hearW W m.term) m, 0)
def hardW (W : WkV) (t v : Int) : WkV := if W.d.b.t = t ∧ W.d.b.v = v then W else {W with rs := ⟨1, W.d.b.t, W.d.b.v, 0, [], 0, 0, noT⟩ :: W.rs}
def evW (W : WkV) (e : EvV) : WkV × Int :=
 if e.kind = 1 then timeW W else if e.kind = 2 then propW W e.tx else if e.kind = 3 then messW W e.m else saveW W e.idx e.tx
def zWk : WkV := ⟨zNode, [], [], 0, false⟩
def stepN (d : NodeV) (e : EvV) : WkV × Int :=
 if nodeB d = false then (zWk, 100) else if wiB e.kind 1 4 = false then (zWk, 1)
 else if (evW ⟨d, [], [], 0, false⟩ e).2 ≠ 0 then (zWk, (evW ⟨d, [], [], 0, false⟩ e).2)
 else (hardW (evW ⟨d, [], [], 0, false⟩ e).1 d.b.t d.b.v, 0)
end Go.Proofs.YtcaehfkfohianaaGreat
namespace Go.Proofs.YtcaehfkfohianaaGreat.Tm
open Go.RowKit
theorem iteB (c : Prop) [Decidable c] (b : Bool) (w : World) : (if c then Result.ok (Value.bool b) w else Result.ok (Value.bool false) w) = Result.ok (Value.bool (decide c && b)) w := by
 by_cases h : c <;> simp [h]
set_option maxHeartbeats 1000000 in
theorem eq23 (a b c d : Int) (w : World) : (binOp .eql 23 (.agg #[.int .i64 a, .int .i64 b]) (.agg #[.int .i64 c, .int .i64 d])).run Tryz.prog w = .ok (.bool (a == c && b == d)) w := by
 simp [go_sem]
 simp only [iteB]
 congr 2
 rw [Bool.eq_iff_iff]
 simp
theorem info3 : (Tryz.prog.info? 3).map (fun i => (i.zero, i.size, i.bytes)) = some (some (.int .i64 0), 1, 8) := by kernel_rfl
theorem addN (b off j : Nat) : (⟨b, off, none⟩ : Addr).add j = ⟨b, off + j, none⟩ := by cases j <;> simp [Addr.add]
theorem grown_refl (w : World) (r : Option Nat) : w.grownBy w r := ⟨rfl, rfl, rfl, Nat.le_refl _, fun _ _ _ => rfl⟩
theorem run_app_none (w : World) (ty : TypeId) (B : Nat) (v : Value) (n : Nat) (xs : List Value) (hown : w.ownsRow B 3 1 v n xs) (c : Nat) : (Builtin.append_ #[32, 32] ty #[v, .slice none 0 c]).run Tryz.prog w = .ok v w := by
 obtain ⟨i, hi, hz0, hz1, hz2⟩ := info_parts info3;have ht : Tryz.prog.underlying 32 = some (.slice 3) := Tryz.underlying32
 rcases hown.2 with ⟨rfl, rfl⟩ | ⟨g, cap, cur, rfl, _, _, hnc, _⟩
 ·simp [Builtin.append_, run_underlying ht, sizeOf, typeInfo, hi, Builtin.lenOf, Builtin.firstCells]
 ·simp [Builtin.append_, run_underlying ht, sizeOf, typeInfo, hi, Builtin.lenOf, Builtin.firstCells, hnc, storeCells]
theorem run_app (w : World) (ty : TypeId) (B : Nat) (v : Value) (xs l : List Int) (g : Value) (hB : B ≤ w.heap.size) (ho : w.ownsRow B 3 1 v xs.length (xs.map iv)) (hg : GotAt w g l) (hl : (xs.length + l.length) * 8 ≤ 140737488355328) :
  ∃ v' w', (Builtin.append_ #[32, 32] ty #[v, g]).run Tryz.prog w = .ok v' w' ∧ w'.ownsRow B 3 1 v' (xs ++ l).length ((xs ++ l).map iv) ∧ w.grownBy w' v.ownBlock := by
 obtain ⟨i, hi, hz0, hz1, hz2⟩ := info_parts info3;have ht : Tryz.prog.underlying 32 = some (.slice 3) := Tryz.underlying32;have hm : xs.length + l.length ≤ maxLen := by unfold maxLen; omega
 rcases hg.parts with ⟨rfl, a, c, rfl⟩ | ⟨b, off, c, rfl, hlt, h8, hp, hc⟩
 ·rw [List.append_nil];cases a with
  | none => exact ⟨v, w, run_app_none w ty B v xs.length (xs.map iv) ho c, ho, grown_refl w _⟩
  | some a =>
   obtain ⟨v', w', h1, h2, h3, _⟩ := run_append_own (P := Tryz.prog) w B 32 ty 3 i (.int .i64 0) 1 8 ht hi hz0 hz1 hz2 rfl (by omega) v xs.length (xs.map iv) ho a 0 c [] rfl (fun j u hu => by simp at hu) (fun u hu => by simp at hu) (by simpa using hm) (by simpa using hl) hB;refine ⟨v', w', h1, ?_, h3⟩
   simpa using h2
 ·obtain ⟨v', w', h1, h2, h3, _⟩ := run_append_own (P := Tryz.prog) w B 32 ty 3 i (.int .i64 0) 1 8 ht hi hz0 hz1 hz2 rfl (by omega) v xs.length (xs.map iv) ho ⟨b, off, none⟩ l.length c (l.map iv) (by simp) (fun j u hu => by
    rw [addN];have hj : j < l.length := by
     have := (List.getElem?_eq_some_iff.1 hu).1
     simpa using this
    rw [hc j hj, ← map_get l j hj, hu]) (iv_one l) hm hl hB
  refine ⟨v', w', h1, ?_, h3⟩;rw [List.length_append, List.map_append];exact h2
theorem wpList_append_run (w : World) {ops : Array Oper} {rest : List Oper} {o : Oper} {a : Act} {Q : Exit → Act → World → Prop} (hgd : o.guard = none) (sl x : Operand)
  (ho : o.op = .call { callee := .builtin .append, args := #[sl, x], argTypes := #[32, 32] }) {v1 v2 v' : Value} {w' : World} (hs : a.eval sl = v1) (hx : a.eval x = v2) (hty : o.type = 32)
  (hrun : (Builtin.append_ #[32, 32] 32 #[v1, v2]).run Tryz.prog w = .ok v' w') (h : wpList Tryz.prog ops Q rest (a.put o.dst v') w') : wpList Tryz.prog ops Q (o :: rest) a w := by
 refine wpList_plain hgd fun K hK => ?_
 unfold Oper.wp execOp;simp only [ho, resolve, invoke, builtin, Sem.run_bind, Sem.run_pure, Result.andThen_ok, List.map_toArray, List.map_cons, List.map_nil, hs, hx, hty, hrun];exact hK _ _ h
theorem below3 (w : World) (o p q : Obj) : Below w.heap.size w (((w.alloc o).alloc p).alloc q) := (below2 w o p).alloc (by simp; omega) q
theorem three_heap (w : World) (o p q : Obj) : (((w.alloc o).alloc p).alloc q).heap[w.heap.size]? = some o ∧ (((w.alloc o).alloc p).alloc q).heap[w.heap.size + 1]? = some p ∧ (((w.alloc o).alloc p).alloc q).heap[w.heap.size + 2]? = some q ∧ (((w.alloc o).alloc p).alloc q).heap.size = w.heap.size + 3 := by
 have ht := two_heap w o p;refine ⟨?_, ?_, ?_, by simp⟩
 ·rw [heap_alloc_old _ _ (by rw [ht.2.2]; omega)]
  exact ht.1
 ·rw [heap_alloc_old _ _ (by rw [ht.2.2]; omega)]
  exact ht.2.1
 ·have h := heap_alloc_new ((w.alloc o).alloc p) q
  rwa [ht.2.2] at h
end Go.Proofs.YtcaehfkfohianaaGreat.Tm
