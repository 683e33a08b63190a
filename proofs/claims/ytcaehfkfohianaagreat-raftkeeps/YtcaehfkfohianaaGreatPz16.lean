/- Texts of my own, laid together. -/
import Derived.Test.YtcaehfkfohianaaGreatZq
import Derived.Test.YtcaehfkfohianaaGreatPz15
import Derived.Test.YtcaehfkfohianaaGreatPz12
import Derived.Deep.RegionHeld3
import Derived.Laws.CopyRow
import Derived.Laws.Externs
import Derived.Lib.AppendZerosOnto
import Derived.Lib.Overlaps
import Derived.Lib.SliceRun
import Derived.Shelf.RegionOpenPlain
import Derived.Deep.RegionLaw
import Derived.Deep.CutBlock
import Derived.Deep.CutRange
import Derived.Test.YtcaehfkfohianaaGreatPz00
import Derived.Deep.OwnRows
set_option linter.all false
namespace Go.Proofs.YtcaehfkfohianaaGreat
open Go.RowKit
theorem add_len (L : LogV) (e : EntV) (h : L.l.length ≤ 1000000) : (addL L e).1.l.length ≤ 1000000 := by
 by_cases h0 : (addL L e).2 = 0
 ·obtain ⟨a1, a2, a3, a4, a5⟩ := add_log h0;have := mayB_in a4;omega
 ·unfold addL at h0 ⊢
  split
  ·simp [zL]
  ·split
   ·simp [zL]
   ·split
    ·simp [zL]
    ·split
     ·simp [zL]
     ·split
      ·simp [zL]
      ·rename_i h1 h2 h3 h4 h5
       rw [if_neg h1, if_neg h2, if_neg h3, if_neg h4, if_neg h5] at h0;exact absurd rfl h0
set_option maxRecDepth 100000 in
set_option maxHeartbeats 16000000 in
theorem addK_is {X : WkX} {K : Nat} {w wx : World} (h : WK w K X wx) (e : EntV) (hb : NB X.d) (l : LD X.d) (hr : X.d.b.r = 3) (hM : X.M.length + 10 ≤ 1000000) (hR : X.R.length + 10 ≤ 1000000) : Calls Tryz.prog 93 #[.pointer (some ⟨K, 0, none⟩), .agg #[.int .i64 e.term, .int .i64 e.kind, .string e.text]] wx fun r w' => ∃ Y' : WkX, r = .returned (.int .i64 (addW X.v e).2) ∧ Y'.v = (addW X.v e).1 ∧ Y'.M.length ≤ X.M.length + 7 ∧ Y'.R.length ≤ X.R.length + 1 ∧ WK w K Y' w' := by
 have B0 := hideIt (And.intro (heap_alloc_new wx (.cells #[.int .i64 e.term, .int .i64 e.kind, .string e.text] 55)) (below1 wx (.cells #[.int .i64 e.term, .int .i64 e.kind, .string e.text] 55)));have HX := hideIt (h.keep B0.out.2);have hlen := add_len X.d.L e h.rows.sl;have HPUT := hideIt (fun h0 => put_nb (d := X.d) (e := e) hb l h0);have HAV : Hid (addW X.v e = if (addL X.d.L e).2 = 0 then (allW sendW (advW {tailW {X.v with d := {X.d with L := (addL X.d.L e).1}} (lastL (addL X.d.L e).1).1 with d := {X.d with L := (addL X.d.L e).1, mt := putN X.d.mt X.d.me (lastL (addL X.d.L e).1).1}}), 0) else (X.v, 102)) := hideIt rfl;have hKP : K ≠ wx.heap.size := by
  have := (Array.getElem?_eq_some_iff.1 h.box).1;omega
 clear h
 go_enter Tryz.func93, Tryz.ntmps93
 go_upto_region 1 with fail
 generalize hV0 : (World.alloc wx _) = V0 at *;generalize wx.heap.size = Q at *;have HCY : Hid (∀ W, Below V0.heap.size V0 W → Calls Tryz.prog 136 #[.agg #[.int .i64 X.d.L.bi, .int .i64 X.d.L.bt, .slice X.la X.d.L.l.length X.lc, .int .i64 X.d.L.cm], .agg #[.int .i64 e.term, .int .i64 e.kind, .string e.text]] W fun r w' => ∃ a c, r = .returned (.tuple #[.agg #[.int .i64 (addL X.d.L e).1.bi, .int .i64 (addL X.d.L e).1.bt, .slice a (addL X.d.L e).1.l.length c, .int .i64 (addL X.d.L e).1.cm], .int .i64 (addL X.d.L e).2]) ∧ Hid (w'.ownsRow V0.heap.size 55 3 (.slice a (addL X.d.L e).1.l.length c) (addL X.d.L e).1.l.length (entC (addL X.d.L e).1.l) ∧ Below V0.heap.size V0 w' ∧ Below W.heap.size W w') ∧ (w'.cell? ⟨K, 7, none⟩ = some (.int .i64 X.d.L.bi) ∧ w'.cell? ⟨K, 8, none⟩ = some (.int .i64 X.d.L.bt) ∧ w'.cell? ⟨K, 9, none⟩ = some (.slice X.la X.d.L.l.length X.lc) ∧ w'.cell? ⟨K, 10, none⟩ = some (.int .i64 X.d.L.cm) ∧ w'.cell? ⟨Q, 0, none⟩ = some (.int .i64 e.term) ∧ w'.cell? ⟨Q, 1, none⟩ = some (.int .i64 e.kind) ∧ w'.cell? ⟨Q, 2, none⟩ = some (.string e.text))) := by
  intro W hW;refine (add_is X.d.L X.gl e W (HX.out.keep hW).rows.at_.2).mono ?_;rintro r w' ⟨g, rfl, ho, hbl⟩;obtain ⟨a, c, rfl⟩ := own_len ho;have hb2 := below_via hW hbl;obtain ⟨⟨k0, k1, k2, k3, k4, k5, k6, k7, k8, k9, k10, k11, k12, k13, k14, k15, k16, k17⟩, kf, kz⟩ := at18 (HX.out.keep hb2).box;have hq := blkK B0.out.1 hb2
  exact ⟨a, c, rfl, hideIt ⟨own_base ho hW.size, hb2, hbl⟩, k7, k8, k9, k10, by rw [Tm.cell_at hq]; rfl, by rw [Tm.cell_at hq]; rfl, by rw [Tm.cell_at hq]; rfl⟩
 have ZF : Hid (∀ w', Below (V0.alloc (.cells #[.int .i64 0, .int .i64 0, .slice none 0 0, .int .i64 0] 36)).heap.size (V0.alloc (.cells #[.int .i64 0, .int .i64 0, .slice none 0 0, .int .i64 0] 36)) w' → (w'.cell? ⟨V0.heap.size, 0, none⟩ = some (.int .i64 0) ∧ w'.cell? ⟨V0.heap.size, 1, none⟩ = some (.int .i64 0) ∧ w'.cell? ⟨V0.heap.size, 2, none⟩ = some (.slice none 0 0) ∧ w'.cell? ⟨V0.heap.size, 3, none⟩ = some (.int .i64 0)) ∧ (∀ j, w'.frozen? ⟨V0.heap.size, j, none⟩ = false) ∧ V0.heap.size < w'.heap.size) := by
  intro w' hb;exact at4 ((hb.block V0.heap.size (by simp)).trans (heap_alloc_new V0 _))
 obtain ⟨⟨k0, k1, k2, k3, k4, k5, k6, k7, k8, k9, k10, k11, k12, k13, k14, k15, k16, k17⟩, kf, kz⟩ := at18 HX.out.box;have p0 : V0.cell? ⟨Q, 0, none⟩ = some (.int .i64 e.term) := by rw [Tm.cell_at B0.out.1]; rfl
 have p1 : V0.cell? ⟨Q, 1, none⟩ = some (.int .i64 e.kind) := by rw [Tm.cell_at B0.out.1]; rfl
 have p2 : V0.cell? ⟨Q, 2, none⟩ = some (.string e.text) := by rw [Tm.cell_at B0.out.1]; rfl
 have pz := (Array.getElem?_eq_some_iff.1 B0.out.1).1;have y1 : V0.heap.size ≠ K := by omega
 have y2 : V0.heap.size ≠ Q := by omega
 have y3 : K ≠ V0.heap.size := by omega
 have y4 : Q ≠ V0.heap.size := by omega
 clear k0 k1 k2 k3 k4 k5 k6 k11 k12 k13 k14 k15 k16 k17;generalize addL X.d.L e = Z at *
 go_cut [5, 6] from 8 to 16 (fun x y wy => ∃ P a c, x = .pointer (some ⟨P, 0, none⟩) ∧ y = .int .i64 Z.2 ∧ Hid (LBox V0 P Z.1 a c wy))
 case first =>
  go_region_held3 (fun W => W.cell? ⟨K, 7, none⟩ = some (.int .i64 X.d.L.bi) ∧ W.cell? ⟨K, 8, none⟩ = some (.int .i64 X.d.L.bt) ∧ W.cell? ⟨K, 9, none⟩ = some (.slice X.la X.d.L.l.length X.lc) ∧ W.cell? ⟨K, 10, none⟩ = some (.int .i64 X.d.L.cm) ∧ W.cell? ⟨Q, 0, none⟩ = some (.int .i64 e.term) ∧ W.cell? ⟨Q, 1, none⟩ = some (.int .i64 e.kind) ∧ W.cell? ⟨Q, 2, none⟩ = some (.string e.text)) (go_keep) (first | (go_at_call 136; refine (HCY.out (V0.alloc (.cells #[.int .i64 0, .int .i64 0, .slice none 0 0, .int .i64 0] 36)).drew (below1 _ _).drew).mono ?_; rintro r w5 ⟨a, c, rfl, HQ, ⟨i0, i1, i2, i3, i4, i5, i6⟩⟩; obtain ⟨⟨m0, m1, m2, m3⟩, mf, mz⟩ := ZF.out w5 (below_via (Below.refl _ _).drew HQ.out.2.2)) | (go_at_call 136; refine (HCY.out V0.drew (Below.refl _ _).drew).mono ?_; rintro r w5 ⟨a, c, rfl, HQ, ⟨i0, i1, i2, i3, i4, i5, i6⟩⟩))
  all_goals go_wp2_with fail
  all_goals go_meet
  ·exact ⟨w5.heap.size, a, c, rfl, rfl, hideIt (LBox.new HQ.out.1 HQ.out.2.1)⟩
  ·have hz := (HQ.out.2.2.block V0.heap.size (show V0.heap.size < (V0.alloc (.cells #[.int .i64 0, .int .i64 0, .slice none 0 0, .int .i64 0] 36)).heap.size by simp)).trans (heap_alloc_new V0 _)
   exact ⟨V0.heap.size, a, c, rfl, rfl, hideIt (LBox.put hz HQ.out.1 HQ.out.2.1 (Nat.le_refl _))⟩
 case rest =>
  obtain ⟨P, a, c, rfl, rfl, HB⟩ := hcut;clear HCY ZF p0 p1 p2 pz y1 y2 y3 y4 k7 k8 k9 k10 kf kz;obtain ⟨⟨m0, m1, m2, m3⟩, mf, mz⟩ := at4 HB.out.box;have HX1 := hideIt (HX.out.keep HB.out.bel)
  by_cases hz0 : Z.2 = 0
  ·have hz1 : (Z.2 == 0) = true := beq_iff_eq.2 hz0;rw [if_pos hz0] at HAV;obtain ⟨hnb, hld⟩ := HPUT.out hz0;have HX2 := hideIt (HX1.out.setLog Z.1 a c (own_base HB.out.own HX.out.bel.size) hlen);clear HPUT HX;obtain ⟨⟨k0, k1, k2, k3, k4, k5, k6, k7, k8, k9, k10, k11, k12, k13, k14, k15, k16, k17⟩, kf, kz⟩ := at18 HX1.out.box;have hPK : P ≠ K := by
    intro e1;have h1 := HX1.out.box;have h2 := HB.out.box;rw [e1, h1] at h2
    simp at h2
   go_upto_region 5 with fail
   generalize (World.setCell _ ⟨K, 10, none⟩ _) = W2 at *;have HL1 := hideIt (lastW_is HX2.out);clear k0 k1 k2 k3 k4 k5 k6 k7 k8 k9 k10 k11 k12 k13 k14 k15 k16 k17 kf kz m0 m1 m2 m3 mf mz hPK HB HX1
   go_wp2_with fail
   refine HL1.out.mono ?_;rintro r w3 ⟨rfl, hb3⟩;dsimp only;have hli := lastL_in Z.1;have HT := hideIt (keepTail_is (HX2.out.keep hb3) (lastL Z.1).1 (by unfold i64B; omega) (by simp only; omega))
   clear HL1 HX2 hb3
   go_wp2_with fail
   refine HT.out.mono ?_;rintro r w4 ⟨fa, fc, ra, rc, rfl, hw4⟩;dsimp only;have HX4 := hideIt hw4;clear HT hw4;generalize hF : fromL Z.1 (lastL Z.1).1 400 = F at *;have HY4 : Hid (WkX.v {X with d := {X.d with L := Z.1}, la := a, lc := c, R := X.R ++ [⟨⟨2, 0, 0, (lastL Z.1).1, F, 0, 0, noT⟩, fa, fc⟩], ra := ra, rc := rc} = tailW {X.v with d := {X.d with L := Z.1}} (lastL Z.1).1) := hideIt (by simp [WkX.v, tailW, hF]);generalize hY : ({X with d := {X.d with L := Z.1}, la := a, lc := c, R := X.R ++ [⟨⟨2, 0, 0, (lastL Z.1).1, F, 0, 0, noT⟩, fa, fc⟩], ra := ra, rc := rc} : WkX) = Y4 at *;have hYd : Y4.d = {X.d with L := Z.1} := by rw [← hY]
   have hYM : Y4.M = X.M := by rw [← hY]
   have hYR : Y4.R.length = X.R.length + 1 := by rw [← hY]; simp
   clear hY;have hml : Y4.d.mt.length = X.d.mt.length := by rw [hYd]
   have hmv := hb.me;have hmn := hb.n;have hm8 := l.ml;obtain ⟨j, hj⟩ : ∃ j : Nat, X.d.me = (j : Int) := ⟨X.d.me.toNat, by omega⟩;obtain ⟨g, hg, n0, nf, nz⟩ := HX4.out.rows.mcell j (by omega);obtain ⟨hcap1, hcap2, hgK⟩ : Y4.d.mt.length ≤ Y4.mc ∧ Y4.mc ≤ maxLen ∧ g ≠ K := by
    obtain ⟨_, ⟨hv, h0⟩ | ⟨g', cap, cur, hv, hB, hb, hn, hc, _, _⟩⟩ := HX4.out.rows.nd.m
    ·omega
    ·unfold WkX.gm at hv;rw [hg] at hv;simp only [Value.slice.injEq, Option.some.injEq, Addr.mk.injEq, and_true] at hv;refine ⟨by omega, by omega, fun e1 => ?_⟩;have h2 := HX4.out.box;rw [← e1, hv.1, hb] at h2
     simp at h2
   have hKg : K ≠ g := fun e1 => hgK e1.symm
   have HPM := hideIt (fun W (hW : Below w4.heap.size w4 W) => (HX4.out.keep hW).putM hg j (lastL Z.1).1);have HL2 : Hid (∀ W, Below w4.heap.size w4 W → Calls Tryz.prog 95 #[.pointer (some ⟨K, 0, none⟩)] W fun r w' => r = .returned (.int .i64 (lastL Z.1).1) ∧ Hid (Below w4.heap.size w4 w') ∧ (w'.cell? ⟨K, 0, none⟩ = some (.int .i64 (j : Int)) ∧ w'.cell? ⟨K, 13, none⟩ = some (.slice (some ⟨g, 0, none⟩) Y4.d.mt.length Y4.mc)) ∧ (w'.cell? ⟨g, j, none⟩ = some (.int .i64 (Y4.d.mt.getD j 0)) ∧ w'.frozen? ⟨g, j, none⟩ = false ∧ g < w'.heap.size ∧ K < w'.heap.size)) := by
    intro W hW;refine (lastW_is (HX4.out.keep hW)).mono ?_;rintro r w' ⟨rfl, hbl⟩;have hb2 := below_via hW hbl;obtain ⟨⟨k0, -, -, -, -, -, -, -, -, -, -, -, -, k13, -, -, -, -⟩, kf, kz⟩ := at18 (HX4.out.keep hb2).box;obtain ⟨g2, hg2, n2, nf2, nz2⟩ := (HX4.out.keep hb2).rows.mcell j (by omega);rw [hg] at hg2 k13;simp only [Option.some.injEq, Addr.mk.injEq, and_true] at hg2;subst hg2;rw [hYd] at k0;simp only [hj] at k0
    exact ⟨by rw [hYd], hideIt hb2, ⟨k0, k13⟩, n2, nf2, nz2, kz⟩
   obtain ⟨⟨k0, k1, k2, k3, k4, k5, k6, k7, k8, k9, k10, k11, k12, k13, k14, k15, k16, k17⟩, kf, kz⟩ := at18 HX4.out.box;rw [hg] at k13;rw [hYd] at k0;simp only [hj] at k0;clear k1 k2 k3 k4 k5 k6 k7 k8 k9 k10 k11 k12 k14 k15 k16 k17;have hme0 : (0 : Int) ≤ (j : Int) := by omega
   have hmel : (j : Int) < (Y4.d.mt.length : Int) := by omega
   generalize (lastL Z.1).1 = last at *;generalize Y4.d.mt.length = ml at *
   go_upto_region 6 with fail
   go_cut [] from 28 to 40 (fun wy => Hid (WK w K {Y4 with d := {Y4.d with mt := Y4.d.mt.set j last}} wy))
   case first =>
    clear HX4 HY4 HAV hml
    go_region_held3 (fun W => W.cell? ⟨K, 0, none⟩ = some (.int .i64 (j : Int)) ∧ W.cell? ⟨K, 13, none⟩ = some (.slice (some ⟨g, 0, none⟩) ml Y4.mc)) (go_keep) (first | (go_at_call 95; refine (HL2.out w4.drew (Below.refl _ _).drew).mono ?_; rintro r w5 ⟨rfl, HQ, ⟨i0, i1⟩, i5, i2, i3, i4⟩))
    all_goals go_wp2_with fail
    all_goals go_meet
    all_goals exact hideIt (HPM.out w5 HQ.out)
   case rest =>
    have HX5 := hideIt hcut.out;clear hcut HPM HL2 k0 k13 kf kz n0 nf nz HX4;have e5 : ({Y4 with d := {Y4.d with mt := Y4.d.mt.set j last}} : WkX).d = {X.d with L := Z.1, mt := putN X.d.mt X.d.me last} := by
     simp only
     rw [hYd];unfold putN;rw [show X.d.me.toNat = j by omega]
    generalize hY5 : ({Y4 with d := {Y4.d with mt := Y4.d.mt.set j last}} : WkX) = Y5 at *;have hM5 : Y5.M = X.M := by rw [← hY5]; exact hYM
    have hR5 : Y5.R.length = X.R.length + 1 := by rw [← hY5]; exact hYR
    have hv5 : Y5.v = {tailW {X.v with d := {X.d with L := Z.1}} last with d := {X.d with L := Z.1, mt := putN X.d.mt X.d.me last}} := by
     have h1 := HY4.out;rw [← e5, ← hY5];unfold WkX.v at h1 ⊢
     simp only
     rw [← h1]
    clear hY5;have HA := hideIt (advW_is HX5.out (by rw [e5]; simp only [putN, List.length_set]; omega))
    clear HX5 HY4
    go_wp2_with fail
    refine HA.out.mono ?_;rintro r w6 ⟨a6, c6, rfl, hw6⟩;dsimp only;have HX6 := hideIt hw6;clear HA hw6;have hadv := adv_nb hnb hld hr;generalize hY6 : ({Y5 with d := {Y5.d with L := (advL Y5.d.L Y5.d.b.t (Y5.d.mt.drop 1)).1}, la := a6, lc := c6} : WkX) = Y6 at *;have hv6 : Y6.v = advW Y5.v := by rw [← hY6]; rfl
    have hd6 : Y6.d = {X.d with L := (advL Z.1 X.d.b.t ((putN X.d.mt X.d.me last).drop 1)).1, mt := putN X.d.mt X.d.me last} := by
     rw [← hY6]
     simp only
     rw [e5]
    have hM6 : Y6.M = X.M := by rw [← hY6]; exact hM5
    have hR6 : Y6.R.length = X.R.length + 1 := by rw [← hY6]; exact hR5
    clear hY6;obtain ⟨hnb6, hld6⟩ := hadv;have hn6 : NB Y6.d := by rw [hd6]; exact hnb6
    have hl6 : LD Y6.d := by rw [hd6]; exact hld6
    have HE := hideIt (eachS_is (f := sendW) HX6.out hn6.n (by rw [hM6]; omega) (fun Y wy k hY hd hMl h1 h2 h3 => by
     have hh := hl6.nl;have hbk := hl6.nb k h1 (by omega);have hlas := las_in hn6.L;rw [← hd] at hbk hh hlas;rw [← hd] at h2;exact sendK_is hY k (by omega) (by omega) hMl))
    clear HX6
    go_wp2_with fail
    refine HE.out.mono ?_;rintro r w7 ⟨Y7, rfl, hv7, hd7, hM7, hR7, hw7⟩;dsimp only;have HX7 := hideIt hw7;clear HE hw7;go_wp2;go_ret;refine ⟨Y7, by rw [HAV.out]; rfl, ?_, by rw [hM6] at hM7; exact hM7, ?_, HX7.out⟩
    ·rw [HAV.out, hv7, hv6, hv5]
    ·rw [hR7, hR6];exact Nat.le_refl _
  ·have hz1 : (Z.2 == 0) = false := beq_eq_false_iff_ne.2 hz0;rw [if_neg hz0] at HAV;clear HPUT hz0;go_wp2;go_ret;refine ⟨X, ?_, ?_, by omega, by omega, HX1.out⟩
   ·rw [HAV.out]
    rfl
   ·rw [HAV.out]
theorem WkX.mlen (X : WkX) : X.v.ms.length = X.M.length := by simp [WkX.v]
theorem WkX.rlen (X : WkX) : X.v.rs.length = X.R.length := by simp [WkX.v]
theorem WkX.vd (X : WkX) : X.v.d = X.d := rfl
theorem flip_apart {a b : Option Nat} (h : a = none ∨ a ≠ b) : b = none ∨ b ≠ a := by
 rcases h with rfl | h
 ·cases b with
  | none => exact .inl rfl
  | some x => exact .inr (by simp)
 ·exact .inr h.symm
theorem WK.setLd {X : WkX} {K : Nat} {w wx : World} (h : WK w K X wx) (v : Int) : WK w K {X with d := {X.d with ld := v}} (wx.setCell ⟨K, 6, none⟩ (.int .i64 v)) :=
 h.put 6 _ rfl ⟨⟨h.rows.nd.b, h.rows.nd.l, h.rows.nd.n, h.rows.nd.m⟩, h.rows.rs, h.rows.ro, h.rows.ms, h.rows.mo, h.rows.nm, h.rows.nb, h.rows.mb, h.rows.sb, h.rows.sl, h.rows.sn, h.rows.sm, h.rows.st, h.rows.sr, h.rows.sq⟩
theorem WK.setTx {X : WkX} {K : Nat} {w wx : World} (h : WK w K X wx) (t : ByteArray) (ht : t.size ≤ 60000) : WK w K {X with d := {X.d with tx := t}} (wx.setCell ⟨K, 11, none⟩ (.string t)) :=
 h.put 11 _ rfl ⟨⟨h.rows.nd.b, h.rows.nd.l, h.rows.nd.n, h.rows.nd.m⟩, h.rows.rs, h.rows.ro, h.rows.ms, h.rows.mo, h.rows.nm, h.rows.nb, h.rows.mb, h.rows.sb, h.rows.sl, h.rows.sn, h.rows.sm, ht, h.rows.sr, h.rows.sq⟩
theorem WK.setIx {X : WkX} {K : Nat} {w wx : World} (h : WK w K X wx) (v : Int) : WK w K {X with ix := v} (wx.setCell ⟨K, 16, none⟩ (.int .i64 v)) :=
 h.put 16 _ rfl ⟨h.rows.nd, h.rows.rs, h.rows.ro, h.rows.ms, h.rows.mo, h.rows.nm, h.rows.nb, h.rows.mb, h.rows.sb, h.rows.sl, h.rows.sn, h.rows.sm, h.rows.st, h.rows.sr, h.rows.sq⟩
theorem WK.setWt {X : WkX} {K : Nat} {w wx : World} (h : WK w K X wx) (v : Bool) : WK w K {X with wt := v} (wx.setCell ⟨K, 17, none⟩ (.bool v)) :=
 h.put 17 _ rfl ⟨h.rows.nd, h.rows.rs, h.rows.ro, h.rows.ms, h.rows.mo, h.rows.nm, h.rows.nb, h.rows.mb, h.rows.sb, h.rows.sl, h.rows.sn, h.rows.sm, h.rows.st, h.rows.sr, h.rows.sq⟩
theorem WK.setNx {X : WkX} {K : Nat} {w wx : World} (h : WK w K X wx) (l : List Int) {n : Nat} (hn : l.length = n) (a : Option Addr) (c : Nat) (ho : wx.ownsRow w.heap.size 3 1 (.slice a n c) n (l.map Tm.iv)) (hl : n ≤ 1000000) (hm : (Value.slice a n c).ownBlock = none ∨ (Value.slice a n c).ownBlock ≠ X.gm.ownBlock) (hb : (Value.slice a n c).ownBlock = none ∨ (Value.slice a n c).ownBlock ≠ X.gb.ownBlock) : WK w K {X with d := {X.d with nx := l}, na := a, nc := c} (wx.setCell ⟨K, 12, none⟩ (.slice a n c)) := by
 subst hn;exact h.put 12 _ rfl ⟨⟨h.rows.nd.b, h.rows.nd.l, ho, h.rows.nd.m⟩, h.rows.rs, h.rows.ro, h.rows.ms, h.rows.mo, hm, hb, h.rows.mb, h.rows.sb, h.rows.sl, hl, h.rows.sm, h.rows.st, h.rows.sr, h.rows.sq⟩
theorem WK.setMt {X : WkX} {K : Nat} {w wx : World} (h : WK w K X wx) (l : List Int) {n : Nat} (hn : l.length = n) (a : Option Addr) (c : Nat) (ho : wx.ownsRow w.heap.size 3 1 (.slice a n c) n (l.map Tm.iv)) (hl : n ≤ 1000000) (hm : X.gn.ownBlock = none ∨ X.gn.ownBlock ≠ (Value.slice a n c).ownBlock) (hb : (Value.slice a n c).ownBlock = none ∨ (Value.slice a n c).ownBlock ≠ X.gb.ownBlock) : WK w K {X with d := {X.d with mt := l}, ma := a, mc := c} (wx.setCell ⟨K, 13, none⟩ (.slice a n c)) := by
 subst hn;exact h.put 13 _ rfl ⟨⟨h.rows.nd.b, h.rows.nd.l, h.rows.nd.n, ho⟩, h.rows.rs, h.rows.ro, h.rows.ms, h.rows.mo, hm, h.rows.nb, hb, h.rows.sb, h.rows.sl, h.rows.sn, hl, h.rows.st, h.rows.sr, h.rows.sq⟩
theorem WK.setR {X : WkX} {K : Nat} {w wx w' : World} (h : WK w K X wx) (R : List RecX) (a : Option Addr) (c : Nat) (hg : wx.grownBy w' (Value.slice X.ra X.R.length X.rc).ownBlock) (ho : w'.ownsRow w.heap.size 63 8 (.slice a R.length c) R.length (celC recE R)) (hx : ∀ x ∈ R, EntO w.heap.size wx x.a x.c x.r.es) (hs : R.length ≤ 1000000) : WK w K {X with R := R, ra := a, rc := c} (w'.setCell ⟨K, 14, none⟩ (.slice a R.length c)) := by
 have hr := h.rows;have hbox := box_type hg hr.rs h.box (by decide);have hW : WR w.heap.size w' {X with R := R, ra := a, rc := c} :=
  ⟨⟨own_type hg hr.rs hr.nd.b (by decide), own_type hg hr.rs hr.nd.l (by decide), own_type hg hr.rs hr.nd.n (by decide), own_type hg hr.rs hr.nd.m (by decide)⟩, ho, fun y hy => (hx y hy).kept hg hr.rs (by decide), own_type hg hr.rs hr.ms (by decide), fun y hy => (hr.mo y hy).kept hg hr.rs (by decide), hr.nm, hr.nb, hr.mb, hr.sb, hr.sl, hr.sn, hr.sm, hr.st, hs, hr.sq⟩
 have hh := heap_set hbox 14 (.slice a R.length c);refine ⟨?_, hW.cell hbox (by decide) (by decide) (by decide) (by decide), h.hK, belowSet _ (below_out h.bel (Out.ofGrown (F := fun k => w.heap.size ≤ k) hg (fun k hk => (hr.rs.lt k hk).1)) (fun _ h => h)) h.hK⟩;rw [hh]
 rfl
theorem made_own (W : World) (B m : Nat) (Z : Array Value) (hB : B ≤ W.heap.size) (hs : Z.size = m) (hm : m ≤ maxLen) : (W.alloc (.cells Z 3)).ownsRow B 3 1 (.slice (some ⟨W.heap.size, 0, none⟩) m m) m Z.toList :=
 ⟨by rw [Array.length_toList, hs, Nat.mul_one], .inr ⟨W.heap.size, m, Z, rfl, hB, heap_alloc_new W _, Nat.le_refl _, hm, by rw [hs, Nat.mul_one], by rw [Nat.mul_one, List.take_of_length_le]; rw [Array.length_toList, hs]; exact Nat.le_refl _⟩⟩
theorem run_copyK (w : World) (dT sT ty elem : TypeId) (k g o dLen dCap : Nat) (a : Addr) (sLen sCap : Nat) (cur : Array Value) (t : TypeId) (cs : List Value)
  (hu : Tryz.prog.underlying dT = some (.slice elem)) (hs : (Tryz.prog.info? elem).map (·.size) = some k)
  (hg : w.heap[g]? = some (.cells cur t (0, 0))) (hn : cs.length = Nat.min sLen dLen * k)
  (hsrc : ∀ j v, cs[j]? = some v → w.cell? (a.add j) = some v) (hfit : o + cs.length ≤ cur.size) (h1 : ∀ v ∈ cs, v.oneCell' = true) :
  (Builtin.copy_ #[dT, sT] ty #[.slice (some ⟨g, o, none⟩) dLen dCap, .slice (some a) sLen sCap]).run Tryz.prog w =
   .ok (goInt (Nat.min sLen dLen)) (w.setRow g (cur.toList.take o ++ cs ++ cur.toList.drop (o + cs.length)).toArray) := by
 have hst := run_storeCells_at Tryz.prog g o t cs 0 cur w hg (by simpa using hfit) h1;cases hq : Tryz.prog.info? elem with
 | none => simp [hq] at hs
 | some i =>
  have hi : i.size = k := by simpa [hq] using hs
  have hl := run_firstCells_some (P := Tryz.prog) w k (Nat.min sLen dLen) a sLen sCap cs hn hsrc
  simp [Builtin.copy_, run_underlying hu, Builtin.lenOf, sizeOf, typeInfo, hq, hi, hl, hst]
theorem wpList_copy_runK (w : World) {ops : Array Oper} {rest : List Oper} {o : Oper} {a : Act} {Q : Exit → Act → World → Prop} (hgd : o.guard = none) (d s : Operand) (t t' : TypeId)
  (ho : o.op = .call { callee := .builtin .copy, args := #[d, s], argTypes := #[t, t'] }) (v u : Value) (hd : a.eval d = v) (hs : a.eval s = u) {v' : Value} {w' : World}
  (hr : (Builtin.copy_ #[t, t'] o.type #[v, u]).run Tryz.prog w = .ok v' w') (h : wpList Tryz.prog ops Q rest (a.put o.dst v') w') : wpList Tryz.prog ops Q (o :: rest) a w := by
 refine wpList_plain hgd fun K hK => ?_
 unfold Oper.wp execOp;simp only [ho, resolve, invoke, builtin, Sem.run_bind, Sem.run_pure, Result.andThen_ok, List.map_toArray, List.map_cons, List.map_nil, hd, hs, hr];exact hK _ _ h
theorem step_copy_runK {ops : Array Oper} {o : Oper} {a : Act} {w : World} {K : Act → World → Prop} {Q : Exit → Act → World → Prop} {E : Prop}
  (hg : o.guard = none) (d x : Operand) (dT sT : TypeId) (hop : o.op = Op.call { callee := Callee.builtin Builtin.copy, args := #[d, x], argTypes := #[dT, sT] })
  (v u : Value) (hd : a.eval d = v) (hx : a.eval x = u) {v' : Value} {w' : World} (hr : (Builtin.copy_ #[dT, sT] o.type #[v, u]).run Tryz.prog w = .ok v' w') (hK : K (a.put o.dst v') w') :
  if Region.wanted o (yielded ops a.tmps) = true then Oper.wp Tryz.prog o a w K Q else E := by
 have hw : Region.wanted o (yielded ops a.tmps) = true := by simp [Region.wanted, hg]
 rw [if_pos hw];unfold Oper.wp
 simp [execOp, hop, resolve, invoke, builtin, hd, hx, hr, Result.andThen]
 exact hK
theorem shift_list (A D T X : List Value) (k : Nat) (hk : X.length = k) (hT : k ≤ T.length) :
  ((((A ++ D ++ T).take (A.length + k) ++ D ++ (A ++ D ++ T).drop (A.length + k + D.length)).take A.length ++ X ++ ((A ++ D ++ T).take (A.length + k) ++ D ++ (A ++ D ++ T).drop (A.length + k + D.length)).drop (A.length + X.length)).take (A.length + k + D.length)) = A ++ X ++ D := by
 have hl : ((A ++ D ++ T).take (A.length + k)).length = A.length + k := by
  rw [List.length_take, List.length_append, List.length_append];omega
 have e1 : ((A ++ D ++ T).take (A.length + k) ++ D ++ (A ++ D ++ T).drop (A.length + k + D.length)).take A.length = A := by
  rw [List.append_assoc, List.take_append_of_le_length (by omega), List.take_take, Nat.min_eq_left (by omega), List.append_assoc, List.take_left']
  rfl
 have e2 : ((A ++ D ++ T).take (A.length + k) ++ D ++ (A ++ D ++ T).drop (A.length + k + D.length)).drop (A.length + X.length) = D ++ (A ++ D ++ T).drop (A.length + k + D.length) := by
  rw [List.append_assoc, hk, List.drop_left' hl]
 rw [e1, e2, ← List.append_assoc, List.take_left'];rw [List.length_append, List.length_append, hk]
theorem grow_list (A D Z X : List Value) (k : Nat) (hk : X.length = k) (hZ : k + D.length ≤ Z.length) :
  ((((A ++ Z).take A.length ++ X ++ (A ++ Z).drop (A.length + X.length)).take (A.length + k) ++ D ++ ((A ++ Z).take A.length ++ X ++ (A ++ Z).drop (A.length + X.length)).drop (A.length + k + D.length)).take (A.length + k + D.length)) = A ++ X ++ D := by
 have e0 : (A ++ Z).take A.length = A := List.take_left' rfl;have e1 : ((A ++ Z).take A.length ++ X ++ (A ++ Z).drop (A.length + X.length)).take (A.length + k) = A ++ X := by
  rw [e0, List.take_left'];rw [List.length_append, hk]
 rw [e1, List.take_left'];rw [List.length_append, List.length_append, hk]
set_option maxHeartbeats 8000000 in
set_option maxRecDepth 100000 in
theorem insR_shift (g c i vb : Nat) (cur : Array Value) (l : List RecX) (x : RecX) (w : World) (hg : w.heap[g]? = some (.cells cur 63 (0, 0))) (hs : cur.size = c * 8) (ht : cur.toList.take (l.length * 8) = celC recE l) (hi : i < l.length) (hroom : l.length + 1 ≤ c) (hc : c ≤ maxLen)
  (hvb : w.heap[vb]? = some (.cells (recE x).toArray 63 (0, 0))) (hne : vb ≠ g) :
  Calls Tryz.prog 57 #[.slice (some ⟨g, 0, none⟩) l.length c, .int .i64 i, .slice (some ⟨vb, 0, none⟩) 1 1] w fun e w' => e = .returned (.slice (some ⟨g, 0, none⟩) (l.length + 1) c) ∧ ∃ R : Array Value, w' = w.drew.setRow g R ∧ R.size = c * 8 ∧ R.toList.take ((l.length + 1) * 8) = celC recE (l.take i ++ x :: l.drop i) := by
 unfold maxLen at hc;obtain ⟨i1, hi1⟩ : ∃ i1, i1 = i + 1 := ⟨_, rfl⟩;obtain ⟨n1, hn1⟩ : ∃ n1, n1 = l.length + 1 := ⟨_, rfl⟩;obtain ⟨n, hn⟩ : ∃ n, n = l.length := ⟨_, rfl⟩;have hsz : (Tryz.prog.info? 63).map (·.size) = some 8 := by kernel_rfl
 have hov : ∀ lb cb, (callFunc 101 #[.slice (some ⟨vb, 0, none⟩) 1 1, .slice (some ⟨g, i1 * 8, none⟩) lb cb]).run Tryz.prog w = .ok (.value (.bool false)) w := fun lb cb => by
  rw [run_callFunc_extern Tryz.func101 (by kernel_rfl) (by kernel_rfl) (by kernel_rfl) (e := Extern.SlicesOverlaps.overlaps #[43, 43] #[4]) (by kernel_rfl),
   Lib.run_overlaps_apart w 43 4 63 Tryz.underlying43 8 Tryz.sizeOf63 ⟨vb, 0, none⟩ ⟨g, i1 * 8, none⟩ 1 1 lb cb hne 63 63 (recE x).toArray.size cur.size (shape_at hvb) (shape_at hg) (by omega) (free_at hvb 0) (free_at hvb _)]
  rfl
 have hA : (celC recE (l.take i)).length = i * 8 := by rw [celC_len recK, List.length_take, Nat.min_eq_left (by omega)]
 have hD : (celC recE (l.drop i)).length = (l.length - i) * 8 := by rw [celC_len recK, List.length_drop]
 obtain ⟨T, hT⟩ : ∃ T, cur.toList = celC recE (l.take i) ++ celC recE (l.drop i) ++ T := ⟨cur.toList.drop (l.length * 8), by rw [← celC_app, List.take_append_drop, ← ht, List.take_append_drop]⟩;have hTl : 8 ≤ T.length := by
  have := congrArg List.length hT;rw [List.length_append, List.length_append, hA, hD] at this;simp only [Array.length_toList, hs] at this;omega
 have hL := shift_list (celC recE (l.take i)) (celC recE (l.drop i)) T (recE x) 8 (recK x) hTl;have hsrcD : ∀ j v, (celC recE (l.drop i))[j]? = some v → w.drew.cell? ((⟨g, i * 8, none⟩ : Addr).add j) = some v := fun j v hj => by
  have hjl := (List.getElem?_eq_some_iff.1 hj).1;rw [addN, cell_at (w := w.drew) hg, ← Array.getElem?_toList, hT, List.append_assoc, List.getElem?_append_right (by omega), hA, Nat.add_sub_cancel_left, List.getElem?_append_left hjl, hj]
 obtain ⟨R1, hR1⟩ : ∃ R1 : Array Value, R1 = (cur.toList.take (i1 * 8) ++ celC recE (l.drop i) ++ cur.toList.drop (i1 * 8 + (celC recE (l.drop i)).length)).toArray := ⟨_, rfl⟩;have hcp1 : ∀ ty dc sc, (Builtin.copy_ #[43, 43] ty #[.slice (some ⟨g, i1 * 8, none⟩) (n1 - i1) dc, .slice (some ⟨g, i * 8, none⟩) (n1 - i) sc]).run Tryz.prog w.drew = .ok (goInt (Nat.min (n1 - i) (n1 - i1))) (w.drew.setRow g R1) := fun ty dc sc => by
  rw [hR1];exact run_copyK w.drew 43 43 ty 63 8 g (i1 * 8) (n1 - i1) dc ⟨g, i * 8, none⟩ (n1 - i) sc cur 63 (celC recE (l.drop i)) Tryz.underlying43 hsz hg (by rw [hD]; show _ = (min (n1 - i) (n1 - i1)) * 8; omega) hsrcD (by rw [hD, hs]; omega) (celC_one rec1 _)
 have hR1s : R1.size = c * 8 := by
  rw [hR1];simp only [List.size_toArray, List.length_append, List.length_take, List.length_drop, Array.length_toList, hD, hs];omega
 have hg1 : (w.drew.setRow g R1).heap[g]? = some (.cells R1 63 (0, 0)) := setRow_heap _ g cur _ 63 _ hg;obtain ⟨R2, hR2⟩ : ∃ R2 : Array Value, R2 = (R1.toList.take (i * 8) ++ recE x ++ R1.toList.drop (i * 8 + (recE x).length)).toArray := ⟨_, rfl⟩;have hcp2 : ∀ ty dc, (Builtin.copy_ #[43, 43] ty #[.slice (some ⟨g, i * 8, none⟩) (n1 - i) dc, .slice (some ⟨vb, 0, none⟩) 1 1]).run Tryz.prog (w.drew.setRow g R1) = .ok (goInt (Nat.min 1 (n1 - i))) (w.drew.setRow g R2) := fun ty dc => by
  have := run_copyK (w.drew.setRow g R1) 43 43 ty 63 8 g (i * 8) (n1 - i) dc ⟨vb, 0, none⟩ 1 1 R1 63 (recE x) Tryz.underlying43 hsz hg1 (by rw [recK]; show _ = (min 1 (n1 - i)) * 8; omega) (fun j v hj => by
   have hv2 : (w.drew.setRow g R1).heap[vb]? = some (.cells (recE x).toArray 63 (0, 0)) := (setRow_other w.drew g vb _ hne).trans hvb;rw [addN, cell_at hv2, Nat.zero_add]
   simpa using hj) (by rw [recK, hR1s]; omega) (rec1 x)
  rw [this, setRow_setRow, hR2]
 have hRES : ∃ R : Array Value, R = R2 ∧ R.size = c * 8 ∧ R.toList.take ((l.length + 1) * 8) = celC recE (l.take i ++ x :: l.drop i) := by
  refine ⟨R2, rfl, ?_, ?_⟩
  ·rw [hR2];simp only [List.size_toArray, List.length_append, List.length_take, List.length_drop, Array.length_toList, recK, hR1s];omega
  ·rw [celC_app, celC_cons, ← List.append_assoc, ← hL, hR2, hR1, hA, hD, hT];simp only [List.toList_toArray];rw [hi1, show i * 8 + 8 = (i + 1) * 8 by omega, show (i + 1) * 8 + (l.length - i) * 8 = (l.length + 1) * 8 by omega]
 have HRES := hideIt hRES;have hb1 : (0 : Int) ≤ (i : Int) := by omega
 have hb2 : (i : Int) ≤ (n : Int) := by omega
 have hb3 : ¬ ((i : Int) = (n : Int)) := by omega
 have hb4 : IntKind.i64.wrap ((n : Int) + 1) = (n1 : Int) := by rw [IntKind.wrap_i64]; omega
 have hb5 : ¬ ((c : Int) < (n1 : Int)) := by omega
 have hb6 : IntKind.i64.wrap ((i : Int) + 1) = (i1 : Int) := by rw [IntKind.wrap_i64]; omega
 have hb7 : (0 : Int) ≤ (i1 : Int) ∧ (i1 : Int) ≤ (n1 : Int) ∧ (n1 : Int) ≤ (c : Int) ∧ (0 : Int) ≤ (n1 : Int) := by omega
 obtain ⟨hb7, hb8, hb9, hb10⟩ := hb7;have hb11 : ¬ (c = i1) := by omega
 have hb12 : ¬ (c = i) := by omega
 have hb13 : (i : Int) ≤ (n1 : Int) := by omega
 have hb14 : (n : Int) ≤ (c : Int) := by omega
 rw [← hn1, ← hn];rw [← hn1] at HRES;clear hRES hR2 hR1 hR1s hg1 hL hTl hT hA hD hsrcD hsz ht hs hg hvb hne hi hroom hc hi1 hn1 hn;have mixed : Tryz.prog.follows Departure.mixedOrders = true := by kernel_rfl
 go_enter Tryz.func57, Tryz.ntmps57
 go_wp2_with (simp only [hov])
 go_region_law_o (refine step_copy_runK rfl _ _ 43 43 rfl (.slice (some ⟨g, i1 * 8, none⟩) (n1 - i1) (c - i1)) (.slice (some ⟨g, i * 8, none⟩) (n1 - i) (c - i)) (by simp [Act.eval, Act.put]) (by simp [Act.eval, Act.put]) (hcp1 _ _ _) ?_)
 go_wp2_with (at_builtin; refine wpList_copy_runK _ rfl _ _ 43 43 rfl _ _ rfl rfl (hcp2 _ _) ?_)
 go_ret;obtain ⟨R, rfl, h1, h2⟩ := HRES.out
 exact ⟨rfl, R, rfl, h1, h2⟩
set_option maxHeartbeats 8000000 in
set_option maxRecDepth 100000 in
theorem insR_grow (g c i vb : Nat) (cur : Array Value) (l : List RecX) (x : RecX) (w : World) (hg : w.heap[g]? = some (.cells cur 63 (0, 0))) (ht : cur.toList.take (l.length * 8) = celC recE l) (hi : i < l.length) (hnc : l.length ≤ c) (hroom : c < l.length + 1) (hbig : (l.length + 1) * 88 ≤ 140737488355328)
  (hvb : w.heap[vb]? = some (.cells (recE x).toArray 63 (0, 0))) :
  Calls Tryz.prog 57 #[.slice (some ⟨g, 0, none⟩) l.length c, .int .i64 i, .slice (some ⟨vb, 0, none⟩) 1 1] w fun e w' => ∃ v', e = .returned v' ∧ w'.ownsRow w.heap.size 63 8 v' (l.length + 1) (celC recE (l.take i ++ x :: l.drop i)) ∧ Below w.heap.size w w' := by
 obtain ⟨i1, hi1⟩ : ∃ i1, i1 = i + 1 := ⟨_, rfl⟩;obtain ⟨n1, hn1⟩ : ∃ n1, n1 = l.length + 1 := ⟨_, rfl⟩;obtain ⟨n, hn⟩ : ∃ n, n = l.length := ⟨_, rfl⟩;have hsz : (Tryz.prog.info? 63).map (·.size) = some 8 := by kernel_rfl
 have hgl : g < w.heap.size := (Array.getElem?_eq_some_iff.1 hg).1;have hvl : vb < w.heap.size := (Array.getElem?_eq_some_iff.1 hvb).1;have hA : (celC recE (l.take i)).length = i * 8 := by rw [celC_len recK, List.length_take, Nat.min_eq_left (by omega)]
 have hD : (celC recE (l.drop i)).length = (l.length - i) * 8 := by rw [celC_len recK, List.length_drop]
 obtain ⟨T, hT⟩ : ∃ T, cur.toList = celC recE (l.take i) ++ celC recE (l.drop i) ++ T := ⟨cur.toList.drop (l.length * 8), by rw [← celC_app, List.take_append_drop, ← ht, List.take_append_drop]⟩;have hsrcA : ∀ j v, (celC recE (l.take i))[j]? = some v → w.drew.cell? ((⟨g, 0, none⟩ : Addr).add j) = some v := fun j v hj => by
  have hjl := (List.getElem?_eq_some_iff.1 hj).1;rw [addN, cell_at (w := w.drew) hg, ← Array.getElem?_toList, hT, Nat.zero_add, List.append_assoc, List.getElem?_append_left hjl, hj]
 obtain ⟨i0, hi0, hz0, hz1, hz2⟩ := info_parts infoRec;have hold : (Builtin.firstCells i0.size i (.slice (some ⟨g, 0, none⟩) i c)).run Tryz.prog w.drew = .ok (celC recE (l.take i)).toArray w.drew := by
  rw [hz1];exact run_firstCells_some w.drew 8 i ⟨g, 0, none⟩ i c (celC recE (l.take i)) hA hsrcA
 obtain ⟨G, hG⟩ : ∃ G, G = grownCap w n1 c 63 := ⟨_, rfl⟩;have hGn : n1 ≤ G := by rw [hG]; exact grownCap_ge w _ _ _
 have hG63 : G ≤ maxLen := by rw [hG]; exact grownCap_le_maxLen w n1 c 63 (by unfold maxLen; omega)
 obtain ⟨Z, hZ⟩ : ∃ Z : Array Value, Z = Builtin.zeroCells (Value.agg #[.int .i64 0, .int .i64 0, .int .i64 0, .int .i64 0, .slice none 0 0, .int .i64 0, .int .i64 0, .string ⟨#[]⟩]).cells (n1 - i) ++ Builtin.zeroCells (Value.agg #[.int .i64 0, .int .i64 0, .int .i64 0, .int .i64 0, .slice none 0 0, .int .i64 0, .int .i64 0, .string ⟨#[]⟩]).cells (G - n1) := ⟨_, rfl⟩;have hZl : Z.size = (G - i) * 8 := by
  rw [hZ, Array.size_append, size_zeroCells, size_zeroCells]
  show (n1 - i) * 8 + (G - n1) * 8 = _
  omega
 obtain ⟨ROW, hROW⟩ : ∃ ROW : Array Value, ROW = (celC recE (l.take i)).toArray ++ Z := ⟨_, rfl⟩;obtain ⟨W1, hW1⟩ : ∃ W1, W1 = w.drew.alloc (.cells ROW 63) := ⟨_, rfl⟩;have hrz : ∀ ty, (Builtin.append_ #[43, 3] ty #[.slice (some ⟨g, 0, none⟩) i c, .int .i64 ((n1 - i : Nat) : Int)]).run Tryz.prog w = .ok (.slice (some ⟨w.heap.size, 0, none⟩) n1 G) W1 := fun ty => by
  have h := Lib.run_append_grow_zeros w 43 3 ty 63 i0 _ .i64 .i64 Tryz.underlying43 Tryz.underlying3 hi0 hz0 (some ⟨g, 0, none⟩) i c (celC recE (l.take i)) hold (n1 - i) (by omega) (by omega) (by omega) (by omega) (by rw [hz2]; omega) (by rw [hz2, show i + (n1 - i) = n1 by omega]; exact growslice_fits (by omega) (by rw [hn1]; exact hbig))
  rw [show i + (n1 - i) = n1 by omega, ← hG] at h;rw [hW1, hROW, hZ, ← Array.append_assoc];exact h
 have hg0 : W1.heap[w.heap.size]? = some (.cells ROW 63 (0, 0)) := by rw [hW1]; exact heap_alloc_new w.drew _
 have hRs : ROW.size = G * 8 := by
  rw [hROW, Array.size_append, List.size_toArray, hA, hZl];omega
 obtain ⟨R1, hR1⟩ : ∃ R1 : Array Value, R1 = (ROW.toList.take (i * 8) ++ recE x ++ ROW.toList.drop (i * 8 + (recE x).length)).toArray := ⟨_, rfl⟩;have hv1 : W1.heap[vb]? = some (.cells (recE x).toArray 63 (0, 0)) := by rw [hW1]; exact (heap_alloc_old w.drew _ hvl).trans hvb
 have hgg : W1.heap[g]? = some (.cells cur 63 (0, 0)) := by rw [hW1]; exact (heap_alloc_old w.drew _ hgl).trans hg
 have hcp1 : ∀ ty dc, (Builtin.copy_ #[43, 43] ty #[.slice (some ⟨w.heap.size, i * 8, none⟩) (n1 - i) dc, .slice (some ⟨vb, 0, none⟩) 1 1]).run Tryz.prog W1 = .ok (goInt (Nat.min 1 (n1 - i))) (W1.setRow w.heap.size R1) := fun ty dc => by
  rw [hR1];exact run_copyK W1 43 43 ty 63 8 w.heap.size (i * 8) (n1 - i) dc ⟨vb, 0, none⟩ 1 1 ROW 63 (recE x) Tryz.underlying43 hsz hg0 (by rw [recK]; show _ = (min 1 (n1 - i)) * 8; omega) (fun j v hj => by
   rw [addN, cell_at hv1, Nat.zero_add]
   simpa using hj) (by rw [recK, hRs]; omega) (rec1 x)
 have hR1s : R1.size = G * 8 := by
  rw [hR1];simp only [List.size_toArray, List.length_append, List.length_take, List.length_drop, Array.length_toList, recK, hRs];omega
 obtain ⟨W2, hW2⟩ : ∃ W2, W2 = W1.setRow w.heap.size R1 := ⟨_, rfl⟩;have hg2 : W2.heap[w.heap.size]? = some (.cells R1 63 (0, 0)) := by rw [hW2]; exact setRow_heap _ _ ROW _ 63 _ hg0
 have hgg2 : W2.heap[g]? = some (.cells cur 63 (0, 0)) := by rw [hW2]; exact (setRow_other W1 _ g _ (by omega)).trans hgg
 obtain ⟨R2, hR2⟩ : ∃ R2 : Array Value, R2 = (R1.toList.take (i1 * 8) ++ celC recE (l.drop i) ++ R1.toList.drop (i1 * 8 + (celC recE (l.drop i)).length)).toArray := ⟨_, rfl⟩;have hcp2 : ∀ ty dc sc, (Builtin.copy_ #[43, 43] ty #[.slice (some ⟨w.heap.size, i1 * 8, none⟩) (n1 - i1) dc, .slice (some ⟨g, i * 8, none⟩) (n - i) sc]).run Tryz.prog W2.drew = .ok (goInt (Nat.min (n - i) (n1 - i1))) (W2.drew.setRow w.heap.size R2) := fun ty dc sc => by
  rw [hR2];exact run_copyK W2.drew 43 43 ty 63 8 w.heap.size (i1 * 8) (n1 - i1) dc ⟨g, i * 8, none⟩ (n - i) sc R1 63 (celC recE (l.drop i)) Tryz.underlying43 hsz hg2 (by rw [hD]; show _ = (min (n - i) (n1 - i1)) * 8; omega) (fun j v hj => by
   have hjl := (List.getElem?_eq_some_iff.1 hj).1;rw [addN, cell_at (w := W2.drew) hgg2, ← Array.getElem?_toList, hT, List.append_assoc, List.getElem?_append_right (by omega), hA, Nat.add_sub_cancel_left, List.getElem?_append_left hjl, hj]) (by rw [hD, hR1s]; omega) (celC_one rec1 _)
 have HRES : Hid ((W2.drew.setRow w.heap.size R2).ownsRow w.heap.size 63 8 (.slice (some ⟨w.heap.size, 0, none⟩) n1 G) n1 (celC recE (l.take i ++ x :: l.drop i)) ∧ Below w.heap.size w (W2.drew.setRow w.heap.size R2)) := by
  refine ⟨⟨?_, .inr ⟨w.heap.size, G, R2, rfl, Nat.le_refl _, setRow_heap _ _ R1 _ 63 _ hg2, hGn, hG63, ?_, ?_⟩⟩, ?_⟩
  ·rw [celC_len recK, List.length_append, List.length_cons, List.length_take, List.length_drop, hn1]
   congr 1
   omega
  ·rw [hR2];simp only [List.size_toArray, List.length_append, List.length_take, List.length_drop, Array.length_toList, hD, hR1s];omega
  ·have hz9 : Z.toList.length = (G - i) * 8 := by rw [Array.length_toList (xs := Z)]; exact hZl
   have hL := grow_list (celC recE (l.take i)) (celC recE (l.drop i)) Z.toList (recE x) 8 (recK x) (by rw [hD, hz9]; omega)
   rw [celC_app, celC_cons, ← List.append_assoc, ← hL, hR2, hR1, hROW, hA, hD];simp only [List.toList_toArray, Array.toList_append];rw [hi1, hn1, show i * 8 + 8 = (i + 1) * 8 by omega, show (i + 1) * 8 + (l.length - i) * 8 = (l.length + 1) * 8 by omega]
  ·rw [hW2, hW1];refine ⟨rfl, rfl, rfl, ?_, fun k hk => ?_⟩
   ·simp [World.setRow]
   ·rw [setRow_other _ _ k _ (by omega)];exact (setRow_other _ _ k _ (by omega)).trans (heap_alloc_old w.drew _ hk)
 have hb1 : (0 : Int) ≤ (i : Int) := by omega
 have hb2 : (i : Int) ≤ (n : Int) := by omega
 have hb3 : ¬ ((i : Int) = (n : Int)) := by omega
 have hb4 : IntKind.i64.wrap ((n : Int) + 1) = (n1 : Int) := by rw [IntKind.wrap_i64]; omega
 have hb5 : ((c : Int) < (n1 : Int)) := by omega
 have hb6 : IntKind.i64.wrap ((i : Int) + 1) = (i1 : Int) := by rw [IntKind.wrap_i64]; omega
 unfold maxLen at hG63;have hb7 : (0 : Int) ≤ (i1 : Int) ∧ (i1 : Int) ≤ (n1 : Int) ∧ (n1 : Int) ≤ (G : Int) ∧ (0 : Int) ≤ (n1 : Int) := by omega
 obtain ⟨hb7, hb8, hb9, hb10⟩ := hb7;have hb11 : ¬ (G = i1) := by omega
 have hb12 : ¬ (G = i) := by omega
 have hb13 : (i : Int) ≤ (n1 : Int) := by omega
 have hb14 : (n : Int) ≤ (c : Int) := by omega
 have hb15 : ¬ (c = i) := by omega
 have hb16 : IntKind.i64.wrap ((n1 : Int) - (i : Int)) = ((n1 - i : Nat) : Int) := by rw [IntKind.wrap_i64]; omega
 have hb17 : (i : Int) ≤ (c : Int) := by omega
 rw [← hW2] at hcp1;rw [← hn1, ← hn];obtain ⟨m1, hm1⟩ : ∃ m1 : Nat, m1 = n1 - i := ⟨_, rfl⟩;rw [← hm1] at hb16 hrz;clear hT hA hD hsrcA hsz ht hg hvb hi hroom hnc hi1 hn1 hn hold hz0 hz1 hz2 hi0 hGn hG63 hG hZ hZl hROW hg0 hRs hR1 hR1s hv1 hgg hW1 hW2 hg2 hgg2 hR2 hgl hvl hbig hm1;have mixed : Tryz.prog.follows Departure.mixedOrders = true := by kernel_rfl
 go_enter Tryz.func57, Tryz.ntmps57
 go_wp2_with (first
  | (at_builtin; refine Lib.wpList_append_run _ rfl _ _ _ _ rfl _ _ rfl rfl _ _ (hrz _) ?_)
  | (at_builtin; refine wpList_copy_runK _ rfl _ _ 43 43 rfl _ _ rfl rfl (hcp1 _ _) ?_))
 go_region_law_o (refine step_copy_runK rfl _ _ 43 43 rfl (.slice (some ⟨w.heap.size, i1 * 8, none⟩) (n1 - i1) (G - i1)) (.slice (some ⟨g, i * 8, none⟩) (n - i) (c - i)) (by simp [Act.eval, Act.put]) (by simp [Act.eval, Act.put]) (hcp2 _ _ _) ?_)
 go_wp2;go_ret
 exact ⟨_, rfl, HRES.out⟩
set_option maxHeartbeats 8000000 in
set_option maxRecDepth 100000 in
theorem insR_end (B c vb : Nat) (a : Option Addr) (l : List RecX) (x : RecX) (w : World) (ho : w.ownsRow B 63 8 (.slice a l.length c) l.length (celC recE l)) (hB : B ≤ w.heap.size) (hbig : (l.length + 1) * 88 ≤ 140737488355328)
  (hvb : w.heap[vb]? = some (.cells (recE x).toArray 63 (0, 0))) :
  Calls Tryz.prog 57 #[.slice a l.length c, .int .i64 l.length, .slice (some ⟨vb, 0, none⟩) 1 1] w fun e w' => ∃ v', e = .returned v' ∧ w'.ownsRow B 63 8 v' (l.length + 1) (celC recE (l ++ [x])) ∧ w.grownBy w' (Value.slice a l.length c).ownBlock := by
 obtain ⟨v', w', hrun, how, hgr⟩ := app1 (enc := recE) (t := 43) recK rec1 Tryz.underlying43 infoRec rfl (by omega) w B (.slice a l.length c) l x vb 1 hB ho hvb hbig (by unfold maxLen; omega)
 rw [List.length_append, List.length_singleton] at how;have HRUN := hideIt hrun;have HO := hideIt (And.intro how hgr);have hcc : l.length ≤ c ∧ c ≤ maxLen := by
  rcases ho.2 with ⟨h1, h2⟩ | ⟨g, cap, cur, h1, _, _, h2, h3, _⟩
  ·simp only [Value.slice.injEq] at h1;omega
  ·simp only [Value.slice.injEq] at h1;rw [h1.2.2]
   exact ⟨h2, h3⟩
 have hsome : a = none ∨ ∃ g, a = some ⟨g, 0, none⟩ := by
  rcases ho.2 with ⟨h1, h2⟩ | ⟨g, cap, cur, h1, _⟩
  ·simp only [Value.slice.injEq] at h1;exact .inl h1.1
  ·simp only [Value.slice.injEq] at h1;exact .inr ⟨g, h1.1⟩
 have hnone : a = none → c = 0 ∧ l.length = 0 := by
  intro ha
  rcases ho.2 with ⟨h1, h2⟩ | ⟨g, cap, cur, h1, _⟩
  ·simp only [Value.slice.injEq] at h1
   exact ⟨h1.2.2, h2⟩
  ·simp only [Value.slice.injEq] at h1;rw [ha] at h1;exact absurd h1.1 (by simp)
 unfold maxLen at hcc;obtain ⟨hc1, hc2⟩ := hcc;have hb0 : (0 : Int) ≤ (l.length : Int) := by omega
 have hb1 : (l.length : Int) ≤ (c : Int) := by omega
 clear hrun how hgr ho hvb hbig hB
 rcases hsome with rfl | ⟨g, rfl⟩
 ·obtain ⟨rfl, h0⟩ := hnone rfl;clear hnone;rw [h0] at HRUN ⊢
  go_enter Tryz.func57, Tryz.ntmps57
  go_wp2_with (at_builtin; refine Lib.wpList_append_run _ rfl _ _ _ _ rfl _ _ rfl rfl _ _ HRUN.out ?_)
  go_ret
  exact ⟨_, rfl, by rw [h0] at HO; exact HO.out⟩
 ·clear hnone;generalize l.length = n at *
  go_enter Tryz.func57, Tryz.ntmps57
  go_wp2_with (at_builtin; refine Lib.wpList_append_run _ rfl _ _ _ _ rfl _ _ rfl rfl _ _ HRUN.out ?_)
  all_goals (go_ret; exact ⟨_, rfl, HO.out⟩)
theorem insertR_is (B i vb : Nat) (v : Value) (l : List RecX) (x : RecX) (w : World) (ho : w.ownsRow B 63 8 v l.length (celC recE l)) (hB : B ≤ w.heap.size) (hi : i ≤ l.length) (hbig : (l.length + 1) * 88 ≤ 140737488355328)
  (hvb : w.heap[vb]? = some (.cells (recE x).toArray 63 (0, 0))) (hne : v.ownBlock ≠ some vb) :
  Calls Tryz.prog 57 #[v, .int .i64 i, .slice (some ⟨vb, 0, none⟩) 1 1] w fun e w' => ∃ v', e = .returned v' ∧ w'.ownsRow B 63 8 v' (l.take i ++ x :: l.drop i).length (celC recE (l.take i ++ x :: l.drop i)) ∧ w.grownBy w' v.ownBlock := by
 have hlen : (l.take i ++ x :: l.drop i).length = l.length + 1 := by
  rw [List.length_append, List.length_cons, List.length_take, List.length_drop];omega
 by_cases hin : i = l.length
 ·subst hin;rw [List.take_of_length_le (Nat.le_refl _), List.drop_of_length_le (Nat.le_refl _)];obtain ⟨a, c, rfl⟩ := own_len ho;rw [List.length_append, List.length_singleton];exact insR_end B c vb a l x w ho hB hbig hvb
 ·have hil : i < l.length := by omega
  rcases ho.2 with ⟨_, h2⟩ | ⟨g, cap, cur, rfl, hg0, hg, hn, hc, hs, ht⟩
  ·omega
  ·have hgne : vb ≠ g := fun e => hne (by rw [e]; rfl)
   by_cases hroom : l.length + 1 ≤ cap
   ·refine (insR_shift g cap i vb cur l x w hg hs ht hil hroom hc hvb hgne).mono ?_;rintro e w' ⟨rfl, R, rfl, hR1, hR2⟩;refine ⟨_, rfl, ?_, ?_⟩
    ·rw [hlen]
     exact ⟨by rw [celC_len recK, hlen], .inr ⟨g, cap, R, rfl, hg0, setRow_heap _ g cur _ 63 _ hg, hroom, hc, hR1, hR2⟩⟩
    ·exact ⟨rfl, rfl, rfl, by simp [World.setRow], fun k _ hk => setRow_other _ g k _ (fun e => hk (by rw [e]; rfl))⟩
   ·refine (insR_grow g cap i vb cur l x w hg ht hil hn (by omega) hbig hvb).mono ?_;rintro e w' ⟨v', rfl, h1, h2⟩;refine ⟨v', rfl, ?_, ⟨h2.os, h2.tape, h2.output, h2.size, fun k hk _ => h2.block k hk⟩⟩;rw [hlen];exact own_base h1 hB
set_option maxRecDepth 100000 in
set_option maxHeartbeats 4000000 in
theorem mul1_is (m : Nat) (h : 2 ≤ m ∧ m ≤ 8) (w : World) : Calls Tryz.prog 157 #[.int .u64 1, .int .u64 (m : Int)] w fun e w' => e = .returned (.tuple #[.int .u64 0, .int .u64 (m : Int)]) ∧ w' = w := by
 have hc : m = 2 ∨ m = 3 ∨ m = 4 ∨ m = 5 ∨ m = 6 ∨ m = 7 ∨ m = 8 := by omega
 rcases hc with rfl | rfl | rfl | rfl | rfl | rfl | rfl
 ·have H : Calls Tryz.prog 175 #[.int .u64 1, .int .u64 2] w fun e w' => e = .returned (.tuple #[.int .u64 0, .int .u64 2]) ∧ w' = w := by
   go_enter Tryz.func175, Tryz.ntmps175
   go_wp2
   go_ret2
   exact ⟨by first | rfl | decide, rfl⟩
  go_enter Tryz.func157, Tryz.ntmps157
  go_wp2_with fail
  refine H.mono ?_;rintro e w' ⟨rfl, rfl⟩;dsimp only;go_wp2
  go_ret2
  exact ⟨rfl, rfl⟩
 ·have H : Calls Tryz.prog 175 #[.int .u64 1, .int .u64 3] w fun e w' => e = .returned (.tuple #[.int .u64 0, .int .u64 3]) ∧ w' = w := by
   go_enter Tryz.func175, Tryz.ntmps175
   go_wp2
   go_ret2
   exact ⟨by first | rfl | decide, rfl⟩
  go_enter Tryz.func157, Tryz.ntmps157
  go_wp2_with fail
  refine H.mono ?_;rintro e w' ⟨rfl, rfl⟩;dsimp only;go_wp2
  go_ret2
  exact ⟨rfl, rfl⟩
 ·have H : Calls Tryz.prog 175 #[.int .u64 1, .int .u64 4] w fun e w' => e = .returned (.tuple #[.int .u64 0, .int .u64 4]) ∧ w' = w := by
   go_enter Tryz.func175, Tryz.ntmps175
   go_wp2
   go_ret2
   exact ⟨by first | rfl | decide, rfl⟩
  go_enter Tryz.func157, Tryz.ntmps157
  go_wp2_with fail
  refine H.mono ?_;rintro e w' ⟨rfl, rfl⟩;dsimp only;go_wp2
  go_ret2
  exact ⟨rfl, rfl⟩
 ·have H : Calls Tryz.prog 175 #[.int .u64 1, .int .u64 5] w fun e w' => e = .returned (.tuple #[.int .u64 0, .int .u64 5]) ∧ w' = w := by
   go_enter Tryz.func175, Tryz.ntmps175
   go_wp2
   go_ret2
   exact ⟨by first | rfl | decide, rfl⟩
  go_enter Tryz.func157, Tryz.ntmps157
  go_wp2_with fail
  refine H.mono ?_;rintro e w' ⟨rfl, rfl⟩;dsimp only;go_wp2
  go_ret2
  exact ⟨rfl, rfl⟩
 ·have H : Calls Tryz.prog 175 #[.int .u64 1, .int .u64 6] w fun e w' => e = .returned (.tuple #[.int .u64 0, .int .u64 6]) ∧ w' = w := by
   go_enter Tryz.func175, Tryz.ntmps175
   go_wp2
   go_ret2
   exact ⟨by first | rfl | decide, rfl⟩
  go_enter Tryz.func157, Tryz.ntmps157
  go_wp2_with fail
  refine H.mono ?_;rintro e w' ⟨rfl, rfl⟩;dsimp only;go_wp2
  go_ret2
  exact ⟨rfl, rfl⟩
 ·have H : Calls Tryz.prog 175 #[.int .u64 1, .int .u64 7] w fun e w' => e = .returned (.tuple #[.int .u64 0, .int .u64 7]) ∧ w' = w := by
   go_enter Tryz.func175, Tryz.ntmps175
   go_wp2
   go_ret2
   exact ⟨by first | rfl | decide, rfl⟩
  go_enter Tryz.func157, Tryz.ntmps157
  go_wp2_with fail
  refine H.mono ?_;rintro e w' ⟨rfl, rfl⟩;dsimp only;go_wp2
  go_ret2
  exact ⟨rfl, rfl⟩
 ·have H : Calls Tryz.prog 175 #[.int .u64 1, .int .u64 8] w fun e w' => e = .returned (.tuple #[.int .u64 0, .int .u64 8]) ∧ w' = w := by
   go_enter Tryz.func175, Tryz.ntmps175
   go_wp2
   go_ret2
   exact ⟨by first | rfl | decide, rfl⟩
  go_enter Tryz.func157, Tryz.ntmps157
  go_wp2_with fail
  refine H.mono ?_;rintro e w' ⟨rfl, rfl⟩;dsimp only;go_wp2
  go_ret2
  exact ⟨rfl, rfl⟩
theorem row_more (cur : Array Value) (x : Value) (t m k : Nat) (hk : k = min t (m - t)) (hs : cur.size = m) (htm : t ≤ m) (ht : cur.toList.take t = List.replicate t x) : (cur.toList.take t ++ List.replicate k x ++ cur.toList.drop (t + k)).toArray.size = m ∧ (cur.toList.take t ++ List.replicate k x ++ cur.toList.drop (t + k)).toArray.toList.take (t + k) = List.replicate (t + k) x := by
 constructor
 ·simp only [List.size_toArray, List.length_append, List.length_take, List.length_drop, List.length_replicate, Array.length_toList, hs];omega
 ·rw [List.toList_toArray, ht, List.replicate_append_replicate, List.take_left']
  simp
set_option maxHeartbeats 8000000 in
set_option maxRecDepth 100000 in
theorem rep_is (g m : Nat) (x : Int) (hm : 2 ≤ m ∧ m ≤ 8) (w : World) (hg : w.heap[g]? = some (.cells #[.int .i64 x] 3 (0, 0))) : Calls Tryz.prog 135 #[.slice (some ⟨g, 0, none⟩) 1 1, .int .i64 (m : Int)] w fun e w' => ∃ a c, e = .returned (.slice a m c) ∧ w'.ownsRow w.heap.size 3 1 (.slice a m c) m (List.replicate m (.int .i64 x)) ∧ Below w.heap.size w w' := by
 have hc7 : m = 2 ∨ m = 3 ∨ m = 4 ∨ m = 5 ∨ m = 6 ∨ m = 7 ∨ m = 8 := by omega
 have hw1 : IntKind.u64.wrap (m : Int) = (m : Int) := by rcases hc7 with rfl | rfl | rfl | rfl | rfl | rfl | rfl <;> rfl
 have hw2 : IntKind.i64.wrap (m : Int) = (m : Int) := by rw [IntKind.wrap_i64]; omega
 have HM := hideIt (mul1_is m hm w);have hmk := run_make_row' (P := Tryz.prog) 32 3 (.int .i64 0) 8 Tryz.underlying32 (by kernel_rfl) rfl .i64 .i64 m (by omega) (by omega);have hsz : (Tryz.prog.info? 3).map (·.size) = some 1 := by kernel_rfl
 have hgl : g < w.heap.size := (Array.getElem?_eq_some_iff.1 hg).1;obtain ⟨Z, hZ⟩ : ∃ Z, Z = madeCells #[Value.int .i64 0] m := ⟨_, rfl⟩;have hZs : Z.size = m := by rw [hZ]; exact size_madeCells _ _
 obtain ⟨W1, hW1⟩ : ∃ W1, W1 = w.alloc (.cells Z 3) := ⟨_, rfl⟩;have hg0 : W1.heap[w.heap.size]? = some (.cells Z 3 (0, 0)) := by rw [hW1]; exact heap_alloc_new w _
 have hgg : W1.heap[g]? = some (.cells #[.int .i64 x] 3 (0, 0)) := by rw [hW1]; exact (heap_alloc_old w _ hgl).trans hg
 obtain ⟨R0, hR0⟩ : ∃ R0 : Array Value, R0 = (Z.toList.take 0 ++ List.replicate 1 (Value.int .i64 x) ++ Z.toList.drop (0 + (List.replicate 1 (Value.int .i64 x)).length)).toArray := ⟨_, rfl⟩;obtain ⟨hR1, hR2⟩ : R0.size = m ∧ R0.toList.take 1 = List.replicate 1 (Value.int .i64 x) := by
  rw [hR0]
  constructor
  ·simp only [List.size_toArray, List.length_append, List.length_take, List.length_drop, List.length_replicate, Array.length_toList, hZs];omega
  ·simp
 have hcp0 : (∀ ty, (Builtin.copy_ #[32, 32] ty #[.slice (some ⟨w.heap.size, 0, none⟩) m m, .slice (some ⟨g, 0, none⟩) 1 1]).run Tryz.prog W1 = .ok (.int .i64 1) (W1.setRow w.heap.size R0)) := (fun ty => by
  have := run_copyK W1 32 32 ty 3 1 w.heap.size 0 m m ⟨g, 0, none⟩ 1 1 Z 3 (List.replicate 1 (Value.int .i64 x)) Tryz.underlying32 hsz hg0 (by simp only [List.length_replicate]; show 1 = (min 1 m) * 1; omega) (fun j v hj => by
   rw [addN, cell_at hgg, Nat.zero_add]
   simpa using hj) (by simp only [List.length_replicate]; omega) (by simp [Value.oneCell'])
  rw [this, hR0];have e : Nat.min 1 m = 1 := by show min 1 m = 1; omega
  rw [e]
  rfl)
 have hA : Below w.heap.size w (W1.setRow w.heap.size R0) := by
  rw [hW1];refine ⟨rfl, rfl, rfl, ?_, fun k hk => ?_⟩
  ·simp [World.setRow]
  ·rw [setRow_other _ _ k _ (by omega)];exact heap_alloc_old w _ hk
 have HS := hideIt (And.intro (setRow_heap W1 w.heap.size Z R0 3 _ hg0) (And.intro hR1 (And.intro hR2 hA)));have hb0 : ¬ ((9223372036854775807 : Int) < (m : Int)) := by omega
 have hm1 : 1 ≤ m := by omega
 have hm0 : ¬ (m = 0) := by omega
 rw [← hZ] at hmk;have hmk1 : (Instr.makeSlice 32 (.int .i64 (m : Int)) (.int .i64 (m : Int))).run Tryz.prog w = .ok (.slice (some ⟨w.heap.size, 0, none⟩) m m) W1 := by rw [hW1]; exact hmk w
 clear hmk hg hgl hZ hZs hW1 hg0 hgg hR0 hR1 hR2 hA hc7;have mixed : Tryz.prog.follows Departure.mixedOrders = true := by kernel_rfl
 go_enter Tryz.func135, Tryz.ntmps135
 go_wp2_with fail
 refine HM.out.mono ?_;rintro e w1 ⟨rfl, rfl⟩;dsimp only;clear HM
 go_wp2_with (at_builtin; refine wpList_copy_runK _ rfl _ _ 32 32 rfl _ _ rfl rfl (hcp0 _) ?_)
 go_loopw [8] (fun v wr => ∃ (t : Nat) (cur : Array Value), v = .int .i64 (t : Int) ∧ 1 ≤ t ∧ t ≤ m ∧ Hid (wr.heap[w1.heap.size]? = some (.cells cur 3 (0, 0)) ∧ cur.size = m ∧ cur.toList.take t = List.replicate t (Value.int .i64 x) ∧ Below w1.heap.size w1 wr)) (fun v _ => ((m : Int) - intOf v).toNat)
 case atStart => exact ⟨1, R0, rfl, Nat.le_refl _, hm1, HS.out⟩
 case round =>
  clear HS hcp0;obtain ⟨t, cur, rfl, ht1, htm, HC⟩ := hrel
  by_cases hlt : t < m
  ·obtain ⟨k, hk⟩ : ∃ k, k = min t (m - t) := ⟨_, rfl⟩;obtain ⟨R, hR⟩ : ∃ R : Array Value, R = (cur.toList.take t ++ List.replicate k (Value.int .i64 x) ++ cur.toList.drop (t + k)).toArray := ⟨_, rfl⟩;obtain ⟨hcur, hcs, hct, hbl⟩ := HC.out;obtain ⟨r1, r2⟩ := row_more cur (.int .i64 x) t m k hk hcs (by omega) hct;rw [← hR] at r1 r2;have HCP : Hid (∀ ty, (Builtin.copy_ #[32, 32] ty #[.slice (some ⟨w1.heap.size, t, none⟩) (m - t) (m - t), .slice (some ⟨w1.heap.size, 0, none⟩) t m]).run Tryz.prog wr.drew = .ok (.int .i64 (k : Int)) (wr.drew.setRow w1.heap.size R)) := hideIt (fun ty => by
    have := run_copyK wr.drew 32 32 ty 3 1 w1.heap.size t (m - t) (m - t) ⟨w1.heap.size, 0, none⟩ t m cur 3 (List.replicate k (Value.int .i64 x)) Tryz.underlying32 hsz hcur (by simp only [List.length_replicate]; show k = (min t (m - t)) * 1; omega) (fun j v hj => by
     have hjl : j < k := by simpa using (List.getElem?_eq_some_iff.1 hj).1
     have hv : v = .int .i64 x := by
      rw [List.getElem?_replicate, if_pos hjl] at hj;exact (Option.some.inj hj).symm
     rw [addN, cell_at (w := wr.drew) hcur, Nat.zero_add, ← Array.getElem?_toList, ← List.getElem?_take_of_lt (show j < t by omega), hct, List.getElem?_replicate, if_pos (by omega), hv]) (by simp only [List.length_replicate]; omega) (by
     intro v hv;rw [(List.mem_replicate.1 hv).2]
     rfl)
    simp only [List.length_replicate] at this;rw [this, ← hR];have e : Nat.min t (m - t) = k := hk.symm;rw [e]
    rfl)
   have HN : Hid ((wr.drew.setRow w1.heap.size R).heap[w1.heap.size]? = some (.cells R 3 (0, 0)) ∧ R.size = m ∧ R.toList.take (t + k) = List.replicate (t + k) (Value.int .i64 x) ∧ Below w1.heap.size w1 (wr.drew.setRow w1.heap.size R)) := hideIt ⟨setRow_heap _ _ cur _ 3 _ hcur, r1, r2, by
    have hbd := hbl.drew
    exact ⟨hbd.os, hbd.tape, hbd.output, by simpa [World.setRow] using hbd.size, fun k hk => (setRow_other _ _ k _ (by omega)).trans (hbd.block k hk)⟩⟩
   have hb1 : (0 : Int) ≤ (t : Int) := by omega
   have hb2 : (t : Int) ≤ (m : Int) := by omega
   have hb3 : ¬ (m = t) := by omega
   have hb4 : IntKind.i64.wrap ((t : Int) + (k : Int)) = ((t + k : Nat) : Int) := by rw [IntKind.wrap_i64]; omega
   have hlt' : (t : Int) < (m : Int) := by omega
   have hk1 : 1 ≤ k ∧ t + k ≤ m := by omega
   clear HC hcur hcs hct hbl r1 r2 hR hk
   go_wp2_with fail
   go_region_law_o (refine step_copy_runK rfl _ _ 32 32 rfl (.slice (some ⟨w1.heap.size, t, none⟩) (m - t) (m - t)) (.slice (some ⟨w1.heap.size, 0, none⟩) t m) (by simp [Act.eval, Act.put]) (by simp [Act.eval, Act.put]) (HCP.out _) ?_)
   all_goals go_wp2
   all_goals try simp only [aP, aQ, aA, aB, aC]
   all_goals try simp only [List.getElem_toArray, List.getElem_cons_succ, List.getElem_cons_zero, Act.put, List.setIfInBounds_toArray, List.set_cons_zero, List.set_cons_succ]
   all_goals go_roundw
   case rel => exact ⟨t + k, R, by go_num, by omega, by omega, HN⟩
   case measure => simp [intOf]; omega
  ·have e : t = m := by omega
   subst e;obtain ⟨hcur, hcs, hct, hbl⟩ := HC.out;have HN : Hid (wr.ownsRow w1.heap.size 3 1 (.slice (some ⟨w1.heap.size, 0, none⟩) t t) t (List.replicate t (Value.int .i64 x)) ∧ Below w1.heap.size w1 wr) := hideIt ⟨⟨by simp, .inr ⟨w1.heap.size, t, cur, rfl, Nat.le_refl _, hcur, Nat.le_refl _, by unfold maxLen; omega, by omega, by rw [Nat.mul_one]; exact hct⟩⟩, hbl⟩
   clear HC hcur hcs hct hbl;go_wp2;go_ret
   exact ⟨_, _, rfl, HN.out⟩
end Go.Proofs.YtcaehfkfohianaaGreat
