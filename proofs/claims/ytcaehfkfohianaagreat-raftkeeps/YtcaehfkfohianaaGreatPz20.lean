/- Texts of my own, laid together. -/
import Derived.Test.YtcaehfkfohianaaGreatZq
import Derived.Test.YtcaehfkfohianaaGreatPz17
import Derived.Test.YtcaehfkfohianaaGreatPz13
set_option linter.all false
namespace Go.Proofs.YtcaehfkfohianaaGreat
open Go.RowKit
theorem WK.two {X : WkX} {K : Nat} {w wx : World} (h : WK w K X wx) (j : Nat) (h1 : j < X.d.nx.length) (h2 : j < X.d.mt.length) : ∃ g gm, X.na = some ⟨g, 0, none⟩ ∧ X.ma = some ⟨gm, 0, none⟩ ∧ (wx.cell? ⟨g, j, none⟩ = some (.int .i64 (X.d.nx.getD j 0)) ∧ wx.frozen? ⟨g, j, none⟩ = false ∧ g < wx.heap.size) ∧ (wx.cell? ⟨gm, j, none⟩ = some (.int .i64 (X.d.mt.getD j 0)) ∧ wx.frozen? ⟨gm, j, none⟩ = false ∧ gm < wx.heap.size) ∧ (X.d.nx.length ≤ X.nc ∧ X.nc ≤ maxLen) ∧ (X.d.mt.length ≤ X.mc ∧ X.mc ≤ maxLen) ∧ (g ≠ gm ∧ g ≠ K ∧ gm ≠ K) ∧ (∀ p cs t, wx.heap[p]? = some (.cells cs t (0, 0)) → (3 : TypeId) ≠ t → p ≠ g ∧ p ≠ gm) := by
 obtain ⟨g, hg, n0, nf, nz⟩ := h.rows.ncell j h1;obtain ⟨gm, hgm, t0, tf, tz⟩ := h.rows.mcell j h2;have hne : g ≠ gm := by
  intro e;have := h.rows.nm;unfold WkX.gn WkX.gm at this;rw [hg, hgm, e] at this
  rcases this with h1 | h1
  ·simp [Value.ownBlock] at h1
  ·exact h1 rfl
 have hn3 : ∃ cs, wx.heap[g]? = some (.cells cs 3 (0, 0)) ∧ X.d.nx.length ≤ X.nc ∧ X.nc ≤ maxLen := by
  obtain ⟨_, ⟨hv, h0⟩ | ⟨g', cap, cur, hv, hB, hb, hn, hc, _, _⟩⟩ := h.rows.nd.n
  ·omega
  ·unfold WkX.gn at hv;rw [hg] at hv;simp only [Value.slice.injEq, Option.some.injEq, Addr.mk.injEq, and_true] at hv;rw [hv.1]
   exact ⟨cur, hb, by omega, by omega⟩
 have hm3 : ∃ cs, wx.heap[gm]? = some (.cells cs 3 (0, 0)) ∧ X.d.mt.length ≤ X.mc ∧ X.mc ≤ maxLen := by
  obtain ⟨_, ⟨hv, h0⟩ | ⟨g', cap, cur, hv, hB, hb, hn, hc, _, _⟩⟩ := h.rows.nd.m
  ·omega
  ·unfold WkX.gm at hv;rw [hgm] at hv;simp only [Value.slice.injEq, Option.some.injEq, Addr.mk.injEq, and_true] at hv;rw [hv.1]
   exact ⟨cur, hb, by omega, by omega⟩
 obtain ⟨cn, hn3, hc1, hc2⟩ := hn3;obtain ⟨cm, hm3, hc3, hc4⟩ := hm3;have far : ∀ p cs t, wx.heap[p]? = some (.cells cs t (0, 0)) → (3 : TypeId) ≠ t → p ≠ g ∧ p ≠ gm := by
  intro p cs t hp ht
  constructor
  ·intro e;rw [e, hn3] at hp;simp only [Option.some.injEq, Obj.cells.injEq] at hp;exact ht hp.2.1
  ·intro e;rw [e, hm3] at hp;simp only [Option.some.injEq, Obj.cells.injEq] at hp;exact ht hp.2.1
 have hk := far K _ _ h.box (by decide)
 exact ⟨g, gm, hg, hgm, ⟨n0, nf, nz⟩, ⟨t0, tf, tz⟩, ⟨hc1, hc2⟩, ⟨hc3, hc4⟩, ⟨hne, fun e => hk.1 e.symm, fun e => hk.2 e.symm⟩, far⟩
theorem getD_set (l : List Int) (j : Nat) (x : Int) (h : j < l.length) : (l.set j x).getD j 0 = x := by
 rw [List.getD_eq_getElem?_getD, List.getElem?_set]
 simp [h]
set_option maxRecDepth 100000 in
set_option maxHeartbeats 16000000 in
theorem appdK_is {X : WkX} {K : Nat} {w wx : World} (h : WK w K X wx) (y : MsgX) (hb : NB X.d) (hl : Led X.d) (hf : 1 ≤ y.m.frm ∧ y.m.frm ≤ X.d.n) (hmt : 0 ≤ y.m.mtch ∧ y.m.mtch ≤ 1000000) (hs : X.M.length + 10 ≤ 1000000) : Calls Tryz.prog 144 #[.pointer (some ⟨K, 0, none⟩), .agg (msgE y).toArray] wx fun r w' => ∃ Y' : WkX, r = .returned (.int .i64 0) ∧ Y'.v = appdW X.v y.m ∧ WK w K Y' w' := by
 have HX9 := hideIt (h.keep (below1 wx (.cells (msgE y).toArray 50)));have HP9 := hideIt (heap_alloc_new wx (.cells (msgE y).toArray 50));obtain ⟨j, hj⟩ : ∃ j : Nat, y.m.frm = (j : Int) := ⟨y.m.frm.toNat, by omega⟩;have hjt : y.m.frm.toNat = j := by omega
 have HV : Hid (appdW X.v y.m = if X.d.b.r ≠ 3 ∨ y.m.term ≠ X.d.b.t ∨ (lastL X.d.L).1 < y.m.mtch then X.v else if y.m.ok = false then sendW {X.v with d := {X.d with nx := X.d.nx.set j (max (min (y.m.mtch + 1) (X.d.nx.getD j 0)) (X.d.mt.getD j 0 + 1))}} j else if (advW {X.v with d := {X.d with mt := X.d.mt.set j (max (X.d.mt.getD j 0) y.m.mtch), nx := X.d.nx.set j (max (X.d.nx.getD j 0) (max (X.d.mt.getD j 0) y.m.mtch + 1))}}).d.nx.getD j 0 ≤ (lastL X.d.L).1 then sendW (advW {X.v with d := {X.d with mt := X.d.mt.set j (max (X.d.mt.getD j 0) y.m.mtch), nx := X.d.nx.set j (max (X.d.nx.getD j 0) (max (X.d.mt.getD j 0) y.m.mtch + 1))}}) j else advW {X.v with d := {X.d with mt := X.d.mt.set j (max (X.d.mt.getD j 0) y.m.mtch), nx := X.d.nx.set j (max (X.d.nx.getD j 0) (max (X.d.mt.getD j 0) y.m.mtch + 1))}}) := hideIt (by rw [← hjt]; rfl)
 have HJ := hideIt hj;have HJT := hideIt hjt;clear hj hjt;have hls := last_fst hb.L;have hin := las_in hb.L;have hKP : K ≠ wx.heap.size := by
  have := (Array.getElem?_eq_some_iff.1 h.box).1;omega
 have HLA := hideIt (lastW_is HX9.out);clear h;unfold msgE at *
 go_enter Tryz.func144, Tryz.ntmps144
 go_upto_region 1 with fail
 generalize (World.alloc wx _) = W0 at *;generalize wx.heap.size = P at *;have hPK : P ≠ K := fun e1 => hKP e1.symm
 generalize hlst : (lastL X.d.L).1 = last at *;have HLS := hideIt hls;clear hls hlst
 go_wp2_with fail
 refine HLA.out.mono ?_;rintro r W1 ⟨rfl, hb1⟩;dsimp only;have HX0 := hideIt (HX9.out.keep hb1);have HP := hideIt (blkK HP9.out hb1);clear HLA hb1 HX9 HP9;have HT : Hid (∀ W, Below W1.heap.size W1 W → Calls Tryz.prog 94 #[.pointer (some ⟨K, 0, none⟩)] W fun r w' => r = .returned (.int .i64 X.d.b.t) ∧ w' = W) := hideIt (fun W hW => termW_is (HX0.out.keep hW).box);obtain ⟨⟨m0, m1, m2, m3, m4, m5, m6, m7, m8, m9, m10, m11, m12⟩, mf, mz⟩ := at13 HP.out
 go_upto_region 2 with fail
 by_cases hr : X.d.b.r = 3
 ·have HLe : Hid (∀ W, Below W1.heap.size W1 W → Calls Tryz.prog 87 #[.pointer (some ⟨K, 0, none⟩)] W fun r w' => r = .returned (.bool true) ∧ w' = W) := hideIt (fun W hW => by
   have := leadsW_is (HX0.out.keep hW).box;rw [show decide (X.d.b.r = 3) = true from decide_eq_true hr] at this;exact this)
  have hld := hl.1 hr
  by_cases ht : y.m.term = X.d.b.t
  ·by_cases hml : last < y.m.mtch
   ·have hml' : decide (last < y.m.mtch) = true := decide_eq_true hml;rw [if_pos (.inr (.inr hml))] at HV;have HTE := hideIt ht;have hte : (y.m.term != X.d.b.t) = false := by simp [ht]
    clear ht hr
    go_cut [24] from 9 to 24 (fun x wy => x = .bool true ∧ Hid (Below W1.heap.size W1 wy))
    case first =>
     clear HV;refine wp_region_held_drew (S := fun W => W.cell? ⟨P, 3, none⟩ = some (.int .i64 y.m.term) ∧ W.cell? ⟨P, 9, none⟩ = some (.int .i64 y.m.mtch)) (by rfl) ⟨m3, m9⟩ (fun hHeld => ?_);refine wpAnyH_take (i := 0) (oi := ⟨some 9, _, _, _, _, _⟩) (v := ?_) rfl (by kernel_rfl) (by kernel_rfl) (by kernel_rfl) (fun _ _ _ h => h) (Or.inl ⟨by rfl, ?_⟩) (by assumption) ?_
     rotate_left
     ·intro w5 hSw
      (try dsimp only at hSw)
      go_simp
      (try with_reducible rfl)
     try simp only [aP, aQ, aA, aB, aC]
     refine wpAnyH_ready (rs := [1]) (by kernel_rfl) (by simp) ?_;refine AllReadyH.cons (o := ⟨some 10, _, _, _, _, _⟩) rfl (fun Kx hK => ?_) AllReadyH.nil;go_simp
     go_at_call 87
     refine (HLe.out _ (by first | exact (Below.refl _ _).drew | exact Below.refl _ _)).mono ?_;rintro r5 w5 ⟨rfl, rfl⟩;refine hK.out _ _ hHeld (fun hHeld => ?_);clear hK Kx
     try simp only [aP, aQ, aA, aB, aC]
     refine wpAnyH_take (i := 2) (oi := ⟨some 11, _, _, _, _, _⟩) (v := ?_) rfl (by kernel_rfl) (by kernel_rfl) (by kernel_rfl) (fun _ _ _ h => h) (Or.inl ⟨by rfl, ?_⟩) (by assumption) ?_
     rotate_left
     ·intro w5 hSw
      (try dsimp only at hSw)
      go_simp
      (try with_reducible rfl)
     try simp only [aP, aQ, aA, aB, aC]
     refine wpAnyH_take (i := 3) (oi := ⟨some 12, _, _, _, _, _⟩) (v := ?_) rfl (by kernel_rfl) (by kernel_rfl) (by kernel_rfl) (fun _ _ _ h => h) (Or.inl ⟨by rfl, ?_⟩) (by assumption) ?_
     rotate_left
     ·intro w5 hSw
      (try dsimp only at hSw)
      go_simp
      (try with_reducible rfl)
     try simp only [aP, aQ, aA, aB, aC]
     refine wpAnyH_take (i := 4) (oi := ⟨some 13, _, _, _, _, _⟩) (v := ?_) rfl (by kernel_rfl) (by kernel_rfl) (by kernel_rfl) (fun _ _ _ h => h) (Or.inl ⟨by rfl, ?_⟩) (by assumption) ?_
     rotate_left
     ·intro w5 hSw
      (try dsimp only at hSw)
      go_simp
      (try with_reducible rfl)
     try simp only [aP, aQ, aA, aB, aC]
     refine wpAnyH_take (i := 5) (oi := ⟨some 14, _, _, _, _, _⟩) (v := ?_) rfl (by kernel_rfl) (by kernel_rfl) (by kernel_rfl) (fun _ _ _ h => h) (Or.inl ⟨by rfl, ?_⟩) (by assumption) ?_
     rotate_left
     ·intro w5 hSw
      (try dsimp only at hSw)
      go_simp
      (try with_reducible rfl)
     try simp only [aP, aQ, aA, aB, aC]
     refine wpAnyH_take (i := 6) (oi := ⟨some 15, _, _, _, _, _⟩) (v := ?_) rfl (by kernel_rfl) (by kernel_rfl) (by kernel_rfl) (fun _ _ _ h => h) (Or.inl ⟨by rfl, ?_⟩) (by assumption) ?_
     rotate_left
     ·intro w5 hSw
      (try dsimp only at hSw)
      go_simp
      (try with_reducible rfl)
     try simp only [aP, aQ, aA, aB, aC]
     refine wpAnyH_ready (rs := [7]) (by kernel_rfl) (by simp) ?_;refine AllReadyH.cons (o := ⟨some 16, _, _, _, _, _⟩) rfl (fun Kx hK => ?_) AllReadyH.nil;go_simp
     go_at_call 94
     refine (HT.out _ (by first | exact (Below.refl _ _).drew | exact Below.refl _ _)).mono ?_;rintro r5 w5 ⟨rfl, rfl⟩;refine hK.out _ _ hHeld (fun hHeld => ?_);clear hK Kx
     try simp only [aP, aQ, aA, aB, aC]
     refine wpAnyH_take (i := 8) (oi := ⟨some 17, _, _, _, _, _⟩) (v := ?_) rfl (by kernel_rfl) (by kernel_rfl) (by kernel_rfl) (fun _ _ _ h => h) (Or.inl ⟨by rfl, ?_⟩) (by assumption) ?_
     rotate_left
     ·intro w5 hSw
      (try dsimp only at hSw)
      go_simp
      (try with_reducible rfl)
     try simp only [aP, aQ, aA, aB, aC]
     refine wpAnyH_take (i := 9) (oi := ⟨some 18, _, _, _, _, _⟩) (v := ?_) rfl (by kernel_rfl) (by kernel_rfl) (by kernel_rfl) (fun _ _ _ h => h) (Or.inl ⟨by rfl, ?_⟩) (by assumption) ?_
     rotate_left
     ·intro w5 hSw
      (try dsimp only at hSw)
      go_simp
      (try with_reducible rfl)
     try simp only [aP, aQ, aA, aB, aC]
     refine wpAnyH_take (i := 10) (oi := ⟨some 19, _, _, _, _, _⟩) (v := ?_) rfl (by kernel_rfl) (by kernel_rfl) (by kernel_rfl) (fun _ _ _ h => h) (Or.inl ⟨by rfl, ?_⟩) (by assumption) ?_
     rotate_left
     ·intro w5 hSw
      (try dsimp only at hSw)
      go_simp
      (try with_reducible rfl)
     try simp only [aP, aQ, aA, aB, aC]
     refine wpAnyH_take (i := 11) (oi := ⟨some 20, _, _, _, _, _⟩) (v := ?_) rfl (by kernel_rfl) (by kernel_rfl) (by kernel_rfl) (fun _ _ _ h => h) (Or.inl ⟨by rfl, ?_⟩) (by assumption) ?_
     rotate_left
     ·intro w5 hSw
      (try dsimp only at hSw)
      go_simp
      (try with_reducible rfl)
     try simp only [aP, aQ, aA, aB, aC]
     refine wpAnyH_take (i := 12) (oi := ⟨some 21, _, _, _, _, _⟩) (v := ?_) rfl (by kernel_rfl) (by kernel_rfl) (by kernel_rfl) (fun _ _ _ h => h) (Or.inl ⟨by rfl, ?_⟩) (by assumption) ?_
     rotate_left
     ·intro w5 hSw
      (try dsimp only at hSw)
      go_simp
      (try with_reducible rfl)
     try simp only [aP, aQ, aA, aB, aC]
     refine wpAnyH_take (i := 13) (oi := ⟨some 22, _, _, _, _, _⟩) (v := ?_) rfl (by kernel_rfl) (by kernel_rfl) (by kernel_rfl) (fun _ _ _ h => h) (Or.inl ⟨by rfl, ?_⟩) (by assumption) ?_
     rotate_left
     ·intro w5 hSw
      (try dsimp only at hSw)
      go_simp
      (try with_reducible rfl)
     try simp only [aP, aQ, aA, aB, aC]
     refine wpAnyH_take (i := 14) (oi := ⟨some 23, _, _, _, _, _⟩) (v := ?_) rfl (by kernel_rfl) (by kernel_rfl) (by kernel_rfl) (fun _ _ _ h => h) (Or.inl ⟨by rfl, ?_⟩) (by assumption) ?_
     rotate_left
     ·intro w5 hSw
      (try dsimp only at hSw)
      go_simp
      (try with_reducible rfl)
     try simp only [aP, aQ, aA, aB, aC]
     refine wpAnyH_take (i := 15) (oi := ⟨some 24, _, _, _, _, _⟩) (v := ?_) rfl (by kernel_rfl) (by kernel_rfl) (by kernel_rfl) (fun _ _ _ h => h) (Or.inl ⟨by rfl, ?_⟩) (by assumption) ?_
     rotate_left
     ·intro w5 hSw
      (try dsimp only at hSw)
      go_simp
      (try with_reducible rfl)
     try simp only [aP, aQ, aA, aB, aC]
     refine wpAnyH_done (by kernel_rfl) ?_ _;clear hHeld
     go_wp2_with fail
     go_meet
     exact ⟨rfl, hideIt (Below.refl _ _).drew⟩
    case rest =>
     obtain ⟨rfl, HB⟩ := hcut;have HX1 := hideIt (HX0.out.keep HB.out);have HP1 := hideIt (blkK HP.out HB.out);clear HT HLe HX0 HP HB m0 m1 m2 m3 m4 m5 m6 m7 m8 m9 m10 m11 m12 mf mz;go_wp2;go_ret;have hh : X.v = appdW X.v y.m := HV.out.symm
     first
      | exact ⟨X, rfl, hh, HX1.out⟩
      | exact ⟨rfl, X, hh, HX1.out⟩
      | exact ⟨X, hh, HX1.out⟩
   ·have hml' : decide (last < y.m.mtch) = false := decide_eq_false hml;rw [if_neg (fun hh => by rcases hh with hh | hh | hh; exact hh hr; exact hh ht; exact hml hh)] at HV
    have HTE := hideIt ht;have hte : (y.m.term != X.d.b.t) = false := by simp [ht]
    clear ht
    go_cut [24] from 9 to 24 (fun x wy => x = .bool false ∧ Hid (Below W1.heap.size W1 wy))
    case first =>
     clear HV;refine wp_region_held_drew (S := fun W => W.cell? ⟨P, 3, none⟩ = some (.int .i64 y.m.term) ∧ W.cell? ⟨P, 9, none⟩ = some (.int .i64 y.m.mtch)) (by rfl) ⟨m3, m9⟩ (fun hHeld => ?_);refine wpAnyH_take (i := 0) (oi := ⟨some 9, _, _, _, _, _⟩) (v := ?_) rfl (by kernel_rfl) (by kernel_rfl) (by kernel_rfl) (fun _ _ _ h => h) (Or.inl ⟨by rfl, ?_⟩) (by assumption) ?_
     rotate_left
     ·intro w5 hSw
      (try dsimp only at hSw)
      go_simp
      (try with_reducible rfl)
     try simp only [aP, aQ, aA, aB, aC]
     refine wpAnyH_ready (rs := [1]) (by kernel_rfl) (by simp) ?_;refine AllReadyH.cons (o := ⟨some 10, _, _, _, _, _⟩) rfl (fun Kx hK => ?_) AllReadyH.nil;go_simp
     go_at_call 87
     refine (HLe.out _ (by first | exact (Below.refl _ _).drew | exact Below.refl _ _)).mono ?_;rintro r5 w5 ⟨rfl, rfl⟩;refine hK.out _ _ hHeld (fun hHeld => ?_);clear hK Kx
     try simp only [aP, aQ, aA, aB, aC]
     refine wpAnyH_take (i := 2) (oi := ⟨some 11, _, _, _, _, _⟩) (v := ?_) rfl (by kernel_rfl) (by kernel_rfl) (by kernel_rfl) (fun _ _ _ h => h) (Or.inl ⟨by rfl, ?_⟩) (by assumption) ?_
     rotate_left
     ·intro w5 hSw
      (try dsimp only at hSw)
      go_simp
      (try with_reducible rfl)
     try simp only [aP, aQ, aA, aB, aC]
     refine wpAnyH_take (i := 3) (oi := ⟨some 12, _, _, _, _, _⟩) (v := ?_) rfl (by kernel_rfl) (by kernel_rfl) (by kernel_rfl) (fun _ _ _ h => h) (Or.inl ⟨by rfl, ?_⟩) (by assumption) ?_
     rotate_left
     ·intro w5 hSw
      (try dsimp only at hSw)
      go_simp
      (try with_reducible rfl)
     try simp only [aP, aQ, aA, aB, aC]
     refine wpAnyH_take (i := 4) (oi := ⟨some 13, _, _, _, _, _⟩) (v := ?_) rfl (by kernel_rfl) (by kernel_rfl) (by kernel_rfl) (fun _ _ _ h => h) (Or.inl ⟨by rfl, ?_⟩) (by assumption) ?_
     rotate_left
     ·intro w5 hSw
      (try dsimp only at hSw)
      go_simp
      (try with_reducible rfl)
     try simp only [aP, aQ, aA, aB, aC]
     refine wpAnyH_take (i := 5) (oi := ⟨some 14, _, _, _, _, _⟩) (v := ?_) rfl (by kernel_rfl) (by kernel_rfl) (by kernel_rfl) (fun _ _ _ h => h) (Or.inl ⟨by rfl, ?_⟩) (by assumption) ?_
     rotate_left
     ·intro w5 hSw
      (try dsimp only at hSw)
      go_simp
      (try with_reducible rfl)
     try simp only [aP, aQ, aA, aB, aC]
     refine wpAnyH_take (i := 6) (oi := ⟨some 15, _, _, _, _, _⟩) (v := ?_) rfl (by kernel_rfl) (by kernel_rfl) (by kernel_rfl) (fun _ _ _ h => h) (Or.inl ⟨by rfl, ?_⟩) (by assumption) ?_
     rotate_left
     ·intro w5 hSw
      (try dsimp only at hSw)
      go_simp
      (try with_reducible rfl)
     try simp only [aP, aQ, aA, aB, aC]
     refine wpAnyH_ready (rs := [7]) (by kernel_rfl) (by simp) ?_;refine AllReadyH.cons (o := ⟨some 16, _, _, _, _, _⟩) rfl (fun Kx hK => ?_) AllReadyH.nil;go_simp
     go_at_call 94
     refine (HT.out _ (by first | exact (Below.refl _ _).drew | exact Below.refl _ _)).mono ?_;rintro r5 w5 ⟨rfl, rfl⟩;refine hK.out _ _ hHeld (fun hHeld => ?_);clear hK Kx
     try simp only [aP, aQ, aA, aB, aC]
     refine wpAnyH_take (i := 8) (oi := ⟨some 17, _, _, _, _, _⟩) (v := ?_) rfl (by kernel_rfl) (by kernel_rfl) (by kernel_rfl) (fun _ _ _ h => h) (Or.inl ⟨by rfl, ?_⟩) (by assumption) ?_
     rotate_left
     ·intro w5 hSw
      (try dsimp only at hSw)
      go_simp
      (try with_reducible rfl)
     try simp only [aP, aQ, aA, aB, aC]
     refine wpAnyH_take (i := 9) (oi := ⟨some 18, _, _, _, _, _⟩) (v := ?_) rfl (by kernel_rfl) (by kernel_rfl) (by kernel_rfl) (fun _ _ _ h => h) (Or.inl ⟨by rfl, ?_⟩) (by assumption) ?_
     rotate_left
     ·intro w5 hSw
      (try dsimp only at hSw)
      go_simp
      (try with_reducible rfl)
     try simp only [aP, aQ, aA, aB, aC]
     refine wpAnyH_take (i := 10) (oi := ⟨some 19, _, _, _, _, _⟩) (v := ?_) rfl (by kernel_rfl) (by kernel_rfl) (by kernel_rfl) (fun _ _ _ h => h) (Or.inl ⟨by rfl, ?_⟩) (by assumption) ?_
     rotate_left
     ·intro w5 hSw
      (try dsimp only at hSw)
      go_simp
      (try with_reducible rfl)
     try simp only [aP, aQ, aA, aB, aC]
     refine wpAnyH_take (i := 11) (oi := ⟨some 20, _, _, _, _, _⟩) (v := ?_) rfl (by kernel_rfl) (by kernel_rfl) (by kernel_rfl) (fun _ _ _ h => h) (Or.inl ⟨by rfl, ?_⟩) (by assumption) ?_
     rotate_left
     ·intro w5 hSw
      (try dsimp only at hSw)
      go_simp
      (try with_reducible rfl)
     try simp only [aP, aQ, aA, aB, aC]
     refine wpAnyH_take (i := 12) (oi := ⟨some 21, _, _, _, _, _⟩) (v := ?_) rfl (by kernel_rfl) (by kernel_rfl) (by kernel_rfl) (fun _ _ _ h => h) (Or.inl ⟨by rfl, ?_⟩) (by assumption) ?_
     rotate_left
     ·intro w5 hSw
      (try dsimp only at hSw)
      go_simp
      (try with_reducible rfl)
     try simp only [aP, aQ, aA, aB, aC]
     refine wpAnyH_take (i := 13) (oi := ⟨some 22, _, _, _, _, _⟩) (v := ?_) rfl (by kernel_rfl) (by kernel_rfl) (by kernel_rfl) (fun _ _ _ h => h) (Or.inl ⟨by rfl, ?_⟩) (by assumption) ?_
     rotate_left
     ·intro w5 hSw
      (try dsimp only at hSw)
      go_simp
      (try with_reducible rfl)
     try simp only [aP, aQ, aA, aB, aC]
     refine wpAnyH_take (i := 14) (oi := ⟨some 23, _, _, _, _, _⟩) (v := ?_) rfl (by kernel_rfl) (by kernel_rfl) (by kernel_rfl) (fun _ _ _ h => h) (Or.inl ⟨by rfl, ?_⟩) (by assumption) ?_
     rotate_left
     ·intro w5 hSw
      (try dsimp only at hSw)
      go_simp
      (try with_reducible rfl)
     try simp only [aP, aQ, aA, aB, aC]
     refine wpAnyH_take (i := 15) (oi := ⟨some 24, _, _, _, _, _⟩) (v := ?_) rfl (by kernel_rfl) (by kernel_rfl) (by kernel_rfl) (fun _ _ _ h => h) (Or.inl ⟨by rfl, ?_⟩) (by assumption) ?_
     rotate_left
     ·intro w5 hSw
      (try dsimp only at hSw)
      go_simp
      (try with_reducible rfl)
     try simp only [aP, aQ, aA, aB, aC]
     refine wpAnyH_done (by kernel_rfl) ?_ _;clear hHeld
     go_wp2_with fail
     go_meet
     exact ⟨rfl, hideIt (Below.refl _ _).drew⟩
    case rest =>
     obtain ⟨rfl, HB⟩ := hcut;have HX1 := hideIt (HX0.out.keep HB.out);have HP1 := hideIt (blkK HP.out HB.out);clear HT HLe HX0 HP HB m0 m1 m2 m3 m4 m5 m6 m7 m8 m9 m10 m11 m12 mf mz;have hn := hb.n;obtain ⟨e1, e2, e3, e4⟩ := hld.at_ hb hf.1 hf.2;rw [HJT.out] at e1 e2 e3 e4;have hnl := hld.nl;have hmll := hld.ml;have HF := hideIt (And.intro e1 (And.intro e2 (And.intro hin (And.intro hnl hmll))));obtain ⟨g, gm, hg, hgm, ⟨n0, nf, nz⟩, ⟨t0, tf, tz⟩, ⟨hc1, hc2⟩, ⟨hc3, hc4⟩, ⟨hne, hgK, hgmK⟩, far⟩ := HX1.out.two j e3 e4;obtain ⟨hPg, hPgm⟩ := far P _ _ HP1.out (by decide);obtain ⟨⟨k0, k1, k2, k3, k4, k5, k6, k7, k8, k9, k10, k11, k12, k13, k14, k15, k16, k17⟩, kf, kz⟩ := at18 HX1.out.box;rw [hg] at k12;rw [hgm] at k13;obtain ⟨⟨m0, m1, m2, m3, m4, m5, m6, m7, m8, m9, m10, m11, m12⟩, mf, mz⟩ := at13 HP1.out;rw [HJ.out] at m1;have hm2 : 2 ≤ X.d.mt.length := by omega
     have hj0 : (0 : Int) ≤ (j : Int) := by omega
     have hjn : (j : Int) < (X.d.nx.length : Int) := by omega
     have hjm : (j : Int) < (X.d.mt.length : Int) := by omega
     have hKg : K ≠ g := fun e => hgK e.symm
     have hKgm : K ≠ gm := fun e => hgmK e.symm
     have hgP : g ≠ P := fun e => hPg e.symm
     have hgmP : gm ≠ P := fun e => hPgm e.symm
     have hne' : gm ≠ g := fun e => hne e.symm
     obtain ⟨hmt1, hmt2⟩ := hmt;generalize hNV : X.d.nx.getD j 0 = nv at *;have HNV := hideIt hNV;clear hNV;generalize X.d.mt.getD j 0 = mv at *;have hw1 : IntKind.i64.wrap (y.m.mtch + 1) = y.m.mtch + 1 := by rw [IntKind.wrap_i64]; omega
     have hw2 : IntKind.i64.wrap (mv + 1) = mv + 1 := by rw [IntKind.wrap_i64]; omega
     clear hnl hmll far hld k0 k1 k2 k3 k4 k5 k6 k7 k8 k9 k10 k11 k14 k15 k16 k17 m0 m2 m3 m4 m5 m6 m7 m10 m11 m12;cases hok : y.m.ok
     ·rw [hok] at m8;have HV2 := hideIt (by have := HV.out; rw [if_pos hok] at this; exact this)
      clear HV hok;obtain ⟨v, hv⟩ : ∃ v, v = max (min (y.m.mtch + 1) nv) (mv + 1) := ⟨_, rfl⟩;have hvb : 0 ≤ v ∧ v ≤ 1000001 := by omega
      have HVV := hideIt hv;clear hv
      go_upto_region 6 with fail
      go_cut [] from 30 to 58 (fun wy => Hid (WK w K {X with d := {X.d with nx := X.d.nx.set j v}} wy))
      case first =>
       clear HV2;refine wp_region_held_drew (S := fun W => W.cell? ⟨P, 9, none⟩ = some (.int .i64 y.m.mtch) ∧ W.cell? ⟨K, 12, none⟩ = some (.slice (some ⟨g, 0, none⟩) X.d.nx.length X.nc) ∧ W.cell? ⟨K, 13, none⟩ = some (.slice (some ⟨gm, 0, none⟩) X.d.mt.length X.mc) ∧ W.cell? ⟨gm, j, none⟩ = some (.int .i64 mv)) (by rfl) ⟨m9, k12, k13, t0⟩ (fun hHeld => ?_);refine wpAnyH_take (i := 0) (oi := ⟨some 30, _, _, _, _, _⟩) (v := ?_) rfl (by kernel_rfl) (by kernel_rfl) (by kernel_rfl) (fun _ _ _ h => h) (Or.inl ⟨by rfl, ?_⟩) (by assumption) ?_
       rotate_left
       ·intro w5 hSw
        (try dsimp only at hSw)
        go_simp
        (try with_reducible rfl)
       try simp only [aP, aQ, aA, aB, aC]
       refine wpAnyH_take (i := 1) (oi := ⟨some 31, _, _, _, _, _⟩) (v := ?_) rfl (by kernel_rfl) (by kernel_rfl) (by kernel_rfl) (fun _ _ _ h => h) (Or.inl ⟨by rfl, ?_⟩) (by assumption) ?_
       rotate_left
       ·intro w5 hSw
        (try dsimp only at hSw)
        go_simp
        (try with_reducible rfl)
       try simp only [aP, aQ, aA, aB, aC]
       refine wpAnyH_take (i := 2) (oi := ⟨some 32, _, _, _, _, _⟩) (v := ?_) rfl (by kernel_rfl) (by kernel_rfl) (by kernel_rfl) (fun _ _ _ h => h) (Or.inl ⟨by rfl, ?_⟩) (by assumption) ?_
       rotate_left
       ·intro w5 hSw
        (try dsimp only at hSw)
        go_simp
        (try with_reducible rfl)
       try simp only [aP, aQ, aA, aB, aC]
       refine wpAnyH_take (i := 3) (oi := ⟨some 33, _, _, _, _, _⟩) (v := ?_) rfl (by kernel_rfl) (by kernel_rfl) (by kernel_rfl) (fun _ _ _ h => h) (Or.inl ⟨by rfl, ?_⟩) (by assumption) ?_
       rotate_left
       ·intro w5 hSw
        (try dsimp only at hSw)
        go_simp
        (try with_reducible rfl)
       try simp only [aP, aQ, aA, aB, aC]
       refine wpAnyH_take (i := 4) (oi := ⟨some 34, _, _, _, _, _⟩) (v := ?_) rfl (by kernel_rfl) (by kernel_rfl) (by kernel_rfl) (fun _ _ _ h => h) (Or.inl ⟨by rfl, ?_⟩) (by assumption) ?_
       rotate_left
       ·intro w5 hSw
        (try dsimp only at hSw)
        go_simp
        (try with_reducible rfl)
       try simp only [aP, aQ, aA, aB, aC]
       refine wpAnyH_take (i := 5) (oi := ⟨some 35, _, _, _, _, _⟩) (v := ?_) rfl (by kernel_rfl) (by kernel_rfl) (by kernel_rfl) (fun _ _ _ h => h) (Or.inl ⟨by rfl, ?_⟩) (by assumption) ?_
       rotate_left
       ·intro w5 hSw
        (try dsimp only at hSw)
        go_simp
        (try with_reducible rfl)
       try simp only [aP, aQ, aA, aB, aC]
       refine wpAnyH_take (i := 6) (oi := ⟨some 36, _, _, _, _, _⟩) (v := ?_) rfl (by kernel_rfl) (by kernel_rfl) (by kernel_rfl) (fun _ _ _ h => h) (Or.inl ⟨by rfl, ?_⟩) (by assumption) ?_
       rotate_left
       ·intro w5 hSw
        (try dsimp only at hSw)
        go_simp
        (try with_reducible rfl)
       try simp only [aP, aQ, aA, aB, aC]
       refine wpAnyH_take (i := 7) (oi := ⟨some 37, _, _, _, _, _⟩) (v := ?_) rfl (by kernel_rfl) (by kernel_rfl) (by kernel_rfl) (fun _ _ _ h => h) (Or.inl ⟨by rfl, ?_⟩) (by assumption) ?_
       rotate_left
       ·intro w5 hSw
        (try dsimp only at hSw)
        go_simp
        (try with_reducible rfl)
       try simp only [aP, aQ, aA, aB, aC]
       refine wpAnyH_take (i := 8) (oi := ⟨some 38, _, _, _, _, _⟩) (v := ?_) rfl (by kernel_rfl) (by kernel_rfl) (by kernel_rfl) (fun _ _ _ h => h) (Or.inl ⟨by rfl, ?_⟩) (by assumption) ?_
       rotate_left
       ·intro w5 hSw
        (try dsimp only at hSw)
        go_simp
        (try with_reducible rfl)
       try simp only [aP, aQ, aA, aB, aC]
       refine wpAnyH_take (i := 9) (oi := ⟨some 39, _, _, _, _, _⟩) (v := ?_) rfl (by kernel_rfl) (by kernel_rfl) (by kernel_rfl) (fun _ _ _ h => h) (Or.inl ⟨by rfl, ?_⟩) (by assumption) ?_
       rotate_left
       ·intro w5 hSw
        (try dsimp only at hSw)
        go_simp
        (try with_reducible rfl)
       try simp only [aP, aQ, aA, aB, aC]
       refine wpAnyH_take (i := 10) (oi := ⟨some 40, _, _, _, _, _⟩) (v := ?_) rfl (by kernel_rfl) (by kernel_rfl) (by kernel_rfl) (fun _ _ _ h => h) (Or.inl ⟨by rfl, ?_⟩) (by assumption) ?_
       rotate_left
       ·intro w5 hSw
        (try dsimp only at hSw)
        go_simp
        (try with_reducible rfl)
       try simp only [aP, aQ, aA, aB, aC]
       refine wpAnyH_take (i := 11) (oi := ⟨some 41, _, _, _, _, _⟩) (v := ?_) rfl (by kernel_rfl) (by kernel_rfl) (by kernel_rfl) (fun _ _ _ h => h) (Or.inl ⟨by rfl, ?_⟩) (by assumption) ?_
       rotate_left
       ·intro w5 hSw
        (try dsimp only at hSw)
        go_simp
        (try with_reducible rfl)
       try simp only [aP, aQ, aA, aB, aC]
       refine wpAnyH_take (i := 12) (oi := ⟨some 42, _, _, _, _, _⟩) (v := ?_) rfl (by kernel_rfl) (by kernel_rfl) (by kernel_rfl) (fun _ _ _ h => h) (Or.inl ⟨by rfl, ?_⟩) (by assumption) ?_
       rotate_left
       ·intro w5 hSw
        (try dsimp only at hSw)
        go_simp
        (try with_reducible rfl)
       try simp only [aP, aQ, aA, aB, aC]
       refine wpAnyH_take (i := 13) (oi := ⟨some 43, _, _, _, _, _⟩) (v := ?_) rfl (by kernel_rfl) (by kernel_rfl) (by kernel_rfl) (fun _ _ _ h => h) (Or.inl ⟨by rfl, ?_⟩) (by assumption) ?_
       rotate_left
       ·intro w5 hSw
        (try dsimp only at hSw)
        go_simp
        (try with_reducible rfl)
       try simp only [aP, aQ, aA, aB, aC]
       refine wpAnyH_take (i := 14) (oi := ⟨some 44, _, _, _, _, _⟩) (v := ?_) rfl (by kernel_rfl) (by kernel_rfl) (by kernel_rfl) (fun _ _ _ h => h) (Or.inl ⟨by rfl, ?_⟩) (by assumption) ?_
       rotate_left
       ·intro w5 hSw
        (try dsimp only at hSw)
        go_simp
        (try with_reducible rfl)
       try simp only [aP, aQ, aA, aB, aC]
       refine wpAnyH_take (i := 15) (oi := ⟨some 45, _, _, _, _, _⟩) (v := ?_) rfl (by kernel_rfl) (by kernel_rfl) (by kernel_rfl) (fun _ _ _ h => h) (Or.inl ⟨by rfl, ?_⟩) (by assumption) ?_
       rotate_left
       ·intro w5 hSw
        (try dsimp only at hSw)
        go_simp
        (try with_reducible rfl)
       try simp only [aP, aQ, aA, aB, aC]
       refine wpAnyH_take (i := 18) (oi := ⟨some 48, _, _, _, _, _⟩) (v := ?_) rfl (by kernel_rfl) (by kernel_rfl) (by kernel_rfl) (fun _ _ _ h => h) (Or.inl ⟨by rfl, ?_⟩) (by assumption) ?_
       rotate_left
       ·intro w5 hSw
        (try dsimp only at hSw)
        go_simp
        (try with_reducible rfl)
       try simp only [aP, aQ, aA, aB, aC]
       refine wpAnyH_take (i := 19) (oi := ⟨some 49, _, _, _, _, _⟩) (v := ?_) rfl (by kernel_rfl) (by kernel_rfl) (by kernel_rfl) (fun _ _ _ h => h) (Or.inl ⟨by rfl, ?_⟩) (by assumption) ?_
       rotate_left
       ·intro w5 hSw
        (try dsimp only at hSw)
        go_simp
        (try with_reducible rfl)
       try simp only [aP, aQ, aA, aB, aC]
       refine wpAnyH_take (i := 20) (oi := ⟨some 50, _, _, _, _, _⟩) (v := ?_) rfl (by kernel_rfl) (by kernel_rfl) (by kernel_rfl) (fun _ _ _ h => h) (Or.inl ⟨by rfl, ?_⟩) (by assumption) ?_
       rotate_left
       ·intro w5 hSw
        (try dsimp only at hSw)
        go_simp
        (try with_reducible rfl)
       try simp only [aP, aQ, aA, aB, aC]
       refine wpAnyH_take (i := 21) (oi := ⟨some 51, _, _, _, _, _⟩) (v := ?_) rfl (by kernel_rfl) (by kernel_rfl) (by kernel_rfl) (fun _ _ _ h => h) (Or.inl ⟨by rfl, ?_⟩) (by assumption) ?_
       rotate_left
       ·intro w5 hSw
        (try dsimp only at hSw)
        go_simp
        (try with_reducible rfl)
       try simp only [aP, aQ, aA, aB, aC]
       refine wpAnyH_take (i := 22) (oi := ⟨some 52, _, _, _, _, _⟩) (v := ?_) rfl (by kernel_rfl) (by kernel_rfl) (by kernel_rfl) (fun _ _ _ h => h) (Or.inl ⟨by rfl, ?_⟩) (by assumption) ?_
       rotate_left
       ·intro w5 hSw
        (try dsimp only at hSw)
        go_simp
        (try with_reducible rfl)
       try simp only [aP, aQ, aA, aB, aC]
       refine wpAnyH_take (i := 23) (oi := ⟨some 53, _, _, _, _, _⟩) (v := ?_) rfl (by kernel_rfl) (by kernel_rfl) (by kernel_rfl) (fun _ _ _ h => h) (Or.inl ⟨by rfl, ?_⟩) (by assumption) ?_
       rotate_left
       ·intro w5 hSw
        (try dsimp only at hSw)
        go_simp
        (try with_reducible rfl)
       try simp only [aP, aQ, aA, aB, aC]
       refine wpAnyH_take (i := 24) (oi := ⟨some 54, _, _, _, _, _⟩) (v := ?_) rfl (by kernel_rfl) (by kernel_rfl) (by kernel_rfl) (fun _ _ _ h => h) (Or.inl ⟨by rfl, ?_⟩) (by assumption) ?_
       rotate_left
       ·intro w5 hSw
        (try dsimp only at hSw)
        go_simp
        (try with_reducible rfl)
       try simp only [aP, aQ, aA, aB, aC]
       refine wpAnyH_take (i := 25) (oi := ⟨some 55, _, _, _, _, _⟩) (v := ?_) rfl (by kernel_rfl) (by kernel_rfl) (by kernel_rfl) (fun _ _ _ h => h) (Or.inl ⟨by rfl, ?_⟩) (by assumption) ?_
       rotate_left
       ·intro w5 hSw
        (try dsimp only at hSw)
        go_simp
        (try with_reducible rfl)
       try simp only [aP, aQ, aA, aB, aC]
       refine wpAnyH_take (i := 26) (oi := ⟨some 56, _, _, _, _, _⟩) (v := ?_) rfl (by kernel_rfl) (by kernel_rfl) (by kernel_rfl) (fun _ _ _ h => h) (Or.inl ⟨by rfl, ?_⟩) (by assumption) ?_
       rotate_left
       ·intro w5 hSw
        (try dsimp only at hSw)
        go_simp
        (try with_reducible rfl)
       try simp only [aP, aQ, aA, aB, aC]
       refine wpAnyH_ready (rs := [16]) (by kernel_rfl) (by simp) ?_;refine AllReadyH.cons (o := ⟨some 46, _, _, _, _, _⟩) rfl (fun Kx hK => ?_) AllReadyH.nil;go_simp;refine hK.out _ _ hHeld (fun hHeld => ?_);clear hK Kx
       try simp only [aP, aQ, aA, aB, aC]
       refine wpAnyH_take (i := 17) (oi := ⟨some 47, _, _, _, _, _⟩) (v := ?_) rfl (by kernel_rfl) (by kernel_rfl) (by kernel_rfl) (fun _ _ _ h => h) (Or.inl ⟨by rfl, ?_⟩) (by assumption) ?_
       rotate_left
       ·intro w5 hSw
        (try dsimp only at hSw)
        go_simp
        (try with_reducible rfl)
       try simp only [aP, aQ, aA, aB, aC]
       refine wpAnyH_take (i := 27) (oi := ⟨some 57, _, _, _, _, _⟩) (v := ?_) rfl (by kernel_rfl) (by kernel_rfl) (by kernel_rfl) (fun _ _ _ h => h) (Or.inl ⟨by rfl, ?_⟩) (by assumption) ?_
       rotate_left
       ·intro w5 hSw
        (try dsimp only at hSw)
        go_simp
        (try with_reducible rfl)
       try simp only [aP, aQ, aA, aB, aC]
       refine wpAnyH_take (i := 28) (oi := ⟨some 58, _, _, _, _, _⟩) (v := ?_) rfl (by kernel_rfl) (by kernel_rfl) (by kernel_rfl) (fun _ _ _ h => h) (Or.inl ⟨by rfl, ?_⟩) (by assumption) ?_
       rotate_left
       ·intro w5 hSw
        (try dsimp only at hSw)
        go_simp
        (try with_reducible rfl)
       try simp only [aP, aQ, aA, aB, aC]
       refine wpAnyH_ready (rs := [29]) (by kernel_rfl) (by simp) ?_;refine AllReadyH.cons (o := ⟨none, _, _, _, _, _⟩) rfl (fun Kx hK => ?_) AllReadyH.nil;go_simp;refine hK.out _ _ (by simp [*, World.cell?_setCell_far]) (fun hHeld => ?_);clear hK Kx
       try simp only [aP, aQ, aA, aB, aC]
       refine wpAnyH_done (by kernel_rfl) ?_ _;clear hHeld
       go_wp2_with fail
       go_meet
       rw [← HVV.out];exact hideIt ((HX1.out.keep (Below.refl _ _).drew).putX hg j v)
      case rest =>
       have HX2 := hideIt hcut.out;clear hcut k12 k13 kf kz n0 nf nz t0 tf tz m1 m8 m9 mf mz HX1 HP1;have HS := hideIt (sendK_is HX2.out j (by simp only [List.length_set]; omega) (by simp only; rw [getD_set _ _ _ e3]; exact hvb) (by simp only; omega))
       go_wp2_with fail
       refine HS.out.mono ?_;rintro r w7 ⟨Y7, rfl, hv7, hd7, hM7, hR7, hw⟩;dsimp only;have HW := hideIt hw;clear hw HS HX2;go_wp2;go_ret;have hh : Y7.v = appdW X.v y.m := by
        rw [HV2.out, hv7, ← HVV.out]
        rfl
       first
        | exact ⟨Y7, rfl, hh, HW.out⟩
        | exact ⟨rfl, Y7, hh, HW.out⟩
        | exact ⟨Y7, hh, HW.out⟩
     ·rw [hok] at m8;obtain ⟨v9, hv9⟩ : ∃ v, v = max mv y.m.mtch := ⟨_, rfl⟩;obtain ⟨v10, hv10⟩ : ∃ v, v = max nv (v9 + 1) := ⟨_, rfl⟩;have hv9b : 0 ≤ v9 ∧ v9 ≤ 1000000 := by omega
      have hv10b : 0 ≤ v10 ∧ v10 ≤ 1000001 := by omega
      have HV2 : Hid (appdW X.v y.m = if v10 ≤ last then sendW (advW {X.v with d := {X.d with mt := X.d.mt.set j v9, nx := X.d.nx.set j v10}}) j else advW {X.v with d := {X.d with mt := X.d.mt.set j v9, nx := X.d.nx.set j v10}}) := hideIt (by
       have := HV.out;rw [if_neg (by rw [hok]; simp), ← hv9, ← hv10] at this
       rw [this];rw [show (advW {X.v with d := {X.d with mt := X.d.mt.set j v9, nx := X.d.nx.set j v10}}).d.nx.getD j 0 = v10 from getD_set _ _ _ e3])
      have HV9 := hideIt hv9;have HV10 := hideIt hv10;have hw3 : IntKind.i64.wrap (v9 + 1) = v9 + 1 := by rw [IntKind.wrap_i64]; omega
      clear HV hok hv9 hv10 HF
      go_upto_region 9 with fail
      go_cut [] from 62 to 79 (fun wy => Hid (WK w K {X with d := {X.d with mt := X.d.mt.set j v9}} wy))
      case first =>
       clear HV2;refine wp_region_held_drew (S := fun W => W.cell? ⟨P, 9, none⟩ = some (.int .i64 y.m.mtch) ∧ W.cell? ⟨K, 13, none⟩ = some (.slice (some ⟨gm, 0, none⟩) X.d.mt.length X.mc)) (by rfl) ⟨m9, k13⟩ (fun hHeld => ?_);refine wpAnyH_take (i := 0) (oi := ⟨some 62, _, _, _, _, _⟩) (v := ?_) rfl (by kernel_rfl) (by kernel_rfl) (by kernel_rfl) (fun _ _ _ h => h) (Or.inl ⟨by rfl, ?_⟩) (by assumption) ?_
       rotate_left
       ·intro w5 hSw
        (try dsimp only at hSw)
        go_simp
        (try with_reducible rfl)
       try simp only [aP, aQ, aA, aB, aC]
       refine wpAnyH_take (i := 1) (oi := ⟨some 63, _, _, _, _, _⟩) (v := ?_) rfl (by kernel_rfl) (by kernel_rfl) (by kernel_rfl) (fun _ _ _ h => h) (Or.inl ⟨by rfl, ?_⟩) (by assumption) ?_
       rotate_left
       ·intro w5 hSw
        (try dsimp only at hSw)
        go_simp
        (try with_reducible rfl)
       try simp only [aP, aQ, aA, aB, aC]
       refine wpAnyH_take (i := 2) (oi := ⟨some 64, _, _, _, _, _⟩) (v := ?_) rfl (by kernel_rfl) (by kernel_rfl) (by kernel_rfl) (fun _ _ _ h => h) (Or.inl ⟨by rfl, ?_⟩) (by assumption) ?_
       rotate_left
       ·intro w5 hSw
        (try dsimp only at hSw)
        go_simp
        (try with_reducible rfl)
       try simp only [aP, aQ, aA, aB, aC]
       refine wpAnyH_take (i := 3) (oi := ⟨some 65, _, _, _, _, _⟩) (v := ?_) rfl (by kernel_rfl) (by kernel_rfl) (by kernel_rfl) (fun _ _ _ h => h) (Or.inl ⟨by rfl, ?_⟩) (by assumption) ?_
       rotate_left
       ·intro w5 hSw
        (try dsimp only at hSw)
        go_simp
        (try with_reducible rfl)
       try simp only [aP, aQ, aA, aB, aC]
       refine wpAnyH_take (i := 4) (oi := ⟨some 66, _, _, _, _, _⟩) (v := ?_) rfl (by kernel_rfl) (by kernel_rfl) (by kernel_rfl) (fun _ _ _ h => h) (Or.inl ⟨by rfl, ?_⟩) (by assumption) ?_
       rotate_left
       ·intro w5 hSw
        (try dsimp only at hSw)
        go_simp
        (try with_reducible rfl)
       try simp only [aP, aQ, aA, aB, aC]
       refine wpAnyH_take (i := 5) (oi := ⟨some 67, _, _, _, _, _⟩) (v := ?_) rfl (by kernel_rfl) (by kernel_rfl) (by kernel_rfl) (fun _ _ _ h => h) (Or.inl ⟨by rfl, ?_⟩) (by assumption) ?_
       rotate_left
       ·intro w5 hSw
        (try dsimp only at hSw)
        go_simp
        (try with_reducible rfl)
       try simp only [aP, aQ, aA, aB, aC]
       refine wpAnyH_take (i := 6) (oi := ⟨some 68, _, _, _, _, _⟩) (v := ?_) rfl (by kernel_rfl) (by kernel_rfl) (by kernel_rfl) (fun _ _ _ h => h) (Or.inl ⟨by rfl, ?_⟩) (by assumption) ?_
       rotate_left
       ·intro w5 hSw
        (try dsimp only at hSw)
        go_simp
        (try with_reducible rfl)
       try simp only [aP, aQ, aA, aB, aC]
       refine wpAnyH_take (i := 7) (oi := ⟨some 69, _, _, _, _, _⟩) (v := ?_) rfl (by kernel_rfl) (by kernel_rfl) (by kernel_rfl) (fun _ _ _ h => h) (Or.inl ⟨by rfl, ?_⟩) (by assumption) ?_
       rotate_left
       ·intro w5 hSw
        (try dsimp only at hSw)
        go_simp
        (try with_reducible rfl)
       try simp only [aP, aQ, aA, aB, aC]
       refine wpAnyH_take (i := 8) (oi := ⟨some 70, _, _, _, _, _⟩) (v := ?_) rfl (by kernel_rfl) (by kernel_rfl) (by kernel_rfl) (fun _ _ _ h => h) (Or.inl ⟨by rfl, ?_⟩) (by assumption) ?_
       rotate_left
       ·intro w5 hSw
        (try dsimp only at hSw)
        go_simp
        (try with_reducible rfl)
       try simp only [aP, aQ, aA, aB, aC]
       refine wpAnyH_take (i := 9) (oi := ⟨some 71, _, _, _, _, _⟩) (v := ?_) rfl (by kernel_rfl) (by kernel_rfl) (by kernel_rfl) (fun _ _ _ h => h) (Or.inl ⟨by rfl, ?_⟩) (by assumption) ?_
       rotate_left
       ·intro w5 hSw
        (try dsimp only at hSw)
        go_simp
        (try with_reducible rfl)
       try simp only [aP, aQ, aA, aB, aC]
       refine wpAnyH_take (i := 10) (oi := ⟨some 72, _, _, _, _, _⟩) (v := ?_) rfl (by kernel_rfl) (by kernel_rfl) (by kernel_rfl) (fun _ _ _ h => h) (Or.inl ⟨by rfl, ?_⟩) (by assumption) ?_
       rotate_left
       ·intro w5 hSw
        (try dsimp only at hSw)
        go_simp
        (try with_reducible rfl)
       try simp only [aP, aQ, aA, aB, aC]
       refine wpAnyH_take (i := 11) (oi := ⟨some 73, _, _, _, _, _⟩) (v := ?_) rfl (by kernel_rfl) (by kernel_rfl) (by kernel_rfl) (fun _ _ _ h => h) (Or.inl ⟨by rfl, ?_⟩) (by assumption) ?_
       rotate_left
       ·intro w5 hSw
        (try dsimp only at hSw)
        go_simp
        (try with_reducible rfl)
       try simp only [aP, aQ, aA, aB, aC]
       refine wpAnyH_take (i := 12) (oi := ⟨some 74, _, _, _, _, _⟩) (v := ?_) rfl (by kernel_rfl) (by kernel_rfl) (by kernel_rfl) (fun _ _ _ h => h) (Or.inl ⟨by rfl, ?_⟩) (by assumption) ?_
       rotate_left
       ·intro w5 hSw
        (try dsimp only at hSw)
        go_simp
        (try with_reducible rfl)
       try simp only [aP, aQ, aA, aB, aC]
       refine wpAnyH_take (i := 14) (oi := ⟨some 76, _, _, _, _, _⟩) (v := ?_) rfl (by kernel_rfl) (by kernel_rfl) (by kernel_rfl) (fun _ _ _ h => h) (Or.inl ⟨by rfl, ?_⟩) (by assumption) ?_
       rotate_left
       ·intro w5 hSw
        (try dsimp only at hSw)
        go_simp
        (try with_reducible rfl)
       try simp only [aP, aQ, aA, aB, aC]
       refine wpAnyH_take (i := 15) (oi := ⟨some 77, _, _, _, _, _⟩) (v := ?_) rfl (by kernel_rfl) (by kernel_rfl) (by kernel_rfl) (fun _ _ _ h => h) (Or.inl ⟨by rfl, ?_⟩) (by assumption) ?_
       rotate_left
       ·intro w5 hSw
        (try dsimp only at hSw)
        go_simp
        (try with_reducible rfl)
       try simp only [aP, aQ, aA, aB, aC]
       refine wpAnyH_ready (rs := [13]) (by kernel_rfl) (by simp) ?_;refine AllReadyH.cons (o := ⟨some 75, _, _, _, _, _⟩) rfl (fun Kx hK => ?_) AllReadyH.nil;go_simp;refine hK.out _ _ hHeld (fun hHeld => ?_);clear hK Kx
       try simp only [aP, aQ, aA, aB, aC]
       refine wpAnyH_take (i := 16) (oi := ⟨some 78, _, _, _, _, _⟩) (v := ?_) rfl (by kernel_rfl) (by kernel_rfl) (by kernel_rfl) (fun _ _ _ h => h) (Or.inl ⟨by rfl, ?_⟩) (by assumption) ?_
       rotate_left
       ·intro w5 hSw
        (try dsimp only at hSw)
        go_simp
        (try with_reducible rfl)
       try simp only [aP, aQ, aA, aB, aC]
       refine wpAnyH_take (i := 17) (oi := ⟨some 79, _, _, _, _, _⟩) (v := ?_) rfl (by kernel_rfl) (by kernel_rfl) (by kernel_rfl) (fun _ _ _ h => h) (Or.inl ⟨by rfl, ?_⟩) (by assumption) ?_
       rotate_left
       ·intro w5 hSw
        (try dsimp only at hSw)
        go_simp
        (try with_reducible rfl)
       try simp only [aP, aQ, aA, aB, aC]
       refine wpAnyH_ready (rs := [18]) (by kernel_rfl) (by simp) ?_;refine AllReadyH.cons (o := ⟨none, _, _, _, _, _⟩) rfl (fun Kx hK => ?_) AllReadyH.nil;go_simp;refine hK.out _ _ (by simp [*, World.cell?_setCell_far]) (fun hHeld => ?_);clear hK Kx
       try simp only [aP, aQ, aA, aB, aC]
       refine wpAnyH_done (by kernel_rfl) ?_ _;clear hHeld
       go_wp2_with fail
       go_meet
       rw [← HV9.out];exact hideIt ((HX1.out.keep (Below.refl _ _).drew).putM hgm j v9)
      case rest =>
       have HX2 := hideIt hcut.out;clear hcut k12 k13 kf kz n0 nf nz t0 tf tz m1 m8 m9 mf mz HX1 HP1 hc1 hc2 hc3 hc4;obtain ⟨g', gm', hg', hgm', ⟨n0, nf, nz⟩, ⟨t0, tf, tz⟩, ⟨hc1, hc2⟩, ⟨hc3, hc4⟩, -, -⟩ := HX2.out.two j e3 (by simp only [List.length_set]; exact e4)
       simp only at hg' hgm' hc1 hc2 hc3 hc4 n0 t0;rw [hg] at hg';rw [hgm] at hgm';simp only [Option.some.injEq, Addr.mk.injEq, and_true] at hg' hgm';subst hg';subst hgm';rw [getD_set _ _ _ e4] at t0;simp only [List.length_set] at hc3;obtain ⟨⟨-, -, -, -, -, -, -, -, -, -, -, -, k12, k13, -, -, -, -⟩, kf, kz⟩ := at18 HX2.out.box;simp only [List.length_set] at k12 k13;rw [hg] at k12;rw [hgm] at k13;rw [HNV.out] at n0
       go_upto_region 10 with fail
       go_cut [] from 80 to 104 (fun wy => Hid (WK w K {X with d := {X.d with mt := X.d.mt.set j v9, nx := X.d.nx.set j v10}} wy))
       case first =>
        clear HV2;refine wp_region_held_drew (S := fun W => W.cell? ⟨K, 12, none⟩ = some (.slice (some ⟨g, 0, none⟩) X.d.nx.length X.nc) ∧ W.cell? ⟨K, 13, none⟩ = some (.slice (some ⟨gm, 0, none⟩) X.d.mt.length X.mc) ∧ W.cell? ⟨gm, j, none⟩ = some (.int .i64 v9)) (by rfl) ⟨k12, k13, t0⟩ (fun hHeld => ?_);refine wpAnyH_take (i := 0) (oi := ⟨some 80, _, _, _, _, _⟩) (v := ?_) rfl (by kernel_rfl) (by kernel_rfl) (by kernel_rfl) (fun _ _ _ h => h) (Or.inl ⟨by rfl, ?_⟩) (by assumption) ?_
        rotate_left
        ·intro w5 hSw
         (try dsimp only at hSw)
         go_simp
         (try with_reducible rfl)
        try simp only [aP, aQ, aA, aB, aC]
        refine wpAnyH_take (i := 1) (oi := ⟨some 81, _, _, _, _, _⟩) (v := ?_) rfl (by kernel_rfl) (by kernel_rfl) (by kernel_rfl) (fun _ _ _ h => h) (Or.inl ⟨by rfl, ?_⟩) (by assumption) ?_
        rotate_left
        ·intro w5 hSw
         (try dsimp only at hSw)
         go_simp
         (try with_reducible rfl)
        try simp only [aP, aQ, aA, aB, aC]
        refine wpAnyH_take (i := 2) (oi := ⟨some 82, _, _, _, _, _⟩) (v := ?_) rfl (by kernel_rfl) (by kernel_rfl) (by kernel_rfl) (fun _ _ _ h => h) (Or.inl ⟨by rfl, ?_⟩) (by assumption) ?_
        rotate_left
        ·intro w5 hSw
         (try dsimp only at hSw)
         go_simp
         (try with_reducible rfl)
        try simp only [aP, aQ, aA, aB, aC]
        refine wpAnyH_take (i := 3) (oi := ⟨some 83, _, _, _, _, _⟩) (v := ?_) rfl (by kernel_rfl) (by kernel_rfl) (by kernel_rfl) (fun _ _ _ h => h) (Or.inl ⟨by rfl, ?_⟩) (by assumption) ?_
        rotate_left
        ·intro w5 hSw
         (try dsimp only at hSw)
         go_simp
         (try with_reducible rfl)
        try simp only [aP, aQ, aA, aB, aC]
        refine wpAnyH_take (i := 4) (oi := ⟨some 84, _, _, _, _, _⟩) (v := ?_) rfl (by kernel_rfl) (by kernel_rfl) (by kernel_rfl) (fun _ _ _ h => h) (Or.inl ⟨by rfl, ?_⟩) (by assumption) ?_
        rotate_left
        ·intro w5 hSw
         (try dsimp only at hSw)
         go_simp
         (try with_reducible rfl)
        try simp only [aP, aQ, aA, aB, aC]
        refine wpAnyH_take (i := 5) (oi := ⟨some 85, _, _, _, _, _⟩) (v := ?_) rfl (by kernel_rfl) (by kernel_rfl) (by kernel_rfl) (fun _ _ _ h => h) (Or.inl ⟨by rfl, ?_⟩) (by assumption) ?_
        rotate_left
        ·intro w5 hSw
         (try dsimp only at hSw)
         go_simp
         (try with_reducible rfl)
        try simp only [aP, aQ, aA, aB, aC]
        refine wpAnyH_take (i := 6) (oi := ⟨some 86, _, _, _, _, _⟩) (v := ?_) rfl (by kernel_rfl) (by kernel_rfl) (by kernel_rfl) (fun _ _ _ h => h) (Or.inl ⟨by rfl, ?_⟩) (by assumption) ?_
        rotate_left
        ·intro w5 hSw
         (try dsimp only at hSw)
         go_simp
         (try with_reducible rfl)
        try simp only [aP, aQ, aA, aB, aC]
        refine wpAnyH_take (i := 7) (oi := ⟨some 87, _, _, _, _, _⟩) (v := ?_) rfl (by kernel_rfl) (by kernel_rfl) (by kernel_rfl) (fun _ _ _ h => h) (Or.inl ⟨by rfl, ?_⟩) (by assumption) ?_
        rotate_left
        ·intro w5 hSw
         (try dsimp only at hSw)
         go_simp
         (try with_reducible rfl)
        try simp only [aP, aQ, aA, aB, aC]
        refine wpAnyH_take (i := 8) (oi := ⟨some 88, _, _, _, _, _⟩) (v := ?_) rfl (by kernel_rfl) (by kernel_rfl) (by kernel_rfl) (fun _ _ _ h => h) (Or.inl ⟨by rfl, ?_⟩) (by assumption) ?_
        rotate_left
        ·intro w5 hSw
         (try dsimp only at hSw)
         go_simp
         (try with_reducible rfl)
        try simp only [aP, aQ, aA, aB, aC]
        refine wpAnyH_take (i := 9) (oi := ⟨some 89, _, _, _, _, _⟩) (v := ?_) rfl (by kernel_rfl) (by kernel_rfl) (by kernel_rfl) (fun _ _ _ h => h) (Or.inl ⟨by rfl, ?_⟩) (by assumption) ?_
        rotate_left
        ·intro w5 hSw
         (try dsimp only at hSw)
         go_simp
         (try with_reducible rfl)
        try simp only [aP, aQ, aA, aB, aC]
        refine wpAnyH_take (i := 10) (oi := ⟨some 90, _, _, _, _, _⟩) (v := ?_) rfl (by kernel_rfl) (by kernel_rfl) (by kernel_rfl) (fun _ _ _ h => h) (Or.inl ⟨by rfl, ?_⟩) (by assumption) ?_
        rotate_left
        ·intro w5 hSw
         (try dsimp only at hSw)
         go_simp
         (try with_reducible rfl)
        try simp only [aP, aQ, aA, aB, aC]
        refine wpAnyH_take (i := 11) (oi := ⟨some 91, _, _, _, _, _⟩) (v := ?_) rfl (by kernel_rfl) (by kernel_rfl) (by kernel_rfl) (fun _ _ _ h => h) (Or.inl ⟨by rfl, ?_⟩) (by assumption) ?_
        rotate_left
        ·intro w5 hSw
         (try dsimp only at hSw)
         go_simp
         (try with_reducible rfl)
        try simp only [aP, aQ, aA, aB, aC]
        refine wpAnyH_take (i := 12) (oi := ⟨some 92, _, _, _, _, _⟩) (v := ?_) rfl (by kernel_rfl) (by kernel_rfl) (by kernel_rfl) (fun _ _ _ h => h) (Or.inl ⟨by rfl, ?_⟩) (by assumption) ?_
        rotate_left
        ·intro w5 hSw
         (try dsimp only at hSw)
         go_simp
         (try with_reducible rfl)
        try simp only [aP, aQ, aA, aB, aC]
        refine wpAnyH_take (i := 14) (oi := ⟨some 94, _, _, _, _, _⟩) (v := ?_) rfl (by kernel_rfl) (by kernel_rfl) (by kernel_rfl) (fun _ _ _ h => h) (Or.inl ⟨by rfl, ?_⟩) (by assumption) ?_
        rotate_left
        ·intro w5 hSw
         (try dsimp only at hSw)
         go_simp
         (try with_reducible rfl)
        try simp only [aP, aQ, aA, aB, aC]
        refine wpAnyH_take (i := 15) (oi := ⟨some 95, _, _, _, _, _⟩) (v := ?_) rfl (by kernel_rfl) (by kernel_rfl) (by kernel_rfl) (fun _ _ _ h => h) (Or.inl ⟨by rfl, ?_⟩) (by assumption) ?_
        rotate_left
        ·intro w5 hSw
         (try dsimp only at hSw)
         go_simp
         (try with_reducible rfl)
        try simp only [aP, aQ, aA, aB, aC]
        refine wpAnyH_take (i := 16) (oi := ⟨some 96, _, _, _, _, _⟩) (v := ?_) rfl (by kernel_rfl) (by kernel_rfl) (by kernel_rfl) (fun _ _ _ h => h) (Or.inl ⟨by rfl, ?_⟩) (by assumption) ?_
        rotate_left
        ·intro w5 hSw
         (try dsimp only at hSw)
         go_simp
         (try with_reducible rfl)
        try simp only [aP, aQ, aA, aB, aC]
        refine wpAnyH_take (i := 17) (oi := ⟨some 97, _, _, _, _, _⟩) (v := ?_) rfl (by kernel_rfl) (by kernel_rfl) (by kernel_rfl) (fun _ _ _ h => h) (Or.inl ⟨by rfl, ?_⟩) (by assumption) ?_
        rotate_left
        ·intro w5 hSw
         (try dsimp only at hSw)
         go_simp
         (try with_reducible rfl)
        try simp only [aP, aQ, aA, aB, aC]
        refine wpAnyH_take (i := 18) (oi := ⟨some 98, _, _, _, _, _⟩) (v := ?_) rfl (by kernel_rfl) (by kernel_rfl) (by kernel_rfl) (fun _ _ _ h => h) (Or.inl ⟨by rfl, ?_⟩) (by assumption) ?_
        rotate_left
        ·intro w5 hSw
         (try dsimp only at hSw)
         go_simp
         (try with_reducible rfl)
        try simp only [aP, aQ, aA, aB, aC]
        refine wpAnyH_take (i := 19) (oi := ⟨some 99, _, _, _, _, _⟩) (v := ?_) rfl (by kernel_rfl) (by kernel_rfl) (by kernel_rfl) (fun _ _ _ h => h) (Or.inl ⟨by rfl, ?_⟩) (by assumption) ?_
        rotate_left
        ·intro w5 hSw
         (try dsimp only at hSw)
         go_simp
         (try with_reducible rfl)
        try simp only [aP, aQ, aA, aB, aC]
        refine wpAnyH_take (i := 20) (oi := ⟨some 100, _, _, _, _, _⟩) (v := ?_) rfl (by kernel_rfl) (by kernel_rfl) (by kernel_rfl) (fun _ _ _ h => h) (Or.inl ⟨by rfl, ?_⟩) (by assumption) ?_
        rotate_left
        ·intro w5 hSw
         (try dsimp only at hSw)
         go_simp
         (try with_reducible rfl)
        try simp only [aP, aQ, aA, aB, aC]
        refine wpAnyH_take (i := 21) (oi := ⟨some 101, _, _, _, _, _⟩) (v := ?_) rfl (by kernel_rfl) (by kernel_rfl) (by kernel_rfl) (fun _ _ _ h => h) (Or.inl ⟨by rfl, ?_⟩) (by assumption) ?_
        rotate_left
        ·intro w5 hSw
         (try dsimp only at hSw)
         go_simp
         (try with_reducible rfl)
        try simp only [aP, aQ, aA, aB, aC]
        refine wpAnyH_take (i := 22) (oi := ⟨some 102, _, _, _, _, _⟩) (v := ?_) rfl (by kernel_rfl) (by kernel_rfl) (by kernel_rfl) (fun _ _ _ h => h) (Or.inl ⟨by rfl, ?_⟩) (by assumption) ?_
        rotate_left
        ·intro w5 hSw
         (try dsimp only at hSw)
         go_simp
         (try with_reducible rfl)
        try simp only [aP, aQ, aA, aB, aC]
        refine wpAnyH_ready (rs := [13]) (by kernel_rfl) (by simp) ?_;refine AllReadyH.cons (o := ⟨some 93, _, _, _, _, _⟩) rfl (fun Kx hK => ?_) AllReadyH.nil;go_simp;refine hK.out _ _ hHeld (fun hHeld => ?_);clear hK Kx
        try simp only [aP, aQ, aA, aB, aC]
        refine wpAnyH_take (i := 23) (oi := ⟨some 103, _, _, _, _, _⟩) (v := ?_) rfl (by kernel_rfl) (by kernel_rfl) (by kernel_rfl) (fun _ _ _ h => h) (Or.inl ⟨by rfl, ?_⟩) (by assumption) ?_
        rotate_left
        ·intro w5 hSw
         (try dsimp only at hSw)
         go_simp
         (try with_reducible rfl)
        try simp only [aP, aQ, aA, aB, aC]
        refine wpAnyH_take (i := 24) (oi := ⟨some 104, _, _, _, _, _⟩) (v := ?_) rfl (by kernel_rfl) (by kernel_rfl) (by kernel_rfl) (fun _ _ _ h => h) (Or.inl ⟨by rfl, ?_⟩) (by assumption) ?_
        rotate_left
        ·intro w5 hSw
         (try dsimp only at hSw)
         go_simp
         (try with_reducible rfl)
        try simp only [aP, aQ, aA, aB, aC]
        refine wpAnyH_ready (rs := [25]) (by kernel_rfl) (by simp) ?_;refine AllReadyH.cons (o := ⟨none, _, _, _, _, _⟩) rfl (fun Kx hK => ?_) AllReadyH.nil;go_simp;refine hK.out _ _ (by simp [*, World.cell?_setCell_far]) (fun hHeld => ?_);clear hK Kx
        try simp only [aP, aQ, aA, aB, aC]
        refine wpAnyH_done (by kernel_rfl) ?_ _;clear hHeld
        go_wp2_with fail
        go_meet
        rw [← HV10.out];exact hideIt ((HX2.out.keep (Below.refl _ _).drew).putX hg j v10)
       case rest =>
        have HX3 := hideIt hcut.out;clear hcut k12 k13 kf kz n0 nf nz t0 tf tz HX2 hc1 hc2 hc3 hc4;have HA := hideIt (advW_is HX3.out (by simp only [List.length_set]; omega))
        go_wp2_with fail
        refine HA.out.mono ?_;rintro r w6 ⟨a6, c6, rfl, hw6⟩;dsimp only;have HX6 := hideIt hw6;clear HA hw6 HX3;have hv6 : (({X with d := {{X.d with mt := X.d.mt.set j v9, nx := X.d.nx.set j v10} with L := (advL X.d.L X.d.b.t ((X.d.mt.set j v9).drop 1)).1}, la := a6, lc := c6} : WkX)).v = advW {X.v with d := {X.d with mt := X.d.mt.set j v9, nx := X.d.nx.set j v10}} := rfl;generalize hX6 : (advL X.d.L X.d.b.t ((X.d.mt.set j v9).drop 1)).1 = L6 at *;obtain ⟨g', gm', hg', hgm', ⟨n0, nf, nz⟩, ⟨t0, tf, tz⟩, ⟨hc1, hc2⟩, ⟨hc3, hc4⟩, -, -⟩ := HX6.out.two j (by simp only [List.length_set]; exact e3) (by simp only [List.length_set]; exact e4)
        simp only at hg' hc1 hc2 n0;rw [hg] at hg';simp only [Option.some.injEq, Addr.mk.injEq, and_true] at hg';subst hg';rw [getD_set _ _ _ e3] at n0;simp only [List.length_set] at hc1;obtain ⟨⟨-, -, -, -, -, -, -, -, -, -, -, -, k12, -, -, -, -, -⟩, kf, kz⟩ := at18 HX6.out.box;simp only [List.length_set] at k12;rw [hg] at k12;clear t0 tf tz hc3 hc4 hgm'
        by_cases hlast : v10 ≤ last
        ·have HV3 := hideIt (by have := HV2.out; rw [if_pos hlast] at this; exact this)
         clear HV2;have HS := hideIt (sendK_is HX6.out j (by simp only [List.length_set]; omega) (by simp only; rw [getD_set _ _ _ e3]; exact hv10b) (by simp only; omega))
         go_wp2_with fail
         refine HS.out.mono ?_;rintro r w7 ⟨Y7, rfl, hv7, hd7, hM7, hR7, hw⟩;dsimp only;have HW := hideIt hw;clear hw HS HX6;go_wp2;go_ret;have hh : Y7.v = appdW X.v y.m := by
          rw [HV3.out, hv7, hv6]
         first
          | exact ⟨Y7, rfl, hh, HW.out⟩
          | exact ⟨rfl, Y7, hh, HW.out⟩
          | exact ⟨Y7, hh, HW.out⟩
        ·have HV3 := hideIt (by have := HV2.out; rw [if_neg hlast] at this; exact this)
         clear HV2;have HW := HX6;go_wp2;go_ret;have hh : _ = appdW X.v y.m := hv6.trans HV3.out.symm
         first
          | exact ⟨_, rfl, hh, HW.out⟩
          | exact ⟨rfl, _, hh, HW.out⟩
          | exact ⟨_, hh, HW.out⟩
  ·rw [if_pos (.inr (.inl ht))] at HV;have hte : (y.m.term != X.d.b.t) = true := by simp [ht]
   go_cut [24] from 9 to 24 (fun x wy => x = .bool true ∧ Hid (Below W1.heap.size W1 wy))
   case first =>
    clear HV;refine wp_region_held_drew (S := fun W => W.cell? ⟨P, 3, none⟩ = some (.int .i64 y.m.term) ∧ W.cell? ⟨P, 9, none⟩ = some (.int .i64 y.m.mtch)) (by rfl) ⟨m3, m9⟩ (fun hHeld => ?_);refine wpAnyH_take (i := 0) (oi := ⟨some 9, _, _, _, _, _⟩) (v := ?_) rfl (by kernel_rfl) (by kernel_rfl) (by kernel_rfl) (fun _ _ _ h => h) (Or.inl ⟨by rfl, ?_⟩) (by assumption) ?_
    rotate_left
    ·intro w5 hSw
     (try dsimp only at hSw)
     go_simp
     (try with_reducible rfl)
    try simp only [aP, aQ, aA, aB, aC]
    refine wpAnyH_ready (rs := [1]) (by kernel_rfl) (by simp) ?_;refine AllReadyH.cons (o := ⟨some 10, _, _, _, _, _⟩) rfl (fun Kx hK => ?_) AllReadyH.nil;go_simp
    go_at_call 87
    refine (HLe.out _ (by first | exact (Below.refl _ _).drew | exact Below.refl _ _)).mono ?_;rintro r5 w5 ⟨rfl, rfl⟩;refine hK.out _ _ hHeld (fun hHeld => ?_);clear hK Kx
    try simp only [aP, aQ, aA, aB, aC]
    refine wpAnyH_take (i := 2) (oi := ⟨some 11, _, _, _, _, _⟩) (v := ?_) rfl (by kernel_rfl) (by kernel_rfl) (by kernel_rfl) (fun _ _ _ h => h) (Or.inl ⟨by rfl, ?_⟩) (by assumption) ?_
    rotate_left
    ·intro w5 hSw
     (try dsimp only at hSw)
     go_simp
     (try with_reducible rfl)
    try simp only [aP, aQ, aA, aB, aC]
    refine wpAnyH_take (i := 3) (oi := ⟨some 12, _, _, _, _, _⟩) (v := ?_) rfl (by kernel_rfl) (by kernel_rfl) (by kernel_rfl) (fun _ _ _ h => h) (Or.inl ⟨by rfl, ?_⟩) (by assumption) ?_
    rotate_left
    ·intro w5 hSw
     (try dsimp only at hSw)
     go_simp
     (try with_reducible rfl)
    try simp only [aP, aQ, aA, aB, aC]
    refine wpAnyH_take (i := 4) (oi := ⟨some 13, _, _, _, _, _⟩) (v := ?_) rfl (by kernel_rfl) (by kernel_rfl) (by kernel_rfl) (fun _ _ _ h => h) (Or.inl ⟨by rfl, ?_⟩) (by assumption) ?_
    rotate_left
    ·intro w5 hSw
     (try dsimp only at hSw)
     go_simp
     (try with_reducible rfl)
    try simp only [aP, aQ, aA, aB, aC]
    refine wpAnyH_take (i := 5) (oi := ⟨some 14, _, _, _, _, _⟩) (v := ?_) rfl (by kernel_rfl) (by kernel_rfl) (by kernel_rfl) (fun _ _ _ h => h) (Or.inl ⟨by rfl, ?_⟩) (by assumption) ?_
    rotate_left
    ·intro w5 hSw
     (try dsimp only at hSw)
     go_simp
     (try with_reducible rfl)
    try simp only [aP, aQ, aA, aB, aC]
    refine wpAnyH_take (i := 6) (oi := ⟨some 15, _, _, _, _, _⟩) (v := ?_) rfl (by kernel_rfl) (by kernel_rfl) (by kernel_rfl) (fun _ _ _ h => h) (Or.inl ⟨by rfl, ?_⟩) (by assumption) ?_
    rotate_left
    ·intro w5 hSw
     (try dsimp only at hSw)
     go_simp
     (try with_reducible rfl)
    try simp only [aP, aQ, aA, aB, aC]
    refine wpAnyH_ready (rs := [7]) (by kernel_rfl) (by simp) ?_;refine AllReadyH.cons (o := ⟨some 16, _, _, _, _, _⟩) rfl (fun Kx hK => ?_) AllReadyH.nil;go_simp
    go_at_call 94
    refine (HT.out _ (by first | exact (Below.refl _ _).drew | exact Below.refl _ _)).mono ?_;rintro r5 w5 ⟨rfl, rfl⟩;refine hK.out _ _ hHeld (fun hHeld => ?_);clear hK Kx
    try simp only [aP, aQ, aA, aB, aC]
    refine wpAnyH_take (i := 8) (oi := ⟨some 17, _, _, _, _, _⟩) (v := ?_) rfl (by kernel_rfl) (by kernel_rfl) (by kernel_rfl) (fun _ _ _ h => h) (Or.inl ⟨by rfl, ?_⟩) (by assumption) ?_
    rotate_left
    ·intro w5 hSw
     (try dsimp only at hSw)
     go_simp
     (try with_reducible rfl)
    try simp only [aP, aQ, aA, aB, aC]
    refine wpAnyH_take (i := 9) (oi := ⟨some 18, _, _, _, _, _⟩) (v := ?_) rfl (by kernel_rfl) (by kernel_rfl) (by kernel_rfl) (fun _ _ _ h => h) (Or.inl ⟨by rfl, ?_⟩) (by assumption) ?_
    rotate_left
    ·intro w5 hSw
     (try dsimp only at hSw)
     go_simp
     (try with_reducible rfl)
    try simp only [aP, aQ, aA, aB, aC]
    refine wpAnyH_take (i := 10) (oi := ⟨some 19, _, _, _, _, _⟩) (v := ?_) rfl (by kernel_rfl) (by kernel_rfl) (by kernel_rfl) (fun _ _ _ h => h) (Or.inl ⟨by rfl, ?_⟩) (by assumption) ?_
    rotate_left
    ·intro w5 hSw
     (try dsimp only at hSw)
     go_simp
     (try with_reducible rfl)
    try simp only [aP, aQ, aA, aB, aC]
    refine wpAnyH_take (i := 11) (oi := ⟨some 20, _, _, _, _, _⟩) (v := undef) rfl (by kernel_rfl) (by kernel_rfl) (by kernel_rfl) (fun _ _ _ h => h) (Or.inr ⟨by rfl, rfl⟩) (by assumption) ?_
    try simp only [aP, aQ, aA, aB, aC]
    refine wpAnyH_take (i := 12) (oi := ⟨some 21, _, _, _, _, _⟩) (v := undef) rfl (by kernel_rfl) (by kernel_rfl) (by kernel_rfl) (fun _ _ _ h => h) (Or.inr ⟨by rfl, rfl⟩) (by assumption) ?_
    try simp only [aP, aQ, aA, aB, aC]
    refine wpAnyH_take (i := 13) (oi := ⟨some 22, _, _, _, _, _⟩) (v := undef) rfl (by kernel_rfl) (by kernel_rfl) (by kernel_rfl) (fun _ _ _ h => h) (Or.inr ⟨by rfl, rfl⟩) (by assumption) ?_
    try simp only [aP, aQ, aA, aB, aC]
    refine wpAnyH_take (i := 14) (oi := ⟨some 23, _, _, _, _, _⟩) (v := undef) rfl (by kernel_rfl) (by kernel_rfl) (by kernel_rfl) (fun _ _ _ h => h) (Or.inr ⟨by rfl, rfl⟩) (by assumption) ?_
    try simp only [aP, aQ, aA, aB, aC]
    refine wpAnyH_take (i := 15) (oi := ⟨some 24, _, _, _, _, _⟩) (v := ?_) rfl (by kernel_rfl) (by kernel_rfl) (by kernel_rfl) (fun _ _ _ h => h) (Or.inl ⟨by rfl, ?_⟩) (by assumption) ?_
    rotate_left
    ·intro w5 hSw
     (try dsimp only at hSw)
     go_simp
     (try with_reducible rfl)
    try simp only [aP, aQ, aA, aB, aC]
    refine wpAnyH_done (by kernel_rfl) ?_ _;clear hHeld
    go_wp2_with fail
    go_meet
    exact ⟨rfl, hideIt (Below.refl _ _).drew⟩
   case rest =>
    obtain ⟨rfl, HB⟩ := hcut;have HX1 := hideIt (HX0.out.keep HB.out);have HP1 := hideIt (blkK HP.out HB.out);clear HT HLe HX0 HP HB m0 m1 m2 m3 m4 m5 m6 m7 m8 m9 m10 m11 m12 mf mz;go_wp2;go_ret;have hh : X.v = appdW X.v y.m := HV.out.symm
    first
     | exact ⟨X, rfl, hh, HX1.out⟩
     | exact ⟨rfl, X, hh, HX1.out⟩
     | exact ⟨X, hh, HX1.out⟩
 ·have HLe : Hid (∀ W, Below W1.heap.size W1 W → Calls Tryz.prog 87 #[.pointer (some ⟨K, 0, none⟩)] W fun r w' => r = .returned (.bool false) ∧ w' = W) := hideIt (fun W hW => by
   have := leadsW_is (HX0.out.keep hW).box;rw [show decide (X.d.b.r = 3) = false from decide_eq_false hr] at this;exact this)
  rw [if_pos (.inl hr)] at HV
  go_cut [24] from 9 to 24 (fun x wy => x = .bool true ∧ Hid (Below W1.heap.size W1 wy))
  case first =>
   clear HV;refine wp_region_held_drew (S := fun W => W.cell? ⟨P, 3, none⟩ = some (.int .i64 y.m.term) ∧ W.cell? ⟨P, 9, none⟩ = some (.int .i64 y.m.mtch)) (by rfl) ⟨m3, m9⟩ (fun hHeld => ?_);refine wpAnyH_take (i := 0) (oi := ⟨some 9, _, _, _, _, _⟩) (v := ?_) rfl (by kernel_rfl) (by kernel_rfl) (by kernel_rfl) (fun _ _ _ h => h) (Or.inl ⟨by rfl, ?_⟩) (by assumption) ?_
   rotate_left
   ·intro w5 hSw
    (try dsimp only at hSw)
    go_simp
    (try with_reducible rfl)
   try simp only [aP, aQ, aA, aB, aC]
   refine wpAnyH_ready (rs := [1]) (by kernel_rfl) (by simp) ?_;refine AllReadyH.cons (o := ⟨some 10, _, _, _, _, _⟩) rfl (fun Kx hK => ?_) AllReadyH.nil;go_simp
   go_at_call 87
   refine (HLe.out _ (by first | exact (Below.refl _ _).drew | exact Below.refl _ _)).mono ?_;rintro r5 w5 ⟨rfl, rfl⟩;refine hK.out _ _ hHeld (fun hHeld => ?_);clear hK Kx
   try simp only [aP, aQ, aA, aB, aC]
   refine wpAnyH_take (i := 2) (oi := ⟨some 11, _, _, _, _, _⟩) (v := ?_) rfl (by kernel_rfl) (by kernel_rfl) (by kernel_rfl) (fun _ _ _ h => h) (Or.inl ⟨by rfl, ?_⟩) (by assumption) ?_
   rotate_left
   ·intro w5 hSw
    (try dsimp only at hSw)
    go_simp
    (try with_reducible rfl)
   try simp only [aP, aQ, aA, aB, aC]
   refine wpAnyH_take (i := 3) (oi := ⟨some 12, _, _, _, _, _⟩) (v := ?_) rfl (by kernel_rfl) (by kernel_rfl) (by kernel_rfl) (fun _ _ _ h => h) (Or.inl ⟨by rfl, ?_⟩) (by assumption) ?_
   rotate_left
   ·intro w5 hSw
    (try dsimp only at hSw)
    go_simp
    (try with_reducible rfl)
   try simp only [aP, aQ, aA, aB, aC]
   refine wpAnyH_take (i := 4) (oi := ⟨some 13, _, _, _, _, _⟩) (v := undef) rfl (by kernel_rfl) (by kernel_rfl) (by kernel_rfl) (fun _ _ _ h => h) (Or.inr ⟨by rfl, rfl⟩) (by assumption) ?_
   try simp only [aP, aQ, aA, aB, aC]
   refine wpAnyH_take (i := 5) (oi := ⟨some 14, _, _, _, _, _⟩) (v := undef) rfl (by kernel_rfl) (by kernel_rfl) (by kernel_rfl) (fun _ _ _ h => h) (Or.inr ⟨by rfl, rfl⟩) (by assumption) ?_
   try simp only [aP, aQ, aA, aB, aC]
   refine wpAnyH_take (i := 6) (oi := ⟨some 15, _, _, _, _, _⟩) (v := undef) rfl (by kernel_rfl) (by kernel_rfl) (by kernel_rfl) (fun _ _ _ h => h) (Or.inr ⟨by rfl, rfl⟩) (by assumption) ?_
   try simp only [aP, aQ, aA, aB, aC]
   refine wpAnyH_take (i := 7) (oi := ⟨some 16, _, _, _, _, _⟩) (v := undef) rfl (by kernel_rfl) (by kernel_rfl) (by kernel_rfl) (fun _ _ _ h => h) (Or.inr ⟨by rfl, rfl⟩) (by assumption) ?_
   try simp only [aP, aQ, aA, aB, aC]
   refine wpAnyH_take (i := 8) (oi := ⟨some 17, _, _, _, _, _⟩) (v := undef) rfl (by kernel_rfl) (by kernel_rfl) (by kernel_rfl) (fun _ _ _ h => h) (Or.inr ⟨by rfl, rfl⟩) (by assumption) ?_
   try simp only [aP, aQ, aA, aB, aC]
   refine wpAnyH_take (i := 9) (oi := ⟨some 18, _, _, _, _, _⟩) (v := ?_) rfl (by kernel_rfl) (by kernel_rfl) (by kernel_rfl) (fun _ _ _ h => h) (Or.inl ⟨by rfl, ?_⟩) (by assumption) ?_
   rotate_left
   ·intro w5 hSw
    (try dsimp only at hSw)
    go_simp
    (try with_reducible rfl)
   try simp only [aP, aQ, aA, aB, aC]
   refine wpAnyH_take (i := 10) (oi := ⟨some 19, _, _, _, _, _⟩) (v := ?_) rfl (by kernel_rfl) (by kernel_rfl) (by kernel_rfl) (fun _ _ _ h => h) (Or.inl ⟨by rfl, ?_⟩) (by assumption) ?_
   rotate_left
   ·intro w5 hSw
    (try dsimp only at hSw)
    go_simp
    (try with_reducible rfl)
   try simp only [aP, aQ, aA, aB, aC]
   refine wpAnyH_take (i := 11) (oi := ⟨some 20, _, _, _, _, _⟩) (v := undef) rfl (by kernel_rfl) (by kernel_rfl) (by kernel_rfl) (fun _ _ _ h => h) (Or.inr ⟨by rfl, rfl⟩) (by assumption) ?_
   try simp only [aP, aQ, aA, aB, aC]
   refine wpAnyH_take (i := 12) (oi := ⟨some 21, _, _, _, _, _⟩) (v := undef) rfl (by kernel_rfl) (by kernel_rfl) (by kernel_rfl) (fun _ _ _ h => h) (Or.inr ⟨by rfl, rfl⟩) (by assumption) ?_
   try simp only [aP, aQ, aA, aB, aC]
   refine wpAnyH_take (i := 13) (oi := ⟨some 22, _, _, _, _, _⟩) (v := undef) rfl (by kernel_rfl) (by kernel_rfl) (by kernel_rfl) (fun _ _ _ h => h) (Or.inr ⟨by rfl, rfl⟩) (by assumption) ?_
   try simp only [aP, aQ, aA, aB, aC]
   refine wpAnyH_take (i := 14) (oi := ⟨some 23, _, _, _, _, _⟩) (v := undef) rfl (by kernel_rfl) (by kernel_rfl) (by kernel_rfl) (fun _ _ _ h => h) (Or.inr ⟨by rfl, rfl⟩) (by assumption) ?_
   try simp only [aP, aQ, aA, aB, aC]
   refine wpAnyH_take (i := 15) (oi := ⟨some 24, _, _, _, _, _⟩) (v := ?_) rfl (by kernel_rfl) (by kernel_rfl) (by kernel_rfl) (fun _ _ _ h => h) (Or.inl ⟨by rfl, ?_⟩) (by assumption) ?_
   rotate_left
   ·intro w5 hSw
    (try dsimp only at hSw)
    go_simp
    (try with_reducible rfl)
   try simp only [aP, aQ, aA, aB, aC]
   refine wpAnyH_done (by kernel_rfl) ?_ _;clear hHeld
   go_wp2_with fail
   go_meet
   exact ⟨rfl, hideIt (Below.refl _ _).drew⟩
  case rest =>
   obtain ⟨rfl, HB⟩ := hcut;have HX1 := hideIt (HX0.out.keep HB.out);have HP1 := hideIt (blkK HP.out HB.out);clear HT HLe HX0 HP HB m0 m1 m2 m3 m4 m5 m6 m7 m8 m9 m10 m11 m12 mf mz;go_wp2;go_ret;have hh : X.v = appdW X.v y.m := HV.out.symm
   first
    | exact ⟨X, rfl, hh, HX1.out⟩
    | exact ⟨rfl, X, hh, HX1.out⟩
    | exact ⟨X, hh, HX1.out⟩
end Go.Proofs.YtcaehfkfohianaaGreat
