/- Texts of my own, laid together. -/
import Derived.Test.YtcaehfkfohianaaGreatPz13
import Derived.Maps.OwnSet
import Derived.Lib.SlKeysI
import Derived.Lib.AppendZeros
import Derived.Deep.RegionHeld3
import Derived.Deep.RegionLaw
import Derived.Deep.CutRange
set_option linter.all false
namespace Go.Proofs.YtcaehfkfohianaaGreat
open Go.RowKit
set_option maxRecDepth 100000 in
set_option maxHeartbeats 16000000 in
theorem rmayBe_is (d : NodeV) (gb gl gn gm : Value) (w : World) (h : NodAt w d gb gl gn gm) : Calls Tryz.prog 26 #[.agg (nodA d gb gl gn gm)] w fun e w' => e = .returned (.bool (nodeB d)) ∧ Below w.heap.size w w' := by
 have HB0 := hideIt (below1 w (.cells (nodA d gb gl gn gm) 38));have HX0 := hideIt (heap_alloc_new w (.cells (nodA d gb gl gn gm) 38));have hE : nodeB d = (wiB d.n 1 7 && (wiB d.me 1 d.n && (wiB d.ld 0 d.n && (Tm.mayB d.b && (decide ((d.b.l.length : Int) ≤ d.n) && (mayB d.L && (textB d.tx d.L.bi && leadB d))))))) := rfl;generalize nodeB d = B at *;have HE := hideIt hE;clear hE;obtain ⟨na, nc, rfl, -, -⟩ := h.n.cap;obtain ⟨ma, mc, rfl, -, -⟩ := h.m.cap;obtain ⟨ba, bc, rfl⟩ := GotAt.open h.b;obtain ⟨la, lc, rfl⟩ : ∃ a c, gl = .slice a d.L.l.length c := by
  obtain ⟨_, a, c, e, _⟩ := h.l
  exact ⟨a, c, e⟩
 have hTX := hideIt h.t;have hN := hideIt (fun W (hW : Below w.heap.size w W) => h.keep hW);clear h;unfold nodA at *
 go_enter Tryz.func26, Tryz.ntmps26
 go_upto_region 1 with fail
 generalize (World.alloc w _) = W0 at *;have HX := HX0;have HB := HB0;clear HX0 HB0;obtain ⟨⟨k0, k1, k2, k3, k4, k5, k6, k7, k8, k9, k10, k11, k12, k13⟩, kf, kz⟩ := at14 HX.out;cases h0 : wiB d.n 1 7
 ·rw [h0] at HE;have HC := hideIt (fun W => rafWithin_is d.n 1 7 W);rw [h0] at HC
  go_wp2_with fail
  refine (HC.out _).mono ?_;rintro e w1 ⟨rfl, rfl⟩;dsimp only;clear HC;go_wp2;go_ret
  exact ⟨by rw [HE.out]; simp, HB.out⟩
 ·rw [h0] at HE;have HC := hideIt (fun W => rafWithin_is d.n 1 7 W);rw [h0] at HC
  go_wp2_with fail
  refine (HC.out _).mono ?_;rintro e w1 ⟨rfl, rfl⟩;dsimp only;clear HC;have hn0 := hideIt h0;cases h1 : wiB d.me 1 d.n
  ·rw [h1] at HE;have HC := hideIt (fun W => rafWithin_is d.me 1 d.n W);rw [h1] at HC
   go_wp2_with fail
   refine (HC.out _).mono ?_;rintro e w1 ⟨rfl, rfl⟩;dsimp only;clear HC;go_wp2;go_ret
   exact ⟨by rw [HE.out]; simp, HB.out⟩
  ·rw [h1] at HE;have HC := hideIt (fun W => rafWithin_is d.me 1 d.n W);rw [h1] at HC
   go_wp2_with fail
   refine (HC.out _).mono ?_;rintro e w1 ⟨rfl, rfl⟩;dsimp only;clear HC;cases h2 : wiB d.ld 0 d.n
   ·rw [h2] at HE;have HC := hideIt (fun W => rafWithin_is d.ld 0 d.n W);rw [h2] at HC
    go_wp2_with fail
    refine (HC.out _).mono ?_;rintro e w1 ⟨rfl, rfl⟩;dsimp only;clear HC;go_wp2;go_ret
    exact ⟨by rw [HE.out]; simp, HB.out⟩
   ·rw [h2] at HE;have HC := hideIt (fun W => rafWithin_is d.ld 0 d.n W);rw [h2] at HC
    go_wp2_with fail
    refine (HC.out _).mono ?_;rintro e w1 ⟨rfl, rfl⟩;dsimp only;clear HC;cases h3 : Tm.mayB d.b
    ·rw [h3] at HE;have HC := hideIt (isBallot_is d.b _ _ (hN.out _ HB.out).b);rw [h3] at HC;unfold Tm.balV at HC
     go_wp2_with fail
     refine HC.out.mono ?_;rintro e w1 ⟨rfl, hb⟩;dsimp only;have HX1 := hideIt (blkK HX.out hb);have HB1 := hideIt (below_via HB.out hb);clear k0 k1 k2 k3 k4 k5 k6 k7 k8 k9 k10 k11 k12 k13 kf kz;clear HX HB hb HC;have HX := HX1;have HB := HB1;clear HX1 HB1;obtain ⟨⟨k0, k1, k2, k3, k4, k5, k6, k7, k8, k9, k10, k11, k12, k13⟩, kf, kz⟩ := at14 HX.out;go_wp2;go_ret
     exact ⟨by rw [HE.out]; simp, HB.out⟩
    ·rw [h3] at HE;have HC := hideIt (isBallot_is d.b _ _ (hN.out _ HB.out).b);rw [h3] at HC;unfold Tm.balV at HC
     go_wp2_with fail
     refine HC.out.mono ?_;rintro e w1 ⟨rfl, hb⟩;dsimp only;have HX1 := hideIt (blkK HX.out hb);have HB1 := hideIt (below_via HB.out hb);clear k0 k1 k2 k3 k4 k5 k6 k7 k8 k9 k10 k11 k12 k13 kf kz;clear HX HB hb HC;have HX := HX1;have HB := HB1;clear HX1 HB1;obtain ⟨⟨k0, k1, k2, k3, k4, k5, k6, k7, k8, k9, k10, k11, k12, k13⟩, kf, kz⟩ := at14 HX.out;cases h4 : decide ((d.b.l.length : Int) ≤ d.n)
     ·rw [h4] at HE;have hgl : ¬ ((d.b.l.length : Int) ≤ d.n) := of_decide_eq_false h4;clear h4;go_wp2;go_ret
      exact ⟨by rw [HE.out]; simp, HB.out⟩
     ·rw [h4] at HE;have hgl := of_decide_eq_true h4;clear h4;cases h5 : mayB d.L
      ·rw [h5] at HE;have HC := hideIt (check_is d.L _ _ (hN.out _ HB.out).l);unfold chkI at HC;rw [h5] at HC;simp only [Bool.false_eq_true, if_false] at HC;unfold logV logA at HC
       go_wp2_with fail
       refine HC.out.mono ?_;rintro e w1 ⟨rfl, hb⟩;dsimp only;have HX1 := hideIt (blkK HX.out hb);have HB1 := hideIt (below_via HB.out hb);clear k0 k1 k2 k3 k4 k5 k6 k7 k8 k9 k10 k11 k12 k13 kf kz;clear HX HB hb HC;have HX := HX1;have HB := HB1;clear HX1 HB1;obtain ⟨⟨k0, k1, k2, k3, k4, k5, k6, k7, k8, k9, k10, k11, k12, k13⟩, kf, kz⟩ := at14 HX.out;go_wp2;go_ret
       exact ⟨by rw [HE.out]; simp, HB.out⟩
      ·rw [h5] at HE;have HC := hideIt (check_is d.L _ _ (hN.out _ HB.out).l);unfold chkI at HC;rw [h5] at HC;simp only [if_true] at HC;unfold logV logA at HC
       go_wp2_with fail
       refine HC.out.mono ?_;rintro e w1 ⟨rfl, hb⟩;dsimp only;have HX1 := hideIt (blkK HX.out hb);have HB1 := hideIt (below_via HB.out hb);clear k0 k1 k2 k3 k4 k5 k6 k7 k8 k9 k10 k11 k12 k13 kf kz;clear HX HB hb HC;have HX := HX1;have HB := HB1;clear HX1 HB1;obtain ⟨⟨k0, k1, k2, k3, k4, k5, k6, k7, k8, k9, k10, k11, k12, k13⟩, kf, kz⟩ := at14 HX.out;cases h6 : textB d.tx d.L.bi
       ·rw [h6] at HE;have HC := hideIt (fun W => isTextOf_is d.tx d.L.bi d.L.bt W hTX.out);rw [h6] at HC
        go_wp2_with fail
        refine (HC.out _).mono ?_;rintro e w1 ⟨rfl, hb⟩;dsimp only;have HX1 := hideIt (blkK HX.out hb);have HB1 := hideIt (below_via HB.out hb);clear k0 k1 k2 k3 k4 k5 k6 k7 k8 k9 k10 k11 k12 k13 kf kz;clear HX HB hb HC;have HX := HX1;have HB := HB1;clear HX1 HB1;obtain ⟨⟨k0, k1, k2, k3, k4, k5, k6, k7, k8, k9, k10, k11, k12, k13⟩, kf, kz⟩ := at14 HX.out;go_wp2;go_ret
        exact ⟨by rw [HE.out]; simp, HB.out⟩
       ·rw [h6] at HE;have HC := hideIt (fun W => isTextOf_is d.tx d.L.bi d.L.bt W hTX.out);rw [h6] at HC
        go_wp2_with fail
        refine (HC.out _).mono ?_;rintro e w1 ⟨rfl, hb⟩;dsimp only;have HX1 := hideIt (blkK HX.out hb);have HB1 := hideIt (below_via HB.out hb);clear k0 k1 k2 k3 k4 k5 k6 k7 k8 k9 k10 k11 k12 k13 kf kz;clear HX HB hb HC;have HX := HX1;have HB := HB1;clear HX1 HB1;obtain ⟨⟨k0, k1, k2, k3, k4, k5, k6, k7, k8, k9, k10, k11, k12, k13⟩, kf, kz⟩ := at14 HX.out;cases h7 : leadB d
        ·rw [h7] at HE;have HC := hideIt (leads_is d _ _ _ _ _ (hN.out _ HB.out) (of_decide_eq_true hn0.out));rw [h7] at HC;unfold nodA at HC
         go_wp2_with fail
         refine HC.out.mono ?_;rintro e w1 ⟨rfl, hb⟩;dsimp only;have HX1 := hideIt (blkK HX.out hb);have HB1 := hideIt (below_via HB.out hb);clear k0 k1 k2 k3 k4 k5 k6 k7 k8 k9 k10 k11 k12 k13 kf kz;clear HX HB hb HC;have HX := HX1;have HB := HB1;clear HX1 HB1;obtain ⟨⟨k0, k1, k2, k3, k4, k5, k6, k7, k8, k9, k10, k11, k12, k13⟩, kf, kz⟩ := at14 HX.out;go_wp2;go_ret
         exact ⟨by rw [HE.out]; simp, HB.out⟩
        ·rw [h7] at HE;have HC := hideIt (leads_is d _ _ _ _ _ (hN.out _ HB.out) (of_decide_eq_true hn0.out));rw [h7] at HC;unfold nodA at HC
         go_wp2_with fail
         refine HC.out.mono ?_;rintro e w1 ⟨rfl, hb⟩;dsimp only;have HX1 := hideIt (blkK HX.out hb);have HB1 := hideIt (below_via HB.out hb);clear k0 k1 k2 k3 k4 k5 k6 k7 k8 k9 k10 k11 k12 k13 kf kz;clear HX HB hb HC;have HX := HX1;have HB := HB1;clear HX1 HB1;obtain ⟨⟨k0, k1, k2, k3, k4, k5, k6, k7, k8, k9, k10, k11, k12, k13⟩, kf, kz⟩ := at14 HX.out;go_wp2;go_ret
         exact ⟨by rw [HE.out]; simp, HB.out⟩
def staN (me n t v si st : Int) (tx : ByteArray) (l : List EntV) : NodeV := ⟨me, n, ⟨t, v, 1, []⟩, 0, ⟨si, st, l, si⟩, tx, [], []⟩
structure StW (w W : World) (cs : Array Value) : Prop where
 res : W.heap[w.heap.size + 1 + 1]? = some (.cells #[.int .i64 0, .int .i64 0, .int .i64 0, .int .i64 0, .int .i64 0, .slice none 0 0, .int .i64 0, .int .i64 0, .int .i64 0, .slice none 0 0, .int .i64 0, .string ⟨#[]⟩, .slice none 0 0, .slice none 0 0] 38 (0, 0))
 nod : W.heap[w.heap.size + 1 + 1 + 1]? = some (.cells cs 38 (0, 0))
 bel : Below w.heap.size w W
theorem StW.first (w : World) (o p : Obj) (cs : Array Value) : StW w ((((w.alloc o).alloc p).alloc (.cells #[.int .i64 0, .int .i64 0, .int .i64 0, .int .i64 0, .int .i64 0, .slice none 0 0, .int .i64 0, .int .i64 0, .int .i64 0, .slice none 0 0, .int .i64 0, .string ⟨#[]⟩, .slice none 0 0, .slice none 0 0] 38)).alloc (.cells cs 38)) cs := by
 refine ⟨?_, ?_, ((below2 w o p).alloc (by simp; omega) _).alloc (by simp; omega) _⟩
 ·rw [heap_alloc_old _ _ (by simp)];have := heap_alloc_new ((w.alloc o).alloc p) (.cells #[.int .i64 0, .int .i64 0, .int .i64 0, .int .i64 0, .int .i64 0, .slice none 0 0, .int .i64 0, .int .i64 0, .int .i64 0, .slice none 0 0, .int .i64 0, .string ⟨#[]⟩, .slice none 0 0, .slice none 0 0] 38)
  simpa using this
 ·have := heap_alloc_new (((w.alloc o).alloc p).alloc (.cells #[.int .i64 0, .int .i64 0, .int .i64 0, .int .i64 0, .int .i64 0, .slice none 0 0, .int .i64 0, .int .i64 0, .int .i64 0, .slice none 0 0, .int .i64 0, .string ⟨#[]⟩, .slice none 0 0, .slice none 0 0] 38)) (.cells cs 38)
  simpa using this
theorem StW.size {w W : World} {cs : Array Value} (h : StW w W cs) : w.heap.size + 1 + 1 + 1 < W.heap.size := (Array.getElem?_eq_some_iff.1 h.nod).1
theorem StW.call {w W W' : World} {cs : Array Value} (h : StW w W cs) (hb : Below W.heap.size W W') : StW w W' cs := ⟨blkK h.res hb, blkK h.nod hb, below_via h.bel hb⟩
theorem IGot.nil (w : World) : IGot w (.slice none 0 0) [] := ⟨Tm.GotAt.nil w none 0, none, 0, rfl, by simp, by simp⟩
theorem nodeB_L {d : NodeV} (h : nodeB d = true) : mayB d.L = true ∧ d.tx.size ≤ 50000 := by
 unfold nodeB textB at h;simp only [Bool.and_eq_true, decide_eq_true_eq] at h
 exact ⟨h.2.2.2.2.2.1, h.2.2.2.2.2.2.1.1⟩
set_option maxRecDepth 100000 in
set_option maxHeartbeats 8000000 in
theorem startN_is (me n t v si st : Int) (tx : ByteArray) (l : List EntV) (g : Value) (w : World) (h : EGot w g l) (ht : tx.size ≤ 140737488355328) : Calls Tryz.prog 9 #[.int .i64 me, .int .i64 n, .agg #[.int .i64 t, .int .i64 v], .agg #[.int .i64 si, .int .i64 st, .string tx], g] w fun e w' => ∃ gb gl gn gm, e = .returned (.tuple #[.agg (nodA (startN me n t v si st tx l).1 gb gl gn gm), .int .i64 (startN me n t v si st tx l).2]) ∧ NodeOwn w.heap.size w' (startN me n t v si st tx l).1 gb gl gn gm ∧ Below w.heap.size w w' := by
 obtain ⟨la, lc, rfl⟩ : ∃ a c, g = .slice a l.length c := by
  obtain ⟨_, a, c, e, _⟩ := h
  exact ⟨a, c, e⟩
 have I0 := hideIt (StW.first w (.cells #[.int .i64 t, .int .i64 v] 23) (.cells #[.int .i64 si, .int .i64 st, .string tx] 27) (nodA (staN me n t v si st tx l) (.slice none 0 0) (.slice la l.length lc) (.slice none 0 0) (.slice none 0 0)));have HNA := hideIt (fun W (hW : Below w.heap.size w W) => (⟨Tm.GotAt.nil W none 0, h.keep hW, IGot.nil W, IGot.nil W, ht⟩ : NodAt W (staN me n t v si st tx l) (.slice none 0 0) (.slice la l.length lc) (.slice none 0 0) (.slice none 0 0)));have HM := hideIt (rmayBe_is _ _ _ _ _ _ (HNA.out _ I0.out.bel));have HAN := hideIt (fun W (hW : Below w.heap.size w W) (hB : nodeB (staN me n t v si st tx l) = true) => anewN_is _ _ _ _ _ W (HNA.out W hW) (nodeB_L hB).1 (Nat.le_trans (nodeB_L hB).2 (by omega)));have HS : startN me n t v si st tx l = if nodeB (staN me n t v si st tx l) then (staN me n t v si st tx l, 0) else (zNode, 100) := rfl
 generalize startN me n t v si st tx l = Z at *;clear h HNA;unfold NodeBack at HAN
 go_enter Tryz.func9, Tryz.ntmps9
 go_upto_region 2 with fail
 cases hB : nodeB (staN me n t v si st tx l)
 ·rw [hB] at HS HM;rw [if_neg (by decide)] at HS;subst HS;clear HAN;unfold nodA staN at *;clear hB;generalize (World.alloc _ (.cells #[.int .i64 me, _, _, _, _, _, _, _, _, _, _, _, _, _] _)) = W0 at *;obtain ⟨⟨k0, k1, k2, k3, k4, k5, k6, k7, k8, k9, k10, k11, k12, k13⟩, kf, kz⟩ := at14 I0.out.nod
  go_wp2_with fail
  refine HM.out.mono ?_;rintro e w1 ⟨rfl, hb⟩;dsimp only;have I1 := hideIt (I0.out.call hb);clear k0 k1 k2 k3 k4 k5 k6 k7 k8 k9 k10 k11 k12 k13 kf kz hb I0 HM;obtain ⟨⟨d0, d1, d2, d3, d4, d5, d6, d7, d8, d9, d10, d11, d12, d13⟩, df, dz⟩ := at14 I1.out.res;have F1 := hideIt (put14 (.int .i64 0) (.int .i64 0) (.int .i64 0) (.int .i64 0) (.int .i64 0) (.slice none 0 0) (.int .i64 0) (.int .i64 0) (.int .i64 0) (.slice none 0 0) (.int .i64 0) (.string ⟨#[]⟩) (.slice none 0 0) (.slice none 0 0) I1.out.res);have F2 := hideIt (nodeSet14 (B := w.heap.size + 3) (W := w1) (gb := .slice none 0 0) (gl := .slice none 0 0) (gn := .slice none 0 0) (gm := .slice none 0 0) (d := zNode) (w.heap.size + 1 + 1) (.int .i64 0) (.int .i64 0) (.int .i64 0) (.int .i64 0) (.int .i64 0) (.slice none 0 0) (.int .i64 0) (.int .i64 0) (.int .i64 0) (.slice none 0 0) (.int .i64 0) (.string ⟨#[]⟩) (.slice none 0 0) (.slice none 0 0) ⟨⟨rfl, .inl ⟨rfl, rfl⟩⟩, ⟨rfl, .inl ⟨rfl, rfl⟩⟩, ⟨rfl, .inl ⟨rfl, rfl⟩⟩, ⟨rfl, .inl ⟨rfl, rfl⟩⟩⟩ (by omega));have F3 := hideIt (belowSet14 (w.heap.size + 1 + 1) (.int .i64 0) (.int .i64 0) (.int .i64 0) (.int .i64 0) (.int .i64 0) (.slice none 0 0) (.int .i64 0) (.int .i64 0) (.int .i64 0) (.slice none 0 0) (.int .i64 0) (.string ⟨#[]⟩) (.slice none 0 0) (.slice none 0 0) I1.out.bel (by omega));clear I1;go_wp2;have f1 := F1.out;have f2 := F2.out;have f3 := F3.out;clear F1 F2 F3
  revert f1 f2 f3
  generalize (World.setCell _ ⟨w.heap.size + 1 + 1, 13, none⟩ _) = W;intro e1 e2 e3;exact bodyPost_ret (v := .tuple #[.agg (nodA (zNode) (.slice none 0 0) (.slice none 0 0) (.slice none 0 0) (.slice none 0 0)), .int .i64 100]) (by simp [results, Tryz.results9, go_sem, Tm.cell_at e1, nodA, zNode, Tm.zB, zL, noT, staN]) rfl ⟨_, _, _, _, rfl, e2.base (by omega), e3⟩
 ·rw [hB] at HS HM;rw [if_pos rfl] at HS;subst HS;have HAN2 := hideIt (fun W hW => HAN.out W hW hB);clear HAN;unfold nodA staN at *;clear hB;generalize (World.alloc _ (.cells #[.int .i64 me, _, _, _, _, _, _, _, _, _, _, _, _, _] _)) = W0 at *;obtain ⟨⟨k0, k1, k2, k3, k4, k5, k6, k7, k8, k9, k10, k11, k12, k13⟩, kf, kz⟩ := at14 I0.out.nod
  go_wp2_with fail
  refine HM.out.mono ?_;rintro e w1 ⟨rfl, hb⟩;dsimp only;have I1 := hideIt (I0.out.call hb);clear k0 k1 k2 k3 k4 k5 k6 k7 k8 k9 k10 k11 k12 k13 kf kz hb I0 HM;obtain ⟨⟨k0, k1, k2, k3, k4, k5, k6, k7, k8, k9, k10, k11, k12, k13⟩, kf, kz⟩ := at14 I1.out.nod;have HN := hideIt (HAN2.out w1 I1.out.bel);clear HAN2
  go_wp2_with fail
  refine HN.out.mono ?_;rintro e w2 ⟨gb, gl, gn, gm, rfl, ho, hb⟩;dsimp only;obtain ⟨ba, bc, rfl⟩ := Tm.own_len ho.b;obtain ⟨la2, lc2, rfl⟩ := own_len ho.l;obtain ⟨na, nc, rfl⟩ := Tm.own_len ho.n;obtain ⟨ma, mc, rfl⟩ := Tm.own_len ho.m;have I2 := hideIt (I1.out.call hb);have hsz := I1.out.size;have O2 := hideIt ho;clear k0 k1 k2 k3 k4 k5 k6 k7 k8 k9 k10 k11 k12 k13 kf kz hb ho I1 HN;obtain ⟨⟨d0, d1, d2, d3, d4, d5, d6, d7, d8, d9, d10, d11, d12, d13⟩, df, dz⟩ := at14 I2.out.res;have F1 := hideIt (put14 (.int .i64 me) (.int .i64 n) (.int .i64 t) (.int .i64 v) (.int .i64 1) (.slice ba ([] : List Int).length bc) (.int .i64 0) (.int .i64 si) (.int .i64 st) (.slice la2 l.length lc2) (.int .i64 si) (.string tx) (.slice na ([] : List Int).length nc) (.slice ma ([] : List Int).length mc) I2.out.res);have F2 := hideIt (nodeSet14 (d := staN me n t v si st tx l) (w.heap.size + 1 + 1) (.int .i64 me) (.int .i64 n) (.int .i64 t) (.int .i64 v) (.int .i64 1) (.slice ba ([] : List Int).length bc) (.int .i64 0) (.int .i64 si) (.int .i64 st) (.slice la2 l.length lc2) (.int .i64 si) (.string tx) (.slice na ([] : List Int).length nc) (.slice ma ([] : List Int).length mc) O2.out (by omega));have F3 := hideIt (belowSet14 (w.heap.size + 1 + 1) (.int .i64 me) (.int .i64 n) (.int .i64 t) (.int .i64 v) (.int .i64 1) (.slice ba ([] : List Int).length bc) (.int .i64 0) (.int .i64 si) (.int .i64 st) (.slice la2 l.length lc2) (.int .i64 si) (.string tx) (.slice na ([] : List Int).length nc) (.slice ma ([] : List Int).length mc) I2.out.bel (by omega));clear I2;go_wp2;have f1 := F1.out;have f2 := F2.out;have f3 := F3.out;clear F1 F2 F3
  revert f1 f2 f3
  generalize (World.setCell _ ⟨w.heap.size + 1 + 1, 13, none⟩ _) = W;intro e1 e2 e3;exact bodyPost_ret (v := .tuple #[.agg (nodA (staN me n t v si st tx l) (.slice ba ([] : List Int).length bc) (.slice la2 l.length lc2) (.slice na ([] : List Int).length nc) (.slice ma ([] : List Int).length mc)), .int .i64 0]) (by simp [results, Tryz.results9, go_sem, Tm.cell_at e1, nodA, zNode, Tm.zB, zL, noT, staN]) rfl ⟨_, _, _, _, rfl, e2.base (by omega), e3⟩
end Go.Proofs.YtcaehfkfohianaaGreat
namespace Go.Proofs.YtcaehfkfohianaaGreat
open Go.RowKit Go.Maps
def heldR (v : Value) : Option (DataW Value × List MemPlace) := some (.held v, [])
theorem ownsMap_block {w w' : World} {b n : Nat} {D : DataW Value} (h : w.ownsMap Tryz.prog 3 heldR b n D) (hb : w'.heap[b]? = w.heap[b]?) : w'.ownsMap Tryz.prog 3 heldR b n D := by
 obtain ⟨es, clock, hb', r⟩ := h
 exact ⟨es, clock, hb.trans hb', r⟩
def keyL (x : Int) : Lit := .int .i64 x
theorem wf64 (x : Int) (h1 : -9223372036854775808 ≤ x) (h2 : x ≤ 9223372036854775807) : (Lit.int .i64 x).wf = true := by
 have e1 : IntKind.i64.min = -9223372036854775808 := by decide
 have e2 : IntKind.i64.max = 9223372036854775807 := by decide
 simp [Lit.wf, e1, e2]; omega
abbrev Funs := Int → Option Value
def FM (w : World) (mb c : Nat) (f : Funs) : Prop := ∃ n D, n ≤ c ∧ w.ownsMap Tryz.prog 3 heldR mb n D ∧ (∀ x p, f x = some p → ∀ z, D.atKey (keyL x) z = .held p) ∧ ∀ x, f x = none → ∀ z, D.atKey (keyL x) z = z
theorem FM.made (w : World) : FM (w.alloc (.map #[] 0)) w.heap.size 0 (fun _ => none) :=
 ⟨0, .map [], Nat.le_refl _, World.ownsMap_made w Tryz.prog 3 heldR, (fun x p h => by cases h), fun x _ z => rfl⟩
theorem FM.block {w w' : World} {mb c : Nat} {f : Funs} (h : FM w mb c f) (hb : w'.heap[mb]? = w.heap[mb]?) : FM w' mb c f := by
 obtain ⟨n, D, h1, h2, h3, h4⟩ := h
 exact ⟨n, D, h1, ownsMap_block h2 hb, h3, h4⟩
theorem FM.lt {w : World} {mb c : Nat} {f : Funs} (h : FM w mb c f) : mb < w.heap.size := by
 obtain ⟨n, D, h1, h2, h3, h4⟩ := h;exact h2.lt
theorem FM.keep {w w' : World} {mb c : Nat} {f : Funs} (h : FM w mb c f) (hb : Below w.heap.size w w') : FM w' mb c f := h.block (hb.block mb h.lt)
theorem FM.look_ok {w : World} {mb c : Nat} {f : Funs} {t e : TypeId} (h : FM w mb c f) (ht : Tryz.prog.underlying t = some (.map 3 e)) (hz : (zeroValue e).run Tryz.prog w = .ok .nilFunc w) (x : Int) (hx : (Lit.int .i64 x).wf = true) : (Instr.lookup t (.map (some mb)) (.int .i64 x) true).run Tryz.prog w = .ok (match f x with | some p => .tuple #[p, .bool true] | none => .tuple #[.nilFunc, .bool false]) w := by
 obtain ⟨n, D, h1, h2, h3, h4⟩ := h;obtain ⟨v, ps, hrun, hv⟩ := h2.look_ok (int_keyed Tryz.underlying3) ht hz (zd := .held .nilFunc) (zp := []) rfl (key := .int .i64 x) (kl := keyL x) (keyOf_int_mk Tryz.underlying3 hx);cases hf : f x with
 | none =>
  rw [h4 x hf] at hv
  simp [heldR] at hv
  rw [hrun, hv.1, has_false_of_atKey (h4 x hf)]
 | some p =>
  rw [h3 x p hf] at hv
  simp [heldR] at hv
  rw [hrun, hv.1, has_true_of_atKey (h3 x p hf)]
theorem FM.look {w : World} {mb c : Nat} {f : Funs} {t e : TypeId} (h : FM w mb c f) (ht : Tryz.prog.underlying t = some (.map 3 e)) (hz : (zeroValue e).run Tryz.prog w = .ok .nilFunc w) (x : Int) (hx : (Lit.int .i64 x).wf = true) (p : Value) (hf : f x = some p) : (Instr.lookup t (.map (some mb)) (.int .i64 x) false).run Tryz.prog w = .ok p w := by
 obtain ⟨n, D, h1, h2, h3, h4⟩ := h;obtain ⟨v, ps, hrun, hv⟩ := h2.lookup (int_keyed Tryz.underlying3) ht hz (zd := .held .nilFunc) (zp := []) rfl (key := .int .i64 x) (kl := keyL x) (keyOf_int_mk Tryz.underlying3 hx);rw [h3 x p hf] at hv
 simp [heldR] at hv
 rw [hrun, hv.1]
def updF (f : Funs) (x : Int) (p : Value) : Funs := fun j => if j = x then some p else f j
theorem FM.store {w : World} {mb c : Nat} {f : Funs} {t e : TypeId} (h : FM w mb c f) (ht : Tryz.prog.underlying t = some (.map 3 e)) (hc : c ≤ 1000000) (x : Int) (hx : (Lit.int .i64 x).wf = true) (p : Value) : ∃ w', (Instr.mapUpdate t (.map (some mb)) (.int .i64 x) p).run Tryz.prog w = .ok () w' ∧ FM w' mb (c + 1) (updF f x p) ∧ w.grownBy w' (some mb) := by
 obtain ⟨n, D, h1, h2, h3, h4⟩ := h;obtain ⟨w', hrun, hown, hturn⟩ := h2.store (int_keyed Tryz.underlying3) ht (by unfold maxLen; omega) (val := p) (keyOf_int_mk Tryz.underlying3 hx) (d := .held p) (ps := []) rfl
 have hne : ∀ y : Int, y ≠ x → keyL y ≠ keyL x := fun y hy e => hy (by simpa [keyL] using e)
 refine ⟨w', hrun, ⟨n + 1, _, by omega, hown, fun y q hy z => ?_, fun y hy z => ?_⟩, hturn.grown⟩
 ·unfold updF at hy
  by_cases e : y = x
  ·subst e;rw [if_pos rfl] at hy;cases hy;exact atKey_put_same h2.isMap (show WideAt.IsKeyLit (keyL y) from trivial) _ z
  ·rw [if_neg e] at hy;exact (atKey_put_other (hne y e) _ z).trans (h3 y q hy z)
 ·unfold updF at hy
  by_cases e : y = x
  ·subst e;rw [if_pos rfl] at hy;cases hy
  ·rw [if_neg e] at hy;exact (atKey_put_other (hne y e) _ z).trans (h4 y hy z)
theorem below_map {mb : Nat} {w0 w w' : World} (h : Below w0.heap.size w0 w) (hg : w.grownBy w' (some mb)) (hm : w0.heap.size ≤ mb) : Below w0.heap.size w0 w' :=
 below_out h (Out.ofGrown (F := fun k => w0.heap.size ≤ k) hg (fun k hk => by cases hk; exact hm)) (fun _ h => h)
def fnV (k : Nat) : Value := .func (.func k) #[] #[]
def evF : Funs := updF (updF (updF (updF (fun _ => none) 1 (fnV 53)) 2 (fnV 54)) 3 (fnV 55)) 4 (fnV 56)
set_option maxRecDepth 100000 in
set_option maxHeartbeats 4000000 in
theorem events_is (w : World) : Calls Tryz.prog 28 #[] w fun e w' => ∃ mb, e = .returned (.map (some mb)) ∧ FM w' mb 4 evF ∧ w.heap.size ≤ mb ∧ Below w.heap.size w w' := by
 have i0 := FM.made w;obtain ⟨w1, r1, i1, g1⟩ := i0.store Tryz.underlying75 (by omega) 1 (wf64 1 (by omega) (by omega)) (fnV 53);obtain ⟨w2, r2, i2, g2⟩ := i1.store Tryz.underlying75 (by omega) 2 (wf64 2 (by omega) (by omega)) (fnV 54);obtain ⟨w3, r3, i3, g3⟩ := i2.store Tryz.underlying75 (by omega) 3 (wf64 3 (by omega) (by omega)) (fnV 55);obtain ⟨w4, r4, i4, g4⟩ := i3.store Tryz.underlying75 (by omega) 4 (wf64 4 (by omega) (by omega)) (fnV 56);have HF := hideIt (And.intro i4 (below_map (below_map (below_map (below_map ((Below.refl _ w).alloc (Nat.le_refl _) _) g1 (Nat.le_refl _)) g2 (Nat.le_refl _)) g3 (Nat.le_refl _)) g4 (Nat.le_refl _)));clear i0 i1 i2 i3 i4 g1 g2 g3 g4;unfold fnV at r1 r2 r3 r4
 go_enter Tryz.func28, Tryz.ntmps28
 have r0 := run_makeMap (P := Tryz.prog) 75 w;go_wp2;go_ret
 exact ⟨_, rfl, HF.out.1, Nat.le_refl _, HF.out.2⟩
def msF : Funs := updF (updF (updF (updF (updF (fun _ => none) 1 (fnV 141)) 2 (fnV 142)) 3 (fnV 143)) 5 (fnV 143)) 4 (fnV 144)
set_option maxRecDepth 100000 in
set_option maxHeartbeats 4000000 in
theorem messages_is (w : World) : Calls Tryz.prog 98 #[] w fun e w' => ∃ mb, e = .returned (.map (some mb)) ∧ FM w' mb 5 msF ∧ w.heap.size ≤ mb ∧ Below w.heap.size w w' := by
 have i0 := FM.made w;obtain ⟨w1, r1, i1, g1⟩ := i0.store Tryz.underlying130 (by omega) 1 (wf64 1 (by omega) (by omega)) (fnV 141);obtain ⟨w2, r2, i2, g2⟩ := i1.store Tryz.underlying130 (by omega) 2 (wf64 2 (by omega) (by omega)) (fnV 142);obtain ⟨w3, r3, i3, g3⟩ := i2.store Tryz.underlying130 (by omega) 3 (wf64 3 (by omega) (by omega)) (fnV 143);obtain ⟨w4, r4, i4, g4⟩ := i3.store Tryz.underlying130 (by omega) 5 (wf64 5 (by omega) (by omega)) (fnV 143);obtain ⟨w5, r5, i5, g5⟩ := i4.store Tryz.underlying130 (by omega) 4 (wf64 4 (by omega) (by omega)) (fnV 144);have HF := hideIt (And.intro i5 (below_map (below_map (below_map (below_map (below_map ((Below.refl _ w).alloc (Nat.le_refl _) _) g1 (Nat.le_refl _)) g2 (Nat.le_refl _)) g3 (Nat.le_refl _)) g4 (Nat.le_refl _)) g5 (Nat.le_refl _)));clear i0 i1 i2 i3 i4 i5 g1 g2 g3 g4 g5;unfold fnV at r1 r2 r3 r4 r5
 go_enter Tryz.func98, Tryz.ntmps98
 have r0 := run_makeMap (P := Tryz.prog) 130 w;go_wp2;go_ret
 exact ⟨_, rfl, HF.out.1, Nat.le_refl _, HF.out.2⟩
theorem ev_none {k : Int} (h : ¬ (1 ≤ k ∧ k ≤ 4)) : evF k = none := by
 unfold evF updF;rw [if_neg (by omega), if_neg (by omega), if_neg (by omega), if_neg (by omega)]
end Go.Proofs.YtcaehfkfohianaaGreat
namespace Go.Proofs.YtcaehfkfohianaaGreat
open Go.RowKit
def celC {α : Type} (enc : α → List Value) (l : List α) : List Value := (l.map enc).flatten
theorem celC_cons {α : Type} (enc : α → List Value) (x : α) (l : List α) : celC enc (x :: l) = enc x ++ celC enc l := by simp [celC]
theorem celC_app {α : Type} (enc : α → List Value) (l k : List α) : celC enc (l ++ k) = celC enc l ++ celC enc k := by simp [celC]
theorem celC_len {α : Type} {enc : α → List Value} {k : Nat} (hk : ∀ x, (enc x).length = k) (l : List α) : (celC enc l).length = l.length * k := by
 induction l with
 | nil => simp [celC]
 | cons e l ih => rw [celC_cons, List.length_append, ih, hk, List.length_cons, Nat.succ_mul, Nat.add_comm]
theorem celC_get {α : Type} {enc : α → List Value} {k : Nat} (hk : ∀ x, (enc x).length = k) : ∀ (l : List α) (i : Nat) (h : i < l.length) (j : Nat), j < k → (celC enc l)[i * k + j]? = (enc l[i])[j]?
 | [], i, h, j, hj => by simp at h
 | x :: l, 0, h, j, hj => by
  rw [celC_cons, Nat.zero_mul, Nat.zero_add, List.getElem?_append_left (by rw [hk]; exact hj)]
  rfl
 | x :: l, i + 1, h, j, hj => by
  have ih := celC_get hk l i (by simpa using h) j hj;have e : (i + 1) * k + j = k + (i * k + j) := by rw [Nat.add_mul, Nat.one_mul]; omega
  rw [celC_cons, List.getElem?_append_right (by rw [hk]; omega), hk, e, Nat.add_sub_cancel_left, ih]
  rfl
theorem celC_one {α : Type} {enc : α → List Value} (h1 : ∀ x, ∀ u ∈ enc x, u.oneCell' = true) (l : List α) : ∀ u ∈ celC enc l, u.oneCell' = true := by
 intro u hu;unfold celC at hu;rw [List.mem_flatten] at hu;obtain ⟨r, hr, hu⟩ := hu;obtain ⟨e, _, rfl⟩ := List.mem_map.1 hr;exact h1 e u hu
def SGot {α : Type} (k bytes : Nat) (enc : α → List Value) (w : World) (v : Value) (l : List α) : Prop :=
 l.length * bytes ≤ 140737488355328 ∧ ∃ a c, v = .slice a l.length c ∧ (l.length ≤ c ∧ c ≤ maxLen) ∧ (0 < l.length → ∃ b off, a = some ⟨b, off, none⟩ ∧ b < w.heap.size ∧ ∀ j, j < l.length * k → w.cell? ⟨b, off + j, none⟩ = (celC enc l)[j]?)
theorem SGot.nil {α : Type} (k bytes : Nat) (enc : α → List Value) (w : World) (a : Option Addr) (c : Nat) (hc : c ≤ maxLen) : SGot k bytes enc w (.slice a 0 c) [] := ⟨by simp, a, c, rfl, ⟨Nat.zero_le _, hc⟩, fun h => absurd h (by simp)⟩
theorem SGot.keep {α : Type} {k bytes : Nat} {enc : α → List Value} {w w' : World} {v : Value} {l : List α} (h : SGot k bytes enc w v l) (hb : Below w.heap.size w w') : SGot k bytes enc w' v l := by
 obtain ⟨h8, a, c, rfl, hcc, hr⟩ := h;refine ⟨h8, a, c, rfl, hcc, fun hp => ?_⟩;obtain ⟨b, off, rfl, hlt, hc⟩ := hr hp
 exact ⟨b, off, rfl, Nat.lt_of_lt_of_le hlt hb.size, fun j hj => (hb.cell hlt).trans (hc j hj)⟩
theorem SGot.blk {α : Type} {k bytes : Nat} {enc : α → List Value} {w : World} {a : Option Addr} {n c : Nat} {l : List α} (h : SGot k bytes enc w (.slice a n c) l) : 0 < l.length → ∀ b off, a = some ⟨b, off, none⟩ → b < w.heap.size := by
 intro hp b off e;obtain ⟨_, a', c', e', _, hr⟩ := h;simp only [Value.slice.injEq] at e';obtain ⟨b', off', e2, hlt, _⟩ := hr hp;rw [e'.1, e2] at e;simp only [Option.some.injEq, Addr.mk.injEq] at e;rw [← e.1];exact hlt
theorem SGot.slice {α : Type} {k bytes : Nat} {enc : α → List Value} {w : World} {v : Value} {l : List α} (h : SGot k bytes enc w v l) : ∃ a c, v = .slice a l.length c := by
 obtain ⟨_, a, c, e, _⟩ := h
 exact ⟨a, c, e⟩
theorem SGot.cap {α : Type} {k bytes : Nat} {enc : α → List Value} {w : World} {a : Option Addr} {c : Nat} {l : List α} (h : SGot k bytes enc w (.slice a l.length c) l) : l.length ≤ c ∧ c ≤ maxLen := by
 obtain ⟨_, a', c', e, hcc, _⟩ := h;simp only [Value.slice.injEq] at e;rw [e.2.2];exact hcc
theorem own_sgot {α : Type} {k bytes : Nat} {enc : α → List Value} {w : World} {B : Nat} {e : TypeId} {v : Value} {l : List α} (h : w.ownsRow B e k v l.length (celC enc l)) (h8 : l.length * bytes ≤ 140737488355328) : SGot k bytes enc w v l := by
 obtain ⟨_, ⟨rfl, h0⟩ | ⟨g, cap, cur, rfl, hB, hg, hn, hc, hs, ht⟩⟩ := h
 ·rw [List.length_eq_zero_iff] at h0;subst h0;exact SGot.nil _ _ _ _ _ _ (Nat.zero_le _)
 ·refine ⟨h8, _, cap, rfl, ⟨hn, hc⟩, fun _ => ⟨g, 0, rfl, (Array.getElem?_eq_some_iff.1 hg).1, fun j hj => ?_⟩⟩;rw [cell_at hg, Nat.zero_add, ← ht, List.getElem?_take, if_pos (by omega)]
  simp
theorem nil_own {k : Nat} {e : TypeId} (w : World) (B : Nat) : w.ownsRow B e k (.slice none 0 0) 0 [] := World.ownsRow_nil w B e k
theorem own_type {w w' : World} {B B' : Nat} {e e' : TypeId} {z z' n n' : Nat} {v v' : Value} {xs xs' : List Value} (h : w.grownBy w' v.ownBlock) (ho : w.ownsRow B e z v n xs) (ho' : w.ownsRow B' e' z' v' n' xs') (hne : e ≠ e') : w'.ownsRow B' e' z' v' n' xs' := by
 refine ho'.kept h ?_;obtain ⟨_, ⟨rfl, _⟩ | ⟨g, cap, cur, rfl, hg, hc, _⟩⟩ := ho'
 ·exact .inl rfl
 ·refine .inr (fun e => ?_);obtain ⟨_, ⟨rfl, _⟩ | ⟨g2, cap2, cur2, rfl, hg2, hc2, _⟩⟩ := ho
  ·cases e
  ·simp only [Value.ownBlock, Option.some.injEq] at e;subst e;rw [hc] at hc2
   simp at hc2
   exact hne hc2.2.symm
theorem box_type {w w' : World} {B D : Nat} {e t : TypeId} {z n : Nat} {v : Value} {xs : List Value} {cs : Array Value} (h : w.grownBy w' v.ownBlock) (ho : w.ownsRow B e z v n xs) (hd : w.heap[D]? = some (.cells cs t (0, 0))) (hne : e ≠ t) : w'.heap[D]? = some (.cells cs t (0, 0)) := by
 refine (h.block D (Array.getElem?_eq_some_iff.1 hd).1 (fun e => ?_)).trans hd;obtain ⟨_, ⟨rfl, _⟩ | ⟨g2, cap2, cur2, rfl, hg2, hc2, _⟩⟩ := ho
 ·cases e
 ·simp only [Value.ownBlock, Option.some.injEq] at e;subst e;rw [hd] at hc2
  simp at hc2
  exact hne hc2.2.symm
theorem own_cell {w : World} {B D j : Nat} {e t : TypeId} {z n : Nat} {v u : Value} {xs : List Value} {cs : Array Value} (ho : w.ownsRow B e z v n xs) (hd : w.heap[D]? = some (.cells cs t (0, 0))) (hne : e ≠ t) : (w.setCell ⟨D, j, none⟩ u).ownsRow B e z v n xs := by
 obtain ⟨h1, hn | ⟨g, cap, cur, hv, hb, hg, rest⟩⟩ := ho
 ·exact ⟨h1, .inl hn⟩
 ·refine ⟨h1, .inr ⟨g, cap, cur, hv, hb, (heap_set_other _ _ _ _ _ (fun e => ?_)).trans hg, rest⟩⟩;rw [e, hd] at hg
  simp at hg
  exact hne hg.2.symm
theorem ty_ne {W : World} {b k : Nat} {cs cur : Array Value} {t e : TypeId} (h : W.heap[b]? = some (.cells cs t (0, 0))) (hg : W.heap[k]? = some (.cells cur e (0, 0))) (hne : t ≠ e) : b ≠ k := by
 rintro rfl;rw [h] at hg
 simp at hg
 exact hne hg.2
theorem grown_row {W w w' : World} {B : Nat} {e : TypeId} {z n : Nat} {v : Value} {xs : List Value} (h : w.grownBy w' v.ownBlock) (ho : w.ownsRow B e z v n xs) (hB : W.heap.size ≤ B) (hb : Below W.heap.size W w) : Below W.heap.size W w' :=
 below_out hb (Out.ofGrown (F := fun k => W.heap.size ≤ k) h (fun k hk => by have := ho.lt k hk; omega)) (fun _ h => h)
theorem app1 {α : Type} {k bytes : Nat} {enc : α → List Value} {t e : TypeId} {z : Value} (hk : ∀ x, (enc x).length = k) (h1 : ∀ x, ∀ u ∈ enc x, u.oneCell' = true) (ht : Tryz.prog.underlying t = some (.slice e))
  (hi : (Tryz.prog.info? e).map (fun i => (i.zero, i.size, i.bytes)) = some (some z, k, bytes)) (hz : z.cells.size = k) (hk0 : 0 < k) (w : World) (B : Nat) (v : Value) (l : List α) (x : α) (b c : Nat) (hB : B ≤ w.heap.size)
  (ho : w.ownsRow B e k v l.length (celC enc l)) (hc : w.heap[b]? = some (.cells (enc x).toArray e (0, 0))) (hl : (l.length + 1) * bytes ≤ 140737488355328) (hm : l.length + 1 ≤ maxLen) :
  ∃ v' w', (Builtin.append_ #[t, t] t #[v, .slice (some ⟨b, 0, none⟩) 1 c]).run Tryz.prog w = .ok v' w' ∧ w'.ownsRow B e k v' (l ++ [x]).length (celC enc (l ++ [x])) ∧ w.grownBy w' v.ownBlock := by
 obtain ⟨i, hi, hz0, hz1, hz2⟩ := info_parts hi;obtain ⟨v', w', r1, r2, r3, _⟩ := run_append_own (P := Tryz.prog) w B t t e i _ k bytes ht hi hz0 hz1 hz2 hz hk0 v l.length (celC enc l) ho ⟨b, 0, none⟩ 1 c (enc x) (by rw [hk, Nat.one_mul]) (fun j u hu => by
  rw [addN, cell_at hc, Nat.zero_add]
  simpa using hu) (h1 x) hm hl hB
 refine ⟨v', w', r1, ?_, r3⟩;rw [List.length_append, celC_app, show celC enc [x] = enc x by simp [celC]];exact r2
structure MsgX where
 m : MsgW
 a : Option Addr
 c : Nat
structure RecX where
 r : RecV
 a : Option Addr
 c : Nat
def msgE (x : MsgX) : List Value := [.int .i64 x.m.kind, .int .i64 x.m.frm, .int .i64 x.m.dst, .int .i64 x.m.term, .int .i64 x.m.pi, .int .i64 x.m.pt, .slice x.a x.m.es.length x.c, .int .i64 x.m.cm, .bool x.m.ok, .int .i64 x.m.mtch, .int .i64 x.m.si, .int .i64 x.m.st, .string x.m.tx]
def recE (x : RecX) : List Value := [.int .i64 x.r.kind, .int .i64 x.r.ht, .int .i64 x.r.hv, .int .i64 x.r.at_, .slice x.a x.r.es.length x.c, .int .i64 x.r.si, .int .i64 x.r.st, .string x.r.tx]
theorem msgK (x : MsgX) : (msgE x).length = 13 := rfl
theorem recK (x : RecX) : (recE x).length = 8 := rfl
theorem msg1 (x : MsgX) : ∀ u ∈ msgE x, u.oneCell' = true := by
 intro u hu;simp only [msgE, List.mem_cons, List.not_mem_nil, or_false] at hu
 rcases hu with rfl | rfl | rfl | rfl | rfl | rfl | rfl | rfl | rfl | rfl | rfl | rfl | rfl <;> rfl
theorem rec1 (x : RecX) : ∀ u ∈ recE x, u.oneCell' = true := by
 intro u hu;simp only [recE, List.mem_cons, List.not_mem_nil, or_false] at hu
 rcases hu with rfl | rfl | rfl | rfl | rfl | rfl | rfl | rfl <;> rfl
structure EntO (B : Nat) (w : World) (a : Option Addr) (c : Nat) (l : List EntV) : Prop where
 o : w.ownsRow B 55 3 (.slice a l.length c) l.length (entC l)
 s : l.length ≤ 1000000
theorem EntO.keep {B : Nat} {w w' : World} {a : Option Addr} {c : Nat} {l : List EntV} (h : EntO B w a c l) (hb : Below w.heap.size w w') : EntO B w' a c l := ⟨own_keep h.o hb, h.s⟩
theorem EntO.cell {B D j : Nat} {w : World} {a : Option Addr} {c : Nat} {l : List EntV} {cs : Array Value} {t : TypeId} {u : Value} (h : EntO B w a c l) (hd : w.heap[D]? = some (.cells cs t (0, 0))) (h1 : (55 : TypeId) ≠ t) : EntO B (w.setCell ⟨D, j, none⟩ u) a c l := ⟨own_cell h.o hd h1, h.s⟩
theorem EntO.kept {w w' : World} {B B2 : Nat} {e : TypeId} {z n : Nat} {v : Value} {xs : List Value} {a : Option Addr} {c : Nat} {l : List EntV} (k : EntO B2 w a c l) (h : w.grownBy w' v.ownBlock) (ho : w.ownsRow B e z v n xs) (h1 : e ≠ 55) : EntO B2 w' a c l := ⟨own_type h ho k.o h1, k.s⟩
theorem EntO.nil (B : Nat) (w : World) : EntO B w none 0 [] := ⟨nil_own w B, by simp⟩
structure WkX where
 d : NodeV
 ba : Option Addr
 bc : Nat
 la : Option Addr
 lc : Nat
 na : Option Addr
 nc : Nat
 ma : Option Addr
 mc : Nat
 R : List RecX
 ra : Option Addr
 rc : Nat
 M : List MsgX
 qa : Option Addr
 qc : Nat
 ix : Int
 wt : Bool
def WkX.v (X : WkX) : WkV := ⟨X.d, X.R.map RecX.r, X.M.map MsgX.m, X.ix, X.wt⟩
def WkX.gb (X : WkX) : Value := .slice X.ba X.d.b.l.length X.bc
def WkX.gl (X : WkX) : Value := .slice X.la X.d.L.l.length X.lc
def WkX.gn (X : WkX) : Value := .slice X.na X.d.nx.length X.nc
def WkX.gm (X : WkX) : Value := .slice X.ma X.d.mt.length X.mc
def wkA (X : WkX) : Array Value := #[.int .i64 X.d.me, .int .i64 X.d.n, .int .i64 X.d.b.t, .int .i64 X.d.b.v, .int .i64 X.d.b.r, .slice X.ba X.d.b.l.length X.bc, .int .i64 X.d.ld, .int .i64 X.d.L.bi, .int .i64 X.d.L.bt, .slice X.la X.d.L.l.length X.lc, .int .i64 X.d.L.cm, .string X.d.tx, .slice X.na X.d.nx.length X.nc, .slice X.ma X.d.mt.length X.mc, .slice X.ra X.R.length X.rc, .slice X.qa X.M.length X.qc, .int .i64 X.ix, .bool X.wt]
structure WR (B : Nat) (wx : World) (X : WkX) : Prop where
 nd : NodeOwn B wx X.d X.gb X.gl X.gn X.gm
 rs : wx.ownsRow B 63 8 (.slice X.ra X.R.length X.rc) X.R.length (celC recE X.R)
 ro : ∀ x ∈ X.R, EntO B wx x.a x.c x.r.es
 ms : wx.ownsRow B 50 13 (.slice X.qa X.M.length X.qc) X.M.length (celC msgE X.M)
 mo : ∀ x ∈ X.M, EntO B wx x.a x.c x.m.es
 nm : X.gn.ownBlock = none ∨ X.gn.ownBlock ≠ X.gm.ownBlock
 nb : X.gn.ownBlock = none ∨ X.gn.ownBlock ≠ X.gb.ownBlock
 mb : X.gm.ownBlock = none ∨ X.gm.ownBlock ≠ X.gb.ownBlock
 sb : X.d.b.l.length ≤ 1000000
 sl : X.d.L.l.length ≤ 1000000
 sn : X.d.nx.length ≤ 1000000
 sm : X.d.mt.length ≤ 1000000
 st : X.d.tx.size ≤ 60000
 sr : X.R.length ≤ 1000000
 sq : X.M.length ≤ 1000000
theorem WR.keep {B : Nat} {wx wy : World} {X : WkX} (h : WR B wx X) (hb : Below wx.heap.size wx wy) : WR B wy X :=
 ⟨h.nd.keep hb, own_keep h.rs hb, fun x hx => (h.ro x hx).keep hb, own_keep h.ms hb, fun x hx => (h.mo x hx).keep hb, h.nm, h.nb, h.mb, h.sb, h.sl, h.sn, h.sm, h.st, h.sr, h.sq⟩
theorem WR.cell {B D j : Nat} {wx : World} {X : WkX} {cs : Array Value} {t : TypeId} {u : Value} (h : WR B wx X) (hd : wx.heap[D]? = some (.cells cs t (0, 0))) (h1 : (3 : TypeId) ≠ t) (h2 : (55 : TypeId) ≠ t) (h3 : (63 : TypeId) ≠ t) (h4 : (50 : TypeId) ≠ t) : WR B (wx.setCell ⟨D, j, none⟩ u) X :=
 ⟨⟨own_cell h.nd.b hd h1, own_cell h.nd.l hd h2, own_cell h.nd.n hd h1, own_cell h.nd.m hd h1⟩, own_cell h.rs hd h3, fun x hx => (h.ro x hx).cell hd h2, own_cell h.ms hd h4, fun x hx => (h.mo x hx).cell hd h2, h.nm, h.nb, h.mb, h.sb, h.sl, h.sn, h.sm, h.st, h.sr, h.sq⟩
structure WK (w : World) (K : Nat) (X : WkX) (wx : World) : Prop where
 box : wx.heap[K]? = some (.cells (wkA X) 78 (0, 0))
 rows : WR w.heap.size wx X
 hK : w.heap.size ≤ K
 bel : Below w.heap.size w wx
theorem WK.keep {w wx wy : World} {K : Nat} {X : WkX} (h : WK w K X wx) (hb : Below wx.heap.size wx wy) : WK w K X wy := ⟨blkK h.box hb, h.rows.keep hb, h.hK, below_via h.bel hb⟩
theorem WK.put {w wx : World} {K : Nat} {X Y : WkX} (h : WK w K X wx) (j : Nat) (u : Value) (he : (wkA X).setIfInBounds j u = wkA Y) (hr : WR w.heap.size wx Y) : WK w K Y (wx.setCell ⟨K, j, none⟩ u) :=
 ⟨he ▸ heap_set h.box j u, hr.cell h.box (by decide) (by decide) (by decide) (by decide), h.hK, belowSet u h.bel h.hK⟩
theorem WR.tell {B : Nat} {wx w' : World} {X : WkX} {a : Option Addr} {c : Nat} (h : WR B wx X) (x : MsgX) (hg : wx.grownBy w' (Value.slice X.qa X.M.length X.qc).ownBlock) (hx : EntO B wx x.a x.c x.m.es) (ho : w'.ownsRow B 50 13 (.slice a (X.M ++ [x]).length c) (X.M ++ [x]).length (celC msgE (X.M ++ [x]))) (hs : X.M.length < 1000000) : WR B w' {X with M := X.M ++ [x], qa := a, qc := c} :=
 ⟨⟨own_type hg h.ms h.nd.b (by decide), own_type hg h.ms h.nd.l (by decide), own_type hg h.ms h.nd.n (by decide), own_type hg h.ms h.nd.m (by decide)⟩, own_type hg h.ms h.rs (by decide), fun y hy => (h.ro y hy).kept hg h.ms (by decide), ho, fun y hy => by
  rw [List.mem_append, List.mem_singleton] at hy
  rcases hy with hy | rfl
  ·exact (h.mo y hy).kept hg h.ms (by decide)
  ·exact hx.kept hg h.ms (by decide), h.nm, h.nb, h.mb, h.sb, h.sl, h.sn, h.sm, h.st, h.sr, by rw [List.length_append]; exact hs⟩
theorem WR.addR {B : Nat} {wx w' : World} {X : WkX} {a : Option Addr} {c : Nat} (h : WR B wx X) (x : RecX) (hg : wx.grownBy w' (Value.slice X.ra X.R.length X.rc).ownBlock) (hx : EntO B wx x.a x.c x.r.es) (ho : w'.ownsRow B 63 8 (.slice a (X.R ++ [x]).length c) (X.R ++ [x]).length (celC recE (X.R ++ [x]))) (hs : X.R.length < 1000000) : WR B w' {X with R := X.R ++ [x], ra := a, rc := c} :=
 ⟨⟨own_type hg h.rs h.nd.b (by decide), own_type hg h.rs h.nd.l (by decide), own_type hg h.rs h.nd.n (by decide), own_type hg h.rs h.nd.m (by decide)⟩, ho, fun y hy => by
  rw [List.mem_append, List.mem_singleton] at hy
  rcases hy with hy | rfl
  ·exact (h.ro y hy).kept hg h.rs (by decide)
  ·exact hx.kept hg h.rs (by decide), own_type hg h.rs h.ms (by decide), fun y hy => (h.mo y hy).kept hg h.rs (by decide), h.nm, h.nb, h.mb, h.sb, h.sl, h.sn, h.sm, h.st, by rw [List.length_append]; exact hs, h.sq⟩
theorem at18 {w : World} {p : Nat} {ty : TypeId} {z0 z1 z2 z3 z4 z5 z6 z7 z8 z9 z10 z11 z12 z13 z14 z15 z16 z17 : Value} (h : w.heap[p]? = some (.cells #[z0, z1, z2, z3, z4, z5, z6, z7, z8, z9, z10, z11, z12, z13, z14, z15, z16, z17] ty (0, 0))) : (w.cell? ⟨p, 0, none⟩ = some z0 ∧ w.cell? ⟨p, 1, none⟩ = some z1 ∧ w.cell? ⟨p, 2, none⟩ = some z2 ∧ w.cell? ⟨p, 3, none⟩ = some z3 ∧ w.cell? ⟨p, 4, none⟩ = some z4 ∧ w.cell? ⟨p, 5, none⟩ = some z5 ∧ w.cell? ⟨p, 6, none⟩ = some z6 ∧ w.cell? ⟨p, 7, none⟩ = some z7 ∧ w.cell? ⟨p, 8, none⟩ = some z8 ∧ w.cell? ⟨p, 9, none⟩ = some z9 ∧ w.cell? ⟨p, 10, none⟩ = some z10 ∧ w.cell? ⟨p, 11, none⟩ = some z11 ∧ w.cell? ⟨p, 12, none⟩ = some z12 ∧ w.cell? ⟨p, 13, none⟩ = some z13 ∧ w.cell? ⟨p, 14, none⟩ = some z14 ∧ w.cell? ⟨p, 15, none⟩ = some z15 ∧ w.cell? ⟨p, 16, none⟩ = some z16 ∧ w.cell? ⟨p, 17, none⟩ = some z17) ∧ (∀ j, w.frozen? ⟨p, j, none⟩ = false) ∧ p < w.heap.size :=
 ⟨⟨by rw [Tm.cell_at h]; rfl, by rw [Tm.cell_at h]; rfl, by rw [Tm.cell_at h]; rfl, by rw [Tm.cell_at h]; rfl, by rw [Tm.cell_at h]; rfl, by rw [Tm.cell_at h]; rfl, by rw [Tm.cell_at h]; rfl, by rw [Tm.cell_at h]; rfl, by rw [Tm.cell_at h]; rfl, by rw [Tm.cell_at h]; rfl, by rw [Tm.cell_at h]; rfl, by rw [Tm.cell_at h]; rfl, by rw [Tm.cell_at h]; rfl, by rw [Tm.cell_at h]; rfl, by rw [Tm.cell_at h]; rfl, by rw [Tm.cell_at h]; rfl, by rw [Tm.cell_at h]; rfl, by rw [Tm.cell_at h]; rfl⟩, fun j => Tm.free_at h j, (Array.getElem?_eq_some_iff.1 h).1⟩
theorem WR.at_ {B : Nat} {wx : World} {X : WkX} (h : WR B wx X) : Tm.GotAt wx X.gb X.d.b.l ∧ EGot wx X.gl X.d.L.l :=
 ⟨Tm.own_got h.nd.b (by have := h.sb; omega), own_egot h.nd.l (by have := h.sl; omega)⟩
set_option maxHeartbeats 1000000 in
theorem leadsW_is {X : WkX} {K : Nat} {wx : World} (h : wx.heap[K]? = some (.cells (wkA X) 78 (0, 0))) : Calls Tryz.prog 87 #[.pointer (some ⟨K, 0, none⟩)] wx fun e w' => e = .returned (.bool (decide (X.d.b.r = 3))) ∧ w' = wx := by
 obtain ⟨⟨k0, k1, k2, k3, k4, k5, k6, k7, k8, k9, k10, k11, k12, k13, k14, k15, k16, k17⟩, kf, kz⟩ := at18 h
 by_cases hr : X.d.b.r = 3
 ·have hb : (X.d.b.r == 3) = true := beq_iff_eq.2 hr
  go_enter Tryz.func87, Tryz.ntmps87
  go_wp2;go_ret
  exact ⟨by rw [decide_eq_true hr]; rfl, rfl⟩
 ·have hb : (X.d.b.r == 3) = false := beq_eq_false_iff_ne.2 hr
  go_enter Tryz.func87, Tryz.ntmps87
  go_wp2;go_ret
  exact ⟨by rw [decide_eq_false hr]; rfl, rfl⟩
set_option maxHeartbeats 1000000 in
theorem termW_is {X : WkX} {K : Nat} {wx : World} (h : wx.heap[K]? = some (.cells (wkA X) 78 (0, 0))) : Calls Tryz.prog 94 #[.pointer (some ⟨K, 0, none⟩)] wx fun e w' => e = .returned (.int .i64 X.d.b.t) ∧ w' = wx := by
 obtain ⟨⟨k0, k1, k2, k3, k4, k5, k6, k7, k8, k9, k10, k11, k12, k13, k14, k15, k16, k17⟩, kf, kz⟩ := at18 h
 go_enter Tryz.func94, Tryz.ntmps94
 go_wp2;go_ret
 exact ⟨rfl, rfl⟩
set_option maxRecDepth 100000 in
set_option maxHeartbeats 4000000 in
theorem lastW_is {X : WkX} {K : Nat} {w wx : World} (h : WK w K X wx) : Calls Tryz.prog 95 #[.pointer (some ⟨K, 0, none⟩)] wx fun e w' => e = .returned (.int .i64 (lastL X.d.L).1) ∧ Below wx.heap.size wx w' := by
 obtain ⟨⟨k0, k1, k2, k3, k4, k5, k6, k7, k8, k9, k10, k11, k12, k13, k14, k15, k16, k17⟩, kf, kz⟩ := at18 h.box;have HL := hideIt (last_is X.d.L X.gl wx h.rows.at_.2);have hfs := fun W => fldSpot (lastL X.d.L).1 (lastL X.d.L).2 W
 clear h;unfold logV logA WkX.gl at HL;generalize (lastL X.d.L).1 = last at *;generalize (lastL X.d.L).2 = lastT at *
 go_enter Tryz.func95, Tryz.ntmps95
 go_wp2_with fail
 refine HL.out.mono ?_;rintro e w1 ⟨rfl, hb⟩;dsimp only;have HB := hideIt hb;have hfw := hfs w1;clear hb hfs k0 k1 k2 k3 k4 k5 k6 k7 k8 k9 k10 k11 k12 k13 k14 k15 k16 k17 kf kz;go_wp2;go_ret
 exact ⟨rfl, HB.out⟩
theorem step_run {ops : Array Oper} {o : Oper} {a : Act} {w : World} {K : Act → World → Prop} {Q : Exit → Act → World → Prop} {E : Prop}
  (hg : o.guard = none) (s x : Operand) (t ty : TypeId) (hop : o.op = Op.call { callee := Callee.builtin Builtin.append, args := #[s, x], argTypes := #[t, t] }) (hty : o.type = ty) {v1 v2 v' : Value} {w' : World} (hs : a.eval s = v1) (hx : a.eval x = v2)
  (hrun : (Builtin.append_ #[t, t] ty #[v1, v2]).run Tryz.prog w = .ok v' w') (hK : K (a.put o.dst v') w') : if Region.wanted o (yielded ops a.tmps) = true then Oper.wp Tryz.prog o a w K Q else E := by
 have hw : Region.wanted o (yielded ops a.tmps) = true := by simp [Region.wanted, hg]
 rw [if_pos hw];subst hty;unfold Oper.wp
 simp [execOp, hop, resolve, invoke, builtin, hs, hx, hrun, Result.andThen]
 exact hK
theorem at13 {w : World} {p : Nat} {ty : TypeId} {z0 z1 z2 z3 z4 z5 z6 z7 z8 z9 z10 z11 z12 : Value} (h : w.heap[p]? = some (.cells #[z0, z1, z2, z3, z4, z5, z6, z7, z8, z9, z10, z11, z12] ty (0, 0))) : (w.cell? ⟨p, 0, none⟩ = some z0 ∧ w.cell? ⟨p, 1, none⟩ = some z1 ∧ w.cell? ⟨p, 2, none⟩ = some z2 ∧ w.cell? ⟨p, 3, none⟩ = some z3 ∧ w.cell? ⟨p, 4, none⟩ = some z4 ∧ w.cell? ⟨p, 5, none⟩ = some z5 ∧ w.cell? ⟨p, 6, none⟩ = some z6 ∧ w.cell? ⟨p, 7, none⟩ = some z7 ∧ w.cell? ⟨p, 8, none⟩ = some z8 ∧ w.cell? ⟨p, 9, none⟩ = some z9 ∧ w.cell? ⟨p, 10, none⟩ = some z10 ∧ w.cell? ⟨p, 11, none⟩ = some z11 ∧ w.cell? ⟨p, 12, none⟩ = some z12) ∧ (∀ j, w.frozen? ⟨p, j, none⟩ = false) ∧ p < w.heap.size :=
 ⟨⟨by rw [Tm.cell_at h]; rfl, by rw [Tm.cell_at h]; rfl, by rw [Tm.cell_at h]; rfl, by rw [Tm.cell_at h]; rfl, by rw [Tm.cell_at h]; rfl, by rw [Tm.cell_at h]; rfl, by rw [Tm.cell_at h]; rfl, by rw [Tm.cell_at h]; rfl, by rw [Tm.cell_at h]; rfl, by rw [Tm.cell_at h]; rfl, by rw [Tm.cell_at h]; rfl, by rw [Tm.cell_at h]; rfl, by rw [Tm.cell_at h]; rfl⟩, fun j => Tm.free_at h j, (Array.getElem?_eq_some_iff.1 h).1⟩
theorem infoMsg : (Tryz.prog.info? 50).map (fun i => (i.zero, i.size, i.bytes)) = some (some (.agg #[.int .i64 0, .int .i64 0, .int .i64 0, .int .i64 0, .int .i64 0, .int .i64 0, .slice none 0 0, .int .i64 0, .bool false, .int .i64 0, .int .i64 0, .int .i64 0, .string ⟨#[]⟩]), 13, 128) := by kernel_rfl
theorem tell_app {X : WkX} {K : Nat} {w wx : World} (h : WK w K X wx) (x : MsgX) (hx : EntO w.heap.size wx x.a x.c x.m.es) (hs : X.M.length < 1000000) : ∃ a c w', (Builtin.append_ #[44, 44] 44 #[.slice X.qa X.M.length X.qc, .slice (some ⟨wx.heap.size, 0, none⟩) 1 1]).run Tryz.prog (wx.alloc (.cells (msgE x).toArray 50)).drew = .ok (.slice a (X.M.length + 1) c) w' ∧ Hid (w'.heap[K]? = some (.cells (wkA X) 78 (0, 0)) ∧ WK w K {X with M := X.M ++ [x], qa := a, qc := c} (w'.setCell ⟨K, 15, none⟩ (.slice a (X.M.length + 1) c))) := by
 have h1 := h.keep (below1 wx (.cells (msgE x).toArray 50)).drew;have hk := (Array.getElem?_eq_some_iff.1 h.box).1;obtain ⟨v', w', hrun, how, hgr⟩ := app1 (enc := msgE) (t := 44) msgK msg1 Tryz.underlying44 infoMsg rfl (by omega) (wx.alloc (.cells (msgE x).toArray 50)).drew w.heap.size (.slice X.qa X.M.length X.qc) X.M x wx.heap.size 1 h1.bel.size h1.rows.ms (heap_alloc_new wx _) (by omega) (by unfold maxLen; omega)
 obtain ⟨a', c', rfl⟩ := own_len how;have hlen : (X.M ++ [x]).length = X.M.length + 1 := by simp
 have hbox := box_type hgr h1.rows.ms h1.box (by decide);refine ⟨a', c', w', by rw [← hlen]; exact hrun, hideIt ⟨hbox, ?_⟩⟩
 have hr := h1.rows.tell x hgr (hx.keep (below1 wx _).drew) how hs;have hh := heap_set hbox 15 (.slice a' (X.M.length + 1) c');refine ⟨?_, hr.cell hbox (by decide) (by decide) (by decide) (by decide), h.hK, belowSet _ (below_out h1.bel (Out.ofGrown (F := fun k => w.heap.size ≤ k) hgr (fun k hk => (h1.rows.ms.lt k hk).1)) (fun _ h => h)) h.hK⟩;rw [hh];unfold wkA;simp only [hlen]
 rfl
set_option maxRecDepth 100000 in
set_option maxHeartbeats 4000000 in
theorem tell_is {X : WkX} {K : Nat} {w wx : World} (h : WK w K X wx) (x : MsgX) (hx : EntO w.heap.size wx x.a x.c x.m.es) (hs : X.M.length < 1000000) : Calls Tryz.prog 130 #[.pointer (some ⟨K, 0, none⟩), .agg (msgE x).toArray] wx fun e w' => ∃ a c, e = .returned (.tuple #[]) ∧ WK w K {X with M := X.M ++ [⟨{x.m with frm := X.d.me, term := X.d.b.t}, x.a, x.c⟩], qa := a, qc := c} w' := by
 have HX := hideIt h;have HB := hideIt (And.intro (heap_alloc_new wx (.cells (msgE x).toArray 50)) (below1 wx (.cells (msgE x).toArray 50)));have HT := hideIt (fun (W : World) (hW : W.heap[K]? = some (.cells (wkA X) 78 (0, 0))) => termW_is hW);have hk := (Array.getElem?_eq_some_iff.1 h.box).1;have hKP : K ≠ wx.heap.size := by omega
 have HK := hideIt (blkK h.box HB.out.2);clear h;unfold msgE at *
 go_enter Tryz.func130, Tryz.ntmps130
 go_upto_region 1 with fail
 generalize (World.alloc wx _) = W0 at *;obtain ⟨⟨k0, k1, k2, k3, k4, k5, k6, k7, k8, k9, k10, k11, k12, k13, k14, k15, k16, k17⟩, kf, kz⟩ := at18 HK.out;have pf : ∀ j, W0.frozen? ⟨wx.heap.size, j, none⟩ = false := fun j => Tm.free_at HB.out.1 j
 have pz := (Array.getElem?_eq_some_iff.1 HB.out.1).1;have p1 : W0.cell? ⟨wx.heap.size, 1, none⟩ = some (.int .i64 x.m.frm) := by rw [Tm.cell_at HB.out.1]; rfl
 have p3 : W0.cell? ⟨wx.heap.size, 3, none⟩ = some (.int .i64 x.m.term) := by rw [Tm.cell_at HB.out.1]; rfl
 go_cut [] from 4 to 12 (fun wy => Hid (wy.heap[wx.heap.size]? = some (.cells (msgE ⟨{x.m with frm := X.d.me, term := X.d.b.t}, x.a, x.c⟩).toArray 50 (0, 0)) ∧ Below wx.heap.size wx wy))
 case first =>
  go_region_with (first | (go_at_call 94; refine (HT.out _ (by first | exact HK.out | exact setOther (w := W0.drew) _ HK.out hKP)).mono ?_; rintro e w5 ⟨rfl, rfl⟩))
  all_goals go_wp2_with fail
  all_goals go_meet
  all_goals first
   | exact hideIt ⟨heap_set (heap_set HB.out.1 1 _) 3 _, (belowSet _ (belowSet _ HB.out.2 (Nat.le_refl _)) (Nat.le_refl _)).drew⟩
   | exact hideIt ⟨heap_set (heap_set HB.out.1 3 _) 1 _, (belowSet _ (belowSet _ HB.out.2 (Nat.le_refl _)) (Nat.le_refl _)).drew⟩
 case rest =>
  have HCUT := hideIt hcut.out;clear k0 k1 k2 k3 k4 k5 k6 k7 k8 k9 k10 k11 k12 k13 k14 k15 k16 k17 kf kz pf pz p1 p3 HB HT HK;have hcs := HCUT.out.2.size;have HM := hideIt (HX.out.keep HCUT.out.2);have hM := HX.out.rows.sq;obtain ⟨a', c', w2, hrun, HW⟩ := tell_app HM.out ⟨{x.m with frm := X.d.me, term := X.d.b.t}, x.a, x.c⟩ (hx.keep HCUT.out.2) hs;obtain ⟨⟨k0, k1, k2, k3, k4, k5, k6, k7, k8, k9, k10, k11, k12, k13, k14, k15, k16, k17⟩, kf, kz⟩ := at18 HM.out.box;obtain ⟨⟨m0, m1, m2, m3, m4, m5, m6, m7, m8, m9, m10, m11, m12⟩, mf, mz⟩ := at13 HCUT.out.1;obtain ⟨⟨-, -, -, -, -, -, -, -, -, -, -, -, -, -, -, q15, -, -⟩, qf, qz⟩ := at18 HW.out.1;unfold msgE at hrun;dsimp only at hrun;have HRUN := hideIt hrun;clear hrun HX hx hs hM
  go_upto_region 2 with fail
  go_region_law (refine step_run rfl _ _ 44 44 rfl rfl rfl rfl HRUN.out ?_)
  all_goals go_end0
  all_goals exact ⟨_, _, rfl, HW.out.2⟩
set_option maxRecDepth 100000 in
set_option maxHeartbeats 4000000 in
theorem poll_is {X : WkX} {K : Nat} {w wx : World} (h : WK w K X wx) (k : Int) (hs : X.M.length < 1000000) : Calls Tryz.prog 92 #[.pointer (some ⟨K, 0, none⟩), .int .i64 k] wx fun e w' => ∃ a c, e = .returned (.tuple #[]) ∧ WK w K {X with M := X.M ++ [⟨{msg0 1 k with frm := X.d.me, term := X.d.b.t, pi := (lastL X.d.L).1, pt := (lastL X.d.L).2}, none, 0⟩], qa := a, qc := c} w' := by
 obtain ⟨⟨k0, k1, k2, k3, k4, k5, k6, k7, k8, k9, k10, k11, k12, k13, k14, k15, k16, k17⟩, kf, kz⟩ := at18 h.box;have HL := hideIt (last_is X.d.L X.gl wx h.rows.at_.2);have HT := hideIt (fun W (hW : Below wx.heap.size wx W) => tell_is (h.keep hW) ⟨{msg0 1 k with pi := (lastL X.d.L).1, pt := (lastL X.d.L).2}, none, 0⟩ (EntO.nil _ _) hs);clear h hs;unfold logV logA WkX.gl at HL;unfold msgE msg0 noT at HT;simp only [List.length_nil] at HT;generalize (lastL X.d.L).1 = last at *;generalize (lastL X.d.L).2 = lastT at *
 go_enter Tryz.func92, Tryz.ntmps92
 go_wp2_with fail
 refine HL.out.mono ?_;rintro e w1 ⟨rfl, hb⟩;dsimp only;have HT1 := hideIt (HT.out w1 hb);clear hb HT HL k0 k1 k2 k3 k4 k5 k6 k7 k8 k9 k10 k11 k12 k13 k14 k15 k16 k17 kf kz
 go_wp2_with fail
 refine HT1.out.mono ?_;rintro e w2 ⟨a, c, rfl, hw⟩;dsimp only;have HW := hideIt hw;clear hw HT1;go_wp2
 go_end0
 exact ⟨a, c, rfl, HW.out⟩
set_option maxRecDepth 100000 in
set_option maxHeartbeats 4000000 in
theorem snapV_is {X : WkX} {K : Nat} {w wx : World} (h : WK w K X wx) : Calls Tryz.prog 131 #[.pointer (some ⟨K, 0, none⟩)] wx fun e w' => e = .returned (.agg #[.int .i64 X.d.L.bi, .int .i64 X.d.L.bt, .string X.d.tx]) ∧ Below wx.heap.size wx w' := by
 have HX := hideIt (h.keep (below1 wx (.cells #[.int .i64 0, .int .i64 0, .string ⟨#[]⟩] 27)));have HB := hideIt (And.intro (heap_alloc_new wx (.cells #[.int .i64 0, .int .i64 0, .string ⟨#[]⟩] 27)) (below1 wx (.cells #[.int .i64 0, .int .i64 0, .string ⟨#[]⟩] 27)));have hk := (Array.getElem?_eq_some_iff.1 h.box).1;have hKP : K ≠ wx.heap.size := by omega
 clear h
 go_enter Tryz.func131, Tryz.ntmps131
 go_upto_region 1 with fail
 generalize (World.alloc wx _) = W0 at *;obtain ⟨⟨k0, k1, k2, k3, k4, k5, k6, k7, k8, k9, k10, k11, k12, k13, k14, k15, k16, k17⟩, kf, kz⟩ := at18 HX.out.box;have pf : ∀ j, W0.frozen? ⟨wx.heap.size, j, none⟩ = false := fun j => Tm.free_at HB.out.1 j
 have pz := (Array.getElem?_eq_some_iff.1 HB.out.1).1;have p0 : W0.cell? ⟨wx.heap.size, 0, none⟩ = some (.int .i64 0) := by rw [Tm.cell_at HB.out.1]; rfl
 have p1 : W0.cell? ⟨wx.heap.size, 1, none⟩ = some (.int .i64 0) := by rw [Tm.cell_at HB.out.1]; rfl
 have p2 : W0.cell? ⟨wx.heap.size, 2, none⟩ = some (.string ⟨#[]⟩) := by rw [Tm.cell_at HB.out.1]; rfl
 have h0 := heap_set HB.out.1 0 (.int .i64 X.d.L.bi);have h1 := heap_set h0 1 (.int .i64 X.d.L.bt);have HF := hideIt (And.intro (heap_set h1 2 (.string X.d.tx)) (belowSet (b := wx.heap.size) (j := 2) (.string X.d.tx) (belowSet (b := wx.heap.size) (j := 1) (.int .i64 X.d.L.bt) (belowSet (b := wx.heap.size) (j := 0) (.int .i64 X.d.L.bi) HB.out.2 (Nat.le_refl _)) (Nat.le_refl _)) (Nat.le_refl _)));clear h0 h1 HX HB
 go_region
 go_wp2;generalize (World.setCell _ ⟨wx.heap.size, 2, none⟩ _) = W9 at *;have e1 := HF.out.1;have e2 := HF.out.2;clear HF;exact bodyPost_ret (v := .agg #[.int .i64 X.d.L.bi, .int .i64 X.d.L.bt, .string X.d.tx]) (by simp [results, Tryz.results131, go_sem, Tm.cell_at (w := W9.drew) e1]) rfl ⟨rfl, e2.drew⟩
end Go.Proofs.YtcaehfkfohianaaGreat
