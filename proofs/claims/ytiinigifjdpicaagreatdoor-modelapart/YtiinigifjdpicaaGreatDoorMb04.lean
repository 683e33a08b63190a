/- Texts of my own, laid together. -/
import Derived.Test.YtiinigifjdpicaaGreatDoorMb03
import Derived.Lib.AppendZeros
namespace Go.Proofs.YtiinigifjdpicaaGreatDoor.Se
open Go.RowKit
set_option linter.all false
theorem ref_ok {T : TabV} {k : KeyV} {t : TxnV} (h : refE T k t = 0) : chkB T = true ∧ keyB k = true ∧ namB t = true := by
 unfold refE at h
 split at h
 ·rename_i h1
  split at h
  ·rename_i h2
   rw [Bool.and_eq_true] at h2
   exact ⟨h1, h2.1, h2.2⟩
  ·omega
 ·omega
theorem chk_len {T : TabV} (h : chkB T = true) : T.held.length + T.wait.length ≤ 200 := by
 unfold chkB at h;rw [Bool.and_eq_true] at h;exact of_decide_eq_true h.1
theorem TabOwn.drew {B : Nat} {T : TabV} {h v : Value} {w : World} (a : TabOwn B T h v w) : TabOwn B T h v w.drew := ⟨a.oh.drew, a.ov.drew⟩
set_option maxHeartbeats 8000000 in
set_option maxRecDepth 100000 in
theorem ask_is (T : TabV) (h v : Value) (k n c q : Int) (w : World) (hT : Tab w T h v) : Calls Tryz.prog 70 #[.agg #[h, v], .agg #[.int .i64 k, .int .i64 n], .agg #[.int .i64 c, .int .i64 q]] w (AskBack (askL T (k, n) (c, q)) w) := by
 have H1 := hideIt (fun W (hW : Below w.heap.size w W) => refused_is T h v k n c q W (hT.keep hW));have H2 := hideIt (fun W (hW : Below w.heap.size w W) => holder_is T h v k n W (hT.keep hW));have H3 := hideIt (fun W (hW : Below w.heap.size w W) => queue_is T h v k n c q W (hT.keep hW));have H4 := hideIt (fun W (hW : Below w.heap.size w W) => cloneH_is h T.held W (hT.keep hW).held);have H5 := hideIt (fun W (hW : Below w.heap.size w W) => cloneH_is v T.wait W (hT.keep hW).wait);have H6 := hideIt (fun W (hW : Below w.heap.size w W) => size_is T h v W (hT.keep hW));have H7 := hideIt (fun a b W => isNobody_is a b W);have X0 := hideIt (Bx.first w [.cells #[h, v] 125, .cells #[.int .i64 k, .int .i64 n] 24, .cells #[.int .i64 c, .int .i64 q] 129, .cells #[.slice none 0 0, .slice none 0 0] 125]);have hl1 := hT.held.1;have hl2 := hT.wait.1;obtain ⟨ha, hc, rfl⟩ := hT.held.slice;obtain ⟨va, vc, rfl⟩ := hT.wait.slice;clear hT;simp only [List.foldl_cons, List.foldl_nil] at X0
 by_cases hR : refE T (k, n) (c, q) = 0
 ·have HX : Hid (askL T (k, n) (c, q) = if (hdT T.held (k, n) == (c, q)) = true ∨ 0 < (qL T.wait (k, n)).count (c, q) then (T, hdT T.held (k, n) == (c, q), 0)
   else if T.held.length + T.wait.length = 200 ∨ (qL T.wait (k, n)).length = 4 then (zTab, false, 161)
   else if (hdT T.held (k, n) == zT) = true then (⟨T.held ++ [((k, n), (c, q))], T.wait⟩, true, 0) else (⟨T.held, T.wait ++ [((k, n), (c, q))]⟩, false, 0)) := by
   show askL _ _ _ = _
   unfold askL;rw [if_pos hR]
  rw [hR] at H1;have hlen := chk_len (ref_ok hR).1;clear hR hl1 hl2;generalize askL T (k, n) (c, q) = RES at *;generalize hdT T.held (k, n) = f at *;obtain ⟨fc, fq⟩ := f;have l8 : (qL T.wait (k, n)).length ≤ T.wait.length := qL_len _ _;have k8 : (qL T.wait (k, n)).count (c, q) ≤ (qL T.wait (k, n)).length := List.count_le_length;generalize (qL T.wait (k, n)).count (c, q) = own at *;generalize (qL T.wait (k, n)).length = all at *
  go_enter Tryz.func70, Tryz.ntmps70
  go_wp2_with fail
  refine (H1.out _ X0.out.bel).mono ?_;rintro e w1 ⟨rfl, hb⟩;dsimp only;have X1 := hideIt (X0.out.keep hb);clear hb H1 X0
  go_upto_region 4 with fail
  have a0 : w1.cell? ⟨w.heap.size, 0, none⟩ = some (.slice ha T.held.length hc) := X1.out.c 0 0 rfl rfl;have a1 : w1.cell? ⟨w.heap.size, 1, none⟩ = some (.slice va T.wait.length vc) := X1.out.c 0 1 rfl rfl;have b0 : w1.cell? ⟨w.heap.size + 1, 0, none⟩ = some (.int .i64 k) := X1.out.c 1 0 rfl rfl;have b1 : w1.cell? ⟨w.heap.size + 1, 1, none⟩ = some (.int .i64 n) := X1.out.c 1 1 rfl rfl
  go_wp2_with fail
  refine (H2.out _ X1.out.bel).mono ?_;rintro e w2 ⟨rfl, hb⟩;dsimp only;have X2 := hideIt ((X1.out.keep hb).keep (below1 w2 (.cells #[.int .i64 fc, .int .i64 fq] 129)));have F2 := hideIt (heap_alloc_new w2 (.cells #[.int .i64 fc, .int .i64 fq] 129));have lK : w.heap.size + 1 + 1 + 1 < w2.heap.size := by have := (X1.out.keep hb).size; simp at this; omega
  clear hb H2 X1 a0 a1 b0 b1
  go_upto_region 5 with fail
  generalize w2.alloc (.cells #[.int .i64 fc, .int .i64 fq] 129) = W2 at *;generalize w2.heap.size = K at *;have a0 : W2.cell? ⟨w.heap.size, 0, none⟩ = some (.slice ha T.held.length hc) := X2.out.c 0 0 rfl rfl;have a1 : W2.cell? ⟨w.heap.size, 1, none⟩ = some (.slice va T.wait.length vc) := X2.out.c 0 1 rfl rfl;have b0 : W2.cell? ⟨w.heap.size + 1, 0, none⟩ = some (.int .i64 k) := X2.out.c 1 0 rfl rfl;have b1 : W2.cell? ⟨w.heap.size + 1, 1, none⟩ = some (.int .i64 n) := X2.out.c 1 1 rfl rfl;have t0 : W2.cell? ⟨w.heap.size + 1 + 1, 0, none⟩ = some (.int .i64 c) := X2.out.c 2 0 rfl rfl;have t1 : W2.cell? ⟨w.heap.size + 1 + 1, 1, none⟩ = some (.int .i64 q) := X2.out.c 2 1 rfl rfl
  go_wp2_with fail
  refine (H3.out _ X2.out.bel).mono ?_;rintro e w3 ⟨rfl, hb⟩;dsimp only;have X3 := hideIt (X2.out.keep hb);have F3 := hideIt ((hb.block _ (Array.getElem?_eq_some_iff.1 F2.out).1).trans F2.out);clear hb H3 X2 F2 a0 a1 b0 b1 t0 t1
  go_upto_region 6 with fail
  have HC1 : Hid (∀ W, Below w.heap.size w W → Bx w [.cells #[.slice ha T.held.length hc, .slice va T.wait.length vc] 125, .cells #[.int .i64 k, .int .i64 n] 24, .cells #[.int .i64 c, .int .i64 q] 129, .cells #[.slice none 0 0, .slice none 0 0] 125] W → Calls Tryz.prog 103 #[.slice ha T.held.length hc] W fun e w' => ∃ a' c', e = .returned (.slice a' T.held.length c') ∧ Hid (CS W T.held (.slice a' T.held.length c') w') ∧ Below w.heap.size w w' ∧ Bx w [.cells #[.slice ha T.held.length hc, .slice va T.wait.length vc] 125, .cells #[.int .i64 k, .int .i64 n] 24, .cells #[.int .i64 c, .int .i64 q] 129, .cells #[.slice none 0 0, .slice none 0 0] 125] w' ∧ w'.cell? ⟨w.heap.size, 0, none⟩ = some (.slice ha T.held.length hc) ∧ w'.cell? ⟨w.heap.size, 1, none⟩ = some (.slice va T.wait.length vc)) := by
   intro W hW hX;refine (H4.out W hW).mono ?_;rintro e w' ⟨v', rfl, ho, hb⟩;obtain ⟨a', c', rfl⟩ := own_len ho;have hX' := hX.keep hb
   exact ⟨a', c', rfl, hideIt ⟨ho, hb⟩, hX'.bel, hX', hX'.c 0 0 rfl rfl, hX'.c 0 1 rfl rfl⟩
  have HC2 : Hid (∀ W, Below w.heap.size w W → Bx w [.cells #[.slice ha T.held.length hc, .slice va T.wait.length vc] 125, .cells #[.int .i64 k, .int .i64 n] 24, .cells #[.int .i64 c, .int .i64 q] 129, .cells #[.slice none 0 0, .slice none 0 0] 125] W → Calls Tryz.prog 103 #[.slice va T.wait.length vc] W fun e w' => ∃ a' c', e = .returned (.slice a' T.wait.length c') ∧ Hid (CS W T.wait (.slice a' T.wait.length c') w') ∧ Below w.heap.size w w' ∧ Bx w [.cells #[.slice ha T.held.length hc, .slice va T.wait.length vc] 125, .cells #[.int .i64 k, .int .i64 n] 24, .cells #[.int .i64 c, .int .i64 q] 129, .cells #[.slice none 0 0, .slice none 0 0] 125] w' ∧ w'.cell? ⟨w.heap.size, 0, none⟩ = some (.slice ha T.held.length hc) ∧ w'.cell? ⟨w.heap.size, 1, none⟩ = some (.slice va T.wait.length vc)) := by
   intro W hW hX;refine (H5.out W hW).mono ?_;rintro e w' ⟨v', rfl, ho, hb⟩;obtain ⟨a', c', rfl⟩ := own_len ho;have hX' := hX.keep hb
   exact ⟨a', c', rfl, hideIt ⟨ho, hb⟩, hX'.bel, hX', hX'.c 0 0 rfl rfl, hX'.c 0 1 rfl rfl⟩
  clear H4 H5;have a0 : w3.cell? ⟨w.heap.size, 0, none⟩ = some (.slice ha T.held.length hc) := X3.out.c 0 0 rfl rfl;have a1 : w3.cell? ⟨w.heap.size, 1, none⟩ = some (.slice va T.wait.length vc) := X3.out.c 0 1 rfl rfl;have hs3 : w.heap.size < w3.heap.size := by have := X3.out.size; simp at this; omega
  have n3 : w3.heap.size ≠ w.heap.size := by omega
  go_cut [13] from 33 to 39 (fun u wx => ∃ P h' v', u = .pointer (some ⟨P, 0, none⟩) ∧ Hid (AQ w [.cells #[.slice ha T.held.length hc, .slice va T.wait.length vc] 125, .cells #[.int .i64 k, .int .i64 n] 24, .cells #[.int .i64 c, .int .i64 q] 129, .cells #[.slice none 0 0, .slice none 0 0] 125] K #[.int .i64 fc, .int .i64 fq] 129 T P h' v' wx))
  case first =>
   have hx3 := X3.out.keep (Below.refl _ w3).drew;have hx3a := hx3.keep (below1 w3.drew (.cells #[.slice none 0 0, .slice none 0 0] 125));have hb3 := hx3.bel;have hb3a := hx3a.bel
   go_region_held3 (fun W => W.cell? ⟨w.heap.size, 0, none⟩ = some (.slice ha T.held.length hc) ∧ W.cell? ⟨w.heap.size, 1, none⟩ = some (.slice va T.wait.length vc)) (go_keep) (first | (refine (HC1.out _ (by first | assumption | exact (Bx.keep (by assumption) (below1 _ _)).bel) (by first | assumption | exact Bx.keep (by assumption) (below1 _ _))).mono ?_; rintro e w4 ⟨a4, c4, rfl, hs4, hb4, hx4, j0, j1⟩; have n4 : w4.heap.size ≠ w.heap.size := (by have := hx4.size; simp at this; omega); (try have p4 : w4.heap[w3.heap.size]? = some (.cells #[.slice none 0 0, .slice none 0 0] 125 (0, 0)) := (hs4.out.bel.block _ (by simp)).trans (heap_alloc_new w3.drew _)); (try have p4c := two_at p4); (try obtain ⟨p40, p41, p42, p43, p44⟩ := p4c)) | (refine (HC2.out _ (by first | assumption | exact (Bx.keep (by assumption) (below1 _ _)).bel) (by first | assumption | exact Bx.keep (by assumption) (below1 _ _))).mono ?_; rintro e w5 ⟨a5, c5, rfl, hs5, hb5, hx5, j2, j3⟩; have n5 : w5.heap.size ≠ w.heap.size := (by have := hx5.size; simp at this; omega); (first | (have p5 : w5.heap[w3.heap.size]? = some (.cells #[.slice none 0 0, .slice none 0 0] 125 (0, 0)) := (hs5.out.bel.block _ p44).trans p4; have p5c := two_at p5; obtain ⟨p50, p51, p52, p53, p54⟩ := p5c) | (have p5 : w5.heap[w4.heap.size]? = some (.cells #[.slice none 0 0, .slice none 0 0] 125 (0, 0)) := (hs5.out.bel.block _ (by simp)).trans (heap_alloc_new w4 _); have p5c := two_at p5; obtain ⟨p50, p51, p52, p53, p54⟩ := p5c) | skip)))
   all_goals go_wp2_with fail
   all_goals go_meet
   ·exact ⟨_, _, _, rfl, hideIt (AQ.o3 X3.out F3.out hs4.out hs5.out)⟩
   ·exact ⟨_, _, _, rfl, hideIt (AQ.o2 X3.out F3.out hs4.out hs5.out)⟩
   ·exact ⟨_, _, _, rfl, hideIt (AQ.o1 X3.out F3.out hs4.out hs5.out)⟩
  case rest =>
  obtain ⟨P, h', v', rfl, HA⟩ := hcut;clear X3 F3 HC1 HC2 a0 a1 hs3 n3;obtain ⟨ha', hc', rfl⟩ := own_len HA.out.own.oh;obtain ⟨va', vc', rfl⟩ := own_len HA.out.own.ov;obtain ⟨p0, p1, -, -, -⟩ := two_at HA.out.box;obtain ⟨k0, k1, -, -, -⟩ := two_at HA.out.hk;have a0 : wc.cell? ⟨w.heap.size, 0, none⟩ = some (.slice ha T.held.length hc) := HA.out.bx.c 0 0 rfl rfl;have a1 : wc.cell? ⟨w.heap.size, 1, none⟩ = some (.slice va T.wait.length vc) := HA.out.bx.c 0 1 rfl rfl;have b0 : wc.cell? ⟨w.heap.size + 1, 0, none⟩ = some (.int .i64 k) := HA.out.bx.c 1 0 rfl rfl;have b1 : wc.cell? ⟨w.heap.size + 1, 1, none⟩ = some (.int .i64 n) := HA.out.bx.c 1 1 rfl rfl;have t0 : wc.cell? ⟨w.heap.size + 1 + 1, 0, none⟩ = some (.int .i64 c) := HA.out.bx.c 2 0 rfl rfl;have t1 : wc.cell? ⟨w.heap.size + 1 + 1, 1, none⟩ = some (.int .i64 q) := HA.out.bx.c 2 1 rfl rfl;have r0 : wc.cell? ⟨w.heap.size + 1 + 1 + 1, 0, none⟩ = some (.slice none 0 0) := HA.out.bx.c 3 0 rfl rfl;have r1 : wc.cell? ⟨w.heap.size + 1 + 1 + 1, 1, none⟩ = some (.slice none 0 0) := HA.out.bx.c 3 1 rfl rfl;have g0 : wc.frozen? ⟨w.heap.size + 1 + 1 + 1, 0, none⟩ = false := HA.out.bx.f 3 0 rfl;have g1 : wc.frozen? ⟨w.heap.size + 1 + 1 + 1, 1, none⟩ = false := HA.out.bx.f 3 1 rfl;have sz : w.heap.size + 1 + 1 + 1 < wc.heap.size := by have := HA.out.bx.size; simp at this; omega
  have RT := hideIt (HA.out.ar.ret rfl);have RC : Hid (((wc.setCell ⟨w.heap.size + 1 + 1 + 1, 0, none⟩ (.slice ha' T.held.length hc')).setCell ⟨w.heap.size + 1 + 1 + 1, 1, none⟩ (.slice va' T.wait.length vc')).cell? ⟨w.heap.size + 1 + 1 + 1, 0, none⟩ = some (.slice ha' T.held.length hc') ∧ ((wc.setCell ⟨w.heap.size + 1 + 1 + 1, 0, none⟩ (.slice ha' T.held.length hc')).setCell ⟨w.heap.size + 1 + 1 + 1, 1, none⟩ (.slice va' T.wait.length vc')).cell? ⟨w.heap.size + 1 + 1 + 1, 1, none⟩ = some (.slice va' T.wait.length vc')) := ⟨(two_at RT.out.1).1, (two_at RT.out.1).2.1⟩;have nK : K ≠ w.heap.size + 1 + 1 + 1 := by omega
  have nP : P ≠ w.heap.size + 1 + 1 + 1 := by have := HA.out.lP; simp at this; omega
  have n2 : w.heap.size + 1 + 1 ≠ w.heap.size + 1 + 1 + 1 := by omega
  cases hq : ((fc, fq) == (c, q))
  ·have q1 : ∀ W, (binOp .eql 129 (.agg #[.int .i64 fc, .int .i64 fq]) (.agg #[.int .i64 c, .int .i64 q])).run Tryz.prog W = .ok (.bool false) W := fun W => by rw [eq28, hq]
   by_cases ho : 0 < own
   ·have hoI : (0 : Int) < (own : Int) := by omega
    have HE : Hid (RES = (T, false, 0)) := by
     show RES = _
     rw [HX.out, if_pos (.inr ho), hq]
    clear HX ho hq
    go_wp2_with fail
    go_region
    go_wp2;exact bodyPost_ret (v := .tuple #[.agg #[.slice ha' T.held.length hc', .slice va' T.wait.length vc'], .bool false, .int .i64 0]) (by simp [results, Tryz.results70, go_sem, RC.out.1, RC.out.2]) rfl (by rw [HE.out]; exact ⟨_, _, rfl, RT.out.2.1.drew, RT.out.2.2.drew⟩)
   ·have hoI : ¬ (0 : Int) < (own : Int) := by omega
    have HY : Hid (RES = if T.held.length + T.wait.length = 200 ∨ all = 4 then (zTab, false, 161) else if ((fc, fq) == zT) = true then (⟨T.held ++ [((k, n), (c, q))], T.wait⟩, true, 0) else (⟨T.held, T.wait ++ [((k, n), (c, q))]⟩, false, 0)) := by
     show RES = _
     rw [HX.out, if_neg (by rw [hq]; simp; omega)]
    clear HX ho hq RT RC
    go_wp2_with fail
    refine (H6.out _ HA.out.bx.bel).mono ?_;rintro e w6 ⟨rfl, hb⟩;dsimp only;have HA6 := hideIt (HA.out.keep hb);clear hb HA;clear p0 p1 k0 k1 a0 a1 b0 b1 t0 t1 r0 r1 g0 g1 sz;obtain ⟨p0, p1, -, -, -⟩ := two_at HA6.out.box;obtain ⟨k0, k1, -, -, -⟩ := two_at HA6.out.hk;have a0 : w6.cell? ⟨w.heap.size, 0, none⟩ = some (.slice ha T.held.length hc) := HA6.out.bx.c 0 0 rfl rfl;have a1 : w6.cell? ⟨w.heap.size, 1, none⟩ = some (.slice va T.wait.length vc) := HA6.out.bx.c 0 1 rfl rfl;have b0 : w6.cell? ⟨w.heap.size + 1, 0, none⟩ = some (.int .i64 k) := HA6.out.bx.c 1 0 rfl rfl;have b1 : w6.cell? ⟨w.heap.size + 1, 1, none⟩ = some (.int .i64 n) := HA6.out.bx.c 1 1 rfl rfl;have t0 : w6.cell? ⟨w.heap.size + 1 + 1, 0, none⟩ = some (.int .i64 c) := HA6.out.bx.c 2 0 rfl rfl;have t1 : w6.cell? ⟨w.heap.size + 1 + 1, 1, none⟩ = some (.int .i64 q) := HA6.out.bx.c 2 1 rfl rfl;have r0 : w6.cell? ⟨w.heap.size + 1 + 1 + 1, 0, none⟩ = some (.slice none 0 0) := HA6.out.bx.c 3 0 rfl rfl;have r1 : w6.cell? ⟨w.heap.size + 1 + 1 + 1, 1, none⟩ = some (.slice none 0 0) := HA6.out.bx.c 3 1 rfl rfl;have g0 : w6.frozen? ⟨w.heap.size + 1 + 1 + 1, 0, none⟩ = false := HA6.out.bx.f 3 0 rfl;have g1 : w6.frozen? ⟨w.heap.size + 1 + 1 + 1, 1, none⟩ = false := HA6.out.bx.f 3 1 rfl;have sz : w.heap.size + 1 + 1 + 1 < w6.heap.size := by have := HA6.out.bx.size; simp at this; omega
    by_cases h200 : T.held.length + T.wait.length = 200
    ·have h200I : (T.held.length : Int) + (T.wait.length : Int) = 200 := by omega
     have HE : Hid (RES = (zTab, false, 161)) := by
      show RES = _
      rw [HY.out, if_pos (.inl h200)]
     clear HY h200;have RH := hideIt (put2 (HA6.out.bx.at_ 3 (by simp)) (.slice none 0 0) (.slice none 0 0));have RC : Hid (((w6.setCell ⟨w.heap.size + 1 + 1 + 1, 0, none⟩ (.slice none 0 0)).setCell ⟨w.heap.size + 1 + 1 + 1, 1, none⟩ (.slice none 0 0)).cell? ⟨w.heap.size + 1 + 1 + 1, 0, none⟩ = some (.slice none 0 0) ∧ ((w6.setCell ⟨w.heap.size + 1 + 1 + 1, 0, none⟩ (.slice none 0 0)).setCell ⟨w.heap.size + 1 + 1 + 1, 1, none⟩ (.slice none 0 0)).cell? ⟨w.heap.size + 1 + 1 + 1, 1, none⟩ = some (.slice none 0 0)) := ⟨(two_at RH.out).1, (two_at RH.out).2.1⟩;go_wp2;exact bodyPost_ret (v := .tuple #[.agg #[.slice none 0 0, .slice none 0 0], .bool false, .int .i64 161]) (by simp [results, Tryz.results70, go_sem, RC.out.1, RC.out.2]) rfl (by rw [HE.out]; exact ⟨_, _, rfl, zOwn _ _, belowSet _ (belowSet _ HA6.out.bx.bel (by omega)) (by omega)⟩)
    ·have h200I : ¬ (T.held.length : Int) + (T.wait.length : Int) = 200 := by omega
     by_cases h4 : all = 4
     ·have HE : Hid (RES = (zTab, false, 161)) := by
       show RES = _
       rw [HY.out, if_pos (.inr h4)]
      have h4I : (all : Int) = 4 := by omega
      clear HY h200 h4;have RH := hideIt (put2 (HA6.out.bx.at_ 3 (by simp)) (.slice none 0 0) (.slice none 0 0));have RC : Hid (((w6.setCell ⟨w.heap.size + 1 + 1 + 1, 0, none⟩ (.slice none 0 0)).setCell ⟨w.heap.size + 1 + 1 + 1, 1, none⟩ (.slice none 0 0)).cell? ⟨w.heap.size + 1 + 1 + 1, 0, none⟩ = some (.slice none 0 0) ∧ ((w6.setCell ⟨w.heap.size + 1 + 1 + 1, 0, none⟩ (.slice none 0 0)).setCell ⟨w.heap.size + 1 + 1 + 1, 1, none⟩ (.slice none 0 0)).cell? ⟨w.heap.size + 1 + 1 + 1, 1, none⟩ = some (.slice none 0 0)) := ⟨(two_at RH.out).1, (two_at RH.out).2.1⟩;go_wp2;exact bodyPost_ret (v := .tuple #[.agg #[.slice none 0 0, .slice none 0 0], .bool false, .int .i64 161]) (by simp [results, Tryz.results70, go_sem, RC.out.1, RC.out.2]) rfl (by rw [HE.out]; exact ⟨_, _, rfl, zOwn _ _, belowSet _ (belowSet _ HA6.out.bx.bel (by omega)) (by omega)⟩)
     ·have h4I : ¬ (all : Int) = 4 := by omega
      have HZ : Hid (RES = if ((fc, fq) == zT) = true then (⟨T.held ++ [((k, n), (c, q))], T.wait⟩, true, 0) else (⟨T.held, T.wait ++ [((k, n), (c, q))]⟩, false, 0)) := by
       show RES = _
       rw [HY.out, if_neg (by omega)]
      have h200B : ((T.held.length : Int) + (T.wait.length : Int) == 200) = false := beq_eq_false_iff_ne.2 h200I;have h4B : ((all : Int) == 4) = false := beq_eq_false_iff_ne.2 h4I;clear HY;have HC := hideIt (H7.out fc fq (w6.alloc (.cells #[.int .i64 k, .int .i64 n, .int .i64 c, .int .i64 q] 166)));have HA7 := hideIt (HA6.out.keep (below1 w6 (.cells #[.int .i64 k, .int .i64 n, .int .i64 c, .int .i64 q] 166)));have HN7 := hideIt (heap_alloc_new w6 (.cells #[.int .i64 k, .int .i64 n, .int .i64 c, .int .i64 q] 166));have lK6 : K < w6.heap.size := (Array.getElem?_eq_some_iff.1 HA6.out.hk).1;cases hz : ((fc, fq) == zT)
      ·rw [hz] at HC;have HE : Hid (RES = (⟨T.held, T.wait ++ [((k, n), (c, q))]⟩, false, 0)) := by
        show RES = _
        rw [HZ.out, if_neg (by simp [hz])]
       clear hz HZ
       go_wp2_with fail
       refine HC.out.mono ?_;rintro e w8 ⟨rfl, hb⟩;dsimp only;have HA8 := hideIt (HA7.out.keep hb);have HN8 := hideIt ((hb.block _ (by simp)).trans HN7.out);obtain ⟨a', c', w9, hrun, AR9, s0, s1, sf, sl⟩ := (HA8.out.keep (below1 w8 (.cells (holE ((k, n), (c, q))).toArray 166))).appV (c := 1) (heap_alloc_new w8 (.cells (holE ((k, n), (c, q))).toArray 166)) (by omega);unfold holE at hrun;dsimp only at hrun;have HRUN := hideIt hrun;have R9 := AR9.bx.at_ 3 (by simp);rw [heap_set_other _ _ _ _ _ nP.symm] at R9;obtain ⟨z0, z1, zf0, zf1, zl⟩ := two_at (p := w.heap.size + 1 + 1 + 1) R9;have RT := hideIt (AR9.ret rfl);have RC := hideIt (And.intro (two_at (p := w.heap.size + 1 + 1 + 1) RT.out.1).1 (two_at (p := w.heap.size + 1 + 1 + 1) RT.out.1).2.1);clear hb hrun HC HA7 HN7 AR9 HA6 R9;clear p0 p1 k0 k1 a0 a1 b0 b1 t0 t1 r0 r1 g0 g1 sz;obtain ⟨p0, p1, -, -, -⟩ := two_at HA8.out.box;have m0 : w8.cell? ⟨w6.heap.size, 0, none⟩ = some (.int .i64 k) := by rw [cell_at HN8.out]; rfl
       have m1 : w8.cell? ⟨w6.heap.size, 1, none⟩ = some (.int .i64 n) := by rw [cell_at HN8.out]; rfl
       have m2 : w8.cell? ⟨w6.heap.size, 2, none⟩ = some (.int .i64 c) := by rw [cell_at HN8.out]; rfl
       have m3 : w8.cell? ⟨w6.heap.size, 3, none⟩ = some (.int .i64 q) := by rw [cell_at HN8.out]; rfl
       have hl8 : w6.heap.size < w8.heap.size := (Array.getElem?_eq_some_iff.1 HN8.out).1;have hP8 : P < w8.heap.size := (Array.getElem?_eq_some_iff.1 HA8.out.box).1;have nP2 : w.heap.size + 1 + 1 + 1 ≠ P := nP.symm
       go_wp2_with (at_builtin; refine Lib.wpList_append_run _ rfl _ _ _ _ rfl _ _ rfl rfl _ _ HRUN.out ?_)
       exact bodyPost_ret (v := .tuple #[.agg #[.slice ha' T.held.length hc', .slice a' (T.wait.length + 1) c'], .bool false, .int .i64 0]) (by simp [results, Tryz.results70, go_sem, RC.out.1, RC.out.2]) rfl (by rw [HE.out]; exact ⟨_, _, rfl, RT.out.2.1, RT.out.2.2⟩)
      ·rw [hz] at HC;have HE : Hid (RES = (⟨T.held ++ [((k, n), (c, q))], T.wait⟩, true, 0)) := by
        show RES = _
        rw [HZ.out, if_pos hz]
       clear hz HZ
       go_wp2_with fail
       refine HC.out.mono ?_;rintro e w8 ⟨rfl, hb⟩;dsimp only;have HA8 := hideIt (HA7.out.keep hb);have HN8 := hideIt ((hb.block _ (by simp)).trans HN7.out);obtain ⟨a', c', w9, hrun, AR9, s0, s1, sf, sl⟩ := (HA8.out.keep (below1 w8 (.cells (holE ((k, n), (c, q))).toArray 166))).appH (c := 1) (heap_alloc_new w8 (.cells (holE ((k, n), (c, q))).toArray 166)) (by omega);unfold holE at hrun;dsimp only at hrun;have HRUN := hideIt hrun;have R9 := AR9.bx.at_ 3 (by simp);rw [heap_set_other _ _ _ _ _ nP.symm] at R9;obtain ⟨z0, z1, zf0, zf1, zl⟩ := two_at (p := w.heap.size + 1 + 1 + 1) R9;have RT := hideIt (AR9.ret rfl);have RC := hideIt (And.intro (two_at (p := w.heap.size + 1 + 1 + 1) RT.out.1).1 (two_at (p := w.heap.size + 1 + 1 + 1) RT.out.1).2.1);clear hb hrun HC HA7 HN7 AR9 HA6 R9;clear p0 p1 k0 k1 a0 a1 b0 b1 t0 t1 r0 r1 g0 g1 sz;obtain ⟨p0, p1, -, -, -⟩ := two_at HA8.out.box;have m0 : w8.cell? ⟨w6.heap.size, 0, none⟩ = some (.int .i64 k) := by rw [cell_at HN8.out]; rfl
       have m1 : w8.cell? ⟨w6.heap.size, 1, none⟩ = some (.int .i64 n) := by rw [cell_at HN8.out]; rfl
       have m2 : w8.cell? ⟨w6.heap.size, 2, none⟩ = some (.int .i64 c) := by rw [cell_at HN8.out]; rfl
       have m3 : w8.cell? ⟨w6.heap.size, 3, none⟩ = some (.int .i64 q) := by rw [cell_at HN8.out]; rfl
       have hl8 : w6.heap.size < w8.heap.size := (Array.getElem?_eq_some_iff.1 HN8.out).1;have hP8 : P < w8.heap.size := (Array.getElem?_eq_some_iff.1 HA8.out.box).1;have nP2 : w.heap.size + 1 + 1 + 1 ≠ P := nP.symm
       go_wp2_with (at_builtin; refine Lib.wpList_append_run _ rfl _ _ _ _ rfl _ _ rfl rfl _ _ HRUN.out ?_)
       exact bodyPost_ret (v := .tuple #[.agg #[.slice a' (T.held.length + 1) c', .slice va' T.wait.length vc'], .bool true, .int .i64 0]) (by simp [results, Tryz.results70, go_sem, RC.out.1, RC.out.2]) rfl (by rw [HE.out]; exact ⟨_, _, rfl, RT.out.2.1, RT.out.2.2⟩)
  ·have q1 : ∀ W, (binOp .eql 129 (.agg #[.int .i64 fc, .int .i64 fq]) (.agg #[.int .i64 c, .int .i64 q])).run Tryz.prog W = .ok (.bool true) W := fun W => by rw [eq28, hq]
   have HE : Hid (RES = (T, true, 0)) := by
    show RES = _
    rw [HX.out, if_pos (.inl hq), hq]
   clear HX hq
   go_wp2_with fail
   go_region
   go_wp2;exact bodyPost_ret (v := .tuple #[.agg #[.slice ha' T.held.length hc', .slice va' T.wait.length vc'], .bool true, .int .i64 0]) (by simp [results, Tryz.results70, go_sem, RC.out.1, RC.out.2]) rfl (by rw [HE.out]; exact ⟨_, _, rfl, RT.out.2.1.drew, RT.out.2.2.drew⟩)
 ·have HE : Hid (askL T (k, n) (c, q) = (zTab, false, refE T (k, n) (c, q))) := by
   show askL _ _ _ = _
   unfold askL;rw [if_neg hR]
  have HR := hideIt hR;generalize askL T (k, n) (c, q) = RES at *;generalize refE T (k, n) (c, q) = re at *
  go_enter Tryz.func70, Tryz.ntmps70
  go_wp2_with fail
  refine (H1.out _ X0.out.bel).mono ?_;rintro e w1 ⟨rfl, hb⟩;dsimp only;have X1 := hideIt (X0.out.keep hb);clear hb H1 X0 H2 H3 H4 H5 H6 H7;have r0 : w1.cell? ⟨w.heap.size + 1 + 1 + 1, 0, none⟩ = some (.slice none 0 0) := X1.out.c 3 0 rfl rfl;have r1 : w1.cell? ⟨w.heap.size + 1 + 1 + 1, 1, none⟩ = some (.slice none 0 0) := X1.out.c 3 1 rfl rfl;have g0 : w1.frozen? ⟨w.heap.size + 1 + 1 + 1, 0, none⟩ = false := X1.out.f 3 0 rfl;have g1 : w1.frozen? ⟨w.heap.size + 1 + 1 + 1, 1, none⟩ = false := X1.out.f 3 1 rfl;have RH := hideIt (put2 (X1.out.at_ 3 (by simp)) (.slice none 0 0) (.slice none 0 0));have RC := hideIt (And.intro (two_at (p := w.heap.size + 1 + 1 + 1) RH.out).1 (two_at (p := w.heap.size + 1 + 1 + 1) RH.out).2.1);go_wp2;exact bodyPost_ret (v := .tuple #[.agg #[.slice none 0 0, .slice none 0 0], .bool false, .int .i64 re]) (by simp [results, Tryz.results70, go_sem, RC.out.1, RC.out.2]) rfl (by rw [HE.out]; exact ⟨_, _, rfl, zOwn _ _, belowSet _ (belowSet _ X1.out.bel (by omega)) (by omega)⟩)
theorem nilTab (w : World) : Tab w zTab (.slice none 0 0) (.slice none 0 0) := ⟨SGot.nil _ _ _ _ _ _ (Nat.zero_le _), SGot.nil _ _ _ _ _ _ (Nat.zero_le _)⟩
theorem ask_zero (k : KeyV) (t : TxnV) : (askL zTab k t).2.2 = if (keyB k && namB t) = true then 0 else 1 := by
 have hc : chkB zTab = true := rfl;have hr : refE zTab k t = if (keyB k && namB t) = true then 0 else 1 := by
  unfold refE;rw [if_pos hc]
 unfold askL;rw [hr]
 by_cases h : (keyB k && namB t) = true
 ·rw [if_pos h, if_pos rfl];have e1 : zTab.held = [] := rfl;have e2 : zTab.wait = [] := rfl;rw [e1, e2]
  split
  ·rfl
  ·rw [if_neg (by simp [qL])]
   split <;> rfl
 ·rw [if_neg h, if_neg (by omega)]
theorem ask0_is (k n c q r : Int) (hr : (if (keyB (k, n) && namB (c, q)) = true then (0 : Int) else 1) = r) (w : World) : Calls Tryz.prog 70 #[.agg #[.slice none 0 0, .slice none 0 0], .agg #[.int .i64 k, .int .i64 n], .agg #[.int .i64 c, .int .i64 q]] w fun e w' => ∃ a l c' b m d y, e = .returned (.tuple #[.agg #[.slice a l c', .slice b m d], .bool y, .int .i64 r]) ∧ Below w.heap.size w w' := by
 refine (ask_is zTab _ _ k n c q w (nilTab w)).mono ?_;rintro e w' ⟨h, v, rfl, ho, hb⟩;obtain ⟨a, c', rfl⟩ := own_len ho.oh;obtain ⟨b, d, rfl⟩ := own_len ho.ov;rw [ask_zero, hr]
 exact ⟨_, _, _, _, _, _, _, rfl, hb⟩
set_option maxHeartbeats 1000000 in
theorem withinS_is (x lo hi : Int) (w : World) : Calls Tryz.prog 42 #[.int .i64 x, .int .i64 lo, .int .i64 hi] w fun e w' => e = .returned (.bool (wiB x lo hi)) ∧ w' = w := by
 unfold wiB
 by_cases h : lo ≤ x
 ·go_enter Tryz.func42, Tryz.ntmps42
  go_wp2;go_ret
  exact ⟨by simp [h], rfl⟩
 ·go_enter Tryz.func42, Tryz.ntmps42
  go_wp2;go_ret
  exact ⟨by rw [decide_eq_false (by omega)]; rfl, rfl⟩
def fitB (has n lo hi : Int) : Bool := if has = 0 then n == 0 else wiB n lo hi
set_option maxHeartbeats 1000000 in
theorem fitsN_is (has n lo hi : Int) (w : World) : Calls Tryz.prog 43 #[.int .i64 has, .int .i64 n, .int .i64 lo, .int .i64 hi] w fun e w' => e = .returned (.bool (fitB has n lo hi)) ∧ w' = w := by
 have H := hideIt (fun W => withinS_is n lo hi W);unfold fitB
 by_cases h : has = 0
 ·subst h;rw [if_pos rfl]
  go_enter Tryz.func43, Tryz.ntmps43
  go_wp2;go_ret
  exact ⟨rfl, rfl⟩
 ·rw [if_neg h]
  go_enter Tryz.func43, Tryz.ntmps43
  go_wp2_with fail
  refine (H.out _).mono ?_;rintro e w ⟨rfl, rfl⟩;dsimp only;go_wp2;go_ret
  exact ⟨rfl, rfl⟩
def fitK (has : Int) (k : KeyV) : Bool := if has = 0 then k == (0, 0) else keyB k
set_option maxHeartbeats 4000000 in
theorem fitsKey_is (has k n : Int) (w : World) : Calls Tryz.prog 44 #[.int .i64 has, .agg #[.int .i64 k, .int .i64 n]] w fun e w' => e = .returned (.bool (fitK has (k, n))) ∧ Below w.heap.size w w' := by
 have X0 := hideIt (below1 w (.cells #[.int .i64 k, .int .i64 n] 24));have q1 := eq26;unfold fitK
 by_cases h : has = 0
 ·subst h;rw [if_pos rfl]
  go_enter Tryz.func44, Tryz.ntmps44
  go_wp2;go_ret
  exact ⟨rfl, X0.out⟩
 ·rw [if_neg h];clear q1;cases hn : keyB (k, n)
  ·have H := hideIt (fun W => ask0_is k n 1 1 1 (by rw [hn]; rfl) W)
   go_enter Tryz.func44, Tryz.ntmps44
   go_wp2_with fail
   refine (H.out _).mono ?_;rintro e w1 ⟨a, l, c', b, m, d, y, rfl, hb⟩;dsimp only;have HB := hideIt (below_via X0.out (below_via hb (below1 w1 (.cells #[.slice a l c', .slice b m d] 125))));clear hb X0;go_wp2;go_ret
   exact ⟨rfl, HB.out⟩
  ·have H := hideIt (fun W => ask0_is k n 1 1 0 (by rw [hn]; rfl) W)
   go_enter Tryz.func44, Tryz.ntmps44
   go_wp2_with fail
   refine (H.out _).mono ?_;rintro e w1 ⟨a, l, c', b, m, d, y, rfl, hb⟩;dsimp only;have HB := hideIt (below_via X0.out (below_via hb (below1 w1 (.cells #[.slice a l c', .slice b m d] 125))));clear hb X0;go_wp2;go_ret
   exact ⟨rfl, HB.out⟩
structure ReqV where
 kind : Int
 acct : Int
 lane : Int
 asset : Int
 side : Int
 price : Int
 n : Int
 now : Bool
 key : KeyV
 dst : Int
def reqC (r : ReqV) : Array Value := #[.int .i64 r.kind, .int .i64 r.acct, .int .i64 r.lane, .int .i64 r.asset, .int .i64 r.side, .int .i64 r.price, .int .i64 r.n, .bool r.now, .int .i64 r.key.1, .int .i64 r.key.2, .int .i64 r.dst]
def formT : List (Int × Int) := [(0, 0), (37, 1), (37, 1), (123, 3), (35, 2), (2, 2), (2, 2), (1, 5), (1, 1), (384, 8)]
def formF (k : Int) : Int := (formT.getD k.toNat (0, 0)).1
def formK (k : Int) : Int := (formT.getD k.toNat (0, 0)).2
def Forms (w : World) : Prop := 0 < w.heap.size ∧ ∀ k : Int, 1 ≤ k → k ≤ 9 → w.cell? ⟨0, k.toNat * 2, none⟩ = some (.int .i64 (formF k)) ∧ w.cell? ⟨0, k.toNat * 2 + 1, none⟩ = some (.int .i64 (formK k))
theorem Forms.keep {w w' : World} (h : Forms w) (hb : Below w.heap.size w w') : Forms w' :=
 ⟨Nat.lt_of_lt_of_le h.1 hb.size, fun k h1 h2 => ⟨(hb.cell (p := ⟨0, k.toNat * 2, none⟩) h.1).trans (h.2 k h1 h2).1, (hb.cell (p := ⟨0, k.toNat * 2 + 1, none⟩) h.1).trans (h.2 k h1 h2).2⟩⟩
def fitsB (r : ReqV) : Bool :=
 wiB r.kind 1 9 && (fitB (bits .and .i64 (formF r.kind) 1) r.acct 1 8 && (fitB (bits .and .i64 (formF r.kind) 2) r.lane 1 3 && (fitB (bits .and .i64 (formF r.kind) 4) r.asset 0 3 && (fitB (bits .and .i64 (formF r.kind) 8) r.side 1 2 && (fitB (bits .and .i64 (formF r.kind) 16) r.price 1 1000000 && (fitB (bits .and .i64 (formF r.kind) 32) r.n 1 1000000 && ((bits .and .i64 (formF r.kind) 64 != 0 || !r.now) && (fitK (bits .and .i64 (formF r.kind) 128) r.key && fitB (bits .and .i64 (formF r.kind) 256) r.dst 0 3))))))))
set_option maxHeartbeats 8000000 in
set_option maxRecDepth 100000 in
theorem fits_is (r : ReqV) (w : World) (hF : Forms w) : Calls Tryz.prog 21 #[.agg (reqC r)] w fun e w' => e = .returned (.bool (fitsB r)) ∧ Below w.heap.size w w' := by
 obtain ⟨k, a, l, s, d, p, n, o, ⟨kk, kn⟩, t⟩ := r;unfold reqC;dsimp only;have X0 := hideIt (below1 w (.cells #[.int .i64 k, .int .i64 a, .int .i64 l, .int .i64 s, .int .i64 d, .int .i64 p, .int .i64 n, .bool o, .int .i64 kk, .int .i64 kn, .int .i64 t] 26));have H0 := hideIt (fun W => withinS_is k 1 9 W);unfold fitsB;dsimp only
 by_cases hk : 1 ≤ k ∧ k ≤ 9
 ·have hk1 := hk.1;have hk2 := hk.2;have hw : wiB k 1 9 = true := decide_eq_true hk;rw [hw] at H0 ⊢;rw [Bool.true_and];have c0 := (X0.out.cell (p := ⟨0, k.toNat * 2, none⟩) hF.1).trans (hF.2 k hk1 hk2).1;clear hF hk hw;generalize formF k = has at *;have F1 := hideIt (fun W => fitsN_is (bits .and .i64 has 1) a 1 8 W);have F2 := hideIt (fun W => fitsN_is (bits .and .i64 has 2) l 1 3 W);have F4 := hideIt (fun W => fitsN_is (bits .and .i64 has 4) s 0 3 W);have F8 := hideIt (fun W => fitsN_is (bits .and .i64 has 8) d 1 2 W);have F16 := hideIt (fun W => fitsN_is (bits .and .i64 has 16) p 1 1000000 W);have F32 := hideIt (fun W => fitsN_is (bits .and .i64 has 32) n 1 1000000 W);have F128 := hideIt (fun W => fitsKey_is (bits .and .i64 has 128) kk kn W);have F256 := hideIt (fun W => fitsN_is (bits .and .i64 has 256) t 0 3 W);have XC : Hid (∀ W, Below (w.alloc (.cells #[.int .i64 k, .int .i64 a, .int .i64 l, .int .i64 s, .int .i64 d, .int .i64 p, .int .i64 n, .bool o, .int .i64 kk, .int .i64 kn, .int .i64 t] 26)).heap.size (w.alloc (.cells #[.int .i64 k, .int .i64 a, .int .i64 l, .int .i64 s, .int .i64 d, .int .i64 p, .int .i64 n, .bool o, .int .i64 kk, .int .i64 kn, .int .i64 t] 26)) W → W.cell? ⟨w.heap.size, 10, none⟩ = some (.int .i64 t)) := fun W hb => box_cell hb 10
  generalize fitB (bits .and .i64 has 1) a 1 8 = b1 at *;generalize fitB (bits .and .i64 has 2) l 1 3 = b2 at *;generalize fitB (bits .and .i64 has 4) s 0 3 = b4 at *;generalize fitB (bits .and .i64 has 8) d 1 2 = b8 at *;generalize fitB (bits .and .i64 has 16) p 1 1000000 = b16 at *;generalize fitB (bits .and .i64 has 32) n 1 1000000 = b32 at *;generalize fitK (bits .and .i64 has 128) (kk, kn) = b128 at *;generalize fitB (bits .and .i64 has 256) t 0 3 = b256 at *
  go_enter Tryz.func21, Tryz.ntmps21
  go_wp2_with fail
  refine (H0.out _).mono ?_;rintro e w1 ⟨rfl, rfl⟩;dsimp only
  go_wp2_with fail
  refine (F1.out _).mono ?_;rintro e w1 ⟨rfl, rfl⟩;dsimp only;cases b1
  ·go_wp2
   all_goals go_ret
   all_goals exact ⟨by simp, X0.out⟩
  go_wp2_with fail
  refine (F2.out _).mono ?_;rintro e w1 ⟨rfl, rfl⟩;dsimp only;cases b2
  ·go_wp2
   all_goals go_ret
   all_goals exact ⟨by simp, X0.out⟩
  go_wp2_with fail
  refine (F4.out _).mono ?_;rintro e w1 ⟨rfl, rfl⟩;dsimp only;cases b4
  ·go_wp2
   all_goals go_ret
   all_goals exact ⟨by simp, X0.out⟩
  go_wp2_with fail
  refine (F8.out _).mono ?_;rintro e w1 ⟨rfl, rfl⟩;dsimp only;cases b8
  ·go_wp2
   all_goals go_ret
   all_goals exact ⟨by simp, X0.out⟩
  go_wp2_with fail
  refine (F16.out _).mono ?_;rintro e w1 ⟨rfl, rfl⟩;dsimp only;cases b16
  ·go_wp2
   all_goals go_ret
   all_goals exact ⟨by simp, X0.out⟩
  go_wp2_with fail
  refine (F32.out _).mono ?_;rintro e w1 ⟨rfl, rfl⟩;dsimp only;cases b32
  ·go_wp2
   all_goals go_ret
   all_goals exact ⟨by simp, X0.out⟩
  cases hb : (bits .and .i64 has 64 != 0)
  ·cases o
   ·go_wp2_with fail
    refine (F128.out _).mono ?_;rintro e w1 ⟨rfl, hb1⟩;dsimp only;have x10 := XC.out _ hb1;have HB := hideIt (below_via X0.out hb1);clear hb1;cases b128
    ·go_wp2;go_ret
     exact ⟨by rw [hb]; simp, HB.out⟩
    ·go_wp2_with fail
     refine (F256.out _).mono ?_;rintro e w1 ⟨rfl, rfl⟩;dsimp only;go_wp2;go_ret
     exact ⟨by rw [hb]; simp, HB.out⟩
   ·go_wp2;go_ret
    exact ⟨by rw [hb]; simp, X0.out⟩
  ·go_wp2_with fail
   refine (F128.out _).mono ?_;rintro e w1 ⟨rfl, hb1⟩;dsimp only;have x10 := XC.out _ hb1;have HB := hideIt (below_via X0.out hb1);clear hb1;cases b128
   ·go_wp2;go_ret
    exact ⟨by rw [hb]; simp, HB.out⟩
   ·go_wp2_with fail
    refine (F256.out _).mono ?_;rintro e w1 ⟨rfl, rfl⟩;dsimp only;go_wp2;go_ret
    exact ⟨by rw [hb]; simp, HB.out⟩
 ·have hw : wiB k 1 9 = false := decide_eq_false hk;rw [hw] at H0 ⊢;rw [Bool.false_and]
  go_enter Tryz.func21, Tryz.ntmps21
  go_wp2_with fail
  refine (H0.out _).mono ?_;rintro e w1 ⟨rfl, rfl⟩;dsimp only;go_wp2;go_ret
  exact ⟨rfl, X0.out⟩
def keyE (k : KeyV) : List Value := [.int .i64 k.1, .int .i64 k.2]
theorem keyK (k : KeyV) : (keyE k).length = 2 := rfl
theorem key1 (k : KeyV) : ∀ u ∈ keyE k, u.oneCell' = true := by
 intro u hu;simp only [keyE, List.mem_cons, List.not_mem_nil, or_false] at hu
 rcases hu with rfl | rfl <;> rfl
theorem info23 : (Tryz.prog.info? 24).map (fun i => (i.zero, i.size, i.bytes)) = some (some (.agg #[.int .i64 0, .int .i64 0]), 2, 16) := by kernel_rfl
def keyT (tk : Int) (r : ReqV) : List KeyV := if tk = 1 then [(1, r.acct)] else if tk = 2 then [(2, r.lane)] else if tk = 3 then [(1, r.acct), (2, r.lane)] else if tk = 5 then [(1, r.acct), (2, 1), (2, 2), (2, 3)] else [r.key]
def keysB (r : ReqV) : List KeyV := if fitsB r = true then keyT (formK r.kind) r else []
theorem fits_kind {r : ReqV} (h : fitsB r = true) : 1 ≤ r.kind ∧ r.kind ≤ 9 := by
 unfold fitsB at h;rw [Bool.and_eq_true] at h;exact of_decide_eq_true h.1
theorem formK_five {k : Int} (h1 : 1 ≤ k) (h9 : k ≤ 9) : formK k = 1 ∨ formK k = 2 ∨ formK k = 3 ∨ formK k = 5 ∨ formK k = 8 := by
 have : k = 1 ∨ k = 2 ∨ k = 3 ∨ k = 4 ∨ k = 5 ∨ k = 6 ∨ k = 7 ∨ k = 8 ∨ k = 9 := by omega
 rcases this with rfl | rfl | rfl | rfl | rfl | rfl | rfl | rfl | rfl
 ·exact .inl rfl
 ·exact .inl rfl
 ·exact .inr (.inr (.inl rfl))
 ·exact .inr (.inl rfl)
 ·exact .inr (.inl rfl)
 ·exact .inr (.inl rfl)
 ·exact .inr (.inr (.inr (.inl rfl)))
 ·exact .inl rfl
 ·exact .inr (.inr (.inr (.inr rfl)))
def KeyOn (w W : World) (v : Value) (l : List KeyV) : Prop := W.ownsRow w.heap.size 24 2 v l.length (celC keyE l) ∧ Below w.heap.size w W
theorem key_app {w W : World} {v : Value} {l : List KeyV} (h : KeyOn w W v l) (hl : l.length ≤ 100) (k n : Int) : ∃ a' c' w', (Builtin.append_ #[48, 48] 48 #[v, .slice (some ⟨W.heap.size, 0, none⟩) 1 1]).run Tryz.prog (W.alloc (.cells #[.int .i64 k, .int .i64 n] 24)) = .ok (.slice a' (l.length + 1) c') w' ∧ KeyOn w w' (.slice a' (l.length + 1) c') (l ++ [(k, n)]) ∧ (∀ (b : Nat) (cs : Array Value) (t : TypeId), W.heap[b]? = some (.cells cs t (0, 0)) → t ≠ 24 → w'.heap[b]? = some (.cells cs t (0, 0))) := by
 have hb := below1 W (.cells #[.int .i64 k, .int .i64 n] 24);obtain ⟨v', w', hrun, how, hgr⟩ := app1 (enc := keyE) (t := 48) keyK key1 Tryz.underlying48 info23 rfl (by omega) (W.alloc (.cells #[.int .i64 k, .int .i64 n] 24)) w.heap.size v l (k, n) W.heap.size 1 (Nat.le_trans h.2.size hb.size) (own_keep h.1 hb) (heap_alloc_new W _) (by omega) (by unfold maxLen; omega)
 obtain ⟨a', c', rfl⟩ := own_len how;have hlen : (l ++ [(k, n)]).length = l.length + 1 := by simp
 rw [hlen] at hrun how;refine ⟨a', c', w', hrun, ⟨by rw [hlen]; exact how, grown_own hgr (own_keep h.1 hb) (Nat.le_refl _) (below_via h.2 hb)⟩, fun b cs t hbx hne => ?_⟩
 exact box_type hgr (own_keep h.1 hb) ((hb.block _ (Array.getElem?_eq_some_iff.1 hbx).1).trans hbx) (Ne.symm hne)
def KeyBack (l : List KeyV) (w : World) (e : Ending) (w' : World) : Prop := ∃ a c, e = .returned (.slice a l.length c) ∧ KeyOn w w' (.slice a l.length c) l
theorem req_at {w : World} {p : Nat} {k a l s d pr n kk kn t : Int} {o : Bool} (h : w.heap[p]? = some (.cells #[.int .i64 k, .int .i64 a, .int .i64 l, .int .i64 s, .int .i64 d, .int .i64 pr, .int .i64 n, .bool o, .int .i64 kk, .int .i64 kn, .int .i64 t] 26 (0, 0))) : w.cell? ⟨p, 0, none⟩ = some (.int .i64 k) ∧ w.cell? ⟨p, 1, none⟩ = some (.int .i64 a) ∧ w.cell? ⟨p, 2, none⟩ = some (.int .i64 l) ∧ w.cell? ⟨p, 8, none⟩ = some (.int .i64 kk) ∧ w.cell? ⟨p, 9, none⟩ = some (.int .i64 kn) :=
 ⟨by rw [cell_at h]; rfl, by rw [cell_at h]; rfl, by rw [cell_at h]; rfl, by rw [cell_at h]; rfl, by rw [cell_at h]; rfl⟩
set_option maxHeartbeats 8000000 in
set_option maxRecDepth 100000 in
theorem keys_is (r : ReqV) (w : World) (hF : Forms w) : Calls Tryz.prog 49 #[.agg (reqC r)] w (KeyBack (keysB r) w) := by
 have H0 := hideIt (fun W (hW : Below w.heap.size w W) => fits_is r W (hF.keep hW));have X0 := hideIt (And.intro (heap_alloc_new w (.cells (reqC r) 26)) (below1 w (.cells (reqC r) 26)));unfold keysB;cases hf : fitsB r
 ·rw [hf] at H0;rw [if_neg (by simp)];obtain ⟨k, a, l, s, d, p, n, o, ⟨kk, kn⟩, t⟩ := r;simp only [reqC] at *
  go_enter Tryz.func49, Tryz.ntmps49
  go_wp2_with fail
  refine (H0.out _ X0.out.2).mono ?_;rintro e w1 ⟨rfl, hb⟩;dsimp only;have HB := hideIt (below_via X0.out.2 hb);go_wp2;go_ret
  exact ⟨none, 0, rfl, own_nil _ _, HB.out⟩
 ·rw [hf] at H0;rw [if_pos rfl];obtain ⟨hk1, hk2⟩ := fits_kind hf;clear hf;have h5 := formK_five hk1 hk2;obtain ⟨k, a, l, s, d, p, n, o, ⟨kk, kn⟩, t⟩ := r;simp only [reqC] at *
  rcases h5 with htk | htk | htk | htk | htk
  ·rw [htk];have HR : Hid (keyT 1 ⟨k, a, l, s, d, p, n, o, (kk, kn), t⟩ = [] ++ [(1, a)]) := rfl;generalize keyT 1 ⟨k, a, l, s, d, p, n, o, (kk, kn), t⟩ = RES at *;have f1 : (bits .and .i64 1 1 != 0) = true := by kernel_rfl
   have f2 : (bits .and .i64 1 2 != 0) = false := by kernel_rfl
   have f4 : (bits .and .i64 1 4 != 0) = false := by kernel_rfl
   have f8 : (bits .and .i64 1 8 != 0) = false := by kernel_rfl
   go_enter Tryz.func49, Tryz.ntmps49
   go_wp2_with fail
   refine (H0.out _ X0.out.2).mono ?_;rintro e w1 ⟨rfl, hb⟩;dsimp only;have HX := hideIt ((hb.block _ (Array.getElem?_eq_some_iff.1 X0.out.1).1).trans X0.out.1);have HB := hideIt (below_via X0.out.2 hb);obtain ⟨r0, r1, r2, r8, r9⟩ := req_at HX.out;have c1 := (HB.out.cell (p := ⟨0, k.toNat * 2 + 1, none⟩) hF.1).trans (hF.2 k hk1 hk2).2;rw [htk] at c1;clear hb H0 X0 hF;have K0 : Hid (KeyOn w w1 (.slice none 0 0) []) := ⟨own_nil _ _, HB.out⟩;obtain ⟨a', c', w', hrun, HO', hkp⟩ := key_app K0.out (by simp) 1 a;simp only [List.length_nil, List.length_append, List.length_cons, Nat.zero_add, Nat.reduceAdd] at hrun HO';have HRUN := hideIt hrun;have K1 := hideIt HO';have HXn := hideIt (hkp _ _ _ HX.out (by decide));clear hrun HO' hkp K0
   go_wp2_with (at_builtin; refine Lib.wpList_append_run _ rfl _ _ _ _ rfl _ _ rfl rfl _ _ HRUN.out ?_)
   clear HRUN HX r0 r1 r2 r8 r9;have HX := hideIt HXn.out;clear HXn;obtain ⟨r0, r1, r2, r8, r9⟩ := req_at HX.out;go_wp2;go_ret;rw [HR.out]
   exact ⟨_, _, rfl, K1.out⟩
  ·rw [htk];have HR : Hid (keyT 2 ⟨k, a, l, s, d, p, n, o, (kk, kn), t⟩ = [] ++ [(2, l)]) := rfl;generalize keyT 2 ⟨k, a, l, s, d, p, n, o, (kk, kn), t⟩ = RES at *;have f1 : (bits .and .i64 2 1 != 0) = false := by kernel_rfl
   have f2 : (bits .and .i64 2 2 != 0) = true := by kernel_rfl
   have f4 : (bits .and .i64 2 4 != 0) = false := by kernel_rfl
   have f8 : (bits .and .i64 2 8 != 0) = false := by kernel_rfl
   go_enter Tryz.func49, Tryz.ntmps49
   go_wp2_with fail
   refine (H0.out _ X0.out.2).mono ?_;rintro e w1 ⟨rfl, hb⟩;dsimp only;have HX := hideIt ((hb.block _ (Array.getElem?_eq_some_iff.1 X0.out.1).1).trans X0.out.1);have HB := hideIt (below_via X0.out.2 hb);obtain ⟨r0, r1, r2, r8, r9⟩ := req_at HX.out;have c1 := (HB.out.cell (p := ⟨0, k.toNat * 2 + 1, none⟩) hF.1).trans (hF.2 k hk1 hk2).2;rw [htk] at c1;clear hb H0 X0 hF;have K0 : Hid (KeyOn w w1 (.slice none 0 0) []) := ⟨own_nil _ _, HB.out⟩;obtain ⟨a', c', w', hrun, HO', hkp⟩ := key_app K0.out (by simp) 2 l;simp only [List.length_nil, List.length_append, List.length_cons, Nat.zero_add, Nat.reduceAdd] at hrun HO';have HRUN := hideIt hrun;have K1 := hideIt HO';have HXn := hideIt (hkp _ _ _ HX.out (by decide));clear hrun HO' hkp K0
   go_wp2_with (at_builtin; refine Lib.wpList_append_run _ rfl _ _ _ _ rfl _ _ rfl rfl _ _ HRUN.out ?_)
   clear HRUN HX r0 r1 r2 r8 r9;have HX := hideIt HXn.out;clear HXn;obtain ⟨r0, r1, r2, r8, r9⟩ := req_at HX.out;go_wp2;go_ret;rw [HR.out]
   exact ⟨_, _, rfl, K1.out⟩
  ·rw [htk];have HR : Hid (keyT 3 ⟨k, a, l, s, d, p, n, o, (kk, kn), t⟩ = [] ++ [(1, a)] ++ [(2, l)]) := rfl;generalize keyT 3 ⟨k, a, l, s, d, p, n, o, (kk, kn), t⟩ = RES at *;have f1 : (bits .and .i64 3 1 != 0) = true := by kernel_rfl
   have f2 : (bits .and .i64 3 2 != 0) = true := by kernel_rfl
   have f4 : (bits .and .i64 3 4 != 0) = false := by kernel_rfl
   have f8 : (bits .and .i64 3 8 != 0) = false := by kernel_rfl
   go_enter Tryz.func49, Tryz.ntmps49
   go_wp2_with fail
   refine (H0.out _ X0.out.2).mono ?_;rintro e w1 ⟨rfl, hb⟩;dsimp only;have HX := hideIt ((hb.block _ (Array.getElem?_eq_some_iff.1 X0.out.1).1).trans X0.out.1);have HB := hideIt (below_via X0.out.2 hb);obtain ⟨r0, r1, r2, r8, r9⟩ := req_at HX.out;have c1 := (HB.out.cell (p := ⟨0, k.toNat * 2 + 1, none⟩) hF.1).trans (hF.2 k hk1 hk2).2;rw [htk] at c1;clear hb H0 X0 hF;have K0 : Hid (KeyOn w w1 (.slice none 0 0) []) := ⟨own_nil _ _, HB.out⟩;obtain ⟨a', c', w', hrun, HO', hkp⟩ := key_app K0.out (by simp) 1 a;simp only [List.length_nil, List.length_append, List.length_cons, Nat.zero_add, Nat.reduceAdd] at hrun HO';have HRUN := hideIt hrun;have HXn := hideIt (hkp _ _ _ HX.out (by decide));obtain ⟨s0, s1, s2, s8, s9⟩ := req_at HXn.out;obtain ⟨a2, c2, w2, hrun2, HO2, hkp2⟩ := key_app HO' (by simp) 2 l;simp only [List.length_nil, List.length_append, List.length_cons, Nat.zero_add, Nat.reduceAdd] at hrun2 HO2;have HRUN2 := hideIt hrun2;have K2 := hideIt HO2;clear hrun HO' hkp hrun2 HO2 hkp2 K0 HXn HX
   go_wp2_with (at_builtin; first | (refine Lib.wpList_append_run _ rfl _ _ _ _ rfl _ _ rfl rfl _ _ HRUN.out ?_) | (refine Lib.wpList_append_run _ rfl _ _ _ _ rfl _ _ rfl rfl _ _ HRUN2.out ?_))
   go_wp2;go_ret;rw [HR.out]
   exact ⟨_, _, rfl, K2.out⟩
  ·rw [htk];have HR : Hid (keyT 5 ⟨k, a, l, s, d, p, n, o, (kk, kn), t⟩ = [] ++ [(1, a)] ++ ([(2, 1), (2, 2), (2, 3)] : List KeyV).take 3) := rfl;generalize keyT 5 ⟨k, a, l, s, d, p, n, o, (kk, kn), t⟩ = RES at *;have f1 : (bits .and .i64 5 1 != 0) = true := by kernel_rfl
   have f2 : (bits .and .i64 5 2 != 0) = false := by kernel_rfl
   have f4 : (bits .and .i64 5 4 != 0) = true := by kernel_rfl
   have f8 : (bits .and .i64 5 8 != 0) = false := by kernel_rfl
   go_enter Tryz.func49, Tryz.ntmps49
   go_wp2_with fail
   refine (H0.out _ X0.out.2).mono ?_;rintro e w1 ⟨rfl, hb⟩;dsimp only;have HX := hideIt ((hb.block _ (Array.getElem?_eq_some_iff.1 X0.out.1).1).trans X0.out.1);have HB := hideIt (below_via X0.out.2 hb);obtain ⟨r0, r1, r2, r8, r9⟩ := req_at HX.out;have c1 := (HB.out.cell (p := ⟨0, k.toNat * 2 + 1, none⟩) hF.1).trans (hF.2 k hk1 hk2).2;rw [htk] at c1;clear hb H0 X0 hF;have K0 : Hid (KeyOn w w1 (.slice none 0 0) []) := ⟨own_nil _ _, HB.out⟩;obtain ⟨a', c', w', hrun, HO', hkp⟩ := key_app K0.out (by simp) 1 a;simp only [List.length_nil, List.length_append, List.length_cons, Nat.zero_add, Nat.reduceAdd] at hrun HO';have HRUN := hideIt hrun;have K1 := hideIt HO';have HXn := hideIt (hkp _ _ _ HX.out (by decide));clear hrun HO' hkp K0
   go_wp2_with (at_builtin; refine Lib.wpList_append_run _ rfl _ _ _ _ rfl _ _ rfl rfl _ _ HRUN.out ?_)
   clear HRUN HX r0 r1 r2 r8 r9;have HX := hideIt HXn.out;clear HXn;obtain ⟨r0, r1, r2, r8, r9⟩ := req_at HX.out;go_wp2
   go_loopw [3, 35] (fun u x wr => ∃ t : Nat, ∃ ra rc, u = .slice ra (1 + t) rc ∧ x = .int .i64 t ∧ t ≤ 3 ∧ Hid (KeyOn w wr (.slice ra (1 + t) rc) ([] ++ [(1, a)] ++ ([(2, 1), (2, 2), (2, 3)] : List KeyV).take t))) (fun _ x _ => 3 - (intOf x).toNat)
   case atStart => exact ⟨0, _, _, rfl, rfl, by omega, K1⟩
   case round =>
    clear K1;obtain ⟨t, ra, rc, rfl, rfl, ht, HK⟩ := hrel
    by_cases hlt : t < 3
    ·have hltI : (t : Int) < 3 := by omega
     have ht0 : (0 : Int) ≤ (t : Int) := by omega
     have hw : IntKind.i64.wrap ((t : Int) + 1) = (t : Int) + 1 := by rw [IntKind.wrap_i64]; omega
     obtain ⟨a', c', w', hrun, HO', -⟩ := key_app HK.out (by simp; omega) 2 ((t : Int) + 1)
     have e1 : [] ++ [(1, a)] ++ ([(2, 1), (2, 2), (2, 3)] : List KeyV).take t ++ [(2, (t : Int) + 1)] = [] ++ [(1, a)] ++ ([(2, 1), (2, 2), (2, 3)] : List KeyV).take (t + 1) := by
      have : t = 0 ∨ t = 1 ∨ t = 2 := by omega
      rcases this with rfl | rfl | rfl <;> rfl
     have e2 : ([] ++ [(1, a)] ++ ([(2, 1), (2, 2), (2, 3)] : List KeyV).take t).length + 1 = 1 + (t + 1) := by
      simp
      omega
     rw [e1, e2] at HO';rw [e2] at hrun;have HRUN := hideIt hrun;have HN := hideIt HO';clear hrun HO' e1 e2 HK
     go_wp2_with (at_builtin; refine Lib.wpList_append_run _ rfl _ _ _ _ rfl _ _ rfl rfl _ _ HRUN.out ?_)
     clear HRUN;go_wp2
     go_roundw
     case rel => exact ⟨t + 1, _, _, rfl, by go_num, by omega, HN⟩
     case measure => simp [intOf]; omega
    ·have hltI : ¬ (t : Int) < 3 := by omega
     have h3 : t = 3 := by omega
     subst h3;go_wp2;go_ret;rw [HR.out]
     exact ⟨_, _, rfl, HK.out⟩
  ·rw [htk];have HR : Hid (keyT 8 ⟨k, a, l, s, d, p, n, o, (kk, kn), t⟩ = [] ++ [(kk, kn)]) := rfl;generalize keyT 8 ⟨k, a, l, s, d, p, n, o, (kk, kn), t⟩ = RES at *;have f1 : (bits .and .i64 8 1 != 0) = false := by kernel_rfl
   have f2 : (bits .and .i64 8 2 != 0) = false := by kernel_rfl
   have f4 : (bits .and .i64 8 4 != 0) = false := by kernel_rfl
   have f8 : (bits .and .i64 8 8 != 0) = true := by kernel_rfl
   go_enter Tryz.func49, Tryz.ntmps49
   go_wp2_with fail
   refine (H0.out _ X0.out.2).mono ?_;rintro e w1 ⟨rfl, hb⟩;dsimp only;have HX := hideIt ((hb.block _ (Array.getElem?_eq_some_iff.1 X0.out.1).1).trans X0.out.1);have HB := hideIt (below_via X0.out.2 hb);obtain ⟨r0, r1, r2, r8, r9⟩ := req_at HX.out;have c1 := (HB.out.cell (p := ⟨0, k.toNat * 2 + 1, none⟩) hF.1).trans (hF.2 k hk1 hk2).2;rw [htk] at c1;clear hb H0 X0 hF;have K0 : Hid (KeyOn w w1 (.slice none 0 0) []) := ⟨own_nil _ _, HB.out⟩;obtain ⟨a', c', w', hrun, HO', hkp⟩ := key_app K0.out (by simp) kk kn;simp only [List.length_nil, List.length_append, List.length_cons, Nat.zero_add, Nat.reduceAdd] at hrun HO';have HRUN := hideIt hrun;have K1 := hideIt HO';have HXn := hideIt (hkp _ _ _ HX.out (by decide));clear hrun HO' hkp K0
   go_wp2_with (at_builtin; refine Lib.wpList_append_run _ rfl _ _ _ _ rfl _ _ rfl rfl _ _ HRUN.out ?_)
   clear HRUN HX r0 r1 r2 r8 r9;have HX := hideIt HXn.out;clear HXn;obtain ⟨r0, r1, r2, r8, r9⟩ := req_at HX.out;go_wp2;go_ret;rw [HR.out]
   exact ⟨_, _, rfl, K1.out⟩
end Go.Proofs.YtiinigifjdpicaaGreatDoor.Se
