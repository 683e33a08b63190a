/- The statement on a log that is sent entries, walked. -/
import Derived.Test.YtonhoopmhkomcaaSp
import Derived.Test.YtonhoopmhkomcaaSnt
import Derived.Test.YtonhoopmhkomcaaRAccM
namespace Go.Proofs.Ytonhoopmhkomcaa
open Go.RowKit
/-- The log and what is sent in their boxes, both copied. -/
structure LAO (w : World) (k1 : Nat) (L : LogV) (g g1 : Value) (pi pt : Int) (k ge : Value) (es : List EntV) (cc : Int) (wx : World) : Prop where
  ls : LS w L g pi pt k es cc wx
  e1 : Ent wx k1 L g1
  eg : EGot wx ge es
theorem LAO.keep {w wx wy : World} {k1 : Nat} {L : LogV} {g g1 : Value} {pi pt : Int} {k ge : Value} {es : List EntV} {cc : Int} (h : LAO w k1 L g g1 pi pt k ge es cc wx) (hb : Below wx.heap.size wx wy) : LAO w k1 L g g1 pi pt k ge es cc wy :=
  ⟨h.ls.keep hb, h.e1.keep hb, h.eg.keep hb⟩
set_option maxHeartbeats 64000000 in
set_option maxRecDepth 100000 in
theorem accept_walk (L : LogV) (g k : Value) (pi pt : Int) (es : List EntV) (cc : Int) (w : World) (h : EGot w g L.l) (hk : EGot w k es) (hes : es.length * 32 ≤ 140737488355328) : Calls Try.prog 5 #[logV L g, .agg (sntA pi pt k cc)] w fun e w' => e = .returned (.bool true) ∧ Below w.heap.size w w' := by
  have HL := hideIt (fun W => live8_is W)
  have S0 := hideIt (LS.first pi pt cc h hk)
  have HCO := hideIt (fun W (hW : EGot W g L.l) => copy_is L g W hW)
  have HC1 := hideIt (fun W gx kx (hW : EGot W gx L.l) (hV : EGot W kx es) => accept_is L gx kx pi pt es cc W hW hV)
  have HC2 := hideIt (fun W (hW : EGot W g L.l) (hV : EGot W k es) => rAccept_is L g k pi pt es cc W hW hV (by omega))
  have HRA := hideIt (fun W (hV : EGot W k es) => run_app W 24 W.heap.size (.slice none 0 0) [] es k (Nat.le_refl _) (own_nil _ _) hV (by rw [List.length_nil]; omega))
  have HSE := hideIt (fun W gx kx (hW : EGot W gx es) (hV : EGot W kx es) => sameEnts_is gx kx es W hW hV)
  have l1 := acc_len L pi pt es cc
  have h8 := h.1
  have HLN := hideIt h.1
  have HEN := hideIt hk.1
  generalize accL L pi pt es cc = XX at *
  obtain ⟨X, nn, ok, x⟩ := XX
  simp only at l1
  have LX : Hid (X.l.length * 32 ≤ 150000000000000) := by
    show _ ≤ _
    omega
  have HSX := hideIt (fun gy gz W hy hz => same_is X gy gz W hy hz)
  have HS0 := hideIt (fun gy gz W hy hz => same_is L gy gz W hy hz)
  have hnn : (nn != nn) = false := by simp
  have hoo : (ok != ok) = false := by simp
  have hxx : (x != x) = false := by simp
  unfold AccBack at HC1 HC2
  unfold LogBack at HCO
  obtain ⟨ga, gc, rfl⟩ := h.slice
  obtain ⟨ka, kc, rfl⟩ := hk.slice
  have KG := hideIt (EGot.blk h)
  have KK := hideIt (EGot.blk hk)
  unfold logV logA sntA at *
  obtain ⟨bi, bt, l, cm⟩ := L
  simp only at HCO HC1 HC2 HS0 S0 HLN KG ⊢
  clear h hk h8 l1 hes
  go_enter Try.func5, Try.ntmps5
  go_upto_region 1 with fail
  generalize (w.alloc (.cells #[.int .i64 bi, .int .i64 bt, .slice ga l.length gc, .int .i64 cm] 26)).alloc (.cells #[.int .i64 pi, .int .i64 pt, .slice ka es.length kc, .int .i64 cc] 45) = wa at *
  obtain ⟨b0, b1, b2, b3⟩ := S0.out.log.cells
  simp only at b0 b1 b2 b3
  go_wp2_with fail
  refine (HCO.out _ S0.out.log.got).mono ?_
  rintro e w1 ⟨go, rfl, ho, hbl⟩
  dsimp only
  obtain ⟨oa, oc, rfl⟩ := own_len ho
  have C1 := hideIt (below_via hbl (below1 w1 (.cells #[.int .i64 bi, .int .i64 bt, .slice oa l.length oc, .int .i64 cm] 26)))
  have S1 := hideIt (S0.out.keep C1.out)
  have E1 : Hid (Ent (w1.alloc (.cells #[.int .i64 bi, .int .i64 bt, .slice oa l.length oc, .int .i64 cm] 26)) w1.heap.size ⟨bi, bt, l, cm⟩ (.slice oa l.length oc)) := Ent.new (L := ⟨bi, bt, l, cm⟩) ho HLN.out
  clear ho hbl HCO C1 S0 b0 b1 b2 b3
  go_upto_region 2 with fail
  generalize w1.alloc (.cells #[.int .i64 bi, .int .i64 bt, .slice oa l.length oc, .int .i64 cm] 26) = w2 at *
  generalize w1.heap.size = k1 at *
  obtain ⟨v6, w3, hrun, how, hgr⟩ := HRA.out w2 S1.out.got
  rw [List.nil_append] at how
  obtain ⟨va, vc, rfl⟩ := own_len how
  have hbl := grown_none hgr
  have V3 : Hid (LAO w k1 ⟨bi, bt, l, cm⟩ (.slice ga l.length gc) (.slice oa l.length oc) pi pt (.slice ka es.length kc) (.slice va es.length vc) es cc w3) := ⟨S1.out.keep hbl, E1.out.keep hbl, own_egot how HEN.out⟩
  have HRUN := hideIt hrun
  obtain ⟨s0, s1, s2, s3⟩ := S1.out.cells
  clear hrun how hgr hbl HRA S1 E1 s0 s1 s3
  obtain ⟨c0, c1, c2, c3⟩ := V3.out.e1.cells
  obtain ⟨d0, d1, d2, d3⟩ := V3.out.ls.cells
  obtain ⟨b0, b1, b2, b3⟩ := V3.out.ls.log.cells
  simp only at c0 c1 c2 c3 d0 d1 d2 d3 b0 b1 b2 b3
  go_wp2_with (at_builtin; refine wpList_append_run _ rfl _ _ rfl rfl rfl rfl HRUN.out ?_)
  clear HRUN s2
  have KO := hideIt (EGot.blk V3.out.e1.got)
  have KE := hideIt V3.out.ls.log.lt
  have K1 := hideIt V3.out.e1.lt
  have KS := hideIt ((Array.getElem?_eq_some_iff.1 V3.out.ls.snt).1)
  have KV := hideIt (EGot.blk V3.out.eg)
  try simp only at KO
  go_wp2_with fail
  refine (HC1.out _ _ _ V3.out.e1.got V3.out.eg).mono ?_
  rintro e w4 ⟨gx, rfl, ho, hbl⟩
  dsimp only
  obtain ⟨xa, xc, rfl⟩ := own_len ho
  have C4 := hideIt (below_via hbl (below1 w4 (.cells #[.int .i64 X.bi, .int .i64 X.bt, .slice xa X.l.length xc, .int .i64 X.cm] 26)))
  have V4 := hideIt (V3.out.keep C4.out)
  have X4 := hideIt (Ent.new ho LX.out)
  have O4 := hideIt (own_keep ho (below1 w4 (.cells #[.int .i64 X.bi, .int .i64 X.bt, .slice xa X.l.length xc, .int .i64 X.cm] 26)))
  clear ho hbl HC1 C4 V3
  clear c0 c1 c2 c3 d0 d1 d2 d3 b0 b1 b2 b3
  go_upto_region 5 with fail
  unfold logA at X4
  generalize w4.alloc (.cells #[.int .i64 X.bi, .int .i64 X.bt, .slice xa X.l.length xc, .int .i64 X.cm] 26) = w5 at *
  generalize w4.heap.size = k4 at *
  obtain ⟨c0, c1, c2, c3⟩ := V4.out.e1.cells
  obtain ⟨d0, d1, d2, d3⟩ := V4.out.ls.cells
  obtain ⟨b0, b1, b2, b3⟩ := V4.out.ls.log.cells
  simp only at c0 c1 c2 c3 d0 d1 d2 d3 b0 b1 b2 b3
  go_wp2_with fail
  refine (HC2.out _ V4.out.ls.log.got V4.out.ls.got).mono ?_
  rintro e w6 ⟨gy, rfl, ho, hbl⟩
  dsimp only
  obtain ⟨ya, yc, rfl⟩ := own_len ho
  have C6 := hideIt (below_via hbl (below1 w6 (.cells #[.int .i64 X.bi, .int .i64 X.bt, .slice ya X.l.length yc, .int .i64 X.cm] 26)))
  have V6 := hideIt (V4.out.keep C6.out)
  have X6 := hideIt (X4.out.keep C6.out)
  have O6 := hideIt (own_keep O4.out C6.out)
  have Y6 := hideIt (Ent.new ho LX.out)
  clear ho hbl HC2 C6 V4 X4 O4
  clear c0 c1 c2 c3 d0 d1 d2 d3 b0 b1 b2 b3
  go_upto_region 6 with fail
  unfold logA at Y6
  generalize w6.alloc (.cells #[.int .i64 X.bi, .int .i64 X.bt, .slice ya X.l.length yc, .int .i64 X.cm] 26) = w7 at *
  generalize w6.heap.size = k6 at *
  obtain ⟨f0, f1, f2, f3⟩ := X6.out.cells
  obtain ⟨g0, g1, g2, g3⟩ := Y6.out.cells
  go_wp2_with fail
  refine (HSX.out _ _ _ X6.out.got Y6.out.got).mono ?_
  rintro e w8 ⟨rfl, hbl⟩
  dsimp only
  have V8 := hideIt (V6.out.keep hbl)
  have X8 := hideIt (X6.out.keep hbl)
  have O8 := hideIt (own_keep O6.out hbl)
  clear hbl HSX V6 X6 O6 Y6 f0 f1 f2 f3 g0 g1 g2 g3
  obtain ⟨c0, c1, c2, c3⟩ := V8.out.e1.cells
  obtain ⟨d0, d1, d2, d3⟩ := V8.out.ls.cells
  obtain ⟨b0, b1, b2, b3⟩ := V8.out.ls.log.cells
  simp only at c0 c1 c2 c3 d0 d1 d2 d3 b0 b1 b2 b3
  go_wp2_with fail
  refine (HS0.out _ _ _ V8.out.e1.got V8.out.ls.log.got).mono ?_
  rintro e w9 ⟨rfl, hbl⟩
  dsimp only
  have V9 := hideIt (V8.out.keep hbl)
  have X9 := hideIt (X8.out.keep hbl)
  have O9 := hideIt (own_keep O8.out hbl)
  clear hbl V8 X8 O8
  clear c0 c1 c2 c3 d0 d1 d2 d3 b0 b1 b2 b3
  obtain ⟨c0, c1, c2, c3⟩ := V9.out.e1.cells
  obtain ⟨d0, d1, d2, d3⟩ := V9.out.ls.cells
  obtain ⟨b0, b1, b2, b3⟩ := V9.out.ls.log.cells
  simp only at c0 c1 c2 c3 d0 d1 d2 d3 b0 b1 b2 b3
  go_wp2_with fail
  refine (HSE.out _ _ _ V9.out.eg V9.out.ls.got).mono ?_
  rintro e w10 ⟨rfl, hbl⟩
  dsimp only
  have V10 := hideIt (V9.out.keep hbl)
  have X10 := hideIt (X9.out.keep hbl)
  have O10 := hideIt (own_keep O9.out hbl)
  clear hbl V9 X9 O9
  clear c0 c1 c2 c3 d0 d1 d2 d3 b0 b1 b2 b3
  obtain ⟨f0, f1, f2, f3⟩ := X10.out.cells
  have HSP := hideIt (spoil_is _ X.l w3.heap.size w10 O10.out LX.out)
  go_wp2_with fail
  refine HSP.out.mono ?_
  rintro e w11 ⟨rfl, hout⟩
  dsimp only
  have ke := KE.out
  have kk := K1.out
  have ks := KS.out
  have E11 : Hid (Ent w11 w.heap.size ⟨bi, bt, l, cm⟩ (.slice ga l.length gc)) := Ent.turn (L := ⟨bi, bt, l, cm⟩) V10.out.ls.log hout (by omega) (fun hp b off x => by have := KG.out hp b off x; omega)
  have O11 : Hid (Ent w11 k1 ⟨bi, bt, l, cm⟩ (.slice oa l.length oc)) := Ent.turn (L := ⟨bi, bt, l, cm⟩) V10.out.e1 hout (by omega) (fun hp b off x => by have := KO.out hp b off x; omega)
  have G11 := hideIt (EGot.turn V10.out.eg hout (fun hp b off x => by have := KV.out hp b off x; omega))
  have K11 := hideIt (EGot.turn V10.out.ls.got hout (fun hp b off x => by have := KK.out hp b off x; omega))
  have S11 : Hid (w11.heap[w.heap.size + 1]? = some (.cells #[.int .i64 pi, .int .i64 pt, .slice ka es.length kc, .int .i64 cc] 45 (0, 0))) := (hout.block _ (Array.getElem?_eq_some_iff.1 V10.out.ls.snt).1 (by omega)).trans V10.out.ls.snt
  have B11 := hideIt (below_out V10.out.ls.bel hout (fun k hk => by omega))
  clear hout HSP O10 X10 V10 ke kk ks f0 f1 f2 f3
  obtain ⟨c0, c1, c2, c3⟩ := E11.out.cells
  obtain ⟨d0, d1, d2, d3⟩ := O11.out.cells
  simp only at c0 c1 c2 c3 d0 d1 d2 d3
  go_wp2_with fail
  refine (HS0.out _ _ _ O11.out.got E11.out.got).mono ?_
  rintro e w12 ⟨rfl, hbl⟩
  dsimp only
  have B12 := hideIt (below_via B11.out hbl)
  have G12 := hideIt (G11.out.keep hbl)
  have K12 := hideIt (K11.out.keep hbl)
  have S12 := (hbl.block _ (Array.getElem?_eq_some_iff.1 S11.out).1).trans S11.out
  have s2 : w12.cell? ⟨w.heap.size + 1, 2, none⟩ = some (.slice ka es.length kc) := by rw [cell_at S12]; rfl
  clear hbl c0 c1 c2 c3 d0 d1 d2 d3 S12 S11
  go_wp2_with fail
  refine (HSE.out _ _ _ G12.out K12.out).mono ?_
  rintro e w13 ⟨rfl, hbl⟩
  dsimp only
  have B13 := hideIt (below_via B12.out hbl)
  clear hbl s2
  go_wp2_with fail
  refine (HL.out _).mono ?_
  rintro e w14 ⟨rfl, hbl⟩
  dsimp only
  have HB := hideIt (below_via B13.out hbl)
  clear hbl
  go_wp2
  go_ret
  exact ⟨rfl, HB.out⟩
end Go.Proofs.Ytonhoopmhkomcaa
