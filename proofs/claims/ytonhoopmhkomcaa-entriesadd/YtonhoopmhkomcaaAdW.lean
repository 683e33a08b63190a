/- The statement on a log with an entry behind it, walked. -/
import Derived.Test.YtonhoopmhkomcaaSp
import Derived.Test.YtonhoopmhkomcaaRAdd
namespace Go.Proofs.Ytonhoopmhkomcaa
open Go.RowKit
theorem add_len (L : LogV) (e : EntV) : (addL L e).1.l.length * 32 ≤ 140737488355328 := by
  unfold addL
  cases hm : mayB L
  · simp [zL]
  · have := (mayB_in hm).2.2.1
    rw [if_neg (by simp)]
    repeat' split
    all_goals first | (simp [zL]; done) | (simp only [List.length_append, List.length_singleton]; omega)
/-- The log and the entry in their boxes, the own one in another. -/
structure LEO (w : World) (k1 : Nat) (L : LogV) (g g1 : Value) (e : EntV) (wx : World) : Prop where
  e0 : Ent wx w.heap.size L g
  en : wx.heap[w.heap.size + 1]? = some (.cells (entA e) 40 (0, 0))
  e1 : Ent wx k1 L g1
  bel : Below w.heap.size w wx
theorem LEO.keep {w wx wy : World} {k1 : Nat} {L : LogV} {g g1 : Value} {e : EntV} (h : LEO w k1 L g g1 e wx) (hb : Below wx.heap.size wx wy) : LEO w k1 L g g1 e wy :=
  ⟨h.e0.keep hb, (hb.block _ (Array.getElem?_eq_some_iff.1 h.en).1).trans h.en, h.e1.keep hb, below_via h.bel hb⟩
theorem LEO.cells {w wx : World} {k1 : Nat} {L : LogV} {g g1 : Value} {e : EntV} (h : LEO w k1 L g g1 e wx) : wx.cell? ⟨w.heap.size + 1, 0, none⟩ = some (.int .i64 e.term) ∧ wx.cell? ⟨w.heap.size + 1, 1, none⟩ = some (.int .i64 e.kind) ∧ wx.cell? ⟨w.heap.size + 1, 2, none⟩ = some (.string e.text) :=
  ⟨by rw [cell_at h.en]; rfl, by rw [cell_at h.en]; rfl, by rw [cell_at h.en]; rfl⟩
set_option maxHeartbeats 16000000 in
set_option maxRecDepth 100000 in
theorem add_walk (L : LogV) (g : Value) (e : EntV) (w : World) (h : EGot w g L.l) : Calls Try.prog 4 #[logV L g, .agg (entA e)] w fun x w' => x = .returned (.bool true) ∧ Below w.heap.size w w' := by
  have HL := hideIt (fun W => live8_is W)
  have hX := two_heap w (.cells (logA L g) 26) (.cells (entA e) 40)
  have hB2 := below2 w (.cells (logA L g) 26) (.cells (entA e) 40)
  have E0 : Hid (Ent ((w.alloc (.cells (logA L g) 26)).alloc (.cells (entA e) 40)) w.heap.size L g) := ⟨hX.1, h.keep hB2⟩
  have N0 := hideIt hX.2.1
  have B0 := hideIt hB2
  have HCO := hideIt (copy_is L g _ E0.out.got)
  have HLN := hideIt h.1
  have KG := hideIt (fun ga gc (x : g = .slice ga L.l.length gc) => EGot.blk (w := w) (x ▸ h))
  have HA1 := hideIt (fun W gx (hW : EGot W gx L.l) => add_is L gx e W hW)
  have HA2 := hideIt (fun W gx (hW : EGot W gx L.l) => rAdd_is L gx e W hW)
  have hal := add_len L e
  generalize addL L e = XX at *
  obtain ⟨X, x⟩ := XX
  have HSX := hideIt (fun g k W hg hk => same_is X g k W hg hk)
  have HS0 := hideIt (fun g k W hg hk => same_is L g k W hg hk)
  have hxx : (x != x) = false := by simp
  simp only at hal
  unfold LogErr at HA1 HA2
  unfold LogBack at HCO
  obtain ⟨ga, gc, rfl⟩ := h.slice
  replace KG := hideIt (KG.out ga gc rfl)
  have h8 := h.1
  clear h hX hB2
  unfold logV logA at *
  obtain ⟨bi, bt, l, cm⟩ := L
  obtain ⟨et, ek, ex⟩ := e
  unfold entA at *
  simp only at HCO HA1 HA2 HS0 E0 N0 B0 HLN KG ⊢
  have LX := hideIt hal
  clear hal h8
  go_enter Try.func4, Try.ntmps4
  go_upto_region 1 with fail
  generalize (w.alloc (.cells #[.int .i64 bi, .int .i64 bt, .slice ga l.length gc, .int .i64 cm] 26)).alloc (.cells #[.int .i64 et, .int .i64 ek, .string ex] 40) = wa at *
  obtain ⟨c0, c1, c2, c3⟩ := E0.out.cells
  simp only at c0 c1 c2 c3
  go_wp2_with fail
  refine HCO.out.mono ?_
  rintro e w1 ⟨go, rfl, ho, hbl⟩
  dsimp only
  obtain ⟨oa, oc, rfl⟩ := own_len ho
  have C1 := hideIt (below_via hbl (below1 w1 (.cells #[.int .i64 bi, .int .i64 bt, .slice oa l.length oc, .int .i64 cm] 26)))
  have V1 : Hid (LEO w w1.heap.size ⟨bi, bt, l, cm⟩ (.slice ga l.length gc) (.slice oa l.length oc) ⟨et, ek, ex⟩ (w1.alloc (.cells #[.int .i64 bi, .int .i64 bt, .slice oa l.length oc, .int .i64 cm] 26))) := ⟨E0.out.keep C1.out, (C1.out.block _ (Array.getElem?_eq_some_iff.1 N0.out).1).trans N0.out, Ent.new (L := ⟨bi, bt, l, cm⟩) ho HLN.out, below_via B0.out C1.out⟩
  clear ho hbl HCO C1 E0 N0 B0 c0 c1 c2 c3
  go_upto_region 2 with fail
  generalize w1.alloc (.cells #[.int .i64 bi, .int .i64 bt, .slice oa l.length oc, .int .i64 cm] 26) = w2 at *
  generalize w1.heap.size = k1 at *
  have KO := hideIt (EGot.blk V1.out.e1.got)
  try simp only at KO
  have KE := hideIt V1.out.e0.lt
  have KK := hideIt V1.out.e1.lt
  obtain ⟨c0, c1, c2, c3⟩ := V1.out.e1.cells
  obtain ⟨d0, d1, d2⟩ := V1.out.cells
  simp only at c0 c1 c2 c3 d0 d1 d2
  go_wp2_with fail
  refine (HA1.out _ _ V1.out.e1.got).mono ?_
  rintro e w3 ⟨gx, rfl, ho, hbl⟩
  dsimp only
  obtain ⟨xa, xc, rfl⟩ := own_len ho
  have C3 := hideIt (below_via hbl (below1 w3 (.cells #[.int .i64 X.bi, .int .i64 X.bt, .slice xa X.l.length xc, .int .i64 X.cm] 26)))
  have V3 := hideIt (V1.out.keep C3.out)
  have X3 := hideIt (Ent.new ho LX.out)
  have O3 := hideIt (own_keep ho (below1 w3 (.cells #[.int .i64 X.bi, .int .i64 X.bt, .slice xa X.l.length xc, .int .i64 X.cm] 26)))
  clear ho hbl HA1 C3 V1 c0 c1 c2 c3 d0 d1 d2
  go_upto_region 3 with fail
  unfold logA at X3
  generalize w3.alloc (.cells #[.int .i64 X.bi, .int .i64 X.bt, .slice xa X.l.length xc, .int .i64 X.cm] 26) = w4 at *
  generalize w3.heap.size = k3 at *
  obtain ⟨c0, c1, c2, c3⟩ := V3.out.e0.cells
  obtain ⟨d0, d1, d2⟩ := V3.out.cells
  simp only at c0 c1 c2 c3 d0 d1 d2
  go_wp2_with fail
  refine (HA2.out _ _ V3.out.e0.got).mono ?_
  rintro e w5 ⟨gy, rfl, ho, hbl⟩
  dsimp only
  obtain ⟨ya, yc, rfl⟩ := own_len ho
  have C5 := hideIt (below_via hbl (below1 w5 (.cells #[.int .i64 X.bi, .int .i64 X.bt, .slice ya X.l.length yc, .int .i64 X.cm] 26)))
  have V5 := hideIt (V3.out.keep C5.out)
  have X5 := hideIt (X3.out.keep C5.out)
  have O5 := hideIt (own_keep O3.out C5.out)
  have Y5 := hideIt (Ent.new ho LX.out)
  clear ho hbl HA2 C5 V3 X3 O3 c0 c1 c2 c3 d0 d1 d2
  go_upto_region 4 with fail
  unfold logA at Y5
  generalize w5.alloc (.cells #[.int .i64 X.bi, .int .i64 X.bt, .slice ya X.l.length yc, .int .i64 X.cm] 26) = w6 at *
  generalize w5.heap.size = k5 at *
  obtain ⟨c0, c1, c2, c3⟩ := X5.out.cells
  obtain ⟨d0, d1, d2, d3⟩ := Y5.out.cells
  go_wp2_with fail
  refine (HSX.out _ _ _ X5.out.got Y5.out.got).mono ?_
  rintro e w7 ⟨rfl, hbl⟩
  dsimp only
  have V7 := hideIt (V5.out.keep hbl)
  have X7 := hideIt (X5.out.keep hbl)
  have O7 := hideIt (own_keep O5.out hbl)
  clear hbl HSX V5 X5 O5 Y5 c0 c1 c2 c3 d0 d1 d2 d3
  obtain ⟨c0, c1, c2, c3⟩ := V7.out.e1.cells
  obtain ⟨d0, d1, d2, d3⟩ := V7.out.e0.cells
  simp only at c0 c1 c2 c3 d0 d1 d2 d3
  go_wp2_with fail
  refine (HS0.out _ _ _ V7.out.e1.got V7.out.e0.got).mono ?_
  rintro e w8 ⟨rfl, hbl⟩
  dsimp only
  have V8 := hideIt (V7.out.keep hbl)
  have X8 := hideIt (X7.out.keep hbl)
  have O8 := hideIt (own_keep O7.out hbl)
  clear hbl V7 X7 O7 c0 c1 c2 c3 d0 d1 d2 d3
  obtain ⟨c0, c1, c2, c3⟩ := X8.out.cells
  have HSP := hideIt (spoil_is _ X.l w2.heap.size w8 O8.out LX.out)
  go_wp2_with fail
  refine HSP.out.mono ?_
  rintro e w9 ⟨rfl, hout⟩
  dsimp only
  have ke := KE.out
  have kk := KK.out
  have E9 : Hid (Ent w9 w.heap.size ⟨bi, bt, l, cm⟩ (.slice ga l.length gc)) := Ent.turn (L := ⟨bi, bt, l, cm⟩) V8.out.e0 hout (by omega) (fun hp b off x => by have := KG.out hp b off x; omega)
  have O9 : Hid (Ent w9 k1 ⟨bi, bt, l, cm⟩ (.slice oa l.length oc)) := Ent.turn (L := ⟨bi, bt, l, cm⟩) V8.out.e1 hout (by omega) (fun hp b off x => by have := KO.out hp b off x; omega)
  have B9 := hideIt (below_out V8.out.bel hout (fun k hk => by omega))
  clear hout HSP O8 X8 V8 ke kk c0 c1 c2 c3
  obtain ⟨c0, c1, c2, c3⟩ := E9.out.cells
  obtain ⟨d0, d1, d2, d3⟩ := O9.out.cells
  simp only at c0 c1 c2 c3 d0 d1 d2 d3
  go_wp2_with fail
  refine (HS0.out _ _ _ O9.out.got E9.out.got).mono ?_
  rintro e w10 ⟨rfl, hbl⟩
  dsimp only
  have B10 := hideIt (below_via B9.out hbl)
  clear hbl c0 c1 c2 c3 d0 d1 d2 d3
  go_wp2_with fail
  refine (HL.out _).mono ?_
  rintro e w11 ⟨rfl, hbl⟩
  dsimp only
  have HB := hideIt (below_via B10.out hbl)
  clear hbl
  go_wp2
  go_ret
  exact ⟨rfl, HB.out⟩
end Go.Proofs.Ytonhoopmhkomcaa
