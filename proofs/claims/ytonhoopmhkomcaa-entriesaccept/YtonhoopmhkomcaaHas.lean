/- Whether a log has a mark; how many entries change nothing: the program. -/
import Derived.Test.YtonhoopmhkomcaaAccP
namespace Go.Proofs.Ytonhoopmhkomcaa
open Go.RowKit
/-- A log's box and a mark's. -/
structure LM (w : World) (L : LogV) (g : Value) (i t : Int) (wx : World) : Prop where
  box : wx.heap[w.heap.size]? = some (.cells (logA L g) 26 (0, 0))
  mrk : wx.heap[w.heap.size + 1]? = some (.cells #[.int .i64 i, .int .i64 t] 23 (0, 0))
  bel : Below w.heap.size w wx
theorem LM.first (w : World) (L : LogV) (g : Value) (i t : Int) : LM w L g i t ((w.alloc (.cells (logA L g) 26)).alloc (.cells #[.int .i64 i, .int .i64 t] 23)) := by
  have ht := two_heap w (.cells (logA L g) 26) (.cells #[.int .i64 i, .int .i64 t] 23)
  exact ⟨ht.1, ht.2.1, below2 w _ _⟩
theorem LM.size {w wx : World} {L : LogV} {g : Value} {i t : Int} (h : LM w L g i t wx) : w.heap.size + 2 ≤ wx.heap.size := (Array.getElem?_eq_some_iff.1 h.mrk).1
theorem LM.keep {w wx wy : World} {L : LogV} {g : Value} {i t : Int} (h : LM w L g i t wx) (hb : Below wx.heap.size wx wy) : LM w L g i t wy := by
  have := h.size
  exact ⟨(hb.block _ (by omega)).trans h.box, (hb.block _ (by omega)).trans h.mrk, below_via h.bel hb⟩
theorem LM.cells {w wx : World} {L : LogV} {g : Value} {i t : Int} (h : LM w L g i t wx) : wx.cell? ⟨w.heap.size, 0, none⟩ = some (.int .i64 L.bi) ∧ wx.cell? ⟨w.heap.size, 1, none⟩ = some (.int .i64 L.bt) ∧ wx.cell? ⟨w.heap.size, 2, none⟩ = some g ∧ wx.cell? ⟨w.heap.size, 3, none⟩ = some (.int .i64 L.cm) ∧ wx.cell? ⟨w.heap.size + 1, 0, none⟩ = some (.int .i64 i) ∧ wx.cell? ⟨w.heap.size + 1, 1, none⟩ = some (.int .i64 t) :=
  ⟨by rw [cell_at h.box]; rfl, by rw [cell_at h.box]; rfl, by rw [cell_at h.box]; rfl, by rw [cell_at h.box]; rfl, by rw [cell_at h.mrk]; rfl, by rw [cell_at h.mrk]; rfl⟩
set_option maxHeartbeats 8000000 in
set_option maxRecDepth 100000 in
theorem hasMark_is (L : LogV) (g : Value) (i t : Int) (w : World) (h : EGot w g L.l) (hn : Near L) : Calls Try.prog 43 #[logV L g, .agg #[.int .i64 i, .int .i64 t]] w fun e w' => e = .returned (.bool (hasM L i t)) ∧ Below w.heap.size w w' := by
  have T0 := hideIt (LM.first w L g i t)
  have H1 := hideIt (markAt_is L g i _ (h.keep T0.out.bel) hn)
  unfold hasM
  unfold MarkBack at H1
  generalize markL L i = mk at *
  obtain ⟨⟨mi, mt⟩, mo⟩ := mk
  obtain ⟨a, c, rfl⟩ : ∃ a c, g = .slice a L.l.length c := by
    obtain ⟨a, c, e, _⟩ := h.open
    exact ⟨a, c, e⟩
  unfold logV logA at *
  obtain ⟨bi, bt, l, cm⟩ := L
  simp only at H1 T0 ⊢
  have n1 := eq23 mi mt i t
  clear h hn
  cases mo
  · go_enter Try.func43, Try.ntmps43
    go_wp2_with fail
    refine H1.out.mono ?_
    rintro e w1 ⟨rfl, hbl⟩
    dsimp only
    have T1 := hideIt (T0.out.keep (below_via hbl (below1 w1 (.cells #[.int .i64 mi, .int .i64 mt] 23))))
    clear hbl T0 H1
    go_wp2
    go_ret
    exact ⟨rfl, T1.out.bel⟩
  · go_enter Try.func43, Try.ntmps43
    go_wp2_with fail
    refine H1.out.mono ?_
    rintro e w1 ⟨rfl, hbl⟩
    dsimp only
    have T1 := hideIt (T0.out.keep (below_via hbl (below1 w1 (.cells #[.int .i64 mi, .int .i64 mt] 23))))
    have X1 := hideIt (heap_alloc_new w1 (.cells #[.int .i64 mi, .int .i64 mt] 23))
    clear hbl T0 H1
    go_upto_region 2 with fail
    generalize w1.alloc (.cells #[.int .i64 mi, .int .i64 mt] 23) = w2 at *
    generalize w1.heap.size = k1 at *
    obtain ⟨c0, c1, c2, c3, d0, d1⟩ := T1.out.cells
    have x0 : w2.cell? ⟨k1, 0, none⟩ = some (.int .i64 mi) := by rw [cell_at X1.out]; rfl
    have x1 : w2.cell? ⟨k1, 1, none⟩ = some (.int .i64 mt) := by rw [cell_at X1.out]; rfl
    clear X1 c0 c1 c2 c3
    go_wp2
    go_ret
    exact ⟨by simp, T1.out.bel⟩
set_option maxHeartbeats 8000000 in
set_option maxRecDepth 100000 in
theorem passedOver_is (L : LogV) (g k : Value) (pi pt : Int) (es : List EntV) (w : World) (h : EGot w g L.l) (hk : EGot w k es) (hn : Near L) (hp : 0 ≤ pi ∧ pi ≤ 1000000) : Calls Try.prog 50 #[logV L g, .agg #[.int .i64 pi, .int .i64 pt], k] w fun e w' => e = .returned (.int .i64 (passR L pi es : Int)) ∧ Below w.heap.size w w' := by
  have T0 := hideIt (LM.first w L g pi pt)
  have HM := hideIt (fun i t wx (hx : Below w.heap.size w wx) => hasMark_is L g i t wx (h.keep hx) hn)
  obtain ⟨ka, kc, rfl, h8, hr⟩ := hk.open
  have HH := hideIt hr
  have HPD := hideIt (passR_drop L es pi)
  obtain ⟨a, c, rfl⟩ : ∃ a c, g = .slice a L.l.length c := by
    obtain ⟨a, c, e, _⟩ := h.open
    exact ⟨a, c, e⟩
  have hbi : -1000000 ≤ L.bi ∧ L.bi ≤ 2000000 := ⟨hn.1, hn.2.1⟩
  unfold logV logA at *
  obtain ⟨hp1, hp2⟩ := hp
  obtain ⟨hb1, hb2⟩ := hbi
  clear h hk hr hn
  go_enter Try.func50, Try.ntmps50
  go_wp2
  go_step3
  go_wp2
  go_step3
  go_wp2
  go_loopw [7, 13] (fun u v wr => ∃ t : Nat, u = .int .i64 t ∧ v = .int .i64 t ∧ t ≤ es.length ∧ Hid (passR L pi es = t + passR L (pi + t) (es.drop t) ∧ LM w L (.slice a L.l.length c) pi pt wr)) (fun _ v _ => es.length - (intOf v).toNat)
  case atStart => exact ⟨0, rfl, rfl, Nat.zero_le _, hideIt ⟨by simp, T0.out⟩⟩
  case round =>
    obtain ⟨t, rfl, rfl, ht, HR⟩ := hrel
    obtain ⟨c0, c1, c2, c3, d0, d1⟩ := HR.out.2.cells
    have hsz := HR.out.2.size
    have hs1 : w.heap.size < wr.heap.size := by omega
    have hs2 : w.heap.size + 1 < wr.heap.size := by omega
    by_cases hlt : t < es.length
    · have hltI : (t : Int) < (es.length : Int) := by omega
      have ht0 : (0 : Int) ≤ (t : Int) := by omega
      obtain ⟨b, off, rfl, hbl, q0, q1, q2⟩ := HH.out t hlt
      have hB := HR.out.2.bel
      have e0 := (hB.cell (p := ⟨b, off + t * 3, none⟩) hbl).trans q0
      have e1 := (hB.cell (p := ⟨b, off + t * 3 + 1, none⟩) hbl).trans q1
      have e2 := (hB.cell (p := ⟨b, off + t * 3 + 2, none⟩) hbl).trans q2
      have HRD := hideIt (HPD.out t hlt)
      generalize es[t] = en at *
      obtain ⟨et, ek, ex⟩ := en
      simp only at e0 e1 e2 HRD
      have hw1 : IntKind.i64.wrap (pi + t) = pi + t := by rw [IntKind.wrap_i64]; omega
      have hw2 : IntKind.i64.wrap (pi + t + 1) = pi + t + 1 := by rw [IntKind.wrap_i64]; omega
      have hX := HR.out.2.keep (below2 wr (.cells #[.int .i64 et, .int .i64 ek, .string ex] 40) (.cells #[.int .i64 (pi + t + 1), .int .i64 et] 23))
      have HX := hideIt hX
      have HMK := hideIt (HM.out (pi + t + 1) et _ hX.bel)
      have hN := (two_heap wr (.cells #[.int .i64 et, .int .i64 ek, .string ex] 40) (.cells #[.int .i64 (pi + t + 1), .int .i64 et] 23)).2.1
      have HN := hideIt hN
      clear q0 q1 q2 hB hX hN
      by_cases h1 : pi + t + 1 ≤ L.bi
      · have HF : Hid (passR L pi es = (t + 1 : Nat) + passR L (pi + (t + 1 : Nat)) (es.drop (t + 1))) := by
          show _ = _
          rw [HR.out.1, HRD.out, if_pos (.inl h1), show pi + ((t + 1 : Nat) : Int) = pi + t + 1 by omega]
          omega
        clear HR HRD HMK HN
        go_wp2
        go_roundw
        case rel => exact ⟨t + 1, by go_num, by go_num, by omega, hideIt ⟨HF.out, HX.out⟩⟩
        case measure => simp [intOf]; omega
      · have h1I : ¬ (pi + t + 1 ≤ L.bi) := h1
        cases h2 : hasM L (pi + t + 1) et
        · rw [h2] at HMK
          have HF : Hid (passR L pi es = t) := by
            show _ = _
            rw [HR.out.1, HRD.out, if_neg (fun hc => by rcases hc with hc | hc; · exact h1 hc
                                                        · rw [h2] at hc; cases hc)]
            rfl
          clear HR HRD h1
          go_wp2_with fail
          refine HMK.out.mono ?_
          rintro e w1 ⟨rfl, hbl2⟩
          dsimp only
          have B2 := hideIt (below_via HX.out.bel hbl2)
          clear hbl2 HN
          go_wp2
          try rw [Exit.noGoto_ret]
          go_ret
          exact ⟨by rw [HF.out]; rfl, B2.out⟩
        · rw [h2] at HMK
          have HF : Hid (passR L pi es = (t + 1 : Nat) + passR L (pi + (t + 1 : Nat)) (es.drop (t + 1))) := by
            show _ = _
            rw [HR.out.1, HRD.out, if_pos (.inr h2), show pi + ((t + 1 : Nat) : Int) = pi + t + 1 by omega]
            omega
          clear HR HRD h1
          go_wp2_with fail
          refine HMK.out.mono ?_
          rintro e w1 ⟨rfl, hbl2⟩
          dsimp only
          have X2 := hideIt (HX.out.keep hbl2)
          clear hbl2 HN
          go_wp2
          go_roundw
          case rel => exact ⟨t + 1, by go_num, by go_num, by omega, hideIt ⟨HF.out, X2.out⟩⟩
          case measure => simp [intOf]; omega
    · have hltI : ¬ (t : Int) < (es.length : Int) := by omega
      have HF : Hid (passR L pi es = t) := by
        show _ = _
        rw [HR.out.1, List.drop_of_length_le (by omega)]
        rfl
      have B2 := hideIt HR.out.2.bel
      clear HR
      go_wp2
      try rw [Exit.noGoto_ret]
      go_ret
      exact ⟨by rw [HF.out]; rfl, B2.out⟩
end Go.Proofs.Ytonhoopmhkomcaa
