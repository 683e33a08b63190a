/- ShardmapAgain's and ShardmapOrder's bodies, walked. -/
import Derived.Test.YtfcbjdfelahfkaaLiv
import Derived.Test.YtfcbjdfelahfkaaSam
namespace Go.Proofs.Ytfcbjdfelahfkaa
open Go.RowKit
set_option linter.all false
theorem lrn_yes {l : List PlaV} {p : PlaV} (h : lrnB l p = true) : lrnR l p = insR p l ∧ lrnE l p = 0 := by
  simp only [lrnR, lrnE, h, if_true, lrn_ins]
  exact ⟨trivial, trivial⟩
theorem lrn_no {l : List PlaV} {p : PlaV} (h : lrnB l p = false) : lrnR l p = [] ∧ lrnE l p = 200 := by
  simp [lrnR, lrnE, h]
theorem lrn_parts {l : List PlaV} {p : PlaV} (h : lrnB l p = true) : mayB l = true ∧ mayB [p] = true := by
  simpa [lrnB] using h
theorem lrn_may {l : List PlaV} {p : PlaV} (h : lrnB l p = true) : mayB (insR p l) = true := ins_may (lrn_parts h).1 (lrn_parts h).2
theorem one_ok {p : PlaV} (h : mayB [p] = true) : okB p = true := ((mayB_iff _).1 h).1 p (by simp)
theorem small {n : Nat} (h : n ≤ 11) : n * 32 ≤ 140737488355328 := by omega
set_option maxHeartbeats 8000000 in
set_option maxRecDepth 100000 in
theorem again_walk (v : Value) (l : List PlaV) (x y z u g : Int) (w : World) (h : Plas w v l) : Calls Try.prog 3 #[v, .agg #[.int .i64 x, .int .i64 y, .int .i64 z, .int .i64 u], .int .i64 g] w fun e w' => e = .returned (.bool true) ∧ Below w.heap.size w w' := by
  have hb0 := below1 w (.cells #[.int .i64 x, .int .i64 y, .int .i64 z, .int .i64 u] 26)
  have HB0 := hideIt hb0
  have HX0 := hideIt (heap_alloc_new w (.cells #[.int .i64 x, .int .i64 y, .int .i64 z, .int .i64 u] 26))
  have H1 := hideIt (learn_is v l x y z u _ (h.keep hb0))
  have HL := hideIt (fun W => live_is W)
  obtain ⟨a, c, rfl⟩ := h.slice
  clear h hb0
  cases hm : lrnB l ((x, y), (z, u))
  · rw [(lrn_no hm).1, (lrn_no hm).2] at H1
    go_enter Try.func3, Try.ntmps3
    go_wp2_with fail
    refine H1.out.mono ?_
    rintro e w1 ⟨a2, c2, rfl, ho, hb⟩
    dsimp only
    have HB1 := hideIt (below_via HB0.out hb)
    clear hb ho
    go_wp2_with fail
    refine (HL.out _).mono ?_
    rintro e w2 ⟨rfl, hb⟩
    dsimp only
    have HB2 := hideIt (below_via HB1.out hb)
    clear hb
    go_wp2
    go_ret
    exact ⟨rfl, HB2.out⟩
  · have hmay := lrn_may hm
    have hpar := lrn_parts hm
    rw [(lrn_yes hm).1, (lrn_yes hm).2] at H1
    have hag := ins_again (p := ((x, y), (z, u))) ((mayB_iff _).1 hpar.1).2
    have hm2 : lrnB (insR ((x, y), (z, u)) l) ((x, y), (z, u)) = true := by simp [lrnB, hmay, hpar.2]
    have hlen := may_len hmay
    have H2 : Hid (∀ v W, Plas W v (insR ((x, y), (z, u)) l) → Calls Try.prog 8 #[v, .agg #[.int .i64 x, .int .i64 y, .int .i64 z, .int .i64 u]] W (LrnBack (insR ((x, y), (z, u)) l) 0 W)) := fun v W hW => by
      have := learn_is v _ x y z u W hW
      rw [(lrn_yes hm2).1, (lrn_yes hm2).2, hag] at this
      exact this
    have H3 := hideIt (fun v W hW => owner_is v (insR ((x, y), (z, u)) l) x y g W hW)
    have HS := hideIt (fun v v' W hW hW' => same_is v v' (insR ((x, y), (z, u)) l) (insR ((x, y), (z, u)) l) W hW hW')
    have HO : Hid (owrE (insR ((x, y), (z, u)) l) (x, y) g ≠ 0 ∨ (owrE (insR ((x, y), (z, u)) l) (x, y) g = 0 ∧ u ≤ (owrP (insR ((x, y), (z, u)) l) (x, y) g).2.2)) := by
      have hn := (own_newer (p := ((x, y), (z, u))) ((mayB_iff _).1 hpar.1).2 (one_ok hpar.2) (x, y) g).2.2 rfl
      by_cases he : homE (x, y) g = 0
      · exact .inr ⟨by simp [owrE, hmay, he], by simpa [owrP, hmay, he] using hn⟩
      · exact .inl (by simpa [owrE, hmay] using he)
    have HLN := hideIt hlen
    rw [show ((insR ((x, y), (z, u)) l) == (insR ((x, y), (z, u)) l)) = true by simp] at HS
    clear hmay hpar hag hm2 hlen hm
    generalize insR ((x, y), (z, u)) l = m at *
    generalize owrP m (x, y) g = op at *
    generalize owrE m (x, y) g = oe at *
    go_enter Try.func3, Try.ntmps3
    go_wp2_with fail
    refine H1.out.mono ?_
    rintro e w1 ⟨a2, c2, rfl, ho, hb⟩
    dsimp only
    have HB1 := hideIt (below_via HB0.out hb)
    have G1 := hideIt (own_sgot (bytes := 32) ho (small HLN.out))
    have hX1 := (hb.block _ (by simp)).trans HX0.out
    have HX1 := hideIt hX1
    obtain ⟨x0, x1, x2, x3, xf, xl⟩ := four_at hX1
    clear hb ho hX1 HX0 HB0 H1
    go_wp2_with fail
    refine (H2.out _ _ G1.out).mono ?_
    rintro e w2 ⟨a3, c3, rfl, ho, hb⟩
    dsimp only
    have HB2 := hideIt (below_via HB1.out hb)
    have G2 := hideIt (own_sgot (bytes := 32) ho (small HLN.out))
    have G2a := hideIt (G1.out.keep hb)
    have hX2 := (hb.block _ xl).trans HX1.out
    have HX2 := hideIt hX2
    clear x0 x1 x2 x3 xf xl
    clear hb ho hX2 HX1 HB1 H2 G1
    go_wp2_with fail
    refine (HS.out _ _ _ G2a.out G2.out).mono ?_
    rintro e w3 ⟨rfl, hb⟩
    dsimp only
    have HB3 := hideIt (below_via HB2.out hb)
    have G3 := hideIt (G2a.out.keep hb)
    have hX3 := (hb.block _ (Array.getElem?_eq_some_iff.1 HX2.out).1).trans HX2.out
    have HX3 := hideIt hX3
    obtain ⟨x0, x1, x2, x3, xf, xl⟩ := four_at hX3
    clear hb hX3 HX2 HB2 G2 G2a HS
    go_wp2_with fail
    refine (H3.out _ _ G3.out).mono ?_
    rintro e w4 ⟨rfl, hb⟩
    dsimp only
    obtain ⟨⟨o0, o1⟩, ⟨o2, o3⟩⟩ := op
    dsimp only at HO ⊢
    have hX4 := (hb.block _ xl).trans HX3.out
    have hb4 := below1 w4 (.cells #[.int .i64 o0, .int .i64 o1, .int .i64 o2, .int .i64 o3] 26)
    have HB4 := hideIt (below_via (below_via HB3.out hb) hb4)
    have hX5 := (hb4.block _ (Array.getElem?_eq_some_iff.1 hX4).1).trans hX4
    clear x0 x1 x2 x3 xf xl
    obtain ⟨x0, x1, x2, x3, xf, xl⟩ := four_at hX5
    obtain ⟨y0, y1, y2, y3, yf, yl⟩ := four_at (heap_alloc_new w4 (.cells #[.int .i64 o0, .int .i64 o1, .int .i64 o2, .int .i64 o3] 26))
    clear hb hX4 hb4 hX5 HX3 HB3 H3 G3
    rcases HO.out with he | ⟨he, hv⟩
    · have heI : (oe != 0) = true := by simpa using he
      go_wp2_with fail
      refine (HL.out _).mono ?_
      rintro e w5 ⟨rfl, hb⟩
      dsimp only
      have HB5 := hideIt (below_via HB4.out hb)
      clear hb
      go_wp2
      go_ret
      exact ⟨rfl, HB5.out⟩
    · subst he
      have hvd : decide (u ≤ o3) = true := decide_eq_true hv
      go_wp2_with fail
      refine (HL.out _).mono ?_
      rintro e w5 ⟨rfl, hb⟩
      dsimp only
      have HB5 := hideIt (below_via HB4.out hb)
      clear hb
      go_wp2
      go_ret
      exact ⟨rfl, HB5.out⟩
end Go.Proofs.Ytfcbjdfelahfkaa
