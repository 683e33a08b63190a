/- ShardmapOrder's body, walked. -/
import Derived.Test.YtfcbjdfelahfkaaAgW
namespace Go.Proofs.Ytfcbjdfelahfkaa
open Go.RowKit
set_option linter.all false
/-- Two boxes. -/
structure B2 (w : World) (x y z u x' y' z' u' : Int) (W : World) : Prop where
  b0 : W.heap[w.heap.size]? = some (.cells #[.int .i64 x, .int .i64 y, .int .i64 z, .int .i64 u] 26 (0, 0))
  b1 : W.heap[w.heap.size + 1]? = some (.cells #[.int .i64 x', .int .i64 y', .int .i64 z', .int .i64 u'] 26 (0, 0))
  bel : Below w.heap.size w W
theorem B2.keep {w W W' : World} {x y z u x' y' z' u' : Int} (h : B2 w x y z u x' y' z' u' W) (hb : Below W.heap.size W W') : B2 w x y z u x' y' z' u' W' :=
  ⟨(hb.block _ (Array.getElem?_eq_some_iff.1 h.b0).1).trans h.b0, (hb.block _ (Array.getElem?_eq_some_iff.1 h.b1).1).trans h.b1, below_via h.bel hb⟩
theorem B2.first (w : World) (x y z u x' y' z' u' : Int) : B2 w x y z u x' y' z' u' ((w.alloc (.cells #[.int .i64 x, .int .i64 y, .int .i64 z, .int .i64 u] 26)).alloc (.cells #[.int .i64 x', .int .i64 y', .int .i64 z', .int .i64 u'] 26)) :=
  ⟨(two_heap w _ _).1, (two_heap w _ _).2.1, below2 w _ _⟩
set_option maxHeartbeats 8000000 in
set_option maxRecDepth 100000 in
theorem order_walk (v : Value) (l : List PlaV) (x y z u x' y' z' u' : Int) (w : World) (h : Plas w v l) : Calls Try.prog 5 #[v, .agg #[.int .i64 x, .int .i64 y, .int .i64 z, .int .i64 u], .agg #[.int .i64 x', .int .i64 y', .int .i64 z', .int .i64 u']] w fun e w' => e = .returned (.bool true) ∧ Below w.heap.size w w' := by
  have X0 := hideIt (B2.first w x y z u x' y' z' u')
  have HG := hideIt (fun W (hW : Below w.heap.size w W) => h.keep hW)
  have H1 := hideIt (learn_is v l x y z u _ (HG.out _ X0.out.bel))
  have HL := hideIt (fun W => live_is W)
  obtain ⟨a, c, rfl⟩ := h.slice
  clear h
  cases hm : lrnB l ((x, y), (z, u))
  · rw [(lrn_no hm).1, (lrn_no hm).2] at H1
    go_enter Try.func5, Try.ntmps5
    go_wp2_with fail
    refine H1.out.mono ?_
    rintro e w1 ⟨a2, c2, rfl, ho, hb⟩
    dsimp only
    have HB1 := hideIt (below_via X0.out.bel hb)
    clear hb ho
    go_wp2_with fail
    refine (HL.out _).mono ?_
    rintro e w2 ⟨rfl, hb⟩
    dsimp only
    have HB2 := hideIt (below_via HB1.out hb)
    clear hb
    go_wp2
    go_ret
    exact ⟨rfl, HB2.out⟩
  · have hmay := lrn_may hm
    have hpar := lrn_parts hm
    rw [(lrn_yes hm).1, (lrn_yes hm).2] at H1
    have HLA := hideIt (may_len hmay)
    have H2 := hideIt (fun v W (hW : Plas W v (insR ((x, y), (z, u)) l)) => learn_is v _ x' y' z' u' W hW)
    have H3 := hideIt (fun v W (hW : Plas W v l) => learn_is v _ x' y' z' u' W hW)
    cases hq : mayB [((x', y'), (z', u'))]
    · have e1 : lrnB (insR ((x, y), (z, u)) l) ((x', y'), (z', u')) = false := by simp [lrnB, hq]
      have e2 : lrnB l ((x', y'), (z', u')) = false := by simp [lrnB, hq]
      rw [(lrn_no e1).1, (lrn_no e1).2] at H2
      rw [(lrn_no e2).1, (lrn_no e2).2] at H3
      clear e1 e2 hq hm hpar hmay
      generalize insR ((x, y), (z, u)) l = m at *
      go_enter Try.func5, Try.ntmps5
      go_wp2_with fail
      refine H1.out.mono ?_
      rintro e w1 ⟨a2, c2, rfl, ho, hb⟩
      dsimp only
      have X1 := hideIt (X0.out.keep hb)
      have G1 := hideIt (own_sgot (bytes := 32) ho (small HLA.out))
      clear hb ho X0 H1
      obtain ⟨x0, x1, x2, x3, xf, xl⟩ := four_at X1.out.b0
      obtain ⟨y0, y1, y2, y3, yf, yl⟩ := four_at X1.out.b1
      go_wp2_with fail
      refine (H2.out _ _ G1.out).mono ?_
      rintro e w2 ⟨a3, c3, rfl, ho, hb⟩
      dsimp only
      clear x0 x1 x2 x3 xf xl y0 y1 y2 y3 yf yl
      have X2 := hideIt (X1.out.keep hb)
      clear hb ho X1 G1 H2
      obtain ⟨x0, x1, x2, x3, xf, xl⟩ := four_at X2.out.b0
      obtain ⟨y0, y1, y2, y3, yf, yl⟩ := four_at X2.out.b1
      go_wp2_with fail
      refine (H3.out _ _ (HG.out _ X2.out.bel)).mono ?_
      rintro e w3 ⟨a4, c4, rfl, ho, hb⟩
      dsimp only
      clear x0 x1 x2 x3 xf xl y0 y1 y2 y3 yf yl
      have X3 := hideIt (X2.out.keep hb)
      clear hb ho X2 H3
      go_wp2_with fail
      refine (HL.out _).mono ?_
      rintro e w4 ⟨rfl, hb⟩
      dsimp only
      have X4 := hideIt (X3.out.keep hb)
      clear hb
      go_wp2
      go_ret
      exact ⟨rfl, X4.out.bel⟩
    · have e1 : lrnB (insR ((x, y), (z, u)) l) ((x', y'), (z', u')) = true := by simp [lrnB, hq, hmay]
      have e2 : lrnB l ((x', y'), (z', u')) = true := by simp [lrnB, hq, hpar.1]
      have hmay2 := lrn_may e2
      have e3 : lrnB (insR ((x', y'), (z', u')) l) ((x, y), (z, u)) = true := by simp [lrnB, hpar.2, hmay2]
      have H4 := hideIt (fun v W (hW : Plas W v (insR ((x', y'), (z', u')) l)) => learn_is v _ x y z u W hW)
      rw [(lrn_yes e1).1, (lrn_yes e1).2] at H2
      rw [(lrn_yes e2).1, (lrn_yes e2).2] at H3
      rw [(lrn_yes e3).1, (lrn_yes e3).2] at H4
      have HLB := hideIt (may_len (lrn_may e1))
      have HLC := hideIt (may_len hmay2)
      have HLD := hideIt (may_len (lrn_may e3))
      have HOR := hideIt (fun hne => ins_order (p := ((x, y), (z, u))) (q := ((x', y'), (z', u'))) ((mayB_iff _).1 hpar.1).2 hne)
      clear e1 e2 e3 hq hm hpar hmay hmay2
      generalize insR ((x', y'), (z', u')) (insR ((x, y), (z, u)) l) = mb at *
      generalize insR ((x, y), (z, u)) (insR ((x', y'), (z', u')) l) = md at *
      generalize insR ((x, y), (z, u)) l = m at *
      generalize insR ((x', y'), (z', u')) l = mc at *
      have HS := hideIt (fun v v' W hW hW' => same_is v v' mb md W hW hW')
      have q1 := fun W => eq24 x y x' y' W
      have HQQ : Hid ((mb == md) = true ∨ ((mb == md) = false ∧ ((x, y) == (x', y')) = true ∧ u = u')) := by
        by_cases hne : ((x, y) = (x', y') ∧ u = u')
        · cases hb : (mb == md)
          · exact .inr ⟨rfl, by simpa using hne.1, hne.2⟩
          · exact .inl rfl
        · have := HOR.out hne
          exact .inl (by simp [this])
      generalize (mb == md) = bs at *
      clear HOR
      go_enter Try.func5, Try.ntmps5
      go_wp2_with fail
      refine H1.out.mono ?_
      rintro e w1 ⟨a2, c2, rfl, ho, hb⟩
      dsimp only
      have X1 := hideIt (X0.out.keep hb)
      have G1 := hideIt (own_sgot (bytes := 32) ho (small HLA.out))
      clear hb ho X0 H1
      obtain ⟨x0, x1, x2, x3, xf, xl⟩ := four_at X1.out.b0
      obtain ⟨y0, y1, y2, y3, yf, yl⟩ := four_at X1.out.b1
      go_wp2_with fail
      refine (H2.out _ _ G1.out).mono ?_
      rintro e w2 ⟨a3, c3, rfl, ho, hb⟩
      dsimp only
      clear x0 x1 x2 x3 xf xl y0 y1 y2 y3 yf yl
      have X2 := hideIt (X1.out.keep hb)
      have G2 := hideIt (own_sgot (bytes := 32) ho (small HLB.out))
      clear hb ho X1 G1 H2
      obtain ⟨x0, x1, x2, x3, xf, xl⟩ := four_at X2.out.b0
      obtain ⟨y0, y1, y2, y3, yf, yl⟩ := four_at X2.out.b1
      go_wp2_with fail
      refine (H3.out _ _ (HG.out _ X2.out.bel)).mono ?_
      rintro e w3 ⟨a4, c4, rfl, ho, hb⟩
      dsimp only
      clear x0 x1 x2 x3 xf xl y0 y1 y2 y3 yf yl
      have X3 := hideIt (X2.out.keep hb)
      have G3 := hideIt (own_sgot (bytes := 32) ho (small HLC.out))
      have G3b := hideIt (G2.out.keep hb)
      clear hb ho X2 H3 G2 HG
      obtain ⟨x0, x1, x2, x3, xf, xl⟩ := four_at X3.out.b0
      obtain ⟨y0, y1, y2, y3, yf, yl⟩ := four_at X3.out.b1
      go_wp2_with fail
      refine (H4.out _ _ G3.out).mono ?_
      rintro e w4 ⟨a5, c5, rfl, ho, hb⟩
      dsimp only
      clear x0 x1 x2 x3 xf xl y0 y1 y2 y3 yf yl
      have X4 := hideIt (X3.out.keep hb)
      have G4 := hideIt (own_sgot (bytes := 32) ho (small HLD.out))
      have G4b := hideIt (G3b.out.keep hb)
      clear hb ho X3 H4 G3 G3b
      go_wp2_with fail
      refine (HS.out _ _ _ G4b.out G4.out).mono ?_
      rintro e w5 ⟨rfl, hb⟩
      dsimp only
      have X5 := hideIt (X4.out.keep hb)
      clear hb X4 G4 G4b HS
      obtain ⟨x0, x1, x2, x3, xf, xl⟩ := four_at X5.out.b0
      obtain ⟨y0, y1, y2, y3, yf, yl⟩ := four_at X5.out.b1
      rcases HQQ.out with he | ⟨he, hk, hv⟩
      · subst he
        go_wp2_with fail
        refine (HL.out _).mono ?_
        rintro e w6 ⟨rfl, hb⟩
        dsimp only
        have X6 := hideIt (X5.out.keep hb)
        clear hb
        go_wp2
        go_ret
        exact ⟨rfl, X6.out.bel⟩
      · subst he
        subst hv
        rw [hk] at q1
        clear hk HQQ
        go_wp2_with fail
        refine (HL.out _).mono ?_
        rintro e w6 ⟨rfl, hb⟩
        dsimp only
        have X6 := hideIt (X5.out.keep hb)
        clear hb
        go_wp2
        go_ret
        exact ⟨rfl, X6.out.bel⟩
end Go.Proofs.Ytfcbjdfelahfkaa
