/- Whether a ballot may be: the whole answer, of the program and of the document. -/
import Derived.Test.YtkoecdcbopkkbaaMay
namespace Go.Proofs.Ytkoecdcbopkkbaa
open Go.RowKit
theorem box_cell {w w1 : World} {cs : Array Value} {t : TypeId} (h : Below (w.alloc (.cells cs t)).heap.size (w.alloc (.cells cs t)) w1) (i : Nat) : w1.cell? ⟨w.heap.size, i, none⟩ = cs[i]? :=
  (h.cell (by simp)).trans (cell_at (heap_alloc_new w _) i)
theorem below_via {w w1 w2 : World} (h : Below w.heap.size w w1) (k : Below w1.heap.size w1 w2) : Below w.heap.size w w2 :=
  h.trans ⟨k.os, k.tape, k.output, k.size, fun i hi => k.block i (Nat.lt_of_lt_of_le hi h.size)⟩
def balV (b : Bal) (g : Value) : Value := .agg #[.int .i64 b.t, .int .i64 b.v, .int .i64 b.r, g]
set_option maxHeartbeats 4000000 in
set_option maxRecDepth 100000 in
theorem mayBe_is (b : Bal) (g : Value) (w : World) (h : GotAt w g b.l) : Calls Try.prog 24 #[balV b g] w fun e w' => e = .returned (.bool (mayB b)) ∧ Below w.heap.size w w' := by
  obtain ⟨t, v, r, l⟩ := b
  simp only at h
  have HB := hideIt (below1 w (.cells #[.int .i64 t, .int .i64 v, .int .i64 r, g] 60))
  have N1 := hideIt (fun W => within_is t 0 1000000 W)
  have N2 := hideIt (fun W => within_is v 0 7 W)
  have N3 := hideIt (gotNodes_is t v r g l _ (h.keep HB.out))
  have N4 := hideIt (fun W hW => has_is t v r g l v W (h.keep hW))
  obtain ⟨a, c, rfl, h8, _⟩ := h.open
  clear h
  unfold balV
  simp only
  cases h1 : wiB t 0 1000000
  · rw [h1] at N1
    rw [show mayB ⟨t, v, r, l⟩ = false by simp [mayB, h1]]
    go_enter Try.func24, Try.ntmps24
    go_wp2_with fail
    refine (N1.out _).mono ?_
    rintro e w1 ⟨rfl, rfl⟩
    dsimp only
    go_wp2
    go_ret
    exact ⟨rfl, HB.out⟩
  · rw [h1] at N1
    cases h2 : wiB v 0 7
    · rw [h2] at N2
      rw [show mayB ⟨t, v, r, l⟩ = false by simp [mayB, h2]]
      go_enter Try.func24, Try.ntmps24
      go_wp2_with fail
      refine (N1.out _).mono ?_
      rintro e w1 ⟨rfl, rfl⟩
      dsimp only
      go_wp2_with fail
      refine (N2.out _).mono ?_
      rintro e w1 ⟨rfl, rfl⟩
      dsimp only
      go_wp2
      go_ret
      exact ⟨rfl, HB.out⟩
    · rw [h2] at N2
      have hrest : (t = 0 → v = 0) → Calls Try.prog 24 #[.agg #[.int .i64 t, .int .i64 v, .int .i64 r, .slice a l.length c]] w fun e w' => e = .returned (.bool (roleB v r l)) ∧ Below w.heap.size w w' := by
        intro hz
        have HT : ∀ (x : Bool), Hid (x = (t == 0)) → (x && (v != 0)) = false := by
          intro x hx
          rw [hx.out]
          by_cases e : t = 0
          · simp [hz e]
          · simp [e]
        by_cases r1 : r = 1
        · subst r1
          rw [show roleB v 1 l = decide ((l.length : Int) = 0) by cases l <;> simp [roleB] <;> omega]
          by_cases t0 : t = 0
          · have v0 := hz t0
            subst t0 v0
            clear HT hz
            go_enter Try.func24, Try.ntmps24
            go_wp2_with fail
            refine (N1.out _).mono ?_
            rintro e w1 ⟨rfl, rfl⟩
            dsimp only
            go_wp2_with fail
            refine (N2.out _).mono ?_
            rintro e w1 ⟨rfl, rfl⟩
            dsimp only
            go_wp2
            go_ret
            exact ⟨rfl, HB.out⟩
          · have t0b : (t == 0) = false := beq_eq_false_iff_ne.2 t0
            clear HT hz
            go_enter Try.func24, Try.ntmps24
            go_wp2_with fail
            refine (N1.out _).mono ?_
            rintro e w1 ⟨rfl, rfl⟩
            dsimp only
            go_wp2_with fail
            refine (N2.out _).mono ?_
            rintro e w1 ⟨rfl, rfl⟩
            dsimp only
            go_wp2
            go_ret
            exact ⟨rfl, HB.out⟩
        · have r1b : (r == 1) = false := beq_eq_false_iff_ne.2 r1
          by_cases r23 : r = 2 ∨ r = 3
          · rw [show roleB v r l = (nodesB 0 l && l.contains v) by simp only [roleB, if_neg r1, if_pos r23]]
            generalize l.contains v = hv at *
            have hrest2 : ∀ hn, nodesB 0 l = hn → Calls Try.prog 24 #[.agg #[.int .i64 t, .int .i64 v, .int .i64 r, .slice a l.length c]] w fun e w' => e = .returned (.bool (hn && hv)) ∧ Below w.heap.size w w' := by
              intro hn hne
              rw [hne] at N3
              clear hne
              rcases r23 with rfl | rfl
              · by_cases t0 : t = 0
                · have v0 := hz t0
                  subst t0 v0
                  clear HT hz
                  cases hn
                  · go_enter Try.func24, Try.ntmps24
                    go_wp2_with fail
                    refine (N1.out _).mono ?_
                    rintro e w1 ⟨rfl, rfl⟩
                    dsimp only
                    go_wp2_with fail
                    refine (N2.out _).mono ?_
                    rintro e w1 ⟨rfl, rfl⟩
                    dsimp only
                    go_wp2_with fail
                    refine N3.out.mono ?_
                    rintro e w1 ⟨rfl, hb⟩
                    dsimp only
                    have HB2 := hideIt (below_via HB.out hb)
                    clear hb
                    go_wp2
                    go_ret
                    exact ⟨rfl, HB2.out⟩
                  · go_enter Try.func24, Try.ntmps24
                    go_wp2_with fail
                    refine (N1.out _).mono ?_
                    rintro e w1 ⟨rfl, rfl⟩
                    dsimp only
                    go_wp2_with fail
                    refine (N2.out _).mono ?_
                    rintro e w1 ⟨rfl, rfl⟩
                    dsimp only
                    go_wp2_with fail
                    refine N3.out.mono ?_
                    rintro e w1 ⟨rfl, hb⟩
                    dsimp only
                    have HB2 := hideIt (below_via HB.out hb)
                    have c0 : w1.cell? ⟨w.heap.size, 0, none⟩ = some (.int .i64 0) := box_cell hb 0
                    have c1 : w1.cell? ⟨w.heap.size, 1, none⟩ = some (.int .i64 0) := box_cell hb 1
                    have c2 : w1.cell? ⟨w.heap.size, 2, none⟩ = some (.int .i64 2) := box_cell hb 2
                    have c3 : w1.cell? ⟨w.heap.size, 3, none⟩ = some (.slice a l.length c) := box_cell hb 3
                    clear hb
                    go_wp2_with fail
                    refine (N4.out _ HB2.out).mono ?_
                    rintro e w2 ⟨rfl, hb⟩
                    dsimp only
                    have HB3 := hideIt (below_via HB2.out hb)
                    clear hb
                    go_wp2
                    go_ret
                    exact ⟨by simp, HB3.out⟩
                · have t0b : (t == 0) = false := beq_eq_false_iff_ne.2 t0
                  clear HT hz
                  cases hn
                  · go_enter Try.func24, Try.ntmps24
                    go_wp2_with fail
                    refine (N1.out _).mono ?_
                    rintro e w1 ⟨rfl, rfl⟩
                    dsimp only
                    go_wp2_with fail
                    refine (N2.out _).mono ?_
                    rintro e w1 ⟨rfl, rfl⟩
                    dsimp only
                    go_wp2_with fail
                    refine N3.out.mono ?_
                    rintro e w1 ⟨rfl, hb⟩
                    dsimp only
                    have HB2 := hideIt (below_via HB.out hb)
                    clear hb
                    go_wp2
                    go_ret
                    exact ⟨rfl, HB2.out⟩
                  · go_enter Try.func24, Try.ntmps24
                    go_wp2_with fail
                    refine (N1.out _).mono ?_
                    rintro e w1 ⟨rfl, rfl⟩
                    dsimp only
                    go_wp2_with fail
                    refine (N2.out _).mono ?_
                    rintro e w1 ⟨rfl, rfl⟩
                    dsimp only
                    go_wp2_with fail
                    refine N3.out.mono ?_
                    rintro e w1 ⟨rfl, hb⟩
                    dsimp only
                    have HB2 := hideIt (below_via HB.out hb)
                    have c0 : w1.cell? ⟨w.heap.size, 0, none⟩ = some (.int .i64 t) := box_cell hb 0
                    have c1 : w1.cell? ⟨w.heap.size, 1, none⟩ = some (.int .i64 v) := box_cell hb 1
                    have c2 : w1.cell? ⟨w.heap.size, 2, none⟩ = some (.int .i64 2) := box_cell hb 2
                    have c3 : w1.cell? ⟨w.heap.size, 3, none⟩ = some (.slice a l.length c) := box_cell hb 3
                    clear hb
                    go_wp2_with fail
                    refine (N4.out _ HB2.out).mono ?_
                    rintro e w2 ⟨rfl, hb⟩
                    dsimp only
                    have HB3 := hideIt (below_via HB2.out hb)
                    clear hb
                    go_wp2
                    go_ret
                    exact ⟨by simp, HB3.out⟩
              · by_cases t0 : t = 0
                · have v0 := hz t0
                  subst t0 v0
                  clear HT hz
                  cases hn
                  · go_enter Try.func24, Try.ntmps24
                    go_wp2_with fail
                    refine (N1.out _).mono ?_
                    rintro e w1 ⟨rfl, rfl⟩
                    dsimp only
                    go_wp2_with fail
                    refine (N2.out _).mono ?_
                    rintro e w1 ⟨rfl, rfl⟩
                    dsimp only
                    go_wp2_with fail
                    refine N3.out.mono ?_
                    rintro e w1 ⟨rfl, hb⟩
                    dsimp only
                    have HB2 := hideIt (below_via HB.out hb)
                    clear hb
                    go_wp2
                    go_ret
                    exact ⟨rfl, HB2.out⟩
                  · go_enter Try.func24, Try.ntmps24
                    go_wp2_with fail
                    refine (N1.out _).mono ?_
                    rintro e w1 ⟨rfl, rfl⟩
                    dsimp only
                    go_wp2_with fail
                    refine (N2.out _).mono ?_
                    rintro e w1 ⟨rfl, rfl⟩
                    dsimp only
                    go_wp2_with fail
                    refine N3.out.mono ?_
                    rintro e w1 ⟨rfl, hb⟩
                    dsimp only
                    have HB2 := hideIt (below_via HB.out hb)
                    have c0 : w1.cell? ⟨w.heap.size, 0, none⟩ = some (.int .i64 0) := box_cell hb 0
                    have c1 : w1.cell? ⟨w.heap.size, 1, none⟩ = some (.int .i64 0) := box_cell hb 1
                    have c2 : w1.cell? ⟨w.heap.size, 2, none⟩ = some (.int .i64 3) := box_cell hb 2
                    have c3 : w1.cell? ⟨w.heap.size, 3, none⟩ = some (.slice a l.length c) := box_cell hb 3
                    clear hb
                    go_wp2_with fail
                    refine (N4.out _ HB2.out).mono ?_
                    rintro e w2 ⟨rfl, hb⟩
                    dsimp only
                    have HB3 := hideIt (below_via HB2.out hb)
                    clear hb
                    go_wp2
                    go_ret
                    exact ⟨by simp, HB3.out⟩
                · have t0b : (t == 0) = false := beq_eq_false_iff_ne.2 t0
                  clear HT hz
                  cases hn
                  · go_enter Try.func24, Try.ntmps24
                    go_wp2_with fail
                    refine (N1.out _).mono ?_
                    rintro e w1 ⟨rfl, rfl⟩
                    dsimp only
                    go_wp2_with fail
                    refine (N2.out _).mono ?_
                    rintro e w1 ⟨rfl, rfl⟩
                    dsimp only
                    go_wp2_with fail
                    refine N3.out.mono ?_
                    rintro e w1 ⟨rfl, hb⟩
                    dsimp only
                    have HB2 := hideIt (below_via HB.out hb)
                    clear hb
                    go_wp2
                    go_ret
                    exact ⟨rfl, HB2.out⟩
                  · go_enter Try.func24, Try.ntmps24
                    go_wp2_with fail
                    refine (N1.out _).mono ?_
                    rintro e w1 ⟨rfl, rfl⟩
                    dsimp only
                    go_wp2_with fail
                    refine (N2.out _).mono ?_
                    rintro e w1 ⟨rfl, rfl⟩
                    dsimp only
                    go_wp2_with fail
                    refine N3.out.mono ?_
                    rintro e w1 ⟨rfl, hb⟩
                    dsimp only
                    have HB2 := hideIt (below_via HB.out hb)
                    have c0 : w1.cell? ⟨w.heap.size, 0, none⟩ = some (.int .i64 t) := box_cell hb 0
                    have c1 : w1.cell? ⟨w.heap.size, 1, none⟩ = some (.int .i64 v) := box_cell hb 1
                    have c2 : w1.cell? ⟨w.heap.size, 2, none⟩ = some (.int .i64 3) := box_cell hb 2
                    have c3 : w1.cell? ⟨w.heap.size, 3, none⟩ = some (.slice a l.length c) := box_cell hb 3
                    clear hb
                    go_wp2_with fail
                    refine (N4.out _ HB2.out).mono ?_
                    rintro e w2 ⟨rfl, hb⟩
                    dsimp only
                    have HB3 := hideIt (below_via HB2.out hb)
                    clear hb
                    go_wp2
                    go_ret
                    exact ⟨by simp, HB3.out⟩
            exact hrest2 _ rfl
          · rw [show roleB v r l = false by simp only [roleB, if_neg r1, if_neg r23]]
            have r2b : (r == 2) = false := beq_eq_false_iff_ne.2 (fun e => r23 (.inl e))
            have r3b : (r == 3) = false := beq_eq_false_iff_ne.2 (fun e => r23 (.inr e))
            clear r23
            by_cases t0 : t = 0
            · have v0 := hz t0
              subst t0 v0
              clear HT hz
              go_enter Try.func24, Try.ntmps24
              go_wp2_with fail
              refine (N1.out _).mono ?_
              rintro e w1 ⟨rfl, rfl⟩
              dsimp only
              go_wp2_with fail
              refine (N2.out _).mono ?_
              rintro e w1 ⟨rfl, rfl⟩
              dsimp only
              go_wp2
              go_ret
              exact ⟨rfl, HB.out⟩
            · have t0b : (t == 0) = false := beq_eq_false_iff_ne.2 t0
              clear HT hz
              go_enter Try.func24, Try.ntmps24
              go_wp2_with fail
              refine (N1.out _).mono ?_
              rintro e w1 ⟨rfl, rfl⟩
              dsimp only
              go_wp2_with fail
              refine (N2.out _).mono ?_
              rintro e w1 ⟨rfl, rfl⟩
              dsimp only
              go_wp2
              go_ret
              exact ⟨rfl, HB.out⟩
      by_cases t0 : t = 0
      · by_cases v0 : v = 0
        · subst t0 v0
          rw [show mayB ⟨0, 0, r, l⟩ = roleB 0 r l by simp [mayB, h1, h2]]
          exact hrest (fun _ => rfl)
        · subst t0
          have v0b : (v == 0) = false := beq_eq_false_iff_ne.2 v0
          have v0c : (v != 0) = true := by simp [v0]
          clear hrest
          rw [show mayB ⟨0, v, r, l⟩ = false by simp [mayB, v0]]
          go_enter Try.func24, Try.ntmps24
          go_wp2_with fail
          refine (N1.out _).mono ?_
          rintro e w1 ⟨rfl, rfl⟩
          dsimp only
          go_wp2_with fail
          refine (N2.out _).mono ?_
          rintro e w1 ⟨rfl, rfl⟩
          dsimp only
          go_wp2
          go_ret
          exact ⟨rfl, HB.out⟩
      · rw [show mayB ⟨t, v, r, l⟩ = roleB v r l by simp [mayB, h1, h2, t0]]
        exact hrest (fun h => absurd h t0)
end Go.Proofs.Ytkoecdcbopkkbaa
