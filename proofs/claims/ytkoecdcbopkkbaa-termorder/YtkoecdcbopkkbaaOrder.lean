/- Proved here: for every three marks, rialtolaw07.TermOrder answers true at the landed code, and its arguments read as before (P7.1: of two unlike marks one is less, and the order goes on); no condition. -/
import Derived.Test.YtkoecdcbopkkbaaRows
import Derived.Test.YtkoecdcbopkkbaaLive
import Derived.Test.YtkoecdcbopkkbaaArgs
namespace Go.Proofs.Ytkoecdcbopkkbaa
open Go.ChangeShapes Go.WideShapes Go.ChangeAt Go.RowKit
theorem less_not (ai aT bi bt : Int) (h : lessB ai aT bi bt = true) : lessB bi bt ai aT = false := by
  simp [lessB] at h ⊢
  omega
theorem less_one (ai aT bi bt : Int) (h1 : lessB ai aT bi bt = false) (h2 : lessB bi bt ai aT = false) : ai = bi ∧ aT = bt := by
  simp [lessB] at h1 h2
  omega
theorem less_ne (ai aT bi bt : Int) (h : lessB ai aT bi bt = true) : (ai == bi && aT == bt) = false := by
  simp [lessB] at h
  rw [Bool.and_eq_false_iff, beq_eq_false_iff_ne, beq_eq_false_iff_ne]
  omega
theorem less_on (ai aT bi bt ci ct : Int) (h1 : lessB ai aT bi bt = true) (h2 : lessB bi bt ci ct = true) : lessB ai aT ci ct = true := by
  simp [lessB] at h1 h2 ⊢
  omega
/-- The boxes of three marks. -/
structure Tri (w : World) (ai aT bi bt ci ct : Int) (wx : World) : Prop where
  a : wx.heap[w.heap.size]? = some (.cells #[.int .i64 ai, .int .i64 aT] 37 (0, 0))
  b : wx.heap[w.heap.size + 1]? = some (.cells #[.int .i64 bi, .int .i64 bt] 37 (0, 0))
  c : wx.heap[w.heap.size + 2]? = some (.cells #[.int .i64 ci, .int .i64 ct] 37 (0, 0))
  bel : Below w.heap.size w wx
theorem Tri.start (w : World) (ai aT bi bt ci ct : Int) : Tri w ai aT bi bt ci ct (((w.alloc (.cells #[.int .i64 ai, .int .i64 aT] 37)).alloc (.cells #[.int .i64 bi, .int .i64 bt] 37)).alloc (.cells #[.int .i64 ci, .int .i64 ct] 37)) := by
  have ht := two_heap w (.cells #[.int .i64 ai, .int .i64 aT] 37) (.cells #[.int .i64 bi, .int .i64 bt] 37)
  refine ⟨?_, ?_, ?_, (below2 w _ _).alloc (by rw [ht.2.2]; omega) _⟩
  · rw [heap_alloc_old _ _ (by rw [ht.2.2]; omega)]
    exact ht.1
  · rw [heap_alloc_old _ _ (by rw [ht.2.2]; omega)]
    exact ht.2.1
  · have h := heap_alloc_new ((w.alloc (.cells #[.int .i64 ai, .int .i64 aT] 37)).alloc (.cells #[.int .i64 bi, .int .i64 bt] 37)) (.cells #[.int .i64 ci, .int .i64 ct] 37)
    rwa [ht.2.2] at h
theorem Tri.keep {w wx wy : World} {ai aT bi bt ci ct : Int} (h : Tri w ai aT bi bt ci ct wx) (hb : Below wx.heap.size wx wy) : Tri w ai aT bi bt ci ct wy := by
  have hs : w.heap.size + 3 ≤ wx.heap.size := (Array.getElem?_eq_some_iff.1 h.c).1
  exact ⟨(hb.block _ (by omega)).trans h.a, (hb.block _ (by omega)).trans h.b, (hb.block _ (by omega)).trans h.c, below_via h.bel hb⟩
set_option maxHeartbeats 8000000 in
set_option maxRecDepth 100000 in
theorem order_walk (ai aT bi bt ci ct : Int) (w : World) : Calls Try.prog 8 #[.agg #[.int .i64 ai, .int .i64 aT], .agg #[.int .i64 bi, .int .i64 bt], .agg #[.int .i64 ci, .int .i64 ct]] w fun e w' => e = .returned (.bool true) ∧ Below w.heap.size w w' := by
  have T0 := hideIt (Tri.start w ai aT bi bt ci ct)
  have H1 := hideIt (fun W => less_is ai aT bi bt W)
  have H2 := hideIt (fun W => less_is bi bt ai aT W)
  have H3 := hideIt (fun W => less_is bi bt ci ct W)
  have H4 := hideIt (fun W => less_is ai aT ci ct W)
  have HL := hideIt (fun W => live_is W)
  have HN := fun W => neq37 ai aT bi bt W
  cases h1 : lessB ai aT bi bt
  · rw [h1] at H1
    cases h2 : lessB bi bt ai aT
    · have he := less_one ai aT bi bt h1 h2
      rw [h2] at H2
      have hq : (ai == bi && aT == bt) = true := by simp [he.1, he.2]
      rw [hq] at HN
      clear h1 h2 he hq
      go_enter Try.func8, Try.ntmps8
      go_wp2_with fail
      refine (H1.out _).mono ?_
      rintro e w1 ⟨rfl, hb⟩
      dsimp only
      have T1 := hideIt (T0.out.keep hb)
      clear hb T0
      have xc0 : w1.cell? ⟨w.heap.size, 0, none⟩ = some (.int .i64 ai) := by rw [cell_at T1.out.a]; rfl
      have xc1 : w1.cell? ⟨w.heap.size, 1, none⟩ = some (.int .i64 aT) := by rw [cell_at T1.out.a]; rfl
      have yc0 : w1.cell? ⟨w.heap.size + 1, 0, none⟩ = some (.int .i64 bi) := by rw [cell_at T1.out.b]; rfl
      have yc1 : w1.cell? ⟨w.heap.size + 1, 1, none⟩ = some (.int .i64 bt) := by rw [cell_at T1.out.b]; rfl
      have zc0 : w1.cell? ⟨w.heap.size + 2, 0, none⟩ = some (.int .i64 ci) := by rw [cell_at T1.out.c]; rfl
      have zc1 : w1.cell? ⟨w.heap.size + 2, 1, none⟩ = some (.int .i64 ct) := by rw [cell_at T1.out.c]; rfl
      go_wp2_with fail
      refine (H2.out _).mono ?_
      rintro e w2 ⟨rfl, hb⟩
      dsimp only
      clear xc0 xc1 yc0 yc1 zc0 zc1
      have T2 := hideIt (T1.out.keep hb)
      clear hb T1
      have xc0 : w2.cell? ⟨w.heap.size, 0, none⟩ = some (.int .i64 ai) := by rw [cell_at T2.out.a]; rfl
      have xc1 : w2.cell? ⟨w.heap.size, 1, none⟩ = some (.int .i64 aT) := by rw [cell_at T2.out.a]; rfl
      have yc0 : w2.cell? ⟨w.heap.size + 1, 0, none⟩ = some (.int .i64 bi) := by rw [cell_at T2.out.b]; rfl
      have yc1 : w2.cell? ⟨w.heap.size + 1, 1, none⟩ = some (.int .i64 bt) := by rw [cell_at T2.out.b]; rfl
      have zc0 : w2.cell? ⟨w.heap.size + 2, 0, none⟩ = some (.int .i64 ci) := by rw [cell_at T2.out.c]; rfl
      have zc1 : w2.cell? ⟨w.heap.size + 2, 1, none⟩ = some (.int .i64 ct) := by rw [cell_at T2.out.c]; rfl
      go_wp2_with fail
      refine (HL.out _).mono ?_
      rintro e w3 ⟨rfl, hb⟩
      dsimp only
      clear xc0 xc1 yc0 yc1 zc0 zc1
      have T3 := hideIt (T2.out.keep hb)
      clear hb T2
      go_wp2
      go_ret
      exact ⟨rfl, T3.out.bel⟩
    · rw [h2] at H2
      have hq := less_ne bi bt ai aT h2
      have hq2 : (ai == bi && aT == bt) = false := by rw [← hq, BEq.comm (a := ai), BEq.comm (a := aT)]
      rw [hq2] at HN
      clear h1 h2 hq hq2
      go_enter Try.func8, Try.ntmps8
      go_wp2_with fail
      refine (H1.out _).mono ?_
      rintro e w1 ⟨rfl, hb⟩
      dsimp only
      have T1 := hideIt (T0.out.keep hb)
      clear hb T0
      have xc0 : w1.cell? ⟨w.heap.size, 0, none⟩ = some (.int .i64 ai) := by rw [cell_at T1.out.a]; rfl
      have xc1 : w1.cell? ⟨w.heap.size, 1, none⟩ = some (.int .i64 aT) := by rw [cell_at T1.out.a]; rfl
      have yc0 : w1.cell? ⟨w.heap.size + 1, 0, none⟩ = some (.int .i64 bi) := by rw [cell_at T1.out.b]; rfl
      have yc1 : w1.cell? ⟨w.heap.size + 1, 1, none⟩ = some (.int .i64 bt) := by rw [cell_at T1.out.b]; rfl
      have zc0 : w1.cell? ⟨w.heap.size + 2, 0, none⟩ = some (.int .i64 ci) := by rw [cell_at T1.out.c]; rfl
      have zc1 : w1.cell? ⟨w.heap.size + 2, 1, none⟩ = some (.int .i64 ct) := by rw [cell_at T1.out.c]; rfl
      go_wp2_with fail
      refine (H2.out _).mono ?_
      rintro e w2 ⟨rfl, hb⟩
      dsimp only
      clear xc0 xc1 yc0 yc1 zc0 zc1
      have T2 := hideIt (T1.out.keep hb)
      clear hb T1
      have xc0 : w2.cell? ⟨w.heap.size, 0, none⟩ = some (.int .i64 ai) := by rw [cell_at T2.out.a]; rfl
      have xc1 : w2.cell? ⟨w.heap.size, 1, none⟩ = some (.int .i64 aT) := by rw [cell_at T2.out.a]; rfl
      have yc0 : w2.cell? ⟨w.heap.size + 1, 0, none⟩ = some (.int .i64 bi) := by rw [cell_at T2.out.b]; rfl
      have yc1 : w2.cell? ⟨w.heap.size + 1, 1, none⟩ = some (.int .i64 bt) := by rw [cell_at T2.out.b]; rfl
      have zc0 : w2.cell? ⟨w.heap.size + 2, 0, none⟩ = some (.int .i64 ci) := by rw [cell_at T2.out.c]; rfl
      have zc1 : w2.cell? ⟨w.heap.size + 2, 1, none⟩ = some (.int .i64 ct) := by rw [cell_at T2.out.c]; rfl
      go_wp2_with fail
      refine (HL.out _).mono ?_
      rintro e w3 ⟨rfl, hb⟩
      dsimp only
      clear xc0 xc1 yc0 yc1 zc0 zc1
      have T3 := hideIt (T2.out.keep hb)
      clear hb T2
      go_wp2
      go_ret
      exact ⟨rfl, T3.out.bel⟩
  · rw [h1] at H1
    rw [less_not _ _ _ _ h1] at H2
    have hq := less_ne ai aT bi bt h1
    rw [hq] at HN
    cases h3 : lessB bi bt ci ct
    · rw [h3] at H3
      clear h1 h3 hq
      go_enter Try.func8, Try.ntmps8
      go_wp2_with fail
      refine (H1.out _).mono ?_
      rintro e w1 ⟨rfl, hb⟩
      dsimp only
      have T1 := hideIt (T0.out.keep hb)
      clear hb T0
      have xc0 : w1.cell? ⟨w.heap.size, 0, none⟩ = some (.int .i64 ai) := by rw [cell_at T1.out.a]; rfl
      have xc1 : w1.cell? ⟨w.heap.size, 1, none⟩ = some (.int .i64 aT) := by rw [cell_at T1.out.a]; rfl
      have yc0 : w1.cell? ⟨w.heap.size + 1, 0, none⟩ = some (.int .i64 bi) := by rw [cell_at T1.out.b]; rfl
      have yc1 : w1.cell? ⟨w.heap.size + 1, 1, none⟩ = some (.int .i64 bt) := by rw [cell_at T1.out.b]; rfl
      have zc0 : w1.cell? ⟨w.heap.size + 2, 0, none⟩ = some (.int .i64 ci) := by rw [cell_at T1.out.c]; rfl
      have zc1 : w1.cell? ⟨w.heap.size + 2, 1, none⟩ = some (.int .i64 ct) := by rw [cell_at T1.out.c]; rfl
      go_wp2_with fail
      refine (H2.out _).mono ?_
      rintro e w2 ⟨rfl, hb⟩
      dsimp only
      clear xc0 xc1 yc0 yc1 zc0 zc1
      have T2 := hideIt (T1.out.keep hb)
      clear hb T1
      have xc0 : w2.cell? ⟨w.heap.size, 0, none⟩ = some (.int .i64 ai) := by rw [cell_at T2.out.a]; rfl
      have xc1 : w2.cell? ⟨w.heap.size, 1, none⟩ = some (.int .i64 aT) := by rw [cell_at T2.out.a]; rfl
      have yc0 : w2.cell? ⟨w.heap.size + 1, 0, none⟩ = some (.int .i64 bi) := by rw [cell_at T2.out.b]; rfl
      have yc1 : w2.cell? ⟨w.heap.size + 1, 1, none⟩ = some (.int .i64 bt) := by rw [cell_at T2.out.b]; rfl
      have zc0 : w2.cell? ⟨w.heap.size + 2, 0, none⟩ = some (.int .i64 ci) := by rw [cell_at T2.out.c]; rfl
      have zc1 : w2.cell? ⟨w.heap.size + 2, 1, none⟩ = some (.int .i64 ct) := by rw [cell_at T2.out.c]; rfl
      go_wp2_with fail
      refine (H3.out _).mono ?_
      rintro e w3 ⟨rfl, hb⟩
      dsimp only
      clear xc0 xc1 yc0 yc1 zc0 zc1
      have T3 := hideIt (T2.out.keep hb)
      clear hb T2
      go_wp2_with fail
      refine (HL.out _).mono ?_
      rintro e w4 ⟨rfl, hb⟩
      dsimp only
      have T4 := hideIt (T3.out.keep hb)
      clear hb T3
      go_wp2
      go_ret
      exact ⟨rfl, T4.out.bel⟩
    · rw [h3] at H3
      rw [less_on _ _ _ _ _ _ h1 h3] at H4
      clear h1 h3 hq
      go_enter Try.func8, Try.ntmps8
      go_wp2_with fail
      refine (H1.out _).mono ?_
      rintro e w1 ⟨rfl, hb⟩
      dsimp only
      have T1 := hideIt (T0.out.keep hb)
      clear hb T0
      have xc0 : w1.cell? ⟨w.heap.size, 0, none⟩ = some (.int .i64 ai) := by rw [cell_at T1.out.a]; rfl
      have xc1 : w1.cell? ⟨w.heap.size, 1, none⟩ = some (.int .i64 aT) := by rw [cell_at T1.out.a]; rfl
      have yc0 : w1.cell? ⟨w.heap.size + 1, 0, none⟩ = some (.int .i64 bi) := by rw [cell_at T1.out.b]; rfl
      have yc1 : w1.cell? ⟨w.heap.size + 1, 1, none⟩ = some (.int .i64 bt) := by rw [cell_at T1.out.b]; rfl
      have zc0 : w1.cell? ⟨w.heap.size + 2, 0, none⟩ = some (.int .i64 ci) := by rw [cell_at T1.out.c]; rfl
      have zc1 : w1.cell? ⟨w.heap.size + 2, 1, none⟩ = some (.int .i64 ct) := by rw [cell_at T1.out.c]; rfl
      go_wp2_with fail
      refine (H2.out _).mono ?_
      rintro e w2 ⟨rfl, hb⟩
      dsimp only
      clear xc0 xc1 yc0 yc1 zc0 zc1
      have T2 := hideIt (T1.out.keep hb)
      clear hb T1
      have xc0 : w2.cell? ⟨w.heap.size, 0, none⟩ = some (.int .i64 ai) := by rw [cell_at T2.out.a]; rfl
      have xc1 : w2.cell? ⟨w.heap.size, 1, none⟩ = some (.int .i64 aT) := by rw [cell_at T2.out.a]; rfl
      have yc0 : w2.cell? ⟨w.heap.size + 1, 0, none⟩ = some (.int .i64 bi) := by rw [cell_at T2.out.b]; rfl
      have yc1 : w2.cell? ⟨w.heap.size + 1, 1, none⟩ = some (.int .i64 bt) := by rw [cell_at T2.out.b]; rfl
      have zc0 : w2.cell? ⟨w.heap.size + 2, 0, none⟩ = some (.int .i64 ci) := by rw [cell_at T2.out.c]; rfl
      have zc1 : w2.cell? ⟨w.heap.size + 2, 1, none⟩ = some (.int .i64 ct) := by rw [cell_at T2.out.c]; rfl
      go_wp2_with fail
      refine (H3.out _).mono ?_
      rintro e w3 ⟨rfl, hb⟩
      dsimp only
      clear xc0 xc1 yc0 yc1 zc0 zc1
      have T3 := hideIt (T2.out.keep hb)
      clear hb T2
      have xc0 : w3.cell? ⟨w.heap.size, 0, none⟩ = some (.int .i64 ai) := by rw [cell_at T3.out.a]; rfl
      have xc1 : w3.cell? ⟨w.heap.size, 1, none⟩ = some (.int .i64 aT) := by rw [cell_at T3.out.a]; rfl
      have yc0 : w3.cell? ⟨w.heap.size + 1, 0, none⟩ = some (.int .i64 bi) := by rw [cell_at T3.out.b]; rfl
      have yc1 : w3.cell? ⟨w.heap.size + 1, 1, none⟩ = some (.int .i64 bt) := by rw [cell_at T3.out.b]; rfl
      have zc0 : w3.cell? ⟨w.heap.size + 2, 0, none⟩ = some (.int .i64 ci) := by rw [cell_at T3.out.c]; rfl
      have zc1 : w3.cell? ⟨w.heap.size + 2, 1, none⟩ = some (.int .i64 ct) := by rw [cell_at T3.out.c]; rfl
      go_wp2_with fail
      refine (H4.out _).mono ?_
      rintro e w4 ⟨rfl, hb⟩
      dsimp only
      clear xc0 xc1 yc0 yc1 zc0 zc1
      have T4 := hideIt (T3.out.keep hb)
      clear hb T3
      go_wp2_with fail
      refine (HL.out _).mono ?_
      rintro e w5 ⟨rfl, hb⟩
      dsimp only
      have T5 := hideIt (T4.out.keep hb)
      clear hb T4
      go_wp2
      go_ret
      exact ⟨rfl, T5.out.bel⟩
namespace termOrder
theorem own : ownKnob Try.prog.godebug = none := by kernel_rfl
set_option linter.unusedVariables false in
set_option maxRecDepth 100000 in
theorem lifted (os : Os) (started : os.Started) (H : Type) (enc : TypeId × Value → H) :
    ReturnsInHanded {} Try.checked os 8 .any (Rows.termOrderSpec.pre6 enc Try.prog Try.f8 Rows.termOrderRow.domain false) (Rows.termOrderSpec.post enc Try.prog Try.f8 false true false false) := by
  refine returnsInHanded_of_change (C := Try.checked) own started (by kernel_rfl) Try.func8
    (ChangeSpec.witness6 (enc := enc) (C := Try.checked) false ⟨#[], #[.agg #[.int .i64 0, .int .i64 0], .agg #[.int .i64 0, .int .i64 0], .agg #[.int .i64 0, .int .i64 0]], []⟩ 8 (by kernel_rfl) (by kernel_rfl) (by kernel_rfl) (by kernel_rfl)) ?_
  intro W base args ds gs before hval0 hW hcnd _
  have hval : ∀ (j : Nat) t v, Try.f8.params[j]? = some t → args[j]? = some v → Value.okWide Try.prog W .any base t v := hval0
  have hW' := hW
  obtain ⟨p, q, hA0, hV, rfl, hfz, hnd⟩ := hW
  have hA : DataW.TrodAll enc Try.prog W 0 (fun _ => true) true Try.f8.params.toList args.toList ds p := hA0
  rw [Try.params8] at hA hval
  obtain ⟨v0, vs0, d0, ds0, p0, q0, hargs, rfl, rfl, h0, r0⟩ := trodAll_cons hA
  obtain ⟨v1, vs1, d1, ds1, p1, q1, rfl, rfl, rfl, h1, r1⟩ := trodAll_cons r0
  obtain ⟨v2, vs2, d2, ds2, p2, q2, rfl, rfl, rfl, h2, r2⟩ := trodAll_cons r1
  obtain ⟨rfl, rfl, rfl⟩ := trodAll_nil r2
  obtain rfl : args = #[v0, v1, v2] := by cases args; simp_all
  obtain ⟨rfl, rfl⟩ := trodVars_none hV
  have l0 : ∀ x ∈ p0, x.block < W.heap.size := by obtain ⟨m, hm⟩ := h0; exact DataW.trod_lt m _ _ _ hm
  have l1 : ∀ x ∈ p1, x.block < W.heap.size := by obtain ⟨m, hm⟩ := h1; exact DataW.trod_lt m _ _ _ hm
  have l2 : ∀ x ∈ p2, x.block < W.heap.size := by obtain ⟨m, hm⟩ := h2; exact DataW.trod_lt m _ _ _ hm
  obtain ⟨ai, aT, rfl, _, _⟩ := open_spot (hval 0 37 v0 rfl rfl) h0
  obtain ⟨bi, bt, rfl, _, _⟩ := open_spot (hval 1 37 v1 rfl rfl) h1
  obtain ⟨ci, ct, rfl, _, _⟩ := open_spot (hval 2 37 v2 rfl rfl) h2
  clear hA0 hval0
  refine (order_walk ai aT bi bt ci ct W).mono fun e W' ⟨he, bel⟩ => ?_
  subst he
  exact ⟨_, rfl, _, _, _, [], _, [], hW', trodAll_mk1 (shut_bool Try.underlying4 _), (trodAll_cons_mk (Below.trod laidOut (by kernel_rfl) (of_decide_eq_true (by kernel_rfl)) h0 bel l0) (trodAll_cons_mk (Below.trod laidOut (by kernel_rfl) (of_decide_eq_true (by kernel_rfl)) h1 bel l1) (trodAll_cons_mk (Below.trod laidOut (by kernel_rfl) (of_decide_eq_true (by kernel_rfl)) h2 bel l2) trodAll_mk0))), rfl, bel.frame _, fun h => by cases h⟩
theorem over : Rows.termOrderRow.holds Try.pinned (OpenSpec.ofChange Rows.termOrderSpec) :=
  OpenClaim.holds_of_wide 8 Try.f8 rfl rfl rfl rfl rfl rfl rfl ⟨rfl, rfl, rfl, rfl, rfl⟩ rfl rfl rfl rfl rfl (by kernel_rfl) Try.func8 (by kernel_rfl)
    (of_decide_eq_true (by kernel_rfl)) (by unfold Func.isWrapper; first | (rw [if_pos (by decide +kernel)]; kernel_rfl) | (rw [if_neg (by decide +kernel)]; exact ⟨rfl, rfl⟩))
    (fun os started H enc _ => lifted os started H enc)
end termOrder
theorem termOrder_holds : Rows.TermOrderSaid := termOrder.over
#print axioms termOrder_holds
end Go.Proofs.Ytkoecdcbopkkbaa
