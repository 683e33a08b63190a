/- The document's own Ask. -/
import Derived.Test.YtgfpeknhabbkbaaRefC
import Derived.Test.YtgfpeknhabbkbaaAskW
namespace Go.Proofs.Ytgfpeknhabbkbaa
open Go.RowKit
set_option linter.all false
set_option maxHeartbeats 8000000 in
set_option maxRecDepth 100000 in
theorem rChecks_is (T : TabV) (h v : Value) (k n c q : Int) (w : World) (hT : Tab w T h v) : Calls Try.prog 31 #[.agg #[h, v], .agg #[.int .i64 k, .int .i64 n], .agg #[.int .i64 c, .int .i64 q]] w fun e w' => e = .returned (.int .i64 (refE T (k, n) (c, q))) ∧ Below w.heap.size w w' := by
  have H1 := hideIt (fun W (hW : Below w.heap.size w W) => rCheck_is T h v W (hT.keep hW))
  have H2 := hideIt (fun W => rKey_is k n W)
  have H3 := hideIt (fun W => rName_is c q W)
  have X0 := hideIt (B3.first w (.cells #[h, v] 24) (.cells #[.int .i64 k, .int .i64 n] 26) (.cells #[.int .i64 c, .int .i64 q] 28))
  obtain ⟨ha, hc, rfl⟩ := hT.held.slice
  obtain ⟨va, vc, rfl⟩ := hT.wait.slice
  clear hT
  unfold chkI at H1
  simp only [refE]
  cases hC : chkB T
  · rw [hC] at H1
    simp only [Bool.false_eq_true, if_false] at H1 ⊢
    go_enter Try.func31, Try.ntmps31
    go_wp2_with fail
    refine (H1.out _ X0.out.bel).mono ?_
    rintro e w1 ⟨rfl, hb⟩
    dsimp only
    have B1 := hideIt (X0.out.keep hb).bel
    clear hb
    go_wp2
    go_ret
    exact ⟨rfl, B1.out⟩
  · rw [hC] at H1
    simp only [if_true] at H1 ⊢
    cases hk : keyB (k, n)
    · rw [hk] at H2
      simp only [Bool.false_and, Bool.false_eq_true, if_false]
      go_enter Try.func31, Try.ntmps31
      go_wp2_with fail
      refine (H1.out _ X0.out.bel).mono ?_
      rintro e w1 ⟨rfl, hb⟩
      dsimp only
      have X1 := hideIt (X0.out.keep hb)
      have k0 : w1.cell? ⟨w.heap.size + 1, 0, none⟩ = some (.int .i64 k) := by rw [cell_at X1.out.b1]; rfl
      have k1 : w1.cell? ⟨w.heap.size + 1, 1, none⟩ = some (.int .i64 n) := by rw [cell_at X1.out.b1]; rfl
      clear hb
      go_wp2_with fail
      refine (H2.out _).mono ?_
      rintro e w2 ⟨rfl, hb⟩
      dsimp only
      have B2 := hideIt (X1.out.keep hb).bel
      clear hb
      go_wp2
      go_ret
      exact ⟨rfl, B2.out⟩
    · rw [hk] at H2
      cases hn : namB (c, q)
      · rw [hn] at H3
        simp only [Bool.and_false, Bool.false_eq_true, if_false]
        go_enter Try.func31, Try.ntmps31
        go_wp2_with fail
        refine (H1.out _ X0.out.bel).mono ?_
        rintro e w1 ⟨rfl, hb⟩
        dsimp only
        have X1 := hideIt (X0.out.keep hb)
        have k0 : w1.cell? ⟨w.heap.size + 1, 0, none⟩ = some (.int .i64 k) := by rw [cell_at X1.out.b1]; rfl
        have k1 : w1.cell? ⟨w.heap.size + 1, 1, none⟩ = some (.int .i64 n) := by rw [cell_at X1.out.b1]; rfl
        clear hb
        go_wp2_with fail
        refine (H2.out _).mono ?_
        rintro e w2 ⟨rfl, hb⟩
        dsimp only
        have X2 := hideIt (X1.out.keep hb)
        have t0 : w2.cell? ⟨w.heap.size + 1 + 1, 0, none⟩ = some (.int .i64 c) := by rw [cell_at X2.out.b2]; rfl
        have t1 : w2.cell? ⟨w.heap.size + 1 + 1, 1, none⟩ = some (.int .i64 q) := by rw [cell_at X2.out.b2]; rfl
        clear hb
        go_wp2_with fail
        refine (H3.out _).mono ?_
        rintro e w3 ⟨rfl, hb⟩
        dsimp only
        have B2 := hideIt (X2.out.keep hb).bel
        clear hb
        go_wp2
        go_ret
        exact ⟨rfl, B2.out⟩
      · rw [hn] at H3
        simp only [Bool.and_true, if_true]
        go_enter Try.func31, Try.ntmps31
        go_wp2_with fail
        refine (H1.out _ X0.out.bel).mono ?_
        rintro e w1 ⟨rfl, hb⟩
        dsimp only
        have X1 := hideIt (X0.out.keep hb)
        have k0 : w1.cell? ⟨w.heap.size + 1, 0, none⟩ = some (.int .i64 k) := by rw [cell_at X1.out.b1]; rfl
        have k1 : w1.cell? ⟨w.heap.size + 1, 1, none⟩ = some (.int .i64 n) := by rw [cell_at X1.out.b1]; rfl
        clear hb
        go_wp2_with fail
        refine (H2.out _).mono ?_
        rintro e w2 ⟨rfl, hb⟩
        dsimp only
        have X2 := hideIt (X1.out.keep hb)
        have t0 : w2.cell? ⟨w.heap.size + 1 + 1, 0, none⟩ = some (.int .i64 c) := by rw [cell_at X2.out.b2]; rfl
        have t1 : w2.cell? ⟨w.heap.size + 1 + 1, 1, none⟩ = some (.int .i64 q) := by rw [cell_at X2.out.b2]; rfl
        clear hb
        go_wp2_with fail
        refine (H3.out _).mono ?_
        rintro e w3 ⟨rfl, hb⟩
        dsimp only
        have B2 := hideIt (X2.out.keep hb).bel
        clear hb
        go_wp2
        go_ret
        exact ⟨rfl, B2.out⟩
theorem is_count (l : List TxnV) (t : TxnV) : l.any (fun x => x == t) = decide (0 < l.count t) := by
  rw [Bool.eq_iff_iff, List.any_eq_true, decide_eq_true_eq, List.count_pos_iff]
  constructor
  · rintro ⟨x, hx, e⟩
    have : x = t := by simpa using e
    rw [← this]
    exact hx
  · intro h
    exact ⟨t, h, by simp⟩
/-- What is asked of a table that may be, in the document's words. -/
theorem ask_doc {T : TabV} {k : KeyV} {t : TxnV} (hr : refE T k t = 0) : askL T k t = if (heldB T.held k && (hdT T.held k == t)) = true then (T, true, 0) else if (qL T.wait k).any (fun x => x == t) = true then (T, false, 0) else if (decide (200 ≤ T.held.length + T.wait.length) || (heldB T.held k && decide (4 ≤ (qL T.wait k).length))) = true then (zTab, false, 161) else if heldB T.held k = true then (⟨T.held, T.wait ++ [(k, t)]⟩, false, 0) else (⟨T.held ++ [(k, t)], T.wait⟩, true, 0) := by
  obtain ⟨hc, hk, ht⟩ := ref_ok hr
  have m := (chk_iff T).1 hc
  have hh := held_iff m.hh k
  have h4 := q_four m k
  have hl := m.len
  have hq0 : heldB T.held k = false → (qL T.wait k).length = 0 := fun e => by
    cases hq : qL T.wait k with
    | nil => rfl
    | cons x r =>
      have hx : x ∈ qL T.wait k := by rw [hq]; simp
      have := (m.mw (k, x) (qL_mem.1 hx)).1
      have := hh.2 this
      rw [e] at this
      cases this
  have hz := nam_ne ht
  rw [is_count]
  unfold askL
  rw [if_pos hr]
  by_cases h1 : hdT T.held k = t
  · have hb : heldB T.held k = true := hh.2 (by rw [h1]; exact hz)
    rw [hb, h1]
    simp
  · have e1 : (hdT T.held k == t) = false := beq_eq_false_iff_ne.2 h1
    rw [e1]
    simp only [Bool.false_eq_true, false_or, Bool.and_false, if_false]
    by_cases h2 : 0 < (qL T.wait k).count t
    · rw [if_pos h2, decide_eq_true h2, if_pos rfl]
    · rw [if_neg h2, decide_eq_false h2]
      simp only [Bool.false_eq_true, if_false]
      cases hb : heldB T.held k
      · have e2 := hq0 hb
        have e3 : (hdT T.held k == zT) = true := by
          rcases Bool.eq_false_or_eq_true (hdT T.held k == zT) with e | e
          · exact e
          · have := hh.2 (beq_eq_false_iff_ne.1 e)
            rw [hb] at this
            cases this
        rw [e3, e2]
        simp only [Bool.false_and, Bool.or_false, Bool.false_eq_true, if_false, if_true, decide_eq_true_eq]
        by_cases h5 : T.held.length + T.wait.length = 200
        · rw [if_pos (.inl h5), if_pos (by omega)]
        · rw [if_neg (by omega), if_neg (by omega)]
      · have e3 : (hdT T.held k == zT) = false := beq_eq_false_iff_ne.2 (hh.1 hb)
        rw [e3]
        simp only [Bool.true_and, Bool.or_eq_true, decide_eq_true_eq, Bool.false_eq_true, if_false, if_true]
        by_cases h5 : T.held.length + T.wait.length = 200 ∨ (qL T.wait k).length = 4
        · rw [if_pos h5, if_pos (by omega)]
        · rw [if_neg h5, if_neg (by omega)]
set_option maxHeartbeats 16000000 in
set_option maxRecDepth 100000 in
theorem rAsk_is (T : TabV) (h v : Value) (k n c q : Int) (w : World) (hT : Tab w T h v) : Calls Try.prog 13 #[.agg #[h, v], .agg #[.int .i64 k, .int .i64 n], .agg #[.int .i64 c, .int .i64 q]] w (AskBack (askL T (k, n) (c, q)) w) := by
  have H1 := hideIt (fun W (hW : Below w.heap.size w W) => rChecks_is T h v k n c q W (hT.keep hW))
  have H2 := hideIt (fun W (hW : Below w.heap.size w W) => rHolder_is T h v k n W (hT.keep hW))
  have H3 := hideIt (fun W (hW : Below w.heap.size w W) => rWaits_is T h v k n c q W (hT.keep hW))
  have H4 := hideIt (fun W (hW : Below w.heap.size w W) => rCopy_is T h v W (hT.keep hW))
  have X0 := hideIt (Bx.first w [.cells #[h, v] 24, .cells #[.int .i64 k, .int .i64 n] 26, .cells #[.int .i64 c, .int .i64 q] 28, .cells #[.slice none 0 0, .slice none 0 0] 24])
  have hl1 := hT.held.1
  have hl2 := hT.wait.1
  obtain ⟨ha, hc, rfl⟩ := hT.held.slice
  obtain ⟨va, vc, rfl⟩ := hT.wait.slice
  clear hT
  unfold CopyBack at H4
  simp only [List.foldl_cons, List.foldl_nil] at X0
  by_cases hR : refE T (k, n) (c, q) = 0
  · have HX := hideIt (ask_doc hR)
    rw [hR] at H1
    have hlen := chk_len (ref_ok hR).1
    clear hR hl1 hl2
    generalize askL T (k, n) (c, q) = RES at *
    generalize hdT T.held (k, n) = f at *
    obtain ⟨fc, fq⟩ := f
    have l8 : (qL T.wait (k, n)).length ≤ T.wait.length := qL_len _ _
    generalize heldB T.held (k, n) = hd at *
    generalize (qL T.wait (k, n)).any (fun x => x == (c, q)) = is0 at *
    generalize (qL T.wait (k, n)).length = all at *
    go_enter Try.func13, Try.ntmps13
    go_wp2_with fail
    refine (H1.out _ X0.out.bel).mono ?_
    rintro e w1 ⟨rfl, hb⟩
    dsimp only
    have X1 := hideIt (X0.out.keep hb)
    clear hb H1 X0
    go_upto_region 4 with fail
    have a0 : w1.cell? ⟨w.heap.size, 0, none⟩ = some (.slice ha T.held.length hc) := X1.out.c 0 0 rfl rfl
    have a1 : w1.cell? ⟨w.heap.size, 1, none⟩ = some (.slice va T.wait.length vc) := X1.out.c 0 1 rfl rfl
    have b0 : w1.cell? ⟨w.heap.size + 1, 0, none⟩ = some (.int .i64 k) := X1.out.c 1 0 rfl rfl
    have b1 : w1.cell? ⟨w.heap.size + 1, 1, none⟩ = some (.int .i64 n) := X1.out.c 1 1 rfl rfl
    go_wp2_with fail
    refine (H2.out _ X1.out.bel).mono ?_
    rintro e w2 ⟨rfl, hb⟩
    dsimp only
    have X2 := hideIt ((X1.out.keep hb).keep (below1 w2 (.cells #[.int .i64 fc, .int .i64 fq] 28)))
    have F2 := hideIt (heap_alloc_new w2 (.cells #[.int .i64 fc, .int .i64 fq] 28))
    have lK : w.heap.size + 1 + 1 + 1 < w2.heap.size := by have := (X1.out.keep hb).size; simp at this; omega
    clear hb H2 X1 a0 a1 b0 b1
    go_upto_region 5 with fail
    generalize w2.alloc (.cells #[.int .i64 fc, .int .i64 fq] 28) = W2 at *
    generalize w2.heap.size = K at *
    have a0 : W2.cell? ⟨w.heap.size, 0, none⟩ = some (.slice ha T.held.length hc) := X2.out.c 0 0 rfl rfl
    have a1 : W2.cell? ⟨w.heap.size, 1, none⟩ = some (.slice va T.wait.length vc) := X2.out.c 0 1 rfl rfl
    have b0 : W2.cell? ⟨w.heap.size + 1, 0, none⟩ = some (.int .i64 k) := X2.out.c 1 0 rfl rfl
    have b1 : W2.cell? ⟨w.heap.size + 1, 1, none⟩ = some (.int .i64 n) := X2.out.c 1 1 rfl rfl
    have t0 : W2.cell? ⟨w.heap.size + 1 + 1, 0, none⟩ = some (.int .i64 c) := X2.out.c 2 0 rfl rfl
    have t1 : W2.cell? ⟨w.heap.size + 1 + 1, 1, none⟩ = some (.int .i64 q) := X2.out.c 2 1 rfl rfl
    go_wp2_with fail
    refine (H3.out _ X2.out.bel).mono ?_
    rintro e w3 ⟨rfl, hb⟩
    dsimp only
    have X3 := hideIt (X2.out.keep hb)
    have F3 := hideIt ((hb.block _ (Array.getElem?_eq_some_iff.1 F2.out).1).trans F2.out)
    clear hb H3 X2 F2 a0 a1 b0 b1 t0 t1
    go_upto_region 6 with fail
    have a0 : w3.cell? ⟨w.heap.size, 0, none⟩ = some (.slice ha T.held.length hc) := X3.out.c 0 0 rfl rfl
    have a1 : w3.cell? ⟨w.heap.size, 1, none⟩ = some (.slice va T.wait.length vc) := X3.out.c 0 1 rfl rfl
    go_wp2_with fail
    refine (H4.out _ X3.out.bel).mono ?_
    rintro e w5 ⟨h', v', rfl, ho, hsp, hb⟩
    dsimp only
    obtain ⟨ha', hc', rfl⟩ := own_len ho.oh
    obtain ⟨va', vc', rfl⟩ := own_len ho.ov
    have hb6 := below1 w5 (.cells #[.slice ha' T.held.length hc', .slice va' T.wait.length vc'] 24)
    have hs3 := X3.out.size
    have hKl := (Array.getElem?_eq_some_iff.1 F3.out).1
    have HA : Hid (AQ w [.cells #[.slice ha T.held.length hc, .slice va T.wait.length vc] 24, .cells #[.int .i64 k, .int .i64 n] 26, .cells #[.int .i64 c, .int .i64 q] 28, .cells #[.slice none 0 0, .slice none 0 0] 24] K #[.int .i64 fc, .int .i64 fq] 28 T w5.heap.size (.slice ha' T.held.length hc') (.slice va' T.wait.length vc') (w5.alloc (.cells #[.slice ha' T.held.length hc', .slice va' T.wait.length vc'] 24))) :=
      ⟨(X3.out.keep hb).keep hb6, (hb6.block _ (Nat.lt_of_lt_of_le hKl hb.size)).trans ((hb.block _ hKl).trans F3.out), heap_alloc_new w5 _, ⟨own_base (own_keep ho.oh hb6) hs3, own_base (own_keep ho.ov hb6) hs3⟩, hsp, Nat.le_trans hs3 hb.size, by have := hb.size; omega⟩
    clear ho hsp hb hb6 hs3 hKl X3 F3 H4 a0 a1
    go_upto_region 7 with fail
    generalize w5.alloc (.cells #[.slice ha' T.held.length hc', .slice va' T.wait.length vc'] 24) = W6 at *
    generalize w5.heap.size = P at *
    obtain ⟨p0, p1, pf0, pf1, pl⟩ := two_at HA.out.box
    obtain ⟨k0, k1, -, -, kl⟩ := two_at HA.out.hk
    have a0 : W6.cell? ⟨w.heap.size, 0, none⟩ = some (.slice ha T.held.length hc) := HA.out.bx.c 0 0 rfl rfl
    have a1 : W6.cell? ⟨w.heap.size, 1, none⟩ = some (.slice va T.wait.length vc) := HA.out.bx.c 0 1 rfl rfl
    have b0 : W6.cell? ⟨w.heap.size + 1, 0, none⟩ = some (.int .i64 k) := HA.out.bx.c 1 0 rfl rfl
    have b1 : W6.cell? ⟨w.heap.size + 1, 1, none⟩ = some (.int .i64 n) := HA.out.bx.c 1 1 rfl rfl
    have t0 : W6.cell? ⟨w.heap.size + 1 + 1, 0, none⟩ = some (.int .i64 c) := HA.out.bx.c 2 0 rfl rfl
    have t1 : W6.cell? ⟨w.heap.size + 1 + 1, 1, none⟩ = some (.int .i64 q) := HA.out.bx.c 2 1 rfl rfl
    have r0 : W6.cell? ⟨w.heap.size + 1 + 1 + 1, 0, none⟩ = some (.slice none 0 0) := HA.out.bx.c 3 0 rfl rfl
    have r1 : W6.cell? ⟨w.heap.size + 1 + 1 + 1, 1, none⟩ = some (.slice none 0 0) := HA.out.bx.c 3 1 rfl rfl
    have g0 : W6.frozen? ⟨w.heap.size + 1 + 1 + 1, 0, none⟩ = false := HA.out.bx.f 3 0 rfl
    have g1 : W6.frozen? ⟨w.heap.size + 1 + 1 + 1, 1, none⟩ = false := HA.out.bx.f 3 1 rfl
    have sz : w.heap.size + 1 + 1 + 1 < W6.heap.size := by have := HA.out.bx.size; simp at this; omega
    have RT := hideIt (HA.out.ar.ret rfl)
    have RC := hideIt (And.intro (two_at (p := w.heap.size + 1 + 1 + 1) RT.out.1).1 (two_at (p := w.heap.size + 1 + 1 + 1) RT.out.1).2.1)
    have nP : P ≠ w.heap.size + 1 + 1 + 1 := by have := HA.out.lP; simp at this; omega
    have nP2 : w.heap.size + 1 + 1 + 1 ≠ P := nP.symm
    have hwl : IntKind.i64.wrap ((T.held.length : Int) + (T.wait.length : Int)) = (T.held.length : Int) + (T.wait.length : Int) := by rw [IntKind.wrap_i64]; omega
    have XB := hideIt HA.out.bx
    cases hd
    · simp only [Bool.false_and, Bool.or_false, Bool.false_eq_true, if_false, decide_eq_true_eq] at HX
      cases is0
      · simp only [Bool.false_eq_true, if_false] at HX
        by_cases h200 : 200 ≤ T.held.length + T.wait.length
        · have h200I : (200 : Int) ≤ (T.held.length : Int) + (T.wait.length : Int) := by omega
          have HE : Hid (RES = (zTab, false, 161)) := by
            show RES = _
            rw [HX.out, if_pos h200]
          clear HX RT RC h200
          have RH := hideIt (put2 (XB.out.at_ 3 (by simp)) (.slice none 0 0) (.slice none 0 0))
          have RC := hideIt (And.intro (two_at (p := w.heap.size + 1 + 1 + 1) RH.out).1 (two_at (p := w.heap.size + 1 + 1 + 1) RH.out).2.1)
          go_wp2
          exact bodyPost_ret (v := .tuple #[.agg #[.slice none 0 0, .slice none 0 0], .bool false, .int .i64 161]) (by simp [results, Try.results13, go_sem, RC.out.1, RC.out.2]) rfl (by rw [HE.out]; exact ⟨_, _, rfl, zOwn _ _, belowSet _ (belowSet _ XB.out.bel (by omega)) (by omega)⟩)
        · have h200I : ¬ (200 : Int) ≤ (T.held.length : Int) + (T.wait.length : Int) := by omega
          have HE : Hid (RES = (⟨T.held ++ [((k, n), (c, q))], T.wait⟩, true, 0)) := by
            show RES = _
            rw [HX.out, if_neg h200]
          clear HX RT RC h200
          obtain ⟨a', c', w9, hrun, AR9, s0, s1, sf, sl⟩ := (HA.out.keep (below1 W6 (.cells (holE ((k, n), (c, q))).toArray 44))).appH (c := 1) (heap_alloc_new W6 (.cells (holE ((k, n), (c, q))).toArray 44)) (by omega)
          unfold holE at hrun
          dsimp only at hrun
          have HRUN := hideIt hrun
          have R9 := AR9.bx.at_ 3 (by simp)
          rw [heap_set_other _ _ _ _ _ nP.symm] at R9
          obtain ⟨z0, z1, zf0, zf1, zl⟩ := two_at (p := w.heap.size + 1 + 1 + 1) R9
          have RT := hideIt (AR9.ret rfl)
          have RC := hideIt (And.intro (two_at (p := w.heap.size + 1 + 1 + 1) RT.out.1).1 (two_at (p := w.heap.size + 1 + 1 + 1) RT.out.1).2.1)
          clear hrun AR9 R9
          go_wp2_with (at_builtin; refine Lib.wpList_append_run _ rfl _ _ _ _ rfl _ _ rfl rfl _ _ HRUN.out ?_)
          exact bodyPost_ret (v := .tuple #[.agg #[.slice a' (T.held.length + 1) c', .slice va' T.wait.length vc'], .bool true, .int .i64 0]) (by simp [results, Try.results13, go_sem, RC.out.1, RC.out.2]) rfl (by rw [HE.out]; exact ⟨_, _, rfl, RT.out.2.1, RT.out.2.2⟩)
      · have HE : Hid (RES = (T, false, 0)) := by
          show RES = _
          rw [HX.out]
          simp
        clear HX
        go_wp2
        exact bodyPost_ret (v := .tuple #[.agg #[.slice ha' T.held.length hc', .slice va' T.wait.length vc'], .bool false, .int .i64 0]) (by simp [results, Try.results13, go_sem, RC.out.1, RC.out.2]) rfl (by rw [HE.out]; exact ⟨_, _, rfl, RT.out.2.1, RT.out.2.2⟩)
    · simp only [Bool.true_and, if_true] at HX
      cases hq : ((fc, fq) == (c, q))
      · have q1 : ∀ W, (binOp .eql 28 (.agg #[.int .i64 fc, .int .i64 fq]) (.agg #[.int .i64 c, .int .i64 q])).run Try.prog W = .ok (.bool false) W := fun W => by rw [eq28, hq]
        rw [hq] at HX
        simp only [Bool.false_eq_true, if_false] at HX
        cases is0
        · simp only [Bool.false_eq_true, if_false, Bool.or_eq_true, decide_eq_true_eq] at HX
          by_cases h200 : 200 ≤ T.held.length + T.wait.length
          · have h200I : (200 : Int) ≤ (T.held.length : Int) + (T.wait.length : Int) := by omega
            have HE : Hid (RES = (zTab, false, 161)) := by
              show RES = _
              rw [HX.out, if_pos (.inl h200)]
            clear HX RT RC h200 hq
            have RH := hideIt (put2 (XB.out.at_ 3 (by simp)) (.slice none 0 0) (.slice none 0 0))
            have RC := hideIt (And.intro (two_at (p := w.heap.size + 1 + 1 + 1) RH.out).1 (two_at (p := w.heap.size + 1 + 1 + 1) RH.out).2.1)
            go_wp2
            exact bodyPost_ret (v := .tuple #[.agg #[.slice none 0 0, .slice none 0 0], .bool false, .int .i64 161]) (by simp [results, Try.results13, go_sem, RC.out.1, RC.out.2]) rfl (by rw [HE.out]; exact ⟨_, _, rfl, zOwn _ _, belowSet _ (belowSet _ XB.out.bel (by omega)) (by omega)⟩)
          · have h200I : ¬ (200 : Int) ≤ (T.held.length : Int) + (T.wait.length : Int) := by omega
            by_cases h4 : 4 ≤ all
            · have h4I : (4 : Int) ≤ (all : Int) := by omega
              have HE : Hid (RES = (zTab, false, 161)) := by
                show RES = _
                rw [HX.out, if_pos (.inr h4)]
              clear HX RT RC h200 hq h4
              have RH := hideIt (put2 (XB.out.at_ 3 (by simp)) (.slice none 0 0) (.slice none 0 0))
              have RC := hideIt (And.intro (two_at (p := w.heap.size + 1 + 1 + 1) RH.out).1 (two_at (p := w.heap.size + 1 + 1 + 1) RH.out).2.1)
              go_wp2
              exact bodyPost_ret (v := .tuple #[.agg #[.slice none 0 0, .slice none 0 0], .bool false, .int .i64 161]) (by simp [results, Try.results13, go_sem, RC.out.1, RC.out.2]) rfl (by rw [HE.out]; exact ⟨_, _, rfl, zOwn _ _, belowSet _ (belowSet _ XB.out.bel (by omega)) (by omega)⟩)
            · have h4I : ¬ (4 : Int) ≤ (all : Int) := by omega
              have HE : Hid (RES = (⟨T.held, T.wait ++ [((k, n), (c, q))]⟩, false, 0)) := by
                show RES = _
                rw [HX.out, if_neg (by omega)]
              clear HX RT RC h200 hq h4
              obtain ⟨a', c', w9, hrun, AR9, s0, s1, sf, sl⟩ := (HA.out.keep (below1 W6 (.cells (holE ((k, n), (c, q))).toArray 44))).appV (c := 1) (heap_alloc_new W6 (.cells (holE ((k, n), (c, q))).toArray 44)) (by omega)
              unfold holE at hrun
              dsimp only at hrun
              have HRUN := hideIt hrun
              have R9 := AR9.bx.at_ 3 (by simp)
              rw [heap_set_other _ _ _ _ _ nP.symm] at R9
              obtain ⟨z0, z1, zf0, zf1, zl⟩ := two_at (p := w.heap.size + 1 + 1 + 1) R9
              have RT := hideIt (AR9.ret rfl)
              have RC := hideIt (And.intro (two_at (p := w.heap.size + 1 + 1 + 1) RT.out.1).1 (two_at (p := w.heap.size + 1 + 1 + 1) RT.out.1).2.1)
              clear hrun AR9 R9
              go_wp2_with (at_builtin; refine Lib.wpList_append_run _ rfl _ _ _ _ rfl _ _ rfl rfl _ _ HRUN.out ?_)
              exact bodyPost_ret (v := .tuple #[.agg #[.slice ha' T.held.length hc', .slice a' (T.wait.length + 1) c'], .bool false, .int .i64 0]) (by simp [results, Try.results13, go_sem, RC.out.1, RC.out.2]) rfl (by rw [HE.out]; exact ⟨_, _, rfl, RT.out.2.1, RT.out.2.2⟩)
        · have HE : Hid (RES = (T, false, 0)) := by
            show RES = _
            rw [HX.out]
            simp
          clear HX hq
          go_wp2
          exact bodyPost_ret (v := .tuple #[.agg #[.slice ha' T.held.length hc', .slice va' T.wait.length vc'], .bool false, .int .i64 0]) (by simp [results, Try.results13, go_sem, RC.out.1, RC.out.2]) rfl (by rw [HE.out]; exact ⟨_, _, rfl, RT.out.2.1, RT.out.2.2⟩)
      · have q1 : ∀ W, (binOp .eql 28 (.agg #[.int .i64 fc, .int .i64 fq]) (.agg #[.int .i64 c, .int .i64 q])).run Try.prog W = .ok (.bool true) W := fun W => by rw [eq28, hq]
        have HE : Hid (RES = (T, true, 0)) := by
          show RES = _
          rw [HX.out, if_pos hq]
        clear HX hq
        go_wp2
        exact bodyPost_ret (v := .tuple #[.agg #[.slice ha' T.held.length hc', .slice va' T.wait.length vc'], .bool true, .int .i64 0]) (by simp [results, Try.results13, go_sem, RC.out.1, RC.out.2]) rfl (by rw [HE.out]; exact ⟨_, _, rfl, RT.out.2.1, RT.out.2.2⟩)
  · have HE : Hid (askL T (k, n) (c, q) = (zTab, false, refE T (k, n) (c, q))) := by
      show askL _ _ _ = _
      unfold askL
      rw [if_neg hR]
    have HR := hideIt hR
    generalize askL T (k, n) (c, q) = RES at *
    generalize refE T (k, n) (c, q) = re at *
    go_enter Try.func13, Try.ntmps13
    go_wp2_with fail
    refine (H1.out _ X0.out.bel).mono ?_
    rintro e w1 ⟨rfl, hb⟩
    dsimp only
    have X1 := hideIt (X0.out.keep hb)
    clear hb H1 X0 H2 H3 H4
    have r0 : w1.cell? ⟨w.heap.size + 1 + 1 + 1, 0, none⟩ = some (.slice none 0 0) := X1.out.c 3 0 rfl rfl
    have r1 : w1.cell? ⟨w.heap.size + 1 + 1 + 1, 1, none⟩ = some (.slice none 0 0) := X1.out.c 3 1 rfl rfl
    have g0 : w1.frozen? ⟨w.heap.size + 1 + 1 + 1, 0, none⟩ = false := X1.out.f 3 0 rfl
    have g1 : w1.frozen? ⟨w.heap.size + 1 + 1 + 1, 1, none⟩ = false := X1.out.f 3 1 rfl
    have RH := hideIt (put2 (X1.out.at_ 3 (by simp)) (.slice none 0 0) (.slice none 0 0))
    have RC := hideIt (And.intro (two_at (p := w.heap.size + 1 + 1 + 1) RH.out).1 (two_at (p := w.heap.size + 1 + 1 + 1) RH.out).2.1)
    go_wp2
    exact bodyPost_ret (v := .tuple #[.agg #[.slice none 0 0, .slice none 0 0], .bool false, .int .i64 re]) (by simp [results, Try.results13, go_sem, RC.out.1, RC.out.2]) rfl (by rw [HE.out]; exact ⟨_, _, rfl, zOwn _ _, belowSet _ (belowSet _ X1.out.bel (by omega)) (by omega)⟩)
end Go.Proofs.Ytgfpeknhabbkbaa
