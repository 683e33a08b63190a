/- The statement on what stays, walked. -/
import Derived.Test.YtonhoopmhkomcaaSnt
namespace Go.Proofs.Ytonhoopmhkomcaa
open Go.RowKit
/-- What a log that was sent entries is, if that was not refused. -/
theorem acc_took {L : LogV} {pi pt : Int} {es : List EntV} {cc : Int} (hm : mayB L = true) (h : (accL L pi pt es cc).2.2.2 = 0) : accL L pi pt es cc = (L, 0, false, 0) ∨ (argB pi pt es cc = true ∧ pi ≤ lasI L ∧ (putL L pi es).2 = 0 ∧ accL L pi pt es cc = (⟨(putL L pi es).1.bi, (putL L pi es).1.bt, (putL L pi es).1.l, max L.cm (min cc (pi + (es.length : Int)))⟩, max (pi + (es.length : Int)) L.bi, true, 0)) := by
  unfold accL at h ⊢
  rw [hm, if_neg (by simp)] at h ⊢
  cases ha : argB pi pt es cc
  · rw [ha, if_pos rfl] at h
    cases h
  · rw [ha, if_neg (by simp)] at h
    rw [if_neg (by simp)]
    by_cases c : L.bi ≤ pi ∧ hasM L pi pt = false
    · rw [if_pos c]
      exact .inl rfl
    · rw [if_neg c] at h ⊢
      by_cases c2 : (putL L pi es).2 = 0
      · rw [if_neg (by simpa using c2)]
        refine .inr ⟨rfl, ?_, c2, rfl⟩
        by_cases hb : L.bi ≤ pi
        · have : hasM L pi pt = true := by
            cases hh : hasM L pi pt
            · exact absurd ⟨hb, hh⟩ c
            · rfl
          exact (hasM_in this).2
        · have := mayB_in hm
          unfold lasI
          omega
      · rw [if_pos c2] at h
        exact absurd h c2
theorem acc_keep {L : LogV} {pi pt : Int} {es : List EntV} {cc : Int} (hm : mayB L = true) (h : (accL L pi pt es cc).2.2.2 = 0) : mayB (accL L pi pt es cc).1 = true ∧ L.cm ≤ (accL L pi pt es cc).1.cm ∧ (accL L pi pt es cc).1.bi = L.bi ∧ (accL L pi pt es cc).1.bt = L.bt ∧ fromL (accL L pi pt es cc).1 (L.bi + 1) (L.cm - L.bi) = fromL L (L.bi + 1) (L.cm - L.bi) := by
  rcases acc_took hm h with e | ⟨ha, hpl, h2, e⟩
  · rw [e]
    exact ⟨hm, Int.le_refl _, rfl, rfl, rfl⟩
  · have T := took hm ha hpl h2
    rw [e]
    generalize (⟨(putL L pi es).1.bi, (putL L pi es).1.bt, (putL L pi es).1.l, max L.cm (min cc (pi + (es.length : Int)))⟩ : LogV) = A at *
    have hin := mayB_in hm
    have hiA := mayB_in T.may
    have hcm := T.cm
    refine ⟨T.may, by simp only; omega, T.bi, T.bt, ?_⟩
    simp only
    unfold fromL
    rw [T.may, hm, T.bi]
    by_cases c : 1 ≤ L.cm - L.bi
    · have h1 : hasB L (L.bi + 1) = true := decide_eq_true (by omega)
      have h3 : hasB A (L.bi + 1) = true := decide_eq_true (by rw [T.bi]; omega)
      rw [h1, h3]
      simp only [Bool.and_self, Bool.true_and]
      rw [show (L.bi + 1 - L.bi - 1).toNat = 0 by omega]
      simp only [List.drop_zero]
      rw [T.keep (L.cm - L.bi).toNat (by omega)]
    · rw [decide_eq_false c]
      simp
theorem neq23r (a b : Int) (w : World) : (binOp .neq 23 (.agg #[.int .i64 a, .int .i64 b]) (.agg #[.int .i64 a, .int .i64 b])).run Try.prog w = .ok (.bool false) w := by
  rw [neq23]
  simp
/-- The log in its box, and what came of it in another. -/
structure LX (w : World) (k2 : Nat) (L X : LogV) (g gx : Value) (wx : World) : Prop where
  e0 : Ent wx w.heap.size L g
  e1 : Ent wx k2 X gx
  bel : Below w.heap.size w wx
theorem LX.keep {w wx wy : World} {k2 : Nat} {L X : LogV} {g gx : Value} (h : LX w k2 L X g gx wx) (hb : Below wx.heap.size wx wy) : LX w k2 L X g gx wy := ⟨h.e0.keep hb, h.e1.keep hb, below_via h.bel hb⟩
theorem LX.eight {w wx : World} {k2 : Nat} {L X : LogV} {g gx : Value} (h : LX w k2 L X g gx wx) : wx.cell? ⟨w.heap.size, 0, none⟩ = some (.int .i64 L.bi) ∧ wx.cell? ⟨w.heap.size, 1, none⟩ = some (.int .i64 L.bt) ∧ wx.cell? ⟨w.heap.size, 2, none⟩ = some g ∧ wx.cell? ⟨w.heap.size, 3, none⟩ = some (.int .i64 L.cm) ∧ wx.cell? ⟨k2, 0, none⟩ = some (.int .i64 X.bi) ∧ wx.cell? ⟨k2, 1, none⟩ = some (.int .i64 X.bt) ∧ wx.cell? ⟨k2, 2, none⟩ = some gx ∧ wx.cell? ⟨k2, 3, none⟩ = some (.int .i64 X.cm) :=
  ⟨h.e0.cells.1, h.e0.cells.2.1, h.e0.cells.2.2.1, h.e0.cells.2.2.2, h.e1.cells.1, h.e1.cells.2.1, h.e1.cells.2.2.1, h.e1.cells.2.2.2⟩
set_option maxHeartbeats 16000000 in
set_option maxRecDepth 100000 in
theorem keep_walk (L : LogV) (g k : Value) (pi pt : Int) (es : List EntV) (cc : Int) (w : World) (h : EGot w g L.l) (hk : EGot w k es) : Calls Try.prog 7 #[logV L g, .agg (sntA pi pt k cc)] w fun e w' => e = .returned (.bool true) ∧ Below w.heap.size w w' := by
  have HL := hideIt (fun W => live8_is W)
  have S0 := hideIt (LS.first pi pt cc h hk)
  have HCK := hideIt (fun W (hW : EGot W g L.l) => check_is L g W hW)
  have HT := hideIt (acc_keep (L := L) (pi := pi) (pt := pt) (es := es) (cc := cc))
  have HC1 := hideIt (fun W (hW : EGot W g L.l) (hV : EGot W k es) => accept_is L g k pi pt es cc W hW hV)
  have l1 := acc_len L pi pt es cc
  have h8 := h.1
  generalize accL L pi pt es cc = XX at *
  obtain ⟨X, nn, ok, x⟩ := XX
  simp only at HT l1
  have LX : Hid (X.l.length * 32 ≤ 150000000000000) := by
    show _ ≤ _
    omega
  have HCX := hideIt (fun W gx (hW : EGot W gx X.l) => check_is X gx W hW)
  have HF1 := hideIt (fun i n hin W gx (hW : EGot W gx X.l) => from_is X gx i n W hW hin)
  have HF2 := hideIt (fun i n hin W (hW : EGot W g L.l) => from_is L g i n W hW hin)
  unfold AccBack at HC1
  obtain ⟨a, c, rfl⟩ := h.slice
  obtain ⟨ka, kc, rfl⟩ := hk.slice
  cases hm : mayB L
  · have hc80 : chkI L = 80 := by simp [chkI, hm]
    rw [hc80] at HCK
    unfold logV logA at *
    unfold sntA at *
    obtain ⟨bi, bt, l, cm⟩ := L
    simp only at HCK S0 ⊢
    clear h hk h8 l1 HT HC1 HCX HF1 HF2
    go_enter Try.func7, Try.ntmps7
    go_wp2_with fail
    refine (HCK.out _ S0.out.log.got).mono ?_
    rintro e w1 ⟨rfl, hbl⟩
    dsimp only
    have S1 := hideIt (S0.out.keep hbl)
    clear hbl S0 HCK
    have B1 := hideIt S1.out.bel
    clear S1
    go_wp2_with fail
    refine (HL.out _).mono ?_
    rintro e w9 ⟨rfl, hbl⟩
    dsimp only
    have HB := hideIt (below_via B1.out hbl)
    clear hbl
    go_wp2
    go_ret
    exact ⟨rfl, HB.out⟩
  · have hc0 : chkI L = 0 := by simp [chkI, hm]
    rw [hc0] at HCK
    by_cases hx : x = 0
    · subst hx
      obtain ⟨t1, t2, t3, t4, t5⟩ := HT.out hm rfl
      have hin := mayB_in hm
      have hcx : chkI X = 0 := by simp [chkI, t1]
      replace HF1 := hideIt (HF1.out (L.bi + 1) (L.cm - L.bi) ⟨⟨by omega, by omega⟩, ⟨by omega, by unfold lasI at hin; omega⟩⟩)
      replace HF2 := hideIt (HF2.out (L.bi + 1) (L.cm - L.bi) ⟨⟨by omega, by omega⟩, ⟨by omega, by unfold lasI at hin; omega⟩⟩)
      rw [t5] at HF1
      have hfl : (fromL L (L.bi + 1) (L.cm - L.bi)).length * 32 ≤ 150000000000000 := by
        unfold fromL
        split
        · rw [List.length_take, List.length_drop]
          omega
        · simp
      have HFL := hideIt hfl
      generalize fromL L (L.bi + 1) (L.cm - L.bi) = D at *
      rw [hcx] at HCX
      have HSE := hideIt (fun g k W hg hk => sameEnts_is g k D W hg hk)
      unfold EntsBack at HF1 HF2
      have hb1 : 0 ≤ L.bi ∧ L.bi ≤ 1000000 := hin.1
      have hb2 : L.cm ≤ 1000000 := by omega
      have hb3 : L.bi ≤ L.cm := hin.2.2.2.2.2.1
      unfold logV logA at *
      unfold sntA at *
      obtain ⟨bi, bt, l, cm⟩ := L
      obtain ⟨xbi, xbt, xl, xcm⟩ := X
      simp only at HCK S0 HC1 HCX HF1 HF2 LX t2 t3 t4 hb1 hb2 hb3 ⊢
      replace t3 := t3.symm
      replace t4 := t4.symm
      subst t3 t4
      have hw1 : IntKind.i64.wrap (cm - bi) = cm - bi := by rw [IntKind.wrap_i64]; omega
      have hw2 : IntKind.i64.wrap (bi + 1) = bi + 1 := by rw [IntKind.wrap_i64]; omega
      have ht2 : ¬ (xcm < cm) := by omega
      have n1 := neq23r bi bt
      clear h hk h8 l1 HT t5 hin hfl hm hc0 hcx
      go_enter Try.func7, Try.ntmps7
      go_wp2_with fail
      refine (HCK.out _ S0.out.log.got).mono ?_
      rintro e w1 ⟨rfl, hbl⟩
      dsimp only
      have S1 := hideIt (S0.out.keep hbl)
      clear hbl S0 HCK
      obtain ⟨c0, c1, c2, c3⟩ := S1.out.log.cells
      obtain ⟨d0, d1, d2, d3⟩ := S1.out.cells
      simp only at c0 c1 c2 c3
      go_wp2_with fail
      refine (HC1.out _ S1.out.log.got S1.out.got).mono ?_
      rintro e w2 ⟨gx, rfl, ho, hbl⟩
      dsimp only
      obtain ⟨xa, xc, rfl⟩ := own_len ho
      have C1 := hideIt (below_via hbl (below1 w2 (.cells #[.int .i64 bi, .int .i64 bt, .slice xa xl.length xc, .int .i64 xcm] 26)))
      have S2 := hideIt (S1.out.keep C1.out)
      have X2 := hideIt (Ent.new (L := ⟨bi, bt, xl, xcm⟩) ho LX.out)
      clear ho hbl HC1 C1 S1 c0 c1 c2 c3 d0 d1 d2 d3
      go_upto_region 4 with fail
      unfold logA at X2
      simp only at X2
      generalize w2.alloc (.cells #[.int .i64 bi, .int .i64 bt, .slice xa xl.length xc, .int .i64 xcm] 26) = w3 at *
      generalize w2.heap.size = k2 at *
      have V3 : Hid (Go.Proofs.Ytonhoopmhkomcaa.LX w k2 ⟨bi, bt, l, cm⟩ ⟨bi, bt, xl, xcm⟩ (.slice a l.length c) (.slice xa xl.length xc) w3) := ⟨S2.out.log, X2.out, S2.out.bel⟩
      clear S2 X2
      obtain ⟨c0, c1, c2, c3⟩ := V3.out.e1.cells
      simp only at c0 c1 c2 c3
      go_wp2_with fail
      refine (HCX.out _ _ V3.out.e1.got).mono ?_
      rintro e w4 ⟨rfl, hbl⟩
      dsimp only
      have V4 := hideIt (V3.out.keep hbl)
      clear hbl V3 HCX c0 c1 c2 c3
      obtain ⟨c0, c1, c2, c3⟩ := V4.out.e0.cells
      obtain ⟨d0, d1, d2, d3⟩ := V4.out.e1.cells
      simp only at c0 c1 c2 c3 d0 d1 d2 d3
      go_upto_region 9 with fail
      clear c0 c1 c2 c3 d0 d1 d2 d3
      have V5 := hideIt (V4.out.keep (Below.refl _ w4).drew)
      refine wp_region_held_drew (S := fun w' => w'.cell? ⟨w.heap.size, 0, none⟩ = some (.int .i64 bi) ∧ w'.cell? ⟨w.heap.size, 1, none⟩ = some (.int .i64 bt) ∧ w'.cell? ⟨w.heap.size, 2, none⟩ = some (.slice a l.length c) ∧ w'.cell? ⟨w.heap.size, 3, none⟩ = some (.int .i64 cm) ∧ w'.cell? ⟨k2, 0, none⟩ = some (.int .i64 bi) ∧ w'.cell? ⟨k2, 1, none⟩ = some (.int .i64 bt) ∧ w'.cell? ⟨k2, 2, none⟩ = some (.slice xa xl.length xc) ∧ w'.cell? ⟨k2, 3, none⟩ = some (.int .i64 xcm)) (by kernel_rfl) V5.out.eight (fun hHeld => ?_)
      generalize w4.drew = w5 at *
      clear V4
      refine wpAnyH_take (i := 0) (oi := ⟨some 53, _, _, _, _, _⟩) (v := ?_) rfl (by kernel_rfl) (by kernel_rfl) (by kernel_rfl) (fun _ _ _ h => h) (Or.inl ⟨by rfl, ?_⟩) (by assumption) ?_
      rotate_left
      · intro w5 hSw
        (try dsimp only at hSw)
        go_simp
        (try with_reducible rfl)
      try simp only [Act.put, List.setIfInBounds_toArray, List.set_cons_zero, List.set_cons_succ]
      refine wpAnyH_take (i := 1) (oi := ⟨some 54, _, _, _, _, _⟩) (v := ?_) rfl (by kernel_rfl) (by kernel_rfl) (by kernel_rfl) (fun _ _ _ h => h) (Or.inl ⟨by rfl, ?_⟩) (by assumption) ?_
      rotate_left
      · intro w5 hSw
        (try dsimp only at hSw)
        go_simp
        (try with_reducible rfl)
      try simp only [Act.put, List.setIfInBounds_toArray, List.set_cons_zero, List.set_cons_succ]
      refine wpAnyH_take (i := 2) (oi := ⟨some 55, _, _, _, _, _⟩) (v := ?_) rfl (by kernel_rfl) (by kernel_rfl) (by kernel_rfl) (fun _ _ _ h => h) (Or.inl ⟨by rfl, ?_⟩) (by assumption) ?_
      rotate_left
      · intro w5 hSw
        (try dsimp only at hSw)
        go_simp
        (try with_reducible rfl)
      try simp only [Act.put, List.setIfInBounds_toArray, List.set_cons_zero, List.set_cons_succ]
      refine wpAnyH_take (i := 3) (oi := ⟨some 56, _, _, _, _, _⟩) (v := ?_) rfl (by kernel_rfl) (by kernel_rfl) (by kernel_rfl) (fun _ _ _ h => h) (Or.inl ⟨by rfl, ?_⟩) (by assumption) ?_
      rotate_left
      · intro w5 hSw
        (try dsimp only at hSw)
        go_simp
        (try with_reducible rfl)
      try simp only [Act.put, List.setIfInBounds_toArray, List.set_cons_zero, List.set_cons_succ]
      refine wpAnyH_take (i := 4) (oi := ⟨some 57, _, _, _, _, _⟩) (v := ?_) rfl (by kernel_rfl) (by kernel_rfl) (by kernel_rfl) (fun _ _ _ h => h) (Or.inl ⟨by rfl, ?_⟩) (by assumption) ?_
      rotate_left
      · intro w5 hSw
        (try dsimp only at hSw)
        go_simp
        (try with_reducible rfl)
      try simp only [Act.put, List.setIfInBounds_toArray, List.set_cons_zero, List.set_cons_succ]
      refine wpAnyH_take (i := 5) (oi := ⟨some 58, _, _, _, _, _⟩) (v := ?_) rfl (by kernel_rfl) (by kernel_rfl) (by kernel_rfl) (fun _ _ _ h => h) (Or.inl ⟨by rfl, ?_⟩) (by assumption) ?_
      rotate_left
      · intro w5 hSw
        (try dsimp only at hSw)
        go_simp
        (try with_reducible rfl)
      try simp only [Act.put, List.setIfInBounds_toArray, List.set_cons_zero, List.set_cons_succ]
      refine wpAnyH_take (i := 7) (oi := ⟨some 60, _, _, _, _, _⟩) (v := ?_) rfl (by kernel_rfl) (by kernel_rfl) (by kernel_rfl) (fun _ _ _ h => h) (Or.inl ⟨by rfl, ?_⟩) (by assumption) ?_
      rotate_left
      · intro w5 hSw
        (try dsimp only at hSw)
        go_simp
        (try with_reducible rfl)
      try simp only [Act.put, List.setIfInBounds_toArray, List.set_cons_zero, List.set_cons_succ]
      refine wpAnyH_take (i := 8) (oi := ⟨some 61, _, _, _, _, _⟩) (v := ?_) rfl (by kernel_rfl) (by kernel_rfl) (by kernel_rfl) (fun _ _ _ h => h) (Or.inl ⟨by rfl, ?_⟩) (by assumption) ?_
      rotate_left
      · intro w5 hSw
        (try dsimp only at hSw)
        go_simp
        (try with_reducible rfl)
      try simp only [Act.put, List.setIfInBounds_toArray, List.set_cons_zero, List.set_cons_succ]
      refine wpAnyH_take (i := 9) (oi := ⟨some 62, _, _, _, _, _⟩) (v := ?_) rfl (by kernel_rfl) (by kernel_rfl) (by kernel_rfl) (fun _ _ _ h => h) (Or.inl ⟨by rfl, ?_⟩) (by assumption) ?_
      rotate_left
      · intro w5 hSw
        (try dsimp only at hSw)
        go_simp
        (try with_reducible rfl)
      try simp only [Act.put, List.setIfInBounds_toArray, List.set_cons_zero, List.set_cons_succ]
      refine wpAnyH_take (i := 10) (oi := ⟨some 63, _, _, _, _, _⟩) (v := ?_) rfl (by kernel_rfl) (by kernel_rfl) (by kernel_rfl) (fun _ _ _ h => h) (Or.inl ⟨by rfl, ?_⟩) (by assumption) ?_
      rotate_left
      · intro w5 hSw
        (try dsimp only at hSw)
        go_simp
        (try with_reducible rfl)
      try simp only [Act.put, List.setIfInBounds_toArray, List.set_cons_zero, List.set_cons_succ]
      refine wpAnyH_take (i := 11) (oi := ⟨some 64, _, _, _, _, _⟩) (v := ?_) rfl (by kernel_rfl) (by kernel_rfl) (by kernel_rfl) (fun _ _ _ h => h) (Or.inl ⟨by rfl, ?_⟩) (by assumption) ?_
      rotate_left
      · intro w5 hSw
        (try dsimp only at hSw)
        go_simp
        (try with_reducible rfl)
      try simp only [Act.put, List.setIfInBounds_toArray, List.set_cons_zero, List.set_cons_succ]
      refine wpAnyH_take (i := 12) (oi := ⟨some 65, _, _, _, _, _⟩) (v := ?_) rfl (by kernel_rfl) (by kernel_rfl) (by kernel_rfl) (fun _ _ _ h => h) (Or.inl ⟨by rfl, ?_⟩) (by assumption) ?_
      rotate_left
      · intro w5 hSw
        (try dsimp only at hSw)
        go_simp
        (try with_reducible rfl)
      try simp only [Act.put, List.setIfInBounds_toArray, List.set_cons_zero, List.set_cons_succ]
      refine wpAnyH_ready (rs := [6]) (by kernel_rfl) (by simp) ?_
      refine AllReadyH.cons (o := ⟨some 59, _, _, _, _, _⟩) rfl (fun K hK => ?_) AllReadyH.nil
      go_simp
      go_at_call 12
      refine (HF1.out _ _ V5.out.e1.got).mono ?_
      rintro e w6 ⟨r1, rfl, ho1, hbl⟩
      have V6 := hideIt (V5.out.keep hbl)
      refine hK.out _ _ V6.out.eight (fun hHeld => ?_)
      have O1 := hideIt ho1
      clear hK K hbl V5 HF1 ho1
      try simp only [Act.put, List.setIfInBounds_toArray, List.set_cons_zero, List.set_cons_succ]
      refine wpAnyH_ready (rs := [13]) (by kernel_rfl) (by simp) ?_
      refine AllReadyH.cons (o := ⟨some 66, _, _, _, _, _⟩) rfl (fun K hK => ?_) AllReadyH.nil
      go_simp
      go_at_call 12
      refine (HF2.out _ V6.out.e0.got).mono ?_
      rintro e w7 ⟨r2, rfl, ho2, hbl⟩
      have V7 := hideIt (V6.out.keep hbl)
      refine hK.out _ _ V7.out.eight (fun hHeld => ?_)
      have O2 := hideIt ho2
      replace O1 := hideIt (own_keep O1.out hbl)
      clear hK K hbl V6 HF2 ho2
      try simp only [Act.put, List.setIfInBounds_toArray, List.set_cons_zero, List.set_cons_succ]
      refine wpAnyH_ready (rs := [14]) (by kernel_rfl) (by simp) ?_
      refine AllReadyH.cons (o := ⟨some 67, _, _, _, _, _⟩) rfl (fun K hK => ?_) AllReadyH.nil
      go_simp
      go_at_call 17
      refine (HSE.out _ _ _ (own_egot O1.out HFL.out) (own_egot O2.out HFL.out)).mono ?_
      rintro e w8 ⟨rfl, hbl⟩
      have V8 := hideIt (V7.out.keep hbl)
      refine hK.out _ _ V8.out.eight (fun hHeld => ?_)
      clear hK K hbl V7 HSE O1 O2
      try simp only [Act.put, List.setIfInBounds_toArray, List.set_cons_zero, List.set_cons_succ]
      refine wpAnyH_take (i := 15) (oi := ⟨some 68, _, _, _, _, _⟩) (v := ?_) rfl (by kernel_rfl) (by kernel_rfl) (by kernel_rfl) (fun _ _ _ h => h) (Or.inl ⟨by rfl, ?_⟩) (by assumption) ?_
      rotate_left
      · intro w5 hSw
        (try dsimp only at hSw)
        go_simp
        (try with_reducible rfl)
      try simp only [Act.put, List.setIfInBounds_toArray, List.set_cons_zero, List.set_cons_succ]
      refine wpAnyH_ready (rs := [16]) (by kernel_rfl) (by simp) ?_
      refine AllReadyH.cons (o := ⟨some 69, _, _, _, _, _⟩) rfl (fun K hK => ?_) AllReadyH.nil
      go_simp
      go_at_call 21
      refine (HL.out _).mono ?_
      rintro e w9 ⟨rfl, hbl⟩
      have V9 := hideIt (V8.out.keep hbl)
      refine hK.out _ _ V9.out.eight (fun hHeld => ?_)
      clear hK K hbl V8
      try simp only [Act.put, List.setIfInBounds_toArray, List.set_cons_zero, List.set_cons_succ]
      refine wpAnyH_take (i := 17) (oi := ⟨some 70, _, _, _, _, _⟩) (v := ?_) rfl (by kernel_rfl) (by kernel_rfl) (by kernel_rfl) (fun _ _ _ h => h) (Or.inl ⟨by rfl, ?_⟩) (by assumption) ?_
      rotate_left
      · intro w5 hSw
        (try dsimp only at hSw)
        go_simp
        (try with_reducible rfl)
      try simp only [Act.put, List.setIfInBounds_toArray, List.set_cons_zero, List.set_cons_succ]
      refine wpAnyH_take (i := 18) (oi := ⟨some 4, _, _, _, _, _⟩) (v := ?_) rfl (by kernel_rfl) (by kernel_rfl) (by kernel_rfl) (fun _ _ _ h => h) (Or.inl ⟨by rfl, ?_⟩) (by assumption) ?_
      rotate_left
      · intro w5 hSw
        (try dsimp only at hSw)
        go_simp
        (try with_reducible rfl)
      try simp only [Act.put, List.setIfInBounds_toArray, List.set_cons_zero, List.set_cons_succ]
      refine wpAnyH_done (by kernel_rfl) ?_ _
      go_wp2
      go_ret
      exact ⟨rfl, V9.out.bel⟩
    · have hxb : (x != 0) = true := by simp [hx]
      unfold logV logA at *
      unfold sntA at *
      obtain ⟨bi, bt, l, cm⟩ := L
      simp only at HCK S0 HC1 ⊢
      clear h hk h8 l1 HT HCX HF1 HF2 hx
      go_enter Try.func7, Try.ntmps7
      go_wp2_with fail
      refine (HCK.out _ S0.out.log.got).mono ?_
      rintro e w1 ⟨rfl, hbl⟩
      dsimp only
      have S1 := hideIt (S0.out.keep hbl)
      clear hbl S0 HCK
      obtain ⟨c0, c1, c2, c3⟩ := S1.out.log.cells
      obtain ⟨d0, d1, d2, d3⟩ := S1.out.cells
      simp only at c0 c1 c2 c3
      go_wp2_with fail
      refine (HC1.out _ S1.out.log.got S1.out.got).mono ?_
      rintro e w2 ⟨gx, rfl, ho, hbl⟩
      dsimp only
      obtain ⟨xa, xc, rfl⟩ := own_len ho
      have C1 := hideIt (below_via hbl (below1 w2 (.cells #[.int .i64 X.bi, .int .i64 X.bt, .slice xa X.l.length xc, .int .i64 X.cm] 26)))
      have S2 := hideIt (S1.out.keep C1.out)
      have X2 := hideIt (Ent.new ho LX.out)
      clear ho hbl HC1 C1 S1 c0 c1 c2 c3 d0 d1 d2 d3
      go_upto_region 4 with fail
      unfold logA at X2
      generalize w2.alloc (.cells #[.int .i64 X.bi, .int .i64 X.bt, .slice xa X.l.length xc, .int .i64 X.cm] 26) = w3 at *
      generalize w2.heap.size = k2 at *
      have B2 := hideIt S2.out.bel
      clear S2 X2
      go_wp2_with fail
      refine (HL.out _).mono ?_
      rintro e w9 ⟨rfl, hbl⟩
      dsimp only
      have HB := hideIt (below_via B2.out hbl)
      clear hbl
      go_wp2
      go_ret
      exact ⟨rfl, HB.out⟩
end Go.Proofs.Ytonhoopmhkomcaa
