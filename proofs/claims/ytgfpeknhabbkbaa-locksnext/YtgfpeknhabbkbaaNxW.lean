/- The statement on who comes next, walked. -/
import Derived.Test.YtgfpeknhabbkbaaNxP
import Derived.Test.YtgfpeknhabbkbaaPlay
namespace Go.Proofs.Ytgfpeknhabbkbaa
open Go.RowKit
set_option linter.all false
/-- The key's box, the table's box. -/
structure NT (w : World) (A : Nat) (k n : Int) (T : TabV) (h v : Value) (wx : World) : Prop where
  key : wx.heap[w.heap.size]? = some (.cells #[.int .i64 k, .int .i64 n] 26 (0, 0))
  box : wx.heap[A]? = some (.cells #[h, v] 24 (0, 0))
  own : TabOwn (w.heap.size + 1) T h v wx
  may : MayT T
  bel : Below w.heap.size w wx
  lA : w.heap.size + 1 ≤ A
theorem NT.keep {w wx wy : World} {A : Nat} {k n : Int} {T : TabV} {h v : Value} (a : NT w A k n T h v wx) (hb : Below wx.heap.size wx wy) : NT w A k n T h v wy :=
  ⟨(hb.block _ (Array.getElem?_eq_some_iff.1 a.key).1).trans a.key, (hb.block _ (Array.getElem?_eq_some_iff.1 a.box).1).trans a.box, a.own.keep hb, a.may, below_via a.bel hb, a.lA⟩
theorem NT.set {w wx : World} {A H : Nat} {k n : Int} {T : TabV} {h v z0 z1 : Value} (a : NT w A k n T h v wx) (hH : wx.heap[H]? = some (.cells #[z0, z1] 28 (0, 0))) (lH : w.heap.size < H) (u0 u1 : Value) : NT w A k n T h v ((wx.setCell ⟨H, 0, none⟩ u0).setCell ⟨H, 1, none⟩ u1) := by
  have hHA : A ≠ H := fun e => by
    have := a.box
    rw [e, hH] at this
    simp at this
  exact ⟨setOther _ (setOther _ a.key (by omega)) (by omega), setOther _ (setOther _ a.box hHA) hHA, ⟨own_cell (own_cell a.own.oh hH (by decide)) (heap_set hH 0 u0) (by decide), own_cell (own_cell a.own.ov hH (by decide)) (heap_set hH 0 u0) (by decide)⟩, a.may, belowSet _ (belowSet _ a.bel (by omega)) (by omega), a.lA⟩
theorem NT.take {w wx : World} {A : Nat} {k n : Int} {T T' : TabV} {h v h' v' : Value} (a : NT w A k n T h v wx) (ho : TabOwn (w.heap.size + 1) T' h' v' wx) (hm : MayT T') : NT w A k n T' h' v' ((wx.setCell ⟨A, 0, none⟩ h').setCell ⟨A, 1, none⟩ v') := by
  have := a.lA
  exact ⟨setOther _ (setOther _ a.key (by omega)) (by omega), put2 a.box h' v', ⟨own_cell (own_cell ho.oh a.box (by decide)) (heap_set a.box 0 h') (by decide), own_cell (own_cell ho.ov a.box (by decide)) (heap_set a.box 0 h') (by decide)⟩, hm, belowSet _ (belowSet _ a.bel (by omega)) (by omega), a.lA⟩
set_option maxHeartbeats 16000000 in
set_option maxRecDepth 100000 in
theorem next_walk (v0 : Value) (l : List StepV) (k n : Int) (w : World) (h0 : Stps w v0 l) : Calls Try.prog 8 #[v0, .agg #[.int .i64 k, .int .i64 n]] w fun e w' => e = .returned (.bool true) ∧ Below w.heap.size w w' := by
  have HP := hideIt (played_is v0 l _ (h0.keep (below1 w (.cells #[.int .i64 k, .int .i64 n] 26))))
  have HV := hideIt (fun W => live_is W)
  have HM := hideIt (play_may l)
  unfold PlayBack at HP
  obtain ⟨va0, vc0, rfl⟩ := h0.slice
  clear h0
  generalize playL l = T0 at *
  have B0 := hideIt (below1 w (.cells #[.int .i64 k, .int .i64 n] 26))
  have N0 := hideIt (heap_alloc_new w (.cells #[.int .i64 k, .int .i64 n] 26))
  go_enter Try.func8, Try.ntmps8
  go_wp2_with fail
  refine HP.out.mono ?_
  rintro e w1 ⟨h1, v1, rfl, ho, hb⟩
  dsimp only
  obtain ⟨ha, hc, rfl⟩ := own_len ho.oh
  obtain ⟨va, vc, rfl⟩ := own_len ho.ov
  have hb1 := below1 w1 (.cells #[.slice ha T0.held.length hc, .slice va T0.wait.length vc] 24)
  have s1 : w.heap.size + 1 ≤ w1.heap.size := by have := hb.size; simp at this; omega
  have X0 : Hid (NT w w1.heap.size k n T0 (.slice ha T0.held.length hc) (.slice va T0.wait.length vc) (w1.alloc (.cells #[.slice ha T0.held.length hc, .slice va T0.wait.length vc] 24))) :=
    ⟨(hb1.block _ (by omega)).trans ((hb.block _ (by simp)).trans N0.out), heap_alloc_new w1 _, ⟨own_base (ho.keep hb1).oh (by simp), own_base (ho.keep hb1).ov (by simp)⟩, HM.out, below_via (below_via B0.out hb) hb1, s1⟩
  clear hb hb1 ho B0 N0 HP HM s1
  go_upto_region 3 with fail
  generalize w1.alloc (.cells #[.slice ha T0.held.length hc, .slice va T0.wait.length vc] 24) = W1 at *
  generalize w1.heap.size = A at *
  go_loopw [6] (fun v6 wr => ∃ m : Nat, v6 = .int .i64 m ∧ m ≤ 10 ∧ Hid (∃ T h v, NT w A k n T h v wr)) (fun v _ => 10 - (intOf v).toNat)
  case atStart => exact ⟨0, rfl, by omega, hideIt ⟨_, _, _, X0.out⟩⟩
  case round =>
    clear X0
    obtain ⟨m, rfl, hm, HR⟩ := hrel
    obtain ⟨T, h, v, X⟩ := HR.out
    clear HR
    obtain ⟨ta, tc, rfl⟩ := own_len X.own.oh
    obtain ⟨ua, uc, rfl⟩ := own_len X.own.ov
    by_cases hlt : m < 10
    · have hltI : (m : Int) < 10 := by omega
      have hmw : IntKind.i64.wrap ((m : Int) + 1) = ((m + 1 : Nat) : Int) := by rw [IntKind.wrap_i64]; omega
      have X1 := hideIt (X.keep (below1 wr (.cells #[.int .i64 0, .int .i64 0] 28)))
      have H1 := hideIt (heap_alloc_new wr (.cells #[.int .i64 0, .int .i64 0] 28))
      have lH : w.heap.size < wr.heap.size := by have := (Array.getElem?_eq_some_iff.1 X.key).1; omega
      clear X
      go_upto_region 7 with fail
      generalize wr.alloc (.cells #[.int .i64 0, .int .i64 0] 28) = W2 at *
      generalize wr.heap.size = H at *
      go_loopw [8] (fun v8 wi => ∃ j : Nat, v8 = .int .i64 j ∧ j ≤ T.held.length ∧ Hid (NT w A k n T (.slice ta T.held.length tc) (.slice ua T.wait.length uc) wi ∧ wi.heap[H]? = some (.cells #[.int .i64 (lhT (T.held.take j) (k, n)).1, .int .i64 (lhT (T.held.take j) (k, n)).2] 28 (0, 0)))) (fun v _ => T.held.length - (intOf v).toNat)
      case atStart => exact ⟨0, rfl, Nat.zero_le _, hideIt ⟨X1.out, by simpa [lhT, zT] using H1.out⟩⟩
      case round =>
        clear X1 H1
        obtain ⟨j, rfl, hj, HJ⟩ := hrel
        have X2 := hideIt HJ.out.1
        have H2 := hideIt HJ.out.2
        obtain ⟨x0, x1, -, -, xl⟩ := two_at X2.out.box
        obtain ⟨k0, k1, -, -, kl⟩ := two_at X2.out.key
        obtain ⟨g0, g1, gf0, gf1, gl⟩ := two_at H2.out
        have hsm := X2.out.may.small
        by_cases hjl : j < T.held.length
        · have hjI : (j : Int) < (T.held.length : Int) := by omega
          have hj0 : (0 : Int) ≤ (j : Int) := by omega
          have hjw : IntKind.i64.wrap ((j : Int) + 1) = ((j + 1 : Nat) : Int) := by rw [IntKind.wrap_i64]; omega
          obtain ⟨a', c', e, h8, hr⟩ := (X2.out.own.tab hsm.1 hsm.2).held.hols
          simp only [Value.slice.injEq, true_and] at e
          obtain ⟨rfl, rfl⟩ := e
          obtain ⟨b, off, rfl, hbl, q0, q1, q2, q3⟩ := hr j hjl
          have HL := hideIt (lh_step (k := (k, n)) hjl)
          clear hr HJ
          generalize T.held[j] = en at *
          obtain ⟨⟨x, y⟩, ⟨z, u⟩⟩ := en
          dsimp only at q0 q1 q2 q3
          generalize lhT (T.held.take j) (k, n) = f at *
          obtain ⟨fc, fq⟩ := f
          dsimp only at g0 g1
          cases hq : ((x, y) == (k, n))
          · have e1 : ∀ W, (binOp .eql 26 (.agg #[.int .i64 x, .int .i64 y]) (.agg #[.int .i64 k, .int .i64 n])).run Try.prog W = .ok (.bool false) W := fun W => by rw [eq26, hq]
            have HE : Hid (lhT (T.held.take (j + 1)) (k, n) = (fc, fq)) := by
              show lhT _ _ = _
              rw [HL.out]
              unfold lhF
              rw [hq]
              simp
            clear hq HL
            go_wp2_with fail
            go_region
            go_wp2
            go_roundw
            case rel => exact ⟨j + 1, by go_num, by omega, hideIt ⟨X2.out.keep (Below.refl _ _).drew, by rw [HE.out]; exact H2.out⟩⟩
            case measure => simp [intOf]; omega
          · have e1 : ∀ W, (binOp .eql 26 (.agg #[.int .i64 x, .int .i64 y]) (.agg #[.int .i64 k, .int .i64 n])).run Try.prog W = .ok (.bool true) W := fun W => by rw [eq26, hq]
            have HE : Hid (lhT (T.held.take (j + 1)) (k, n) = (z, u)) := by
              show lhT _ _ = _
              rw [HL.out]
              unfold lhF
              rw [hq]
              simp
            clear hq HL
            go_wp2_with fail
            go_region
            go_wp2
            go_roundw
            case rel => exact ⟨j + 1, by go_num, by omega, hideIt ⟨(X2.out.keep (Below.refl _ _).drew).set H2.out lH _ _, by rw [HE.out]; exact put2 (wc := World.drew _) H2.out _ _⟩⟩
            case measure => simp [intOf]; omega
        · have hjI : ¬ (j : Int) < (T.held.length : Int) := by omega
          have hE : T.held.take j = T.held := List.take_of_length_le (by omega)
          rw [hE, lh_hd X2.out.may.nd] at g0 g1 H2
          clear HJ hE
          have HF := hideIt (show hdT T.held (k, n) = hdT T.held (k, n) from rfl)
          have HNX := hideIt (fun hz => next_ok X2.out.may (k := (k, n)) (f := hdT T.held (k, n)) rfl hz)
          have HMY := hideIt (fun (e : (freeL T (k, n) (hdT T.held (k, n))).2.2 = 0) => free_may e)
          have HFR := hideIt (fun fc fq => free_is T _ _ k n fc fq _ (X2.out.own.tab hsm.1 hsm.2))
          clear HF
          generalize hdT T.held (k, n) = f at *
          obtain ⟨fc, fq⟩ := f
          dsimp only at g0 g1
          cases hz : ((fc, fq) == zT)
          · have e1 : ∀ W, (binOp .eql 28 (.agg #[.int .i64 fc, .int .i64 fq]) (.agg #[.int .i64 0, .int .i64 0])).run Try.prog W = .ok (.bool false) W := fun W => by rw [eq28]; rw [show ((fc, fq) == ((0, 0) : TxnV)) = ((fc, fq) == zT) from rfl, hz]
            have hN := HNX.out (by simpa using hz)
            have HC := hideIt (HFR.out fc fq)
            unfold FreeBack at HC
            obtain ⟨T', ⟨xc, xq⟩, er, hA⟩ : ∃ T' x er, freeL T (k, n) (fc, fq) = (T', x, er) := ⟨_, _, _, rfl⟩
            rw [hA] at hN HC HMY
            dsimp only at hN HC HMY
            obtain ⟨rfl, hO⟩ := hN
            have HO0 := hideIt hO
            have HM2 := hideIt (HMY.out rfl)
            clear hO HNX HMY HFR hz hA
            go_upto_region 13 with fail
            go_wp2_with fail
            refine HC.out.mono ?_
            rintro e w5 ⟨h5, v5, rfl, ho, hb⟩
            dsimp only
            obtain ⟨na, nc, rfl⟩ := own_len ho.oh
            obtain ⟨oa, oc, rfl⟩ := own_len ho.ov
            have hb2 := below2 w5 (.cells #[.slice na T'.held.length nc, .slice oa T'.wait.length oc] 24) (.cells #[.int .i64 xc, .int .i64 xq] 28)
            have h2 := two_heap w5 (.cells #[.slice na T'.held.length nc, .slice oa T'.wait.length oc] 24) (.cells #[.int .i64 xc, .int .i64 xq] 28)
            have X3 := hideIt ((X2.out.keep hb).keep hb2)
            have N3 := hideIt h2.1
            have M3 := hideIt h2.2.1
            have O3 : Hid (TabOwn (w.heap.size + 1) T' (.slice na T'.held.length nc) (.slice oa T'.wait.length oc) ((w5.alloc (.cells #[.slice na T'.held.length nc, .slice oa T'.wait.length oc] 24)).alloc (.cells #[.int .i64 xc, .int .i64 xq] 28))) := ⟨own_base (ho.keep hb2).oh (by omega), own_base (ho.keep hb2).ov (by omega)⟩
            clear ho hb hb2 h2 HC X2 H2 x0 x1 xl k0 k1 kl g0 g1 gf0 gf1 gl
            go_upto_region 17 with fail
            generalize (w5.alloc (.cells #[.slice na T'.held.length nc, .slice oa T'.wait.length oc] 24)).alloc (.cells #[.int .i64 xc, .int .i64 xq] 28) = W5 at *
            obtain ⟨K3, hK3⟩ : ∃ K3, w5.heap.size + 1 = K3 := ⟨_, rfl⟩
            rw [hK3] at M3 ⊢
            clear hK3
            generalize w5.heap.size = K2 at *
            go_loopw [12] (fun v12 wi => ∃ j2 : Nat, v12 = .int .i64 j2 ∧ j2 ≤ T.wait.length ∧ Hid (Below W5.heap.size W5 wi)) (fun v _ => T.wait.length - (intOf v).toNat)
            case atStart => exact ⟨0, rfl, Nat.zero_le _, hideIt (Below.refl _ _)⟩
            case round =>
              obtain ⟨j2, rfl, hj2, HJ2⟩ := hrel
              have X4 := hideIt (X3.out.keep HJ2.out)
              have M4 := hideIt ((HJ2.out.block _ (Array.getElem?_eq_some_iff.1 M3.out).1).trans M3.out)
              obtain ⟨x0, x1, xf0, xf1, xl⟩ := two_at X4.out.box
              obtain ⟨k0, k1, -, -, kl⟩ := two_at X4.out.key
              obtain ⟨m0, m1, -, -, ml⟩ := two_at M4.out
              by_cases hjl2 : j2 < T.wait.length
              · have hjI2 : (j2 : Int) < (T.wait.length : Int) := by omega
                have hj02 : (0 : Int) ≤ (j2 : Int) := by omega
                have hjw2 : IntKind.i64.wrap ((j2 : Int) + 1) = ((j2 + 1 : Nat) : Int) := by rw [IntKind.wrap_i64]; omega
                obtain ⟨a', c', e, h8, hr⟩ := (X4.out.own.tab hsm.1 hsm.2).wait.hols
                simp only [Value.slice.injEq, true_and] at e
                obtain ⟨rfl, rfl⟩ := e
                obtain ⟨b, off, rfl, hbl, q0, q1, q2, q3⟩ := hr j2 hjl2
                have HO1 := hideIt (HO0.out T.wait[j2] (List.getElem_mem hjl2))
                have HB2 := hideIt HJ2.out
                clear hr HJ2 X4 M4
                generalize T.wait[j2] = en at *
                obtain ⟨⟨x, y⟩, ⟨z, u⟩⟩ := en
                dsimp only at q0 q1 q2 q3 HO1
                go_upto_region 19 with fail
                go_cut [89] from 61 to 89 (fun u wx => u = .bool false ∧ Hid (Below wr.heap.size wr wx))
                case first =>
                  cases hq : ((x, y) == (k, n))
                  · have e1 : ∀ W, (binOp .eql 26 (.agg #[.int .i64 x, .int .i64 y]) (.agg #[.int .i64 k, .int .i64 n])).run Try.prog W = .ok (.bool false) W := fun W => by rw [eq26, hq]
                    clear hq
                    refine wp_region_held_drew (S := (fun W => W.cell? ⟨A, 1, none⟩ = some (.slice (some ⟨b, off, none⟩) T.wait.length uc) ∧ W.cell? ⟨b, off + j2 * 4, none⟩ = some (.int .i64 x) ∧ W.cell? ⟨b, off + j2 * 4 + 1, none⟩ = some (.int .i64 y) ∧ W.cell? ⟨b, off + j2 * 4 + 2, none⟩ = some (.int .i64 z) ∧ W.cell? ⟨b, off + j2 * 4 + 3, none⟩ = some (.int .i64 u) ∧ W.cell? ⟨w.heap.size, 0, none⟩ = some (.int .i64 k) ∧ W.cell? ⟨w.heap.size, 1, none⟩ = some (.int .i64 n) ∧ W.cell? ⟨K3, 0, none⟩ = some (.int .i64 xc) ∧ W.cell? ⟨K3, 1, none⟩ = some (.int .i64 xq))) (by kernel_rfl) ⟨x1, q0, q1, q2, q3, k0, k1, m0, m1⟩ (fun hHeld => ?_)
                    refine wpAnyH_take (i := 0) (oi := ⟨some 61, _, _, _, _, _⟩) (v := ?_) rfl (by kernel_rfl) (by kernel_rfl) (by kernel_rfl) (fun _ _ _ h => h) (Or.inl ⟨by rfl, ?_⟩) (by assumption) ?_
                    rotate_left
                    · intro w5 hSw
                      (try dsimp only at hSw)
                      go_simp
                      (try with_reducible rfl)
                    try simp only [Act.put, List.setIfInBounds_toArray, List.set_cons_zero, List.set_cons_succ]
                    refine wpAnyH_take (i := 1) (oi := ⟨some 62, _, _, _, _, _⟩) (v := ?_) rfl (by kernel_rfl) (by kernel_rfl) (by kernel_rfl) (fun _ _ _ h => h) (Or.inl ⟨by rfl, ?_⟩) (by assumption) ?_
                    rotate_left
                    · intro w5 hSw
                      (try dsimp only at hSw)
                      go_simp
                      (try with_reducible rfl)
                    try simp only [Act.put, List.setIfInBounds_toArray, List.set_cons_zero, List.set_cons_succ]
                    refine wpAnyH_take (i := 2) (oi := ⟨some 63, _, _, _, _, _⟩) (v := ?_) rfl (by kernel_rfl) (by kernel_rfl) (by kernel_rfl) (fun _ _ _ h => h) (Or.inl ⟨by rfl, ?_⟩) (by assumption) ?_
                    rotate_left
                    · intro w5 hSw
                      (try dsimp only at hSw)
                      go_simp
                      (try with_reducible rfl)
                    try simp only [Act.put, List.setIfInBounds_toArray, List.set_cons_zero, List.set_cons_succ]
                    refine wpAnyH_take (i := 3) (oi := ⟨some 64, _, _, _, _, _⟩) (v := ?_) rfl (by kernel_rfl) (by kernel_rfl) (by kernel_rfl) (fun _ _ _ h => h) (Or.inl ⟨by rfl, ?_⟩) (by assumption) ?_
                    rotate_left
                    · intro w5 hSw
                      (try dsimp only at hSw)
                      go_simp
                      (try with_reducible rfl)
                    try simp only [Act.put, List.setIfInBounds_toArray, List.set_cons_zero, List.set_cons_succ]
                    refine wpAnyH_take (i := 4) (oi := ⟨some 65, _, _, _, _, _⟩) (v := ?_) rfl (by kernel_rfl) (by kernel_rfl) (by kernel_rfl) (fun _ _ _ h => h) (Or.inl ⟨by rfl, ?_⟩) (by assumption) ?_
                    rotate_left
                    · intro w5 hSw
                      (try dsimp only at hSw)
                      go_simp
                      (try with_reducible rfl)
                    try simp only [Act.put, List.setIfInBounds_toArray, List.set_cons_zero, List.set_cons_succ]
                    refine wpAnyH_take (i := 5) (oi := ⟨some 66, _, _, _, _, _⟩) (v := ?_) rfl (by kernel_rfl) (by kernel_rfl) (by kernel_rfl) (fun _ _ _ h => h) (Or.inl ⟨by rfl, ?_⟩) (by assumption) ?_
                    rotate_left
                    · intro w5 hSw
                      (try dsimp only at hSw)
                      go_simp
                      (try with_reducible rfl)
                    try simp only [Act.put, List.setIfInBounds_toArray, List.set_cons_zero, List.set_cons_succ]
                    refine wpAnyH_take (i := 6) (oi := ⟨some 67, _, _, _, _, _⟩) (v := ?_) rfl (by kernel_rfl) (by kernel_rfl) (by kernel_rfl) (fun _ _ _ h => h) (Or.inl ⟨by rfl, ?_⟩) (by assumption) ?_
                    rotate_left
                    · intro w5 hSw
                      (try dsimp only at hSw)
                      go_simp
                      (try with_reducible rfl)
                    try simp only [Act.put, List.setIfInBounds_toArray, List.set_cons_zero, List.set_cons_succ]
                    refine wpAnyH_take (i := 7) (oi := ⟨some 68, _, _, _, _, _⟩) (v := ?_) rfl (by kernel_rfl) (by kernel_rfl) (by kernel_rfl) (fun _ _ _ h => h) (Or.inl ⟨by rfl, ?_⟩) (by assumption) ?_
                    rotate_left
                    · intro w5 hSw
                      (try dsimp only at hSw)
                      go_simp
                      (try with_reducible rfl)
                    try simp only [Act.put, List.setIfInBounds_toArray, List.set_cons_zero, List.set_cons_succ]
                    refine wpAnyH_take (i := 8) (oi := ⟨some 69, _, _, _, _, _⟩) (v := ?_) rfl (by kernel_rfl) (by kernel_rfl) (by kernel_rfl) (fun _ _ _ h => h) (Or.inl ⟨by rfl, ?_⟩) (by assumption) ?_
                    rotate_left
                    · intro w5 hSw
                      (try dsimp only at hSw)
                      go_simp
                      (try with_reducible rfl)
                    try simp only [Act.put, List.setIfInBounds_toArray, List.set_cons_zero, List.set_cons_succ]
                    refine wpAnyH_take (i := 9) (oi := ⟨some 70, _, _, _, _, _⟩) (v := undef) rfl (by kernel_rfl) (by kernel_rfl) (by kernel_rfl) (fun _ _ _ h => h) (Or.inr ⟨by rfl, rfl⟩) (by assumption) ?_
                    try simp only [Act.put, List.setIfInBounds_toArray, List.set_cons_zero, List.set_cons_succ]
                    refine wpAnyH_take (i := 10) (oi := ⟨some 71, _, _, _, _, _⟩) (v := undef) rfl (by kernel_rfl) (by kernel_rfl) (by kernel_rfl) (fun _ _ _ h => h) (Or.inr ⟨by rfl, rfl⟩) (by assumption) ?_
                    try simp only [Act.put, List.setIfInBounds_toArray, List.set_cons_zero, List.set_cons_succ]
                    refine wpAnyH_take (i := 11) (oi := ⟨some 72, _, _, _, _, _⟩) (v := undef) rfl (by kernel_rfl) (by kernel_rfl) (by kernel_rfl) (fun _ _ _ h => h) (Or.inr ⟨by rfl, rfl⟩) (by assumption) ?_
                    try simp only [Act.put, List.setIfInBounds_toArray, List.set_cons_zero, List.set_cons_succ]
                    refine wpAnyH_take (i := 12) (oi := ⟨some 73, _, _, _, _, _⟩) (v := undef) rfl (by kernel_rfl) (by kernel_rfl) (by kernel_rfl) (fun _ _ _ h => h) (Or.inr ⟨by rfl, rfl⟩) (by assumption) ?_
                    try simp only [Act.put, List.setIfInBounds_toArray, List.set_cons_zero, List.set_cons_succ]
                    refine wpAnyH_take (i := 13) (oi := ⟨some 74, _, _, _, _, _⟩) (v := undef) rfl (by kernel_rfl) (by kernel_rfl) (by kernel_rfl) (fun _ _ _ h => h) (Or.inr ⟨by rfl, rfl⟩) (by assumption) ?_
                    try simp only [Act.put, List.setIfInBounds_toArray, List.set_cons_zero, List.set_cons_succ]
                    refine wpAnyH_take (i := 14) (oi := ⟨some 75, _, _, _, _, _⟩) (v := undef) rfl (by kernel_rfl) (by kernel_rfl) (by kernel_rfl) (fun _ _ _ h => h) (Or.inr ⟨by rfl, rfl⟩) (by assumption) ?_
                    try simp only [Act.put, List.setIfInBounds_toArray, List.set_cons_zero, List.set_cons_succ]
                    refine wpAnyH_take (i := 15) (oi := ⟨some 76, _, _, _, _, _⟩) (v := undef) rfl (by kernel_rfl) (by kernel_rfl) (by kernel_rfl) (fun _ _ _ h => h) (Or.inr ⟨by rfl, rfl⟩) (by assumption) ?_
                    try simp only [Act.put, List.setIfInBounds_toArray, List.set_cons_zero, List.set_cons_succ]
                    refine wpAnyH_take (i := 16) (oi := ⟨some 77, _, _, _, _, _⟩) (v := undef) rfl (by kernel_rfl) (by kernel_rfl) (by kernel_rfl) (fun _ _ _ h => h) (Or.inr ⟨by rfl, rfl⟩) (by assumption) ?_
                    try simp only [Act.put, List.setIfInBounds_toArray, List.set_cons_zero, List.set_cons_succ]
                    refine wpAnyH_take (i := 17) (oi := ⟨some 78, _, _, _, _, _⟩) (v := ?_) rfl (by kernel_rfl) (by kernel_rfl) (by kernel_rfl) (fun _ _ _ h => h) (Or.inl ⟨by rfl, ?_⟩) (by assumption) ?_
                    rotate_left
                    · intro w5 hSw
                      (try dsimp only at hSw)
                      go_simp
                      (try with_reducible rfl)
                    try simp only [Act.put, List.setIfInBounds_toArray, List.set_cons_zero, List.set_cons_succ]
                    refine wpAnyH_take (i := 18) (oi := ⟨some 79, _, _, _, _, _⟩) (v := ?_) rfl (by kernel_rfl) (by kernel_rfl) (by kernel_rfl) (fun _ _ _ h => h) (Or.inl ⟨by rfl, ?_⟩) (by assumption) ?_
                    rotate_left
                    · intro w5 hSw
                      (try dsimp only at hSw)
                      go_simp
                      (try with_reducible rfl)
                    try simp only [Act.put, List.setIfInBounds_toArray, List.set_cons_zero, List.set_cons_succ]
                    refine wpAnyH_take (i := 19) (oi := ⟨some 80, _, _, _, _, _⟩) (v := undef) rfl (by kernel_rfl) (by kernel_rfl) (by kernel_rfl) (fun _ _ _ h => h) (Or.inr ⟨by rfl, rfl⟩) (by assumption) ?_
                    try simp only [Act.put, List.setIfInBounds_toArray, List.set_cons_zero, List.set_cons_succ]
                    refine wpAnyH_take (i := 20) (oi := ⟨some 81, _, _, _, _, _⟩) (v := undef) rfl (by kernel_rfl) (by kernel_rfl) (by kernel_rfl) (fun _ _ _ h => h) (Or.inr ⟨by rfl, rfl⟩) (by assumption) ?_
                    try simp only [Act.put, List.setIfInBounds_toArray, List.set_cons_zero, List.set_cons_succ]
                    refine wpAnyH_take (i := 21) (oi := ⟨some 82, _, _, _, _, _⟩) (v := undef) rfl (by kernel_rfl) (by kernel_rfl) (by kernel_rfl) (fun _ _ _ h => h) (Or.inr ⟨by rfl, rfl⟩) (by assumption) ?_
                    try simp only [Act.put, List.setIfInBounds_toArray, List.set_cons_zero, List.set_cons_succ]
                    refine wpAnyH_take (i := 22) (oi := ⟨some 83, _, _, _, _, _⟩) (v := undef) rfl (by kernel_rfl) (by kernel_rfl) (by kernel_rfl) (fun _ _ _ h => h) (Or.inr ⟨by rfl, rfl⟩) (by assumption) ?_
                    try simp only [Act.put, List.setIfInBounds_toArray, List.set_cons_zero, List.set_cons_succ]
                    refine wpAnyH_take (i := 23) (oi := ⟨some 84, _, _, _, _, _⟩) (v := undef) rfl (by kernel_rfl) (by kernel_rfl) (by kernel_rfl) (fun _ _ _ h => h) (Or.inr ⟨by rfl, rfl⟩) (by assumption) ?_
                    try simp only [Act.put, List.setIfInBounds_toArray, List.set_cons_zero, List.set_cons_succ]
                    refine wpAnyH_take (i := 24) (oi := ⟨some 85, _, _, _, _, _⟩) (v := undef) rfl (by kernel_rfl) (by kernel_rfl) (by kernel_rfl) (fun _ _ _ h => h) (Or.inr ⟨by rfl, rfl⟩) (by assumption) ?_
                    try simp only [Act.put, List.setIfInBounds_toArray, List.set_cons_zero, List.set_cons_succ]
                    refine wpAnyH_take (i := 25) (oi := ⟨some 86, _, _, _, _, _⟩) (v := undef) rfl (by kernel_rfl) (by kernel_rfl) (by kernel_rfl) (fun _ _ _ h => h) (Or.inr ⟨by rfl, rfl⟩) (by assumption) ?_
                    try simp only [Act.put, List.setIfInBounds_toArray, List.set_cons_zero, List.set_cons_succ]
                    refine wpAnyH_take (i := 26) (oi := ⟨some 87, _, _, _, _, _⟩) (v := undef) rfl (by kernel_rfl) (by kernel_rfl) (by kernel_rfl) (fun _ _ _ h => h) (Or.inr ⟨by rfl, rfl⟩) (by assumption) ?_
                    try simp only [Act.put, List.setIfInBounds_toArray, List.set_cons_zero, List.set_cons_succ]
                    refine wpAnyH_take (i := 27) (oi := ⟨some 88, _, _, _, _, _⟩) (v := undef) rfl (by kernel_rfl) (by kernel_rfl) (by kernel_rfl) (fun _ _ _ h => h) (Or.inr ⟨by rfl, rfl⟩) (by assumption) ?_
                    try simp only [Act.put, List.setIfInBounds_toArray, List.set_cons_zero, List.set_cons_succ]
                    refine wpAnyH_take (i := 28) (oi := ⟨some 89, _, _, _, _, _⟩) (v := ?_) rfl (by kernel_rfl) (by kernel_rfl) (by kernel_rfl) (fun _ _ _ h => h) (Or.inl ⟨by rfl, ?_⟩) (by assumption) ?_
                    rotate_left
                    · intro w5 hSw
                      (try dsimp only at hSw)
                      go_simp
                      (try with_reducible rfl)
                    try simp only [Act.put, List.setIfInBounds_toArray, List.set_cons_zero, List.set_cons_succ]
                    refine wpAnyH_done (by kernel_rfl) ?_ _
                    go_wp2_with fail
                    go_meet
                    exact ⟨rfl, hideIt (Below.refl _ _).drew⟩
                  · have e1 : ∀ W, (binOp .eql 26 (.agg #[.int .i64 x, .int .i64 y]) (.agg #[.int .i64 k, .int .i64 n])).run Try.prog W = .ok (.bool true) W := fun W => by rw [eq26, hq]
                    cases hq2 : ((z, u) == (xc, xq))
                    · have e2 : ∀ W, (binOp .neq 28 (.agg #[.int .i64 z, .int .i64 u]) (.agg #[.int .i64 xc, .int .i64 xq])).run Try.prog W = .ok (.bool true) W := fun W => by rw [neq28, hq2]; rfl
                      have HO := hideIt (fun W => older_is xc xq z u W)
                      have ho : oldB (xc, xq) (z, u) = true := by
                        rcases HO1.out (by simpa using hq) with e | e
                        · rw [e] at hq2
                          simp at hq2
                        · exact e
                      rw [ho] at HO
                      clear hq hq2 ho
                      refine wp_region_held_drew (S := (fun W => W.cell? ⟨A, 1, none⟩ = some (.slice (some ⟨b, off, none⟩) T.wait.length uc) ∧ W.cell? ⟨b, off + j2 * 4, none⟩ = some (.int .i64 x) ∧ W.cell? ⟨b, off + j2 * 4 + 1, none⟩ = some (.int .i64 y) ∧ W.cell? ⟨b, off + j2 * 4 + 2, none⟩ = some (.int .i64 z) ∧ W.cell? ⟨b, off + j2 * 4 + 3, none⟩ = some (.int .i64 u) ∧ W.cell? ⟨w.heap.size, 0, none⟩ = some (.int .i64 k) ∧ W.cell? ⟨w.heap.size, 1, none⟩ = some (.int .i64 n) ∧ W.cell? ⟨K3, 0, none⟩ = some (.int .i64 xc) ∧ W.cell? ⟨K3, 1, none⟩ = some (.int .i64 xq))) (by kernel_rfl) ⟨x1, q0, q1, q2, q3, k0, k1, m0, m1⟩ (fun hHeld => ?_)
                      refine wpAnyH_take (i := 0) (oi := ⟨some 61, _, _, _, _, _⟩) (v := ?_) rfl (by kernel_rfl) (by kernel_rfl) (by kernel_rfl) (fun _ _ _ h => h) (Or.inl ⟨by rfl, ?_⟩) (by assumption) ?_
                      rotate_left
                      · intro w5 hSw
                        (try dsimp only at hSw)
                        go_simp
                        (try with_reducible rfl)
                      try simp only [Act.put, List.setIfInBounds_toArray, List.set_cons_zero, List.set_cons_succ]
                      refine wpAnyH_take (i := 1) (oi := ⟨some 62, _, _, _, _, _⟩) (v := ?_) rfl (by kernel_rfl) (by kernel_rfl) (by kernel_rfl) (fun _ _ _ h => h) (Or.inl ⟨by rfl, ?_⟩) (by assumption) ?_
                      rotate_left
                      · intro w5 hSw
                        (try dsimp only at hSw)
                        go_simp
                        (try with_reducible rfl)
                      try simp only [Act.put, List.setIfInBounds_toArray, List.set_cons_zero, List.set_cons_succ]
                      refine wpAnyH_take (i := 2) (oi := ⟨some 63, _, _, _, _, _⟩) (v := ?_) rfl (by kernel_rfl) (by kernel_rfl) (by kernel_rfl) (fun _ _ _ h => h) (Or.inl ⟨by rfl, ?_⟩) (by assumption) ?_
                      rotate_left
                      · intro w5 hSw
                        (try dsimp only at hSw)
                        go_simp
                        (try with_reducible rfl)
                      try simp only [Act.put, List.setIfInBounds_toArray, List.set_cons_zero, List.set_cons_succ]
                      refine wpAnyH_take (i := 3) (oi := ⟨some 64, _, _, _, _, _⟩) (v := ?_) rfl (by kernel_rfl) (by kernel_rfl) (by kernel_rfl) (fun _ _ _ h => h) (Or.inl ⟨by rfl, ?_⟩) (by assumption) ?_
                      rotate_left
                      · intro w5 hSw
                        (try dsimp only at hSw)
                        go_simp
                        (try with_reducible rfl)
                      try simp only [Act.put, List.setIfInBounds_toArray, List.set_cons_zero, List.set_cons_succ]
                      refine wpAnyH_take (i := 4) (oi := ⟨some 65, _, _, _, _, _⟩) (v := ?_) rfl (by kernel_rfl) (by kernel_rfl) (by kernel_rfl) (fun _ _ _ h => h) (Or.inl ⟨by rfl, ?_⟩) (by assumption) ?_
                      rotate_left
                      · intro w5 hSw
                        (try dsimp only at hSw)
                        go_simp
                        (try with_reducible rfl)
                      try simp only [Act.put, List.setIfInBounds_toArray, List.set_cons_zero, List.set_cons_succ]
                      refine wpAnyH_take (i := 5) (oi := ⟨some 66, _, _, _, _, _⟩) (v := ?_) rfl (by kernel_rfl) (by kernel_rfl) (by kernel_rfl) (fun _ _ _ h => h) (Or.inl ⟨by rfl, ?_⟩) (by assumption) ?_
                      rotate_left
                      · intro w5 hSw
                        (try dsimp only at hSw)
                        go_simp
                        (try with_reducible rfl)
                      try simp only [Act.put, List.setIfInBounds_toArray, List.set_cons_zero, List.set_cons_succ]
                      refine wpAnyH_take (i := 6) (oi := ⟨some 67, _, _, _, _, _⟩) (v := ?_) rfl (by kernel_rfl) (by kernel_rfl) (by kernel_rfl) (fun _ _ _ h => h) (Or.inl ⟨by rfl, ?_⟩) (by assumption) ?_
                      rotate_left
                      · intro w5 hSw
                        (try dsimp only at hSw)
                        go_simp
                        (try with_reducible rfl)
                      try simp only [Act.put, List.setIfInBounds_toArray, List.set_cons_zero, List.set_cons_succ]
                      refine wpAnyH_take (i := 7) (oi := ⟨some 68, _, _, _, _, _⟩) (v := ?_) rfl (by kernel_rfl) (by kernel_rfl) (by kernel_rfl) (fun _ _ _ h => h) (Or.inl ⟨by rfl, ?_⟩) (by assumption) ?_
                      rotate_left
                      · intro w5 hSw
                        (try dsimp only at hSw)
                        go_simp
                        (try with_reducible rfl)
                      try simp only [Act.put, List.setIfInBounds_toArray, List.set_cons_zero, List.set_cons_succ]
                      refine wpAnyH_take (i := 8) (oi := ⟨some 69, _, _, _, _, _⟩) (v := ?_) rfl (by kernel_rfl) (by kernel_rfl) (by kernel_rfl) (fun _ _ _ h => h) (Or.inl ⟨by rfl, ?_⟩) (by assumption) ?_
                      rotate_left
                      · intro w5 hSw
                        (try dsimp only at hSw)
                        go_simp
                        (try with_reducible rfl)
                      try simp only [Act.put, List.setIfInBounds_toArray, List.set_cons_zero, List.set_cons_succ]
                      refine wpAnyH_take (i := 9) (oi := ⟨some 70, _, _, _, _, _⟩) (v := ?_) rfl (by kernel_rfl) (by kernel_rfl) (by kernel_rfl) (fun _ _ _ h => h) (Or.inl ⟨by rfl, ?_⟩) (by assumption) ?_
                      rotate_left
                      · intro w5 hSw
                        (try dsimp only at hSw)
                        go_simp
                        (try with_reducible rfl)
                      try simp only [Act.put, List.setIfInBounds_toArray, List.set_cons_zero, List.set_cons_succ]
                      refine wpAnyH_take (i := 10) (oi := ⟨some 71, _, _, _, _, _⟩) (v := ?_) rfl (by kernel_rfl) (by kernel_rfl) (by kernel_rfl) (fun _ _ _ h => h) (Or.inl ⟨by rfl, ?_⟩) (by assumption) ?_
                      rotate_left
                      · intro w5 hSw
                        (try dsimp only at hSw)
                        go_simp
                        (try with_reducible rfl)
                      try simp only [Act.put, List.setIfInBounds_toArray, List.set_cons_zero, List.set_cons_succ]
                      refine wpAnyH_take (i := 11) (oi := ⟨some 72, _, _, _, _, _⟩) (v := ?_) rfl (by kernel_rfl) (by kernel_rfl) (by kernel_rfl) (fun _ _ _ h => h) (Or.inl ⟨by rfl, ?_⟩) (by assumption) ?_
                      rotate_left
                      · intro w5 hSw
                        (try dsimp only at hSw)
                        go_simp
                        (try with_reducible rfl)
                      try simp only [Act.put, List.setIfInBounds_toArray, List.set_cons_zero, List.set_cons_succ]
                      refine wpAnyH_take (i := 12) (oi := ⟨some 73, _, _, _, _, _⟩) (v := ?_) rfl (by kernel_rfl) (by kernel_rfl) (by kernel_rfl) (fun _ _ _ h => h) (Or.inl ⟨by rfl, ?_⟩) (by assumption) ?_
                      rotate_left
                      · intro w5 hSw
                        (try dsimp only at hSw)
                        go_simp
                        (try with_reducible rfl)
                      try simp only [Act.put, List.setIfInBounds_toArray, List.set_cons_zero, List.set_cons_succ]
                      refine wpAnyH_take (i := 13) (oi := ⟨some 74, _, _, _, _, _⟩) (v := ?_) rfl (by kernel_rfl) (by kernel_rfl) (by kernel_rfl) (fun _ _ _ h => h) (Or.inl ⟨by rfl, ?_⟩) (by assumption) ?_
                      rotate_left
                      · intro w5 hSw
                        (try dsimp only at hSw)
                        go_simp
                        (try with_reducible rfl)
                      try simp only [Act.put, List.setIfInBounds_toArray, List.set_cons_zero, List.set_cons_succ]
                      refine wpAnyH_take (i := 14) (oi := ⟨some 75, _, _, _, _, _⟩) (v := ?_) rfl (by kernel_rfl) (by kernel_rfl) (by kernel_rfl) (fun _ _ _ h => h) (Or.inl ⟨by rfl, ?_⟩) (by assumption) ?_
                      rotate_left
                      · intro w5 hSw
                        (try dsimp only at hSw)
                        go_simp
                        (try with_reducible rfl)
                      try simp only [Act.put, List.setIfInBounds_toArray, List.set_cons_zero, List.set_cons_succ]
                      refine wpAnyH_take (i := 15) (oi := ⟨some 76, _, _, _, _, _⟩) (v := ?_) rfl (by kernel_rfl) (by kernel_rfl) (by kernel_rfl) (fun _ _ _ h => h) (Or.inl ⟨by rfl, ?_⟩) (by assumption) ?_
                      rotate_left
                      · intro w5 hSw
                        (try dsimp only at hSw)
                        go_simp
                        (try with_reducible rfl)
                      try simp only [Act.put, List.setIfInBounds_toArray, List.set_cons_zero, List.set_cons_succ]
                      refine wpAnyH_take (i := 16) (oi := ⟨some 77, _, _, _, _, _⟩) (v := ?_) rfl (by kernel_rfl) (by kernel_rfl) (by kernel_rfl) (fun _ _ _ h => h) (Or.inl ⟨by rfl, ?_⟩) (by assumption) ?_
                      rotate_left
                      · intro w5 hSw
                        (try dsimp only at hSw)
                        go_simp
                        (try with_reducible rfl)
                      try simp only [Act.put, List.setIfInBounds_toArray, List.set_cons_zero, List.set_cons_succ]
                      refine wpAnyH_take (i := 17) (oi := ⟨some 78, _, _, _, _, _⟩) (v := ?_) rfl (by kernel_rfl) (by kernel_rfl) (by kernel_rfl) (fun _ _ _ h => h) (Or.inl ⟨by rfl, ?_⟩) (by assumption) ?_
                      rotate_left
                      · intro w5 hSw
                        (try dsimp only at hSw)
                        go_simp
                        (try with_reducible rfl)
                      try simp only [Act.put, List.setIfInBounds_toArray, List.set_cons_zero, List.set_cons_succ]
                      refine wpAnyH_take (i := 18) (oi := ⟨some 79, _, _, _, _, _⟩) (v := ?_) rfl (by kernel_rfl) (by kernel_rfl) (by kernel_rfl) (fun _ _ _ h => h) (Or.inl ⟨by rfl, ?_⟩) (by assumption) ?_
                      rotate_left
                      · intro w5 hSw
                        (try dsimp only at hSw)
                        go_simp
                        (try with_reducible rfl)
                      try simp only [Act.put, List.setIfInBounds_toArray, List.set_cons_zero, List.set_cons_succ]
                      refine wpAnyH_take (i := 19) (oi := ⟨some 80, _, _, _, _, _⟩) (v := ?_) rfl (by kernel_rfl) (by kernel_rfl) (by kernel_rfl) (fun _ _ _ h => h) (Or.inl ⟨by rfl, ?_⟩) (by assumption) ?_
                      rotate_left
                      · intro w5 hSw
                        (try dsimp only at hSw)
                        go_simp
                        (try with_reducible rfl)
                      try simp only [Act.put, List.setIfInBounds_toArray, List.set_cons_zero, List.set_cons_succ]
                      refine wpAnyH_take (i := 20) (oi := ⟨some 81, _, _, _, _, _⟩) (v := ?_) rfl (by kernel_rfl) (by kernel_rfl) (by kernel_rfl) (fun _ _ _ h => h) (Or.inl ⟨by rfl, ?_⟩) (by assumption) ?_
                      rotate_left
                      · intro w5 hSw
                        (try dsimp only at hSw)
                        go_simp
                        (try with_reducible rfl)
                      try simp only [Act.put, List.setIfInBounds_toArray, List.set_cons_zero, List.set_cons_succ]
                      refine wpAnyH_take (i := 21) (oi := ⟨some 82, _, _, _, _, _⟩) (v := ?_) rfl (by kernel_rfl) (by kernel_rfl) (by kernel_rfl) (fun _ _ _ h => h) (Or.inl ⟨by rfl, ?_⟩) (by assumption) ?_
                      rotate_left
                      · intro w5 hSw
                        (try dsimp only at hSw)
                        go_simp
                        (try with_reducible rfl)
                      try simp only [Act.put, List.setIfInBounds_toArray, List.set_cons_zero, List.set_cons_succ]
                      refine wpAnyH_take (i := 22) (oi := ⟨some 83, _, _, _, _, _⟩) (v := ?_) rfl (by kernel_rfl) (by kernel_rfl) (by kernel_rfl) (fun _ _ _ h => h) (Or.inl ⟨by rfl, ?_⟩) (by assumption) ?_
                      rotate_left
                      · intro w5 hSw
                        (try dsimp only at hSw)
                        go_simp
                        (try with_reducible rfl)
                      try simp only [Act.put, List.setIfInBounds_toArray, List.set_cons_zero, List.set_cons_succ]
                      refine wpAnyH_take (i := 23) (oi := ⟨some 84, _, _, _, _, _⟩) (v := ?_) rfl (by kernel_rfl) (by kernel_rfl) (by kernel_rfl) (fun _ _ _ h => h) (Or.inl ⟨by rfl, ?_⟩) (by assumption) ?_
                      rotate_left
                      · intro w5 hSw
                        (try dsimp only at hSw)
                        go_simp
                        (try with_reducible rfl)
                      try simp only [Act.put, List.setIfInBounds_toArray, List.set_cons_zero, List.set_cons_succ]
                      refine wpAnyH_take (i := 24) (oi := ⟨some 85, _, _, _, _, _⟩) (v := ?_) rfl (by kernel_rfl) (by kernel_rfl) (by kernel_rfl) (fun _ _ _ h => h) (Or.inl ⟨by rfl, ?_⟩) (by assumption) ?_
                      rotate_left
                      · intro w5 hSw
                        (try dsimp only at hSw)
                        go_simp
                        (try with_reducible rfl)
                      try simp only [Act.put, List.setIfInBounds_toArray, List.set_cons_zero, List.set_cons_succ]
                      refine wpAnyH_take (i := 25) (oi := ⟨some 86, _, _, _, _, _⟩) (v := ?_) rfl (by kernel_rfl) (by kernel_rfl) (by kernel_rfl) (fun _ _ _ h => h) (Or.inl ⟨by rfl, ?_⟩) (by assumption) ?_
                      rotate_left
                      · intro w5 hSw
                        (try dsimp only at hSw)
                        go_simp
                        (try with_reducible rfl)
                      try simp only [Act.put, List.setIfInBounds_toArray, List.set_cons_zero, List.set_cons_succ]
                      refine wpAnyH_ready (rs := [26]) (by kernel_rfl) (by simp) ?_
                      refine AllReadyH.cons (o := ⟨some 87, _, _, _, _, _⟩) rfl (fun K1 hK1 => ?_) AllReadyH.nil
                      go_simp
                      go_at_call 22
                      refine (HO.out _).mono ?_
                      rintro e w7 ⟨rfl, hb7⟩
                      refine hK1.out _ _ ⟨(hb7.cell (p := ⟨A, 1, none⟩) xl).trans x1, (hb7.cell (p := ⟨b, off + j2 * 4, none⟩) hbl).trans q0, (hb7.cell (p := ⟨b, off + j2 * 4 + 1, none⟩) hbl).trans q1, (hb7.cell (p := ⟨b, off + j2 * 4 + 2, none⟩) hbl).trans q2, (hb7.cell (p := ⟨b, off + j2 * 4 + 3, none⟩) hbl).trans q3, (hb7.cell (p := ⟨w.heap.size, 0, none⟩) kl).trans k0, (hb7.cell (p := ⟨w.heap.size, 1, none⟩) kl).trans k1, (hb7.cell (p := ⟨K3, 0, none⟩) ml).trans m0, (hb7.cell (p := ⟨K3, 1, none⟩) ml).trans m1⟩ (fun hHeld7 => ?_)
                      clear hK1 K1
                      try simp only [Act.put, List.setIfInBounds_toArray, List.set_cons_zero, List.set_cons_succ]
                      refine wpAnyH_take (i := 27) (oi := ⟨some 88, _, _, _, _, _⟩) (v := ?_) rfl (by kernel_rfl) (by kernel_rfl) (by kernel_rfl) (fun _ _ _ h => h) (Or.inl ⟨by rfl, ?_⟩) (by assumption) ?_
                      rotate_left
                      · intro w5 hSw
                        (try dsimp only at hSw)
                        go_simp
                        (try with_reducible rfl)
                      try simp only [Act.put, List.setIfInBounds_toArray, List.set_cons_zero, List.set_cons_succ]
                      refine wpAnyH_take (i := 28) (oi := ⟨some 89, _, _, _, _, _⟩) (v := ?_) rfl (by kernel_rfl) (by kernel_rfl) (by kernel_rfl) (fun _ _ _ h => h) (Or.inl ⟨by rfl, ?_⟩) (by assumption) ?_
                      rotate_left
                      · intro w5 hSw
                        (try dsimp only at hSw)
                        go_simp
                        (try with_reducible rfl)
                      try simp only [Act.put, List.setIfInBounds_toArray, List.set_cons_zero, List.set_cons_succ]
                      refine wpAnyH_done (by kernel_rfl) ?_ _
                      go_wp2_with fail
                      go_meet
                      exact ⟨rfl, hideIt (below_via (Below.refl _ _).drew hb7)⟩
                    · have e2 : ∀ W, (binOp .neq 28 (.agg #[.int .i64 z, .int .i64 u]) (.agg #[.int .i64 xc, .int .i64 xq])).run Try.prog W = .ok (.bool false) W := fun W => by rw [neq28, hq2]; rfl
                      clear hq hq2
                      refine wp_region_held_drew (S := (fun W => W.cell? ⟨A, 1, none⟩ = some (.slice (some ⟨b, off, none⟩) T.wait.length uc) ∧ W.cell? ⟨b, off + j2 * 4, none⟩ = some (.int .i64 x) ∧ W.cell? ⟨b, off + j2 * 4 + 1, none⟩ = some (.int .i64 y) ∧ W.cell? ⟨b, off + j2 * 4 + 2, none⟩ = some (.int .i64 z) ∧ W.cell? ⟨b, off + j2 * 4 + 3, none⟩ = some (.int .i64 u) ∧ W.cell? ⟨w.heap.size, 0, none⟩ = some (.int .i64 k) ∧ W.cell? ⟨w.heap.size, 1, none⟩ = some (.int .i64 n) ∧ W.cell? ⟨K3, 0, none⟩ = some (.int .i64 xc) ∧ W.cell? ⟨K3, 1, none⟩ = some (.int .i64 xq))) (by kernel_rfl) ⟨x1, q0, q1, q2, q3, k0, k1, m0, m1⟩ (fun hHeld => ?_)
                      refine wpAnyH_take (i := 0) (oi := ⟨some 61, _, _, _, _, _⟩) (v := ?_) rfl (by kernel_rfl) (by kernel_rfl) (by kernel_rfl) (fun _ _ _ h => h) (Or.inl ⟨by rfl, ?_⟩) (by assumption) ?_
                      rotate_left
                      · intro w5 hSw
                        (try dsimp only at hSw)
                        go_simp
                        (try with_reducible rfl)
                      try simp only [Act.put, List.setIfInBounds_toArray, List.set_cons_zero, List.set_cons_succ]
                      refine wpAnyH_take (i := 1) (oi := ⟨some 62, _, _, _, _, _⟩) (v := ?_) rfl (by kernel_rfl) (by kernel_rfl) (by kernel_rfl) (fun _ _ _ h => h) (Or.inl ⟨by rfl, ?_⟩) (by assumption) ?_
                      rotate_left
                      · intro w5 hSw
                        (try dsimp only at hSw)
                        go_simp
                        (try with_reducible rfl)
                      try simp only [Act.put, List.setIfInBounds_toArray, List.set_cons_zero, List.set_cons_succ]
                      refine wpAnyH_take (i := 2) (oi := ⟨some 63, _, _, _, _, _⟩) (v := ?_) rfl (by kernel_rfl) (by kernel_rfl) (by kernel_rfl) (fun _ _ _ h => h) (Or.inl ⟨by rfl, ?_⟩) (by assumption) ?_
                      rotate_left
                      · intro w5 hSw
                        (try dsimp only at hSw)
                        go_simp
                        (try with_reducible rfl)
                      try simp only [Act.put, List.setIfInBounds_toArray, List.set_cons_zero, List.set_cons_succ]
                      refine wpAnyH_take (i := 3) (oi := ⟨some 64, _, _, _, _, _⟩) (v := ?_) rfl (by kernel_rfl) (by kernel_rfl) (by kernel_rfl) (fun _ _ _ h => h) (Or.inl ⟨by rfl, ?_⟩) (by assumption) ?_
                      rotate_left
                      · intro w5 hSw
                        (try dsimp only at hSw)
                        go_simp
                        (try with_reducible rfl)
                      try simp only [Act.put, List.setIfInBounds_toArray, List.set_cons_zero, List.set_cons_succ]
                      refine wpAnyH_take (i := 4) (oi := ⟨some 65, _, _, _, _, _⟩) (v := ?_) rfl (by kernel_rfl) (by kernel_rfl) (by kernel_rfl) (fun _ _ _ h => h) (Or.inl ⟨by rfl, ?_⟩) (by assumption) ?_
                      rotate_left
                      · intro w5 hSw
                        (try dsimp only at hSw)
                        go_simp
                        (try with_reducible rfl)
                      try simp only [Act.put, List.setIfInBounds_toArray, List.set_cons_zero, List.set_cons_succ]
                      refine wpAnyH_take (i := 5) (oi := ⟨some 66, _, _, _, _, _⟩) (v := ?_) rfl (by kernel_rfl) (by kernel_rfl) (by kernel_rfl) (fun _ _ _ h => h) (Or.inl ⟨by rfl, ?_⟩) (by assumption) ?_
                      rotate_left
                      · intro w5 hSw
                        (try dsimp only at hSw)
                        go_simp
                        (try with_reducible rfl)
                      try simp only [Act.put, List.setIfInBounds_toArray, List.set_cons_zero, List.set_cons_succ]
                      refine wpAnyH_take (i := 6) (oi := ⟨some 67, _, _, _, _, _⟩) (v := ?_) rfl (by kernel_rfl) (by kernel_rfl) (by kernel_rfl) (fun _ _ _ h => h) (Or.inl ⟨by rfl, ?_⟩) (by assumption) ?_
                      rotate_left
                      · intro w5 hSw
                        (try dsimp only at hSw)
                        go_simp
                        (try with_reducible rfl)
                      try simp only [Act.put, List.setIfInBounds_toArray, List.set_cons_zero, List.set_cons_succ]
                      refine wpAnyH_take (i := 7) (oi := ⟨some 68, _, _, _, _, _⟩) (v := ?_) rfl (by kernel_rfl) (by kernel_rfl) (by kernel_rfl) (fun _ _ _ h => h) (Or.inl ⟨by rfl, ?_⟩) (by assumption) ?_
                      rotate_left
                      · intro w5 hSw
                        (try dsimp only at hSw)
                        go_simp
                        (try with_reducible rfl)
                      try simp only [Act.put, List.setIfInBounds_toArray, List.set_cons_zero, List.set_cons_succ]
                      refine wpAnyH_take (i := 8) (oi := ⟨some 69, _, _, _, _, _⟩) (v := ?_) rfl (by kernel_rfl) (by kernel_rfl) (by kernel_rfl) (fun _ _ _ h => h) (Or.inl ⟨by rfl, ?_⟩) (by assumption) ?_
                      rotate_left
                      · intro w5 hSw
                        (try dsimp only at hSw)
                        go_simp
                        (try with_reducible rfl)
                      try simp only [Act.put, List.setIfInBounds_toArray, List.set_cons_zero, List.set_cons_succ]
                      refine wpAnyH_take (i := 9) (oi := ⟨some 70, _, _, _, _, _⟩) (v := ?_) rfl (by kernel_rfl) (by kernel_rfl) (by kernel_rfl) (fun _ _ _ h => h) (Or.inl ⟨by rfl, ?_⟩) (by assumption) ?_
                      rotate_left
                      · intro w5 hSw
                        (try dsimp only at hSw)
                        go_simp
                        (try with_reducible rfl)
                      try simp only [Act.put, List.setIfInBounds_toArray, List.set_cons_zero, List.set_cons_succ]
                      refine wpAnyH_take (i := 10) (oi := ⟨some 71, _, _, _, _, _⟩) (v := ?_) rfl (by kernel_rfl) (by kernel_rfl) (by kernel_rfl) (fun _ _ _ h => h) (Or.inl ⟨by rfl, ?_⟩) (by assumption) ?_
                      rotate_left
                      · intro w5 hSw
                        (try dsimp only at hSw)
                        go_simp
                        (try with_reducible rfl)
                      try simp only [Act.put, List.setIfInBounds_toArray, List.set_cons_zero, List.set_cons_succ]
                      refine wpAnyH_take (i := 11) (oi := ⟨some 72, _, _, _, _, _⟩) (v := ?_) rfl (by kernel_rfl) (by kernel_rfl) (by kernel_rfl) (fun _ _ _ h => h) (Or.inl ⟨by rfl, ?_⟩) (by assumption) ?_
                      rotate_left
                      · intro w5 hSw
                        (try dsimp only at hSw)
                        go_simp
                        (try with_reducible rfl)
                      try simp only [Act.put, List.setIfInBounds_toArray, List.set_cons_zero, List.set_cons_succ]
                      refine wpAnyH_take (i := 12) (oi := ⟨some 73, _, _, _, _, _⟩) (v := ?_) rfl (by kernel_rfl) (by kernel_rfl) (by kernel_rfl) (fun _ _ _ h => h) (Or.inl ⟨by rfl, ?_⟩) (by assumption) ?_
                      rotate_left
                      · intro w5 hSw
                        (try dsimp only at hSw)
                        go_simp
                        (try with_reducible rfl)
                      try simp only [Act.put, List.setIfInBounds_toArray, List.set_cons_zero, List.set_cons_succ]
                      refine wpAnyH_take (i := 13) (oi := ⟨some 74, _, _, _, _, _⟩) (v := ?_) rfl (by kernel_rfl) (by kernel_rfl) (by kernel_rfl) (fun _ _ _ h => h) (Or.inl ⟨by rfl, ?_⟩) (by assumption) ?_
                      rotate_left
                      · intro w5 hSw
                        (try dsimp only at hSw)
                        go_simp
                        (try with_reducible rfl)
                      try simp only [Act.put, List.setIfInBounds_toArray, List.set_cons_zero, List.set_cons_succ]
                      refine wpAnyH_take (i := 14) (oi := ⟨some 75, _, _, _, _, _⟩) (v := ?_) rfl (by kernel_rfl) (by kernel_rfl) (by kernel_rfl) (fun _ _ _ h => h) (Or.inl ⟨by rfl, ?_⟩) (by assumption) ?_
                      rotate_left
                      · intro w5 hSw
                        (try dsimp only at hSw)
                        go_simp
                        (try with_reducible rfl)
                      try simp only [Act.put, List.setIfInBounds_toArray, List.set_cons_zero, List.set_cons_succ]
                      refine wpAnyH_take (i := 15) (oi := ⟨some 76, _, _, _, _, _⟩) (v := ?_) rfl (by kernel_rfl) (by kernel_rfl) (by kernel_rfl) (fun _ _ _ h => h) (Or.inl ⟨by rfl, ?_⟩) (by assumption) ?_
                      rotate_left
                      · intro w5 hSw
                        (try dsimp only at hSw)
                        go_simp
                        (try with_reducible rfl)
                      try simp only [Act.put, List.setIfInBounds_toArray, List.set_cons_zero, List.set_cons_succ]
                      refine wpAnyH_take (i := 16) (oi := ⟨some 77, _, _, _, _, _⟩) (v := ?_) rfl (by kernel_rfl) (by kernel_rfl) (by kernel_rfl) (fun _ _ _ h => h) (Or.inl ⟨by rfl, ?_⟩) (by assumption) ?_
                      rotate_left
                      · intro w5 hSw
                        (try dsimp only at hSw)
                        go_simp
                        (try with_reducible rfl)
                      try simp only [Act.put, List.setIfInBounds_toArray, List.set_cons_zero, List.set_cons_succ]
                      refine wpAnyH_take (i := 17) (oi := ⟨some 78, _, _, _, _, _⟩) (v := ?_) rfl (by kernel_rfl) (by kernel_rfl) (by kernel_rfl) (fun _ _ _ h => h) (Or.inl ⟨by rfl, ?_⟩) (by assumption) ?_
                      rotate_left
                      · intro w5 hSw
                        (try dsimp only at hSw)
                        go_simp
                        (try with_reducible rfl)
                      try simp only [Act.put, List.setIfInBounds_toArray, List.set_cons_zero, List.set_cons_succ]
                      refine wpAnyH_take (i := 18) (oi := ⟨some 79, _, _, _, _, _⟩) (v := ?_) rfl (by kernel_rfl) (by kernel_rfl) (by kernel_rfl) (fun _ _ _ h => h) (Or.inl ⟨by rfl, ?_⟩) (by assumption) ?_
                      rotate_left
                      · intro w5 hSw
                        (try dsimp only at hSw)
                        go_simp
                        (try with_reducible rfl)
                      try simp only [Act.put, List.setIfInBounds_toArray, List.set_cons_zero, List.set_cons_succ]
                      refine wpAnyH_take (i := 19) (oi := ⟨some 80, _, _, _, _, _⟩) (v := undef) rfl (by kernel_rfl) (by kernel_rfl) (by kernel_rfl) (fun _ _ _ h => h) (Or.inr ⟨by rfl, rfl⟩) (by assumption) ?_
                      try simp only [Act.put, List.setIfInBounds_toArray, List.set_cons_zero, List.set_cons_succ]
                      refine wpAnyH_take (i := 20) (oi := ⟨some 81, _, _, _, _, _⟩) (v := undef) rfl (by kernel_rfl) (by kernel_rfl) (by kernel_rfl) (fun _ _ _ h => h) (Or.inr ⟨by rfl, rfl⟩) (by assumption) ?_
                      try simp only [Act.put, List.setIfInBounds_toArray, List.set_cons_zero, List.set_cons_succ]
                      refine wpAnyH_take (i := 21) (oi := ⟨some 82, _, _, _, _, _⟩) (v := undef) rfl (by kernel_rfl) (by kernel_rfl) (by kernel_rfl) (fun _ _ _ h => h) (Or.inr ⟨by rfl, rfl⟩) (by assumption) ?_
                      try simp only [Act.put, List.setIfInBounds_toArray, List.set_cons_zero, List.set_cons_succ]
                      refine wpAnyH_take (i := 22) (oi := ⟨some 83, _, _, _, _, _⟩) (v := undef) rfl (by kernel_rfl) (by kernel_rfl) (by kernel_rfl) (fun _ _ _ h => h) (Or.inr ⟨by rfl, rfl⟩) (by assumption) ?_
                      try simp only [Act.put, List.setIfInBounds_toArray, List.set_cons_zero, List.set_cons_succ]
                      refine wpAnyH_take (i := 23) (oi := ⟨some 84, _, _, _, _, _⟩) (v := undef) rfl (by kernel_rfl) (by kernel_rfl) (by kernel_rfl) (fun _ _ _ h => h) (Or.inr ⟨by rfl, rfl⟩) (by assumption) ?_
                      try simp only [Act.put, List.setIfInBounds_toArray, List.set_cons_zero, List.set_cons_succ]
                      refine wpAnyH_take (i := 24) (oi := ⟨some 85, _, _, _, _, _⟩) (v := undef) rfl (by kernel_rfl) (by kernel_rfl) (by kernel_rfl) (fun _ _ _ h => h) (Or.inr ⟨by rfl, rfl⟩) (by assumption) ?_
                      try simp only [Act.put, List.setIfInBounds_toArray, List.set_cons_zero, List.set_cons_succ]
                      refine wpAnyH_take (i := 25) (oi := ⟨some 86, _, _, _, _, _⟩) (v := undef) rfl (by kernel_rfl) (by kernel_rfl) (by kernel_rfl) (fun _ _ _ h => h) (Or.inr ⟨by rfl, rfl⟩) (by assumption) ?_
                      try simp only [Act.put, List.setIfInBounds_toArray, List.set_cons_zero, List.set_cons_succ]
                      refine wpAnyH_take (i := 26) (oi := ⟨some 87, _, _, _, _, _⟩) (v := undef) rfl (by kernel_rfl) (by kernel_rfl) (by kernel_rfl) (fun _ _ _ h => h) (Or.inr ⟨by rfl, rfl⟩) (by assumption) ?_
                      try simp only [Act.put, List.setIfInBounds_toArray, List.set_cons_zero, List.set_cons_succ]
                      refine wpAnyH_take (i := 27) (oi := ⟨some 88, _, _, _, _, _⟩) (v := undef) rfl (by kernel_rfl) (by kernel_rfl) (by kernel_rfl) (fun _ _ _ h => h) (Or.inr ⟨by rfl, rfl⟩) (by assumption) ?_
                      try simp only [Act.put, List.setIfInBounds_toArray, List.set_cons_zero, List.set_cons_succ]
                      refine wpAnyH_take (i := 28) (oi := ⟨some 89, _, _, _, _, _⟩) (v := ?_) rfl (by kernel_rfl) (by kernel_rfl) (by kernel_rfl) (fun _ _ _ h => h) (Or.inl ⟨by rfl, ?_⟩) (by assumption) ?_
                      rotate_left
                      · intro w5 hSw
                        (try dsimp only at hSw)
                        go_simp
                        (try with_reducible rfl)
                      try simp only [Act.put, List.setIfInBounds_toArray, List.set_cons_zero, List.set_cons_succ]
                      refine wpAnyH_done (by kernel_rfl) ?_ _
                      go_wp2_with fail
                      go_meet
                      exact ⟨rfl, hideIt (Below.refl _ _).drew⟩
                case rest =>
                obtain ⟨rfl, HB3⟩ := hcut
                have HB4 := hideIt (below_via HB2.out HB3.out)
                clear HB2 HB3 x0 x1 xf0 xf1 xl k0 k1 kl m0 m1 ml q0 q1 q2 q3 HO1
                go_wp2
                go_roundw
                case rel => exact ⟨j2 + 1, by go_num, by omega, HB4⟩
                case measure => simp [intOf]; omega
              · have hjI2 : ¬ (j2 : Int) < (T.wait.length : Int) := by omega
                have N4 := hideIt ((HJ2.out.block _ (Array.getElem?_eq_some_iff.1 N3.out).1).trans N3.out)
                have Z := hideIt (X4.out.take (O3.out.keep HJ2.out) HM2.out)
                obtain ⟨n0, n1, -, -, nl⟩ := two_at N4.out
                clear HJ2 X3 M3 N3 O3 X4 M4 N4 HO0 HM2
                go_wp2
                go_roundw
                case rel => exact ⟨m + 1, by go_num, by omega, hideIt ⟨_, _, _, Z.out⟩⟩
                case measure => simp [intOf]; omega
          · have e1 : ∀ W, (binOp .eql 28 (.agg #[.int .i64 fc, .int .i64 fq]) (.agg #[.int .i64 0, .int .i64 0])).run Try.prog W = .ok (.bool true) W := fun W => by rw [eq28]; rw [show ((fc, fq) == ((0, 0) : TxnV)) = ((fc, fq) == zT) from rfl, hz]
            have HB := hideIt X2.out.bel
            clear HNX HMY HFR hz X2 H2
            go_wp2_with fail
            refine (HV.out _).mono ?_
            rintro e w9 ⟨rfl, hb⟩
            dsimp only
            have HB9 := hideIt (below_via HB.out hb)
            clear hb
            go_wp2
            go_ret
            exact ⟨rfl, HB9.out⟩
    · have hltI : ¬ (m : Int) < 10 := by omega
      have HB := hideIt X.bel
      clear X
      go_wp2_with fail
      refine (HV.out _).mono ?_
      rintro e w9 ⟨rfl, hb⟩
      dsimp only
      have HB9 := hideIt (below_via HB.out hb)
      clear hb
      go_wp2
      go_ret
      exact ⟨rfl, HB9.out⟩
end Go.Proofs.Ytgfpeknhabbkbaa
