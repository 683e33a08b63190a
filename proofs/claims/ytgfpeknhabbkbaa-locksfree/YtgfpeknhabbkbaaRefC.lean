/- The document's own Check. -/
import Derived.Test.YtgfpeknhabbkbaaRefW
import Derived.Test.YtgfpeknhabbkbaaRefP
namespace Go.Proofs.Ytgfpeknhabbkbaa
open Go.RowKit
set_option linter.all false
set_option maxHeartbeats 16000000 in
set_option maxRecDepth 100000 in
theorem rCheck_is (T : TabV) (h v : Value) (w : World) (hT : Tab w T h v) : Calls Try.prog 19 #[.agg #[h, v]] w fun e w' => e = .returned (.int .i64 (chkI T)) ∧ Below w.heap.size w w' := by
  have HD := hideIt (fun k n W (hW : Below w.heap.size w W) => rHolder_is T h v k n W (hT.keep hW))
  have HQ := hideIt (fun k n c q W (hW : Below w.heap.size w W) => rWaits_is T h v k n c q W (hT.keep hW))
  have HK := hideIt (fun k n W => rKey_is k n W)
  have HN := hideIt (fun k n W => rName_is k n W)
  obtain ⟨ha, hc, rfl, g8, hrh⟩ := hT.held.hols
  obtain ⟨va, vc, rfl, h8, hrw⟩ := hT.wait.hols
  have HH := hideIt hrh
  have HW := hideIt hrw
  clear hT hrh hrw
  have HB0 := hideIt (below1 w (.cells #[.slice ha T.held.length hc, .slice va T.wait.length vc] 24))
  have HX0 := hideIt (heap_alloc_new w (.cells #[.slice ha T.held.length hc, .slice va T.wait.length vc] 24))
  have hwl : IntKind.i64.wrap ((T.held.length : Int) + (T.wait.length : Int)) = (T.held.length : Int) + (T.wait.length : Int) := by rw [IntKind.wrap_i64]; omega
  by_cases h200 : T.held.length + T.wait.length ≤ 200
  · have h200I : (T.held.length : Int) + (T.wait.length : Int) ≤ 200 := by omega
    go_enter Try.func19, Try.ntmps19
    go_wp2
    go_loopw [3] (fun v wr => ∃ i : Nat, v = .int .i64 i ∧ i ≤ T.held.length ∧ Hid (Below w.heap.size w wr ∧ wr.heap[w.heap.size]? = some (.cells #[.slice ha T.held.length hc, .slice va T.wait.length vc] 24 (0, 0)) ∧ ∀ i', i' < i → ok1 T.held i')) (fun v _ => T.held.length - (intOf v).toNat)
    case atStart => exact ⟨0, rfl, Nat.zero_le _, hideIt ⟨HB0.out, HX0.out, fun i' h => absurd h (by omega)⟩⟩
    case round =>
      clear HB0 HX0
      obtain ⟨i, rfl, hi, HR⟩ := hrel
      have hB := HR.out.1
      obtain ⟨z0, z1, -, -, zl⟩ := two_at HR.out.2.1
      by_cases hlt : i < T.held.length
      · have hltI : (i : Int) < (T.held.length : Int) := by omega
        have hi0 : (0 : Int) ≤ (i : Int) := by omega
        have hiw : IntKind.i64.wrap ((i : Int) + 1) = ((i + 1 : Nat) : Int) := by rw [IntKind.wrap_i64]; omega
        have HHk := HH
        obtain ⟨b, off, rfl, hbl, q0, q1, q2, q3⟩ := HH.out i hlt
        have hblr : b < wr.heap.size := Nat.lt_of_lt_of_le hbl hB.size
        have c0 := (hB.cell (p := ⟨b, off + i * 4, none⟩) hbl).trans q0
        have c1 := (hB.cell (p := ⟨b, off + i * 4 + 1, none⟩) hbl).trans q1
        have HI := hideIt HR.out.2.2
        have HX := hideIt HR.out.2.1
        have HB := hideIt HR.out.1
        have HO : Hid (∀ e : HoldV, e = T.held[i] → holB e = false → ¬ ∀ i, ok1 T.held i) := fun e he hb hall => by
          have := (hall i hlt).1
          rw [← he, hb] at this
          cases this
        obtain ⟨en, hen⟩ : ∃ en, en = T.held[i] := ⟨_, rfl⟩
        rw [← hen] at c0 c1 q2 q3 q0 q1
        have HEN := hideIt hen
        obtain ⟨⟨x, y⟩, ⟨z, u⟩⟩ := en
        dsimp only at c0 c1 q0 q1 q2 q3
        have HC1 := hideIt (HK.out x y wr)
        have HC2 := hideIt (fun W => HN.out z u W)
        clear HR hB hen
        cases hk : keyB (x, y)
        · rw [hk] at HC1
          have hbad : ¬ (T.held.length + T.wait.length ≤ 200 ∧ (∀ i, ok1 T.held i) ∧ ∀ i, ok3 T i) := fun e => HO.out _ HEN.out (by simp [holB, hk]) e.2.1
          have HBAD := hideIt hbad
          clear hk hbad
          go_wp2_with fail
          refine HC1.out.mono ?_
          rintro e w1 ⟨rfl, hb⟩
          dsimp only
          have HB1 := hideIt (below_via HB.out hb)
          clear hb
          go_wp2
          go_ret
          exact ⟨by rw [rchk_not HBAD.out]; rfl, HB1.out⟩
        · rw [hk] at HC1
          cases hn : namB (z, u)
          · rw [hn] at HC2
            have hbad : ¬ (T.held.length + T.wait.length ≤ 200 ∧ (∀ i, ok1 T.held i) ∧ ∀ i, ok3 T i) := fun e => HO.out _ HEN.out (by simp [holB, hk, hn]) e.2.1
            have HBAD := hideIt hbad
            clear hk hn hbad
            go_wp2_with fail
            refine HC1.out.mono ?_
            rintro e w1 ⟨rfl, hb⟩
            dsimp only
            have HB1 := hideIt (below_via HB.out hb)
            have d2 := (HB1.out.cell (p := ⟨b, off + i * 4 + 2, none⟩) hbl).trans q2
            have d3 := (HB1.out.cell (p := ⟨b, off + i * 4 + 3, none⟩) hbl).trans q3
            have y0 := (hb.cell (p := ⟨w.heap.size, 0, none⟩) zl).trans z0
            have hbl1 : b < w1.heap.size := Nat.lt_of_lt_of_le hblr hb.size
            clear hb
            go_wp2_with fail
            refine (HC2.out _).mono ?_
            rintro e w2 ⟨rfl, hb⟩
            dsimp only
            have HB2 := hideIt (below_via HB1.out hb)
            clear hb
            go_wp2
            go_ret
            exact ⟨by rw [rchk_not HBAD.out]; rfl, HB2.out⟩
          · rw [hn] at HC2
            have HG : Hid (holB ((x, y), (z, u)) = true) := by
              show holB _ = _
              simp [holB, hk, hn]
            clear hk hn
            go_wp2_with fail
            refine HC1.out.mono ?_
            rintro e w1 ⟨rfl, hb⟩
            dsimp only
            have HB1 := hideIt (below_via HB.out hb)
            have d2 := (HB1.out.cell (p := ⟨b, off + i * 4 + 2, none⟩) hbl).trans q2
            have d3 := (HB1.out.cell (p := ⟨b, off + i * 4 + 3, none⟩) hbl).trans q3
            have y0 := (hb.cell (p := ⟨w.heap.size, 0, none⟩) zl).trans z0
            have hbl1 : b < w1.heap.size := Nat.lt_of_lt_of_le hblr hb.size
            have HX1 := hideIt ((hb.block _ zl).trans HX.out)
            clear hb
            go_wp2_with fail
            refine (HC2.out _).mono ?_
            rintro e w2 ⟨rfl, hb⟩
            dsimp only
            have HB2 := hideIt (below_via HB1.out hb)
            have HX2 := hideIt ((hb.block _ (Array.getElem?_eq_some_iff.1 HX1.out).1).trans HX1.out)
            clear hb HC1 HC2 HX1 HB1 d2 d3 y0 hbl1 c0 c1 hblr z0 z1 zl HX HB HO
            go_upto_region 9 with fail
            go_loopw [4] (fun v wi => ∃ j : Nat, v = .int .i64 j ∧ j ≤ i ∧ Hid (Below w2.heap.size w2 wi ∧ ∀ j' (hj : j' < T.held.length), j' < j → T.held[j'].1 ≠ (x, y))) (fun v _ => i - (intOf v).toNat)
            case atStart => exact ⟨0, rfl, Nat.zero_le _, hideIt ⟨Below.refl _ _, fun j' _ h => absurd h (by omega)⟩⟩
            case round =>
              obtain ⟨j, rfl, hj, HJ⟩ := hrel
              have hB3 := below_via HB2.out HJ.out.1
              have hX3 := (HJ.out.1.block _ (Array.getElem?_eq_some_iff.1 HX2.out).1).trans HX2.out
              obtain ⟨z0, z1, -, -, zl⟩ := two_at hX3
              by_cases hjl : j < i
              · have hjI : (j : Int) < (i : Int) := by omega
                have hj0 : (0 : Int) ≤ (j : Int) := by omega
                have hjL : (j : Int) < (T.held.length : Int) := by omega
                have hjw : IntKind.i64.wrap ((j : Int) + 1) = ((j + 1 : Nat) : Int) := by rw [IntKind.wrap_i64]; omega
                have hjn : j < T.held.length := by omega
                obtain ⟨b', off', e, -, p0, p1, -, -⟩ := HHk.out j hjn
                simp only [Option.some.injEq, Addr.mk.injEq, and_true] at e
                obtain ⟨rfl, rfl⟩ := e
                have hblr : b < wr.heap.size := Nat.lt_of_lt_of_le hbl hB3.size
                have c0 := (hB3.cell (p := ⟨b, off + i * 4, none⟩) hbl).trans q0
                have c1 := (hB3.cell (p := ⟨b, off + i * 4 + 1, none⟩) hbl).trans q1
                have d0 := (hB3.cell (p := ⟨b, off + j * 4, none⟩) hbl).trans p0
                have d1 := (hB3.cell (p := ⟨b, off + j * 4 + 1, none⟩) hbl).trans p1
                have HB3 := hideIt hB3
                have HJ1 := hideIt HJ.out
                obtain ⟨em, hem⟩ : ∃ em, em = T.held[j] := ⟨_, rfl⟩
                rw [← hem] at d0 d1
                have HEM := hideIt hem
                obtain ⟨⟨x', y'⟩, ⟨z', u'⟩⟩ := em
                dsimp only at d0 d1
                clear p0 p1 hB3 hX3 HJ hem
                cases hq : ((x', y') == (x, y))
                · have e1 : ∀ W, (binOp .eql 26 (.agg #[.int .i64 x', .int .i64 y']) (.agg #[.int .i64 x, .int .i64 y])).run Try.prog W = .ok (.bool false) W := fun W => by rw [eq26, hq]
                  have HNE : Hid (∀ j' (hj : j' < T.held.length), j' < j + 1 → T.held[j'].1 ≠ (x, y)) := fun j' hj' hlt' => by
                    rcases Nat.lt_or_ge j' j with h' | h'
                    · exact HJ1.out.2 j' hj' h'
                    · obtain rfl : j' = j := by omega
                      rw [← HEM.out]
                      simpa using hq
                  clear hq
                  go_wp2_with fail
                  go_region
                  go_wp2
                  go_roundw
                  case rel => exact ⟨j + 1, by go_num, by omega, hideIt ⟨below_via HJ1.out.1 (Below.refl _ _).drew, HNE.out⟩⟩
                  case measure => simp [intOf]; omega
                · have e1 : ∀ W, (binOp .eql 26 (.agg #[.int .i64 x', .int .i64 y']) (.agg #[.int .i64 x, .int .i64 y])).run Try.prog W = .ok (.bool true) W := fun W => by rw [eq26, hq]
                  have hbad : ¬ (T.held.length + T.wait.length ≤ 200 ∧ (∀ i, ok1 T.held i) ∧ ∀ i, ok3 T i) := fun e => by
                    have := (e.2.1 i hlt).2 j hjl
                    rw [← HEM.out, ← HEN.out] at this
                    exact this (by simpa using hq)
                  have HBAD := hideIt hbad
                  clear hq hbad
                  go_wp2_with fail
                  go_region
                  go_wp2
                  go_ret
                  exact ⟨by rw [rchk_not HBAD.out]; rfl, HB3.out.drew⟩
              · have hjI : ¬ (j : Int) < (i : Int) := by omega
                have HF : Hid (∀ i', i' < i + 1 → ok1 T.held i') := fun i' hi' => by
                  rcases Nat.lt_or_ge i' i with h' | h'
                  · exact HI.out i' h'
                  · obtain rfl : i' = i := by omega
                    intro h2
                    rw [← HEN.out]
                    exact ⟨HG.out, fun j' hj' => HJ.out.2 j' (by omega) (by omega)⟩
                have HB3 := hideIt hB3
                have HX3 := hideIt hX3
                clear HJ hB3 hX3
                go_wp2
                go_roundw
                case rel => exact ⟨i + 1, by go_num, by omega, hideIt ⟨HB3.out, HX3.out, HF.out⟩⟩
                case measure => simp [intOf]; omega
      · have hltI : ¬ (i : Int) < (T.held.length : Int) := by omega
        have H1 : Hid (∀ i, ok1 T.held i) := fun i' h => HR.out.2.2 i' (by omega) h
        have HB := hideIt HR.out.1
        have HX := hideIt HR.out.2.1
        clear HR HH hB
        go_wp2
        go_loopw [5] (fun v wr => ∃ i : Nat, v = .int .i64 i ∧ i ≤ T.wait.length ∧ Hid (Below w.heap.size w wr ∧ wr.heap[w.heap.size]? = some (.cells #[.slice ha T.held.length hc, .slice va T.wait.length vc] 24 (0, 0)) ∧ ∀ i', i' < i → ok3 T i')) (fun v _ => T.wait.length - (intOf v).toNat)
        case atStart => exact ⟨0, rfl, Nat.zero_le _, hideIt ⟨HB.out, HX.out, fun i' h => absurd h (by omega)⟩⟩
        case round =>
          clear HB HX z0 z1 zl
          obtain ⟨i, rfl, hi, HR⟩ := hrel
          have hB := HR.out.1
          obtain ⟨z0, z1, -, -, zl⟩ := two_at HR.out.2.1
          by_cases hlt : i < T.wait.length
          · have hltI : (i : Int) < (T.wait.length : Int) := by omega
            have hi0 : (0 : Int) ≤ (i : Int) := by omega
            have hiw : IntKind.i64.wrap ((i : Int) + 1) = ((i + 1 : Nat) : Int) := by rw [IntKind.wrap_i64]; omega
            have HWk := HW
            obtain ⟨b, off, rfl, hbl, q0, q1, q2, q3⟩ := HW.out i hlt
            have hblr : b < wr.heap.size := Nat.lt_of_lt_of_le hbl hB.size
            have c0 := (hB.cell (p := ⟨b, off + i * 4, none⟩) hbl).trans q0
            have c1 := (hB.cell (p := ⟨b, off + i * 4 + 1, none⟩) hbl).trans q1
            have c2 := (hB.cell (p := ⟨b, off + i * 4 + 2, none⟩) hbl).trans q2
            have c3 := (hB.cell (p := ⟨b, off + i * 4 + 3, none⟩) hbl).trans q3
            have HI := hideIt HR.out.2.2
            obtain ⟨en, hen⟩ : ∃ en, en = T.wait[i] := ⟨_, rfl⟩
            rw [← hen] at c0 c1 c2 c3 q0 q1 q2 q3
            have HEN := hideIt hen
            have HO : Hid ((∀ i, ok3 T i) → holB en = true ∧ heldB T.held en.1 = true ∧ hdT T.held en.1 ≠ en.2 ∧ (qL T.wait en.1).length ≤ 4 ∧ ∀ j (hj : j < i), T.wait[j]'(by omega) ≠ en) := fun hall => by
              rw [hen]
              exact hall i hlt
            have HY : Hid (holB en = true ∧ heldB T.held en.1 = true ∧ hdT T.held en.1 ≠ en.2 ∧ (qL T.wait en.1).length ≤ 4 → (∀ j (hj : j < T.wait.length), j < i → T.wait[j] ≠ en) → ok3 T i) := fun a b h2 => by
              rw [← hen]
              exact ⟨a.1, a.2.1, a.2.2.1, a.2.2.2, fun j hj => b j (by omega) hj⟩
            have hb1 := below1 wr (.cells (holE en).toArray 44)
            have HX1 := hideIt ((hb1.block _ zl).trans HR.out.2.1)
            have HB1 := hideIt (below_via hB hb1)
            have HN1 := hideIt (heap_alloc_new wr (.cells (holE en).toArray 44))
            obtain ⟨⟨x, y⟩, ⟨z, u⟩⟩ := en
            unfold holE at HX1 HB1 HN1
            dsimp only at c0 c1 c2 c3 q0 q1 q2 q3 HX1 HB1 HN1 HO HY
            clear HR hB hen hb1
            have HC := hideIt (HD.out x y (wr.alloc (.cells #[.int .i64 x, .int .i64 y, .int .i64 z, .int .i64 u] 44)) HB1.out)
            have HC2 := hideIt (fun W hW => HQ.out x y z u W hW)
            have HC3 := hideIt (fun W => HK.out x y W)
            have HC4 := hideIt (fun W => HN.out z u W)
            have l8 : (qL T.wait (x, y)).length ≤ T.wait.length := qL_len _ _
            generalize hdT T.held (x, y) = f at *
            obtain ⟨fc, fq⟩ := f
            generalize heldB T.held (x, y) = hd at *
            generalize (qL T.wait (x, y)).length = all at *
            generalize (qL T.wait (x, y)).any (fun x => x == (z, u)) = is0 at *
            go_wp2_with fail
            generalize wr.alloc (.cells #[.int .i64 x, .int .i64 y, .int .i64 z, .int .i64 u] 44) = W1 at *
            generalize wr.heap.size = K at *
            refine HC.out.mono ?_
            rintro e w1 ⟨rfl, hb⟩
            dsimp only
            have hX1 := (hb.block _ (Array.getElem?_eq_some_iff.1 HX1.out).1).trans HX1.out
            have hN1 := (hb.block _ (Array.getElem?_eq_some_iff.1 HN1.out).1).trans HN1.out
            have hbf := below1 w1 (.cells #[.int .i64 fc, .int .i64 fq] 28)
            have HX2 := hideIt ((hbf.block _ (Array.getElem?_eq_some_iff.1 hX1).1).trans hX1)
            have HN2 := hideIt ((hbf.block _ (Array.getElem?_eq_some_iff.1 hN1).1).trans hN1)
            have HB2 := hideIt (below_via (below_via HB1.out hb) hbf)
            have HF2 := hideIt (heap_alloc_new w1 (.cells #[.int .i64 fc, .int .i64 fq] 28))
            clear hb HX1 HN1 HB1 HC z0 z1 zl c0 c1 c2 c3 hX1 hN1 hbf hblr
            go_upto_region 18 with fail
            generalize w1.alloc (.cells #[.int .i64 fc, .int .i64 fq] 28) = W2 at *
            generalize w1.heap.size = K5 at *
            obtain ⟨z0, z1, -, -, zl⟩ := two_at HX2.out
            have y0 : W2.cell? ⟨K, 0, none⟩ = some (.int .i64 x) := by rw [cell_at HN2.out]; rfl
            have y1 : W2.cell? ⟨K, 1, none⟩ = some (.int .i64 y) := by rw [cell_at HN2.out]; rfl
            have y2 : W2.cell? ⟨K, 2, none⟩ = some (.int .i64 z) := by rw [cell_at HN2.out]; rfl
            have y3 : W2.cell? ⟨K, 3, none⟩ = some (.int .i64 u) := by rw [cell_at HN2.out]; rfl
            go_wp2_with fail
            refine (HC2.out _ HB2.out).mono ?_
            rintro e w2 ⟨rfl, hb⟩
            dsimp only
            have HX3 := hideIt ((hb.block _ zl).trans HX2.out)
            have HN3 := hideIt ((hb.block _ (Array.getElem?_eq_some_iff.1 HN2.out).1).trans HN2.out)
            have HF3 := hideIt ((hb.block _ (Array.getElem?_eq_some_iff.1 HF2.out).1).trans HF2.out)
            have HB3 := hideIt (below_via HB2.out hb)
            clear hb HX2 HN2 HF2 HB2 HC2 z0 z1 zl y0 y1 y2 y3
            go_upto_region 19 with fail
            have y0 : w2.cell? ⟨K, 0, none⟩ = some (.int .i64 x) := by rw [cell_at HN3.out]; rfl
            have y1 : w2.cell? ⟨K, 1, none⟩ = some (.int .i64 y) := by rw [cell_at HN3.out]; rfl
            have HC5 := hideIt (HC3.out w2)
            clear HC3
            cases hk : keyB (x, y)
            · rw [hk] at HC5
              have HBAD : Hid (¬ (T.held.length + T.wait.length ≤ 200 ∧ (∀ i, ok1 T.held i) ∧ ∀ i, ok3 T i)) := fun e => by
                have := (HO.out e.2.2).1
                simp [holB, hk] at this
              clear hk HO HY
              go_wp2_with fail
              refine HC5.out.mono ?_
              rintro e w3 ⟨rfl, hb⟩
              dsimp only
              have HB4 := hideIt (below_via HB3.out hb)
              clear hb
              go_wp2
              go_ret
              exact ⟨by rw [rchk_not HBAD.out]; rfl, HB4.out⟩
            · rw [hk] at HC5
              go_wp2_with fail
              refine HC5.out.mono ?_
              rintro e w3 ⟨rfl, hb⟩
              dsimp only
              have HX4 := hideIt ((hb.block _ (Array.getElem?_eq_some_iff.1 HX3.out).1).trans HX3.out)
              have HN4 := hideIt ((hb.block _ (Array.getElem?_eq_some_iff.1 HN3.out).1).trans HN3.out)
              have HF4 := hideIt ((hb.block _ (Array.getElem?_eq_some_iff.1 HF3.out).1).trans HF3.out)
              have HB4 := hideIt (below_via HB3.out hb)
              clear hb HX3 HN3 HF3 HB3 HC5 y0 y1
              have y2 : w3.cell? ⟨K, 2, none⟩ = some (.int .i64 z) := by rw [cell_at HN4.out]; rfl
              have y3 : w3.cell? ⟨K, 3, none⟩ = some (.int .i64 u) := by rw [cell_at HN4.out]; rfl
              have HC6 := hideIt (HC4.out w3)
              clear HC4
              cases hn : namB (z, u)
              · rw [hn] at HC6
                have HBAD : Hid (¬ (T.held.length + T.wait.length ≤ 200 ∧ (∀ i, ok1 T.held i) ∧ ∀ i, ok3 T i)) := fun e => by
                  have := (HO.out e.2.2).1
                  simp [holB, hk, hn] at this
                clear hk hn HO HY
                go_wp2_with fail
                refine HC6.out.mono ?_
                rintro e w4 ⟨rfl, hb⟩
                dsimp only
                have HB5 := hideIt (below_via HB4.out hb)
                clear hb
                go_wp2
                go_ret
                exact ⟨by rw [rchk_not HBAD.out]; rfl, HB5.out⟩
              · rw [hn] at HC6
                have HG : Hid (holB ((x, y), (z, u)) = true) := by
                  show holB _ = _
                  simp [holB, hk, hn]
                clear hk hn
                go_wp2_with fail
                refine HC6.out.mono ?_
                rintro e w4 ⟨rfl, hb⟩
                dsimp only
                have HX5 := hideIt ((hb.block _ (Array.getElem?_eq_some_iff.1 HX4.out).1).trans HX4.out)
                have HN5 := hideIt ((hb.block _ (Array.getElem?_eq_some_iff.1 HN4.out).1).trans HN4.out)
                have HF5 := hideIt ((hb.block _ (Array.getElem?_eq_some_iff.1 HF4.out).1).trans HF4.out)
                have HB5 := hideIt (below_via HB4.out hb)
                clear hb HX4 HN4 HF4 HB4 HC6 y2 y3
                have y2 : w4.cell? ⟨K, 2, none⟩ = some (.int .i64 z) := by rw [cell_at HN5.out]; rfl
                have y3 : w4.cell? ⟨K, 3, none⟩ = some (.int .i64 u) := by rw [cell_at HN5.out]; rfl
                obtain ⟨f0, f1, -, -, -⟩ := two_at HF5.out
                cases hd
                · have HBAD : Hid (¬ (T.held.length + T.wait.length ≤ 200 ∧ (∀ i, ok1 T.held i) ∧ ∀ i, ok3 T i)) := fun e => by
                    have := (HO.out e.2.2).2.1
                    cases this
                  clear HO HY
                  go_wp2
                  go_ret
                  exact ⟨by rw [rchk_not HBAD.out]; rfl, HB5.out⟩
                · cases hq : ((fc, fq) == (z, u))
                  · have q1 : ∀ W, (binOp .eql 28 (.agg #[.int .i64 fc, .int .i64 fq]) (.agg #[.int .i64 z, .int .i64 u])).run Try.prog W = .ok (.bool false) W := fun W => by rw [eq28, hq]
                    by_cases h4 : 4 < all
                    · have h4I : (4 : Int) < (all : Int) := by omega
                      have HBAD : Hid (¬ (T.held.length + T.wait.length ≤ 200 ∧ (∀ i, ok1 T.held i) ∧ ∀ i, ok3 T i)) := fun e => by
                        have := (HO.out e.2.2).2.2.2.1
                        omega
                      clear HO HY hq h4
                      go_wp2
                      go_ret
                      exact ⟨by rw [rchk_not HBAD.out]; rfl, HB5.out⟩
                    · have h4I : ¬ (4 : Int) < (all : Int) := by omega
                      have HYY := hideIt (HY.out ⟨HG.out, rfl, by simpa using hq, by omega⟩)
                      clear hq HY h4
                      go_upto_region 22 with fail
                      clear y2 y3 f0 f1
                      go_loopw [11] (fun v wi => ∃ j : Nat, v = .int .i64 j ∧ j ≤ i ∧ Hid (Below w4.heap.size w4 wi ∧ ∀ j' (hj : j' < T.wait.length), j' < j → T.wait[j'] ≠ ((x, y), (z, u)))) (fun v _ => i - (intOf v).toNat)
                      case atStart => exact ⟨0, rfl, Nat.zero_le _, hideIt ⟨Below.refl _ _, fun j' _ h => absurd h (by omega)⟩⟩
                      case round =>
                        obtain ⟨j, rfl, hj, HJ⟩ := hrel
                        have hB6 := below_via HB5.out HJ.out.1
                        have hX6 := (HJ.out.1.block _ (Array.getElem?_eq_some_iff.1 HX5.out).1).trans HX5.out
                        have hN6 := (HJ.out.1.block _ (Array.getElem?_eq_some_iff.1 HN5.out).1).trans HN5.out
                        obtain ⟨z0, z1, -, -, zl⟩ := two_at hX6
                        by_cases hjl : j < i
                        · have hjI : (j : Int) < (i : Int) := by omega
                          have hj0 : (0 : Int) ≤ (j : Int) := by omega
                          have hjL : (j : Int) < (T.wait.length : Int) := by omega
                          have hjw : IntKind.i64.wrap ((j : Int) + 1) = ((j + 1 : Nat) : Int) := by rw [IntKind.wrap_i64]; omega
                          have hjn : j < T.wait.length := by omega
                          obtain ⟨b', off', e, -, p0, p1, p2, p3⟩ := HWk.out j hjn
                          simp only [Option.some.injEq, Addr.mk.injEq, and_true] at e
                          obtain ⟨rfl, rfl⟩ := e
                          have hblr : b < wr.heap.size := Nat.lt_of_lt_of_le hbl hB6.size
                          have d0 := (hB6.cell (p := ⟨b, off + j * 4, none⟩) hbl).trans p0
                          have d1 := (hB6.cell (p := ⟨b, off + j * 4 + 1, none⟩) hbl).trans p1
                          have d2 := (hB6.cell (p := ⟨b, off + j * 4 + 2, none⟩) hbl).trans p2
                          have d3 := (hB6.cell (p := ⟨b, off + j * 4 + 3, none⟩) hbl).trans p3
                          have y0 : wr.cell? ⟨K, 0, none⟩ = some (.int .i64 x) := by rw [cell_at hN6]; rfl
                          have y1 : wr.cell? ⟨K, 1, none⟩ = some (.int .i64 y) := by rw [cell_at hN6]; rfl
                          have y2 : wr.cell? ⟨K, 2, none⟩ = some (.int .i64 z) := by rw [cell_at hN6]; rfl
                          have y3 : wr.cell? ⟨K, 3, none⟩ = some (.int .i64 u) := by rw [cell_at hN6]; rfl
                          have HB6 := hideIt hB6
                          have HJ1 := hideIt HJ.out
                          obtain ⟨em, hem⟩ : ∃ em, em = T.wait[j] := ⟨_, rfl⟩
                          rw [← hem] at d0 d1 d2 d3
                          have HEM := hideIt hem
                          obtain ⟨⟨x', y'⟩, ⟨z', u'⟩⟩ := em
                          dsimp only at d0 d1 d2 d3
                          clear p0 p1 p2 p3 hB6 hX6 hN6 HJ hem
                          cases hq : (((x', y'), (z', u')) == ((x, y), (z, u)))
                          · have e1 : ∀ W, (binOp .eql 44 (.agg #[.int .i64 x', .int .i64 y', .int .i64 z', .int .i64 u']) (.agg #[.int .i64 x, .int .i64 y, .int .i64 z, .int .i64 u])).run Try.prog W = .ok (.bool false) W := fun W => by rw [eq44, hq]
                            have HNE : Hid (∀ j' (hj : j' < T.wait.length), j' < j + 1 → T.wait[j'] ≠ ((x, y), (z, u))) := fun j' hj' hlt' => by
                              rcases Nat.lt_or_ge j' j with h' | h'
                              · exact HJ1.out.2 j' hj' h'
                              · obtain rfl : j' = j := by omega
                                rw [← HEM.out]
                                exact beq_eq_false_iff_ne.1 hq
                            clear hq
                            go_wp2_with fail
                            go_region
                            go_wp2
                            go_roundw
                            case rel => exact ⟨j + 1, by go_num, by omega, hideIt ⟨below_via HJ1.out.1 (Below.refl _ _).drew, HNE.out⟩⟩
                            case measure => simp [intOf]; omega
                          · have e1 : ∀ W, (binOp .eql 44 (.agg #[.int .i64 x', .int .i64 y', .int .i64 z', .int .i64 u']) (.agg #[.int .i64 x, .int .i64 y, .int .i64 z, .int .i64 u])).run Try.prog W = .ok (.bool true) W := fun W => by rw [eq44, hq]
                            have HBAD : Hid (¬ (T.held.length + T.wait.length ≤ 200 ∧ (∀ i, ok1 T.held i) ∧ ∀ i, ok3 T i)) := fun e => by
                              have := (HO.out e.2.2).2.2.2.2 j hjl
                              rw [← HEM.out] at this
                              exact this (eq_of_beq hq)
                            clear hq HO HYY
                            go_wp2_with fail
                            go_region
                            go_wp2
                            go_ret
                            exact ⟨by rw [rchk_not HBAD.out]; rfl, HB6.out.drew⟩
                        · have hjI : ¬ (j : Int) < (i : Int) := by omega
                          have HF : Hid (∀ i', i' < i + 1 → ok3 T i') := fun i' hi' => by
                            rcases Nat.lt_or_ge i' i with h' | h'
                            · exact HI.out i' h'
                            · obtain rfl : i' = i := by omega
                              exact HYY.out (fun j' hj' hlt' => HJ.out.2 j' hj' (by omega))
                          have HB6 := hideIt hB6
                          have HX6 := hideIt hX6
                          clear HJ hB6 hX6 hN6 HO HYY
                          go_wp2
                          go_roundw
                          case rel => exact ⟨i + 1, by go_num, by omega, hideIt ⟨HB6.out, HX6.out, HF.out⟩⟩
                          case measure => simp [intOf]; omega
                  · have q1 : ∀ W, (binOp .eql 28 (.agg #[.int .i64 fc, .int .i64 fq]) (.agg #[.int .i64 z, .int .i64 u])).run Try.prog W = .ok (.bool true) W := fun W => by rw [eq28, hq]
                    have HBAD : Hid (¬ (T.held.length + T.wait.length ≤ 200 ∧ (∀ i, ok1 T.held i) ∧ ∀ i, ok3 T i)) := fun e => (HO.out e.2.2).2.2.1 (by simpa using hq)
                    clear HO HY hq
                    go_wp2
                    go_ret
                    exact ⟨by rw [rchk_not HBAD.out]; rfl, HB5.out⟩
          · have hltI : ¬ (i : Int) < (T.wait.length : Int) := by omega
            have H3 : Hid (∀ i, ok3 T i) := fun i' h => HR.out.2.2 i' (by omega) h
            have HB := hideIt HR.out.1
            have H2 := hideIt h200
            clear HR HW hB
            go_wp2
            go_ret
            exact ⟨by rw [rchk_yes H2.out H1.out H3.out]; rfl, HB.out⟩
  · have h200I : ¬ (T.held.length : Int) + (T.wait.length : Int) ≤ 200 := by omega
    have HBAD : Hid (¬ (T.held.length + T.wait.length ≤ 200 ∧ (∀ i, ok1 T.held i) ∧ ∀ i, ok3 T i)) := fun e => h200 e.1
    clear h200
    go_enter Try.func19, Try.ntmps19
    go_wp2
    go_ret
    exact ⟨by rw [rchk_not HBAD.out]; rfl, HB0.out⟩
end Go.Proofs.Ytgfpeknhabbkbaa
