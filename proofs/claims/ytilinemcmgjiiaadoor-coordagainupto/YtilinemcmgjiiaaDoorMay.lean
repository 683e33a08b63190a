/- Whether those that wait may do so; whether a table may be. -/
import Derived.Test.YtilinemcmgjiiaaDoorChk
namespace Go.Proofs.YtilinemcmgjiiaaDoor
open Go.RowKit
set_option linter.all false
def mwB (T : TabV) (w : HoldV) : Bool := !((hdT T.held w.1 == zT) || ((hdT T.held w.1 == w.2) || (decide (4 < (qL T.wait w.1).length) || decide (1 < (qL T.wait w.1).count w.2))))
set_option maxHeartbeats 8000000 in
set_option maxRecDepth 100000 in
theorem mayWait_is (T : TabV) (h v : Value) (w : World) (hT : Tab w T h v) : Calls Tryd.prog 91 #[.agg #[h, v]] w fun e w' => e = .returned (.bool (T.wait.all (mwB T))) ∧ Below w.heap.size w w' := by
  have HD := hideIt (fun k n W (hW : Below w.heap.size w W) => holder_is T h v k n W (hT.keep hW))
  have HQ := hideIt (fun k n c q W (hW : Below w.heap.size w W) => queue_is T h v k n c q W (hT.keep hW))
  have HZ := hideIt (fun a b W => isNobody_is a b W)
  obtain ⟨ha, hc, rfl⟩ := hT.held.slice
  obtain ⟨a, c, rfl, h8, hr⟩ := hT.wait.hols
  have HH := hideIt hr
  clear hT hr
  have HB0 := hideIt (below1 w (.cells #[.slice ha T.held.length hc, .slice a T.wait.length c] 140))
  have HX0 := hideIt (heap_alloc_new w (.cells #[.slice ha T.held.length hc, .slice a T.wait.length c] 140))
  generalize T.held.length = m at *
  generalize hl : T.wait = l at *
  go_enter Tryd.func91, Tryd.ntmps91
  go_wp2
  go_loopw [11] (fun v wr => ∃ t : Nat, v = .int .i64 t ∧ t ≤ l.length ∧ Hid (Below w.heap.size w wr ∧ wr.heap[w.heap.size]? = some (.cells #[.slice ha m hc, .slice a l.length c] 140 (0, 0)) ∧ l.all (mwB T) = (l.drop t).all (mwB T))) (fun v _ => l.length - (intOf v).toNat)
  case atStart => exact ⟨0, rfl, Nat.zero_le _, hideIt ⟨HB0.out, HX0.out, by simp⟩⟩
  case round =>
    clear HB0 HX0
    obtain ⟨t, rfl, ht, HR⟩ := hrel
    by_cases hlt : t < l.length
    · have hltI : (t : Int) < (l.length : Int) := by omega
      have ht0 : (0 : Int) ≤ (t : Int) := by omega
      have hw : IntKind.i64.wrap ((t : Int) + 1) = ((t + 1 : Nat) : Int) := by rw [IntKind.wrap_i64]; omega
      have hB := HR.out.1
      have x0 := (B1.cells HR.out.2.1).1
      have x1 := (B1.cells HR.out.2.1).2
      have hsz : w.heap.size < wr.heap.size := (Array.getElem?_eq_some_iff.1 HR.out.2.1).1
      obtain ⟨b, off, rfl, hbl, q0, q1, q2, q3⟩ := HH.out t hlt
      have hblr : b < wr.heap.size := Nat.lt_of_lt_of_le hbl hB.size
      have c0 := (hB.cell (p := ⟨b, off + t * 4, none⟩) hbl).trans q0
      have c1 := (hB.cell (p := ⟨b, off + t * 4 + 1, none⟩) hbl).trans q1
      have c2 := (hB.cell (p := ⟨b, off + t * 4 + 2, none⟩) hbl).trans q2
      have c3 := (hB.cell (p := ⟨b, off + t * 4 + 3, none⟩) hbl).trans q3
      clear q0 q1 q2 q3
      have HA := hideIt (HR.out.2.2.trans (all_drop hlt))
      have HX := hideIt ((below1 wr (.cells (holE l[t]).toArray 155)).block _ hsz |>.trans HR.out.2.1)
      have HB1 := hideIt (below_via hB (below1 wr (.cells (holE l[t]).toArray 155)))
      have HN := hideIt (heap_alloc_new wr (.cells (holE l[t]).toArray 155))
      unfold holE at HX HB1 HN
      generalize hen : l[t] = en at *
      obtain ⟨⟨x, y⟩, ⟨z, u⟩⟩ := en
      dsimp only at c0 c1 c2 c3 HX HB1 HN
      have HM : Hid (mwB T ((x, y), (z, u)) = !((hdT T.held (x, y) == zT) || ((hdT T.held (x, y) == (z, u)) || (decide (4 < (qL l (x, y)).length) || decide (1 < (qL l (x, y)).count (z, u)))))) := by
        show mwB T _ = _
        unfold mwB
        rw [hl]
      clear HR hen HH hB
      have HC := hideIt (HD.out x y (wr.alloc (.cells #[.int .i64 x, .int .i64 y, .int .i64 z, .int .i64 u] 155)) HB1.out)
      have HC2 := hideIt (fun W hW => HQ.out x y z u W hW)
      generalize hdT T.held (x, y) = f at *
      obtain ⟨fc, fq⟩ := f
      have HC3 := hideIt (fun W => HZ.out fc fq W)
      clear HD HQ HZ hl
      have l8 : (qL l (x, y)).length ≤ l.length := qL_len _ _
      have k8 : (qL l (x, y)).count (z, u) ≤ (qL l (x, y)).length := List.count_le_length
      generalize (qL l (x, y)).count (z, u) = own at *
      generalize (qL l (x, y)).length = all at *
      go_wp2_with fail
      generalize wr.alloc (.cells #[.int .i64 x, .int .i64 y, .int .i64 z, .int .i64 u] 155) = W1 at *
      generalize wr.heap.size = K at *
      refine HC.out.mono ?_
      rintro e w1 ⟨rfl, hb⟩
      dsimp only
      have HX1 := hideIt (((hb.block _ (Array.getElem?_eq_some_iff.1 HX.out).1).trans HX.out))
      have HN1 := hideIt (((hb.block _ (Array.getElem?_eq_some_iff.1 HN.out).1).trans HN.out))
      have HB2 := hideIt (below_via HB1.out hb)
      have HX2 := hideIt (((below1 w1 (.cells #[.int .i64 fc, .int .i64 fq] 35)).block _ (Array.getElem?_eq_some_iff.1 HX1.out).1).trans HX1.out)
      have HN2 := hideIt (((below1 w1 (.cells #[.int .i64 fc, .int .i64 fq] 35)).block _ (Array.getElem?_eq_some_iff.1 HN1.out).1).trans HN1.out)
      have HB3 := hideIt (below_via HB2.out (below1 w1 (.cells #[.int .i64 fc, .int .i64 fq] 35)))
      have HF3 := hideIt (heap_alloc_new w1 (.cells #[.int .i64 fc, .int .i64 fq] 35))
      clear hb HX HN HB1 HC x0 x1 c0 c1 c2 c3 HX1 HN1 HB2
      go_upto_region 5 with fail
      generalize w1.alloc (.cells #[.int .i64 fc, .int .i64 fq] 35) = W2 at *
      generalize w1.heap.size = K5 at *
      have x0 := (B1.cells HX2.out).1
      have x1 := (B1.cells HX2.out).2
      have y0 : W2.cell? ⟨K, 0, none⟩ = some (.int .i64 x) := by rw [cell_at HN2.out]; rfl
      have y1 : W2.cell? ⟨K, 1, none⟩ = some (.int .i64 y) := by rw [cell_at HN2.out]; rfl
      have y2 : W2.cell? ⟨K, 2, none⟩ = some (.int .i64 z) := by rw [cell_at HN2.out]; rfl
      have y3 : W2.cell? ⟨K, 3, none⟩ = some (.int .i64 u) := by rw [cell_at HN2.out]; rfl
      go_wp2_with fail
      refine (HC2.out _ HB3.out).mono ?_
      rintro e w2 ⟨rfl, hb⟩
      dsimp only
      have HX4 := hideIt ((hb.block _ (Array.getElem?_eq_some_iff.1 HX2.out).1).trans HX2.out)
      have HN4 := hideIt ((hb.block _ (Array.getElem?_eq_some_iff.1 HN2.out).1).trans HN2.out)
      have HF4 := hideIt ((hb.block _ (Array.getElem?_eq_some_iff.1 HF3.out).1).trans HF3.out)
      have HB4 := hideIt (below_via HB3.out hb)
      clear hb HX2 HN2 HF3 HB3 HC2 x0 x1 y0 y1 y2 y3
      go_upto_region 6 with fail
      have f0 : w2.cell? ⟨K5, 0, none⟩ = some (.int .i64 fc) := by rw [cell_at HF4.out]; rfl
      have f1 : w2.cell? ⟨K5, 1, none⟩ = some (.int .i64 fq) := by rw [cell_at HF4.out]; rfl
      have HC4 := hideIt (HC3.out w2)
      clear HC3
      cases hz : ((fc, fq) == zT)
      · rw [hz] at HC4 HM
        rw [Bool.false_or] at HM
        go_wp2_with fail
        refine HC4.out.mono ?_
        rintro e w3 ⟨rfl, hb⟩
        dsimp only
        have HX5 := hideIt ((hb.block _ (Array.getElem?_eq_some_iff.1 HX4.out).1).trans HX4.out)
        have HN5 := hideIt ((hb.block _ (Array.getElem?_eq_some_iff.1 HN4.out).1).trans HN4.out)
        have HF5 := hideIt ((hb.block _ (Array.getElem?_eq_some_iff.1 HF4.out).1).trans HF4.out)
        have HB5 := hideIt (below_via HB4.out hb)
        clear hb HX4 HN4 HF4 HB4 f0 f1 hz HC4
        have f0 : w3.cell? ⟨K5, 0, none⟩ = some (.int .i64 fc) := by rw [cell_at HF5.out]; rfl
        have f1 : w3.cell? ⟨K5, 1, none⟩ = some (.int .i64 fq) := by rw [cell_at HF5.out]; rfl
        have y2 : w3.cell? ⟨K, 2, none⟩ = some (.int .i64 z) := by rw [cell_at HN5.out]; rfl
        have y3 : w3.cell? ⟨K, 3, none⟩ = some (.int .i64 u) := by rw [cell_at HN5.out]; rfl
        cases hq : ((fc, fq) == (z, u))
        · have q1 : ∀ W, (binOp .eql 35 (.agg #[.int .i64 fc, .int .i64 fq]) (.agg #[.int .i64 z, .int .i64 u])).run Tryd.prog W = .ok (.bool false) W := fun W => by rw [eq28, hq]
          rw [hq, Bool.false_or] at HM
          clear hq
          by_cases h4 : 4 < all
          · have h4I : (4 : Int) < (all : Int) := by omega
            rw [decide_eq_true h4, Bool.true_or, Bool.not_true] at HM
            clear h4
            go_wp2
            go_ret
            exact ⟨by rw [HA.out, HM.out]; rfl, HB5.out⟩
          · have h4I : ¬ (4 : Int) < (all : Int) := by omega
            rw [decide_eq_false h4, Bool.false_or] at HM
            by_cases h1 : 1 < own
            · have h1I : (1 : Int) < (own : Int) := by omega
              rw [decide_eq_true h1, Bool.not_true] at HM
              clear h1 h4
              go_wp2
              go_ret
              exact ⟨by rw [HA.out, HM.out]; rfl, HB5.out⟩
            · have h1I : ¬ (1 : Int) < (own : Int) := by omega
              rw [decide_eq_false h1, Bool.not_false] at HM
              rw [HM.out, Bool.true_and] at HA
              clear h1 h4
              go_wp2
              go_roundw
              case rel => exact ⟨t + 1, by go_num, by omega, hideIt ⟨HB5.out, HX5.out, HA.out⟩⟩
              case measure => simp [intOf]; omega
        · have q1 : ∀ W, (binOp .eql 35 (.agg #[.int .i64 fc, .int .i64 fq]) (.agg #[.int .i64 z, .int .i64 u])).run Tryd.prog W = .ok (.bool true) W := fun W => by rw [eq28, hq]
          rw [hq, Bool.true_or, Bool.not_true] at HM
          clear hq
          go_wp2
          go_ret
          exact ⟨by rw [HA.out, HM.out]; rfl, HB5.out⟩
      · rw [hz] at HC4 HM
        rw [Bool.true_or, Bool.not_true] at HM
        clear hz
        go_wp2_with fail
        refine HC4.out.mono ?_
        rintro e w3 ⟨rfl, hb⟩
        dsimp only
        have HB5 := hideIt (below_via HB4.out hb)
        clear hb
        go_wp2
        go_ret
        exact ⟨by rw [HA.out, HM.out]; rfl, HB5.out⟩
    · have hltI : ¬ (t : Int) < (l.length : Int) := by omega
      have HF : Hid (l.all (mwB T) = true) := by
        show _ = _
        rw [HR.out.2.2, List.drop_eq_nil_of_le (by omega)]
        rfl
      have HB := hideIt HR.out.1
      clear HR HH HD HQ HZ hl
      go_wp2
      go_ret
      exact ⟨by rw [HF.out]; rfl, HB.out⟩
end Go.Proofs.YtilinemcmgjiiaaDoor
