/- Whether a table may be: the parts. -/
import Derived.Test.YtilinemcmgjiiaaDoorQue
namespace Go.Proofs.YtilinemcmgjiiaaDoor
open Go.RowKit
set_option linter.all false
def holB (h : HoldV) : Bool := keyB h.1 && namB h.2
theorem all_drop {α : Type} {l : List α} {p : α → Bool} {t : Nat} (h : t < l.length) : (l.drop t).all p = (p l[t] && (l.drop (t + 1)).all p) := by
  rw [List.drop_eq_getElem_cons h, List.all_cons]
theorem any_drop {α : Type} {l : List α} {p : α → Bool} {t : Nat} (h : t < l.length) : (l.drop t).any p = (p l[t] || (l.drop (t + 1)).any p) := by
  rw [List.drop_eq_getElem_cons h, List.any_cons]
set_option maxHeartbeats 4000000 in
set_option maxRecDepth 100000 in
theorem areHolds_is (v : Value) (l : List HoldV) (w : World) (h : Hols w v l) : Calls Tryd.prog 89 #[v] w fun e w' => e = .returned (.bool (l.all holB)) ∧ Below w.heap.size w w' := by
  obtain ⟨a, c, rfl, h8, hr⟩ := h.hols
  have HH := hideIt hr
  clear hr h
  have HK := hideIt (fun k n W => isKey_is k n W)
  have HN := hideIt (fun k n W => isName_is k n W)
  go_enter Tryd.func89, Tryd.ntmps89
  go_wp2
  go_loopw [7] (fun v wr => ∃ t : Nat, v = .int .i64 t ∧ t ≤ l.length ∧ Hid (Below w.heap.size w wr ∧ l.all holB = (l.drop t).all holB)) (fun v _ => l.length - (intOf v).toNat)
  case atStart => exact ⟨0, rfl, Nat.zero_le _, hideIt ⟨Below.refl _ _, by simp⟩⟩
  case round =>
    obtain ⟨t, rfl, ht, HR⟩ := hrel
    by_cases hlt : t < l.length
    · have hltI : (t : Int) < (l.length : Int) := by omega
      have ht0 : (0 : Int) ≤ (t : Int) := by omega
      have hw : IntKind.i64.wrap ((t : Int) + 1) = ((t + 1 : Nat) : Int) := by rw [IntKind.wrap_i64]; omega
      have hB := HR.out.1
      obtain ⟨b, off, rfl, hbl, q0, q1, q2, q3⟩ := HH.out t hlt
      have hblr : b < wr.heap.size := Nat.lt_of_lt_of_le hbl hB.size
      have c0 := (hB.cell (p := ⟨b, off + t * 4, none⟩) hbl).trans q0
      have c1 := (hB.cell (p := ⟨b, off + t * 4 + 1, none⟩) hbl).trans q1
      have c2 := (hB.cell (p := ⟨b, off + t * 4 + 2, none⟩) hbl).trans q2
      have c3 := (hB.cell (p := ⟨b, off + t * 4 + 3, none⟩) hbl).trans q3
      clear q0 q1 q2 q3
      have HD := hideIt (HR.out.2.trans (all_drop hlt))
      clear HR HH
      generalize l[t] = en at *
      obtain ⟨⟨x, y⟩, ⟨z, u⟩⟩ := en
      dsimp only at c0 c1 c2 c3
      have HB2 := hideIt (below_via hB (below1 wr (.cells #[.int .i64 x, .int .i64 y, .int .i64 z, .int .i64 u] 155)))
      have H4 := hideIt (heap_alloc_new wr (.cells #[.int .i64 x, .int .i64 y, .int .i64 z, .int .i64 u] 155))
      have HC := hideIt (HK.out x y (wr.alloc (.cells #[.int .i64 x, .int .i64 y, .int .i64 z, .int .i64 u] 155)))
      have HC2 := hideIt (fun W => HN.out z u W)
      clear hB HK HN
      cases hk : keyB (x, y)
      · rw [hk] at HC
        have HE : Hid (holB ((x, y), (z, u)) = false) := by
          show holB _ = _
          simp [holB, hk]
        clear hk
        go_wp2_with fail
        refine HC.out.mono ?_
        rintro e w1 ⟨rfl, hb⟩
        dsimp only
        have HB3 := hideIt (below_via HB2.out hb)
        clear hb
        go_wp2
        go_ret
        exact ⟨by rw [HD.out, HE.out]; rfl, HB3.out⟩
      · rw [hk] at HC
        cases hn : namB (z, u)
        · rw [hn] at HC2
          have HE : Hid (holB ((x, y), (z, u)) = false) := by
            show holB _ = _
            simp [holB, hk, hn]
          clear hk hn
          go_wp2_with fail
          refine HC.out.mono ?_
          rintro e w1 ⟨rfl, hb⟩
          dsimp only
          have HB3 := hideIt (below_via HB2.out hb)
          have H5 := hideIt ((hb.block _ (by simp)).trans H4.out)
          have d2 : w1.cell? ⟨wr.heap.size, 2, none⟩ = some (.int .i64 z) := by rw [cell_at H5.out]; rfl
          have d3 : w1.cell? ⟨wr.heap.size, 3, none⟩ = some (.int .i64 u) := by rw [cell_at H5.out]; rfl
          clear hb HC
          go_wp2_with fail
          refine (HC2.out _).mono ?_
          rintro e w2 ⟨rfl, hb⟩
          dsimp only
          have HB4 := hideIt (below_via HB3.out hb)
          clear hb
          go_wp2
          go_ret
          exact ⟨by rw [HD.out, HE.out]; rfl, HB4.out⟩
        · rw [hn] at HC2
          have HE : Hid (holB ((x, y), (z, u)) = true) := by
            show holB _ = _
            simp [holB, hk, hn]
          clear hk hn
          go_wp2_with fail
          refine HC.out.mono ?_
          rintro e w1 ⟨rfl, hb⟩
          dsimp only
          have HB3 := hideIt (below_via HB2.out hb)
          have H5 := hideIt ((hb.block _ (by simp)).trans H4.out)
          have d2 : w1.cell? ⟨wr.heap.size, 2, none⟩ = some (.int .i64 z) := by rw [cell_at H5.out]; rfl
          have d3 : w1.cell? ⟨wr.heap.size, 3, none⟩ = some (.int .i64 u) := by rw [cell_at H5.out]; rfl
          clear hb HC
          go_wp2_with fail
          refine (HC2.out _).mono ?_
          rintro e w2 ⟨rfl, hb⟩
          dsimp only
          have HB4 := hideIt (below_via HB3.out hb)
          clear hb
          go_wp2
          go_roundw
          case rel => exact ⟨t + 1, by go_num, by omega, hideIt ⟨HB4.out, by rw [HD.out, HE.out]; rfl⟩⟩
          case measure => simp [intOf]; omega
    · have hltI : ¬ (t : Int) < (l.length : Int) := by omega
      have HF : Hid (l.all holB = true) := by
        show _ = _
        rw [HR.out.2, List.drop_eq_nil_of_le (by omega)]
        rfl
      have HB := hideIt HR.out.1
      clear HR HH HK HN
      go_wp2
      go_ret
      exact ⟨by rw [HF.out]; rfl, HB.out⟩
/-- Is a key held twice? -/
def twB : List HoldV → List HoldV → Bool
  | _, [] => false
  | pre, h :: t => pre.any (fun a => a.1 == h.1) || twB (pre ++ [h]) t
theorem tw_at {l : List HoldV} {t : Nat} (h : t < l.length) : twB (l.take t) (l.drop t) = ((l.take t).any (fun a => a.1 == l[t].1) || twB (l.take (t + 1)) (l.drop (t + 1))) := by
  rw [List.drop_eq_getElem_cons h, twB, List.take_succ_eq_append_getElem h]
theorem B1.cells {w wx : World} {p q : Value} (h : wx.heap[w.heap.size]? = some (.cells #[p, q] 140 (0, 0))) : wx.cell? ⟨w.heap.size, 0, none⟩ = some p ∧ wx.cell? ⟨w.heap.size, 1, none⟩ = some q := ⟨by rw [cell_at h]; rfl, by rw [cell_at h]; rfl⟩
set_option maxHeartbeats 4000000 in
set_option maxRecDepth 100000 in
theorem twice_is (T : TabV) (h v : Value) (w : World) (hT : Tab w T h v) : Calls Tryd.prog 90 #[.agg #[h, v]] w fun e w' => e = .returned (.bool (twB [] T.held)) ∧ Below w.heap.size w w' := by
  obtain ⟨a, c, rfl, h8, hr⟩ := hT.held.hols
  have hcap := hT.held.cap
  have hm : maxLen = 9223372036854775807 := by decide
  rw [hm] at hcap
  obtain ⟨va, vc, rfl⟩ := hT.wait.slice
  have HH := hideIt hr
  clear hT hr
  generalize T.held = l at *
  generalize T.wait.length = m at *
  have HB0 := hideIt (below1 w (.cells #[.slice a l.length c, .slice va m vc] 140))
  have HX0 := hideIt (heap_alloc_new w (.cells #[.slice a l.length c, .slice va m vc] 140))
  go_enter Tryd.func90, Tryd.ntmps90
  go_wp2
  go_loopw [10] (fun v wr => ∃ t : Nat, v = .int .i64 t ∧ t ≤ l.length ∧ Hid (Below w.heap.size w wr ∧ wr.heap[w.heap.size]? = some (.cells #[.slice a l.length c, .slice va m vc] 140 (0, 0)) ∧ twB [] l = twB (l.take t) (l.drop t))) (fun v _ => l.length - (intOf v).toNat)
  case atStart => exact ⟨0, rfl, Nat.zero_le _, hideIt ⟨HB0.out, HX0.out, by simp⟩⟩
  case round =>
    clear HB0 HX0
    obtain ⟨t, rfl, ht, HR⟩ := hrel
    by_cases hlt : t < l.length
    · have hltI : (t : Int) < (l.length : Int) := by omega
      have ht0 : (0 : Int) ≤ (t : Int) := by omega
      have hw : IntKind.i64.wrap ((t : Int) + 1) = ((t + 1 : Nat) : Int) := by rw [IntKind.wrap_i64]; omega
      have hB := HR.out.1
      have x0 := (B1.cells HR.out.2.1).1
      have hsz : w.heap.size < wr.heap.size := (Array.getElem?_eq_some_iff.1 HR.out.2.1).1
      have htc : (t : Int) ≤ (c : Int) := by omega
      have HHk := HH
      obtain ⟨b, off, rfl, hbl, q0, q1, q2, q3⟩ := HH.out t hlt
      have hblr : b < wr.heap.size := Nat.lt_of_lt_of_le hbl hB.size
      have c0 := (hB.cell (p := ⟨b, off + t * 4, none⟩) hbl).trans q0
      have c1 := (hB.cell (p := ⟨b, off + t * 4 + 1, none⟩) hbl).trans q1
      have c2 := (hB.cell (p := ⟨b, off + t * 4 + 2, none⟩) hbl).trans q2
      have c3 := (hB.cell (p := ⟨b, off + t * 4 + 3, none⟩) hbl).trans q3
      clear q0 q1 q2 q3
      have HD := hideIt (HR.out.2.2.trans (tw_at hlt))
      have HX := hideIt ((below1 wr (.cells (holE l[t]).toArray 155)).block _ hsz |>.trans HR.out.2.1)
      have HB1 := hideIt (below_via hB (below1 wr (.cells (holE l[t]).toArray 155)))
      have HN := hideIt (heap_alloc_new wr (.cells (holE l[t]).toArray 155))
      unfold holE at HX HB1 HN
      generalize hen : l[t] = en at *
      obtain ⟨⟨x, y⟩, ⟨z, u⟩⟩ := en
      dsimp only at c0 c1 c2 c3 HX HB1 HN
      clear HR hen HH
      go_wp2
      generalize wr.alloc (.cells #[.int .i64 x, .int .i64 y, .int .i64 z, .int .i64 u] 155) = W1 at *
      generalize wr.heap.size = K at *
      go_loopw [20] (fun v wi => ∃ j : Nat, v = .int .i64 j ∧ j ≤ t ∧ Hid (Below W1.heap.size W1 wi ∧ (l.take t).any (fun a => a.1 == (x, y)) = ((l.take t).drop j).any (fun a => a.1 == (x, y)))) (fun v _ => t - (intOf v).toNat)
      case atStart => exact ⟨0, rfl, Nat.zero_le _, hideIt ⟨Below.refl _ _, by simp⟩⟩
      case round =>
        obtain ⟨j, rfl, hj, HJ⟩ := hrel
        have HB2 := hideIt (below_via HB1.out HJ.out.1)
        have HX2 := hideIt ((HJ.out.1.block _ (Array.getElem?_eq_some_iff.1 HX.out).1).trans HX.out)
        have HN2 := hideIt ((HJ.out.1.block _ (Array.getElem?_eq_some_iff.1 HN.out).1).trans HN.out)
        by_cases hjl : j < t
        · have hjI : (j : Int) < (t : Int) := by omega
          have hj0 : (0 : Int) ≤ (j : Int) := by omega
          have hwj : IntKind.i64.wrap ((j : Int) + 1) = ((j + 1 : Nat) : Int) := by rw [IntKind.wrap_i64]; omega
          obtain ⟨b', off', e, -, p0, p1, p2, p3⟩ := HHk.out j (by omega)
          simp only [Option.some.injEq, Addr.mk.injEq, and_true] at e
          obtain ⟨rfl, rfl⟩ := e
          have hB2 := HB2.out
          have hblr : b < wr.heap.size := Nat.lt_of_lt_of_le hbl hB2.size
          have d0 := (hB2.cell (p := ⟨b, off + j * 4, none⟩) hbl).trans p0
          have d1 := (hB2.cell (p := ⟨b, off + j * 4 + 1, none⟩) hbl).trans p1
          have d2 := (hB2.cell (p := ⟨b, off + j * 4 + 2, none⟩) hbl).trans p2
          have d3 := (hB2.cell (p := ⟨b, off + j * 4 + 3, none⟩) hbl).trans p3
          have hkl : K < wr.heap.size := (Array.getElem?_eq_some_iff.1 HN2.out).1
          have k0 : wr.cell? ⟨K, 0, none⟩ = some (.int .i64 x) := by rw [cell_at HN2.out]; rfl
          have k1 : wr.cell? ⟨K, 1, none⟩ = some (.int .i64 y) := by rw [cell_at HN2.out]; rfl
          have hjl2 : j < (l.take t).length := by rw [List.length_take]; omega
          have HA := hideIt (HJ.out.2.trans (any_drop hjl2))
          have hg : (l.take t)[j] = l[j]'(by omega) := List.getElem_take
          rw [hg] at HA
          have HB5 := hideIt HJ.out.1
          clear p0 p1 p2 p3 hB2 HJ HHk c0 c1 c2 c3 x0 hg hjl2 hB
          generalize l[j]'(by omega) = em at *
          obtain ⟨⟨x', y'⟩, ⟨z', u'⟩⟩ := em
          dsimp only at d0 d1 d2 d3 HA
          cases hq : ((x', y') == (x, y))
          · have q1 : ∀ W, (binOp .eql 37 (.agg #[.int .i64 x', .int .i64 y']) (.agg #[.int .i64 x, .int .i64 y])).run Tryd.prog W = .ok (.bool false) W := fun W => by rw [eq26, hq]
            rw [hq, Bool.false_or] at HA
            clear hq
            go_wp2
            go_roundw
            case rel => exact ⟨j + 1, by go_num, by omega, hideIt ⟨below_via HB5.out (below1 _ _), HA.out⟩⟩
            case measure => simp [intOf]; omega
          · have q1 : ∀ W, (binOp .eql 37 (.agg #[.int .i64 x', .int .i64 y']) (.agg #[.int .i64 x, .int .i64 y])).run Tryd.prog W = .ok (.bool true) W := fun W => by rw [eq26, hq]
            rw [hq, Bool.true_or] at HA
            have HF := hideIt HD.out
            rw [HA.out, Bool.true_or] at HF
            clear hq
            go_wp2
            go_ret
            exact ⟨by rw [HF.out]; rfl, below_via HB2.out (below1 _ _)⟩
        · have hjI : ¬ (j : Int) < (t : Int) := by omega
          have HA : Hid ((l.take t).any (fun a => a.1 == (x, y)) = false) := by
            show _ = _
            rw [HJ.out.2, List.drop_eq_nil_of_le (by rw [List.length_take]; omega)]
            rfl
          have HF := hideIt HD.out
          rw [HA.out, Bool.false_or] at HF
          clear HJ HHk c0 c1 c2 c3 x0 hB
          go_wp2
          go_roundw
          case rel => exact ⟨t + 1, by go_num, by omega, hideIt ⟨HB2.out, HX2.out, HF.out⟩⟩
          case measure => simp [intOf]; omega
    · have hltI : ¬ (t : Int) < (l.length : Int) := by omega
      have HF : Hid (twB [] l = false) := by
        show _ = _
        rw [HR.out.2.2, List.drop_eq_nil_of_le (by omega)]
        rfl
      have HB := hideIt HR.out.1
      clear HR HH
      go_wp2
      go_ret
      exact ⟨by rw [HF.out]; rfl, HB.out⟩
end Go.Proofs.YtilinemcmgjiiaaDoor
