/- Same, walked. -/
import Derived.Test.YtfcbjdfelahfkaaKit
namespace Go.Proofs.Ytfcbjdfelahfkaa
open Go.RowKit
set_option linter.all false
set_option maxHeartbeats 4000000 in
set_option maxRecDepth 100000 in
theorem same_is (v v' : Value) (l m : List PlaV) (w : World) (h : Plas w v l) (h' : Plas w v' m) : Calls Try.prog 10 #[v, v'] w fun e w' => e = .returned (.bool (l == m)) ∧ Below w.heap.size w w' := by
  obtain ⟨a, c, rfl, h8, hr⟩ := h.plas
  obtain ⟨a', c', rfl, h8', hr'⟩ := h'.plas
  have HH := hideIt hr
  have HM := hideIt hr'
  clear hr hr' h h'
  by_cases hl : l.length = m.length
  · have HL := hideIt hl
    have hlI : ((l.length : Int) != (m.length : Int)) = false := by rw [bne_eq_false_iff_eq]; omega
    have h9 : (m.length : Int) ≤ (l.length : Int) ∧ (l.length : Int) ≤ (m.length : Int) := by omega
    clear hl
    go_enter Try.func10, Try.ntmps10
    go_wp2
    go_loopw [5] (fun v wr => ∃ t : Nat, v = .int .i64 t ∧ t ≤ l.length ∧ Hid (Below w.heap.size w wr ∧ l.take t = m.take t)) (fun v _ => l.length - (intOf v).toNat)
    case atStart => exact ⟨0, rfl, Nat.zero_le _, hideIt ⟨Below.refl _ _, by simp⟩⟩
    case round =>
      obtain ⟨t, rfl, ht, HR⟩ := hrel
      by_cases hlt : t < l.length
      · have hltI : (t : Int) < (l.length : Int) := by omega
        have ht0 : (0 : Int) ≤ (t : Int) := by omega
        have hw : IntKind.i64.wrap ((t : Int) + 1) = ((t + 1 : Nat) : Int) := by rw [IntKind.wrap_i64]; omega
        have hltM : (t : Int) < (m.length : Int) := by omega
        have hltm : t < m.length := by omega
        have hB := HR.out.1
        obtain ⟨b, off, rfl, hbl, q0, q1, q2, q3⟩ := HH.out t hlt
        have hblr : b < wr.heap.size := Nat.lt_of_lt_of_le hbl hB.size
        have c0 := (hB.cell (p := ⟨b, off + t * 4, none⟩) hbl).trans q0
        have c1 := (hB.cell (p := ⟨b, off + t * 4 + 1, none⟩) hbl).trans q1
        have c2 := (hB.cell (p := ⟨b, off + t * 4 + 2, none⟩) hbl).trans q2
        have c3 := (hB.cell (p := ⟨b, off + t * 4 + 3, none⟩) hbl).trans q3
        clear q0 q1 q2 q3
        obtain ⟨b', off', rfl, hbl', q0, q1, q2, q3⟩ := HM.out t hltm
        have hblr' : b' < wr.heap.size := Nat.lt_of_lt_of_le hbl' hB.size
        have d0 := (hB.cell (p := ⟨b', off' + t * 4, none⟩) hbl').trans q0
        have d1 := (hB.cell (p := ⟨b', off' + t * 4 + 1, none⟩) hbl').trans q1
        have d2 := (hB.cell (p := ⟨b', off' + t * 4 + 2, none⟩) hbl').trans q2
        have d3 := (hB.cell (p := ⟨b', off' + t * 4 + 3, none⟩) hbl').trans q3
        clear q0 q1 q2 q3
        have HB := hideIt HR.out.1
        have HT : Hid (l[t] = m[t] → l.take (t + 1) = m.take (t + 1)) := fun e => by
          rw [List.take_succ_eq_append_getElem hlt, List.take_succ_eq_append_getElem hltm, HR.out.2, e]
        have HN : Hid (l[t] ≠ m[t] → (l == m) = false) := fun e => by
          rw [beq_eq_false_iff_ne]
          intro e2
          apply e
          subst e2
          rfl
        clear HR HH HM hB
        generalize l[t] = en at *
        generalize m[t] = em at *
        obtain ⟨⟨x, y⟩, ⟨z, u⟩⟩ := en
        obtain ⟨⟨x', y'⟩, ⟨z', u'⟩⟩ := em
        dsimp only at c0 c1 c2 c3 d0 d1 d2 d3
        cases hq : (((x, y), (z, u)) == ((x', y'), (z', u')))
        · have q1 : ∀ W, (binOp .neq 26 (.agg #[.int .i64 x, .int .i64 y, .int .i64 z, .int .i64 u]) (.agg #[.int .i64 x', .int .i64 y', .int .i64 z', .int .i64 u'])).run Try.prog W = .ok (.bool true) W := fun W => by rw [neq26, hq]; rfl
          have HF := hideIt (HN.out (beq_eq_false_iff_ne.1 hq))
          clear hq HN HT
          go_wp2_with fail
          go_quiet (fail)
          go_wp2
          go_ret
          exact ⟨by rw [HF.out]; rfl, below_drewN HB.out _⟩
        · have q1 : ∀ W, (binOp .neq 26 (.agg #[.int .i64 x, .int .i64 y, .int .i64 z, .int .i64 u]) (.agg #[.int .i64 x', .int .i64 y', .int .i64 z', .int .i64 u'])).run Try.prog W = .ok (.bool false) W := fun W => by rw [neq26, hq]; rfl
          have HF := hideIt (HT.out (eq_of_beq hq))
          clear hq HN HT
          go_wp2_with fail
          go_quiet (fail)
          go_wp2
          go_roundw
          case rel => exact ⟨t + 1, by go_num, by omega, hideIt ⟨below_drewN HB.out _, HF.out⟩⟩
          case measure => simp [intOf]; omega
      · have hltI : ¬ (t : Int) < (l.length : Int) := by omega
        have HF : Hid ((l == m) = true) := by
          show _ = _
          have := HR.out.2
          rw [List.take_of_length_le (by omega), List.take_of_length_le (by have := HL.out; omega)] at this
          simpa using this
        have HB := hideIt HR.out.1
        clear HR HH HM
        go_wp2
        go_ret
        exact ⟨by rw [HF.out]; rfl, HB.out⟩
  · have HF : Hid ((l == m) = false) := by
      show _ = _
      rw [beq_eq_false_iff_ne]
      intro e
      exact hl (by rw [e])
    have hlI : ((l.length : Int) != (m.length : Int)) = true := by rw [bne_iff_ne]; omega
    clear hl HH HM
    go_enter Try.func10, Try.ntmps10
    go_wp2
    go_ret
    exact ⟨by rw [HF.out]; rfl, Below.refl _ _⟩
end Go.Proofs.Ytfcbjdfelahfkaa
