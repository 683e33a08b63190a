/- Two lists of fills that are the same. -/
import Derived.Test.YtgnmghcdfihmgaaSml
namespace Go.Proofs.Ytgnmghcdfihmgaa
open Go.RowKit
set_option linter.all false
theorem neq68 (a b c d : Int) (w : World) : (binOp .neq 41 (.agg #[.int .i64 a, .int .i64 b, .int .i64 c, .int .i64 d]) (.agg #[.int .i64 a, .int .i64 b, .int .i64 c, .int .i64 d])).run Try.prog w = .ok (.bool false) w := by
  simp [go_sem]
set_option maxHeartbeats 4000000 in
set_option maxRecDepth 100000 in
theorem sameF_is (v v' : Value) (l : List FillV) (w : World) (h : Fils w v l) (h' : Fils w v' l) : Calls Try.prog 21 #[v, v'] w fun e w' => e = .returned (.bool true) ∧ Below w.heap.size w w' := by
  obtain ⟨a, c, rfl, h8, hr⟩ := h.fils
  obtain ⟨a', c', rfl, h8', hr'⟩ := h'.fils
  have HH := hideIt hr
  have HM := hideIt hr'
  clear hr hr' h h'
  go_enter Try.func21, Try.ntmps21
  go_wp2
  go_loopw [5] (fun v wr => ∃ t : Nat, v = .int .i64 t ∧ t ≤ l.length ∧ Hid (Below w.heap.size w wr)) (fun v _ => l.length - (intOf v).toNat)
  case atStart => exact ⟨0, rfl, Nat.zero_le _, hideIt (Below.refl _ _)⟩
  case round =>
    obtain ⟨t, rfl, ht, HR⟩ := hrel
    by_cases hlt : t < l.length
    · have hltI : (t : Int) < (l.length : Int) := by omega
      have ht0 : (0 : Int) ≤ (t : Int) := by omega
      have hw : IntKind.i64.wrap ((t : Int) + 1) = ((t + 1 : Nat) : Int) := by rw [IntKind.wrap_i64]; omega
      have hB := HR.out
      obtain ⟨b, off, rfl, hbl, q0, q1, q2, q3⟩ := HH.out t hlt
      have hblr : b < wr.heap.size := Nat.lt_of_lt_of_le hbl hB.size
      have c0 := (hB.cell (p := ⟨b, off + t * 4, none⟩) hbl).trans q0
      have c1 := (hB.cell (p := ⟨b, off + t * 4 + 1, none⟩) hbl).trans q1
      have c2 := (hB.cell (p := ⟨b, off + t * 4 + 2, none⟩) hbl).trans q2
      have c3 := (hB.cell (p := ⟨b, off + t * 4 + 3, none⟩) hbl).trans q3
      clear q0 q1 q2 q3
      obtain ⟨b', off', rfl, hbl', q0, q1, q2, q3⟩ := HM.out t hlt
      have hblr' : b' < wr.heap.size := Nat.lt_of_lt_of_le hbl' hB.size
      have d0 := (hB.cell (p := ⟨b', off' + t * 4, none⟩) hbl').trans q0
      have d1 := (hB.cell (p := ⟨b', off' + t * 4 + 1, none⟩) hbl').trans q1
      have d2 := (hB.cell (p := ⟨b', off' + t * 4 + 2, none⟩) hbl').trans q2
      have d3 := (hB.cell (p := ⟨b', off' + t * 4 + 3, none⟩) hbl').trans q3
      clear q0 q1 q2 q3 hB HH HM
      generalize l[t] = en at *
      obtain ⟨x, y, z, u⟩ := en
      dsimp only at c0 c1 c2 c3 d0 d1 d2 d3
      have q1 := fun W => neq68 x y z u W
      go_wp2_with fail
      go_quiet (fail)
      go_wp2
      go_roundw
      case rel => exact ⟨t + 1, by go_num, by omega, hideIt (below_drewN HR.out _)⟩
      case measure => simp [intOf]; omega
    · have hltI : ¬ (t : Int) < (l.length : Int) := by omega
      clear HH HM
      go_wp2
      go_ret
      exact ⟨rfl, HR.out⟩
end Go.Proofs.Ytgnmghcdfihmgaa
