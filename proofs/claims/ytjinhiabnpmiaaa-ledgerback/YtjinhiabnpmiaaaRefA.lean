/- The document's own: amounts, accounts, balances; two that are the same; a copy. -/
import Derived.Test.YtjinhiabnpmiaaaSmall
namespace Go.Proofs.Ytjinhiabnpmiaaa
open Go.RowKit
theorem bN {B : Nat} {a w : World} (h : Below B a w) (n : Nat) : Below B a (w.drewN n) := h.trans ⟨rfl, rfl, rfl, Nat.le_refl _, fun _ _ => rfl⟩
set_option maxHeartbeats 8000000 in
set_option maxRecDepth 100000 in
theorem rAmounts_is (g : Value) (l : List AmtV) (w : World) (h : AGot w g l) : Calls Try.prog 25 #[g] w fun e w' => e = .returned (.bool (amtsB l (-1))) ∧ Below w.heap.size w w' := by
  obtain ⟨a, c, rfl, h8, hr⟩ := h.open
  have HH := hideIt hr
  clear hr h
  go_enter Try.func25, Try.ntmps25
  go_wp2
  go_loopw [3] (fun v wr => ∃ (t : Nat) (y : Int), v = .int .i64 t ∧ t ≤ l.length ∧ Hid ((t = 0 → y = -1) ∧ (∀ q : Nat, q + 1 = t → ∃ hq : q < l.length, y = (l[q]).k) ∧ amtsB l (-1) = amtsB (l.drop t) y ∧ Below w.heap.size w wr)) (fun v _ => l.length - (intOf v).toNat)
  case atStart => exact ⟨0, -1, rfl, Nat.zero_le _, hideIt ⟨fun _ => rfl, fun q hq => by omega, rfl, Below.refl _ _⟩⟩
  case round =>
    obtain ⟨t, y, rfl, ht, HR⟩ := hrel
    by_cases hlt : t < l.length
    · have hltI : (t : Int) < (l.length : Int) := by omega
      have ht0 : (0 : Int) ≤ (t : Int) := by omega
      obtain ⟨b, off, rfl, hbl, q0, q1⟩ := HH.out t hlt
      have hB := HR.out.2.2.2
      have hBS := hB.size
      have c0 := (hB.cell (p := ⟨b, off + t * 2, none⟩) hbl).trans q0
      have c1 := (hB.cell (p := ⟨b, off + t * 2 + 1, none⟩) hbl).trans q1
      have HRD := hideIt (amtsB_drop l t y hlt)
      have HNX : Hid (∃ hq : t < l.length, (l[t]).k = (l[t]).k) := hideIt ⟨hlt, rfl⟩
      have HKT : Hid (∀ q : Nat, q + 1 = t + 1 → ∃ hq : q < l.length, (l[t]).k = (l[q]).k) := hideIt (fun q hq => by
        obtain rfl : q = t := by omega
        exact ⟨hlt, rfl⟩)
      generalize hen : l[t] = en at *
      obtain ⟨ek, ex⟩ := en
      simp only at c0 c1 HRD HKT
      clear hen HNX
      have HBW := hideIt hB
      clear q0 q1 hB
      by_cases h1 : ek < 0
      · have hv : Hid (amtsB l (-1) = false) := by
          show _ = false
          rw [HR.out.2.2.1, HRD.out, show wiB ek 0 3 = false by simp [wiB]; omega]
          simp
        clear HRD HR
        go_upto_region 4 with fail
        go_quiet (fail)
        go_wp2
        go_ret
        exact ⟨by rw [hv.out]; rfl, bN HBW.out _⟩
      · have h1I : 0 ≤ ek := by omega
        by_cases h2 : 3 < ek
        · have hv : Hid (amtsB l (-1) = false) := by
            show _ = false
            rw [HR.out.2.2.1, HRD.out, show wiB ek 0 3 = false by simp [wiB]; omega]
            simp
          clear HRD HR
          go_upto_region 4 with fail
          go_quiet (fail)
          go_wp2
          go_ret
          exact ⟨by rw [hv.out]; rfl, bN HBW.out _⟩
        · have h2I : ek ≤ 3 := by omega
          by_cases h3 : ex < 1
          · have hv : Hid (amtsB l (-1) = false) := by
              show _ = false
              rw [HR.out.2.2.1, HRD.out, show wiB ex 1 9007199254740992 = false by simp [wiB]; omega]
              simp
            clear HRD HR
            go_upto_region 4 with fail
            go_quiet (fail)
            go_wp2
            go_ret
            exact ⟨by rw [hv.out]; rfl, bN HBW.out _⟩
          · have h3I : 1 ≤ ex := by omega
            by_cases h4 : 9007199254740992 < ex
            · have hv : Hid (amtsB l (-1) = false) := by
                show _ = false
                rw [HR.out.2.2.1, HRD.out, show wiB ex 1 9007199254740992 = false by simp [wiB]; omega]
                simp
              clear HRD HR
              go_upto_region 4 with fail
              go_quiet (fail)
              go_wp2
              go_ret
              exact ⟨by rw [hv.out]; rfl, bN HBW.out _⟩
            · have h4I : ex ≤ 9007199254740992 := by omega
              have HV : Hid (∀ (_ : y < ek), amtsB l (-1) = amtsB (l.drop (t + 1)) ek) := fun hy => by
                rw [HR.out.2.2.1, HRD.out, show wiB ex 1 9007199254740992 = true by simp [wiB]; omega, show wiB ek 0 3 = true by simp [wiB]; omega]
                simp [hy]
              have HVN : Hid (¬ y < ek → amtsB l (-1) = false) := fun hy => by
                rw [HR.out.2.2.1, HRD.out, decide_eq_false hy]
                simp
              by_cases h5 : t = 0
              · have hy := HR.out.1 h5
                have HV2 := hideIt (HV.out (by omega))
                have h5I : decide ((0 : Int) < (t : Int)) = false := decide_eq_false (by omega)
                have h5J : decide (0 < t) = false := decide_eq_false (by omega)
                clear HRD HR HV HVN hy h5
                go_upto_region 4 with fail
                go_quiet (fail)
                go_wp2
                go_roundw
                case rel => exact ⟨t + 1, ek, by go_num, by omega, hideIt ⟨fun e => by omega, HKT.out, HV2.out, bN HBW.out _⟩⟩
                case measure => simp [intOf]; omega
              · have h5I : decide ((0 : Int) < (t : Int)) = true := decide_eq_true (by omega)
                have h5J : decide (0 < t) = true := decide_eq_true (by omega)
                obtain ⟨q, hq⟩ : ∃ q : Nat, q + 1 = t := ⟨t - 1, by omega⟩
                obtain ⟨hql, hqk⟩ := HR.out.2.1 q hq
                obtain ⟨b', off', hbo, hbl', p0, p1⟩ := HH.out q hql
                simp only [Option.some.injEq, Addr.mk.injEq, and_true] at hbo
                obtain ⟨rfl, rfl⟩ := hbo
                rw [← hqk] at p0
                have d0 := (HBW.out.cell (p := ⟨b, off + q * 2, none⟩) hbl).trans p0
                have hq1 : (t : Int) - 1 = (q : Int) := by omega
                have hq2 : (0 : Int) ≤ (q : Int) := by omega
                have hq3 : (q : Int) < (l.length : Int) := by omega
                clear HRD HR p0 p1 hqk hbl' hq
                by_cases h6 : y < ek
                · have h6I : ¬ ek ≤ y := by omega
                  have HV2 := hideIt (HV.out h6)
                  clear HV HVN h6
                  go_upto_region 4 with fail
                  go_quiet (fail)
                  go_wp2
                  go_roundw
                  case rel => exact ⟨t + 1, ek, by go_num, by omega, hideIt ⟨fun e => by omega, HKT.out, HV2.out, bN HBW.out _⟩⟩
                  case measure => simp [intOf]; omega
                · have h6I : ek ≤ y := by omega
                  have hv := hideIt (HVN.out h6)
                  clear HV HVN h6
                  go_upto_region 4 with fail
                  go_quiet (fail)
                  go_wp2
                  go_ret
                  exact ⟨by rw [hv.out]; rfl, bN HBW.out _⟩
    · have hltI : ¬ (t : Int) < (l.length : Int) := by omega
      go_wp2
      go_ret
      have := HR.out.2.2.1
      rw [List.drop_of_length_le (by omega)] at this
      exact ⟨by rw [this]; rfl, HR.out.2.2.2⟩
end Go.Proofs.Ytjinhiabnpmiaaa
