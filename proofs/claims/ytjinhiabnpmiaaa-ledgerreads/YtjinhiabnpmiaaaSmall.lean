/- The small questions: bounds, amounts, accounts, balances, of the program and of the document. -/
import Derived.Test.YtjinhiabnpmiaaaPlain
namespace Go.Proofs.Ytjinhiabnpmiaaa
open Go.RowKit
set_option maxHeartbeats 1000000 in
theorem within_is (x lo hi : Int) (w : World) : Calls Try.prog 24 #[.int .i64 x, .int .i64 lo, .int .i64 hi] w fun e w' => e = .returned (.bool (wiB x lo hi)) ∧ w' = w := by
  unfold wiB
  by_cases h : lo ≤ x
  · go_enter Try.func24, Try.ntmps24
    go_wp2
    go_ret
    exact ⟨by simp [h], rfl⟩
  · go_enter Try.func24, Try.ntmps24
    go_wp2
    go_ret
    exact ⟨by rw [decide_eq_false (by omega)]; rfl, rfl⟩
set_option maxHeartbeats 1000000 in
theorem isAsset_is (x : Int) (w : World) : Calls Try.prog 31 #[.int .i64 x] w fun e w' => e = .returned (.bool (wiB x 0 3)) ∧ w' = w := by
  have N1 := hideIt (fun W => within_is x 0 3 W)
  go_enter Try.func31, Try.ntmps31
  go_wp2_with fail
  refine (N1.out _).mono ?_
  rintro e w1 ⟨rfl, rfl⟩
  dsimp only
  go_wp2
  go_ret
  exact ⟨rfl, rfl⟩
set_option maxHeartbeats 1000000 in
theorem isBalance_is (x : Int) (w : World) : Calls Try.prog 32 #[.int .i64 x] w fun e w' => e = .returned (.bool (wiB x 1 9007199254740992)) ∧ w' = w := by
  have N1 := hideIt (fun W => within_is x 1 9007199254740992 W)
  go_enter Try.func32, Try.ntmps32
  go_wp2_with fail
  refine (N1.out _).mono ?_
  rintro e w1 ⟨rfl, rfl⟩
  dsimp only
  go_wp2
  go_ret
  exact ⟨rfl, rfl⟩
set_option maxHeartbeats 4000000 in
set_option maxRecDepth 100000 in
theorem areAmounts_is (g : Value) (l : List AmtV) (w : World) (h : AGot w g l) : Calls Try.prog 23 #[g] w fun e w' => e = .returned (.bool (amtsB l (-1))) ∧ Below w.heap.size w w' := by
  obtain ⟨a, c, rfl, h8, hr⟩ := h.open
  have HH := hideIt hr
  clear hr h
  go_enter Try.func23, Try.ntmps23
  go_wp2
  go_loopw [3, 8] (fun u v wr => ∃ (t : Nat) (y : Int), u = .int .i64 y ∧ v = .int .i64 t ∧ t ≤ l.length ∧ Hid (amtsB l (-1) = amtsB (l.drop t) y ∧ Below w.heap.size w wr)) (fun _ v _ => l.length - (intOf v).toNat)
  case atStart => exact ⟨0, -1, rfl, rfl, Nat.zero_le _, hideIt ⟨rfl, Below.refl _ _⟩⟩
  case round =>
    obtain ⟨t, y, rfl, rfl, ht, HR⟩ := hrel
    by_cases hlt : t < l.length
    · have hltI : (t : Int) < (l.length : Int) := by omega
      have ht0 : (0 : Int) ≤ (t : Int) := by omega
      obtain ⟨b, off, rfl, hbl, q0, q1⟩ := HH.out t hlt
      have hB := HR.out.2
      have hBS := hB.size
      have c0 := (hB.cell (p := ⟨b, off + t * 2, none⟩) hbl).trans q0
      have c1 := (hB.cell (p := ⟨b, off + t * 2 + 1, none⟩) hbl).trans q1
      have hblr : b < wr.heap.size := by omega
      have HRD := hideIt (amtsB_drop l t y hlt)
      generalize l[t] = en at *
      obtain ⟨ek, ex⟩ := en
      simp only at c0 c1 HRD
      have HN1 := hideIt (fun W => isAsset_is ek W)
      have HN2 := hideIt (fun W => isBalance_is ex W)
      have HA := hideIt (hB.alloc (by omega) (.cells #[.int .i64 ek, .int .i64 ex] 35))
      clear q0 q1 hB
      by_cases h0 : y < ek
      · have h0I : ¬ ek ≤ y := by omega
        cases h1 : wiB ek 0 3
        · rw [h1] at HN1 HRD
          go_wp2_with fail
          refine (HN1.out _).mono ?_
          rintro e w1 ⟨rfl, rfl⟩
          dsimp only
          go_wp2
          go_ret
          exact ⟨by rw [HR.out.1, HRD.out]; simp, HA.out⟩
        · rw [h1] at HN1 HRD
          cases h2 : wiB ex 1 9007199254740992
          · rw [h2] at HN2 HRD
            go_wp2_with fail
            refine (HN1.out _).mono ?_
            rintro e w1 ⟨rfl, rfl⟩
            dsimp only
            go_wp2_with fail
            refine (HN2.out _).mono ?_
            rintro e w1 ⟨rfl, rfl⟩
            dsimp only
            go_wp2
            go_ret
            exact ⟨by rw [HR.out.1, HRD.out]; simp, HA.out⟩
          · rw [h2] at HN2 HRD
            go_wp2_with fail
            refine (HN1.out _).mono ?_
            rintro e w1 ⟨rfl, rfl⟩
            dsimp only
            go_wp2_with fail
            refine (HN2.out _).mono ?_
            rintro e w1 ⟨rfl, rfl⟩
            dsimp only
            go_wp2
            go_roundw
            case rel => exact ⟨t + 1, ek, rfl, by go_num, by omega, hideIt ⟨by rw [HR.out.1, HRD.out]; simp [h0], HA.out⟩⟩
            case measure => simp [intOf]; omega
      · have h0I : ek ≤ y := by omega
        clear h0
        go_wp2
        go_ret
        exact ⟨by rw [HR.out.1, HRD.out, decide_eq_false (p := y < ek) (by omega)]; rfl, HA.out⟩
    · have hltI : ¬ (t : Int) < (l.length : Int) := by omega
      go_wp2
      go_ret
      have := HR.out.1
      rw [List.drop_of_length_le (by omega)] at this
      exact ⟨by rw [this]; rfl, HR.out.2⟩
set_option maxHeartbeats 4000000 in
set_option maxRecDepth 100000 in
theorem check_is (A : AccV) (g : Value) (w : World) (h : AGot w g A.l) : Calls Try.prog 10 #[accV A g] w fun e w' => e = .returned (.int .i64 (chkI A)) ∧ Below w.heap.size w w' := by
  have HB := hideIt (below1 w (.cells (accA A g) 24))
  have H1 := hideIt (areAmounts_is g A.l _ (h.keep HB.out))
  have N1 := hideIt (fun W => within_is A.ct 0 1000000000 W)
  obtain ⟨a, c, rfl⟩ := h.slice
  obtain ⟨l, ct⟩ := A
  unfold chkI accB accV accA at *
  simp only at H1 N1 HB ⊢
  clear h
  cases h1 : amtsB l (-1)
  · rw [h1] at H1
    go_enter Try.func10, Try.ntmps10
    go_wp2_with fail
    refine H1.out.mono ?_
    rintro e w1 ⟨rfl, hbl⟩
    dsimp only
    have HB2 := hideIt (below_via HB.out hbl)
    clear hbl
    go_wp2
    go_ret
    exact ⟨rfl, HB2.out⟩
  · rw [h1] at H1
    cases h2 : wiB ct 0 1000000000
    · rw [h2] at N1
      go_enter Try.func10, Try.ntmps10
      go_wp2_with fail
      refine H1.out.mono ?_
      rintro e w1 ⟨rfl, hbl⟩
      dsimp only
      have HB2 := hideIt (below_via HB.out hbl)
      have d0 := box_cell hbl 1
      clear hbl
      go_wp2_with fail
      refine (N1.out _).mono ?_
      rintro e w1 ⟨rfl, rfl⟩
      dsimp only
      go_wp2
      go_ret
      exact ⟨rfl, HB2.out⟩
    · rw [h2] at N1
      go_enter Try.func10, Try.ntmps10
      go_wp2_with fail
      refine H1.out.mono ?_
      rintro e w1 ⟨rfl, hbl⟩
      dsimp only
      have HB2 := hideIt (below_via HB.out hbl)
      have d0 := box_cell hbl 1
      clear hbl
      go_wp2_with fail
      refine (N1.out _).mono ?_
      rintro e w1 ⟨rfl, rfl⟩
      dsimp only
      go_wp2
      go_ret
      exact ⟨rfl, HB2.out⟩
set_option maxHeartbeats 4000000 in
set_option maxRecDepth 100000 in
theorem balance_is (A : AccV) (g : Value) (k : Int) (w : World) (h : AGot w g A.l) : Calls Try.prog 12 #[accV A g, .int .i64 k] w fun e w' => e = .returned (.int .i64 (balL A.l k)) ∧ Below w.heap.size w w' := by
  have HB := hideIt (below1 w (.cells (accA A g) 24))
  obtain ⟨a, c, rfl, h8, hr⟩ := (h.keep HB.out).open
  have HH := hideIt hr
  obtain ⟨l, ct⟩ := A
  unfold accV accA at *
  simp only at HH HB h8 ⊢
  clear hr h
  go_enter Try.func12, Try.ntmps12
  go_wp2
  generalize w.alloc (.cells #[.slice a l.length c, .int .i64 ct] 24) = X at *
  go_loopw [10] (fun v wr => ∃ (t : Nat), v = .int .i64 t ∧ t ≤ l.length ∧ Hid (balL l k = balL (l.drop t) k ∧ Below X.heap.size X wr)) (fun v _ => l.length - (intOf v).toNat)
  case atStart => exact ⟨0, rfl, Nat.zero_le _, hideIt ⟨rfl, Below.refl _ _⟩⟩
  case round =>
    obtain ⟨t, rfl, ht, HR⟩ := hrel
    by_cases hlt : t < l.length
    · have hltI : (t : Int) < (l.length : Int) := by omega
      have ht0 : (0 : Int) ≤ (t : Int) := by omega
      obtain ⟨b, off, rfl, hbl, q0, q1⟩ := HH.out t hlt
      have hB := HR.out.2
      have hBS := hB.size
      have c0 := (hB.cell (p := ⟨b, off + t * 2, none⟩) hbl).trans q0
      have c1 := (hB.cell (p := ⟨b, off + t * 2 + 1, none⟩) hbl).trans q1
      have hblr : b < wr.heap.size := by omega
      have HRD := hideIt (balL_drop l t k hlt)
      generalize l[t] = en at *
      obtain ⟨ek, ex⟩ := en
      simp only at c0 c1 HRD
      have HA := hideIt (hB.alloc (by omega) (.cells #[.int .i64 ek, .int .i64 ex] 35))
      clear q0 q1 hB
      by_cases h0 : ek = k
      · subst h0
        go_wp2
        go_ret
        exact ⟨by rw [HR.out.1, HRD.out]; simp, below_via HB.out HA.out⟩
      · have hb0 : (ek == k) = false := beq_eq_false_iff_ne.2 h0
        go_wp2
        go_roundw
        case rel => exact ⟨t + 1, by go_num, by omega, hideIt ⟨by rw [HR.out.1, HRD.out, if_neg h0], HA.out⟩⟩
        case measure => simp [intOf]; omega
    · have hltI : ¬ (t : Int) < (l.length : Int) := by omega
      go_wp2
      go_ret
      have := HR.out.1
      rw [List.drop_of_length_le (by omega)] at this
      exact ⟨by rw [this]; rfl, below_via HB.out HR.out.2⟩
end Go.Proofs.Ytjinhiabnpmiaaa
