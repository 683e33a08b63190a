/- Whether a ballot may be: the document's answer is the same. -/
import Derived.Test.YtkoecdcbopkkbaaVote
namespace Go.Proofs.Ytkoecdcbopkkbaa
open Go.RowKit
def pv (l : List Int) : Nat → Int
  | 0 => 0
  | k + 1 => l.getD k 0
theorem nodes_in (l : List Int) : ∀ p, nodesB p l = true → ∀ x ∈ l, 1 ≤ x := by
  induction l with
  | nil => intro p _ x hx; cases hx
  | cons y r ih =>
    intro p h x hx
    simp [nodesB, wiB] at h
    rcases List.mem_cons.1 hx with rfl | hx
    · exact h.1.1.1
    · exact ih _ h.2 x hx
theorem nodes_zero (l : List Int) (h : nodesB 0 l = true) : l.contains 0 = false := by
  cases hc : l.contains (0 : Int) with
  | false => rfl
  | true =>
    have := nodes_in l 0 h 0 (by simpa using hc)
    omega
theorem wi_ge {x a b : Int} (h : wiB x a b = true) : a ≤ x := by
  simp only [wiB, decide_eq_true_eq] at h
  exact h.1
set_option maxHeartbeats 8000000 in
set_option maxRecDepth 100000 in
theorem rmay_loop (t v r : Int) (a : Option Addr) (l : List Int) (c : Nat) (w : World) (h : GotAt w (.slice a l.length c) l) (h1 : wiB t 0 1000000 = true) (h2 : wiB v 0 7 = true) (hz : t = 0 → v = 0) (hr : r = 2 ∨ r = 3) :
    Calls Try.prog 27 #[.agg #[.int .i64 t, .int .i64 v, .int .i64 r, .slice a l.length c]] w fun e w' => e = .returned (.bool (nodesB 0 l && l.contains v)) ∧ Below w.heap.size w w' := by
  have HB := hideIt (below2 w (.cells #[.int .i64 t, .int .i64 v, .int .i64 r, .slice a l.length c] 26) (.cells #[.int .i64 t, .int .i64 v] 23))
  have H2 := hideIt (two_heap w (.cells #[.int .i64 t, .int .i64 v, .int .i64 r, .slice a l.length c] 26) (.cells #[.int .i64 t, .int .i64 v] 23))
  have HGA := hideIt (fun wr hW => (h.keep HB.out).keep (w' := wr) hW)
  obtain ⟨a', c', e', h8, hg⟩ := h.open
  simp only [Value.slice.injEq] at e'
  obtain ⟨rfl, _, rfl⟩ := e'
  have HG := hideIt (hg.keep HB.out)
  have N1 := hideIt (fun W => rwithin_is t 0 1000000 W)
  have N2 := hideIt (fun W => rwithin_is v 0 7 W)
  have tb : 0 ≤ t := by simp [wiB] at h1; omega
  have vb : 0 ≤ v := by simp [wiB] at h2; omega
  rw [h1] at N1
  rw [h2] at N2
  clear h hg h1 h2
  obtain ⟨A, hA⟩ : ∃ A, A = (nodesB 0 l && l.contains v) := ⟨_, rfl⟩
  rw [← hA]
  have HA := hideIt hA
  clear hA
  rcases hr with rfl | rfl
  · by_cases t0 : t = 0
    · have v0 := hz t0
      subst t0 v0
      clear hz tb vb
      go_enter Try.func27, Try.ntmps27
      go_wp2_with fail
      refine (N1.out _).mono ?_
      rintro e w1 ⟨rfl, rfl⟩
      dsimp only
      go_wp2_with fail
      refine (N2.out _).mono ?_
      rintro e w2 ⟨rfl, rfl⟩
      dsimp only
      go_wp2
      go_loopw [4] (fun i wr => ∃ k : Nat, k ≤ l.length ∧ i = .int .i64 k ∧ Hid (nodesB 0 l = nodesB (pv l k) (l.drop k)) ∧ Hid (Below ((w.alloc (.cells #[.int .i64 0, .int .i64 0, .int .i64 2, .slice a l.length c] 26)).alloc (.cells #[.int .i64 0, .int .i64 0] 23)).heap.size ((w.alloc (.cells #[.int .i64 0, .int .i64 0, .int .i64 2, .slice a l.length c] 26)).alloc (.cells #[.int .i64 0, .int .i64 0] 23)) wr)) (fun i _ => l.length - (intOf i).toNat)
      case atStart => exact ⟨0, Nat.zero_le _, rfl, hideIt (by rw [List.drop_zero]; rfl), hideIt (Below.refl _ _)⟩
      case round =>
        obtain ⟨k, hk, rfl, HN, HW⟩ := hrel
        have hb0 := (HW.out.block _ (by rw [H2.out.2.2]; omega)).trans H2.out.1
        have hb1 := (HW.out.block _ (by rw [H2.out.2.2]; omega)).trans H2.out.2.1
        have hgc := HG.out.keep HW.out
        have HBW := hideIt (below_via HB.out HW.out)
        have c3 : wr.cell? ⟨w.heap.size, 3, none⟩ = some (.slice a l.length c) := by rw [cell_at hb0]; rfl
        have d0 : wr.cell? ⟨w.heap.size + 1, 0, none⟩ = some (.int .i64 0) := by rw [cell_at hb1]; rfl
        have d1 : wr.cell? ⟨w.heap.size + 1, 1, none⟩ = some (.int .i64 0) := by rw [cell_at hb1]; rfl
        have HGC := hideIt hgc
        clear hb0 hb1 hgc
        by_cases hlt : k < l.length
        · obtain ⟨b, off, rfl, _, hc⟩ := HGC.out k hlt
          have HD := hideIt (HN.out.trans (congrArg (nodesB (pv l k)) (drop_cons l k hlt)))
          have hlt' : (k : Int) < l.length := by omega
          have hk0 : (0 : Int) ≤ k := by omega
          cases h1 : wiB (l.getD k 0) 1 7
          · have HX := hideIt (fun W => rwithin_is (l.getD k 0) 1 7 W)
            rw [h1] at HX
            have HR2 : Hid (nodesB 0 l = false) := by
              show _ = _
              rw [HD.out, nodesB, h1]
              rfl
            clear HD h1
            generalize l.getD k 0 = x at *
            go_wp2
            go_quiet (first | (go_at_call 28; exact Calls.quiet_of_same (HX.out _)))
            go_wp2
            go_ret
            exact ⟨by rw [HA.out, HR2.out]; rfl, below_drewN HBW.out _⟩
          · have HX := hideIt (fun W => rwithin_is (l.getD k 0) 1 7 W)
            rw [h1] at HX
            cases k with
            | zero =>
              have hg0 : decide ((0 : Int) < 0) = false := by decide
              rw [Nat.add_zero] at hc
              have hl0 : (0 : Int) < (l.length : Int) := by omega
              have HR2 : Hid (nodesB 0 l = nodesB (pv l 1) (l.drop 1)) := by
                show _ = _
                have hx1 : 1 ≤ l.getD 0 0 := wi_ge h1
                rw [HD.out, nodesB, h1, decide_eq_true (show pv l 0 < l.getD 0 0 by show (0 : Int) < _; omega)]
                rfl
              clear HD h1
              generalize l.getD 0 0 = x at *
              go_wp2
              go_quiet (first | (go_at_call 28; exact Calls.quiet_of_same (HX.out _)))
              go_wp2
              go_roundw
              case rel => exact ⟨1, by omega, by go_num, HR2, hideIt (below_drewN HW.out _)⟩
              case measure => simp [intOf]; omega
            | succ m =>
              obtain ⟨b2, off2, e2, _, hc2⟩ := HGC.out m (by omega)
              have hg0 : (0 : Int) < ((m + 1 : Nat) : Int) := by omega
              have hpv : pv l (m + 1) = l.getD m 0 := rfl
              have HD2 := HD
              rw [hpv] at HD2
              clear HD hpv
              have hm1 : (((m + 1 : Nat) : Int) - 1) = (m : Int) := by omega
              have hm0 : (0 : Int) ≤ (m : Int) := by omega
              have hml : (m : Int) < (l.length : Int) := by omega
              simp only [Option.some.injEq, Addr.mk.injEq] at e2
              obtain ⟨rfl, rfl, _⟩ := e2
              by_cases h2 : l.getD (m + 1) 0 ≤ l.getD m 0
              · have HR2 : Hid (nodesB 0 l = false) := by
                  show _ = _
                  rw [HD2.out, nodesB, decide_eq_false (show ¬ l.getD m 0 < l.getD (m + 1) 0 by omega)]
                  simp
                clear HD2 h1
                generalize l.getD (m + 1) 0 = x at *
                generalize l.getD m 0 = y at *
                go_wp2
                go_quiet (first | (go_at_call 28; exact Calls.quiet_of_same (HX.out _)))
                go_wp2
                go_ret
                exact ⟨by rw [HA.out, HR2.out]; rfl, below_drewN HBW.out _⟩
              · have HR2 : Hid (nodesB 0 l = nodesB (pv l (m + 1 + 1)) (l.drop (m + 1 + 1))) := by
                  show _ = _
                  rw [HD2.out, nodesB, h1, decide_eq_true (show l.getD m 0 < l.getD (m + 1) 0 by omega)]
                  rfl
                clear HD2 h1
                generalize l.getD (m + 1) 0 = x at *
                generalize l.getD m 0 = y at *
                go_wp2
                go_quiet (first | (go_at_call 28; exact Calls.quiet_of_same (HX.out _)))
                go_wp2
                go_roundw
                case rel => exact ⟨m + 1 + 1, by omega, by go_num, HR2, hideIt (below_drewN HW.out _)⟩
                case measure => simp [intOf]; omega
        · have HR2 : Hid (nodesB 0 l = true) := by
            show _ = _
            rw [HN.out, List.drop_eq_nil_of_le (by omega)]
            rfl
          go_wp2
          go_ret
          exact ⟨by rw [HA.out, HR2.out, nodes_zero l HR2.out]; rfl, HBW.out⟩
    · have t0b : (t == 0) = false := beq_eq_false_iff_ne.2 t0
      clear hz
      go_enter Try.func27, Try.ntmps27
      go_wp2_with fail
      refine (N1.out _).mono ?_
      rintro e w1 ⟨rfl, rfl⟩
      dsimp only
      go_wp2_with fail
      refine (N2.out _).mono ?_
      rintro e w2 ⟨rfl, rfl⟩
      dsimp only
      go_wp2
      go_loopw [4] (fun i wr => ∃ k : Nat, k ≤ l.length ∧ i = .int .i64 k ∧ Hid (nodesB 0 l = nodesB (pv l k) (l.drop k)) ∧ Hid (Below ((w.alloc (.cells #[.int .i64 t, .int .i64 v, .int .i64 2, .slice a l.length c] 26)).alloc (.cells #[.int .i64 t, .int .i64 v] 23)).heap.size ((w.alloc (.cells #[.int .i64 t, .int .i64 v, .int .i64 2, .slice a l.length c] 26)).alloc (.cells #[.int .i64 t, .int .i64 v] 23)) wr)) (fun i _ => l.length - (intOf i).toNat)
      case atStart => exact ⟨0, Nat.zero_le _, rfl, hideIt (by rw [List.drop_zero]; rfl), hideIt (Below.refl _ _)⟩
      case round =>
        obtain ⟨k, hk, rfl, HN, HW⟩ := hrel
        have hb0 := (HW.out.block _ (by rw [H2.out.2.2]; omega)).trans H2.out.1
        have hb1 := (HW.out.block _ (by rw [H2.out.2.2]; omega)).trans H2.out.2.1
        have hgc := HG.out.keep HW.out
        have HBW := hideIt (below_via HB.out HW.out)
        have c3 : wr.cell? ⟨w.heap.size, 3, none⟩ = some (.slice a l.length c) := by rw [cell_at hb0]; rfl
        have d0 : wr.cell? ⟨w.heap.size + 1, 0, none⟩ = some (.int .i64 t) := by rw [cell_at hb1]; rfl
        have d1 : wr.cell? ⟨w.heap.size + 1, 1, none⟩ = some (.int .i64 v) := by rw [cell_at hb1]; rfl
        have HGC := hideIt hgc
        clear hb0 hb1 hgc
        by_cases hlt : k < l.length
        · obtain ⟨b, off, rfl, _, hc⟩ := HGC.out k hlt
          have HD := hideIt (HN.out.trans (congrArg (nodesB (pv l k)) (drop_cons l k hlt)))
          have hlt' : (k : Int) < l.length := by omega
          have hk0 : (0 : Int) ≤ k := by omega
          cases h1 : wiB (l.getD k 0) 1 7
          · have HX := hideIt (fun W => rwithin_is (l.getD k 0) 1 7 W)
            rw [h1] at HX
            have HR2 : Hid (nodesB 0 l = false) := by
              show _ = _
              rw [HD.out, nodesB, h1]
              rfl
            clear HD h1
            generalize l.getD k 0 = x at *
            go_wp2
            go_quiet (first | (go_at_call 28; exact Calls.quiet_of_same (HX.out _)))
            go_wp2
            go_ret
            exact ⟨by rw [HA.out, HR2.out]; rfl, below_drewN HBW.out _⟩
          · have HX := hideIt (fun W => rwithin_is (l.getD k 0) 1 7 W)
            rw [h1] at HX
            cases k with
            | zero =>
              have hg0 : decide ((0 : Int) < 0) = false := by decide
              rw [Nat.add_zero] at hc
              have hl0 : (0 : Int) < (l.length : Int) := by omega
              have HR2 : Hid (nodesB 0 l = nodesB (pv l 1) (l.drop 1)) := by
                show _ = _
                have hx1 : 1 ≤ l.getD 0 0 := wi_ge h1
                rw [HD.out, nodesB, h1, decide_eq_true (show pv l 0 < l.getD 0 0 by show (0 : Int) < _; omega)]
                rfl
              clear HD h1
              generalize l.getD 0 0 = x at *
              go_wp2
              go_quiet (first | (go_at_call 28; exact Calls.quiet_of_same (HX.out _)))
              go_wp2
              go_roundw
              case rel => exact ⟨1, by omega, by go_num, HR2, hideIt (below_drewN HW.out _)⟩
              case measure => simp [intOf]; omega
            | succ m =>
              obtain ⟨b2, off2, e2, _, hc2⟩ := HGC.out m (by omega)
              have hg0 : (0 : Int) < ((m + 1 : Nat) : Int) := by omega
              have hpv : pv l (m + 1) = l.getD m 0 := rfl
              have HD2 := HD
              rw [hpv] at HD2
              clear HD hpv
              have hm1 : (((m + 1 : Nat) : Int) - 1) = (m : Int) := by omega
              have hm0 : (0 : Int) ≤ (m : Int) := by omega
              have hml : (m : Int) < (l.length : Int) := by omega
              simp only [Option.some.injEq, Addr.mk.injEq] at e2
              obtain ⟨rfl, rfl, _⟩ := e2
              by_cases h2 : l.getD (m + 1) 0 ≤ l.getD m 0
              · have HR2 : Hid (nodesB 0 l = false) := by
                  show _ = _
                  rw [HD2.out, nodesB, decide_eq_false (show ¬ l.getD m 0 < l.getD (m + 1) 0 by omega)]
                  simp
                clear HD2 h1
                generalize l.getD (m + 1) 0 = x at *
                generalize l.getD m 0 = y at *
                go_wp2
                go_quiet (first | (go_at_call 28; exact Calls.quiet_of_same (HX.out _)))
                go_wp2
                go_ret
                exact ⟨by rw [HA.out, HR2.out]; rfl, below_drewN HBW.out _⟩
              · have HR2 : Hid (nodesB 0 l = nodesB (pv l (m + 1 + 1)) (l.drop (m + 1 + 1))) := by
                  show _ = _
                  rw [HD2.out, nodesB, h1, decide_eq_true (show l.getD m 0 < l.getD (m + 1) 0 by omega)]
                  rfl
                clear HD2 h1
                generalize l.getD (m + 1) 0 = x at *
                generalize l.getD m 0 = y at *
                go_wp2
                go_quiet (first | (go_at_call 28; exact Calls.quiet_of_same (HX.out _)))
                go_wp2
                go_roundw
                case rel => exact ⟨m + 1 + 1, by omega, by go_num, HR2, hideIt (below_drewN HW.out _)⟩
                case measure => simp [intOf]; omega
        · have HR2 : Hid (nodesB 0 l = true) := by
            show _ = _
            rw [HN.out, List.drop_eq_nil_of_le (by omega)]
            rfl
          have tp : 0 < t := by omega
          by_cases v0 : v = 0
          · subst v0
            go_wp2
            go_ret
            exact ⟨by rw [HA.out, HR2.out, nodes_zero l HR2.out]; rfl, HBW.out⟩
          · have vp : 0 < v := by omega
            have HS := hideIt (rhas_is (.slice a l.length c) l v wr (HGA.out wr HW.out))
            go_wp2_with fail
            refine HS.out.mono ?_
            rintro e w9 ⟨rfl, rfl⟩
            dsimp only
            go_wp2
            go_ret
            exact ⟨by rw [HA.out, HR2.out]; simp, HBW.out⟩
  · by_cases t0 : t = 0
    · have v0 := hz t0
      subst t0 v0
      clear hz tb vb
      go_enter Try.func27, Try.ntmps27
      go_wp2_with fail
      refine (N1.out _).mono ?_
      rintro e w1 ⟨rfl, rfl⟩
      dsimp only
      go_wp2_with fail
      refine (N2.out _).mono ?_
      rintro e w2 ⟨rfl, rfl⟩
      dsimp only
      go_wp2
      go_loopw [4] (fun i wr => ∃ k : Nat, k ≤ l.length ∧ i = .int .i64 k ∧ Hid (nodesB 0 l = nodesB (pv l k) (l.drop k)) ∧ Hid (Below ((w.alloc (.cells #[.int .i64 0, .int .i64 0, .int .i64 3, .slice a l.length c] 26)).alloc (.cells #[.int .i64 0, .int .i64 0] 23)).heap.size ((w.alloc (.cells #[.int .i64 0, .int .i64 0, .int .i64 3, .slice a l.length c] 26)).alloc (.cells #[.int .i64 0, .int .i64 0] 23)) wr)) (fun i _ => l.length - (intOf i).toNat)
      case atStart => exact ⟨0, Nat.zero_le _, rfl, hideIt (by rw [List.drop_zero]; rfl), hideIt (Below.refl _ _)⟩
      case round =>
        obtain ⟨k, hk, rfl, HN, HW⟩ := hrel
        have hb0 := (HW.out.block _ (by rw [H2.out.2.2]; omega)).trans H2.out.1
        have hb1 := (HW.out.block _ (by rw [H2.out.2.2]; omega)).trans H2.out.2.1
        have hgc := HG.out.keep HW.out
        have HBW := hideIt (below_via HB.out HW.out)
        have c3 : wr.cell? ⟨w.heap.size, 3, none⟩ = some (.slice a l.length c) := by rw [cell_at hb0]; rfl
        have d0 : wr.cell? ⟨w.heap.size + 1, 0, none⟩ = some (.int .i64 0) := by rw [cell_at hb1]; rfl
        have d1 : wr.cell? ⟨w.heap.size + 1, 1, none⟩ = some (.int .i64 0) := by rw [cell_at hb1]; rfl
        have HGC := hideIt hgc
        clear hb0 hb1 hgc
        by_cases hlt : k < l.length
        · obtain ⟨b, off, rfl, _, hc⟩ := HGC.out k hlt
          have HD := hideIt (HN.out.trans (congrArg (nodesB (pv l k)) (drop_cons l k hlt)))
          have hlt' : (k : Int) < l.length := by omega
          have hk0 : (0 : Int) ≤ k := by omega
          cases h1 : wiB (l.getD k 0) 1 7
          · have HX := hideIt (fun W => rwithin_is (l.getD k 0) 1 7 W)
            rw [h1] at HX
            have HR2 : Hid (nodesB 0 l = false) := by
              show _ = _
              rw [HD.out, nodesB, h1]
              rfl
            clear HD h1
            generalize l.getD k 0 = x at *
            go_wp2
            go_quiet (first | (go_at_call 28; exact Calls.quiet_of_same (HX.out _)))
            go_wp2
            go_ret
            exact ⟨by rw [HA.out, HR2.out]; rfl, below_drewN HBW.out _⟩
          · have HX := hideIt (fun W => rwithin_is (l.getD k 0) 1 7 W)
            rw [h1] at HX
            cases k with
            | zero =>
              have hg0 : decide ((0 : Int) < 0) = false := by decide
              rw [Nat.add_zero] at hc
              have hl0 : (0 : Int) < (l.length : Int) := by omega
              have HR2 : Hid (nodesB 0 l = nodesB (pv l 1) (l.drop 1)) := by
                show _ = _
                have hx1 : 1 ≤ l.getD 0 0 := wi_ge h1
                rw [HD.out, nodesB, h1, decide_eq_true (show pv l 0 < l.getD 0 0 by show (0 : Int) < _; omega)]
                rfl
              clear HD h1
              generalize l.getD 0 0 = x at *
              go_wp2
              go_quiet (first | (go_at_call 28; exact Calls.quiet_of_same (HX.out _)))
              go_wp2
              go_roundw
              case rel => exact ⟨1, by omega, by go_num, HR2, hideIt (below_drewN HW.out _)⟩
              case measure => simp [intOf]; omega
            | succ m =>
              obtain ⟨b2, off2, e2, _, hc2⟩ := HGC.out m (by omega)
              have hg0 : (0 : Int) < ((m + 1 : Nat) : Int) := by omega
              have hpv : pv l (m + 1) = l.getD m 0 := rfl
              have HD2 := HD
              rw [hpv] at HD2
              clear HD hpv
              have hm1 : (((m + 1 : Nat) : Int) - 1) = (m : Int) := by omega
              have hm0 : (0 : Int) ≤ (m : Int) := by omega
              have hml : (m : Int) < (l.length : Int) := by omega
              simp only [Option.some.injEq, Addr.mk.injEq] at e2
              obtain ⟨rfl, rfl, _⟩ := e2
              by_cases h2 : l.getD (m + 1) 0 ≤ l.getD m 0
              · have HR2 : Hid (nodesB 0 l = false) := by
                  show _ = _
                  rw [HD2.out, nodesB, decide_eq_false (show ¬ l.getD m 0 < l.getD (m + 1) 0 by omega)]
                  simp
                clear HD2 h1
                generalize l.getD (m + 1) 0 = x at *
                generalize l.getD m 0 = y at *
                go_wp2
                go_quiet (first | (go_at_call 28; exact Calls.quiet_of_same (HX.out _)))
                go_wp2
                go_ret
                exact ⟨by rw [HA.out, HR2.out]; rfl, below_drewN HBW.out _⟩
              · have HR2 : Hid (nodesB 0 l = nodesB (pv l (m + 1 + 1)) (l.drop (m + 1 + 1))) := by
                  show _ = _
                  rw [HD2.out, nodesB, h1, decide_eq_true (show l.getD m 0 < l.getD (m + 1) 0 by omega)]
                  rfl
                clear HD2 h1
                generalize l.getD (m + 1) 0 = x at *
                generalize l.getD m 0 = y at *
                go_wp2
                go_quiet (first | (go_at_call 28; exact Calls.quiet_of_same (HX.out _)))
                go_wp2
                go_roundw
                case rel => exact ⟨m + 1 + 1, by omega, by go_num, HR2, hideIt (below_drewN HW.out _)⟩
                case measure => simp [intOf]; omega
        · have HR2 : Hid (nodesB 0 l = true) := by
            show _ = _
            rw [HN.out, List.drop_eq_nil_of_le (by omega)]
            rfl
          go_wp2
          go_ret
          exact ⟨by rw [HA.out, HR2.out, nodes_zero l HR2.out]; rfl, HBW.out⟩
    · have t0b : (t == 0) = false := beq_eq_false_iff_ne.2 t0
      clear hz
      go_enter Try.func27, Try.ntmps27
      go_wp2_with fail
      refine (N1.out _).mono ?_
      rintro e w1 ⟨rfl, rfl⟩
      dsimp only
      go_wp2_with fail
      refine (N2.out _).mono ?_
      rintro e w2 ⟨rfl, rfl⟩
      dsimp only
      go_wp2
      go_loopw [4] (fun i wr => ∃ k : Nat, k ≤ l.length ∧ i = .int .i64 k ∧ Hid (nodesB 0 l = nodesB (pv l k) (l.drop k)) ∧ Hid (Below ((w.alloc (.cells #[.int .i64 t, .int .i64 v, .int .i64 3, .slice a l.length c] 26)).alloc (.cells #[.int .i64 t, .int .i64 v] 23)).heap.size ((w.alloc (.cells #[.int .i64 t, .int .i64 v, .int .i64 3, .slice a l.length c] 26)).alloc (.cells #[.int .i64 t, .int .i64 v] 23)) wr)) (fun i _ => l.length - (intOf i).toNat)
      case atStart => exact ⟨0, Nat.zero_le _, rfl, hideIt (by rw [List.drop_zero]; rfl), hideIt (Below.refl _ _)⟩
      case round =>
        obtain ⟨k, hk, rfl, HN, HW⟩ := hrel
        have hb0 := (HW.out.block _ (by rw [H2.out.2.2]; omega)).trans H2.out.1
        have hb1 := (HW.out.block _ (by rw [H2.out.2.2]; omega)).trans H2.out.2.1
        have hgc := HG.out.keep HW.out
        have HBW := hideIt (below_via HB.out HW.out)
        have c3 : wr.cell? ⟨w.heap.size, 3, none⟩ = some (.slice a l.length c) := by rw [cell_at hb0]; rfl
        have d0 : wr.cell? ⟨w.heap.size + 1, 0, none⟩ = some (.int .i64 t) := by rw [cell_at hb1]; rfl
        have d1 : wr.cell? ⟨w.heap.size + 1, 1, none⟩ = some (.int .i64 v) := by rw [cell_at hb1]; rfl
        have HGC := hideIt hgc
        clear hb0 hb1 hgc
        by_cases hlt : k < l.length
        · obtain ⟨b, off, rfl, _, hc⟩ := HGC.out k hlt
          have HD := hideIt (HN.out.trans (congrArg (nodesB (pv l k)) (drop_cons l k hlt)))
          have hlt' : (k : Int) < l.length := by omega
          have hk0 : (0 : Int) ≤ k := by omega
          cases h1 : wiB (l.getD k 0) 1 7
          · have HX := hideIt (fun W => rwithin_is (l.getD k 0) 1 7 W)
            rw [h1] at HX
            have HR2 : Hid (nodesB 0 l = false) := by
              show _ = _
              rw [HD.out, nodesB, h1]
              rfl
            clear HD h1
            generalize l.getD k 0 = x at *
            go_wp2
            go_quiet (first | (go_at_call 28; exact Calls.quiet_of_same (HX.out _)))
            go_wp2
            go_ret
            exact ⟨by rw [HA.out, HR2.out]; rfl, below_drewN HBW.out _⟩
          · have HX := hideIt (fun W => rwithin_is (l.getD k 0) 1 7 W)
            rw [h1] at HX
            cases k with
            | zero =>
              have hg0 : decide ((0 : Int) < 0) = false := by decide
              rw [Nat.add_zero] at hc
              have hl0 : (0 : Int) < (l.length : Int) := by omega
              have HR2 : Hid (nodesB 0 l = nodesB (pv l 1) (l.drop 1)) := by
                show _ = _
                have hx1 : 1 ≤ l.getD 0 0 := wi_ge h1
                rw [HD.out, nodesB, h1, decide_eq_true (show pv l 0 < l.getD 0 0 by show (0 : Int) < _; omega)]
                rfl
              clear HD h1
              generalize l.getD 0 0 = x at *
              go_wp2
              go_quiet (first | (go_at_call 28; exact Calls.quiet_of_same (HX.out _)))
              go_wp2
              go_roundw
              case rel => exact ⟨1, by omega, by go_num, HR2, hideIt (below_drewN HW.out _)⟩
              case measure => simp [intOf]; omega
            | succ m =>
              obtain ⟨b2, off2, e2, _, hc2⟩ := HGC.out m (by omega)
              have hg0 : (0 : Int) < ((m + 1 : Nat) : Int) := by omega
              have hpv : pv l (m + 1) = l.getD m 0 := rfl
              have HD2 := HD
              rw [hpv] at HD2
              clear HD hpv
              have hm1 : (((m + 1 : Nat) : Int) - 1) = (m : Int) := by omega
              have hm0 : (0 : Int) ≤ (m : Int) := by omega
              have hml : (m : Int) < (l.length : Int) := by omega
              simp only [Option.some.injEq, Addr.mk.injEq] at e2
              obtain ⟨rfl, rfl, _⟩ := e2
              by_cases h2 : l.getD (m + 1) 0 ≤ l.getD m 0
              · have HR2 : Hid (nodesB 0 l = false) := by
                  show _ = _
                  rw [HD2.out, nodesB, decide_eq_false (show ¬ l.getD m 0 < l.getD (m + 1) 0 by omega)]
                  simp
                clear HD2 h1
                generalize l.getD (m + 1) 0 = x at *
                generalize l.getD m 0 = y at *
                go_wp2
                go_quiet (first | (go_at_call 28; exact Calls.quiet_of_same (HX.out _)))
                go_wp2
                go_ret
                exact ⟨by rw [HA.out, HR2.out]; rfl, below_drewN HBW.out _⟩
              · have HR2 : Hid (nodesB 0 l = nodesB (pv l (m + 1 + 1)) (l.drop (m + 1 + 1))) := by
                  show _ = _
                  rw [HD2.out, nodesB, h1, decide_eq_true (show l.getD m 0 < l.getD (m + 1) 0 by omega)]
                  rfl
                clear HD2 h1
                generalize l.getD (m + 1) 0 = x at *
                generalize l.getD m 0 = y at *
                go_wp2
                go_quiet (first | (go_at_call 28; exact Calls.quiet_of_same (HX.out _)))
                go_wp2
                go_roundw
                case rel => exact ⟨m + 1 + 1, by omega, by go_num, HR2, hideIt (below_drewN HW.out _)⟩
                case measure => simp [intOf]; omega
        · have HR2 : Hid (nodesB 0 l = true) := by
            show _ = _
            rw [HN.out, List.drop_eq_nil_of_le (by omega)]
            rfl
          have tp : 0 < t := by omega
          by_cases v0 : v = 0
          · subst v0
            go_wp2
            go_ret
            exact ⟨by rw [HA.out, HR2.out, nodes_zero l HR2.out]; rfl, HBW.out⟩
          · have vp : 0 < v := by omega
            have HS := hideIt (rhas_is (.slice a l.length c) l v wr (HGA.out wr HW.out))
            go_wp2_with fail
            refine HS.out.mono ?_
            rintro e w9 ⟨rfl, rfl⟩
            dsimp only
            go_wp2
            go_ret
            exact ⟨by rw [HA.out, HR2.out]; simp, HBW.out⟩
set_option maxHeartbeats 4000000 in
set_option maxRecDepth 100000 in
theorem rmay_is (b : Bal) (g : Value) (w : World) (h : GotAt w g b.l) : Calls Try.prog 27 #[balV b g] w fun e w' => e = .returned (.bool (mayB b)) ∧ Below w.heap.size w w' := by
  obtain ⟨t, v, r, l⟩ := b
  simp only at h
  have HB := hideIt (below2 w (.cells #[.int .i64 t, .int .i64 v, .int .i64 r, g] 26) (.cells #[.int .i64 t, .int .i64 v] 23))
  have N1 := hideIt (fun W => rwithin_is t 0 1000000 W)
  have N2 := hideIt (fun W => rwithin_is v 0 7 W)
  obtain ⟨a, c, rfl, h8, _⟩ := h.open
  unfold balV
  simp only
  cases h1 : wiB t 0 1000000
  · rw [h1] at N1
    rw [show mayB ⟨t, v, r, l⟩ = false by simp [mayB, h1]]
    clear h
    go_enter Try.func27, Try.ntmps27
    go_wp2_with fail
    refine (N1.out _).mono ?_
    rintro e w1 ⟨rfl, rfl⟩
    dsimp only
    go_wp2
    go_ret
    exact ⟨rfl, HB.out⟩
  · cases h2 : wiB v 0 7
    · rw [h1] at N1
      rw [h2] at N2
      rw [show mayB ⟨t, v, r, l⟩ = false by simp [mayB, h2]]
      clear h
      go_enter Try.func27, Try.ntmps27
      go_wp2_with fail
      refine (N1.out _).mono ?_
      rintro e w1 ⟨rfl, rfl⟩
      dsimp only
      go_wp2_with fail
      refine (N2.out _).mono ?_
      rintro e w2 ⟨rfl, rfl⟩
      dsimp only
      go_wp2
      go_ret
      exact ⟨rfl, HB.out⟩
    · by_cases hz : t = 0 → v = 0
      · rw [show mayB ⟨t, v, r, l⟩ = roleB v r l by
          have : (t == 0 && v != 0) = false := by
            by_cases t0 : t = 0
            · simp [t0, hz t0]
            · simp [t0]
          simp [mayB, h1, h2, this]]
        by_cases r23 : r = 2 ∨ r = 3
        · rw [show roleB v r l = (nodesB 0 l && l.contains v) by
            have : r ≠ 1 := by omega
            simp only [roleB, if_neg this, if_pos r23]]
          exact rmay_loop t v r a l c w h h1 h2 hz r23
        · rw [h1] at N1
          rw [h2] at N2
          clear h h1 h2
          by_cases r1 : r = 1
          · subst r1
            rw [show roleB v 1 l = decide ((l.length : Int) = 0) by cases l <;> simp [roleB] <;> omega]
            clear r23
            by_cases t0 : t = 0
            · have v0 := hz t0
              subst t0 v0
              clear hz
              go_enter Try.func27, Try.ntmps27
              go_wp2_with fail
              refine (N1.out _).mono ?_
              rintro e w1 ⟨rfl, rfl⟩
              dsimp only
              go_wp2_with fail
              refine (N2.out _).mono ?_
              rintro e w2 ⟨rfl, rfl⟩
              dsimp only
              go_wp2
              go_ret
              exact ⟨rfl, HB.out⟩
            · have t0b : (t == 0) = false := beq_eq_false_iff_ne.2 t0
              clear hz
              go_enter Try.func27, Try.ntmps27
              go_wp2_with fail
              refine (N1.out _).mono ?_
              rintro e w1 ⟨rfl, rfl⟩
              dsimp only
              go_wp2_with fail
              refine (N2.out _).mono ?_
              rintro e w2 ⟨rfl, rfl⟩
              dsimp only
              go_wp2
              go_ret
              exact ⟨rfl, HB.out⟩
          · rw [show roleB v r l = false by simp only [roleB, if_neg r1, if_neg r23]]
            have r1b : (r == 1) = false := beq_eq_false_iff_ne.2 r1
            have r2b : (r != 2) = true := by simp; omega
            have r3b : (r != 3) = true := by simp; omega
            clear r23
            by_cases t0 : t = 0
            · have v0 := hz t0
              subst t0 v0
              clear hz
              go_enter Try.func27, Try.ntmps27
              go_wp2_with fail
              refine (N1.out _).mono ?_
              rintro e w1 ⟨rfl, rfl⟩
              dsimp only
              go_wp2_with fail
              refine (N2.out _).mono ?_
              rintro e w2 ⟨rfl, rfl⟩
              dsimp only
              go_wp2
              go_ret
              exact ⟨rfl, HB.out⟩
            · have t0b : (t == 0) = false := beq_eq_false_iff_ne.2 t0
              clear hz
              go_enter Try.func27, Try.ntmps27
              go_wp2_with fail
              refine (N1.out _).mono ?_
              rintro e w1 ⟨rfl, rfl⟩
              dsimp only
              go_wp2_with fail
              refine (N2.out _).mono ?_
              rintro e w2 ⟨rfl, rfl⟩
              dsimp only
              go_wp2
              go_ret
              exact ⟨rfl, HB.out⟩
      · have t0 : t = 0 := by omega
        subst t0
        have v0 : v ≠ 0 := by omega
        have v0c : (v != 0) = true := by simp [v0]
        rw [h1] at N1
        rw [h2] at N2
        rw [show mayB ⟨0, v, r, l⟩ = false by simp [mayB, v0]]
        clear h h1 h2 hz
        go_enter Try.func27, Try.ntmps27
        go_wp2_with fail
        refine (N1.out _).mono ?_
        rintro e w1 ⟨rfl, rfl⟩
        dsimp only
        go_wp2_with fail
        refine (N2.out _).mono ?_
        rintro e w2 ⟨rfl, rfl⟩
        dsimp only
        go_wp2
        go_ret
        exact ⟨rfl, HB.out⟩
end Go.Proofs.Ytkoecdcbopkkbaa
