/- The body of rialtolaw06.TimerScripts, walked. -/
import Derived.Test.YtebinckkghmkhaaPair
import Derived.Deep.CutBlock
namespace Go.Proofs.Ytebinckkghmkhaa
open Go.RowKit

theorem pr0_start {w w1 w2 w3 : World} {p q n : Nat} (h1 : WheelAt w1 (fun k => k = p) p ⟨n, 0, fun _ => 0⟩) (b1 : Below w.heap.size w w1) (p1 : w.heap.size ≤ p)
    (h2 : RefAt w2 (fun k => w1.heap.size ≤ k ∧ k < w2.heap.size) q ⟨n, 0, fun _ => 0⟩) (b2 : Below w1.heap.size w1 w2) (b3 : Below w2.heap.size w2 w3) :
    Pr0 w p q ⟨n, 0, fun _ => 0⟩ w3 := by
  have s1 := b1.size
  have s2 := b2.size
  have hp := h1.small p rfl
  refine ⟨_, _, (h1.below b2).below b3, h2.below b3, fun k hk => ⟨?_, fun e => ?_⟩, fun k hk => ?_, (b1.trans (b2.mono s1)).trans (b3.mono (by omega))⟩
  · have : k = p := hk
    omega
  · have : k = p := hk
    have := e.1
    omega
  · have := hk.1
    omega
set_option maxHeartbeats 2000000 in
set_option maxRecDepth 100000 in
theorem script_bad (w : World) (x : Int) (hx : x < 1 ∨ 100 < x) (a : Option Addr) (cap : Nat) (l : List OpV) :
    Calls Try.prog 3 #[.int .i64 x, .slice a l.length cap] w fun e w' => e = .returned (.bool true) ∧ Below w.heap.size w w' := by
  have H1 := hideIt (fun W => new_bad x W hx)
  have H2 := hideIt (fun W => refNew_bad x W hx)
  clear hx
  go_enter Try.func3, Try.ntmps3
  go_wp2_with fail
  refine (H1.out _).mono ?_
  rintro e w1 ⟨rfl, rfl⟩
  dsimp only
  go_wp2_with fail
  refine (H2.out _).mono ?_
  rintro e w2 ⟨rfl, rfl⟩
  dsimp only
  go_wp2_with fail
  refine (begun_is _).mono ?_
  rintro e w3 ⟨rfl, hb3⟩
  dsimp only
  have HB := hideIt hb3
  clear hb3
  go_wp2
  go_loop [9] (fun v => v = .int .i64 0) (fun _ => 0)
  case atStart => exact rfl
  case round =>
    subst hrel
    by_cases h0 : l.length = 0
    · have h0I : ¬ (0 : Int) < (l.length : Int) := by omega
      clear h0
      go_wp2
      go_ret
      exact ⟨rfl, HB.out⟩
    · have h0I : (0 : Int) < (l.length : Int) := by omega
      clear h0
      go_wp2
      go_ret
      exact ⟨rfl, HB.out⟩
theorem Pr.cells {w : World} {p q z : Nat} {S1 S2 : Wh} {l : List Nat} {r : Option (Nat × Nat)} {W : World} {dO ky nn : Int} (h : Pr w p q z (.cells #[.int .i64 dO, .int .i64 ky, .int .i64 nn] 32) S1 S2 l r W) : W.cell? ⟨z, 1, none⟩ = some (.int .i64 ky) ∧ W.cell? ⟨z, 2, none⟩ = some (.int .i64 nn) := by
  have hz := h.block
  exact ⟨by rw [cell_at hz]; rfl, by rw [cell_at hz]; rfl⟩
theorem Pr.setC {w : World} {p q z : Nat} {S1 S2 : Wh} {l : List Nat} {r : Option (Nat × Nat)} {W : World} {dO ky nn : Int} (h : Pr w p q z (.cells #[.int .i64 dO, .int .i64 ky, .int .i64 nn] 32) S1 S2 l r W) (hN : S1.now < 1000000000) :
    Calls Try.prog 9 #[.pointer (some ⟨p, 0, none⟩), .int .i64 ky, .int .i64 nn] W fun e w' => e = .returned (.int .i64 (setE S1 ky nn : Int)) ∧ Pr w p q z (.cells #[.int .i64 dO, .int .i64 ky, .int .i64 nn] 32) (setW S1 ky nn) S2 l r w' ∧ w'.cell? ⟨z, 1, none⟩ = some (.int .i64 ky) ∧ w'.cell? ⟨z, 2, none⟩ = some (.int .i64 nn) := by
  refine (h.set hN ky nn).mono ?_
  rintro e w' ⟨rfl, hP⟩
  exact ⟨rfl, hP, hP.cells⟩
theorem Pr.rsetC {w : World} {p q z : Nat} {S1 S2 : Wh} {l : List Nat} {r : Option (Nat × Nat)} {W : World} {dO ky nn : Int} (h : Pr w p q z (.cells #[.int .i64 dO, .int .i64 ky, .int .i64 nn] 32) S1 S2 l r W) :
    Calls Try.prog 10 #[.pointer (some ⟨q, 0, none⟩), .int .i64 ky, .int .i64 nn] W fun e w' => e = .returned (.int .i64 (setE S2 ky nn : Int)) ∧ Pr w p q z (.cells #[.int .i64 dO, .int .i64 ky, .int .i64 nn] 32) S1 (setW S2 ky nn) l r w' ∧ w'.cell? ⟨z, 1, none⟩ = some (.int .i64 ky) ∧ w'.cell? ⟨z, 2, none⟩ = some (.int .i64 nn) := by
  refine (h.rset ky nn).mono ?_
  rintro e w' ⟨rfl, hP⟩
  exact ⟨rfl, hP, hP.cells⟩
theorem Pr.stopC {w : World} {p q z : Nat} {S1 S2 : Wh} {l : List Nat} {r : Option (Nat × Nat)} {W : World} {dO ky nn : Int} (h : Pr w p q z (.cells #[.int .i64 dO, .int .i64 ky, .int .i64 nn] 32) S1 S2 l r W) (hN : S1.now < 1000000000) :
    Calls Try.prog 11 #[.pointer (some ⟨p, 0, none⟩), .int .i64 ky] W fun e w' => e = .returned (.int .i64 (stopE S1 ky : Int)) ∧ Pr w p q z (.cells #[.int .i64 dO, .int .i64 ky, .int .i64 nn] 32) (stopW S1 ky) S2 l r w' ∧ w'.cell? ⟨z, 1, none⟩ = some (.int .i64 ky) ∧ w'.cell? ⟨z, 2, none⟩ = some (.int .i64 nn) := by
  refine (h.stop hN ky).mono ?_
  rintro e w' ⟨rfl, hP⟩
  exact ⟨rfl, hP, hP.cells⟩
theorem Pr.rstopC {w : World} {p q z : Nat} {S1 S2 : Wh} {l : List Nat} {r : Option (Nat × Nat)} {W : World} {dO ky nn : Int} (h : Pr w p q z (.cells #[.int .i64 dO, .int .i64 ky, .int .i64 nn] 32) S1 S2 l r W) :
    Calls Try.prog 12 #[.pointer (some ⟨q, 0, none⟩), .int .i64 ky] W fun e w' => e = .returned (.int .i64 (stopE S2 ky : Int)) ∧ Pr w p q z (.cells #[.int .i64 dO, .int .i64 ky, .int .i64 nn] 32) S1 (stopW S2 ky) l r w' ∧ w'.cell? ⟨z, 1, none⟩ = some (.int .i64 ky) ∧ w'.cell? ⟨z, 2, none⟩ = some (.int .i64 nn) := by
  refine (h.rstop ky).mono ?_
  rintro e w' ⟨rfl, hP⟩
  exact ⟨rfl, hP, hP.cells⟩
theorem setW_now (S : Wh) (k x : Int) : (setW S k x).now = S.now := by unfold setW; split <;> rfl
theorem stopW_now (S : Wh) (k : Int) : (stopW S k).now = S.now := by unfold stopW; split <;> rfl
set_option maxHeartbeats 8000000 in
set_option maxRecDepth 100000 in
theorem script_good (w : World) (n : Nat) (h1 : 1 ≤ n) (h2 : n ≤ 100) (a : Option Addr) (cap : Nat) (l : List OpV) (hO : OpsAt w a l) :
    Calls Try.prog 3 #[.int .i64 (n : Int), .slice a l.length cap] w fun e w' => e = .returned (.bool true) ∧ Below w.heap.size w w' := by
  have H1 := hideIt (fun W => new_good n W h1 h2)
  have H2 := hideIt (fun W => refNew_good n W h1 h2)
  have HO := hideIt hO
  clear hO
  go_enter Try.func3, Try.ntmps3
  go_wp2_with fail
  refine (H1.out _).mono ?_
  rintro e w1 ⟨p, rfl, hw1, hb1, hp1⟩
  dsimp only
  have HX1 := hideIt (And.intro hw1 (And.intro hb1 hp1))
  clear hw1 hb1
  go_wp2_with fail
  refine (H2.out _).mono ?_
  rintro e w2 ⟨q, rfl, hw2, hb2⟩
  dsimp only
  have HX2 := hideIt (And.intro hw2 hb2)
  clear hw2 hb2
  go_wp2_with fail
  refine (begun_is _).mono ?_
  rintro e w3 ⟨rfl, hb3⟩
  dsimp only
  have HP := hideIt (pr0_start HX1.out.1 HX1.out.2.1 HX1.out.2.2 HX2.out.1 HX2.out.2 hb3)
  clear HX1 HX2 hb3 H1 H2 hp1
  go_wp2
  go_loopw [9] (fun v9 wr => ∃ (i : Nat) (S : Wh), v9 = .int .i64 i ∧ i ≤ 40 ∧ S.now ≤ 1201 * i ∧ Hid (Pr0 w p q S wr)) (fun v9 _ => 40 - (intOf v9).toNat)
  case atStart => exact ⟨0, _, rfl, Nat.zero_le _, Nat.le_refl _, HP⟩
  case round =>
    clear HP
    obtain ⟨i, S, rfl, hi, hS, HP⟩ := hrel
    by_cases hA : i < l.length
    · have hA0 : (0 : Int) ≤ (i : Int) := by omega
      have hA1 : (i : Int) < (l.length : Int) := by omega
      by_cases hB : i < 40
      · have hB1 : (i : Int) < 40 := by omega
        obtain ⟨b, off, rfl, hbl, q0, q1, q2, b0, b1, b2⟩ := HO.out i hA
        obtain ⟨_, _, _, _, _, _, hBw⟩ := HP.out
        have hBS := hBw.size
        have c0 := (hBw.cell (p := ⟨b, off + i * 3, none⟩) hbl).trans q0
        have c1 := (hBw.cell (p := ⟨b, off + i * 3 + 1, none⟩) hbl).trans q1
        have c2 := (hBw.cell (p := ⟨b, off + i * 3 + 2, none⟩) hbl).trans q2
        have hblr : b < wr.heap.size := by omega
        generalize (l[i]).dO = dO at *
        generalize (l[i]).key = ky at *
        generalize (l[i]).n = nn at *
        have HQ := hideIt (HP.out.alloc (.cells #[.int .i64 dO, .int .i64 ky, .int .i64 nn] 32))
        clear q0 q1 q2 hBw
        go_upto_block 2 with fail
        generalize wr.alloc (.cells #[.int .i64 dO, .int .i64 ky, .int .i64 nn] 32) = X at *
        generalize hz : wr.heap.size = z at *
        clear hz hblr
        have hPX := HQ.out
        have hPd := hPX.drew
        obtain ⟨k1, k2⟩ := hPX.cells
        have k0 : X.cell? ⟨z, 0, none⟩ = some (.int .i64 dO) := by rw [cell_at hPX.block]; rfl
        have hN : S.now < 1000000000 := by omega
        go_cut [11, 12, 13] from 38 to 114 (fun _ _ _ wx => ∃ S' : Wh, S'.now ≤ 1201 * (i + 1) ∧ Hid (Pr w p q z (.cells #[.int .i64 dO, .int .i64 ky, .int .i64 nn] 32) S' S' [] none wx))
        case first =>
          by_cases hD0 : dO = 0
          · subst hD0
            have HC := hideIt (fun W S2 (h : Pr w p q z (.cells #[.int .i64 0, .int .i64 ky, .int .i64 nn] 32) S S2 [] none W) => h.setC hN)
            have HR := hideIt (fun W S1 (h : Pr w p q z (.cells #[.int .i64 0, .int .i64 ky, .int .i64 nn] 32) S1 S [] none W) => h.rsetC)
            generalize setE S ky nn = E at *
            go_wp2_with fail
            go_region_held3 (fun w' => w'.cell? ⟨z, 1, none⟩ = some (.int .i64 ky) ∧ w'.cell? ⟨z, 2, none⟩ = some (.int .i64 nn)) (go_keep) (first | (go_at_call 9; refine (HC.out _ _ (by assumption)).mono ?_; rintro e w5 ⟨rfl, hst, j1, j2⟩) | (go_at_call 10; refine (HR.out _ _ (by assumption)).mono ?_; rintro e w5 ⟨rfl, hst, j1, j2⟩))
            all_goals go_wp2_with fail
            all_goals go_meet
            all_goals exact ⟨setW S ky nn, by rw [setW_now]; omega, hideIt hst⟩
          · have hD0b : (dO == 0) = false := beq_eq_false_iff_ne.2 hD0
            by_cases hD1 : dO = 1
            · subst hD1
              have HC := hideIt (fun W S2 (h : Pr w p q z (.cells #[.int .i64 1, .int .i64 ky, .int .i64 nn] 32) S S2 [] none W) => h.stopC hN)
              have HR := hideIt (fun W S1 (h : Pr w p q z (.cells #[.int .i64 1, .int .i64 ky, .int .i64 nn] 32) S1 S [] none W) => h.rstopC)
              generalize stopE S ky = E at *
              go_wp2_with fail
              go_region_held3 (fun w' => w'.cell? ⟨z, 1, none⟩ = some (.int .i64 ky) ∧ w'.cell? ⟨z, 2, none⟩ = some (.int .i64 nn)) (go_keep) (first | (go_at_call 11; refine (HC.out _ _ (by assumption)).mono ?_; rintro e w5 ⟨rfl, hst, j1, j2⟩) | (go_at_call 12; refine (HR.out _ _ (by assumption)).mono ?_; rintro e w5 ⟨rfl, hst, j1, j2⟩))
              all_goals go_wp2_with fail
              all_goals go_meet
              all_goals exact ⟨stopW S ky, by rw [stopW_now]; omega, hideIt hst⟩
            · have hD1b : (dO == 1) = false := beq_eq_false_iff_ne.2 hD1
              by_cases hD2 : dO = 2
              · subst hD2
                clear hD0 hD1 hD0b hD1b
                obtain ⟨m, hm⟩ : ∃ m, pickN nn 1201 = m := ⟨_, rfl⟩
                have hmb : m < 1201 := by rw [← hm]; exact pickN_lt _ _ (by decide)
                have HPK := hideIt (fun W => pick_is nn 1201 W b2.1 b2.2 (by decide) (by decide))
                rw [hm] at HPK
                clear hm hPX hPd
                go_wp2_with fail
                refine (HPK.out _).mono ?_
                rintro e w5 ⟨rfl, rfl⟩
                dsimp only
                go_wp2
                go_loopw [11, 12, 13] (fun v11 _ _ wr => ∃ (j : Nat) (S' : Wh), v11 = .int .i64 j ∧ j ≤ 1200 ∧ S'.now + j ≤ 1201 * (i + 1) ∧ Hid (Pr w p q z (.cells #[.int .i64 2, .int .i64 ky, .int .i64 nn] 32) S' S' [] none wr)) (fun v11 _ _ _ => (intOf v11).toNat)
                case atStart => exact ⟨m, S, rfl, by omega, by omega, HQ⟩
                case round =>
                  clear HQ
                  obtain ⟨j, S', rfl, hj, hS', HQ⟩ := hrel
                  by_cases hj0 : 0 < j
                  · have hjI : (0 : Int) < (j : Int) := by omega
                    have hN' : S'.now < 1000000000 := by omega
                    have HTK := hideIt (HQ.out.tick hN')
                    obtain ⟨hkeys, hkb⟩ := HQ.out.keys
                    have HKEYS := hideIt hkeys
                    clear hkeys HQ
                    go_wp2_with fail
                    refine HTK.out.mono ?_
                    rintro e w6 ⟨r1, rfl, hP6⟩
                    dsimp only
                    have HRT := hideIt (hP6.rtick HKEYS.out hN')
                    clear hP6 HTK
                    go_wp2_with fail
                    refine HRT.out.mono ?_
                    rintro e w7 ⟨r2, rfl, hrow2, hP7⟩
                    dsimp only
                    have hdl : (dueL S').length ≤ 1000000 := by have : (dueL S').length ≤ S'.keys := dueT_len S' S'.keys; omega
                    have HSM := hideIt (same_is hP7.row hrow2 hdl)
                    rw [decide_eq_true rfl] at HSM
                    obtain ⟨a6, c6, hv6, hc6⟩ := hP7.row.shape
                    have hr6 : 0 < (dueL S').length → ∃ g, r1 = some (g, c6) ∧ a6 = some ⟨g, 0, none⟩ ∧ (dueL S').length ≤ c6 := by
                      intro hpos
                      have hrow := hP7.row
                      cases r1 with
                      | none => have : dueL S' = [] := hrow; rw [this] at hpos; cases hpos
                      | some gc =>
                        obtain ⟨g, c⟩ := gc
                        simp only [sval, Value.slice.injEq] at hv6
                        obtain ⟨e1, _, e3⟩ := hv6
                        subst e3
                        exact ⟨g, rfl, e1.symm, (IRow.le hrow).1⟩
                    rw [hv6] at HSM ⊢
                    have HP7 := hideIt hP7
                    have HR6 := hideIt hr6
                    clear hP7 hrow2 HRT hr6 hc6 hv6
                    generalize sval (dueL S') r2 = v2 at *
                    generalize (dueL S').length = D at *
                    go_wp2_with fail
                    refine HSM.out.mono ?_
                    rintro e w8 ⟨rfl, hb8⟩
                    dsimp only
                    have HP8 := hideIt (HP7.out.below hb8)
                    clear hb8 HSM HP7
                    go_wp2
                    go_loopw [13] (fun v13 wr => ∃ (t : Nat) (l' : List Nat), v13 = .int .i64 t ∧ t ≤ D ∧ Hid (Pr w p q z (.cells #[.int .i64 2, .int .i64 ky, .int .i64 nn] 32) (tickS S') (tickS S') l' r1 wr)) (fun v13 _ => D - (intOf v13).toNat)
                    case atStart => exact ⟨0, _, rfl, Nat.zero_le _, HP8⟩
                    case round =>
                      clear HP8
                      obtain ⟨t, l', rfl, ht, HP8⟩ := hrel
                      by_cases htl : t < D
                      · obtain ⟨g, rfl, rfl, hDc⟩ := HR6.out (by omega)
                        have htI : (t : Int) < (D : Int) := by omega
                        have ht0 : (0 : Int) ≤ (t : Int) := by omega
                        obtain ⟨cur, hg, _, _, hcs, _⟩ := (show IRow wr g c6 l' from HP8.out.row)
                        have hct : ∃ v, wr.cell? ⟨g, t, none⟩ = some v := by rw [cell_at hg]; exact ⟨_, Array.getElem?_eq_getElem (by omega)⟩
                        obtain ⟨vt, hct⟩ := hct
                        have hft : wr.frozen? ⟨g, t, none⟩ = false := free_at hg _
                        have HP9 := hideIt (HP8.out.write t (.int .i64 (-7)))
                        clear hg hcs HP8
                        go_wp2
                        go_roundw
                        case rel => exact ⟨t + 1, [], by go_num, by omega, HP9⟩
                        case measure => simp [intOf]; omega
                      · have htI : ¬ (t : Int) < (D : Int) := by omega
                        have HP9 := hideIt HP8.out.forget
                        clear HP8
                        go_wp2
                        go_roundw
                        case rel => exact ⟨j - 1, tickS S', by congr 1; omega, by omega, by show S'.now + 1 + (j - 1) ≤ _; omega, HP9⟩
                        case measure => simp [intOf]; omega
                  · have hjI : ¬ (0 : Int) < (j : Int) := by omega
                    go_wp2_with fail
                    go_meet
                    exact ⟨S', by omega, HQ⟩
              · have hD2b : (dO == 2) = false := beq_eq_false_iff_ne.2 hD2
                go_wp2_with fail
                go_meet
                exact ⟨S, by omega, HQ⟩
        case rest =>
          clear HQ hPX hPd k1 k2 k0 HP
          obtain ⟨S', hS', HQ⟩ := hcut
          have hN' : S'.now < 1000000000 := by omega
          obtain ⟨d1, d2⟩ := HQ.out.cells
          have HLK := hideIt (looks_is HQ.out ky hN')
          clear HQ
          go_wp2_with fail
          refine HLK.out.mono ?_
          rintro e w6 ⟨rfl, hP6⟩
          dsimp only
          have HP6 := hideIt hP6.less
          clear hP6 HLK
          go_wp2
          go_roundw
          case rel => exact ⟨i + 1, S', by go_num, by omega, hS', HP6⟩
          case measure => simp [intOf]; omega
      · have hB1 : ¬ (i : Int) < 40 := by omega
        obtain ⟨_, _, _, _, _, _, hBw⟩ := HP.out
        have HBW := hideIt hBw
        clear hBw
        go_wp2
        go_ret
        exact ⟨rfl, HBW.out⟩
    · have hA1 : ¬ (i : Int) < (l.length : Int) := by omega
      obtain ⟨_, _, _, _, _, _, hBw⟩ := HP.out
      have HBW := hideIt hBw
      clear hBw
      go_wp2
      go_ret
      exact ⟨rfl, HBW.out⟩
end Go.Proofs.Ytebinckkghmkhaa
