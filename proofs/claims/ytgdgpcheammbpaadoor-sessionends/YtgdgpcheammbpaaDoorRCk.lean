/- The document's Check. -/
import Derived.Test.YtgdgpcheammbpaaDoorSam
import Derived.Test.YtgdgpcheammbpaaDoorRFt
namespace Go.Proofs.YtgdgpcheammbpaaDoor
open Go.RowKit
set_option linter.all false
set_option maxHeartbeats 4000000 in
theorem sameA0 (a : Option Addr) (m c : Nat) (w : World) : Calls Tryd.prog 44 #[.slice a m c, .slice none 0 0] w fun e w' => e = .returned (.bool (decide (m = 0))) ∧ w' = w := by
  by_cases h : m = 0
  · subst h
    go_enter Tryd.func44, Tryd.ntmps44
    go_wp2
    go_loopw [5] (fun x wr => x = .int .i64 0 ∧ wr = w) (fun x _ => 0)
    case atStart => exact ⟨rfl, rfl⟩
    case round =>
      obtain ⟨rfl, hw⟩ := hrel
      have hw2 := hw.symm
      subst hw2
      go_wp2
      go_ret
      exact ⟨rfl, rfl⟩
  · have hI : ¬ (m : Int) = 0 := by omega
    have hI2 : ((m : Int) != 0) = true := by simpa using h
    rw [decide_eq_false h]
    go_enter Tryd.func44, Tryd.ntmps44
    go_wp2
    go_ret
    exact ⟨rfl, rfl⟩
set_option maxHeartbeats 4000000 in
theorem sameF0 (a : Option Addr) (m c : Nat) (w : World) : Calls Tryd.prog 45 #[.slice a m c, .slice none 0 0] w fun e w' => e = .returned (.bool (decide (m = 0))) ∧ w' = w := by
  by_cases h : m = 0
  · subst h
    go_enter Tryd.func45, Tryd.ntmps45
    go_wp2
    go_loopw [5] (fun x wr => x = .int .i64 0 ∧ wr = w) (fun x _ => 0)
    case atStart => exact ⟨rfl, rfl⟩
    case round =>
      obtain ⟨rfl, hw⟩ := hrel
      have hw2 := hw.symm
      subst hw2
      go_wp2
      go_ret
      exact ⟨rfl, rfl⟩
  · have hI : ¬ (m : Int) = 0 := by omega
    have hI2 : ((m : Int) != 0) = true := by simpa using h
    rw [decide_eq_false h]
    go_enter Tryd.func45, Tryd.ntmps45
    go_wp2
    go_ret
    exact ⟨rfl, rfl⟩
set_option maxHeartbeats 4000000 in
theorem sameZ_is (x : AnsX) (w : World) : Calls Tryd.prog 22 #[.agg x.cs, .agg #[.int .i64 0, .int .i64 0, .slice none 0 0, .slice none 0 0]] w fun e w' => e = .returned (.bool (zAb x.v)) ∧ Below w.heap.size w w' := by
  obtain ⟨⟨code, num, am, fl⟩, aa, ac, fa, fc⟩ := x
  simp only [AnsX.cs, AnsX.am, AnsX.fl, zAb]
  have H1 := hideIt (fun W => sameA0 aa am.length ac W)
  have H2 := hideIt (fun W => sameF0 fa fl.length fc W)
  generalize decide (am.length = 0) = b1 at *
  generalize decide (fl.length = 0) = b2 at *
  generalize am.length = n at *
  generalize fl.length = m at *
  have B0 := hideIt (below2 w (.cells #[.int .i64 code, .int .i64 num, .slice aa n ac, .slice fa m fc] 44) (.cells #[.int .i64 0, .int .i64 0, .slice none 0 0, .slice none 0 0] 44))
  by_cases h0 : code = 0
  · subst h0
    by_cases h1 : num = 0
    · subst h1
      go_enter Tryd.func22, Tryd.ntmps22
      go_wp2_with fail
      refine (H1.out _).mono ?_
      rintro e w1 ⟨rfl, rfl⟩
      dsimp only
      cases b1
      · go_wp2
        go_ret
        exact ⟨by simp, B0.out⟩
      · go_wp2_with fail
        refine (H2.out _).mono ?_
        rintro e w1 ⟨rfl, rfl⟩
        dsimp only
        go_wp2
        go_ret
        exact ⟨by simp, B0.out⟩
    · go_enter Tryd.func22, Tryd.ntmps22
      go_wp2
      go_ret
      exact ⟨by simp [h1], B0.out⟩
  · go_enter Tryd.func22, Tryd.ntmps22
    go_wp2
    go_ret
    exact ⟨by simp [h0], B0.out⟩
/-- The client ahead. -/
def ahC (l : List SesX) : Nat → Int
  | 0 => 0
  | t + 1 => (l.getD t ⟨0, 0, false, zAnsX⟩).c
set_option maxHeartbeats 16000000 in
set_option maxRecDepth 100000 in
theorem rCheck_is (v : Value) (l : List SesX) (w : World) (h : Sess w v l) : Calls Tryd.prog 21 #[v] w fun e w' => e = .returned (.int .i64 (chkE (l.map SesX.v))) ∧ Below w.heap.size w w' := by
  obtain ⟨a, c, rfl, h8, hr⟩ := h.seven
  have HH := hideIt hr
  have HZ := hideIt (fun x W => sameZ_is x W)
  have HE : Hid (chkE (l.map SesX.v) = bE (chkS (ahC l 0) ((l.drop 0).map SesX.v))) := by
    show _ = _
    rw [List.drop_zero, chkE]
    rfl
  clear hr h
  generalize chkE (l.map SesX.v) = R at *
  go_enter Tryd.func21, Tryd.ntmps21
  go_wp2
  go_loopw [3] (fun x wr => ∃ t : Nat, x = .int .i64 t ∧ t ≤ l.length ∧ Hid (R = bE (chkS (ahC l t) ((l.drop t).map SesX.v)) ∧ Below w.heap.size w wr)) (fun x _ => l.length - (intOf x).toNat)
  case atStart => exact ⟨0, rfl, Nat.zero_le _, hideIt ⟨HE.out, Below.refl _ _⟩⟩
  case round =>
    clear HE
    obtain ⟨t, rfl, ht, HR⟩ := hrel
    by_cases hlt : t < l.length
    · have hltI : (t : Int) < (l.length : Int) := by omega
      have ht0 : (0 : Int) ≤ (t : Int) := by omega
      have hB := HR.out.2
      have HPV := hideIt (fun k (hk : k < l.length) => HH.out k hk)
      obtain ⟨b, off, rfl, hbl, q0, q1, q2, q3, q4, q5, q6⟩ := HH.out t hlt
      have c0 := (hB.cell (p := ⟨b, off + t * 7, none⟩) hbl).trans q0
      have c1 := (hB.cell (p := ⟨b, off + t * 7 + 1, none⟩) hbl).trans q1
      have c2 := (hB.cell (p := ⟨b, off + t * 7 + 2, none⟩) hbl).trans q2
      have c3 := (hB.cell (p := ⟨b, off + t * 7 + 3, none⟩) hbl).trans q3
      have c4 := (hB.cell (p := ⟨b, off + t * 7 + 4, none⟩) hbl).trans q4
      have c5 := (hB.cell (p := ⟨b, off + t * 7 + 5, none⟩) hbl).trans q5
      have c6 := (hB.cell (p := ⟨b, off + t * 7 + 6, none⟩) hbl).trans q6
      have hblr : b < wr.heap.size := Nat.lt_of_lt_of_le hbl hB.size
      clear q0 q1 q2 q3 q4 q5 q6
      have HS : Hid (R = bE (okS (ahC l t) l[t].v && chkS l[t].c ((l.drop (t + 1)).map SesX.v))) := by
        show _ = _
        rw [HR.out.1, chk_drop hlt]
      have HAH : Hid (ahC l (t + 1) = l[t].c) := by
        show _ = _
        show (l.getD t ⟨0, 0, false, zAnsX⟩).c = _
        rw [List.getD_eq_getElem?_getD, List.getElem?_eq_getElem hlt]
        rfl
      have HPC : Hid (∀ k, t = k + 1 → wr.cell? ⟨b, off + k * 7, none⟩ = some (.int .i64 (ahC l t))) := by
        intro k hk
        subst hk
        obtain ⟨b', off', e', hbl', p0, -⟩ := HPV.out k (by omega)
        simp only [Option.some.injEq, Addr.mk.injEq] at e'
        obtain ⟨rfl, rfl, -⟩ := e'
        rw [(HR.out.2.cell (p := ⟨b, off + k * 7, none⟩) hbl').trans p0]
        show _ = some (Value.int .i64 (l.getD k ⟨0, 0, false, zAnsX⟩).c)
        rw [List.getD_eq_getElem?_getD, List.getElem?_eq_getElem (by omega)]
        rfl
      have HZ2 := hideIt (fun W => HZ.out l[t].x W)
      clear HH HPV hB
      have HB := hideIt HR.out.2
      clear HR HZ
      generalize l[t] = s at *
      obtain ⟨sc, sq, sd, ⟨⟨code, num, am, fl⟩, aa, ac, fa, fc⟩⟩ := s
      simp only [AnsX.am, AnsX.fl, AnsX.cs, SesX.v, okS, namB] at c0 c1 c2 c3 c4 c5 c6 HZ2 HS HAH
      have HWA := hideIt (fun x lo hi W => withinR_is x lo hi W)
      generalize am.length = n at *
      generalize fl.length = m at *
      generalize zAb ⟨code, num, am, fl⟩ = bz at *
      have hb1 := below1 wr (.cells #[.int .i64 sc, .int .i64 sq, .bool sd, .int .i64 code, .int .i64 num, .slice aa n ac, .slice fa m fc] 69)
      have HX := hideIt (And.intro (heap_alloc_new wr (.cells #[.int .i64 sc, .int .i64 sq, .bool sd, .int .i64 code, .int .i64 num, .slice aa n ac, .slice fa m fc] 69)) (below_via HB.out hb1))
      have HPW := hideIt hb1
      go_upto_region 5 with fail
      have hblW : b < (wr.alloc (.cells #[.int .i64 sc, .int .i64 sq, .bool sd, .int .i64 code, .int .i64 num, .slice aa n ac, .slice fa m fc] 69)).heap.size := Nat.lt_of_lt_of_le hblr hb1.size
      have HPC2 : Hid (∀ k, t = k + 1 → (wr.alloc (.cells #[.int .i64 sc, .int .i64 sq, .bool sd, .int .i64 code, .int .i64 num, .slice aa n ac, .slice fa m fc] 69)).cell? ⟨b, off + k * 7, none⟩ = some (.int .i64 (ahC l t))) := fun k hk => (hb1.cell (p := ⟨b, off + k * 7, none⟩) hblr).trans (HPC.out k hk)
      clear hb1 HB c0 c1 c2 c3 c4 c5 c6 hblr HPC HPW
      generalize wr.alloc (.cells #[.int .i64 sc, .int .i64 sq, .bool sd, .int .i64 code, .int .i64 num, .slice aa n ac, .slice fa m fc] 69) = W at *
      generalize wr.heap.size = K at *
      obtain ⟨⟨g0, g1, g2, g3, g4, g5, g6⟩, -, gz⟩ := seven_at HX.out.1
      obtain ⟨b1, hb1⟩ : ∃ z, wiB sc 1 6 = z := ⟨_, rfl⟩
      obtain ⟨b2, hb2⟩ : ∃ z, wiB sq 1 100000 = z := ⟨_, rfl⟩
      rw [hb1] at HS
      rw [hb2] at HS
      cases b1
      · clear HPC2
        go_upto_region 5 with fail
        go_quiet (first | (go_at_call 29; exact Calls.quiet_of_same (HWA.out _ _ _ _)))
        have HB2 := hideIt (below_drewN HX.out.2 nq)
        have HK2 : Hid ((W.drewN nq).heap[K]? = some (.cells #[.int .i64 sc, .int .i64 sq, .bool sd, .int .i64 code, .int .i64 num, .slice aa n ac, .slice fa m fc] 69 (0, 0))) := HX.out.1
        clear HX
        generalize W.drewN nq = Wq at *
        go_wp2
        go_ret
        exact ⟨by rw [HS.out]; simp [bE], HB2.out⟩
      · cases b2
        · clear HPC2
          go_upto_region 5 with fail
          go_quiet (first | (go_at_call 29; exact Calls.quiet_of_same (HWA.out _ _ _ _)))
          have HB2 := hideIt (below_drewN HX.out.2 nq)
          have HK2 : Hid ((W.drewN nq).heap[K]? = some (.cells #[.int .i64 sc, .int .i64 sq, .bool sd, .int .i64 code, .int .i64 num, .slice aa n ac, .slice fa m fc] 69 (0, 0))) := HX.out.1
          clear HX
          generalize W.drewN nq = Wq at *
          go_wp2
          go_ret
          exact ⟨by rw [HS.out]; simp [bE], HB2.out⟩
        · have h6 : 1 ≤ sc ∧ sc ≤ 6 := of_decide_eq_true hb1
          by_cases htz : 0 < t
          · obtain ⟨k, hk⟩ : ∃ k, t = k + 1 := ⟨t - 1, by omega⟩
            have p0 := HPC2.out k hk
            have htI : (0 : Int) < (t : Int) := by omega
            have htd : decide (0 < t) = true := decide_eq_true htz
            have hkI : (0 : Int) ≤ (k : Int) := by omega
            have hkl : (k : Int) < (l.length : Int) := by omega
            have hwk : IntKind.i64.wrap ((t : Int) - 1) = (k : Int) := by rw [IntKind.wrap_i64]; omega
            have HAL : Hid (∃ z, ahC l t = z) := ⟨_, rfl⟩
            obtain ⟨ah, hah⟩ := HAL.out
            rw [hah] at p0 HS
            clear hah HAL HPC2 hk h6
            by_cases hc : ah < sc
            · have hcI : ¬ sc ≤ ah := by omega
              have hcd : decide (sc ≤ ah) = false := decide_eq_false hcI
              have hl0 : ltB ah sc = true := decide_eq_true hc
              rw [hl0] at HS
              clear hl0 hc
              go_upto_region 5 with fail
              go_quiet (first | (go_at_call 29; exact Calls.quiet_of_same (HWA.out _ _ _ _)))
              have HB2 := hideIt (below_drewN HX.out.2 nq)
              have HK2 : Hid ((W.drewN nq).heap[K]? = some (.cells #[.int .i64 sc, .int .i64 sq, .bool sd, .int .i64 code, .int .i64 num, .slice aa n ac, .slice fa m fc] 69 (0, 0))) := HX.out.1
              clear HX
              generalize W.drewN nq = Wq at *
              obtain ⟨⟨k0, k1, k2, k3, k4, k5, k6⟩, -, kz⟩ := seven_at HK2.out
              cases sd
              · go_wp2_with fail
                refine (HZ2.out _).mono ?_
                rintro e w2 ⟨rfl, hb⟩
                dsimp only
                have HB3 := hideIt (below_via HB2.out hb)
                clear HZ2 hb HB2
                cases bz
                · go_wp2
                  go_ret
                  exact ⟨by rw [HS.out]; simp [bE], HB3.out⟩
                · have HS2 : Hid (R = bE (chkS (ahC l (t + 1)) ((l.drop (t + 1)).map SesX.v))) := by
                    show _ = _
                    rw [HS.out, HAH.out]
                    simp
                  clear HS
                  go_wp2
                  go_roundw
                  case rel => exact ⟨t + 1, by go_num, by omega, hideIt ⟨HS2.out, HB3.out⟩⟩
                  case measure => simp [intOf]; omega
              · have HS2 : Hid (R = bE (chkS (ahC l (t + 1)) ((l.drop (t + 1)).map SesX.v))) := by
                  show _ = _
                  rw [HS.out, HAH.out]
                  simp
                clear HS
                go_wp2
                go_roundw
                case rel => exact ⟨t + 1, by go_num, by omega, hideIt ⟨HS2.out, HB2.out⟩⟩
                case measure => simp [intOf]; omega
            · have hcI : sc ≤ ah := by omega
              have hl0 : ltB ah sc = false := decide_eq_false hc
              rw [hl0] at HS
              clear hl0 hc
              go_upto_region 5 with fail
              go_quiet (first | (go_at_call 29; exact Calls.quiet_of_same (HWA.out _ _ _ _)))
              have HB2 := hideIt (below_drewN HX.out.2 nq)
              have HK2 : Hid ((W.drewN nq).heap[K]? = some (.cells #[.int .i64 sc, .int .i64 sq, .bool sd, .int .i64 code, .int .i64 num, .slice aa n ac, .slice fa m fc] 69 (0, 0))) := HX.out.1
              clear HX
              generalize W.drewN nq = Wq at *
              go_wp2
              go_ret
              exact ⟨by rw [HS.out]; simp [bE], HB2.out⟩
          · have htI : ¬ (0 : Int) < (t : Int) := by omega
            have htd : decide ((0 : Int) < (t : Int)) = false := decide_eq_false htI
            have htd2 : decide (0 < t) = false := decide_eq_false htz
            have hl0 : ltB (ahC l t) sc = true := by
              have : t = 0 := by omega
              subst this
              exact decide_eq_true (show (0 : Int) < sc by omega)
            rw [hl0] at HS
            clear hl0 HPC2 h6
            go_upto_region 5 with fail
            go_quiet (first | (go_at_call 29; exact Calls.quiet_of_same (HWA.out _ _ _ _)))
            have HB2 := hideIt (below_drewN HX.out.2 nq)
            have HK2 : Hid ((W.drewN nq).heap[K]? = some (.cells #[.int .i64 sc, .int .i64 sq, .bool sd, .int .i64 code, .int .i64 num, .slice aa n ac, .slice fa m fc] 69 (0, 0))) := HX.out.1
            clear HX
            generalize W.drewN nq = Wq at *
            obtain ⟨⟨k0, k1, k2, k3, k4, k5, k6⟩, -, kz⟩ := seven_at HK2.out
            cases sd
            · go_wp2_with fail
              refine (HZ2.out _).mono ?_
              rintro e w2 ⟨rfl, hb⟩
              dsimp only
              have HB3 := hideIt (below_via HB2.out hb)
              clear HZ2 hb HB2
              cases bz
              · go_wp2
                go_ret
                exact ⟨by rw [HS.out]; simp [bE], HB3.out⟩
              · have HS2 : Hid (R = bE (chkS (ahC l (t + 1)) ((l.drop (t + 1)).map SesX.v))) := by
                  show _ = _
                  rw [HS.out, HAH.out]
                  simp
                clear HS
                go_wp2
                go_roundw
                case rel => exact ⟨t + 1, by go_num, by omega, hideIt ⟨HS2.out, HB3.out⟩⟩
                case measure => simp [intOf]; omega
            · have HS2 : Hid (R = bE (chkS (ahC l (t + 1)) ((l.drop (t + 1)).map SesX.v))) := by
                show _ = _
                rw [HS.out, HAH.out]
                simp
              clear HS
              go_wp2
              go_roundw
              case rel => exact ⟨t + 1, by go_num, by omega, hideIt ⟨HS2.out, HB2.out⟩⟩
              case measure => simp [intOf]; omega
    · have hltI : ¬ (t : Int) < (l.length : Int) := by omega
      have HG := hideIt HR.out
      rw [List.drop_eq_nil_of_le (by omega)] at HG
      clear HR HH
      go_wp2
      go_ret
      exact ⟨by rw [HG.out.1]; rfl, HG.out.2⟩
end Go.Proofs.YtgdgpcheammbpaaDoor
