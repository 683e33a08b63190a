/- The document's put, walked. -/
import Derived.Test.YtgdgpcheammbpaaDoorRPt
namespace Go.Proofs.YtgdgpcheammbpaaDoor
open Go.RowKit
set_option linter.all false
theorem put_dn {l : List SesX} {t : Nat} {s : SesX} (h : t < l.length) (d : Bool) : putF s d (l.drop t) = if d = true then (if l[t].c = s.c then putF s true (l.drop (t + 1)) else l[t] :: putF s true (l.drop (t + 1))) else (if s.c ≤ l[t].c then (if l[t].c = s.c then s :: putF s true (l.drop (t + 1)) else s :: l[t] :: putF s true (l.drop (t + 1))) else l[t] :: putF s false (l.drop (t + 1))) := by
  rw [List.drop_eq_getElem_cons h]
  cases d <;> simp [putF]
set_option maxHeartbeats 16000000 in
set_option maxRecDepth 100000 in
theorem put_is (v : Value) (l : List SesX) (one : SesX) (w : World) (h : Sess w v l) (hl : l.length ≤ 6) : Calls Tryd.prog 41 #[v, .agg (sesE one).toArray] w (PutBack (putF one false l) w) := by
  have HFIN : Hid (∀ a n c W, PO w (sesE one).toArray (putF one false l) (.slice a n c) W → n = (putF one false l).length → PutBack (putF one false l) w (.returned (.slice a n c)) W) := by
    rintro a n c W hp rfl
    exact ⟨a, c, rfl, own_base hp.row (by omega), hp.bel⟩
  obtain ⟨a, c, rfl, h8, hr⟩ := h.seven
  have HH := hideIt hr
  have hlen := put_len one l
  clear hr h
  have X0 : Hid (PO w (sesE one).toArray [] (.slice none 0 0) (w.alloc (.cells (sesE one).toArray 69))) := ⟨own_nil _ _, heap_alloc_new w _, below1 w _⟩
  have HPD := hideIt (fun t (ht : t < l.length) d => put_dn (s := one) ht d)
  have HI : Hid (putF one false l = [] ++ putF one false (l.drop 0)) := by
    show _ = _
    rw [List.drop_zero, List.nil_append]
  generalize putF one false l = R at *
  obtain ⟨oc, oq, od, ⟨⟨ocode, onum, oam, ofl⟩, oaa, oac, ofa, ofc⟩⟩ := one
  simp only [sesE, AnsX.am, AnsX.fl] at X0 HFIN ⊢
  have HAP1 := hideIt (fun pre u W (hp : PO w (sesE ⟨oc, oq, od, ⟨⟨ocode, onum, oam, ofl⟩, oaa, oac, ofa, ofc⟩⟩).toArray pre u W) hl => hp.app ⟨oc, oq, od, ⟨⟨ocode, onum, oam, ofl⟩, oaa, oac, ofa, ofc⟩⟩ hl)
  simp only [sesE, AnsX.am, AnsX.fl] at HAP1
  go_enter Tryd.func41, Tryd.ntmps41
  go_wp2
  go_loopw [5, 6, 7] (fun u dv x wr => ∃ t : Nat, ∃ ua un uc, ∃ dn : Bool, ∃ pre, u = .slice ua un uc ∧ dv = .bool dn ∧ x = .int .i64 t ∧ t ≤ l.length ∧ pre.length ≤ 2 * t ∧ un = pre.length ∧ Hid (R = pre ++ putF ⟨oc, oq, od, ⟨⟨ocode, onum, oam, ofl⟩, oaa, oac, ofa, ofc⟩⟩ dn (l.drop t)) ∧ Hid (PO w #[.int .i64 oc, .int .i64 oq, .bool od, .int .i64 ocode, .int .i64 onum, .slice oaa oam.length oac, .slice ofa ofl.length ofc] pre (.slice ua un uc) wr)) (fun _ _ x _ => l.length - (intOf x).toNat)
  case atStart => exact ⟨0, none, 0, 0, false, [], rfl, rfl, rfl, Nat.zero_le _, by simp, rfl, HI, X0⟩
  case round =>
    clear HI X0
    obtain ⟨t, ua, un, uc, dn, pre, rfl, rfl, rfl, ht, hpl, hun, HRS, HP⟩ := hrel
    by_cases hlt : t < l.length
    · have hltI : (t : Int) < (l.length : Int) := by omega
      have ht0 : (0 : Int) ≤ (t : Int) := by omega
      obtain ⟨b, off, rfl, hbl, q0, q1, q2, q3, q4, q5, q6⟩ := HH.out t hlt
      have hD := HPD.out t hlt dn
      have HAPx := hideIt (fun pre u W (hp : PO w #[.int .i64 oc, .int .i64 oq, .bool od, .int .i64 ocode, .int .i64 onum, .slice oaa oam.length oac, .slice ofa ofl.length ofc] pre u W) hl => hp.app l[t] hl)
      rw [hD] at HRS
      clear HH HPD hD
      generalize l[t] = s at *
      obtain ⟨sc, sq, sd, ⟨⟨code, num, am, fl⟩, aa, ac, fa, fc⟩⟩ := s
      simp only [AnsX.am, AnsX.fl, sesE] at q0 q1 q2 q3 q4 q5 q6 HAPx
      dsimp only at HRS
      subst hun
      have c0 := (HP.out.bel.cell (p := ⟨b, off + t * 7, none⟩) hbl).trans q0
      have c1 := (HP.out.bel.cell (p := ⟨b, off + t * 7 + 1, none⟩) hbl).trans q1
      have c2 := (HP.out.bel.cell (p := ⟨b, off + t * 7 + 2, none⟩) hbl).trans q2
      have c3 := (HP.out.bel.cell (p := ⟨b, off + t * 7 + 3, none⟩) hbl).trans q3
      have c4 := (HP.out.bel.cell (p := ⟨b, off + t * 7 + 4, none⟩) hbl).trans q4
      have c5 := (HP.out.bel.cell (p := ⟨b, off + t * 7 + 5, none⟩) hbl).trans q5
      have c6 := (HP.out.bel.cell (p := ⟨b, off + t * 7 + 6, none⟩) hbl).trans q6
      have hblr : b < wr.heap.size := Nat.lt_of_lt_of_le hbl HP.out.bel.size
      obtain ⟨⟨g0, g1, g2, g3, g4, g5, g6⟩, -, gz⟩ := seven_at HP.out.bx
      cases dn
      · rw [if_neg (by simp)] at HRS
        by_cases hge : oc ≤ sc
        · rw [if_pos hge] at HRS
          go_upto_region 6 with fail
          go_quiet (fail)
          have HP2 := hideIt (HP.out.keep (below_drewN (Below.refl _ _) nq))
          clear HP
          clear c0 c1 c2 c3 c4 c5 c6 hblr g0 g1 g2 g3 g4 g5 g6 gz
          generalize wr.drewN nq = W2 at *
          obtain ⟨a1, d1, w1, hrun, hO'⟩ := HAP1.out pre _ W2 HP2.out (by first | omega | (simp; omega))
          (try simp only [List.length_append, List.length_cons, List.length_nil, Nat.zero_add] at hrun hO')
          have HRUN := hideIt hrun
          have HP3 := hideIt hO'
          clear hrun hO'
          have c0 := (HP2.out.bel.cell (p := ⟨b, off + t * 7, none⟩) hbl).trans q0
          have c1 := (HP2.out.bel.cell (p := ⟨b, off + t * 7 + 1, none⟩) hbl).trans q1
          have c2 := (HP2.out.bel.cell (p := ⟨b, off + t * 7 + 2, none⟩) hbl).trans q2
          have c3 := (HP2.out.bel.cell (p := ⟨b, off + t * 7 + 3, none⟩) hbl).trans q3
          have c4 := (HP2.out.bel.cell (p := ⟨b, off + t * 7 + 4, none⟩) hbl).trans q4
          have c5 := (HP2.out.bel.cell (p := ⟨b, off + t * 7 + 5, none⟩) hbl).trans q5
          have c6 := (HP2.out.bel.cell (p := ⟨b, off + t * 7 + 6, none⟩) hbl).trans q6
          have hblr : b < W2.heap.size := Nat.lt_of_lt_of_le hbl HP2.out.bel.size
          obtain ⟨⟨g0, g1, g2, g3, g4, g5, g6⟩, -, gz⟩ := seven_at HP2.out.bx
          go_upto_region 9 with (at_builtin; refine Lib.wpList_append_run _ rfl _ _ _ _ rfl _ _ rfl rfl _ _ HRUN.out ?_)
          clear HRUN
          clear c0 c1 c2 c3 c4 c5 c6 hblr g0 g1 g2 g3 g4 g5 g6 gz
          clear HP2
          by_cases he : sc = oc
          · rw [if_pos he] at HRS
            subst he
            clear HAPx HAP1 hge
            have c0 := (HP3.out.bel.cell (p := ⟨b, off + t * 7, none⟩) hbl).trans q0
            have c1 := (HP3.out.bel.cell (p := ⟨b, off + t * 7 + 1, none⟩) hbl).trans q1
            have c2 := (HP3.out.bel.cell (p := ⟨b, off + t * 7 + 2, none⟩) hbl).trans q2
            have c3 := (HP3.out.bel.cell (p := ⟨b, off + t * 7 + 3, none⟩) hbl).trans q3
            have c4 := (HP3.out.bel.cell (p := ⟨b, off + t * 7 + 4, none⟩) hbl).trans q4
            have c5 := (HP3.out.bel.cell (p := ⟨b, off + t * 7 + 5, none⟩) hbl).trans q5
            have c6 := (HP3.out.bel.cell (p := ⟨b, off + t * 7 + 6, none⟩) hbl).trans q6
            have hblr : b < w1.heap.size := Nat.lt_of_lt_of_le hbl HP3.out.bel.size
            obtain ⟨⟨g0, g1, g2, g3, g4, g5, g6⟩, -, gz⟩ := seven_at HP3.out.bx
            go_upto_region 9 with fail
            go_quiet (fail)
            have HP4 := hideIt (HP3.out.keep (below_drewN (Below.refl _ _) nq))
            clear HP3
            clear c0 c1 c2 c3 c4 c5 c6 hblr g0 g1 g2 g3 g4 g5 g6 gz
            generalize w1.drewN nq = W4 at *
            have HRS2 : Hid (R = (pre ++ [SesX.mk sc oq od (AnsX.mk (AnsV.mk ocode onum oam ofl) oaa oac ofa ofc)]) ++ putF (SesX.mk sc oq od (AnsX.mk (AnsV.mk ocode onum oam ofl) oaa oac ofa ofc)) true (l.drop (t + 1))) := by
              show R = _
              rw [HRS.out, List.append_assoc]
              rfl
            go_wp2
            go_roundw
            case rel => exact ⟨t + 1, a1, pre.length + 1, d1, true, _, rfl, rfl, by go_num, by omega, by simp; omega, by simp, HRS2, HP4⟩
            case measure => simp [intOf]; omega
          · rw [if_neg he] at HRS
            have c0 := (HP3.out.bel.cell (p := ⟨b, off + t * 7, none⟩) hbl).trans q0
            have c1 := (HP3.out.bel.cell (p := ⟨b, off + t * 7 + 1, none⟩) hbl).trans q1
            have c2 := (HP3.out.bel.cell (p := ⟨b, off + t * 7 + 2, none⟩) hbl).trans q2
            have c3 := (HP3.out.bel.cell (p := ⟨b, off + t * 7 + 3, none⟩) hbl).trans q3
            have c4 := (HP3.out.bel.cell (p := ⟨b, off + t * 7 + 4, none⟩) hbl).trans q4
            have c5 := (HP3.out.bel.cell (p := ⟨b, off + t * 7 + 5, none⟩) hbl).trans q5
            have c6 := (HP3.out.bel.cell (p := ⟨b, off + t * 7 + 6, none⟩) hbl).trans q6
            have hblr : b < w1.heap.size := Nat.lt_of_lt_of_le hbl HP3.out.bel.size
            obtain ⟨⟨g0, g1, g2, g3, g4, g5, g6⟩, -, gz⟩ := seven_at HP3.out.bx
            go_upto_region 9 with fail
            go_quiet (fail)
            have HP4 := hideIt (HP3.out.keep (below_drewN (Below.refl _ _) nq))
            clear HP3
            clear c0 c1 c2 c3 c4 c5 c6 hblr g0 g1 g2 g3 g4 g5 g6 gz
            generalize w1.drewN nq = W4 at *
            obtain ⟨a', c', w', hrun, hO'⟩ := HAPx.out (pre ++ [SesX.mk oc oq od (AnsX.mk (AnsV.mk ocode onum oam ofl) oaa oac ofa ofc)]) _ W4 HP4.out (by first | omega | (simp; omega))
            (try simp only [List.length_append, List.length_cons, List.length_nil, Nat.zero_add] at hrun hO')
            have HRUN := hideIt hrun
            have HP5 := hideIt hO'
            clear hrun hO' HAPx
            have c0 := (HP4.out.bel.cell (p := ⟨b, off + t * 7, none⟩) hbl).trans q0
            have c1 := (HP4.out.bel.cell (p := ⟨b, off + t * 7 + 1, none⟩) hbl).trans q1
            have c2 := (HP4.out.bel.cell (p := ⟨b, off + t * 7 + 2, none⟩) hbl).trans q2
            have c3 := (HP4.out.bel.cell (p := ⟨b, off + t * 7 + 3, none⟩) hbl).trans q3
            have c4 := (HP4.out.bel.cell (p := ⟨b, off + t * 7 + 4, none⟩) hbl).trans q4
            have c5 := (HP4.out.bel.cell (p := ⟨b, off + t * 7 + 5, none⟩) hbl).trans q5
            have c6 := (HP4.out.bel.cell (p := ⟨b, off + t * 7 + 6, none⟩) hbl).trans q6
            have hblr : b < W4.heap.size := Nat.lt_of_lt_of_le hbl HP4.out.bel.size
            obtain ⟨⟨g0, g1, g2, g3, g4, g5, g6⟩, -, gz⟩ := seven_at HP4.out.bx
            go_wp2_with (at_builtin; refine Lib.wpList_append_run _ rfl _ _ _ _ rfl _ _ rfl rfl _ _ HRUN.out ?_)
            clear HRUN
            clear c0 c1 c2 c3 c4 c5 c6 hblr g0 g1 g2 g3 g4 g5 g6 gz
            have HRS2 : Hid (R = (pre ++ [SesX.mk oc oq od (AnsX.mk (AnsV.mk ocode onum oam ofl) oaa oac ofa ofc)] ++ [SesX.mk sc sq sd (AnsX.mk (AnsV.mk code num am fl) aa ac fa fc)]) ++ putF (SesX.mk oc oq od (AnsX.mk (AnsV.mk ocode onum oam ofl) oaa oac ofa ofc)) true (l.drop (t + 1))) := by
              show R = _
              rw [HRS.out, List.append_assoc, List.append_assoc]
              rfl
            go_wp2
            go_roundw
            case rel => exact ⟨t + 1, a', _, c', true, _, rfl, rfl, by go_num, by omega, by simp; omega, by simp, HRS2, HP5⟩
            case measure => simp [intOf]; omega
        · rw [if_neg hge] at HRS
          have hgd : decide (oc ≤ sc) = false := decide_eq_false hge
          have he : ¬ sc = oc := by omega
          clear HAP1
          go_upto_region 6 with fail
          go_quiet (fail)
          have HP2 := hideIt (HP.out.keep (below_drewN (Below.refl _ _) nq))
          clear HP
          clear c0 c1 c2 c3 c4 c5 c6 hblr g0 g1 g2 g3 g4 g5 g6 gz
          generalize wr.drewN nq = W2 at *
          have c0 := (HP2.out.bel.cell (p := ⟨b, off + t * 7, none⟩) hbl).trans q0
          have c1 := (HP2.out.bel.cell (p := ⟨b, off + t * 7 + 1, none⟩) hbl).trans q1
          have c2 := (HP2.out.bel.cell (p := ⟨b, off + t * 7 + 2, none⟩) hbl).trans q2
          have c3 := (HP2.out.bel.cell (p := ⟨b, off + t * 7 + 3, none⟩) hbl).trans q3
          have c4 := (HP2.out.bel.cell (p := ⟨b, off + t * 7 + 4, none⟩) hbl).trans q4
          have c5 := (HP2.out.bel.cell (p := ⟨b, off + t * 7 + 5, none⟩) hbl).trans q5
          have c6 := (HP2.out.bel.cell (p := ⟨b, off + t * 7 + 6, none⟩) hbl).trans q6
          have hblr : b < W2.heap.size := Nat.lt_of_lt_of_le hbl HP2.out.bel.size
          obtain ⟨⟨g0, g1, g2, g3, g4, g5, g6⟩, -, gz⟩ := seven_at HP2.out.bx
          go_upto_region 9 with fail
          go_quiet (fail)
          have HP3 := hideIt (HP2.out.keep (below_drewN (Below.refl _ _) nq))
          clear HP2
          clear c0 c1 c2 c3 c4 c5 c6 hblr g0 g1 g2 g3 g4 g5 g6 gz
          generalize W2.drewN nq = W3 at *
          obtain ⟨a', c', w', hrun, hO'⟩ := HAPx.out pre _ W3 HP3.out (by first | omega | (simp; omega))
          (try simp only [List.length_append, List.length_cons, List.length_nil, Nat.zero_add] at hrun hO')
          have HRUN := hideIt hrun
          have HP4 := hideIt hO'
          clear hrun hO' HAPx
          have c0 := (HP3.out.bel.cell (p := ⟨b, off + t * 7, none⟩) hbl).trans q0
          have c1 := (HP3.out.bel.cell (p := ⟨b, off + t * 7 + 1, none⟩) hbl).trans q1
          have c2 := (HP3.out.bel.cell (p := ⟨b, off + t * 7 + 2, none⟩) hbl).trans q2
          have c3 := (HP3.out.bel.cell (p := ⟨b, off + t * 7 + 3, none⟩) hbl).trans q3
          have c4 := (HP3.out.bel.cell (p := ⟨b, off + t * 7 + 4, none⟩) hbl).trans q4
          have c5 := (HP3.out.bel.cell (p := ⟨b, off + t * 7 + 5, none⟩) hbl).trans q5
          have c6 := (HP3.out.bel.cell (p := ⟨b, off + t * 7 + 6, none⟩) hbl).trans q6
          have hblr : b < W3.heap.size := Nat.lt_of_lt_of_le hbl HP3.out.bel.size
          obtain ⟨⟨g0, g1, g2, g3, g4, g5, g6⟩, -, gz⟩ := seven_at HP3.out.bx
          go_wp2_with (at_builtin; refine Lib.wpList_append_run _ rfl _ _ _ _ rfl _ _ rfl rfl _ _ HRUN.out ?_)
          clear HRUN
          clear c0 c1 c2 c3 c4 c5 c6 hblr g0 g1 g2 g3 g4 g5 g6 gz
          have HRS2 : Hid (R = (pre ++ [SesX.mk sc sq sd (AnsX.mk (AnsV.mk code num am fl) aa ac fa fc)]) ++ putF (SesX.mk oc oq od (AnsX.mk (AnsV.mk ocode onum oam ofl) oaa oac ofa ofc)) false (l.drop (t + 1))) := by
            show R = _
            rw [HRS.out, List.append_assoc]
            rfl
          go_wp2
          go_roundw
          case rel => exact ⟨t + 1, a', _, c', false, _, rfl, rfl, by go_num, by omega, by simp; omega, by simp, HRS2, HP4⟩
          case measure => simp [intOf]; omega
      · rw [if_pos rfl] at HRS
        by_cases he : sc = oc
        · rw [if_pos he] at HRS
          subst he
          have hnd : decide (sc ≠ sc) = false := by simp
          clear HAPx HAP1
          go_upto_region 6 with fail
          go_quiet (fail)
          have HP2 := hideIt (HP.out.keep (below_drewN (Below.refl _ _) nq))
          clear HP
          clear c0 c1 c2 c3 c4 c5 c6 hblr g0 g1 g2 g3 g4 g5 g6 gz
          generalize wr.drewN nq = W2 at *
          have c0 := (HP2.out.bel.cell (p := ⟨b, off + t * 7, none⟩) hbl).trans q0
          have c1 := (HP2.out.bel.cell (p := ⟨b, off + t * 7 + 1, none⟩) hbl).trans q1
          have c2 := (HP2.out.bel.cell (p := ⟨b, off + t * 7 + 2, none⟩) hbl).trans q2
          have c3 := (HP2.out.bel.cell (p := ⟨b, off + t * 7 + 3, none⟩) hbl).trans q3
          have c4 := (HP2.out.bel.cell (p := ⟨b, off + t * 7 + 4, none⟩) hbl).trans q4
          have c5 := (HP2.out.bel.cell (p := ⟨b, off + t * 7 + 5, none⟩) hbl).trans q5
          have c6 := (HP2.out.bel.cell (p := ⟨b, off + t * 7 + 6, none⟩) hbl).trans q6
          have hblr : b < W2.heap.size := Nat.lt_of_lt_of_le hbl HP2.out.bel.size
          obtain ⟨⟨g0, g1, g2, g3, g4, g5, g6⟩, -, gz⟩ := seven_at HP2.out.bx
          go_upto_region 9 with fail
          go_quiet (fail)
          have HP3 := hideIt (HP2.out.keep (below_drewN (Below.refl _ _) nq))
          clear HP2
          clear c0 c1 c2 c3 c4 c5 c6 hblr g0 g1 g2 g3 g4 g5 g6 gz
          generalize W2.drewN nq = W3 at *
          go_wp2
          go_roundw
          case rel => exact ⟨t + 1, ua, pre.length, uc, true, pre, rfl, rfl, by go_num, by omega, by omega, rfl, HRS, HP3⟩
          case measure => simp [intOf]; omega
        · rw [if_neg he] at HRS
          clear HAP1
          go_upto_region 6 with fail
          go_quiet (fail)
          have HP2 := hideIt (HP.out.keep (below_drewN (Below.refl _ _) nq))
          clear HP
          clear c0 c1 c2 c3 c4 c5 c6 hblr g0 g1 g2 g3 g4 g5 g6 gz
          generalize wr.drewN nq = W2 at *
          have c0 := (HP2.out.bel.cell (p := ⟨b, off + t * 7, none⟩) hbl).trans q0
          have c1 := (HP2.out.bel.cell (p := ⟨b, off + t * 7 + 1, none⟩) hbl).trans q1
          have c2 := (HP2.out.bel.cell (p := ⟨b, off + t * 7 + 2, none⟩) hbl).trans q2
          have c3 := (HP2.out.bel.cell (p := ⟨b, off + t * 7 + 3, none⟩) hbl).trans q3
          have c4 := (HP2.out.bel.cell (p := ⟨b, off + t * 7 + 4, none⟩) hbl).trans q4
          have c5 := (HP2.out.bel.cell (p := ⟨b, off + t * 7 + 5, none⟩) hbl).trans q5
          have c6 := (HP2.out.bel.cell (p := ⟨b, off + t * 7 + 6, none⟩) hbl).trans q6
          have hblr : b < W2.heap.size := Nat.lt_of_lt_of_le hbl HP2.out.bel.size
          obtain ⟨⟨g0, g1, g2, g3, g4, g5, g6⟩, -, gz⟩ := seven_at HP2.out.bx
          go_upto_region 9 with fail
          go_quiet (fail)
          have HP3 := hideIt (HP2.out.keep (below_drewN (Below.refl _ _) nq))
          clear HP2
          clear c0 c1 c2 c3 c4 c5 c6 hblr g0 g1 g2 g3 g4 g5 g6 gz
          generalize W2.drewN nq = W3 at *
          obtain ⟨a', c', w', hrun, hO'⟩ := HAPx.out pre _ W3 HP3.out (by first | omega | (simp; omega))
          (try simp only [List.length_append, List.length_cons, List.length_nil, Nat.zero_add] at hrun hO')
          have HRUN := hideIt hrun
          have HP4 := hideIt hO'
          clear hrun hO' HAPx
          have c0 := (HP3.out.bel.cell (p := ⟨b, off + t * 7, none⟩) hbl).trans q0
          have c1 := (HP3.out.bel.cell (p := ⟨b, off + t * 7 + 1, none⟩) hbl).trans q1
          have c2 := (HP3.out.bel.cell (p := ⟨b, off + t * 7 + 2, none⟩) hbl).trans q2
          have c3 := (HP3.out.bel.cell (p := ⟨b, off + t * 7 + 3, none⟩) hbl).trans q3
          have c4 := (HP3.out.bel.cell (p := ⟨b, off + t * 7 + 4, none⟩) hbl).trans q4
          have c5 := (HP3.out.bel.cell (p := ⟨b, off + t * 7 + 5, none⟩) hbl).trans q5
          have c6 := (HP3.out.bel.cell (p := ⟨b, off + t * 7 + 6, none⟩) hbl).trans q6
          have hblr : b < W3.heap.size := Nat.lt_of_lt_of_le hbl HP3.out.bel.size
          obtain ⟨⟨g0, g1, g2, g3, g4, g5, g6⟩, -, gz⟩ := seven_at HP3.out.bx
          go_wp2_with (at_builtin; refine Lib.wpList_append_run _ rfl _ _ _ _ rfl _ _ rfl rfl _ _ HRUN.out ?_)
          clear HRUN
          clear c0 c1 c2 c3 c4 c5 c6 hblr g0 g1 g2 g3 g4 g5 g6 gz
          have HRS2 : Hid (R = (pre ++ [SesX.mk sc sq sd (AnsX.mk (AnsV.mk code num am fl) aa ac fa fc)]) ++ putF (SesX.mk oc oq od (AnsX.mk (AnsV.mk ocode onum oam ofl) oaa oac ofa ofc)) true (l.drop (t + 1))) := by
            show R = _
            rw [HRS.out, List.append_assoc]
            rfl
          go_wp2
          go_roundw
          case rel => exact ⟨t + 1, a', _, c', true, _, rfl, rfl, by go_num, by omega, by simp; omega, by simp, HRS2, HP4⟩
          case measure => simp [intOf]; omega
    · have hltI : ¬ (t : Int) < (l.length : Int) := by omega
      rw [List.drop_eq_nil_of_le (by omega)] at HRS
      subst hun
      clear HH HPD
      cases dn
      · obtain ⟨a1, d1, w1, hrun, hO'⟩ := HAP1.out pre _ wr HP.out (by omega)
        have HRUN := hideIt hrun
        have HP3 := hideIt hO'
        obtain ⟨⟨g0, g1, g2, g3, g4, g5, g6⟩, -, gz⟩ := seven_at HP.out.bx
        have HRS2 : Hid (R = pre ++ [SesX.mk oc oq od (AnsX.mk (AnsV.mk ocode onum oam ofl) oaa oac ofa ofc)]) := HRS.out
        clear hrun hO' HAP1 HRS
        go_wp2_with (at_builtin; refine Lib.wpList_append_run _ rfl _ _ _ _ rfl _ _ rfl rfl _ _ HRUN.out ?_)
        clear HRUN
        go_wp2
        go_ret
        refine HFIN.out _ _ _ _ ?_ ?_
        · rw [HRS2.out]
          exact HP3.out
        · rw [HRS2.out]
          simp
      · have HRS2 : Hid (R = pre) := HRS.out.trans (List.append_nil _)
        clear HRS HAP1
        go_wp2
        go_ret
        refine HFIN.out _ _ _ _ ?_ ?_
        · rw [HRS2.out]
          exact HP.out
        · rw [HRS2.out]
end Go.Proofs.YtgdgpcheammbpaaDoor
