/- ClearZero, walked. -/
import Derived.Test.YtbpnnhalajbjnaaZrP
import Derived.Test.YtbpnnhalajbjnaaLive
import Derived.BigQuiet
namespace Go.Proofs.Ytbpnnhalajbjnaa
open Go.RowKit
set_option linter.all false
abbrev Poss (w : World) (v : Value) (l : List PosV) : Prop := SGot 3 24 posE w v l
theorem SGot.poss {w : World} {v : Value} {l : List PosV} (h : Poss w v l) : ∃ a c, v = .slice a l.length c ∧ l.length * 24 ≤ 140737488355328 ∧ ∀ i (h : i < l.length), ∃ b off, a = some ⟨b, off, none⟩ ∧ b < w.heap.size ∧ w.cell? ⟨b, off + i * 3, none⟩ = some (.int .i64 (l[i]).acc) ∧ w.cell? ⟨b, off + i * 3 + 1, none⟩ = some (.int .i64 (l[i]).m) ∧ w.cell? ⟨b, off + i * 3 + 2, none⟩ = some (.int .i64 (l[i]).g) := by
  obtain ⟨h8, a, c, rfl, _, hr⟩ := h
  refine ⟨a, c, rfl, h8, fun i hi => ?_⟩
  obtain ⟨b, off, ha, hb, hc⟩ := hr (by omega)
  have g := celC_get posK l i hi
  exact ⟨b, off, ha, hb, by have := g 0 (by omega); rw [Nat.add_zero] at this; rw [hc _ (by omega), this]; rfl, by rw [Nat.add_assoc, hc _ (by omega), g 1 (by omega)]; rfl, by rw [Nat.add_assoc, hc _ (by omega), g 2 (by omega)]; rfl⟩
set_option maxHeartbeats 8000000 in
set_option maxRecDepth 100000 in
theorem zero_walk (v : Value) (l : List FillV) (w : World) (h : Fils w v l) : Calls Try.prog 4 #[v] w fun e w' => e = .returned (.bool true) ∧ Below w.heap.size w w' := by
  have HN := hideIt (net_is v l w h)
  have HLV := hideIt (fun W => live_is W)
  obtain ⟨a, c, rfl⟩ := h.slice
  clear h
  unfold NetB at HN
  by_cases hb : (decide (1000 < l.length) || l.any strF) = true
  · have e : netL l = ([], 150) := by unfold netL; rw [if_pos hb]
    rw [e] at HN
    dsimp only at HN
    clear e hb
    go_enter Try.func4, Try.ntmps4
    go_wp2_with fail
    refine HN.out.mono ?_
    rintro e w1 ⟨na, nc, rfl, ho, hb⟩
    dsimp only
    have HB1 := hideIt hb
    clear ho hb HN
    go_wp2_with fail
    refine (HLV.out _).mono ?_
    rintro e w2 ⟨rfl, hb⟩
    dsimp only
    have HB2 := hideIt (below_via HB1.out hb)
    clear hb HB1
    go_wp2
    go_ret
    exact ⟨rfl, HB2.out⟩
  · have e : netL l = (posT (netS l) 8, 0) := by unfold netL; rw [if_neg hb]
    rw [e] at HN
    dsimp only at HN
    have hb2 : l.length ≤ 1000 ∧ ∀ x ∈ l, strF x = false := by
      simp only [Bool.or_eq_true, decide_eq_true_eq, List.any_eq_true, not_or, not_exists, not_and] at hb
      exact ⟨by omega, fun x hx => by simpa using hb.2 x hx⟩
    obtain ⟨h1, h2, h3, h4, h5⟩ := zero_all hb2.1 hb2.2
    have HBD : Hid (∀ t, (-((8 : Int) * 2000000000000000) ≤ (((posT (netS l) 8).take t).map (·.m)).sum ∧ (((posT (netS l) 8).take t).map (·.m)).sum ≤ (8 : Int) * 2000000000000000) ∧ (-((8 : Int) * 2000000000000000) ≤ (((posT (netS l) 8).take t).map (·.g)).sum ∧ (((posT (netS l) 8).take t).map (·.g)).sum ≤ (8 : Int) * 2000000000000000)) := fun t => by
      have hlt : ((posT (netS l) 8).take t).length ≤ 8 := Nat.le_trans (List.length_take_le' _ _) h1
      have a1 := sum_bd 2000000000000000 (·.m) ((posT (netS l) 8).take t) (fun p hp => (h4 p (List.mem_of_mem_take hp)).1)
      have a2 := sum_bd 2000000000000000 (·.g) ((posT (netS l) 8).take t) (fun p hp => (h4 p (List.mem_of_mem_take hp)).2)
      omega
    generalize posT (netS l) 8 = PT at *
    have HM := hideIt h2
    have HG := hideIt h3
    have HP := hideIt h4
    have HA := hideIt h5
    have h8 := h1
    clear e hb hb2 h2 h3 h4 h5
    go_enter Try.func4, Try.ntmps4
    go_wp2_with fail
    refine HN.out.mono ?_
    rintro e w1 ⟨na, nc, rfl, ho, hb⟩
    dsimp only
    have HS : Hid (Poss w1 (.slice na PT.length nc) PT) := own_sgot ho (by omega)
    have HB1 := hideIt hb
    clear ho hb HN
    obtain ⟨pa, pc, e, -, hr⟩ := HS.out.poss
    simp only [Value.slice.injEq, true_and] at e
    obtain ⟨rfl, rfl⟩ := e
    have HH := hideIt hr
    clear hr HS
    go_upto_region 7 with fail
    go_loopw [5, 6, 7] (fun u1 u2 v wr => ∃ (t : Nat) (m1 m2 : Int), u1 = .int .i64 m1 ∧ u2 = .int .i64 m2 ∧ v = .int .i64 t ∧ t ≤ PT.length ∧ Hid (Below w1.heap.size w1 wr ∧ m1 = ((PT.take t).map (·.m)).sum ∧ m2 = ((PT.take t).map (·.g)).sum)) (fun _ _ v _ => PT.length - (intOf v).toNat)
    case atStart => exact ⟨0, 0, 0, rfl, rfl, rfl, Nat.zero_le _, hideIt ⟨Below.refl _ _, by simp, by simp⟩⟩
    case round =>
      obtain ⟨t, m1, m2, rfl, rfl, rfl, ht, HR⟩ := hrel
      by_cases hlt : t < PT.length
      · have hltI : (t : Int) < (PT.length : Int) := by omega
        have ht0 : (0 : Int) ≤ (t : Int) := by omega
        have hw2 : IntKind.i64.wrap ((t : Int) + 1) = ((t + 1 : Nat) : Int) := by rw [IntKind.wrap_i64]; omega
        obtain ⟨b, off, rfl, hbl, q0, q1, q2⟩ := HH.out t hlt
        have hblr : b < wr.heap.size := Nat.lt_of_lt_of_le hbl HR.out.1.size
        have c0 := (HR.out.1.cell (p := ⟨b, off + t * 3, none⟩) hbl).trans q0
        have c1 := (HR.out.1.cell (p := ⟨b, off + t * 3 + 1, none⟩) hbl).trans q1
        have c2 := (HR.out.1.cell (p := ⟨b, off + t * 3 + 2, none⟩) hbl).trans q2
        have s0 := HBD.out t
        have s1 := HBD.out (t + 1)
        rw [sum_take hlt, sum_take hlt] at s1
        have hm1 := HR.out.2.1
        have hm2 := HR.out.2.2
        have HNX : Hid (m1 + PT[t].m = ((PT.take (t + 1)).map (·.m)).sum ∧ m2 + PT[t].g = ((PT.take (t + 1)).map (·.g)).sum) := by
          rw [sum_take hlt, sum_take hlt, hm1, hm2]
          exact ⟨rfl, rfl⟩
        have HBR := hideIt HR.out.1
        by_cases h0 : 0 < t
        · obtain ⟨u, hu⟩ : ∃ u, t = u + 1 := ⟨t - 1, by omega⟩
          have hul : u < PT.length := by omega
          obtain ⟨b', off', e, -, p0, -, -⟩ := HH.out u hul
          simp only [Option.some.injEq, Addr.mk.injEq, and_true] at e
          obtain ⟨rfl, rfl⟩ := e
          have d0 := (HR.out.1.cell (p := ⟨b, off + u * 3, none⟩) hbl).trans p0
          have hlt2 := HA.out u t hul hlt (by omega)
          have hg : decide (0 < t) = true := decide_eq_true h0
          have hg2 : (0 : Int) < (t : Int) := by omega
          have hu0 : (0 : Int) ≤ (u : Int) := by omega
          have hu1 : (u : Int) < (PT.length : Int) := by omega
          have hw3 : IntKind.i64.wrap ((t : Int) - 1) = (u : Int) := by rw [IntKind.wrap_i64]; omega
          have hng : ¬ PT[t].acc ≤ (PT[u]'hul).acc := by omega
          have hngd : decide (PT[t].acc ≤ (PT[u]'hul).acc) = false := decide_eq_false hng
          have HU := hideIt hu
          clear hu q0 q1 q2 p0 HR HH hlt2
          generalize hgy : PT[t] = y at *
          generalize hgz : PT[u]'hul = z at *
          clear hgy hgz
          obtain ⟨ya, ym, yg⟩ := y
          obtain ⟨za, zm, zg⟩ := z
          dsimp only at c0 c1 c2 d0 s1 HNX hng hngd
          have hw4 : IntKind.i64.wrap (m1 + ym) = m1 + ym := by rw [IntKind.wrap_i64]; omega
          have hw5 : IntKind.i64.wrap (m2 + yg) = m2 + yg := by rw [IntKind.wrap_i64]; omega
          clear s0 s1 hm1 hm2
          go_upto_region 9 with fail
          go_quiet (fail)
          have B2 := hideIt (below_drewN HBR.out nq)
          clear HBR d0
          have c0' : (wr.drewN nq).cell? ⟨b, off + t * 3, none⟩ = some (.int .i64 ya) := c0
          have c1' : (wr.drewN nq).cell? ⟨b, off + t * 3 + 1, none⟩ = some (.int .i64 ym) := c1
          have c2' : (wr.drewN nq).cell? ⟨b, off + t * 3 + 2, none⟩ = some (.int .i64 yg) := c2
          have hbl2 : b < (wr.drewN nq).heap.size := hblr
          clear c0 c1 c2 hblr
          generalize wr.drewN nq = W2 at *
          go_wp2
          go_roundw
          case rel => exact ⟨t + 1, _, _, rfl, rfl, by go_num, by omega, hideIt ⟨B2.out, HNX.out⟩⟩
          case measure => simp [intOf]; omega
        · have ht00 : t = 0 := by omega
          subst ht00
          clear q0 q1 q2 HR HH
          generalize hgy : PT[0] = y at *
          clear hgy
          obtain ⟨ya, ym, yg⟩ := y
          dsimp only at c0 c1 c2 s1 HNX
          have hw4 : IntKind.i64.wrap (m1 + ym) = m1 + ym := by rw [IntKind.wrap_i64]; omega
          have hw5 : IntKind.i64.wrap (m2 + yg) = m2 + yg := by rw [IntKind.wrap_i64]; omega
          clear s0 s1 hm1 hm2
          go_upto_region 9 with fail
          go_quiet (fail)
          have B2 := hideIt (below_drewN HBR.out nq)
          clear HBR
          have c0' : (wr.drewN nq).cell? ⟨b, off + 0 * 3, none⟩ = some (.int .i64 ya) := c0
          have c1' : (wr.drewN nq).cell? ⟨b, off + 0 * 3 + 1, none⟩ = some (.int .i64 ym) := c1
          have c2' : (wr.drewN nq).cell? ⟨b, off + 0 * 3 + 2, none⟩ = some (.int .i64 yg) := c2
          have hbl2 : b < (wr.drewN nq).heap.size := hblr
          clear c0 c1 c2 hblr
          generalize wr.drewN nq = W2 at *
          go_wp2
          go_roundw
          case rel => exact ⟨1, _, _, rfl, rfl, by go_num, by omega, hideIt ⟨B2.out, HNX.out⟩⟩
          case measure => simp [intOf]; omega
      · have hltI : ¬ (t : Int) < (PT.length : Int) := by omega
        have het : PT.take t = PT := List.take_of_length_le (by omega)
        have hz := HR.out.2
        rw [het, HM.out, HG.out] at hz
        obtain ⟨rfl, rfl⟩ := hz
        have B2 := hideIt (below_via HB1.out HR.out.1)
        clear HR HH het HBD HM HG HP HA HB1
        go_wp2_with fail
        refine (HLV.out _).mono ?_
        rintro e w2 ⟨rfl, hb⟩
        dsimp only
        have HB2 := hideIt (below_via B2.out hb)
        clear hb B2
        go_wp2
        go_ret
        exact ⟨rfl, HB2.out⟩
end Go.Proofs.Ytbpnnhalajbjnaa
