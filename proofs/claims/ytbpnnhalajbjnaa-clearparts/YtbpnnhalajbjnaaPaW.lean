/- ClearParts, walked. -/
import Derived.Test.YtbpnnhalajbjnaaPaQ
import Derived.BigQuiet
namespace Go.Proofs.Ytbpnnhalajbjnaa
open Go.RowKit
set_option linter.all false
theorem put3 (wc : World) (b : Nat) (ty : TypeId) (v0 v1 v2 : Value) {z0 z1 z2 : Value} (h : wc.heap[b]? = some (.cells #[z0, z1, z2] ty (0, 0))) :
    (((wc.setCell ⟨b, 0, none⟩ v0).setCell ⟨b, 1, none⟩ v1).setCell ⟨b, 2, none⟩ v2).heap[b]? = some (.cells #[v0, v1, v2] ty (0, 0)) := by
  have h0 := heap_set h 0 v0
  have h1 := heap_set h0 1 v1
  exact heap_set h1 2 v2
theorem three_at {w : World} {p : Nat} {t : TypeId} {a b c : Value} (h : w.heap[p]? = some (.cells #[a, b, c] t (0, 0))) : (w.cell? ⟨p, 0, none⟩ = some a ∧ w.cell? ⟨p, 1, none⟩ = some b ∧ w.cell? ⟨p, 2, none⟩ = some c) ∧ (∀ j, w.frozen? ⟨p, j, none⟩ = false) ∧ p < w.heap.size :=
  ⟨⟨by rw [cell_at h]; rfl, by rw [cell_at h]; rfl, by rw [cell_at h]; rfl⟩, fun j => free_at h j, (Array.getElem?_eq_some_iff.1 h).1⟩
set_option maxHeartbeats 4000000 in
set_option maxRecDepth 100000 in
theorem of_is (v : Value) (l : List PosV) (x : Int) (w : World) (h : Poss w v l) : Calls Try.prog 13 #[v, .int .i64 x] w fun e w' => e = .returned (.agg #[.int .i64 (ofP l x).acc, .int .i64 (ofP l x).m, .int .i64 (ofP l x).g]) ∧ Below w.heap.size w w' := by
  obtain ⟨a, c, rfl, h8, hr⟩ := h.poss
  have HH := hideIt hr
  clear hr h
  have HF := hideIt (fun t (ht : t < l.length) => of_at ht x)
  have HE : Hid (ofP (l.drop 0) x = ofP l x) := by show _ = _; rw [List.drop_zero]
  have HZ : Hid (ofP (l.drop l.length) x = ⟨0, 0, 0⟩) := by show _ = _; rw [List.drop_length]; rfl
  generalize hfu : (fun t : Nat => ofP (l.drop t) x) = F at *
  have HT : Hid (∀ t, ofP (l.drop t) x = F t) := fun t => congrFun hfu t
  simp only [HT.out] at HF HE HZ
  clear hfu HT
  generalize ofP l x = R at *
  have X0 : Hid (Below w.heap.size w (w.alloc (.cells #[.int .i64 0, .int .i64 0, .int .i64 0] 31)) ∧ (w.alloc (.cells #[.int .i64 0, .int .i64 0, .int .i64 0] 31)).heap[w.heap.size]? = some (.cells #[.int .i64 0, .int .i64 0, .int .i64 0] 31 (0, 0))) := ⟨below1 w _, heap_alloc_new w _⟩
  go_enter Try.func13, Try.ntmps13
  go_upto_region 2 with fail
  generalize w.alloc (.cells #[.int .i64 0, .int .i64 0, .int .i64 0] 31) = W0 at *
  go_loopw [5] (fun v wr => ∃ t : Nat, v = .int .i64 t ∧ t ≤ l.length ∧ Hid (F t = R) ∧ Hid (wr = W0)) (fun v _ => l.length - (RowKit.intOf v).toNat)
  case atStart => exact ⟨0, rfl, Nat.zero_le _, HE, hideIt rfl⟩
  case round =>
    obtain ⟨t, rfl, ht, HR, HW⟩ := hrel
    have hw0 := HW.out
    subst hw0
    clear HW
    obtain ⟨⟨r0, r1, r2⟩, rf, rz⟩ := three_at X0.out.2
    by_cases hlt : t < l.length
    · have hltI : (t : Int) < (l.length : Int) := by omega
      have ht0 : (0 : Int) ≤ (t : Int) := by omega
      have hw : IntKind.i64.wrap ((t : Int) + 1) = ((t + 1 : Nat) : Int) := by rw [IntKind.wrap_i64]; omega
      have HF1 := hideIt (HF.out t hlt)
      obtain ⟨b, off, rfl, hbl, q0, q1, q2⟩ := HH.out t hlt
      have hblr : b < wr.heap.size := Nat.lt_of_lt_of_le hbl X0.out.1.size
      have c0 := (X0.out.1.cell (p := ⟨b, off + t * 3, none⟩) hbl).trans q0
      have c1 := (X0.out.1.cell (p := ⟨b, off + t * 3 + 1, none⟩) hbl).trans q1
      have c2 := (X0.out.1.cell (p := ⟨b, off + t * 3 + 2, none⟩) hbl).trans q2
      clear q0 q1 q2 HH HF
      generalize l[t] = y at *
      obtain ⟨ya, ym, yg⟩ := y
      dsimp only at c0 c1 c2 HF1
      by_cases e : ya = x
      · rw [if_pos e] at HF1
        have HV : Hid (R = ⟨ya, ym, yg⟩) := HR.out.symm.trans HF1.out
        have hne : b ≠ w.heap.size := by omega
        have HP := hideIt (put3 wr w.heap.size 31 (.int .i64 ya) (.int .i64 ym) (.int .i64 yg) X0.out.2)
        have HB := hideIt (belowSet (j := 2) (.int .i64 yg) (belowSet (j := 1) (.int .i64 ym) (belowSet (j := 0) (.int .i64 ya) X0.out.1 (Nat.le_refl _)) (Nat.le_refl _)) (Nat.le_refl _))
        subst e
        clear HF1 HR X0 HE HZ
        go_wp2
        revert HP HB
        generalize (World.setCell _ ⟨w.heap.size, 2, none⟩ _) = WF
        intro HP HB
        exact bodyPost_ret (v := .agg #[.int .i64 ya, .int .i64 ym, .int .i64 yg]) (by simp [results, Try.results13, go_sem, cell_at HP.out]) rfl ⟨by rw [HV.out], HB.out⟩
      · rw [if_neg e] at HF1
        have HV : Hid (F (t + 1) = R) := HF1.out.symm.trans HR.out
        have hee : (ya == x) = false := by simpa using e
        clear HF1 HR
        go_wp2
        go_roundw
        case rel => exact ⟨t + 1, by go_num, by omega, HV, by first | exact hideIt rfl | exact hideIt trivial⟩
        case measure => simp [RowKit.intOf]; omega
    · have hltI : ¬ (t : Int) < (l.length : Int) := by omega
      have het : t = l.length := by omega
      subst het
      have HV : Hid (R = ⟨0, 0, 0⟩) := HR.out.symm.trans HZ.out
      have HP := hideIt (put3 wr w.heap.size 31 (.int .i64 0) (.int .i64 0) (.int .i64 0) X0.out.2)
      have HB := hideIt (belowSet (j := 2) (.int .i64 0) (belowSet (j := 1) (.int .i64 0) (belowSet (j := 0) (.int .i64 0) X0.out.1 (Nat.le_refl _)) (Nat.le_refl _)) (Nat.le_refl _))
      clear HR X0 HE HZ HH HF
      go_wp2
      revert HP HB
      generalize (World.setCell _ ⟨w.heap.size, 2, none⟩ _) = WF
      intro HP HB
      exact bodyPost_ret (v := .agg #[.int .i64 0, .int .i64 0, .int .i64 0]) (by simp [results, Try.results13, go_sem, cell_at HP.out]) rfl ⟨by rw [HV.out], HB.out⟩
theorem ge_small {x : Int} (h : i64B x) (n : Nat) (hn : n ≤ 1000) : ∃ t : Nat, t ≤ n ∧ (x < 0 → Int.tmod (-(x + 1)) ((n : Int) + 1) = (t : Int)) ∧ (0 ≤ x → Int.tmod x ((n : Int) + 1) = (t : Int)) := by
  by_cases hx : x < 0
  · refine ⟨((-(x + 1)) % ((n : Int) + 1)).toNat, ?_, fun _ => ?_, fun h0 => by omega⟩
    · have := Int.emod_lt_of_pos (-(x + 1)) (show (0 : Int) < (n : Int) + 1 by omega)
      have := Int.emod_nonneg (-(x + 1)) (show (n : Int) + 1 ≠ 0 by omega)
      omega
    · rw [Int.tmod_eq_emod_of_nonneg (by omega)]
      have := Int.emod_nonneg (-(x + 1)) (show (n : Int) + 1 ≠ 0 by omega)
      omega
  · refine ⟨(x % ((n : Int) + 1)).toNat, ?_, fun h0 => by omega, fun _ => ?_⟩
    · have := Int.emod_lt_of_pos x (show (0 : Int) < (n : Int) + 1 by omega)
      have := Int.emod_nonneg x (show (n : Int) + 1 ≠ 0 by omega)
      omega
    · rw [Int.tmod_eq_emod_of_nonneg (by omega)]
      have := Int.emod_nonneg x (show (n : Int) + 1 ≠ 0 by omega)
      omega
theorem wfB3 {x : Int} (h : (Lit.int .i64 x).wf = true) : i64B x := by
  have e1 : IntKind.i64.min = -9223372036854775808 := by decide
  have e2 : IntKind.i64.max = 9223372036854775807 := by decide
  simpa [Lit.wf, e1, e2, i64B] using h
theorem size67 (w : World) : (Go.sizeOf 67).run Try.prog w = .ok 4 w := by simp [go_sem]
theorem run_upto (a : Option Addr) (n c t : Nat) (ht : t ≤ c) (W : World) : (Instr.slice 22 (.slice a n c) none (some (.int .i64 (t : Int))) none).run Try.prog W = .ok (.slice a t c) W := by
  have ht' : Try.prog.underlying 22 = some (.slice (Try.prog.elem 22)) := by simp [Program.elem, Try.underlying22]
  have he : Try.prog.elem 22 = 67 := by simp [Program.elem, Try.underlying22]
  rw [run_slice_h W 22 _ _ _ ht' .i64 _ (by omega) (by omega), he, size67]
  have e0 : (fun x : Addr => x.add (0 * 4)) = id := by funext x; simp [Addr.add]
  simp [Result.andThen, sliced, e0]
theorem run_from (a : Option Addr) (n c t : Nat) (ht : t ≤ n) (W : World) : (Instr.slice 22 (.slice a n c) (some (.int .i64 (t : Int))) none none).run Try.prog W = .ok (.slice (if c = t then a else a.map (·.add (t * 4))) (n - t) (c - t)) W := by
  have ht' : Try.prog.underlying 22 = some (.slice (Try.prog.elem 22)) := by simp [Program.elem, Try.underlying22]
  have he : Try.prog.elem 22 = 67 := by simp [Program.elem, Try.underlying22]
  rw [run_slice_l W 22 _ _ _ ht' .i64 _ (by omega) (by omega), he, size67]
  simp [Result.andThen, sliced]
set_option maxHeartbeats 16000000 in
set_option maxRecDepth 100000 in
theorem parts_walk (v : Value) (l : List FillV) (x : Int) (w : World) (h : Fils w v l) (hx : i64B x) : Calls Try.prog 5 #[v, .int .i64 x] w fun e w' => e = .returned (.bool true) ∧ Below w.heap.size w w' := by
  have HN := hideIt (net_is v l w h)
  have HLV := hideIt (fun W => live_is W)
  by_cases hb : (decide (1000 < l.length) || l.any strF) = true
  · obtain ⟨a, c, rfl⟩ := h.slice
    clear h
    have e : netL l = ([], 150) := by unfold netL; rw [if_pos hb]
    unfold NetB at HN
    rw [e] at HN
    dsimp only at HN
    clear e hb
    go_enter Try.func5, Try.ntmps5
    go_wp2_with fail
    refine HN.out.mono ?_
    rintro e w1 ⟨na, nc, rfl, ho, hb⟩
    dsimp only
    have HB1 := hideIt hb
    clear ho hb HN
    go_wp2_with fail
    refine (HLV.out _).mono ?_
    rintro e w2 ⟨rfl, hb⟩
    dsimp only
    have HB2 := hideIt (below_via HB1.out hb)
    clear hb HB1
    go_wp2
    go_ret
    exact ⟨rfl, HB2.out⟩
  · have hb2 : l.length ≤ 1000 ∧ ∀ x ∈ l, strF x = false := by
      simp only [Bool.or_eq_true, decide_eq_true_eq, List.any_eq_true, not_or, not_exists, not_and] at hb
      exact ⟨by omega, fun x hx => by simpa using hb.2 x hx⟩
    clear hb
    obtain ⟨t, htl, hm1, hm2⟩ := ge_small hx l.length hb2.1
    obtain ⟨n1, n2, n3, n4, hall⟩ := parts_all hb2.1 hb2.2 t
    have hl1 := posT_len (netS l) 8
    have hl2 := posT_len (netS (l.take t)) 8
    have hl3 := posT_len (netS (l.drop t)) 8
    obtain ⟨a, c, rfl⟩ := h.slice
    have hcap := h.cap
    have HG1 := hideIt (h.upto filK t htl)
    have HG2 := hideIt (h.from filK t htl)
    have R1 := fun W => run_upto a l.length c t (by omega) W
    have R2 := fun W => run_from a l.length c t htl W
    generalize (if c = t then a else a.map (·.add (t * 4))) = a2 at *
    generalize hA : posT (netS l) 8 = P at *
    generalize hB : posT (netS (l.take t)) 8 = PA at *
    generalize hC : posT (netS (l.drop t)) 8 = PB at *
    clear hA hB hC
    have HN1 := hideIt (fun W (hW : Below w.heap.size w W) => net_is (.slice a t c) (l.take t) W (HG1.out.keep hW))
    have HN2 := hideIt (fun W (hW : Below w.heap.size w W) => net_is (.slice a2 (l.length - t) (c - t)) (l.drop t) W (HG2.out.keep hW))
    have HN3 := hideIt (fun u W (hu : Fils W u (l.drop t ++ l.take t)) => net_is u (l.drop t ++ l.take t) W hu)
    have hsum : (l.drop t).length + (l.take t).length ≤ 1000 := by simp; omega
    have HA1 := hideIt (fun W (hW : Below w.heap.size w W) => app0 (t := 22) (e := 67) filK fil1 Try.underlying22 info39 rfl (by omega) (by omega) W (.slice a2 (l.length - t) (c - t)) (l.drop t) (HG2.out.keep hW))
    have HA2 := hideIt (fun W u (hW : Below w.heap.size w W) (hu : W.ownsRow w.heap.size 67 4 u (l.drop t).length (celC filE (l.drop t))) => appG (t := 22) (e := 67) filK fil1 Try.underlying22 info39 rfl (by omega) (by omega) W w.heap.size u (l.drop t) (l.take t) (.slice a t c) hW.size hu (HG1.out.keep hW) (by omega))
    unfold NetB at HN HN1 HN2 HN3
    rw [n1] at HN
    rw [n2] at HN1
    rw [n3] at HN2
    rw [n4] at HN3
    dsimp only at HN HN1 HN2 HN3
    have hln3 : (l.drop t ++ l.take t).length ≤ 1000 := by simp; omega
    have HALL := hideIt hall
    have HSM := hideIt (fun u u' W (hu : Poss W u P) (hu' : Poss W u' P) => sameP_is u u' P W hu hu')
    have HOA := hideIt (fun y u W (hu : Poss W u PA) => of_is u PA y W hu)
    have HOB := hideIt (fun y u W (hu : Poss W u PB) => of_is u PB y W hu)
    have hcI : (t : Int) ≤ (c : Int) := by omega
    have htI : (t : Int) ≤ (l.length : Int) := by omega
    have ht0 : (0 : Int) ≤ (t : Int) := by omega
    have hw1 : IntKind.i64.wrap ((l.length : Int) + 1) = (l.length : Int) + 1 := by rw [IntKind.wrap_i64]; omega
    have hnz : ((l.length : Int) + 1 == 0) = false := by simp; omega
    have hl0 := hb2.1
    generalize l.drop t = D at *
    generalize l.take t = T at *
    generalize D ++ T = Q at *
    clear n1 n2 n3 n4 hall HG1 HG2 hcap h hb2
    by_cases hxn : x < 0
    · have hw2 : IntKind.i64.wrap (x + 1) = x + 1 := by unfold i64B at hx; rw [IntKind.wrap_i64]; omega
      have hw3 : IntKind.i64.wrap (-(x + 1)) = -(x + 1) := by unfold i64B at hx; rw [IntKind.wrap_i64]; omega
      have hm := hm1 hxn
      have hw4 : IntKind.i64.wrap (t : Int) = (t : Int) := by rw [IntKind.wrap_i64]; omega
      clear hm1 hm2 hx
      go_enter Try.func5, Try.ntmps5
      go_wp2_with fail
      refine HN.out.mono ?_
      rintro e w1 ⟨na, nc, rfl, ho, hb⟩
      dsimp only
      have O1 := hideIt ho
      have B1 := hideIt hb
      clear ho hb HN
      go_wp2_with fail
      refine (HN1.out _ B1.out).mono ?_
      rintro e w2 ⟨aa, ac, rfl, ho, hb⟩
      dsimp only
      have O2 := hideIt (own_keep O1.out hb)
      have A2 := hideIt (own_base ho B1.out.size)
      have B2 := hideIt (below_via B1.out hb)
      clear ho hb HN1 O1 B1
      go_wp2_with fail
      refine (HN2.out _ B2.out).mono ?_
      rintro e w3 ⟨ba, bc, rfl, ho, hb⟩
      dsimp only
      have O3 := hideIt (own_keep O2.out hb)
      have A3 := hideIt (own_keep A2.out hb)
      have E3 := hideIt (own_base ho B2.out.size)
      have B3 := hideIt (below_via B2.out hb)
      clear ho hb HN2 O2 A2 B2
      obtain ⟨ta, tc, w4, hrun, how, hb⟩ := HA1.out w3 B3.out
      have HRUN1 := hideIt hrun
      have B4 := hideIt (below_via B3.out hb)
      have how4 := own_base how B3.out.size
      obtain ⟨tv, w5, hrun2, how5, hgr⟩ := HA2.out w4 _ B4.out how4
      obtain ⟨qa, qc, rfl⟩ := own_len how5
      have HRUN2 := hideIt hrun2
      have B5 := hideIt (grown_own hgr how4 (Nat.le_refl _) B4.out)
      have O5 := hideIt (own_type hgr how4 (own_keep O3.out hb) (by decide))
      have A5 := hideIt (own_type hgr how4 (own_keep A3.out hb) (by decide))
      have E5 := hideIt (own_type hgr how4 (own_keep E3.out hb) (by decide))
      have F5 : Hid (Fils w5 (.slice qa Q.length qc) Q) := own_sgot how5 (by omega)
      clear hrun hrun2 how how4 how5 hgr hb O3 A3 E3 B3 B4 HA1 HA2
      go_upto_region 11 with (at_builtin; refine Lib.wpList_append_run _ rfl _ _ _ _ rfl _ _ rfl rfl _ _ HRUN1.out ?_)
      go_upto_region 12 with (at_builtin; refine Lib.wpList_append_run _ rfl _ _ _ _ rfl _ _ rfl rfl _ _ HRUN2.out ?_)
      clear HRUN1 HRUN2
      go_wp2_with fail
      refine (HN3.out _ _ F5.out).mono ?_
      rintro e w6 ⟨ra, rc, rfl, ho, hb⟩
      dsimp only
      have P6 : Hid (Poss w6 (.slice na P.length nc) P) := own_sgot (own_keep O5.out hb) (by omega)
      have Q6 : Hid (Poss w6 (.slice ra P.length rc) P) := own_sgot ho (by omega)
      have A6 : Hid (Poss w6 (.slice aa PA.length ac) PA) := own_sgot (own_keep A5.out hb) (by omega)
      have E6 : Hid (Poss w6 (.slice ba PB.length bc) PB) := own_sgot (own_keep E5.out hb) (by omega)
      have B6 := hideIt (below_via B5.out hb)
      clear ho hb HN3 O5 A5 E5 B5 F5
      go_wp2_with fail
      refine (HSM.out _ _ _ P6.out Q6.out).mono ?_
      rintro e w7 ⟨rfl, hb⟩
      dsimp only
      have P7 := hideIt (P6.out.keep hb)
      have A7 := hideIt (A6.out.keep hb)
      have E7 := hideIt (E6.out.keep hb)
      have B7 := hideIt (below_via B6.out hb)
      clear hb P6 Q6 A6 E6 B6 HSM R1 R2
      obtain ⟨pa, pc, e, -, hr⟩ := P7.out.poss
      simp only [Value.slice.injEq, true_and] at e
      obtain ⟨rfl, rfl⟩ := e
      have HH := hideIt hr
      clear hr P7
      go_upto_region 16 with fail
      go_loopw [14] (fun v wr => ∃ i : Nat, v = .int .i64 i ∧ i ≤ P.length ∧ Hid (Below w7.heap.size w7 wr)) (fun v _ => P.length - (intOf v).toNat)
      case atStart => exact ⟨0, rfl, Nat.zero_le _, hideIt (Below.refl _ _)⟩
      case round =>
        obtain ⟨i, rfl, hi, HR⟩ := hrel
        by_cases hlt : i < P.length
        · have hltI : (i : Int) < (P.length : Int) := by omega
          have hi0 : (0 : Int) ≤ (i : Int) := by omega
          have hwi : IntKind.i64.wrap ((i : Int) + 1) = ((i + 1 : Nat) : Int) := by rw [IntKind.wrap_i64]; omega
          obtain ⟨b, off, rfl, hbl, q0, q1, q2⟩ := HH.out i hlt
          have hblr : b < wr.heap.size := Nat.lt_of_lt_of_le hbl HR.out.size
          have c0 := (HR.out.cell (p := ⟨b, off + i * 3, none⟩) hbl).trans q0
          have HPE := hideIt (HALL.out P[i] (List.getElem_mem hlt))
          clear HH HALL
          generalize P[i] = y at *
          obtain ⟨ya, ym, yg⟩ := y
          dsimp only at c0 q0 q1 q2 HPE
          go_wp2_with fail
          refine (HOA.out ya _ wr (A7.out.keep HR.out)).mono ?_
          rintro e w8 ⟨rfl, hb⟩
          dsimp only
          obtain ⟨s0, s1, s2⟩ := HPE.out
          have hs1 := s0.1
          have hs2 := s0.2
          generalize (ofP PA ya).acc = xa at *
          generalize (ofP PA ya).m = xm at *
          generalize (ofP PA ya).g = xg at *
          have hb1 := below1 w8 (.cells #[.int .i64 xa, .int .i64 xm, .int .i64 xg] 31)
          have R8 := hideIt (below_via HR.out (below_via hb hb1))
          have K8 := hideIt (heap_alloc_new w8 (.cells #[.int .i64 xa, .int .i64 xm, .int .i64 xg] 31))
          have d0 := (R8.out.cell (p := ⟨b, off + i * 3, none⟩) hbl).trans q0
          have dz : b < (w8.alloc (.cells #[.int .i64 xa, .int .i64 xm, .int .i64 xg] 31)).heap.size := Nat.lt_of_lt_of_le hbl R8.out.size
          clear hb hb1 HR c0 hblr HOA HPE s0
          go_upto_region 19 with fail
          generalize w8.alloc (.cells #[.int .i64 xa, .int .i64 xm, .int .i64 xg] 31) = W8 at *
          generalize w8.heap.size = k8 at *
          go_wp2_with fail
          refine (HOB.out ya _ W8 (E7.out.keep R8.out)).mono ?_
          rintro e w9 ⟨rfl, hb⟩
          dsimp only
          generalize (ofP PB ya).acc = za at *
          generalize (ofP PB ya).m = zm at *
          generalize (ofP PB ya).g = zg at *
          have hb1 := below1 w9 (.cells #[.int .i64 za, .int .i64 zm, .int .i64 zg] 31)
          have R9 := hideIt (below_via R8.out (below_via hb hb1))
          have K9 := hideIt (heap_alloc_new w9 (.cells #[.int .i64 za, .int .i64 zm, .int .i64 zg] 31))
          have K89 := hideIt (((below_via hb hb1).block _ (Array.getElem?_eq_some_iff.1 K8.out).1).trans K8.out)
          have f1 := (R9.out.cell (p := ⟨b, off + i * 3 + 1, none⟩) hbl).trans q1
          have f2 := (R9.out.cell (p := ⟨b, off + i * 3 + 2, none⟩) hbl).trans q2
          have fz : b < (w9.alloc (.cells #[.int .i64 za, .int .i64 zm, .int .i64 zg] 31)).heap.size := Nat.lt_of_lt_of_le hbl R9.out.size
          clear hb hb1 R8 K8 d0 dz q0 q1 q2 HOB hbl
          go_upto_region 20 with fail
          generalize w9.alloc (.cells #[.int .i64 za, .int .i64 zm, .int .i64 zg] 31) = W9 at *
          generalize w9.heap.size = k9 at *
          obtain ⟨⟨g0, g1, g2⟩, -, gz⟩ := three_at K89.out
          obtain ⟨⟨j0, j1, j2⟩, -, jz⟩ := three_at K9.out
          have hwA : IntKind.i64.wrap (xm + zm) = ym := by rw [hs1, IntKind.wrap_i64]; omega
          have hwB : IntKind.i64.wrap (xg + zg) = yg := by rw [hs2, IntKind.wrap_i64]; omega
          have hgA : (!decide (ym = ym)) = false := by simp
          have hgB : (!decide (yg = yg)) = false := by simp
          clear K89 K9 hs1 hs2 s1 s2
          go_quiet (fail)
          have R10 := hideIt (below_drewN R9.out nq)
          clear R9 f1 f2 fz g0 g1 g2 gz j0 j1 j2 jz
          generalize W9.drewN nq = W10 at *
          go_wp2
          go_roundw
          case rel => exact ⟨i + 1, by go_num, by omega, R10⟩
          case measure => simp [intOf]; omega
        · have hltI : ¬ (i : Int) < (P.length : Int) := by omega
          have B8 := hideIt (below_via B7.out HR.out)
          clear HR HH HALL HOA HOB A7 E7 B7
          go_wp2_with fail
          refine (HLV.out _).mono ?_
          rintro e w8 ⟨rfl, hb⟩
          dsimp only
          have B9 := hideIt (below_via B8.out hb)
          clear hb B8
          go_wp2
          go_ret
          exact ⟨rfl, B9.out⟩
    · have hm := hm2 (by omega)
      have hw4 : IntKind.i64.wrap (t : Int) = (t : Int) := by rw [IntKind.wrap_i64]; omega
      clear hm1 hm2 hx
      go_enter Try.func5, Try.ntmps5
      go_wp2_with fail
      refine HN.out.mono ?_
      rintro e w1 ⟨na, nc, rfl, ho, hb⟩
      dsimp only
      have O1 := hideIt ho
      have B1 := hideIt hb
      clear ho hb HN
      go_wp2_with fail
      refine (HN1.out _ B1.out).mono ?_
      rintro e w2 ⟨aa, ac, rfl, ho, hb⟩
      dsimp only
      have O2 := hideIt (own_keep O1.out hb)
      have A2 := hideIt (own_base ho B1.out.size)
      have B2 := hideIt (below_via B1.out hb)
      clear ho hb HN1 O1 B1
      go_wp2_with fail
      refine (HN2.out _ B2.out).mono ?_
      rintro e w3 ⟨ba, bc, rfl, ho, hb⟩
      dsimp only
      have O3 := hideIt (own_keep O2.out hb)
      have A3 := hideIt (own_keep A2.out hb)
      have E3 := hideIt (own_base ho B2.out.size)
      have B3 := hideIt (below_via B2.out hb)
      clear ho hb HN2 O2 A2 B2
      obtain ⟨ta, tc, w4, hrun, how, hb⟩ := HA1.out w3 B3.out
      have HRUN1 := hideIt hrun
      have B4 := hideIt (below_via B3.out hb)
      have how4 := own_base how B3.out.size
      obtain ⟨tv, w5, hrun2, how5, hgr⟩ := HA2.out w4 _ B4.out how4
      obtain ⟨qa, qc, rfl⟩ := own_len how5
      have HRUN2 := hideIt hrun2
      have B5 := hideIt (grown_own hgr how4 (Nat.le_refl _) B4.out)
      have O5 := hideIt (own_type hgr how4 (own_keep O3.out hb) (by decide))
      have A5 := hideIt (own_type hgr how4 (own_keep A3.out hb) (by decide))
      have E5 := hideIt (own_type hgr how4 (own_keep E3.out hb) (by decide))
      have F5 : Hid (Fils w5 (.slice qa Q.length qc) Q) := own_sgot how5 (by omega)
      clear hrun hrun2 how how4 how5 hgr hb O3 A3 E3 B3 B4 HA1 HA2
      go_upto_region 11 with (at_builtin; refine Lib.wpList_append_run _ rfl _ _ _ _ rfl _ _ rfl rfl _ _ HRUN1.out ?_)
      go_upto_region 12 with (at_builtin; refine Lib.wpList_append_run _ rfl _ _ _ _ rfl _ _ rfl rfl _ _ HRUN2.out ?_)
      clear HRUN1 HRUN2
      go_wp2_with fail
      refine (HN3.out _ _ F5.out).mono ?_
      rintro e w6 ⟨ra, rc, rfl, ho, hb⟩
      dsimp only
      have P6 : Hid (Poss w6 (.slice na P.length nc) P) := own_sgot (own_keep O5.out hb) (by omega)
      have Q6 : Hid (Poss w6 (.slice ra P.length rc) P) := own_sgot ho (by omega)
      have A6 : Hid (Poss w6 (.slice aa PA.length ac) PA) := own_sgot (own_keep A5.out hb) (by omega)
      have E6 : Hid (Poss w6 (.slice ba PB.length bc) PB) := own_sgot (own_keep E5.out hb) (by omega)
      have B6 := hideIt (below_via B5.out hb)
      clear ho hb HN3 O5 A5 E5 B5 F5
      go_wp2_with fail
      refine (HSM.out _ _ _ P6.out Q6.out).mono ?_
      rintro e w7 ⟨rfl, hb⟩
      dsimp only
      have P7 := hideIt (P6.out.keep hb)
      have A7 := hideIt (A6.out.keep hb)
      have E7 := hideIt (E6.out.keep hb)
      have B7 := hideIt (below_via B6.out hb)
      clear hb P6 Q6 A6 E6 B6 HSM R1 R2
      obtain ⟨pa, pc, e, -, hr⟩ := P7.out.poss
      simp only [Value.slice.injEq, true_and] at e
      obtain ⟨rfl, rfl⟩ := e
      have HH := hideIt hr
      clear hr P7
      go_upto_region 16 with fail
      go_loopw [14] (fun v wr => ∃ i : Nat, v = .int .i64 i ∧ i ≤ P.length ∧ Hid (Below w7.heap.size w7 wr)) (fun v _ => P.length - (intOf v).toNat)
      case atStart => exact ⟨0, rfl, Nat.zero_le _, hideIt (Below.refl _ _)⟩
      case round =>
        obtain ⟨i, rfl, hi, HR⟩ := hrel
        by_cases hlt : i < P.length
        · have hltI : (i : Int) < (P.length : Int) := by omega
          have hi0 : (0 : Int) ≤ (i : Int) := by omega
          have hwi : IntKind.i64.wrap ((i : Int) + 1) = ((i + 1 : Nat) : Int) := by rw [IntKind.wrap_i64]; omega
          obtain ⟨b, off, rfl, hbl, q0, q1, q2⟩ := HH.out i hlt
          have hblr : b < wr.heap.size := Nat.lt_of_lt_of_le hbl HR.out.size
          have c0 := (HR.out.cell (p := ⟨b, off + i * 3, none⟩) hbl).trans q0
          have HPE := hideIt (HALL.out P[i] (List.getElem_mem hlt))
          clear HH HALL
          generalize P[i] = y at *
          obtain ⟨ya, ym, yg⟩ := y
          dsimp only at c0 q0 q1 q2 HPE
          go_wp2_with fail
          refine (HOA.out ya _ wr (A7.out.keep HR.out)).mono ?_
          rintro e w8 ⟨rfl, hb⟩
          dsimp only
          obtain ⟨s0, s1, s2⟩ := HPE.out
          have hs1 := s0.1
          have hs2 := s0.2
          generalize (ofP PA ya).acc = xa at *
          generalize (ofP PA ya).m = xm at *
          generalize (ofP PA ya).g = xg at *
          have hb1 := below1 w8 (.cells #[.int .i64 xa, .int .i64 xm, .int .i64 xg] 31)
          have R8 := hideIt (below_via HR.out (below_via hb hb1))
          have K8 := hideIt (heap_alloc_new w8 (.cells #[.int .i64 xa, .int .i64 xm, .int .i64 xg] 31))
          have d0 := (R8.out.cell (p := ⟨b, off + i * 3, none⟩) hbl).trans q0
          have dz : b < (w8.alloc (.cells #[.int .i64 xa, .int .i64 xm, .int .i64 xg] 31)).heap.size := Nat.lt_of_lt_of_le hbl R8.out.size
          clear hb hb1 HR c0 hblr HOA HPE s0
          go_upto_region 19 with fail
          generalize w8.alloc (.cells #[.int .i64 xa, .int .i64 xm, .int .i64 xg] 31) = W8 at *
          generalize w8.heap.size = k8 at *
          go_wp2_with fail
          refine (HOB.out ya _ W8 (E7.out.keep R8.out)).mono ?_
          rintro e w9 ⟨rfl, hb⟩
          dsimp only
          generalize (ofP PB ya).acc = za at *
          generalize (ofP PB ya).m = zm at *
          generalize (ofP PB ya).g = zg at *
          have hb1 := below1 w9 (.cells #[.int .i64 za, .int .i64 zm, .int .i64 zg] 31)
          have R9 := hideIt (below_via R8.out (below_via hb hb1))
          have K9 := hideIt (heap_alloc_new w9 (.cells #[.int .i64 za, .int .i64 zm, .int .i64 zg] 31))
          have K89 := hideIt (((below_via hb hb1).block _ (Array.getElem?_eq_some_iff.1 K8.out).1).trans K8.out)
          have f1 := (R9.out.cell (p := ⟨b, off + i * 3 + 1, none⟩) hbl).trans q1
          have f2 := (R9.out.cell (p := ⟨b, off + i * 3 + 2, none⟩) hbl).trans q2
          have fz : b < (w9.alloc (.cells #[.int .i64 za, .int .i64 zm, .int .i64 zg] 31)).heap.size := Nat.lt_of_lt_of_le hbl R9.out.size
          clear hb hb1 R8 K8 d0 dz q0 q1 q2 HOB hbl
          go_upto_region 20 with fail
          generalize w9.alloc (.cells #[.int .i64 za, .int .i64 zm, .int .i64 zg] 31) = W9 at *
          generalize w9.heap.size = k9 at *
          obtain ⟨⟨g0, g1, g2⟩, -, gz⟩ := three_at K89.out
          obtain ⟨⟨j0, j1, j2⟩, -, jz⟩ := three_at K9.out
          have hwA : IntKind.i64.wrap (xm + zm) = ym := by rw [hs1, IntKind.wrap_i64]; omega
          have hwB : IntKind.i64.wrap (xg + zg) = yg := by rw [hs2, IntKind.wrap_i64]; omega
          have hgA : (!decide (ym = ym)) = false := by simp
          have hgB : (!decide (yg = yg)) = false := by simp
          clear K89 K9 hs1 hs2 s1 s2
          go_quiet (fail)
          have R10 := hideIt (below_drewN R9.out nq)
          clear R9 f1 f2 fz g0 g1 g2 gz j0 j1 j2 jz
          generalize W9.drewN nq = W10 at *
          go_wp2
          go_roundw
          case rel => exact ⟨i + 1, by go_num, by omega, R10⟩
          case measure => simp [intOf]; omega
        · have hltI : ¬ (i : Int) < (P.length : Int) := by omega
          have B8 := hideIt (below_via B7.out HR.out)
          clear HR HH HALL HOA HOB A7 E7 B7
          go_wp2_with fail
          refine (HLV.out _).mono ?_
          rintro e w8 ⟨rfl, hb⟩
          dsimp only
          have B9 := hideIt (below_via B8.out hb)
          clear hb B8
          go_wp2
          go_ret
          exact ⟨rfl, B9.out⟩
theorem parts_all2 (v : Value) (l : List FillV) (x : Int) (w : World) (h : Fils w v l) (hx : (Lit.int .i64 x).wf = true) : Calls Try.prog 5 #[v, .int .i64 x] w fun e w' => e = .returned (.bool true) ∧ Below w.heap.size w w' := parts_walk v l x w h (wfB3 hx)
end Go.Proofs.Ytbpnnhalajbjnaa
