/- With a fuse just so many of the changes go: the walk of the statement (P3.4). -/
import Derived.Test.YtpgimffghaelhaaPlayed
namespace Go.Proofs.Ytpgimffghaelhaa
open Go.RowKit Go.Maps

/-- What a call answers and leaves that may be refused. -/
structure Step (S : St) (E : Nat) (S' : St) : Prop where
  down : S.fuse = 0 → E = 31 ∧ S' = S
  went : 0 < S.fuse → E = 0 → S'.fuse = S.fuse - 1
  stay : E ≠ 0 → S' = S
  notDown : 0 < S.fuse → E ≠ 31
theorem burn_fuse (S : St) (h : 0 < S.fuse) : (burn S).fuse = S.fuse - 1 := by simp [burn, h]
theorem append_step (S : St) (i : Int) (s : List UInt8) : Step S (appendE S i s) (appendS S i s) := by
  refine ⟨fun h => ?_, fun h e => ?_, fun e => ?_, fun h e => ?_⟩
  · have e : appendE S i s = 31 := by unfold appendE; rw [if_pos h]
    exact ⟨e, by unfold appendS; rw [e]; rfl⟩
  · unfold appendS
    rw [if_pos e]
    exact burn_fuse _ h
  · unfold appendS; rw [if_neg e]
  · unfold appendE at e
    rw [if_neg (by omega)] at e
    split at e
    · cases e
    · split at e <;> cases e
theorem sync_step (S : St) : Step S (syncE S) (syncS S) := by
  unfold syncE syncS
  refine ⟨fun h => ?_, fun h e => ?_, fun e => ?_, fun h e => ?_⟩
  · rw [if_pos h, if_pos h]; exact ⟨rfl, rfl⟩
  · rw [if_neg (by omega)]; exact burn_fuse _ h
  · split at e
    · rename_i h; rw [if_pos h]
    · exact absurd rfl e
  · rw [if_neg (by omega)] at e; cases e
theorem cut_step (S : St) (i n : Int) : Step S (cutE S i n) (cutS S i n) := by
  refine ⟨fun h => ?_, fun h e => ?_, fun e => ?_, fun h e => ?_⟩
  · have e : cutE S i n = 31 := by unfold cutE; rw [if_pos h]
    exact ⟨e, by unfold cutS; rw [e]; rfl⟩
  · unfold cutS
    rw [if_pos e]
    exact burn_fuse _ h
  · unfold cutS; rw [if_neg e]
  · unfold cutE at e
    rw [if_neg (by omega)] at e
    split at e
    · cases e
    · split at e <;> cases e
theorem usedB {w : World} {B p : Nat} {S : St} {N : Nat} (h : DiskB w B p S N) : Calls Try.prog 25 #[.pointer (some ⟨p, 0, none⟩)] w (fun e w' => e = .returned (.int .i64 (tot S.seg 1000 : Int)) ∧ Below w.heap.size w w') := (fields_is h).2.1
set_option maxHeartbeats 8000000 in
set_option maxRecDepth 100000 in
theorem fuse_walk (w : World) (x : Int) (hx : i64B x) (a : Option Addr) (cap : Nat) (l0 : List OpV) (h : OpsAt w a l0) (hc : l0.length ≤ cap) (hm : cap ≤ 9223372036854775807) (y : Int) (hy : i64B y)
    (a2 : Option Addr) (cap2 : Nat) (m0 : List OpV) (h2 : OpsAt w a2 m0) (hc2 : m0.length ≤ cap2) (hm2 : cap2 ≤ 9223372036854775807) :
    Calls Try.prog 6 #[.int .i64 x, .slice a l0.length cap, .int .i64 y, .slice a2 m0.length cap2] w fun e w' => e = .returned (.bool true) ∧ Below w.heap.size w w' := by
  have hfl : pickN y 12 < 12 := Nat.mod_lt _ (by omega)
  have H1 := hideIt (played_is w x hx a cap l0 h hc hm)
  have H2 := hideIt (fun W => pick_is y 12 W hy (by omega) (by omega))
  have HF := hideIt (fun W (hb : Below w.heap.size w W) => few_is W a2 cap2 m0 (h2.below hb) hc2 hm2)
  have hL := h2.take 60
  have hl60 : (m0.take 60).length ≤ 60 := by simp; omega
  generalize m0.take 60 = l at *
  have HL := hideIt hL
  clear h h2 hL
  generalize pickN y 12 = fu at *
  go_enter Try.func6, Try.ntmps6
  go_wp2_with fail
  refine H1.out.mono ?_
  rintro e w1 ⟨p, S1, N1, rfl, hd1, hN1, hb1⟩
  dsimp only
  have HD1 := hideIt hd1
  have HB1 := hideIt hb1
  clear hd1 hb1 H1
  go_wp2_with fail
  refine (H2.out _).mono ?_
  rintro e w2 ⟨rfl, rfl⟩
  dsimp only
  have H3 := hideIt (fuseB HD1.out HB1.out.size (fu : Int) (by omega))
  have hfe : fuseE (fu : Int) = 0 := by unfold fuseE; rw [if_neg (by omega)]
  have hfs : (fuseS S1 (fu : Int)).fuse = (fu : Int) := by unfold fuseS; rw [if_neg (by omega)]
  rw [hfe] at H3
  generalize fuseS S1 (fu : Int) = S2 at *
  clear HD1 hfe H2
  go_wp2_with fail
  refine H3.out.mono ?_
  rintro e w3 ⟨rfl, hd3, hb3⟩
  dsimp only
  have HB3 := hideIt (HB1.out.trans hb3)
  have HD3 := hideIt hd3
  clear hd3 hb3 H3 HB1
  go_wp2_with fail
  refine (HF.out _ HB3.out).mono ?_
  rintro e w4 ⟨rfl, rfl⟩
  dsimp only
  clear HF
  have Hfs := hideIt hfs
  clear hfs
  go_wp2
  go_loopw [10, 11] (fun g v wr => ∃ (t N k : Nat) (S : St), t ≤ l.length ∧ v = .int .i64 (t : Int) ∧ k ≤ fu ∧ g = .int .i64 (k : Int) ∧ N ≤ 60 + t ∧ Hid (S.fuse = (fu : Int) - (k : Int)) ∧ Hid (DiskB wr w.heap.size p S N) ∧ Hid (Below w.heap.size w wr)) (fun _ v _ => l.length - (intOf v).toNat)
  case atStart => exact ⟨0, N1, 0, S2, by omega, rfl, by omega, rfl, by omega, by show _ = _; rw [Hfs.out]; simp, HD3, HB3⟩
  case round =>
    obtain ⟨t, N, k, S, htl, rfl, hkf, rfl, hNt, HS, HD, HB⟩ := hrel
    by_cases hlt : t < l.length
    · have hlt' : (t : Int) < l.length := by omega
      obtain ⟨b, off, rfl, hbl, o0, o1, o2, o3, o4, i0, i1, i2, hkn⟩ := HL.out t hlt
      generalize l[t] = o at *
      obtain ⟨dO, seg, n, bytes, keep, ka, kc⟩ := o
      dsimp only at o0 o1 o2 o3 o4 i0 i1 i2 hkn
      have c0 : wr.cell? ⟨b, off + t * 5, none⟩ = some (.int .i64 dO) := (HB.out.cell (p := ⟨b, off + t * 5, none⟩) hbl).trans o0
      have c1 : wr.cell? ⟨b, off + t * 5 + 1, none⟩ = some (.int .i64 seg) := (HB.out.cell (p := ⟨b, off + t * 5 + 1, none⟩) hbl).trans o1
      have c2 : wr.cell? ⟨b, off + t * 5 + 2, none⟩ = some (.int .i64 n) := (HB.out.cell (p := ⟨b, off + t * 5 + 2, none⟩) hbl).trans o2
      have c3 : wr.cell? ⟨b, off + t * 5 + 3, none⟩ = some (.string bytes) := (HB.out.cell (p := ⟨b, off + t * 5 + 3, none⟩) hbl).trans o3
      have c4 : wr.cell? ⟨b, off + t * 5 + 4, none⟩ = some (.slice ka keep.length kc) := (HB.out.cell (p := ⟨b, off + t * 5 + 4, none⟩) hbl).trans o4
      clear o0 o1 o2 o3 o4
      go_upto_region 13 with fail
      have hX1 : Below w.heap.size w (wr.alloc (Obj.cells #[Value.int IntKind.i64 dO, Value.int IntKind.i64 seg, Value.int IntKind.i64 n, Value.string bytes, Value.slice ka keep.length kc] 37)) := HB.out.alloc HB.out.size _
      have hX2 : DiskB (wr.alloc (Obj.cells #[Value.int IntKind.i64 dO, Value.int IntKind.i64 seg, Value.int IntKind.i64 n, Value.string bytes, Value.slice ka keep.length kc] 37)) w.heap.size p S N := HD.out.keep ((Below.refl _ wr).alloc (Nat.le_refl _) _)
      have hz := heap_alloc_new wr (Obj.cells #[Value.int IntKind.i64 dO, Value.int IntKind.i64 seg, Value.int IntKind.i64 n, Value.string bytes, Value.slice ka keep.length kc] 37)
      have hzl : wr.heap.size < (wr.alloc (Obj.cells #[Value.int IntKind.i64 dO, Value.int IntKind.i64 seg, Value.int IntKind.i64 n, Value.string bytes, Value.slice ka keep.length kc] 37)).heap.size := by simp
      generalize wr.alloc (Obj.cells #[Value.int IntKind.i64 dO, Value.int IntKind.i64 seg, Value.int IntKind.i64 n, Value.string bytes, Value.slice ka keep.length kc] 37) = X0 at *
      generalize wr.heap.size = z at *
      have HU := hideIt (usedB hX2)
      have HX1' := hideIt hX1
      have HX2' := hideIt hX2
      have HZ := hideIt hz
      clear hX1 hX2 hz c0 c1 c2 c3 c4 HD HB hkn i0
      go_wp2_with fail
      refine HU.out.mono ?_
      rintro e X ⟨rfl, hbX⟩
      dsimp only
      have hz : X.heap[z]? = some (Obj.cells #[Value.int IntKind.i64 dO, Value.int IntKind.i64 seg, Value.int IntKind.i64 n, Value.string bytes, Value.slice ka keep.length kc] 37) := (hbX.block z hzl).trans HZ.out
      have d0 : X.cell? ⟨z, 0, none⟩ = some (.int .i64 dO) := by rw [cell_at hz]; rfl
      have d1 : X.cell? ⟨z, 1, none⟩ = some (.int .i64 seg) := by rw [cell_at hz]; rfl
      have d2 : X.cell? ⟨z, 2, none⟩ = some (.int .i64 n) := by rw [cell_at hz]; rfl
      have d3 : X.cell? ⟨z, 3, none⟩ = some (.string bytes) := by rw [cell_at hz]; rfl
      have HX1 := hideIt (HX1'.out.trans (hbX.mono HX1'.out.size))
      have HX2 := hideIt (HX2'.out.keep hbX)
      have HI1 := hideIt i1
      clear HX1' HX2' HZ hz HU hbX i1 i2 hzl
      by_cases q0 : dO = 0
      · subst q0
        clear hc hm
        have hst := append_step S seg bytes.data.toList
        have HC := hideIt (appendB HX2.out HX1.out.size seg bytes (by omega))
        by_cases hk : k = fu
        · subst hk
          have hf0 : S.fuse = 0 := by have := HS.out; omega
          obtain ⟨e1, e2⟩ := hst.down hf0
          rw [e1, e2] at HC
          clear hst e1 e2
          go_wp2_with fail
          refine HC.out.mono ?_
          rintro e w5 ⟨rfl, hd5, hb5⟩
          dsimp only
          have HU5 := hideIt (up_is hd5)
          have hup : decide (S.fuse ≠ 0) = false := by simp [hf0]
          rw [hup] at HU5
          have HD5 := hideIt hd5
          have HB5 := hideIt (HX1.out.trans hb5)
          clear hd5 hb5 HC hf0 hup
          go_wp2_with fail
          refine HU5.out.mono ?_
          rintro e w6 ⟨rfl, hb6⟩
          dsimp only
          have HD6 := hideIt (HD5.out.keep hb6)
          have HB6 := hideIt (HB5.out.trans (hb6.mono HB5.out.size))
          have HU6 := hideIt (usedB HD6.out)
          clear hb6 HU5 HD5 HB5
          go_wp2_with fail
          refine HU6.out.mono ?_
          rintro e w7 ⟨rfl, hb7⟩
          dsimp only
          have HD7 := hideIt (HD6.out.keep hb7)
          have HB7 := hideIt (HB6.out.trans (hb7.mono HB6.out.size))
          clear hb7 HU6 HD6 HB6
          go_wp2
          go_roundw
          case rel => exact ⟨t + 1, N + 1, k, S, by omega, by go_num, by omega, rfl, by omega, HS, HD7, HB7⟩
          case measure => simp [intOf]; omega
        · have hkk : ((k : Int) == (fu : Int)) = false := beq_eq_false_iff_ne.2 (by omega)
          have hf1 : 0 < S.fuse := by have := HS.out; omega
          have hnd := hst.notDown hf1
          by_cases he : appendE S seg bytes.data.toList = 0
          · have hk1 : k + 1 ≤ fu := by omega
            have hw := hst.went hf1 he
            rw [he] at HC
            generalize appendS S seg bytes.data.toList = S' at *
            have HS' : Hid (S'.fuse = (fu : Int) - ((k + 1 : Nat) : Int)) := by
              show _ = _
              rw [hw, HS.out]
              omega
            clear hst hw hnd he hf1 hk
            go_wp2_with fail
            refine HC.out.mono ?_
            rintro e w5 ⟨rfl, hd5, hb5⟩
            dsimp only
            have HD5 := hideIt hd5
            have HB5 := hideIt (HX1.out.trans hb5)
            clear hd5 hb5 HC
            go_wp2
            go_roundw
            case rel => exact ⟨t + 1, N + 1, k + 1, S', by omega, by go_num, by omega, by go_num, by omega, HS', HD5, HB5⟩
            case measure => simp [intOf]; omega
          · have hs := hst.stay he
            rw [hs] at HC
            generalize appendE S seg bytes.data.toList = E at *
            have hE1 : ((E : Int) == 31) = false := beq_eq_false_iff_ne.2 (by omega)
            have hE2 : ((E : Int) == 0) = false := beq_eq_false_iff_ne.2 (by omega)
            clear hst hs hnd he hf1 hk
            go_wp2_with fail
            refine HC.out.mono ?_
            rintro e w5 ⟨rfl, hd5, hb5⟩
            dsimp only
            have HD5 := hideIt hd5
            have HB5 := hideIt (HX1.out.trans hb5)
            clear hd5 hb5 HC
            go_wp2
            go_roundw
            case rel => exact ⟨t + 1, N + 1, k, S, by omega, by go_num, by omega, rfl, by omega, HS, HD5, HB5⟩
            case measure => simp [intOf]; omega
      by_cases q1 : dO = 1
      · subst q1
        clear q0
        have hst := sync_step S
        have HC := hideIt (syncB HX2.out HX1.out.size (by omega))
        by_cases hk : k = fu
        · subst hk
          have hf0 : S.fuse = 0 := by have := HS.out; omega
          obtain ⟨e1, e2⟩ := hst.down hf0
          rw [e1, e2] at HC
          clear hst e1 e2
          go_wp2_with fail
          refine HC.out.mono ?_
          rintro e w5 ⟨rfl, hd5, hb5⟩
          dsimp only
          have HU5 := hideIt (up_is hd5)
          have hup : decide (S.fuse ≠ 0) = false := by simp [hf0]
          rw [hup] at HU5
          have HD5 := hideIt hd5
          have HB5 := hideIt (HX1.out.trans hb5)
          clear hd5 hb5 HC hf0 hup
          go_wp2_with fail
          refine HU5.out.mono ?_
          rintro e w6 ⟨rfl, hb6⟩
          dsimp only
          have HD6 := hideIt (HD5.out.keep hb6)
          have HB6 := hideIt (HB5.out.trans (hb6.mono HB5.out.size))
          have HU6 := hideIt (usedB HD6.out)
          clear hb6 HU5 HD5 HB5
          go_wp2_with fail
          refine HU6.out.mono ?_
          rintro e w7 ⟨rfl, hb7⟩
          dsimp only
          have HD7 := hideIt (HD6.out.keep hb7)
          have HB7 := hideIt (HB6.out.trans (hb7.mono HB6.out.size))
          clear hb7 HU6 HD6 HB6
          go_wp2
          go_roundw
          case rel => exact ⟨t + 1, N + 1, k, S, by omega, by go_num, by omega, rfl, by omega, HS, HD7, HB7⟩
          case measure => simp [intOf]; omega
        · have hkk : ((k : Int) == (fu : Int)) = false := beq_eq_false_iff_ne.2 (by omega)
          have hf1 : 0 < S.fuse := by have := HS.out; omega
          have hnd := hst.notDown hf1
          by_cases he : syncE S = 0
          · have hk1 : k + 1 ≤ fu := by omega
            have hw := hst.went hf1 he
            rw [he] at HC
            generalize syncS S = S' at *
            have HS' : Hid (S'.fuse = (fu : Int) - ((k + 1 : Nat) : Int)) := by
              show _ = _
              rw [hw, HS.out]
              omega
            clear hst hw hnd he hf1 hk
            go_wp2_with fail
            refine HC.out.mono ?_
            rintro e w5 ⟨rfl, hd5, hb5⟩
            dsimp only
            have HD5 := hideIt hd5
            have HB5 := hideIt (HX1.out.trans hb5)
            clear hd5 hb5 HC
            go_wp2
            go_roundw
            case rel => exact ⟨t + 1, N + 1, k + 1, S', by omega, by go_num, by omega, by go_num, by omega, HS', HD5, HB5⟩
            case measure => simp [intOf]; omega
          · have hs := hst.stay he
            rw [hs] at HC
            generalize syncE S = E at *
            have hE1 : ((E : Int) == 31) = false := beq_eq_false_iff_ne.2 (by omega)
            have hE2 : ((E : Int) == 0) = false := beq_eq_false_iff_ne.2 (by omega)
            clear hst hs hnd he hf1 hk
            go_wp2_with fail
            refine HC.out.mono ?_
            rintro e w5 ⟨rfl, hd5, hb5⟩
            dsimp only
            have HD5 := hideIt hd5
            have HB5 := hideIt (HX1.out.trans hb5)
            clear hd5 hb5 HC
            go_wp2
            go_roundw
            case rel => exact ⟨t + 1, N + 1, k, S, by omega, by go_num, by omega, rfl, by omega, HS, HD5, HB5⟩
            case measure => simp [intOf]; omega
      by_cases q2 : dO = 2
      · subst q2
        clear q0 q1
        have hst := cut_step S seg n
        have HC := hideIt (cutB HX2.out HX1.out.size seg n HI1.out.wf (by omega))
        by_cases hk : k = fu
        · subst hk
          have hf0 : S.fuse = 0 := by have := HS.out; omega
          obtain ⟨e1, e2⟩ := hst.down hf0
          rw [e1, e2] at HC
          clear hst e1 e2
          go_wp2_with fail
          refine HC.out.mono ?_
          rintro e w5 ⟨rfl, hd5, hb5⟩
          dsimp only
          have HU5 := hideIt (up_is hd5)
          have hup : decide (S.fuse ≠ 0) = false := by simp [hf0]
          rw [hup] at HU5
          have HD5 := hideIt hd5
          have HB5 := hideIt (HX1.out.trans hb5)
          clear hd5 hb5 HC hf0 hup
          go_wp2_with fail
          refine HU5.out.mono ?_
          rintro e w6 ⟨rfl, hb6⟩
          dsimp only
          have HD6 := hideIt (HD5.out.keep hb6)
          have HB6 := hideIt (HB5.out.trans (hb6.mono HB5.out.size))
          have HU6 := hideIt (usedB HD6.out)
          clear hb6 HU5 HD5 HB5
          go_wp2_with fail
          refine HU6.out.mono ?_
          rintro e w7 ⟨rfl, hb7⟩
          dsimp only
          have HD7 := hideIt (HD6.out.keep hb7)
          have HB7 := hideIt (HB6.out.trans (hb7.mono HB6.out.size))
          clear hb7 HU6 HD6 HB6
          go_wp2
          go_roundw
          case rel => exact ⟨t + 1, N + 1, k, S, by omega, by go_num, by omega, rfl, by omega, HS, HD7, HB7⟩
          case measure => simp [intOf]; omega
        · have hkk : ((k : Int) == (fu : Int)) = false := beq_eq_false_iff_ne.2 (by omega)
          have hf1 : 0 < S.fuse := by have := HS.out; omega
          have hnd := hst.notDown hf1
          by_cases he : cutE S seg n = 0
          · have hk1 : k + 1 ≤ fu := by omega
            have hw := hst.went hf1 he
            rw [he] at HC
            generalize cutS S seg n = S' at *
            have HS' : Hid (S'.fuse = (fu : Int) - ((k + 1 : Nat) : Int)) := by
              show _ = _
              rw [hw, HS.out]
              omega
            clear hst hw hnd he hf1 hk
            go_wp2_with fail
            refine HC.out.mono ?_
            rintro e w5 ⟨rfl, hd5, hb5⟩
            dsimp only
            have HD5 := hideIt hd5
            have HB5 := hideIt (HX1.out.trans hb5)
            clear hd5 hb5 HC
            go_wp2
            go_roundw
            case rel => exact ⟨t + 1, N + 1, k + 1, S', by omega, by go_num, by omega, by go_num, by omega, HS', HD5, HB5⟩
            case measure => simp [intOf]; omega
          · have hs := hst.stay he
            rw [hs] at HC
            generalize cutE S seg n = E at *
            have hE1 : ((E : Int) == 31) = false := beq_eq_false_iff_ne.2 (by omega)
            have hE2 : ((E : Int) == 0) = false := beq_eq_false_iff_ne.2 (by omega)
            clear hst hs hnd he hf1 hk
            go_wp2_with fail
            refine HC.out.mono ?_
            rintro e w5 ⟨rfl, hd5, hb5⟩
            dsimp only
            have HD5 := hideIt hd5
            have HB5 := hideIt (HX1.out.trans hb5)
            clear hd5 hb5 HC
            go_wp2
            go_roundw
            case rel => exact ⟨t + 1, N + 1, k, S, by omega, by go_num, by omega, rfl, by omega, HS, HD5, HB5⟩
            case measure => simp [intOf]; omega
      by_cases q3 : dO = 3
      · subst q3
        clear q0 q1 q2
        have hst := cut_step S seg 0
        have HC := hideIt (dropB HX2.out HX1.out.size seg HI1.out.wf (by omega))
        by_cases hk : k = fu
        · subst hk
          have hf0 : S.fuse = 0 := by have := HS.out; omega
          obtain ⟨e1, e2⟩ := hst.down hf0
          rw [e1, e2] at HC
          clear hst e1 e2
          go_wp2_with fail
          refine HC.out.mono ?_
          rintro e w5 ⟨rfl, hd5, hb5⟩
          dsimp only
          have HU5 := hideIt (up_is hd5)
          have hup : decide (S.fuse ≠ 0) = false := by simp [hf0]
          rw [hup] at HU5
          have HD5 := hideIt hd5
          have HB5 := hideIt (HX1.out.trans hb5)
          clear hd5 hb5 HC hf0 hup
          go_wp2_with fail
          refine HU5.out.mono ?_
          rintro e w6 ⟨rfl, hb6⟩
          dsimp only
          have HD6 := hideIt (HD5.out.keep hb6)
          have HB6 := hideIt (HB5.out.trans (hb6.mono HB5.out.size))
          have HU6 := hideIt (usedB HD6.out)
          clear hb6 HU5 HD5 HB5
          go_wp2_with fail
          refine HU6.out.mono ?_
          rintro e w7 ⟨rfl, hb7⟩
          dsimp only
          have HD7 := hideIt (HD6.out.keep hb7)
          have HB7 := hideIt (HB6.out.trans (hb7.mono HB6.out.size))
          clear hb7 HU6 HD6 HB6
          go_wp2
          go_roundw
          case rel => exact ⟨t + 1, N + 1, k, S, by omega, by go_num, by omega, rfl, by omega, HS, HD7, HB7⟩
          case measure => simp [intOf]; omega
        · have hkk : ((k : Int) == (fu : Int)) = false := beq_eq_false_iff_ne.2 (by omega)
          have hf1 : 0 < S.fuse := by have := HS.out; omega
          have hnd := hst.notDown hf1
          by_cases he : cutE S seg 0 = 0
          · have hk1 : k + 1 ≤ fu := by omega
            have hw := hst.went hf1 he
            rw [he] at HC
            generalize cutS S seg 0 = S' at *
            have HS' : Hid (S'.fuse = (fu : Int) - ((k + 1 : Nat) : Int)) := by
              show _ = _
              rw [hw, HS.out]
              omega
            clear hst hw hnd he hf1 hk
            go_wp2_with fail
            refine HC.out.mono ?_
            rintro e w5 ⟨rfl, hd5, hb5⟩
            dsimp only
            have HD5 := hideIt hd5
            have HB5 := hideIt (HX1.out.trans hb5)
            clear hd5 hb5 HC
            go_wp2
            go_roundw
            case rel => exact ⟨t + 1, N + 1, k + 1, S', by omega, by go_num, by omega, by go_num, by omega, HS', HD5, HB5⟩
            case measure => simp [intOf]; omega
          · have hs := hst.stay he
            rw [hs] at HC
            generalize cutE S seg 0 = E at *
            have hE1 : ((E : Int) == 31) = false := beq_eq_false_iff_ne.2 (by omega)
            have hE2 : ((E : Int) == 0) = false := beq_eq_false_iff_ne.2 (by omega)
            clear hst hs hnd he hf1 hk
            go_wp2_with fail
            refine HC.out.mono ?_
            rintro e w5 ⟨rfl, hd5, hb5⟩
            dsimp only
            have HD5 := hideIt hd5
            have HB5 := hideIt (HX1.out.trans hb5)
            clear hd5 hb5 HC
            go_wp2
            go_roundw
            case rel => exact ⟨t + 1, N + 1, k, S, by omega, by go_num, by omega, rfl, by omega, HS, HD5, HB5⟩
            case measure => simp [intOf]; omega
      have g0 : (dO == 0) = false := beq_eq_false_iff_ne.2 q0
      have g1 : (dO == 1) = false := beq_eq_false_iff_ne.2 q1
      have g2 : (dO == 2) = false := beq_eq_false_iff_ne.2 q2
      have g3 : (dO == 3) = false := beq_eq_false_iff_ne.2 q3
      clear q0 q1 q2 q3
      go_wp2
      go_roundw
      case rel => exact ⟨t + 1, N, k, S, by omega, by go_num, by omega, rfl, by omega, HS, HX2, HX1⟩
      case measure => simp [intOf]; omega
    · have hlt' : ¬ (t : Int) < l.length := by omega
      have HU := hideIt (up_is HD.out)
      have hup : decide (S.fuse ≠ 0) = decide ((k : Int) < (fu : Int)) := by
        have := HS.out
        rw [decide_eq_decide]
        omega
      rw [hup] at HU
      clear hup
      go_wp2_with fail
      refine HU.out.mono ?_
      rintro e w5 ⟨rfl, hb5⟩
      dsimp only
      go_wp2
      go_ret
      exact ⟨by simp, HB.out.trans (hb5.mono HB.out.size)⟩
end Go.Proofs.Ytpgimffghaelhaa
