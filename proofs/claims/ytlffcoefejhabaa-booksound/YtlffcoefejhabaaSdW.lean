/- The statement on what is sound, walked. -/
import Derived.Test.YtlffcoefejhabaaSdK
namespace Go.Proofs.Ytlffcoefejhabaa
open Go.RowKit
set_option linter.all false
set_option maxHeartbeats 16000000 in
set_option maxRecDepth 100000 in
theorem sound_walk (v : Value) (l : List PutV) (w : World) (h : Puts w v l) : Calls Try.prog 8 #[v] w fun e w' => e = .returned (.bool true) ∧ Below w.heap.size w w' := by
  have HN := hideIt (fun W => new_is W)
  have HF := hideIt (fun W (hW : Below w.heap.size w W) => few_is v l W (h.keep hW))
  have HV := hideIt (fun W => live_is W)
  have HP := hideIt (fun L b a o acc s price n now W hL => place_is L b a o acc s price n now W hL)
  have HR := hideIt (fun L b a o W hL => rCopy_is L b a o W hL)
  have HC := hideIt (fun L b a o W hL => check_is L b a o W hL)
  have hl60 : (l.take 60).length ≤ 60 := by rw [List.length_take]; omega
  have H0 := hideIt h
  unfold PlBack laneV laneA at HP
  unfold LaneBack laneV laneA at HR
  unfold laneV laneA at HC
  obtain ⟨va, vc, rfl⟩ := h.slice
  clear h
  go_enter Try.func8, Try.ntmps8
  go_wp2_with fail
  refine (HN.out _).mono ?_
  rintro e w1 ⟨rfl, hb⟩
  dsimp only
  have X := hideIt (SW.first w w1 hb)
  clear hb HN
  go_wp2_with fail
  refine (HF.out _ X.out.bel).mono ?_
  rintro e w3 ⟨⟨v', rfl, hp⟩, rfl⟩
  dsimp only
  obtain ⟨pa, pc, rfl, p8, hq⟩ := (hp w H0.out).puts
  have HQ := hideIt hq
  clear hq hp HF p8 H0
  generalize l.take 60 = ps at *
  generalize w1.alloc (.cells #[.bool false, .int .i64 1, .slice none 0 0, .slice none 0 0, .slice none 0 0] 25) = wz at *
  generalize w1.heap.size = k at *
  go_wp2
  go_loopw [4] (fun v4 wx => ∃ (t : Nat) (L : LaneV) (b a o : Value), v4 = .int .i64 t ∧ t ≤ ps.length ∧ Hid (SW w k L b a o wx)) (fun v _ => ps.length - (intOf v).toNat)
  case atStart => exact ⟨0, _, _, _, _, rfl, Nat.zero_le _, X⟩
  case round =>
    clear X
    obtain ⟨t, L, b, a, o, rfl, ht, X⟩ := hrel
    by_cases hlt : t < ps.length
    · have hltI : (t : Int) < (ps.length : Int) := by omega
      have ht0 : (0 : Int) ≤ (t : Int) := by omega
      have hw2 : IntKind.i64.wrap ((t : Int) + 1) = ((t + 1 : Nat) : Int) := by rw [IntKind.wrap_i64]; omega
      obtain ⟨B, off, rfl, hbl, q0, q1, q2, q3, q4⟩ := HQ.out t hlt
      have hBw := X.out.bel
      have hblr : B < wr.heap.size := Nat.lt_of_lt_of_le hbl hBw.size
      have d0 := (hBw.cell (p := ⟨B, off + t * 5, none⟩) hbl).trans q0
      have d1 := (hBw.cell (p := ⟨B, off + t * 5 + 1, none⟩) hbl).trans q1
      have d2 := (hBw.cell (p := ⟨B, off + t * 5 + 2, none⟩) hbl).trans q2
      have d3 := (hBw.cell (p := ⟨B, off + t * 5 + 3, none⟩) hbl).trans q3
      have d4 := (hBw.cell (p := ⟨B, off + t * 5 + 4, none⟩) hbl).trans q4
      clear q0 q1 q2 q3 q4 hBw
      generalize ps[t] = en at *
      obtain ⟨acc, s, price, n, now⟩ := en
      simp only at d0 d1 d2 d3 d4
      have hb4 := below1 wr (.cells #[.int .i64 acc, .int .i64 s, .int .i64 price, .int .i64 n, .bool now] 27)
      have E5 := hideIt (heap_alloc_new wr (.cells #[.int .i64 acc, .int .i64 s, .int .i64 price, .int .i64 n, .bool now] 27))
      have X4 := hideIt (X.out.keep hb4)
      have n5 : wr.heap.size ≠ k := by have := (Array.getElem?_eq_some_iff.1 X.out.bl).1; omega
      clear hb4 X
      go_upto_region 7 with fail
      generalize wr.alloc (.cells #[.int .i64 acc, .int .i64 s, .int .i64 price, .int .i64 n, .bool now] 27) = w4 at *
      generalize wr.heap.size = k5 at *
      clear d0 d1 d2 d3 d4 hblr
      obtain ⟨ba, bc, rfl⟩ := own_len X4.out.ob
      obtain ⟨aa, ac, rfl⟩ := own_len X4.out.oa
      obtain ⟨oa, oc, rfl⟩ := own_len X4.out.oo
      obtain ⟨⟨i0, i1, i2, i3, i4⟩, zk, zl⟩ := five_at X4.out.bl
      have LA := hideIt X4.out.lan
      go_wp2_with fail
      refine (HR.out _ _ _ _ _ LA.out).mono ?_
      rintro e w5 ⟨bb, ab, ob, rfl, hob, hoa, hoo, _, hb⟩
      dsimp only
      obtain ⟨cb, cbc, rfl⟩ := own_len hob
      obtain ⟨ca, cac, rfl⟩ := own_len hoa
      obtain ⟨co, coc, rfl⟩ := own_len hoo
      have X5 := hideIt (X4.out.keep hb)
      have E55 := hideIt (blk_keep E5.out hb)
      have hb6 := below1 w5 (.cells #[.bool L.call, .int .i64 L.next, .slice cb L.bids.length cbc, .slice ca L.asks.length cac, .slice co L.owed.length coc] 25)
      have E6 := hideIt (heap_alloc_new w5 (.cells #[.bool L.call, .int .i64 L.next, .slice cb L.bids.length cbc, .slice ca L.asks.length cac, .slice co L.owed.length coc] 25))
      have LC := hideIt (lan_own X4.out.ok (own_keep hob hb6) (own_keep hoa hb6) (own_keep hoo hb6))
      have X6 := hideIt (X5.out.keep hb6)
      have E56 := hideIt (blk_keep E55.out hb6)
      have n6 : w5.heap.size ≠ k := by have := (Array.getElem?_eq_some_iff.1 X5.out.bl).1; omega
      clear hb6 X5 E55 hob hoa hoo hb E5 X4 LA i0 i1 i2 i3 i4 zk zl
      go_upto_region 8 with fail
      generalize w5.alloc (.cells #[.bool L.call, .int .i64 L.next, .slice cb L.bids.length cbc, .slice ca L.asks.length cac, .slice co L.owed.length coc] 25) = w6 at *
      generalize w5.heap.size = k6 at *
      have hsz6 := X6.out.bel.size
      obtain ⟨⟨i0, i1, i2, i3, i4⟩, zk, zl⟩ := five_at X6.out.bl
      obtain ⟨⟨d0, d1, d2, d3, d4⟩, zk5, zl5⟩ := five_at E56.out
      have LA := hideIt X6.out.lan
      have PO := hideIt (fun h => And.intro (placeL_may (L := L) (acc := acc) (s := s) (price := price) (n := n) (now := now) h) (place_srv h))
      have hF := place_len X6.out.ok acc s price n now
      have HPL := hideIt (fun W hL => HP.out L (.slice ba L.bids.length bc) (.slice aa L.asks.length ac) (.slice oa L.owed.length oc) acc s price n now W hL)
      generalize placeL L acc s price n now = PX at *
      obtain ⟨L1, F, id, er⟩ := PX
      simp only at PO HPL hF
      go_wp2_with fail
      refine (HPL.out _ LA.out).mono ?_
      rintro e w7 ⟨b1, a1, o1, f1, rfl, hob, hoa, hoo, hfl, hb⟩
      dsimp only
      obtain ⟨b1a, b1c, rfl⟩ := own_len hob
      obtain ⟨a1a, a1c, rfl⟩ := own_len hoa
      obtain ⟨o1a, o1c, rfl⟩ := own_len hoo
      obtain ⟨fa, fc, rfl⟩ := own_len hfl
      have hb8 := below1 w7 (.cells #[.bool L1.call, .int .i64 L1.next, .slice b1a L1.bids.length b1c, .slice a1a L1.asks.length a1c, .slice o1a L1.owed.length o1c] 25)
      have hbb := below_via hb hb8
      have E7 := hideIt (heap_alloc_new w7 (.cells #[.bool L1.call, .int .i64 L1.next, .slice b1a L1.bids.length b1c, .slice a1a L1.asks.length a1c, .slice o1a L1.owed.length o1c] 25))
      have X7 := hideIt (X6.out.keep hbb)
      have E57 := hideIt (blk_keep E56.out hbb)
      have E67 := hideIt (blk_keep E6.out hbb)
      have LC7 := hideIt (LC.out.keep hbb)
      have Ob := hideIt (own_base (own_keep hob hb8) hsz6)
      have Oa := hideIt (own_base (own_keep hoa hb8) hsz6)
      have Oo := hideIt (own_base (own_keep hoo hb8) hsz6)
      have FF := hideIt (own_sgot (bytes := 32) (own_keep hfl hb8) (by omega))
      have n7 : w7.heap.size ≠ k := by have := (Array.getElem?_eq_some_iff.1 X6.out.bl).1; have := hb.size; omega
      clear hob hoa hoo hfl hb hb8 hbb E56 E6 LC X6 LA HPL i0 i1 i2 i3 i4 zk zl d0 d1 d2 d3 d4 zk5 zl5 hsz6
      go_upto_region 9 with fail
      generalize w7.alloc (.cells #[.bool L1.call, .int .i64 L1.next, .slice b1a L1.bids.length b1c, .slice a1a L1.asks.length a1c, .slice o1a L1.owed.length o1c] 25) = w8 at *
      generalize w7.heap.size = k7 at *
      by_cases he : er = 0
      · subst he
        obtain ⟨hk, hs, hpr, hn, hS⟩ := PO.out rfl
        have HK := hideIt hk
        have HS := hideIt hS
        have hn1 := hn.2
        clear hk hS PO
        have LM := hideIt (lan_own HK.out Ob.out Oa.out Oo.out)
        have HC1 := hideIt (HC.out L1 (.slice b1a L1.bids.length b1c) (.slice a1a L1.asks.length a1c) (.slice o1a L1.owed.length o1c) _ LM.out)
        rw [show chkI L1 = 0 by unfold chkI; rw [HK.out]; rfl] at HC1
        obtain ⟨⟨i0, i1, i2, i3, i4⟩, zk, zl⟩ := five_at E7.out
        go_wp2_with fail
        refine HC1.out.mono ?_
        rintro e w10 ⟨rfl, hb⟩
        dsimp only
        have X8 := hideIt (X7.out.keep hb)
        have LC := hideIt (LC7.out.keep hb)
        have FC := hideIt (FF.out.keep hb)
        obtain ⟨⟨d0, d1, d2, d3, d4⟩, _, _⟩ := five_at (blk_keep E57.out hb)
        obtain ⟨⟨c0, c1, c2, c3, c4⟩, _, _⟩ := five_at (blk_keep E67.out hb)
        replace E7 := hideIt (blk_keep E7.out hb)
        replace Ob := hideIt (own_keep Ob.out hb)
        replace Oa := hideIt (own_keep Oa.out hb)
        replace Oo := hideIt (own_keep Oo.out hb)
        clear hb X7 LC7 FF E57 E67 LM HC1 i0 i1 i2 i3 i4 zk zl
        rcases hs with rfl | rfl
        · simp only [show ¬ (2 : Int) = 1 by omega, if_true, if_false, sideL] at HS
          have HSV := hideIt (fun W hL hG => srvd1_is L (.slice cb L.bids.length cbc) (.slice ca L.asks.length cac) (.slice co L.owed.length coc) (.slice fa F.length fc) acc price n now L.next F W hL hG HS.out hn1)
          unfold laneV laneA at HSV
          go_wp2_with fail
          refine (HSV.out _ LC.out FC.out).mono ?_
          rintro e w9 ⟨rfl, hb⟩
          dsimp only
          have X9 := hideIt (X8.out.keep hb)
          have e7 := blk_keep E7.out hb
          have Ob9 := hideIt (own_keep Ob.out hb)
          have Oa9 := hideIt (own_keep Oa.out hb)
          have Oo9 := hideIt (own_keep Oo.out hb)
          clear hb HSV X8 E7 Ob Oa Oo LC FC c0 c1 c2 c3 c4 d0 d1 d2 d3 d4
          have g0 : w9.cell? ⟨k7, 0, none⟩ = some (.bool L1.call) := by rw [cell_at e7]; rfl
          have g1 : w9.cell? ⟨k7, 1, none⟩ = some (.int .i64 L1.next) := by rw [cell_at e7]; rfl
          have g2 : w9.cell? ⟨k7, 2, none⟩ = some (.slice b1a L1.bids.length b1c) := by rw [cell_at e7]; rfl
          have g3 : w9.cell? ⟨k7, 3, none⟩ = some (.slice a1a L1.asks.length a1c) := by rw [cell_at e7]; rfl
          have g4 : w9.cell? ⟨k7, 4, none⟩ = some (.slice o1a L1.owed.length o1c) := by rw [cell_at e7]; rfl
          obtain ⟨⟨i0, i1, i2, i3, i4⟩, zk, zl⟩ := five_at X9.out.bl
          have XP := hideIt (X9.out.put Ob9.out Oa9.out Oo9.out HK.out)
          unfold put5 at XP
          clear X9 e7 Ob9 Oa9 Oo9
          go_wp2
          go_roundw
          case rel => exact ⟨t + 1, L1, _, _, _, by go_num, by omega, XP⟩
          case measure => simp [intOf]; omega
        · simp only [show ¬ (2 : Int) = 1 by omega, if_true, if_false, sideL] at HS
          have HSV := hideIt (fun W hL hG => srvd2_is L (.slice cb L.bids.length cbc) (.slice ca L.asks.length cac) (.slice co L.owed.length coc) (.slice fa F.length fc) acc price n now L.next F W hL hG HS.out hn1)
          unfold laneV laneA at HSV
          go_wp2_with fail
          refine (HSV.out _ LC.out FC.out).mono ?_
          rintro e w9 ⟨rfl, hb⟩
          dsimp only
          have X9 := hideIt (X8.out.keep hb)
          have e7 := blk_keep E7.out hb
          have Ob9 := hideIt (own_keep Ob.out hb)
          have Oa9 := hideIt (own_keep Oa.out hb)
          have Oo9 := hideIt (own_keep Oo.out hb)
          clear hb HSV X8 E7 Ob Oa Oo LC FC c0 c1 c2 c3 c4 d0 d1 d2 d3 d4
          have g0 : w9.cell? ⟨k7, 0, none⟩ = some (.bool L1.call) := by rw [cell_at e7]; rfl
          have g1 : w9.cell? ⟨k7, 1, none⟩ = some (.int .i64 L1.next) := by rw [cell_at e7]; rfl
          have g2 : w9.cell? ⟨k7, 2, none⟩ = some (.slice b1a L1.bids.length b1c) := by rw [cell_at e7]; rfl
          have g3 : w9.cell? ⟨k7, 3, none⟩ = some (.slice a1a L1.asks.length a1c) := by rw [cell_at e7]; rfl
          have g4 : w9.cell? ⟨k7, 4, none⟩ = some (.slice o1a L1.owed.length o1c) := by rw [cell_at e7]; rfl
          obtain ⟨⟨i0, i1, i2, i3, i4⟩, zk, zl⟩ := five_at X9.out.bl
          have XP := hideIt (X9.out.put Ob9.out Oa9.out Oo9.out HK.out)
          unfold put5 at XP
          clear X9 e7 Ob9 Oa9 Oo9
          go_wp2
          go_roundw
          case rel => exact ⟨t + 1, L1, _, _, _, by go_num, by omega, XP⟩
          case measure => simp [intOf]; omega
      · go_wp2
        go_roundw
        case rel => exact ⟨t + 1, L, _, _, _, by go_num, by omega, X7⟩
        case measure => simp [intOf]; omega
    · have hltI : ¬ (t : Int) < (ps.length : Int) := by omega
      have BX := hideIt X.out.bel
      clear X HQ HP
      go_wp2_with fail
      refine (HV.out _).mono ?_
      rintro e w4 ⟨rfl, hb⟩
      dsimp only
      have HB := hideIt (below_via BX.out hb)
      clear hb
      go_wp2
      go_ret
      exact ⟨rfl, HB.out⟩
end Go.Proofs.Ytlffcoefejhabaa
