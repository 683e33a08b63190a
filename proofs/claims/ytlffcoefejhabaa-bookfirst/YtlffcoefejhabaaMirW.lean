/- The statement on the mirror, walked. -/
import Derived.Test.YtlffcoefejhabaaMirK
namespace Go.Proofs.Ytlffcoefejhabaa
open Go.RowKit
set_option linter.all false
theorem placeL_err {L : LaneV} {acc s price n : Int} {now : Bool} (h : (placeL L acc s price n now).2.2.2 ≠ 0) : (placeL L acc s price n now).1 = zLane := by
  unfold placeL at h ⊢
  split
  · rfl
  · rename_i h1
    rw [if_neg h1] at h
    unfold plX at h ⊢
    split
    · rfl
    · rename_i h2
      rw [if_neg h2] at h
      exact absurd rfl h
theorem mir_lens {L M : LaneV} {c : Int} (h : MirOk c L M) (hc : 0 ≤ c ∧ c ≤ 9000000000000000) {acc s price n : Int} {now : Bool} (hs : s = 1 ∨ s = 2) : (placeL M acc (3 - s) (1000001 - price) n now).1.asks.length = (placeL L acc s price n now).1.bids.length ∧ (placeL M acc (3 - s) (1000001 - price) n now).1.bids.length = (placeL L acc s price n now).1.asks.length := by
  obtain ⟨_, h2, h3⟩ := mir_place h hc (acc := acc) (price := price) (n := n) (now := now) hs
  by_cases he : (placeL L acc s price n now).2.2.2 = 0
  · have := (h3 he).mir
    rw [this.asks, this.bids, List.length_map, List.length_map]
    exact ⟨rfl, rfl⟩
  · rw [placeL_err he, placeL_err (by rw [h2]; exact he)]
    exact ⟨rfl, rfl⟩
theorem trL_len (s : Int) (x : OrdV) : ∀ (T : List OrdV) (left : Int) (ow : List OweV) (F : List FillV), (trL s x T left ow F).2.2.2.length ≤ F.length + T.length
  | [], left, ow, F => by simp [trL]
  | r :: rs, left, ow, F => by
    unfold trL
    split
    · split
      · have := trL_len s x rs (left - min left r.left) (setO s x r (min left r.left) ow) (F ++ [setF s x r (min left r.left)])
        rw [List.length_append, List.length_cons, List.length_nil] at this
        rw [List.length_cons]
        omega
      · simp only [List.length_append, List.length_cons, List.length_nil]
        omega
    · simp only [List.length_cons]
      omega
theorem place_len {L : LaneV} (hk : chkB L = true) (acc s price n : Int) (now : Bool) : (placeL L acc s price n now).2.1.length ≤ 40 := by
  have hm := chk_may hk
  have hl : ∀ s, (sideL L s).length ≤ 40 := fun s => by unfold sideL; split; exact hm.lb; exact hm.la
  unfold placeL
  split
  · simp
  · unfold plX
    split
    · simp
    · unfold plT
      split
      · simp
      · have := trL_len s ⟨L.next, acc, price, n⟩ (sideL L (if s = 1 then 2 else 1)) n L.owed []
        have h2 := hl (if s = 1 then 2 else 1)
        simp only [List.length_nil] at this
        simp only
        omega
set_option maxHeartbeats 16000000 in
set_option maxRecDepth 100000 in
theorem mirror_walk (v : Value) (l : List PutV) (w : World) (h : Puts w v l) : Calls Try.prog 6 #[v] w fun e w' => e = .returned (.bool true) ∧ Below w.heap.size w w' := by
  have HN := hideIt (fun W => new_is W)
  have HF := hideIt (fun W (hW : Below w.heap.size w W) => few_is v l W (h.keep hW))
  have HV := hideIt (fun W => live_is W)
  have HM := hideIt (fun p W hs hp => mirrored_is p W hs hp)
  have HP := hideIt (fun L b a o acc s price n now W hL => place_is L b a o acc s price n now W hL)
  have hl60 : (l.take 60).length ≤ 60 := by rw [List.length_take]; omega
  have H0 := hideIt h
  unfold putE at HM
  unfold PlBack laneV laneA at HP
  obtain ⟨va, vc, rfl⟩ := h.slice
  clear h
  go_enter Try.func6, Try.ntmps6
  go_wp2_with fail
  refine (HN.out _).mono ?_
  rintro e w1 ⟨rfl, hb⟩
  dsimp only
  have B1 := hideIt hb
  clear hb
  go_wp2_with fail
  refine (HN.out _).mono ?_
  rintro e w2 ⟨rfl, hb⟩
  dsimp only
  have X := hideIt (MW.first w w1 w2 B1.out (by simpa using hb))
  clear hb B1 HN
  go_wp2_with fail
  refine (HF.out _ X.out.bel).mono ?_
  rintro e w3 ⟨⟨v', rfl, hp⟩, rfl⟩
  dsimp only
  obtain ⟨pa, pc, rfl, p8, hq⟩ := (hp w H0.out).puts
  have HQ := hideIt hq
  clear hq hp HF p8 H0
  generalize l.take 60 = ps at *
  generalize w2.alloc (.cells #[.bool false, .int .i64 1, .slice none 0 0, .slice none 0 0, .slice none 0 0] 25) = wz at *
  generalize w1.heap.size = k at *
  generalize w2.heap.size = m at *
  go_wp2
  go_loopw [5] (fun v5 wx => ∃ (t : Nat) (L M : LaneV) (b a o p q r : Value), v5 = .int .i64 t ∧ t ≤ ps.length ∧ Hid (MW w k m ((t : Int) * 4000000000000) L b a o M p q r wx)) (fun v _ => ps.length - (intOf v).toNat)
  case atStart => exact ⟨0, _, _, _, _, _, _, _, _, rfl, Nat.zero_le _, hideIt (by simpa using X.out)⟩
  case round =>
    clear X
    obtain ⟨t, L, M, b, a, o, p, q, r, rfl, ht, X⟩ := hrel
    by_cases hlt : t < ps.length
    · have hltI : (t : Int) < (ps.length : Int) := by omega
      have ht0 : (0 : Int) ≤ (t : Int) := by omega
      have hw2 : IntKind.i64.wrap ((t : Int) + 1) = ((t + 1 : Nat) : Int) := by rw [IntKind.wrap_i64]; omega
      obtain ⟨B, off, rfl, hbl, q0, q1, q2, q3, q4⟩ := HQ.out t hlt
      have hBw := X.out.bel
      have hblr : B < wr.heap.size := Nat.lt_of_lt_of_le hbl hBw.size
      have d0 := (hBw.cell (p := ⟨B, off + t * 5, none⟩) hbl).trans q0
      have d1 := (hBw.cell (p := ⟨B, off + t * 5 + 1, none⟩) hbl).trans q1
      have d2 := (hBw.cell (p := ⟨B, off + t * 5 + 2, none⟩) hbl).trans q2
      have d3 := (hBw.cell (p := ⟨B, off + t * 5 + 3, none⟩) hbl).trans q3
      have d4 := (hBw.cell (p := ⟨B, off + t * 5 + 4, none⟩) hbl).trans q4
      clear q0 q1 q2 q3 q4 hBw
      generalize ps[t] = en at *
      obtain ⟨acc, s, price, n, now⟩ := en
      simp only at d0 d1 d2 d3 d4
      by_cases s1 : s < 1
      · go_wp2
        go_roundw
        case rel => exact ⟨t + 1, L, M, _, _, _, _, _, _, by go_num, by omega, hideIt ((X.out.keep (below1 _ _)).up (by push_cast; omega))⟩
        case measure => simp [intOf]; omega
      by_cases s2 : 2 < s
      · go_wp2
        go_roundw
        case rel => exact ⟨t + 1, L, M, _, _, _, _, _, _, by go_num, by omega, hideIt ((X.out.keep (below1 _ _)).up (by push_cast; omega))⟩
        case measure => simp [intOf]; omega
      by_cases p1 : price < 1
      · go_wp2
        go_roundw
        case rel => exact ⟨t + 1, L, M, _, _, _, _, _, _, by go_num, by omega, hideIt ((X.out.keep (below1 _ _)).up (by push_cast; omega))⟩
        case measure => simp [intOf]; omega
      by_cases p2 : 1000000 < price
      · go_wp2
        go_roundw
        case rel => exact ⟨t + 1, L, M, _, _, _, _, _, _, by go_num, by omega, hideIt ((X.out.keep (below1 _ _)).up (by push_cast; omega))⟩
        case measure => simp [intOf]; omega
      have hs : 1 ≤ s ∧ s ≤ 2 := by omega
      have hpr : 1 ≤ price ∧ price ≤ 1000000 := by omega
      have hs12 : s = 1 ∨ s = 2 := by omega
      go_wp2_with fail
      refine (HM.out ⟨acc, s, price, n, now⟩ _ hs hpr).mono ?_
      rintro e w4 ⟨rfl, hb⟩
      dsimp only
      have X4 := hideIt ((X.out.keep (below1 _ (.cells #[.int .i64 acc, .int .i64 s, .int .i64 price, .int .i64 n, .bool now] 27))).keep hb)
      have E6 := hideIt ((hb.block wr.heap.size (by simp)).trans (heap_alloc_new wr (.cells #[.int .i64 acc, .int .i64 s, .int .i64 price, .int .i64 n, .bool now] 27)))
      clear hb X d0 d1 d2 d3 d4 HM
      have HB4 := hideIt (below1 w4 (.cells #[.int .i64 acc, .int .i64 (3 - s), .int .i64 (1000001 - price), .int .i64 n, .bool now] 27))
      have E7 := hideIt (heap_alloc_new w4 (.cells #[.int .i64 acc, .int .i64 (3 - s), .int .i64 (1000001 - price), .int .i64 n, .bool now] 27))
      have X5 := hideIt (X4.out.keep HB4.out)
      have E6' := hideIt ((HB4.out.block wr.heap.size (Array.getElem?_eq_some_iff.1 E6.out).1).trans E6.out)
      clear X4 E6 HB4
      go_upto_region 10 with fail
      generalize w4.alloc (.cells #[.int .i64 acc, .int .i64 (3 - s), .int .i64 (1000001 - price), .int .i64 n, .bool now] 27) = w5 at *
      generalize w4.heap.size = k7 at *
      generalize wr.heap.size = k6 at *
      obtain ⟨ba, bc, rfl⟩ := own_len X5.out.ob
      obtain ⟨aa, ac, rfl⟩ := own_len X5.out.oa
      obtain ⟨oa, oc, rfl⟩ := own_len X5.out.oo
      obtain ⟨pa1, pc1, rfl⟩ := own_len X5.out.pb
      obtain ⟨qa, qc, rfl⟩ := own_len X5.out.pa
      obtain ⟨ra, rc, rfl⟩ := own_len X5.out.po
      have MP := mir_place X5.out.ok (by omega) (acc := acc) (price := price) (n := n) (now := now) hs12
      have hF := place_len X5.out.ok.kl acc s price n now
      have ML := mir_lens X5.out.ok (by omega) (acc := acc) (price := price) (n := n) (now := now) hs12
      have HPL := hideIt (fun W hL => HP.out L (.slice ba L.bids.length bc) (.slice aa L.asks.length ac) (.slice oa L.owed.length oc) acc s price n now W hL)
      have HPM := hideIt (fun W hL => HP.out M (.slice pa1 M.bids.length pc1) (.slice qa M.asks.length qc) (.slice ra M.owed.length rc) acc (3 - s) (1000001 - price) n now W hL)
      clear HP
      generalize placeL L acc s price n now = PX at *
      generalize placeL M acc (3 - s) (1000001 - price) n now = PY at *
      obtain ⟨L1, F, id, er⟩ := PX
      obtain ⟨M1, G, id', er'⟩ := PY
      simp only [Prod.mk.injEq] at MP ML HPL HPM hF
      obtain ⟨rfl, ⟨rfl, rfl⟩, HOK⟩ := MP
      obtain ⟨ML1, ML2⟩ := ML
      replace HOK := hideIt HOK
      simp only [ML1, ML2, List.length_map] at HPM
      have hsz5 := X5.out.bel.size
      have d0 : w5.cell? ⟨k6, 0, none⟩ = some (.int .i64 acc) := by rw [cell_at E6'.out]; rfl
      have d1 : w5.cell? ⟨k6, 1, none⟩ = some (.int .i64 s) := by rw [cell_at E6'.out]; rfl
      have d2 : w5.cell? ⟨k6, 2, none⟩ = some (.int .i64 price) := by rw [cell_at E6'.out]; rfl
      have d3 : w5.cell? ⟨k6, 3, none⟩ = some (.int .i64 n) := by rw [cell_at E6'.out]; rfl
      have d4 : w5.cell? ⟨k6, 4, none⟩ = some (.bool now) := by rw [cell_at E6'.out]; rfl
      obtain ⟨c0, c1, c2, c3, c4⟩ := X5.out.cellsL
      have LA := hideIt (lan_own X5.out.ok.kl X5.out.ob X5.out.oa X5.out.oo)
      go_wp2_with fail
      refine (HPL.out _ LA.out).mono ?_
      rintro e w6 ⟨b1, a1, o1, f1, rfl, hob, hoa, hoo, hfl, hb⟩
      dsimp only
      obtain ⟨b1a, b1c, rfl⟩ := own_len hob
      obtain ⟨a1a, a1c, rfl⟩ := own_len hoa
      obtain ⟨o1a, o1c, rfl⟩ := own_len hoo
      obtain ⟨f1a, f1c, rfl⟩ := own_len hfl
      have HB6 := hideIt (below1 w6 (.cells #[.bool L1.call, .int .i64 L1.next, .slice b1a L1.bids.length b1c, .slice a1a L1.asks.length a1c, .slice o1a L1.owed.length o1c] 25))
      have E8 := hideIt (heap_alloc_new w6 (.cells #[.bool L1.call, .int .i64 L1.next, .slice b1a L1.bids.length b1c, .slice a1a L1.asks.length a1c, .slice o1a L1.owed.length o1c] 25))
      have X7 := hideIt ((X5.out.keep hb).keep HB6.out)
      have E7' := hideIt ((HB6.out.block k7 (Nat.lt_of_lt_of_le (Array.getElem?_eq_some_iff.1 E7.out).1 hb.size)).trans ((hb.block k7 (Array.getElem?_eq_some_iff.1 E7.out).1).trans E7.out))
      have Ob := hideIt (own_base (own_keep hob HB6.out) hsz5)
      have Oa := hideIt (own_base (own_keep hoa HB6.out) hsz5)
      have Oo := hideIt (own_base (own_keep hoo HB6.out) hsz5)
      have Of := hideIt (own_base (own_keep hfl HB6.out) hsz5)
      have hk8 := hideIt (show k < w6.heap.size ∧ m < w6.heap.size from ⟨Nat.lt_of_lt_of_le (Array.getElem?_eq_some_iff.1 X5.out.bl).1 hb.size, Nat.lt_of_lt_of_le (Array.getElem?_eq_some_iff.1 X5.out.bm).1 hb.size⟩)
      clear hob hoa hoo hfl hb HB6 E7 E6' X5 LA HPL c0 c1 c2 c3 c4 d0 d1 d2 d3 d4 hsz5
      go_upto_region 11 with fail
      generalize w6.alloc (.cells #[.bool L1.call, .int .i64 L1.next, .slice b1a L1.bids.length b1c, .slice a1a L1.asks.length a1c, .slice o1a L1.owed.length o1c] 25) = w7 at *
      generalize w6.heap.size = k8 at *
      have hsz7 := X7.out.bel.size
      have d0 : w7.cell? ⟨k7, 0, none⟩ = some (.int .i64 acc) := by rw [cell_at E7'.out]; rfl
      have d1 : w7.cell? ⟨k7, 1, none⟩ = some (.int .i64 (3 - s)) := by rw [cell_at E7'.out]; rfl
      have d2 : w7.cell? ⟨k7, 2, none⟩ = some (.int .i64 (1000001 - price)) := by rw [cell_at E7'.out]; rfl
      have d3 : w7.cell? ⟨k7, 3, none⟩ = some (.int .i64 n) := by rw [cell_at E7'.out]; rfl
      have d4 : w7.cell? ⟨k7, 4, none⟩ = some (.bool now) := by rw [cell_at E7'.out]; rfl
      obtain ⟨c0, c1, c2, c3, c4⟩ := X7.out.cellsM
      have LA := hideIt (lan_own X7.out.ok.km X7.out.pb X7.out.pa X7.out.po)
      go_wp2_with fail
      refine (HPM.out _ LA.out).mono ?_
      rintro e w8 ⟨b2, a2, o2, f2, rfl, hob, hoa, hoo, hfl, hb⟩
      dsimp only
      obtain ⟨b2a, b2c, rfl⟩ := own_len hob
      obtain ⟨a2a, a2c, rfl⟩ := own_len hoa
      obtain ⟨o2a, o2c, rfl⟩ := own_len hoo
      obtain ⟨f2a, f2c, rfl⟩ := own_len hfl
      have HB8 := hideIt (below1 w8 (.cells #[.bool M1.call, .int .i64 M1.next, .slice b2a L1.asks.length b2c, .slice a2a L1.bids.length a2c, .slice o2a M1.owed.length o2c] 25))
      have E12 := hideIt (heap_alloc_new w8 (.cells #[.bool M1.call, .int .i64 M1.next, .slice b2a L1.asks.length b2c, .slice a2a L1.bids.length a2c, .slice o2a M1.owed.length o2c] 25))
      have X9 := hideIt ((X7.out.keep hb).keep HB8.out)
      have HBB := hideIt (below_via hb HB8.out)
      have E8' := hideIt ((HBB.out.block k8 (Array.getElem?_eq_some_iff.1 E8.out).1).trans E8.out)
      have Pb := hideIt (own_base (own_keep hob HB8.out) hsz7)
      have Pa := hideIt (own_base (own_keep hoa HB8.out) hsz7)
      have Po := hideIt (own_base (own_keep hoo HB8.out) hsz7)
      have Pf := hideIt (own_base (own_keep hfl HB8.out) hsz7)
      have Ob9 := hideIt (own_keep Ob.out HBB.out)
      have Oa9 := hideIt (own_keep Oa.out HBB.out)
      have Oo9 := hideIt (own_keep Oo.out HBB.out)
      have Of9 := hideIt (own_keep Of.out HBB.out)
      have hk12 := hideIt (show k8 < w8.heap.size from Nat.lt_of_lt_of_le (Array.getElem?_eq_some_iff.1 E8.out).1 hb.size)
      clear hob hoa hoo hfl hb HB8 HBB E7' E8 X7 LA HPM c0 c1 c2 c3 c4 d0 d1 d2 d3 d4 hsz7 Ob Oa Oo Of
      go_upto_region 12 with fail
      generalize w8.alloc (.cells #[.bool M1.call, .int .i64 M1.next, .slice b2a L1.asks.length b2c, .slice a2a L1.bids.length a2c, .slice o2a M1.owed.length o2c] 25) = w9 at *
      generalize w8.heap.size = k12 at *
      by_cases he : er' = 0
      · replace HOK := hideIt (HOK.out he)
        obtain ⟨f1a', f1c', ef, _, hf⟩ := (own_sgot (bytes := 32) Of9.out (by omega)).fils
        obtain ⟨f2a', f2c', eg, _, hg⟩ := (own_sgot (l := F.map mirF) (bytes := 32) (enc := filE) (by rw [List.length_map]; exact Pf.out) (by rw [List.length_map]; omega)).fils
        simp only [List.length_map, Value.slice.injEq, true_and] at ef eg
        obtain ⟨rfl, rfl⟩ := ef
        obtain ⟨rfl, rfl⟩ := eg
        have HFF := hideIt hf
        have HGG := hideIt hg
        clear hf hg Of9 Pf
        subst he
        go_wp2
        go_loopw [16] (fun v16 wx => ∃ j : Nat, v16 = .int .i64 j ∧ j ≤ F.length ∧ Hid (Below w9.heap.size w9 wx)) (fun v _ => F.length - (intOf v).toNat)
        case atStart => exact ⟨0, rfl, Nat.zero_le _, hideIt (Below.refl _ _)⟩
        case round =>
          obtain ⟨j, rfl, hj, HJ⟩ := hrel
          by_cases hjl : j < F.length
          · have hjI : (j : Int) < (F.length : Int) := by omega
            have hj0 : (0 : Int) ≤ (j : Int) := by omega
            have hwj : IntKind.i64.wrap ((j : Int) + 1) = ((j + 1 : Nat) : Int) := by rw [IntKind.wrap_i64]; omega
            obtain ⟨fb, fo, rfl, fl, x0, x1, x2, x3⟩ := HFF.out j hjl
            obtain ⟨gb, go, rfl, gl, y0, y1, y2, y3⟩ := HGG.out j (by rw [List.length_map]; exact hjl)
            simp only [List.getElem_map, mirF] at y0 y1 y2 y3
            have flr : fb < wr.heap.size := Nat.lt_of_lt_of_le fl HJ.out.size
            have glr : gb < wr.heap.size := Nat.lt_of_lt_of_le gl HJ.out.size
            replace x0 := (HJ.out.cell (p := ⟨fb, fo + j * 4, none⟩) fl).trans x0
            replace x1 := (HJ.out.cell (p := ⟨fb, fo + j * 4 + 1, none⟩) fl).trans x1
            replace x2 := (HJ.out.cell (p := ⟨fb, fo + j * 4 + 2, none⟩) fl).trans x2
            replace x3 := (HJ.out.cell (p := ⟨fb, fo + j * 4 + 3, none⟩) fl).trans x3
            replace y0 := (HJ.out.cell (p := ⟨gb, go + j * 4, none⟩) gl).trans y0
            replace y1 := (HJ.out.cell (p := ⟨gb, go + j * 4 + 1, none⟩) gl).trans y1
            replace y2 := (HJ.out.cell (p := ⟨gb, go + j * 4 + 2, none⟩) gl).trans y2
            replace y3 := (HJ.out.cell (p := ⟨gb, go + j * 4 + 3, none⟩) gl).trans y3
            generalize F[j] = fe at *
            obtain ⟨fbu, fse, fpr, fn⟩ := fe
            simp only at x0 x1 x2 x3 y0 y1 y2 y3
            have hwp : IntKind.i64.wrap (fpr + (1000001 - fpr)) = 1000001 := by rw [IntKind.wrap_i64]; omega
            go_upto_region 18 with fail
            go_quiet (fail)
            go_wp2
            go_roundw
            case rel => exact ⟨j + 1, by go_num, by omega, hideIt (below_drewN HJ.out _)⟩
            case measure => simp [intOf]; omega
          · have hjI : ¬ (j : Int) < (F.length : Int) := by omega
            have X := hideIt (X9.out.keep HJ.out)
            have e8 := (HJ.out.block k8 (Array.getElem?_eq_some_iff.1 E8'.out).1).trans E8'.out
            have e12 := (HJ.out.block k12 (Array.getElem?_eq_some_iff.1 E12.out).1).trans E12.out
            have g0 : wr.cell? ⟨k8, 0, none⟩ = some (.bool L1.call) := by rw [cell_at e8]; rfl
            have g1 : wr.cell? ⟨k8, 1, none⟩ = some (.int .i64 L1.next) := by rw [cell_at e8]; rfl
            have g2 : wr.cell? ⟨k8, 2, none⟩ = some (.slice b1a L1.bids.length b1c) := by rw [cell_at e8]; rfl
            have g3 : wr.cell? ⟨k8, 3, none⟩ = some (.slice a1a L1.asks.length a1c) := by rw [cell_at e8]; rfl
            have g4 : wr.cell? ⟨k8, 4, none⟩ = some (.slice o1a L1.owed.length o1c) := by rw [cell_at e8]; rfl
            have z0 : wr.cell? ⟨k12, 0, none⟩ = some (.bool M1.call) := by rw [cell_at e12]; rfl
            have z1 : wr.cell? ⟨k12, 1, none⟩ = some (.int .i64 M1.next) := by rw [cell_at e12]; rfl
            have z2 : wr.cell? ⟨k12, 2, none⟩ = some (.slice b2a L1.asks.length b2c) := by rw [cell_at e12]; rfl
            have z3 : wr.cell? ⟨k12, 3, none⟩ = some (.slice a2a L1.bids.length a2c) := by rw [cell_at e12]; rfl
            have z4 : wr.cell? ⟨k12, 4, none⟩ = some (.slice o2a M1.owed.length o2c) := by rw [cell_at e12]; rfl
            obtain ⟨c0, c1, c2, c3, c4⟩ := X.out.cellsL
            obtain ⟨i0, i1, i2, i3, i4⟩ := X.out.cellsM
            have zk : ∀ j, wr.frozen? ⟨k, j, none⟩ = false := fun j => free_at X.out.bl j
            have zm : ∀ j, wr.frozen? ⟨m, j, none⟩ = false := fun j => free_at X.out.bm j
            have n1 : k ≠ m := X.out.ne
            have n2 : m ≠ k := X.out.ne.symm
            have n3 : k12 ≠ k := by have := hk8.out; have := hk12.out; omega
            have n4 : k12 ≠ m := by have := hk8.out; have := hk12.out; omega
            have XP := hideIt (X.out.put (L' := L1) (M' := M1) (b' := .slice b1a L1.bids.length b1c) (a' := .slice a1a L1.asks.length a1c) (o' := .slice o1a L1.owed.length o1c) (p' := .slice b2a L1.asks.length b2c) (q' := .slice a2a L1.bids.length a2c) (r' := .slice o2a M1.owed.length o2c) (own_keep Ob9.out HJ.out) (own_keep Oa9.out HJ.out) (own_keep Oo9.out HJ.out) (by rw [ML2]; exact own_keep Pb.out HJ.out) (by rw [ML1]; exact own_keep Pa.out HJ.out) (own_keep Po.out HJ.out) HOK.out)
            unfold put5 at XP
            clear X e8 e12 X9 E8' E12 Ob9 Oa9 Oo9 Pb Pa Po HFF HGG HJ
            go_wp2
            go_roundw
            case rel => exact ⟨t + 1, L1, M1, _, _, _, _, _, _, by go_num, by omega, hideIt (XP.out.up (by push_cast; omega))⟩
            case measure => simp [intOf]; omega
      · go_wp2
        go_roundw
        case rel => exact ⟨t + 1, L, M, _, _, _, _, _, _, by go_num, by omega, hideIt (X9.out.up (by push_cast; omega))⟩
        case measure => simp [intOf]; omega
    · have hltI : ¬ (t : Int) < (ps.length : Int) := by omega
      have BX := hideIt X.out.bel
      clear X HQ HP HM
      go_wp2_with fail
      refine (HV.out _).mono ?_
      rintro e w4 ⟨rfl, hb⟩
      dsimp only
      have HB := hideIt (below_via BX.out hb)
      clear hb
      go_wp2
      go_ret
      exact ⟨rfl, HB.out⟩
end Go.Proofs.Ytlffcoefejhabaa
