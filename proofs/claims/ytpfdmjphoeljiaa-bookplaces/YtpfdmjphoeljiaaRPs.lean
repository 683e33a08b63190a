/- The document's Place, walked. -/
import Derived.Test.YtpfdmjphoeljiaaRTs
import Derived.Test.YtpfdmjphoeljiaaDpP
import Derived.Test.YtpfdmjphoeljiaaRCh
import Derived.Test.YtpfdmjphoeljiaaRCa
import Derived.Test.YtpfdmjphoeljiaaRSo
namespace Go.Proofs.Ytpfdmjphoeljiaa
open Go.RowKit
set_option linter.all false

set_option maxHeartbeats 32000000 in
set_option maxRecDepth 100000 in
theorem rPlace2_is (L : LaneV) (b a o : Value) (acc price n : Int) (now : Bool) (w : World) (h : Lan w L b a o) (hr : refE L acc 2 price n now = 0) : Calls Try.prog 7 #[laneV L b a o, .int .i64 acc, .int .i64 2, .int .i64 price, .int .i64 n, .bool now] w (DpBack (placeL L acc 2 price n now) w) := by
  have X0 := hideIt (CB.first w L b a o)
  have HC := hideIt (rCheck_is L b a o _ (h.keep X0.out.bel))
  have HCP := hideIt (fun W (hW : Below w.heap.size w W) => rCopy_is L b a o W (h.keep hW))
  have HWI := hideIt (fun x lo hi W => rWithin_is x lo hi W)
  obtain ⟨hk, ha, hnc, hl40, hnx⟩ := ref_ok hr
  obtain ⟨h1, -, h3, h4⟩ := arg_ok ha
  have hm := chk_may hk
  have hoth := side_other hk 1
  have hown := side_other hk 2
  have HGO0 : Hid (GO 0 L.owed) := ⟨owed_owok ((chk_bok L).1 hk).ow, hm.ow⟩
  have HDP := hideIt (fun T left ow F ok hT hl => doc_place2 (T := T) (left := left) (ow := ow) (F := F) (ok := ok) hr hT hl)
  have HTR := hideIt (fun P tv b1 o1 f1 W (h : TD (w.heap.size + 2) P ⟨L.call, L.next + 1, L.bids, L.asks, L.owed⟩ ⟨L.next, acc, price, n⟩ 2 [] true tv b1 o1 f1 W) hP hB => rTrades2_is (w.heap.size + 2) P L.call (L.next + 1) L.asks L.bids L.owed L.next acc price n b1 tv o1 f1 W h hP hB (by simpa [sideL] using hoth.1) (by simpa [sideL] using hoth.2.1) (by simpa [sideL] using hoth.2.2) h1 h3 h4 HGO0.out)
  have HDT : Hid (docT L 2 ⟨L.next, acc, price, n⟩ = if L.call = true then (L.bids, n, L.owed, [], true) else trD 2 ⟨L.next, acc, price, n⟩ L.bids n L.owed []) := by
    show _ = _
    unfold docT
    simp [sideL]
  have hlo : L.asks.length < 40 := by simpa [sideL] using hl40
  have hlt : L.bids.length ≤ 40 := by simpa [sideL] using hoth.2.2
  have hlw : L.owed.length ≤ 16 := by have := hm.ow.1; omega
  have hnx1 := hm.next.1
  have HGN : Hid (OwOk L.owed ∧ OkO 123 L.owed) := ⟨HGO0.out.ok, (HGO0.out.up (by omega)).few⟩
  rw [show chkI L = 0 by unfold chkI; rw [hk]; rfl] at HC
  have w1 : wiB acc 1 8 = true := by unfold wiB; exact decide_eq_true h1
  have w2 : wiB 2 1 2 = true := by decide
  have w3 : wiB price 1 1000000 = true := by unfold wiB; exact decide_eq_true h3
  have w4 : wiB n 1 1000000 = true := by unfold wiB; exact decide_eq_true h4
  obtain ⟨ba, bc, rfl⟩ := h.bids.slice
  obtain ⟨aa, ac, rfl⟩ := h.asks.slice
  obtain ⟨oa, oc, rfl⟩ := h.owed.slice
  generalize placeL L acc 2 price n now = RX at *
  generalize docT L 2 ⟨L.next, acc, price, n⟩ = DT at *
  clear hk ha hm hoth hown hl40 hr h HGO0
  unfold LaneBack at HCP
  unfold TrdBack2 at HTR
  unfold laneV laneA at *
  obtain ⟨cl, nx, bids, asks, owed⟩ := L
  simp only at *
  cases cl
  · go_enter Try.func7, Try.ntmps7
    go_wp2_with fail
    refine HC.out.mono ?_
    rintro e w5 ⟨rfl, hb⟩
    dsimp only
    have X1 := hideIt (X0.out.keep hb)
    clear hb X0 HC
    have q1 := fun W => HWI.out acc 1 8 W
    have q2 := fun W => HWI.out 2 1 2 W
    have q3 := fun W => HWI.out price 1 1000000 W
    have q4 := fun W => HWI.out n 1 1000000 W
    rw [w1] at q1
    rw [w2] at q2
    rw [w3] at q3
    rw [w4] at q4
    have Q1 := hideIt q1
    have Q2 := hideIt q2
    have Q3 := hideIt q3
    have Q4 := hideIt q4
    clear q1 q2 q3 q4 HWI w1 w2 w3 w4
    go_wp2_with fail
    refine (Q1.out _).mono ?_
    rintro e wq ⟨rfl, hwq⟩
    replace hwq := hwq.symm
    subst hwq
    dsimp only
    go_wp2_with fail
    refine (Q2.out _).mono ?_
    rintro e wq ⟨rfl, hwq⟩
    replace hwq := hwq.symm
    subst hwq
    dsimp only
    go_wp2_with fail
    refine (Q3.out _).mono ?_
    rintro e wq ⟨rfl, hwq⟩
    replace hwq := hwq.symm
    subst hwq
    dsimp only
    go_wp2_with fail
    refine (Q4.out _).mono ?_
    rintro e wq ⟨rfl, hwq⟩
    replace hwq := hwq.symm
    subst hwq
    dsimp only
    clear Q1 Q2 Q3 Q4
    obtain ⟨x0, x1, x2, x3, x4⟩ := X1.out.cells
    simp only at x0 x1 x2 x3 x4
    have HNC := hideIt hnc
    clear hnc
    have hl1 : ¬ (40 : Int) ≤ ((asks.length : Nat) : Int) := by omega
    have hl2 : (nx == 1000001) = false := by simp; omega
    have hl3 : ¬ nx = 1000001 := by omega
    go_upto_region 5 with fail
    go_cut [45] from 41 to 45 (fun u wx => u = .bool false ∧ w5 = wx)
    case first =>
      cases now
      · go_wp2_with fail
        go_meet
        exact ⟨rfl, rfl⟩
      · go_wp2_with fail
        go_meet
        exact ⟨rfl, rfl⟩
    case rest =>
    obtain ⟨rfl, rfl⟩ := hcut
    have HC5 : Hid (∀ W, CB w ⟨false, nx, bids, asks, owed⟩ (.slice ba bids.length bc) (.slice aa asks.length ac) (.slice oa owed.length oc) W → Calls Try.prog 5 #[.agg #[.bool false, .int .i64 nx, .slice ba bids.length bc, .slice aa asks.length ac, .slice oa owed.length oc]] W fun e w' => ∃ b1 k1 a1 k2 o1 k3, e = .returned (.agg #[.bool false, .int .i64 nx, .slice b1 bids.length k1, .slice a1 asks.length k2, .slice o1 owed.length k3]) ∧ Hid (w'.ownsRow (w.heap.size + 2) 49 4 (.slice b1 bids.length k1) bids.length (celC ordE bids) ∧ w'.ownsRow (w.heap.size + 2) 49 4 (.slice a1 asks.length k2) asks.length (celC ordE asks) ∧ w'.ownsRow (w.heap.size + 2) 66 3 (.slice o1 owed.length k3) owed.length (celC oweE owed) ∧ CB w ⟨false, nx, bids, asks, owed⟩ (.slice ba bids.length bc) (.slice aa asks.length ac) (.slice oa owed.length oc) w') ∧ w'.cell? ⟨w.heap.size, 1, none⟩ = some (.int .i64 nx) ∧ w.heap.size < w'.heap.size) := by
      intro W hW
      refine (HCP.out W hW.bel).mono ?_
      rintro e w' ⟨b1, a1, o1, rfl, ob, oa1, oo, -, hb⟩
      obtain ⟨b1a, b1c, rfl⟩ := own_len ob
      obtain ⟨a1a, a1c, rfl⟩ := own_len oa1
      obtain ⟨o1a, o1c, rfl⟩ := own_len oo
      have hX := hW.keep hb
      exact ⟨_, _, _, _, _, _, rfl, ⟨own_base ob hW.size, own_base oa1 hW.size, own_base oo hW.size, hX⟩, hX.cells.2.1, by have := hX.size; omega⟩
    have z5 : w.heap.size < w5.heap.size := by have := X1.out.size; omega
    clear HCP
    go_upto_region 12 with fail
    go_cut [17] from 63 to 73 (fun u wx => ∃ P b1 k1 a1 k2 o1 k3, u = .pointer (some ⟨P, 0, none⟩) ∧ Hid (TD (w.heap.size + 2) P ⟨false, nx, bids, asks, owed⟩ ⟨nx, acc, price, n⟩ 2 [] true (.slice b1 bids.length k1) (.slice a1 asks.length k2) (.slice o1 owed.length k3) (.slice none 0 0) wx ∧ CB w ⟨false, nx, bids, asks, owed⟩ (.slice ba bids.length bc) (.slice aa asks.length ac) (.slice oa owed.length oc) wx ∧ w.heap.size + 2 ≤ P))
    case first =>
      go_region_with (first | (go_at_call 5; refine (HC5.out _ (by first | exact X1.out | exact X1.out.keep (Below.refl _ _).drew)).mono ?_; rintro e w6 ⟨b1, k1, a1, k2, o1, k3, rfl, HQ, j1, jz⟩; clear HC5))
      all_goals go_wp2_with fail
      all_goals go_meet
      all_goals exact ⟨_, b1, k1, a1, k2, o1, k3, rfl, ⟨heap_alloc_new _ _, own_keep HQ.out.1 (below1 _ _), own_keep HQ.out.2.1 (below1 _ _), own_keep HQ.out.2.2.1 (below1 _ _), own_nil _ _⟩, HQ.out.2.2.2.keep (below1 _ _), HQ.out.2.2.2.size⟩
    case rest =>
    obtain ⟨P, b1, k1, a1, k2, o1, k3, rfl, H7⟩ := hcut
    have hP := hideIt H7.out.2.2
    have T8 := hideIt (H7.out.1.next (nx + 1))
    have C8 : Hid (CB w ⟨false, nx, bids, asks, owed⟩ (.slice ba bids.length bc) (.slice aa asks.length ac) (.slice oa owed.length oc) (wc.setCell ⟨P, 1, none⟩ (.int .i64 (nx + 1)))) := H7.out.2.1.other H7.out.2.2
    obtain ⟨⟨c0, c1, c2, c3, c4, c5, c6, c7, c8, c9, c10, c11⟩, cf, cz⟩ := H7.out.1.cells
    dsimp only at c0 c1 c2 c3 c4 c5 c6 c7 c8 c9 c10 c11 T8
    have hwn : IntKind.i64.wrap (nx + 1) = nx + 1 := by rw [IntKind.wrap_i64]; omega
    clear H7 X1 HC5 x0 x1 x2 x3 x4 z5
    go_upto_region 14 with fail
    clear c0 c1 c2 c3 c4 c5 c6 c7 c8 c9 c10 c11 cf cz
    generalize wc.setCell ⟨P, 1, none⟩ (.int .i64 (nx + 1)) = W8 at *
    obtain ⟨x0, x1, x2, x3, x4⟩ := C8.out.cells
    dsimp only at x0 x1 x2 x3 x4
    have z8 : w.heap.size < W8.heap.size := by have := C8.out.size; omega
    have HT8 := hideIt (HTR.out P _ _ _ _ W8 T8.out hP.out C8.out.size)
    generalize trD 2 ⟨nx, acc, price, n⟩ bids n owed [] = TT at *
    obtain ⟨tT, tl, tw, tF, tk⟩ := TT
    dsimp only at HT8
    go_wp2_with fail
    refine HT8.out.mono ?_
    rintro e w9 ⟨rfl, tv, o9, f9, hT9, hb9, hg9, hl9, hn9, hf9⟩
    dsimp only
    have H9 : ∃ T left ow F ok tv o f, Hid (DT = (T, left, ow, F, ok) ∧ TD (w.heap.size + 2) P ⟨false, nx + 1, T, asks, ow⟩ ⟨nx, acc, price, left⟩ 2 F ok (tv) (.slice a1 asks.length k2) (o) (f) w9 ∧ CB w ⟨false, nx, bids, asks, owed⟩ (.slice ba bids.length bc) (.slice aa asks.length ac) (.slice oa owed.length oc) w9 ∧ GO 123 ow ∧ (0 ≤ left ∧ left ≤ 1000000) ∧ T.length ≤ 40 ∧ F.length ≤ 41) := ⟨tT, tl, tw, tF, tk, tv, o9, f9, HDT.out, hT9, C8.out.keepB hb9, hg9, hl9, hn9, hf9⟩
    clear hT9 hb9 hg9 hl9 hn9 hf9 HT8 T8 C8 x0 x1 x2 x3 x4 z8
    go_upto_region 16 with fail
    obtain ⟨T, left, ow, F, ok, tv, ov, fv, H9⟩ := H9
    generalize Value.slice a1 asks.length k2 = bvv at *
    obtain ⟨hA, hB, hCC, hD, hE⟩ := HDP.out T left ow F ok H9.out.1 H9.out.2.2.2.2.1.1
    have XT := hideIt H9.out.2.1
    have XC := hideIt H9.out.2.2.1
    have HG := hideIt H9.out.2.2.2.1
    have hlb := H9.out.2.2.2.2.1
    have hTl := H9.out.2.2.2.2.2.1
    have hFl := H9.out.2.2.2.2.2.2
    have hwl : ow.length ≤ 139 := by have := HG.out.few.1; omega
    clear H9 HDP HDT HTR
    generalize w9 = wq at *
    obtain ⟨⟨c0, c1, c2, c3, c4, c5, c6, c7, c8, c9, c10, c11⟩, cf, cz⟩ := XT.out.cells
    dsimp only at c0 c1 c2 c3 c4 c5 c6 c7 c8 c9 c10 c11
    cases ok
    · have HR := hideIt (hA rfl)
      clear hA hB hCC hD hE
      obtain ⟨⟨r0, r1, r2, r3, r4⟩, rf, rl⟩ := five5_at XC.out.res
      have HP := hideIt (XC.out.put (.bool false) (.int .i64 0) (.slice none 0 0) (.slice none 0 0) (.slice none 0 0))
      go_wp2
      revert HP
      generalize (World.setCell _ ⟨w.heap.size + 1, 4, none⟩ _) = WF
      intro HP
      exact bodyPost_ret (v := .tuple #[laneV zLane (.slice none 0 0) (.slice none 0 0) (.slice none 0 0), .slice none 0 0, .int .i64 0, .int .i64 131]) (by simp [results, Try.results7, go_sem, cell_at HP.out.1, laneV, laneA, zLane]) rfl (by unfold DpBack; rw [HR.out]; exact ⟨_, _, _, _, rfl, zLan _, own_sgot (own_nil (e := 68) _ 0) (by simp), HP.out.2⟩)
    · by_cases hl : 0 < left
      · clear hA hB
        go_upto_if 99 with fail
        go_cut [115] from 100 to 155 (fun _ wx => ∃ own2 ow2 ok2 bw vw, Hid (TD (w.heap.size + 2) P ⟨false, nx + 1, T, own2, ow2⟩ ⟨nx, acc, price, left⟩ 2 F ok2 (tv) (bw) (vw) (fv) wx ∧ CB w ⟨false, nx, bids, asks, owed⟩ (.slice ba bids.length bc) (.slice aa asks.length ac) (.slice oa owed.length oc) wx ∧ own2.length ≤ 100 ∧ ow2.length ≤ 200 ∧ (ok2 = false → RX = (zLane, [], 0, 131)) ∧ (ok2 = true → RX = (⟨false, nx + 1, T, own2, ow2⟩, F, nx, 0))))
        case first =>
          cases now
          · have HR := hideIt (hE rfl hl rfl)
            clear hCC hD hE
            have HSD : Hid (∀ W, Below wq.heap.size wq W → Calls Try.prog 31 #[bvv, .int .i64 2, .agg #[.int .i64 nx, .int .i64 acc, .int .i64 price, .int .i64 left]] W fun e w' => ∃ va vc, e = .returned (.slice va (sidL 2 ⟨nx, acc, price, left⟩ asks).length vc) ∧ Hid (w'.ownsRow (w.heap.size + 2) 49 4 (.slice va (sidL 2 ⟨nx, acc, price, left⟩ asks).length vc) (sidL 2 ⟨nx, acc, price, left⟩ asks).length (celC ordE (sidL 2 ⟨nx, acc, price, left⟩ asks)) ∧ TD (w.heap.size + 2) P ⟨false, nx + 1, T, asks, ow⟩ ⟨nx, acc, price, left⟩ 2 F true (tv) (bvv) (ov) (fv) w' ∧ CB w ⟨false, nx, bids, asks, owed⟩ (.slice ba bids.length bc) (.slice aa asks.length ac) (.slice oa owed.length oc) w') ∧ w'.cell? ⟨P, 3, none⟩ = some bvv ∧ w'.frozen? ⟨P, 3, none⟩ = false ∧ P < w'.heap.size) := by
              intro W hW
              have hT := XT.out.keep hW
              refine (rSideO_is bvv asks 2 ⟨nx, acc, price, left⟩ W (own_sgot hT.oa (by omega)) (by omega)).mono ?_
              rintro e w' ⟨va, vc, rfl, ho, hb⟩
              have hT' := hT.keep hb
              obtain ⟨⟨_, _, d2, d3, _, _, _, _, _, _, _, _⟩, df, dz⟩ := hT'.cells
              exact ⟨va, vc, rfl, ⟨own_base ho (Nat.le_trans XC.out.size hW.size), hT', XC.out.keep (below_via hW hb)⟩, d3, df _, dz⟩
            have hsl : (sidL 2 ⟨nx, acc, price, left⟩ asks).length ≤ 100 := by
              have := sid_len 2 ⟨nx, acc, price, left⟩ asks ([], false)
              simp only [List.length_nil] at this
              unfold sidL
              split
              · omega
              · simp
                omega
            generalize sidL 2 ⟨nx, acc, price, left⟩ asks = SL at *
            clear HG
            go_upto_region 17 with fail
            go_region_with (first | (go_at_call 31; refine (HSD.out _ (by first | exact Below.refl _ _ | exact (Below.refl _ _).drew)).mono ?_; rintro e w7 ⟨va, vc, rfl, HQ, d4, e4, dz⟩; clear HSD))
            all_goals go_wp2_with fail
            all_goals go_meet
            all_goals exact ⟨SL, ow, true, _, _, ⟨HQ.out.2.1.asks HQ.out.1, HQ.out.2.2.other hP.out, hsl, by omega, fun h => absurd h (by decide), fun _ => HR.out⟩⟩
          · have hCC' := fun hk => hCC rfl hl rfl (by omega) hk
            have hD' := fun hk => hD rfl hl rfl (by omega) hk
            clear hCC hD hE
            have HBK : Hid (∀ W, Below wq.heap.size wq W → Calls Try.prog 30 #[ov, .int .i64 2, .agg #[.int .i64 nx, .int .i64 acc, .int .i64 price, .int .i64 left]] W fun e w' => ∃ va vc, e = .returned (.tuple #[.slice va (oweD acc (brA 2) (brN 2 ⟨nx, acc, price, left⟩) ow).1.length vc, .bool (oweD acc (brA 2) (brN 2 ⟨nx, acc, price, left⟩) ow).2]) ∧ Hid (w'.ownsRow (w.heap.size + 2) 66 3 (.slice va (oweD acc (brA 2) (brN 2 ⟨nx, acc, price, left⟩) ow).1.length vc) (oweD acc (brA 2) (brN 2 ⟨nx, acc, price, left⟩) ow).1.length (celC oweE (oweD acc (brA 2) (brN 2 ⟨nx, acc, price, left⟩) ow).1) ∧ TD (w.heap.size + 2) P ⟨false, nx + 1, T, asks, ow⟩ ⟨nx, acc, price, left⟩ 2 F true (tv) (bvv) (ov) (fv) w' ∧ CB w ⟨false, nx, bids, asks, owed⟩ (.slice ba bids.length bc) (.slice aa asks.length ac) (.slice oa owed.length oc) w') ∧ w'.cell? ⟨P, 4, none⟩ = some ov ∧ w'.cell? ⟨P, 11, none⟩ = some (.bool true) ∧ w'.frozen? ⟨P, 4, none⟩ = false ∧ w'.frozen? ⟨P, 11, none⟩ = false ∧ P < w'.heap.size) := by
              intro W hW
              have hT := XT.out.keep hW
              refine (rBack_is (c := 123) ov ow 2 ⟨nx, acc, price, left⟩ W (own_sgot hT.oo (by omega)) HG.out (by omega) h3 (by dsimp only; omega)).mono ?_
              rintro e w' ⟨va, vc, rfl, ho, hb⟩
              have hT' := hT.keep hb
              obtain ⟨⟨_, _, _, _, d4, _, _, _, _, _, _, d11⟩, df, dz⟩ := hT'.cells
              exact ⟨va, vc, rfl, ⟨own_base ho (Nat.le_trans XC.out.size hW.size), hT', XC.out.keep (below_via hW hb)⟩, d4, d11, df _, df _, dz⟩
            have hol := oweD_len (acc := acc) (asset := brA 2) (n := brN 2 ⟨nx, acc, price, left⟩) (l := ow)
            have HC1 := hideIt hCC'
            have HC2 := hideIt hD'
            clear hCC' hD'
            generalize oweD acc (brA 2) (brN 2 ⟨nx, acc, price, left⟩) ow = OD at *
            obtain ⟨ol, ob⟩ := OD
            dsimp only at HBK HC1 HC2 hol
            clear HG
            go_upto_region 19 with fail
            go_region_with (first | (go_at_call 30; refine (HBK.out _ (by first | exact Below.refl _ _ | exact (Below.refl _ _).drew)).mono ?_; rintro e w7 ⟨va, vc, rfl, HQ, d4, d11, e4, e11, dz⟩; clear HBK))
            all_goals go_wp2_with fail
            all_goals go_meet
            all_goals first | exact ⟨asks, ol, ob, _, _, ⟨(HQ.out.2.1.owed HQ.out.1).okk ob, (HQ.out.2.2.other hP.out).other hP.out, by omega, by omega, HC1.out, HC2.out⟩⟩ | exact ⟨asks, ol, ob, _, _, ⟨(HQ.out.2.1.okk ob).owed (own_cell HQ.out.1 HQ.out.2.1.pb (by decide)), (HQ.out.2.2.other hP.out).other hP.out, by omega, by omega, HC1.out, HC2.out⟩⟩
        case rest =>
        obtain ⟨own2, ow2, ok2, bw, vw, HZ⟩ := hcut
        have hl1' := HZ.out.2.2.1
        have hl2' := HZ.out.2.2.2.1
        have HC1 := hideIt HZ.out.2.2.2.2.1
        have HC2 := hideIt HZ.out.2.2.2.2.2
        clear XT XC c0 c1 c2 c3 c4 c5 c6 c7 c8 c9 c10 c11 cf cz hCC hD hE
        have XT := hideIt HZ.out.1
        have XC := hideIt HZ.out.2.1
        clear HZ
        cases ok2
        · have HR := hideIt (HC1.out rfl)
          clear HC1 HC2
          obtain ⟨⟨c0, c1, c2, c3, c4, c5, c6, c7, c8, c9, c10, c11⟩, cf, cz⟩ := XT.out.cells
          dsimp only at c0 c1 c2 c3 c4 c5 c6 c7 c8 c9 c10 c11
          obtain ⟨⟨r0, r1, r2, r3, r4⟩, rf, rl⟩ := five5_at XC.out.res
          have HP := hideIt (XC.out.put (.bool false) (.int .i64 0) (.slice none 0 0) (.slice none 0 0) (.slice none 0 0))
          go_wp2
          revert HP
          generalize (World.setCell _ ⟨w.heap.size + 1, 4, none⟩ _) = WF
          intro HP
          exact bodyPost_ret (v := .tuple #[laneV zLane (.slice none 0 0) (.slice none 0 0) (.slice none 0 0), .slice none 0 0, .int .i64 0, .int .i64 131]) (by simp [results, Try.results7, go_sem, cell_at HP.out.1, laneV, laneA, zLane]) rfl (by unfold DpBack; rw [HR.out]; exact ⟨_, _, _, _, rfl, zLan _, own_sgot (own_nil (e := 68) _ 0) (by simp), HP.out.2⟩)
        · have HR := hideIt (HC2.out rfl)
          clear HC1 HC2
          obtain ⟨⟨r0, r1, r2, r3, r4⟩, rf, rl⟩ := five5_at XC.out.res
          obtain ⟨⟨c0, c1, c2, c3, c4, c5, c6, c7, c8, c9, c10, c11⟩, cf, cz⟩ := XT.out.cells
          obtain ⟨x0, x1, x2, x3, x4⟩ := XC.out.cells
          obtain ⟨ka, kc, rfl⟩ := own_len XT.out.ob
          obtain ⟨la, lc, rfl⟩ := own_len XT.out.oa
          obtain ⟨ma, mc, rfl⟩ := own_len XT.out.oo
          obtain ⟨na, nc, rfl⟩ := own_len XT.out.fl
          dsimp only at c0 c1 c2 c3 c4 c5 c6 c7 c8 c9 c10 c11 x0 x1 x2 x3 x4
          have nP : P ≠ w.heap.size + 1 := by have := hP.out; omega
          have nP2 := nP.symm
          have nw : w.heap.size ≠ w.heap.size + 1 := by omega
          have HPT := hideIt (XC.out.put (.bool false) (.int .i64 (nx + 1)) (.slice ka T.length kc) (.slice la own2.length lc) (.slice ma ow2.length mc))
          have HLN : Hid (Lan (((((wc.setCell ⟨w.heap.size + 1, 0, none⟩ (.bool false)).setCell ⟨w.heap.size + 1, 1, none⟩ (.int .i64 (nx + 1))).setCell ⟨w.heap.size + 1, 2, none⟩ (.slice ka T.length kc)).setCell ⟨w.heap.size + 1, 3, none⟩ (.slice la own2.length lc)).setCell ⟨w.heap.size + 1, 4, none⟩ (.slice ma ow2.length mc)) ⟨false, nx + 1, T, own2, ow2⟩ (.slice ka T.length kc) (.slice la own2.length lc) (.slice ma ow2.length mc) ∧ Fils (((((wc.setCell ⟨w.heap.size + 1, 0, none⟩ (.bool false)).setCell ⟨w.heap.size + 1, 1, none⟩ (.int .i64 (nx + 1))).setCell ⟨w.heap.size + 1, 2, none⟩ (.slice ka T.length kc)).setCell ⟨w.heap.size + 1, 3, none⟩ (.slice la own2.length lc)).setCell ⟨w.heap.size + 1, 4, none⟩ (.slice ma ow2.length mc)) (.slice na F.length nc) F) := ⟨⟨own_sgot (own_five XT.out.ob XC.out.res (by decide) _ _ _ _ _) (by dsimp only; omega), own_sgot (own_five XT.out.oa XC.out.res (by decide) _ _ _ _ _) (by dsimp only; omega), own_sgot (own_five XT.out.oo XC.out.res (by decide) _ _ _ _ _) (by dsimp only; omega)⟩, own_sgot (own_five XT.out.fl XC.out.res (by decide) _ _ _ _ _) (by omega)⟩
          clear XC XT
          go_upto_region 24 with fail
          go_region_held3 (fun W => W.cell? ⟨P, 0, none⟩ = some (.bool false) ∧ W.cell? ⟨P, 1, none⟩ = some (.int .i64 (nx + 1)) ∧ W.cell? ⟨P, 2, none⟩ = some (.slice ka T.length kc) ∧ W.cell? ⟨P, 3, none⟩ = some (.slice la own2.length lc) ∧ W.cell? ⟨P, 4, none⟩ = some (.slice ma ow2.length mc) ∧ W.cell? ⟨P, 10, none⟩ = some (.slice na F.length nc) ∧ W.cell? ⟨w.heap.size, 1, none⟩ = some (.int .i64 nx)) (go_keep) (fail)
          go_wp2
          revert HPT HLN
          generalize (World.setCell _ ⟨w.heap.size + 1, 4, none⟩ _) = WF
          intro HPT HLN
          exact bodyPost_ret (v := .tuple #[.agg #[.bool false, .int .i64 (nx + 1), .slice ka T.length kc, .slice la own2.length lc, .slice ma ow2.length mc], .slice na F.length nc, .int .i64 nx, .int .i64 0]) (by simp [results, Try.results7, go_sem, cell_at HPT.out.1, laneA]) rfl (by unfold DpBack; rw [HR.out]; exact ⟨_, _, _, _, rfl, by first | exact HLN.out.1 | exact HLN.out.1.keep ((Below.refl _ _).drew), by first | exact HLN.out.2 | exact HLN.out.2.keep ((Below.refl _ _).drew), by first | exact HPT.out.2 | exact HPT.out.2.drew⟩)
      · have HR := hideIt (hB rfl (by omega))
        clear hA hB hCC hD hE
        clear c0 c1 c2 c3 c4 c5 c6 c7 c8 c9 c10 c11 cf cz
        obtain ⟨⟨r0, r1, r2, r3, r4⟩, rf, rl⟩ := five5_at XC.out.res
        obtain ⟨⟨c0, c1, c2, c3, c4, c5, c6, c7, c8, c9, c10, c11⟩, cf, cz⟩ := XT.out.cells
        obtain ⟨x0, x1, x2, x3, x4⟩ := XC.out.cells
        obtain ⟨ka, kc, rfl⟩ := own_len XT.out.ob
        obtain ⟨la, lc, rfl⟩ := own_len XT.out.oa
        obtain ⟨ma, mc, rfl⟩ := own_len XT.out.oo
        obtain ⟨na, nc, rfl⟩ := own_len XT.out.fl
        dsimp only at c0 c1 c2 c3 c4 c5 c6 c7 c8 c9 c10 c11 x0 x1 x2 x3 x4
        have nP : P ≠ w.heap.size + 1 := by have := hP.out; omega
        have nP2 := nP.symm
        have nw : w.heap.size ≠ w.heap.size + 1 := by omega
        have HPT := hideIt (XC.out.put (.bool false) (.int .i64 (nx + 1)) (.slice ka T.length kc) (.slice la asks.length lc) (.slice ma ow.length mc))
        have HLN : Hid (Lan (((((wq.setCell ⟨w.heap.size + 1, 0, none⟩ (.bool false)).setCell ⟨w.heap.size + 1, 1, none⟩ (.int .i64 (nx + 1))).setCell ⟨w.heap.size + 1, 2, none⟩ (.slice ka T.length kc)).setCell ⟨w.heap.size + 1, 3, none⟩ (.slice la asks.length lc)).setCell ⟨w.heap.size + 1, 4, none⟩ (.slice ma ow.length mc)) ⟨false, nx + 1, T, asks, ow⟩ (.slice ka T.length kc) (.slice la asks.length lc) (.slice ma ow.length mc) ∧ Fils (((((wq.setCell ⟨w.heap.size + 1, 0, none⟩ (.bool false)).setCell ⟨w.heap.size + 1, 1, none⟩ (.int .i64 (nx + 1))).setCell ⟨w.heap.size + 1, 2, none⟩ (.slice ka T.length kc)).setCell ⟨w.heap.size + 1, 3, none⟩ (.slice la asks.length lc)).setCell ⟨w.heap.size + 1, 4, none⟩ (.slice ma ow.length mc)) (.slice na F.length nc) F) := ⟨⟨own_sgot (own_five XT.out.ob XC.out.res (by decide) _ _ _ _ _) (by dsimp only; omega), own_sgot (own_five XT.out.oa XC.out.res (by decide) _ _ _ _ _) (by dsimp only; omega), own_sgot (own_five XT.out.oo XC.out.res (by decide) _ _ _ _ _) (by dsimp only; omega)⟩, own_sgot (own_five XT.out.fl XC.out.res (by decide) _ _ _ _ _) (by omega)⟩
        clear XC XT
        go_upto_region 24 with fail
        go_region_held3 (fun W => W.cell? ⟨P, 0, none⟩ = some (.bool false) ∧ W.cell? ⟨P, 1, none⟩ = some (.int .i64 (nx + 1)) ∧ W.cell? ⟨P, 2, none⟩ = some (.slice ka T.length kc) ∧ W.cell? ⟨P, 3, none⟩ = some (.slice la asks.length lc) ∧ W.cell? ⟨P, 4, none⟩ = some (.slice ma ow.length mc) ∧ W.cell? ⟨P, 10, none⟩ = some (.slice na F.length nc) ∧ W.cell? ⟨w.heap.size, 1, none⟩ = some (.int .i64 nx)) (go_keep) (fail)
        go_wp2
        revert HPT HLN
        generalize (World.setCell _ ⟨w.heap.size + 1, 4, none⟩ _) = WF
        intro HPT HLN
        exact bodyPost_ret (v := .tuple #[.agg #[.bool false, .int .i64 (nx + 1), .slice ka T.length kc, .slice la asks.length lc, .slice ma ow.length mc], .slice na F.length nc, .int .i64 nx, .int .i64 0]) (by simp [results, Try.results7, go_sem, cell_at HPT.out.1, laneA]) rfl (by unfold DpBack; rw [HR.out]; exact ⟨_, _, _, _, rfl, by first | exact HLN.out.1 | exact HLN.out.1.keep ((Below.refl _ _).drew), by first | exact HLN.out.2 | exact HLN.out.2.keep ((Below.refl _ _).drew), by first | exact HPT.out.2 | exact HPT.out.2.drew⟩)
  · go_enter Try.func7, Try.ntmps7
    go_wp2_with fail
    refine HC.out.mono ?_
    rintro e w5 ⟨rfl, hb⟩
    dsimp only
    have X1 := hideIt (X0.out.keep hb)
    clear hb X0 HC
    have q1 := fun W => HWI.out acc 1 8 W
    have q2 := fun W => HWI.out 2 1 2 W
    have q3 := fun W => HWI.out price 1 1000000 W
    have q4 := fun W => HWI.out n 1 1000000 W
    rw [w1] at q1
    rw [w2] at q2
    rw [w3] at q3
    rw [w4] at q4
    have Q1 := hideIt q1
    have Q2 := hideIt q2
    have Q3 := hideIt q3
    have Q4 := hideIt q4
    clear q1 q2 q3 q4 HWI w1 w2 w3 w4
    go_wp2_with fail
    refine (Q1.out _).mono ?_
    rintro e wq ⟨rfl, hwq⟩
    replace hwq := hwq.symm
    subst hwq
    dsimp only
    go_wp2_with fail
    refine (Q2.out _).mono ?_
    rintro e wq ⟨rfl, hwq⟩
    replace hwq := hwq.symm
    subst hwq
    dsimp only
    go_wp2_with fail
    refine (Q3.out _).mono ?_
    rintro e wq ⟨rfl, hwq⟩
    replace hwq := hwq.symm
    subst hwq
    dsimp only
    go_wp2_with fail
    refine (Q4.out _).mono ?_
    rintro e wq ⟨rfl, hwq⟩
    replace hwq := hwq.symm
    subst hwq
    dsimp only
    clear Q1 Q2 Q3 Q4
    obtain ⟨x0, x1, x2, x3, x4⟩ := X1.out.cells
    simp only at x0 x1 x2 x3 x4
    have HNC := hideIt hnc
    clear hnc
    have hl1 : ¬ (40 : Int) ≤ ((asks.length : Nat) : Int) := by omega
    have hl2 : (nx == 1000001) = false := by simp; omega
    have hl3 : ¬ nx = 1000001 := by omega
    have hnow : now = false := by simpa using HNC.out
    subst hnow
    have HC5 : Hid (∀ W, CB w ⟨true, nx, bids, asks, owed⟩ (.slice ba bids.length bc) (.slice aa asks.length ac) (.slice oa owed.length oc) W → Calls Try.prog 5 #[.agg #[.bool true, .int .i64 nx, .slice ba bids.length bc, .slice aa asks.length ac, .slice oa owed.length oc]] W fun e w' => ∃ b1 k1 a1 k2 o1 k3, e = .returned (.agg #[.bool true, .int .i64 nx, .slice b1 bids.length k1, .slice a1 asks.length k2, .slice o1 owed.length k3]) ∧ Hid (w'.ownsRow (w.heap.size + 2) 49 4 (.slice b1 bids.length k1) bids.length (celC ordE bids) ∧ w'.ownsRow (w.heap.size + 2) 49 4 (.slice a1 asks.length k2) asks.length (celC ordE asks) ∧ w'.ownsRow (w.heap.size + 2) 66 3 (.slice o1 owed.length k3) owed.length (celC oweE owed) ∧ CB w ⟨true, nx, bids, asks, owed⟩ (.slice ba bids.length bc) (.slice aa asks.length ac) (.slice oa owed.length oc) w') ∧ w'.cell? ⟨w.heap.size, 1, none⟩ = some (.int .i64 nx) ∧ w.heap.size < w'.heap.size) := by
      intro W hW
      refine (HCP.out W hW.bel).mono ?_
      rintro e w' ⟨b1, a1, o1, rfl, ob, oa1, oo, -, hb⟩
      obtain ⟨b1a, b1c, rfl⟩ := own_len ob
      obtain ⟨a1a, a1c, rfl⟩ := own_len oa1
      obtain ⟨o1a, o1c, rfl⟩ := own_len oo
      have hX := hW.keep hb
      exact ⟨_, _, _, _, _, _, rfl, ⟨own_base ob hW.size, own_base oa1 hW.size, own_base oo hW.size, hX⟩, hX.cells.2.1, by have := hX.size; omega⟩
    have z5 : w.heap.size < w5.heap.size := by have := X1.out.size; omega
    clear HCP
    go_upto_region 12 with fail
    go_cut [17] from 63 to 73 (fun u wx => ∃ P b1 k1 a1 k2 o1 k3, u = .pointer (some ⟨P, 0, none⟩) ∧ Hid (TD (w.heap.size + 2) P ⟨true, nx, bids, asks, owed⟩ ⟨nx, acc, price, n⟩ 2 [] true (.slice b1 bids.length k1) (.slice a1 asks.length k2) (.slice o1 owed.length k3) (.slice none 0 0) wx ∧ CB w ⟨true, nx, bids, asks, owed⟩ (.slice ba bids.length bc) (.slice aa asks.length ac) (.slice oa owed.length oc) wx ∧ w.heap.size + 2 ≤ P))
    case first =>
      go_region_with (first | (go_at_call 5; refine (HC5.out _ (by first | exact X1.out | exact X1.out.keep (Below.refl _ _).drew)).mono ?_; rintro e w6 ⟨b1, k1, a1, k2, o1, k3, rfl, HQ, j1, jz⟩; clear HC5))
      all_goals go_wp2_with fail
      all_goals go_meet
      all_goals exact ⟨_, b1, k1, a1, k2, o1, k3, rfl, ⟨heap_alloc_new _ _, own_keep HQ.out.1 (below1 _ _), own_keep HQ.out.2.1 (below1 _ _), own_keep HQ.out.2.2.1 (below1 _ _), own_nil _ _⟩, HQ.out.2.2.2.keep (below1 _ _), HQ.out.2.2.2.size⟩
    case rest =>
    obtain ⟨P, b1, k1, a1, k2, o1, k3, rfl, H7⟩ := hcut
    have hP := hideIt H7.out.2.2
    have T8 := hideIt (H7.out.1.next (nx + 1))
    have C8 : Hid (CB w ⟨true, nx, bids, asks, owed⟩ (.slice ba bids.length bc) (.slice aa asks.length ac) (.slice oa owed.length oc) (wc.setCell ⟨P, 1, none⟩ (.int .i64 (nx + 1)))) := H7.out.2.1.other H7.out.2.2
    obtain ⟨⟨c0, c1, c2, c3, c4, c5, c6, c7, c8, c9, c10, c11⟩, cf, cz⟩ := H7.out.1.cells
    dsimp only at c0 c1 c2 c3 c4 c5 c6 c7 c8 c9 c10 c11 T8
    have hwn : IntKind.i64.wrap (nx + 1) = nx + 1 := by rw [IntKind.wrap_i64]; omega
    clear H7 X1 HC5 x0 x1 x2 x3 x4 z5
    go_upto_region 14 with fail
    clear c0 c1 c2 c3 c4 c5 c6 c7 c8 c9 c10 c11 cf cz
    generalize wc.setCell ⟨P, 1, none⟩ (.int .i64 (nx + 1)) = W8 at *
    obtain ⟨x0, x1, x2, x3, x4⟩ := C8.out.cells
    dsimp only at x0 x1 x2 x3 x4
    have z8 : w.heap.size < W8.heap.size := by have := C8.out.size; omega
    have H9 : ∃ T left ow F ok tv o f, Hid (DT = (T, left, ow, F, ok) ∧ TD (w.heap.size + 2) P ⟨true, nx + 1, T, asks, ow⟩ ⟨nx, acc, price, left⟩ 2 F ok (tv) (.slice a1 asks.length k2) (o) (f) W8 ∧ CB w ⟨true, nx, bids, asks, owed⟩ (.slice ba bids.length bc) (.slice aa asks.length ac) (.slice oa owed.length oc) W8 ∧ GO 123 ow ∧ (0 ≤ left ∧ left ≤ 1000000) ∧ T.length ≤ 40 ∧ F.length ≤ 41) := ⟨bids, n, owed, [], true, _, _, _, HDT.out, T8.out, C8.out, ⟨HGN.out.1, HGN.out.2⟩, by omega, by omega, by simp⟩
    go_upto_region 16 with fail
    clear T8 C8 x0 x1 x2 x3 x4 z8
    obtain ⟨T, left, ow, F, ok, tv, ov, fv, H9⟩ := H9
    generalize Value.slice a1 asks.length k2 = bvv at *
    obtain ⟨hA, hB, hCC, hD, hE⟩ := HDP.out T left ow F ok H9.out.1 H9.out.2.2.2.2.1.1
    have XT := hideIt H9.out.2.1
    have XC := hideIt H9.out.2.2.1
    have HG := hideIt H9.out.2.2.2.1
    have hlb := H9.out.2.2.2.2.1
    have hTl := H9.out.2.2.2.2.2.1
    have hFl := H9.out.2.2.2.2.2.2
    have hwl : ow.length ≤ 139 := by have := HG.out.few.1; omega
    clear H9 HDP HDT HTR
    generalize W8 = wq at *
    obtain ⟨⟨c0, c1, c2, c3, c4, c5, c6, c7, c8, c9, c10, c11⟩, cf, cz⟩ := XT.out.cells
    dsimp only at c0 c1 c2 c3 c4 c5 c6 c7 c8 c9 c10 c11
    cases ok
    · have HR := hideIt (hA rfl)
      clear hA hB hCC hD hE
      obtain ⟨⟨r0, r1, r2, r3, r4⟩, rf, rl⟩ := five5_at XC.out.res
      have HP := hideIt (XC.out.put (.bool false) (.int .i64 0) (.slice none 0 0) (.slice none 0 0) (.slice none 0 0))
      go_wp2
      revert HP
      generalize (World.setCell _ ⟨w.heap.size + 1, 4, none⟩ _) = WF
      intro HP
      exact bodyPost_ret (v := .tuple #[laneV zLane (.slice none 0 0) (.slice none 0 0) (.slice none 0 0), .slice none 0 0, .int .i64 0, .int .i64 131]) (by simp [results, Try.results7, go_sem, cell_at HP.out.1, laneV, laneA, zLane]) rfl (by unfold DpBack; rw [HR.out]; exact ⟨_, _, _, _, rfl, zLan _, own_sgot (own_nil (e := 68) _ 0) (by simp), HP.out.2⟩)
    · by_cases hl : 0 < left
      · clear hA hB
        go_upto_if 99 with fail
        go_cut [115] from 100 to 155 (fun _ wx => ∃ own2 ow2 ok2 bw vw, Hid (TD (w.heap.size + 2) P ⟨true, nx + 1, T, own2, ow2⟩ ⟨nx, acc, price, left⟩ 2 F ok2 (tv) (bw) (vw) (fv) wx ∧ CB w ⟨true, nx, bids, asks, owed⟩ (.slice ba bids.length bc) (.slice aa asks.length ac) (.slice oa owed.length oc) wx ∧ own2.length ≤ 100 ∧ ow2.length ≤ 200 ∧ (ok2 = false → RX = (zLane, [], 0, 131)) ∧ (ok2 = true → RX = (⟨true, nx + 1, T, own2, ow2⟩, F, nx, 0))))
        case first =>
          · have HR := hideIt (hE rfl hl rfl)
            clear hCC hD hE
            have HSD : Hid (∀ W, Below wq.heap.size wq W → Calls Try.prog 31 #[bvv, .int .i64 2, .agg #[.int .i64 nx, .int .i64 acc, .int .i64 price, .int .i64 left]] W fun e w' => ∃ va vc, e = .returned (.slice va (sidL 2 ⟨nx, acc, price, left⟩ asks).length vc) ∧ Hid (w'.ownsRow (w.heap.size + 2) 49 4 (.slice va (sidL 2 ⟨nx, acc, price, left⟩ asks).length vc) (sidL 2 ⟨nx, acc, price, left⟩ asks).length (celC ordE (sidL 2 ⟨nx, acc, price, left⟩ asks)) ∧ TD (w.heap.size + 2) P ⟨true, nx + 1, T, asks, ow⟩ ⟨nx, acc, price, left⟩ 2 F true (tv) (bvv) (ov) (fv) w' ∧ CB w ⟨true, nx, bids, asks, owed⟩ (.slice ba bids.length bc) (.slice aa asks.length ac) (.slice oa owed.length oc) w') ∧ w'.cell? ⟨P, 3, none⟩ = some bvv ∧ w'.frozen? ⟨P, 3, none⟩ = false ∧ P < w'.heap.size) := by
              intro W hW
              have hT := XT.out.keep hW
              refine (rSideO_is bvv asks 2 ⟨nx, acc, price, left⟩ W (own_sgot hT.oa (by omega)) (by omega)).mono ?_
              rintro e w' ⟨va, vc, rfl, ho, hb⟩
              have hT' := hT.keep hb
              obtain ⟨⟨_, _, d2, d3, _, _, _, _, _, _, _, _⟩, df, dz⟩ := hT'.cells
              exact ⟨va, vc, rfl, ⟨own_base ho (Nat.le_trans XC.out.size hW.size), hT', XC.out.keep (below_via hW hb)⟩, d3, df _, dz⟩
            have hsl : (sidL 2 ⟨nx, acc, price, left⟩ asks).length ≤ 100 := by
              have := sid_len 2 ⟨nx, acc, price, left⟩ asks ([], false)
              simp only [List.length_nil] at this
              unfold sidL
              split
              · omega
              · simp
                omega
            generalize sidL 2 ⟨nx, acc, price, left⟩ asks = SL at *
            clear HG
            go_upto_region 17 with fail
            go_region_with (first | (go_at_call 31; refine (HSD.out _ (by first | exact Below.refl _ _ | exact (Below.refl _ _).drew)).mono ?_; rintro e w7 ⟨va, vc, rfl, HQ, d4, e4, dz⟩; clear HSD))
            all_goals go_wp2_with fail
            all_goals go_meet
            all_goals exact ⟨SL, ow, true, _, _, ⟨HQ.out.2.1.asks HQ.out.1, HQ.out.2.2.other hP.out, hsl, by omega, fun h => absurd h (by decide), fun _ => HR.out⟩⟩
        case rest =>
        obtain ⟨own2, ow2, ok2, bw, vw, HZ⟩ := hcut
        have hl1' := HZ.out.2.2.1
        have hl2' := HZ.out.2.2.2.1
        have HC1 := hideIt HZ.out.2.2.2.2.1
        have HC2 := hideIt HZ.out.2.2.2.2.2
        clear XT XC c0 c1 c2 c3 c4 c5 c6 c7 c8 c9 c10 c11 cf cz hCC hD hE
        have XT := hideIt HZ.out.1
        have XC := hideIt HZ.out.2.1
        clear HZ
        cases ok2
        · have HR := hideIt (HC1.out rfl)
          clear HC1 HC2
          obtain ⟨⟨c0, c1, c2, c3, c4, c5, c6, c7, c8, c9, c10, c11⟩, cf, cz⟩ := XT.out.cells
          dsimp only at c0 c1 c2 c3 c4 c5 c6 c7 c8 c9 c10 c11
          obtain ⟨⟨r0, r1, r2, r3, r4⟩, rf, rl⟩ := five5_at XC.out.res
          have HP := hideIt (XC.out.put (.bool false) (.int .i64 0) (.slice none 0 0) (.slice none 0 0) (.slice none 0 0))
          go_wp2
          revert HP
          generalize (World.setCell _ ⟨w.heap.size + 1, 4, none⟩ _) = WF
          intro HP
          exact bodyPost_ret (v := .tuple #[laneV zLane (.slice none 0 0) (.slice none 0 0) (.slice none 0 0), .slice none 0 0, .int .i64 0, .int .i64 131]) (by simp [results, Try.results7, go_sem, cell_at HP.out.1, laneV, laneA, zLane]) rfl (by unfold DpBack; rw [HR.out]; exact ⟨_, _, _, _, rfl, zLan _, own_sgot (own_nil (e := 68) _ 0) (by simp), HP.out.2⟩)
        · have HR := hideIt (HC2.out rfl)
          clear HC1 HC2
          obtain ⟨⟨r0, r1, r2, r3, r4⟩, rf, rl⟩ := five5_at XC.out.res
          obtain ⟨⟨c0, c1, c2, c3, c4, c5, c6, c7, c8, c9, c10, c11⟩, cf, cz⟩ := XT.out.cells
          obtain ⟨x0, x1, x2, x3, x4⟩ := XC.out.cells
          obtain ⟨ka, kc, rfl⟩ := own_len XT.out.ob
          obtain ⟨la, lc, rfl⟩ := own_len XT.out.oa
          obtain ⟨ma, mc, rfl⟩ := own_len XT.out.oo
          obtain ⟨na, nc, rfl⟩ := own_len XT.out.fl
          dsimp only at c0 c1 c2 c3 c4 c5 c6 c7 c8 c9 c10 c11 x0 x1 x2 x3 x4
          have nP : P ≠ w.heap.size + 1 := by have := hP.out; omega
          have nP2 := nP.symm
          have nw : w.heap.size ≠ w.heap.size + 1 := by omega
          have HPT := hideIt (XC.out.put (.bool true) (.int .i64 (nx + 1)) (.slice ka T.length kc) (.slice la own2.length lc) (.slice ma ow2.length mc))
          have HLN : Hid (Lan (((((wc.setCell ⟨w.heap.size + 1, 0, none⟩ (.bool true)).setCell ⟨w.heap.size + 1, 1, none⟩ (.int .i64 (nx + 1))).setCell ⟨w.heap.size + 1, 2, none⟩ (.slice ka T.length kc)).setCell ⟨w.heap.size + 1, 3, none⟩ (.slice la own2.length lc)).setCell ⟨w.heap.size + 1, 4, none⟩ (.slice ma ow2.length mc)) ⟨true, nx + 1, T, own2, ow2⟩ (.slice ka T.length kc) (.slice la own2.length lc) (.slice ma ow2.length mc) ∧ Fils (((((wc.setCell ⟨w.heap.size + 1, 0, none⟩ (.bool true)).setCell ⟨w.heap.size + 1, 1, none⟩ (.int .i64 (nx + 1))).setCell ⟨w.heap.size + 1, 2, none⟩ (.slice ka T.length kc)).setCell ⟨w.heap.size + 1, 3, none⟩ (.slice la own2.length lc)).setCell ⟨w.heap.size + 1, 4, none⟩ (.slice ma ow2.length mc)) (.slice na F.length nc) F) := ⟨⟨own_sgot (own_five XT.out.ob XC.out.res (by decide) _ _ _ _ _) (by dsimp only; omega), own_sgot (own_five XT.out.oa XC.out.res (by decide) _ _ _ _ _) (by dsimp only; omega), own_sgot (own_five XT.out.oo XC.out.res (by decide) _ _ _ _ _) (by dsimp only; omega)⟩, own_sgot (own_five XT.out.fl XC.out.res (by decide) _ _ _ _ _) (by omega)⟩
          clear XC XT
          go_upto_region 24 with fail
          go_region_held3 (fun W => W.cell? ⟨P, 0, none⟩ = some (.bool true) ∧ W.cell? ⟨P, 1, none⟩ = some (.int .i64 (nx + 1)) ∧ W.cell? ⟨P, 2, none⟩ = some (.slice ka T.length kc) ∧ W.cell? ⟨P, 3, none⟩ = some (.slice la own2.length lc) ∧ W.cell? ⟨P, 4, none⟩ = some (.slice ma ow2.length mc) ∧ W.cell? ⟨P, 10, none⟩ = some (.slice na F.length nc) ∧ W.cell? ⟨w.heap.size, 1, none⟩ = some (.int .i64 nx)) (go_keep) (fail)
          go_wp2
          revert HPT HLN
          generalize (World.setCell _ ⟨w.heap.size + 1, 4, none⟩ _) = WF
          intro HPT HLN
          exact bodyPost_ret (v := .tuple #[.agg #[.bool true, .int .i64 (nx + 1), .slice ka T.length kc, .slice la own2.length lc, .slice ma ow2.length mc], .slice na F.length nc, .int .i64 nx, .int .i64 0]) (by simp [results, Try.results7, go_sem, cell_at HPT.out.1, laneA]) rfl (by unfold DpBack; rw [HR.out]; exact ⟨_, _, _, _, rfl, by first | exact HLN.out.1 | exact HLN.out.1.keep ((Below.refl _ _).drew), by first | exact HLN.out.2 | exact HLN.out.2.keep ((Below.refl _ _).drew), by first | exact HPT.out.2 | exact HPT.out.2.drew⟩)
      · have HR := hideIt (hB rfl (by omega))
        clear hA hB hCC hD hE
        clear c0 c1 c2 c3 c4 c5 c6 c7 c8 c9 c10 c11 cf cz
        obtain ⟨⟨r0, r1, r2, r3, r4⟩, rf, rl⟩ := five5_at XC.out.res
        obtain ⟨⟨c0, c1, c2, c3, c4, c5, c6, c7, c8, c9, c10, c11⟩, cf, cz⟩ := XT.out.cells
        obtain ⟨x0, x1, x2, x3, x4⟩ := XC.out.cells
        obtain ⟨ka, kc, rfl⟩ := own_len XT.out.ob
        obtain ⟨la, lc, rfl⟩ := own_len XT.out.oa
        obtain ⟨ma, mc, rfl⟩ := own_len XT.out.oo
        obtain ⟨na, nc, rfl⟩ := own_len XT.out.fl
        dsimp only at c0 c1 c2 c3 c4 c5 c6 c7 c8 c9 c10 c11 x0 x1 x2 x3 x4
        have nP : P ≠ w.heap.size + 1 := by have := hP.out; omega
        have nP2 := nP.symm
        have nw : w.heap.size ≠ w.heap.size + 1 := by omega
        have HPT := hideIt (XC.out.put (.bool true) (.int .i64 (nx + 1)) (.slice ka T.length kc) (.slice la asks.length lc) (.slice ma ow.length mc))
        have HLN : Hid (Lan (((((wq.setCell ⟨w.heap.size + 1, 0, none⟩ (.bool true)).setCell ⟨w.heap.size + 1, 1, none⟩ (.int .i64 (nx + 1))).setCell ⟨w.heap.size + 1, 2, none⟩ (.slice ka T.length kc)).setCell ⟨w.heap.size + 1, 3, none⟩ (.slice la asks.length lc)).setCell ⟨w.heap.size + 1, 4, none⟩ (.slice ma ow.length mc)) ⟨true, nx + 1, T, asks, ow⟩ (.slice ka T.length kc) (.slice la asks.length lc) (.slice ma ow.length mc) ∧ Fils (((((wq.setCell ⟨w.heap.size + 1, 0, none⟩ (.bool true)).setCell ⟨w.heap.size + 1, 1, none⟩ (.int .i64 (nx + 1))).setCell ⟨w.heap.size + 1, 2, none⟩ (.slice ka T.length kc)).setCell ⟨w.heap.size + 1, 3, none⟩ (.slice la asks.length lc)).setCell ⟨w.heap.size + 1, 4, none⟩ (.slice ma ow.length mc)) (.slice na F.length nc) F) := ⟨⟨own_sgot (own_five XT.out.ob XC.out.res (by decide) _ _ _ _ _) (by dsimp only; omega), own_sgot (own_five XT.out.oa XC.out.res (by decide) _ _ _ _ _) (by dsimp only; omega), own_sgot (own_five XT.out.oo XC.out.res (by decide) _ _ _ _ _) (by dsimp only; omega)⟩, own_sgot (own_five XT.out.fl XC.out.res (by decide) _ _ _ _ _) (by omega)⟩
        clear XC XT
        go_upto_region 24 with fail
        go_region_held3 (fun W => W.cell? ⟨P, 0, none⟩ = some (.bool true) ∧ W.cell? ⟨P, 1, none⟩ = some (.int .i64 (nx + 1)) ∧ W.cell? ⟨P, 2, none⟩ = some (.slice ka T.length kc) ∧ W.cell? ⟨P, 3, none⟩ = some (.slice la asks.length lc) ∧ W.cell? ⟨P, 4, none⟩ = some (.slice ma ow.length mc) ∧ W.cell? ⟨P, 10, none⟩ = some (.slice na F.length nc) ∧ W.cell? ⟨w.heap.size, 1, none⟩ = some (.int .i64 nx)) (go_keep) (fail)
        go_wp2
        revert HPT HLN
        generalize (World.setCell _ ⟨w.heap.size + 1, 4, none⟩ _) = WF
        intro HPT HLN
        exact bodyPost_ret (v := .tuple #[.agg #[.bool true, .int .i64 (nx + 1), .slice ka T.length kc, .slice la asks.length lc, .slice ma ow.length mc], .slice na F.length nc, .int .i64 nx, .int .i64 0]) (by simp [results, Try.results7, go_sem, cell_at HPT.out.1, laneA]) rfl (by unfold DpBack; rw [HR.out]; exact ⟨_, _, _, _, rfl, by first | exact HLN.out.1 | exact HLN.out.1.keep ((Below.refl _ _).drew), by first | exact HLN.out.2 | exact HLN.out.2.keep ((Below.refl _ _).drew), by first | exact HPT.out.2 | exact HPT.out.2.drew⟩)
end Go.Proofs.Ytpfdmjphoeljiaa
