/- The statement on orders that are taken out, walked. -/
import Derived.Test.YtpfdmjphoeljiaaRCa
import Derived.Test.YtpfdmjphoeljiaaSpo
import Derived.Test.YtpfdmjphoeljiaaRHo
import Derived.Test.YtpfdmjphoeljiaaLive
import Derived.Test.YtpfdmjphoeljiaaCan
import Derived.Test.YtpfdmjphoeljiaaSmF
namespace Go.Proofs.Ytpfdmjphoeljiaa
open Go.RowKit
set_option linter.all false
set_option maxHeartbeats 1000000 in
theorem rNew_is (w : World) : Calls Try.prog 19 #[] w fun e w' => e = .returned (.agg #[.bool false, .int .i64 1, .slice none 0 0, .slice none 0 0, .slice none 0 0]) ∧ Below w.heap.size w w' := by
  have HB := hideIt (below1 w (.cells #[.bool false, .int .i64 1, .slice none 0 0, .slice none 0 0, .slice none 0 0] 25))
  have H2 := hideIt (heap_alloc_new w (.cells #[.bool false, .int .i64 1, .slice none 0 0, .slice none 0 0, .slice none 0 0] 25))
  go_enter Try.func19, Try.ntmps19
  go_wp2
  exact bodyPost_ret (v := .agg #[.bool false, .int .i64 1, .slice none 0 0, .slice none 0 0, .slice none 0 0]) (by simp [results, Try.results19, go_sem, cell_at H2.out]) rfl ⟨rfl, HB.out⟩
def nLane : LaneV := ⟨false, 1, [], [], []⟩
theorem nLan (w : World) : Lan w nLane (.slice none 0 0) (.slice none 0 0) (.slice none 0 0) := ⟨own_sgot (own_nil (e := 49) w 0) (by simp [nLane]), own_sgot (own_nil (e := 49) w 0) (by simp [nLane]), own_sgot (own_nil (e := 66) w 0) (by simp [nLane])⟩
theorem own_lan {w : World} {B : Nat} {L : LaneV} {b a o : Value} (hb : w.ownsRow B 49 4 b L.bids.length (celC ordE L.bids)) (ha : w.ownsRow B 49 4 a L.asks.length (celC ordE L.asks)) (ho : w.ownsRow B 66 3 o L.owed.length (celC oweE L.owed)) (lb : L.bids.length * 32 ≤ 140737488355328) (la : L.asks.length * 32 ≤ 140737488355328) (lo : L.owed.length * 24 ≤ 140737488355328) : Lan w L b a o := ⟨own_sgot hb lb, own_sgot ha la, own_sgot ho lo⟩
set_option maxHeartbeats 32000000 in
set_option maxRecDepth 100000 in
theorem cancels_walk (L : LaneV) (b a o : Value) (acc id : Int) (w : World) (h : Lan w L b a o) : Calls Try.prog 4 #[laneV L b a o, .int .i64 acc, .int .i64 id] w fun e w' => e = .returned (.bool true) ∧ Below w.heap.size w w' := by
  have HL := hideIt (fun W (hW : Below w.heap.size w W) => h.keep hW)
  have lb := h.bids.1
  have la := h.asks.1
  have lo := h.owed.1
  have HX0 := hideIt (heap_alloc_new w (.cells (laneA L b a o) 25))
  have HB0 := hideIt (below1 w (.cells (laneA L b a o) 25))
  have HCP := hideIt (rCopy_is L b a o _ (HL.out _ HB0.out))
  have HCA := hideIt (fun b' a' o' W (hW : Lan W L b' a' o') => cancel_is L b' a' o' acc id W hW)
  have HCD := hideIt (fun W (hW : Below w.heap.size w W) => rCancel_is L b a o acc id W (HL.out W hW))
  have HHO := hideIt (fun b' a' o' W (hW : Lan W L b' a' o') => holds_is L b' a' o' W hW)
  have HHD := hideIt (fun W (hW : Below w.heap.size w W) => rHolds_is L b a o W (HL.out W hW))
  have HCK := hideIt (fun b' a' o' W (hW : Lan W L b' a' o') => check_is L b' a' o' W hW)
  have HCR := hideIt (fun W (hW : Below w.heap.size w W) => rCheck_is L b a o W (HL.out W hW))
  have HSM := hideIt (fun b' a' o' W (hW : Lan W L b' a' o') (hV : Below w.heap.size w W) => sameL_is L b' a' o' b a o W hW (HL.out W hV))
  have HSR := hideIt (fun b' a' o' b'' a'' o'' W (hW : Lan W (canR L acc id).1 b' a' o') (hV : Lan W (canR L acc id).1 b'' a'' o'') => sameL_is (canR L acc id).1 b' a' o' b'' a'' o'' W hW hV)
  have HSP := hideIt (fun b' a' o' W B => spoil_is (canR L acc id).1 b' a' o' W B)
  have HSN := hideIt (fun W => sameL_is nLane (.slice none 0 0) (.slice none 0 0) (.slice none 0 0) (.slice none 0 0) (.slice none 0 0) (.slice none 0 0) W (nLan W) (nLan W))
  unfold LaneBack at HCP
  unfold CnBack at HCA
  unfold DcBack at HCD
  generalize chkI L = ck at *
  generalize holR L = HR at *
  generalize canR L acc id = CR at *
  obtain ⟨ba, bc, rfl⟩ := h.bids.slice
  obtain ⟨aa, ac, rfl⟩ := h.asks.slice
  obtain ⟨oa, oc, rfl⟩ := h.owed.slice
  clear h
  unfold laneV at *
  unfold laneA at *
  obtain ⟨cl, nx, bids, asks, owed⟩ := L
  obtain ⟨⟨xc, xn, xb, xa, xo⟩, xl, xe⟩ := CR
  obtain ⟨h1, h2, h3⟩ := HR
  simp only [nLane] at *
  obtain ⟨⟨c0, c1, c2, c3, c4⟩, -, cz⟩ := five5_at HX0.out
  go_enter Try.func4, Try.ntmps4
  go_wp2_with fail
  refine HCP.out.mono ?_
  rintro e w1 ⟨b1v, a1v, o1v, rfl, ob, oa1, oo, -, hb⟩
  dsimp only
  obtain ⟨b1, bk1, rfl⟩ := own_len ob
  obtain ⟨a1, ak1, rfl⟩ := own_len oa1
  obtain ⟨o1, ok1, rfl⟩ := own_len oo
  have hb1 := below1 w1 (.cells #[.bool cl, .int .i64 nx, .slice b1 bids.length bk1, .slice a1 asks.length ak1, .slice o1 owed.length ok1] 25)
  have HB1 := hideIt (below_via HB0.out (below_via hb hb1))
  have HX1 := hideIt (blkK HX0.out (below_via hb hb1))
  have HO1 : Hid (Lan (w1.alloc (.cells #[.bool cl, .int .i64 nx, .slice b1 bids.length bk1, .slice a1 asks.length ak1, .slice o1 owed.length ok1] 25)) ⟨cl, nx, bids, asks, owed⟩ (.slice b1 bids.length bk1) (.slice a1 asks.length ak1) (.slice o1 owed.length ok1)) := own_lan (own_keep ob hb1) (own_keep oa1 hb1) (own_keep oo hb1) lb la lo
  have HK1 := hideIt (heap_alloc_new w1 (.cells #[.bool cl, .int .i64 nx, .slice b1 bids.length bk1, .slice a1 asks.length ak1, .slice o1 owed.length ok1] 25))
  clear hb hb1 ob oa1 oo HCP HX0 HB0 c0 c1 c2 c3 c4 cz
  go_upto_region 2 with fail
  generalize w1.alloc (.cells #[.bool cl, .int .i64 nx, .slice b1 bids.length bk1, .slice a1 asks.length ak1, .slice o1 owed.length ok1] 25) = W1 at *
  generalize w1.heap.size = KO at *
  obtain ⟨⟨k0, k1, k2, k3, k4⟩, -, kz⟩ := five5_at HK1.out
  go_wp2_with fail
  refine (HCA.out _ _ _ _ HO1.out).mono ?_
  rintro e w2 ⟨b2v, a2v, o2v, rfl, ob, oa2, oo, hb⟩
  dsimp only
  obtain ⟨b2, bk2, rfl⟩ := own_len ob
  obtain ⟨a2, ak2, rfl⟩ := own_len oa2
  obtain ⟨o2, ok2, rfl⟩ := own_len oo
  have hb2 := below1 w2 (.cells #[.bool xc, .int .i64 xn, .slice b2 xb.length bk2, .slice a2 xa.length ak2, .slice o2 xo.length ok2] 25)
  have D2 := hideIt (below_via hb hb2)
  have OB2 := hideIt (own_keep ob hb2)
  have OA2 := hideIt (own_keep oa2 hb2)
  have OO2 := hideIt (own_keep oo hb2)
  have HA2 := hideIt (heap_alloc_new w2 (.cells #[.bool xc, .int .i64 xn, .slice b2 xb.length bk2, .slice a2 xa.length ak2, .slice o2 xo.length ok2] 25))
  clear hb hb2 ob oa2 oo HCA k0 k1 k2 k3 k4 kz
  go_upto_region 3 with fail
  generalize w2.alloc (.cells #[.bool xc, .int .i64 xn, .slice b2 xb.length bk2, .slice a2 xa.length ak2, .slice o2 xo.length ok2] 25) = W2 at *
  generalize w2.heap.size = KA at *
  obtain ⟨⟨c0, c1, c2, c3, c4⟩, -, cz⟩ := five5_at (blkK HX1.out D2.out)
  go_wp2_with fail
  refine (HCD.out _ (below_via HB1.out D2.out)).mono ?_
  rintro e w3 ⟨b3v, a3v, o3v, rfl, hLn, hb⟩
  dsimp only
  obtain ⟨b3, bk3, rfl⟩ := hLn.bids.slice
  obtain ⟨a3, ak3, rfl⟩ := hLn.asks.slice
  obtain ⟨o3, ok3, rfl⟩ := hLn.owed.slice
  have xlb := hLn.bids.1
  have xla := hLn.asks.1
  have xlo := hLn.owed.1
  dsimp only at xlb xla xlo
  have hb3 := below1 w3 (.cells #[.bool xc, .int .i64 xn, .slice b3 xb.length bk3, .slice a3 xa.length ak3, .slice o3 xo.length ok3] 25)
  have hbb := below_via hb hb3
  have D3 := hideIt (below_via D2.out hbb)
  have OB3 := hideIt (own_keep OB2.out hbb)
  have OA3 := hideIt (own_keep OA2.out hbb)
  have OO3 := hideIt (own_keep OO2.out hbb)
  have HA3 := hideIt (blkK HA2.out hbb)
  have HB3 := hideIt (heap_alloc_new w3 (.cells #[.bool xc, .int .i64 xn, .slice b3 xb.length bk3, .slice a3 xa.length ak3, .slice o3 xo.length ok3] 25))
  have HN3 := hideIt (hLn.keep hb3)
  clear hb hb3 hbb hLn HCD c0 c1 c2 c3 c4 cz D2 OB2 OA2 OO2 HA2
  go_upto_region 4 with fail
  generalize w3.alloc (.cells #[.bool xc, .int .i64 xn, .slice b3 xb.length bk3, .slice a3 xa.length ak3, .slice o3 xo.length ok3] 25) = W3 at *
  generalize w3.heap.size = KB at *
  obtain ⟨⟨k0, k1, k2, k3, k4⟩, -, kz⟩ := five5_at (blkK HK1.out D3.out)
  go_wp2_with fail
  refine (HHO.out _ _ _ _ (HO1.out.keep D3.out)).mono ?_
  rintro e w4 ⟨rfl, hb4⟩
  dsimp only
  have D4 := hideIt (below_via D3.out hb4)
  clear k0 k1 k2 k3 k4 kz HHO
  obtain ⟨⟨c0, c1, c2, c3, c4⟩, -, cz⟩ := five5_at (blkK HX1.out D4.out)
  go_wp2_with fail
  refine (HHD.out _ (below_via HB1.out D4.out)).mono ?_
  rintro e W5 ⟨rfl, hb5⟩
  dsimp only
  have hbb := below_via hb4 hb5
  have D5 := hideIt (below_via D4.out hb5)
  have OB5 := hideIt (own_keep OB3.out hbb)
  have OA5 := hideIt (own_keep OA3.out hbb)
  have OO5 := hideIt (own_keep OO3.out hbb)
  have HA5 := hideIt (blkK HA3.out hbb)
  have HB5 := hideIt (blkK HB3.out hbb)
  have HN5 := hideIt (HN3.out.keep hbb)
  have HO5 := hideIt (HO1.out.keep D5.out)
  have BW5 := hideIt (below_via HB1.out D5.out)
  clear hbb hb4 hb5 OB3 OA3 OO3 HA3 HB3 HN3 HHD c0 c1 c2 c3 c4 cz D3 D4
  have HM5 : Hid (Lan W5 ⟨xc, xn, xb, xa, xo⟩ (.slice b2 xb.length bk2) (.slice a2 xa.length ak2) (.slice o2 xo.length ok2)) := own_lan OB5.out OA5.out OO5.out xlb xla xlo
  have HK : Hid (∀ W, Below W5.heap.size W5 W → W.cell? ⟨w.heap.size, 0, none⟩ = some (.bool cl) ∧ W.cell? ⟨w.heap.size, 1, none⟩ = some (.int .i64 nx) ∧ W.cell? ⟨w.heap.size, 2, none⟩ = some (.slice ba bids.length bc) ∧ W.cell? ⟨w.heap.size, 3, none⟩ = some (.slice aa asks.length ac) ∧ W.cell? ⟨w.heap.size, 4, none⟩ = some (.slice oa owed.length oc) ∧ W.cell? ⟨KO, 0, none⟩ = some (.bool cl) ∧ W.cell? ⟨KO, 1, none⟩ = some (.int .i64 nx) ∧ W.cell? ⟨KO, 2, none⟩ = some (.slice b1 bids.length bk1) ∧ W.cell? ⟨KO, 3, none⟩ = some (.slice a1 asks.length ak1) ∧ W.cell? ⟨KO, 4, none⟩ = some (.slice o1 owed.length ok1) ∧ W.cell? ⟨KA, 0, none⟩ = some (.bool xc) ∧ W.cell? ⟨KA, 1, none⟩ = some (.int .i64 xn) ∧ W.cell? ⟨KA, 2, none⟩ = some (.slice b2 xb.length bk2) ∧ W.cell? ⟨KA, 3, none⟩ = some (.slice a2 xa.length ak2) ∧ W.cell? ⟨KA, 4, none⟩ = some (.slice o2 xo.length ok2) ∧ W.cell? ⟨KB, 0, none⟩ = some (.bool xc) ∧ W.cell? ⟨KB, 1, none⟩ = some (.int .i64 xn) ∧ W.cell? ⟨KB, 2, none⟩ = some (.slice b3 xb.length bk3) ∧ W.cell? ⟨KB, 3, none⟩ = some (.slice a3 xa.length ak3) ∧ W.cell? ⟨KB, 4, none⟩ = some (.slice o3 xo.length ok3)) := fun W hW => by
    obtain ⟨⟨p0, p1, p2, p3, p4⟩, -, -⟩ := five5_at (blkK (blkK HX1.out D5.out) hW)
    obtain ⟨⟨q0, q1, q2, q3, q4⟩, -, -⟩ := five5_at (blkK (blkK HK1.out D5.out) hW)
    obtain ⟨⟨r0, r1, r2, r3, r4⟩, -, -⟩ := five5_at (blkK HA5.out hW)
    obtain ⟨⟨s0, s1, s2, s3, s4⟩, -, -⟩ := five5_at (blkK HB5.out hW)
    exact ⟨p0, p1, p2, p3, p4, q0, q1, q2, q3, q4, r0, r1, r2, r3, r4, s0, s1, s2, s3, s4⟩
  have H16 : Hid (∀ W, Below W5.heap.size W5 W → Calls Try.prog 16 #[.agg #[.bool cl, .int .i64 nx, .slice b1 bids.length bk1, .slice a1 asks.length ak1, .slice o1 owed.length ok1]] W fun e w' => e = .returned (.int .i64 ck) ∧ Hid (Below W5.heap.size W5 w') ∧ ((fun W => W.cell? ⟨w.heap.size, 0, none⟩ = some (.bool cl) ∧ W.cell? ⟨w.heap.size, 1, none⟩ = some (.int .i64 nx) ∧ W.cell? ⟨w.heap.size, 2, none⟩ = some (.slice ba bids.length bc) ∧ W.cell? ⟨w.heap.size, 3, none⟩ = some (.slice aa asks.length ac) ∧ W.cell? ⟨w.heap.size, 4, none⟩ = some (.slice oa owed.length oc) ∧ W.cell? ⟨KO, 0, none⟩ = some (.bool cl) ∧ W.cell? ⟨KO, 1, none⟩ = some (.int .i64 nx) ∧ W.cell? ⟨KO, 2, none⟩ = some (.slice b1 bids.length bk1) ∧ W.cell? ⟨KO, 3, none⟩ = some (.slice a1 asks.length ak1) ∧ W.cell? ⟨KO, 4, none⟩ = some (.slice o1 owed.length ok1) ∧ W.cell? ⟨KA, 0, none⟩ = some (.bool xc) ∧ W.cell? ⟨KA, 1, none⟩ = some (.int .i64 xn) ∧ W.cell? ⟨KA, 2, none⟩ = some (.slice b2 xb.length bk2) ∧ W.cell? ⟨KA, 3, none⟩ = some (.slice a2 xa.length ak2) ∧ W.cell? ⟨KA, 4, none⟩ = some (.slice o2 xo.length ok2) ∧ W.cell? ⟨KB, 0, none⟩ = some (.bool xc) ∧ W.cell? ⟨KB, 1, none⟩ = some (.int .i64 xn) ∧ W.cell? ⟨KB, 2, none⟩ = some (.slice b3 xb.length bk3) ∧ W.cell? ⟨KB, 3, none⟩ = some (.slice a3 xa.length ak3) ∧ W.cell? ⟨KB, 4, none⟩ = some (.slice o3 xo.length ok3)) w')) := fun W hW => (HCK.out _ _ _ W (HO5.out.keep hW)).mono (fun e w' hx => ⟨hx.1, below_via hW hx.2, HK.out w' (below_via hW hx.2)⟩)
  have H17 : Hid (∀ W, Below W5.heap.size W5 W → Calls Try.prog 17 #[.agg #[.bool cl, .int .i64 nx, .slice ba bids.length bc, .slice aa asks.length ac, .slice oa owed.length oc]] W fun e w' => e = .returned (.int .i64 ck) ∧ Hid (Below W5.heap.size W5 w') ∧ ((fun W => W.cell? ⟨w.heap.size, 0, none⟩ = some (.bool cl) ∧ W.cell? ⟨w.heap.size, 1, none⟩ = some (.int .i64 nx) ∧ W.cell? ⟨w.heap.size, 2, none⟩ = some (.slice ba bids.length bc) ∧ W.cell? ⟨w.heap.size, 3, none⟩ = some (.slice aa asks.length ac) ∧ W.cell? ⟨w.heap.size, 4, none⟩ = some (.slice oa owed.length oc) ∧ W.cell? ⟨KO, 0, none⟩ = some (.bool cl) ∧ W.cell? ⟨KO, 1, none⟩ = some (.int .i64 nx) ∧ W.cell? ⟨KO, 2, none⟩ = some (.slice b1 bids.length bk1) ∧ W.cell? ⟨KO, 3, none⟩ = some (.slice a1 asks.length ak1) ∧ W.cell? ⟨KO, 4, none⟩ = some (.slice o1 owed.length ok1) ∧ W.cell? ⟨KA, 0, none⟩ = some (.bool xc) ∧ W.cell? ⟨KA, 1, none⟩ = some (.int .i64 xn) ∧ W.cell? ⟨KA, 2, none⟩ = some (.slice b2 xb.length bk2) ∧ W.cell? ⟨KA, 3, none⟩ = some (.slice a2 xa.length ak2) ∧ W.cell? ⟨KA, 4, none⟩ = some (.slice o2 xo.length ok2) ∧ W.cell? ⟨KB, 0, none⟩ = some (.bool xc) ∧ W.cell? ⟨KB, 1, none⟩ = some (.int .i64 xn) ∧ W.cell? ⟨KB, 2, none⟩ = some (.slice b3 xb.length bk3) ∧ W.cell? ⟨KB, 3, none⟩ = some (.slice a3 xa.length ak3) ∧ W.cell? ⟨KB, 4, none⟩ = some (.slice o3 xo.length ok3)) w')) := fun W hW => (HCR.out W (below_via BW5.out hW)).mono (fun e w' hx => ⟨hx.1, below_via hW hx.2, HK.out w' (below_via hW hx.2)⟩)
  have H8a : Hid (∀ W, Below W5.heap.size W5 W → Calls Try.prog 8 #[.agg #[.bool xc, .int .i64 xn, .slice b2 xb.length bk2, .slice a2 xa.length ak2, .slice o2 xo.length ok2], .agg #[.bool xc, .int .i64 xn, .slice b3 xb.length bk3, .slice a3 xa.length ak3, .slice o3 xo.length ok3]] W fun e w' => e = .returned (.bool true) ∧ Hid (Below W5.heap.size W5 w') ∧ ((fun W => W.cell? ⟨w.heap.size, 0, none⟩ = some (.bool cl) ∧ W.cell? ⟨w.heap.size, 1, none⟩ = some (.int .i64 nx) ∧ W.cell? ⟨w.heap.size, 2, none⟩ = some (.slice ba bids.length bc) ∧ W.cell? ⟨w.heap.size, 3, none⟩ = some (.slice aa asks.length ac) ∧ W.cell? ⟨w.heap.size, 4, none⟩ = some (.slice oa owed.length oc) ∧ W.cell? ⟨KO, 0, none⟩ = some (.bool cl) ∧ W.cell? ⟨KO, 1, none⟩ = some (.int .i64 nx) ∧ W.cell? ⟨KO, 2, none⟩ = some (.slice b1 bids.length bk1) ∧ W.cell? ⟨KO, 3, none⟩ = some (.slice a1 asks.length ak1) ∧ W.cell? ⟨KO, 4, none⟩ = some (.slice o1 owed.length ok1) ∧ W.cell? ⟨KA, 0, none⟩ = some (.bool xc) ∧ W.cell? ⟨KA, 1, none⟩ = some (.int .i64 xn) ∧ W.cell? ⟨KA, 2, none⟩ = some (.slice b2 xb.length bk2) ∧ W.cell? ⟨KA, 3, none⟩ = some (.slice a2 xa.length ak2) ∧ W.cell? ⟨KA, 4, none⟩ = some (.slice o2 xo.length ok2) ∧ W.cell? ⟨KB, 0, none⟩ = some (.bool xc) ∧ W.cell? ⟨KB, 1, none⟩ = some (.int .i64 xn) ∧ W.cell? ⟨KB, 2, none⟩ = some (.slice b3 xb.length bk3) ∧ W.cell? ⟨KB, 3, none⟩ = some (.slice a3 xa.length ak3) ∧ W.cell? ⟨KB, 4, none⟩ = some (.slice o3 xo.length ok3)) w')) := fun W hW => (HSR.out _ _ _ _ _ _ W (HM5.out.keep hW) (HN5.out.keep hW)).mono (fun e w' hx => ⟨hx.1, below_via hW hx.2, HK.out w' (below_via hW hx.2)⟩)
  have H8b : Hid (∀ W, Below W5.heap.size W5 W → Calls Try.prog 8 #[.agg #[.bool cl, .int .i64 nx, .slice b1 bids.length bk1, .slice a1 asks.length ak1, .slice o1 owed.length ok1], .agg #[.bool cl, .int .i64 nx, .slice ba bids.length bc, .slice aa asks.length ac, .slice oa owed.length oc]] W fun e w' => e = .returned (.bool true) ∧ Hid (Below W5.heap.size W5 w') ∧ ((fun W => W.cell? ⟨w.heap.size, 0, none⟩ = some (.bool cl) ∧ W.cell? ⟨w.heap.size, 1, none⟩ = some (.int .i64 nx) ∧ W.cell? ⟨w.heap.size, 2, none⟩ = some (.slice ba bids.length bc) ∧ W.cell? ⟨w.heap.size, 3, none⟩ = some (.slice aa asks.length ac) ∧ W.cell? ⟨w.heap.size, 4, none⟩ = some (.slice oa owed.length oc) ∧ W.cell? ⟨KO, 0, none⟩ = some (.bool cl) ∧ W.cell? ⟨KO, 1, none⟩ = some (.int .i64 nx) ∧ W.cell? ⟨KO, 2, none⟩ = some (.slice b1 bids.length bk1) ∧ W.cell? ⟨KO, 3, none⟩ = some (.slice a1 asks.length ak1) ∧ W.cell? ⟨KO, 4, none⟩ = some (.slice o1 owed.length ok1) ∧ W.cell? ⟨KA, 0, none⟩ = some (.bool xc) ∧ W.cell? ⟨KA, 1, none⟩ = some (.int .i64 xn) ∧ W.cell? ⟨KA, 2, none⟩ = some (.slice b2 xb.length bk2) ∧ W.cell? ⟨KA, 3, none⟩ = some (.slice a2 xa.length ak2) ∧ W.cell? ⟨KA, 4, none⟩ = some (.slice o2 xo.length ok2) ∧ W.cell? ⟨KB, 0, none⟩ = some (.bool xc) ∧ W.cell? ⟨KB, 1, none⟩ = some (.int .i64 xn) ∧ W.cell? ⟨KB, 2, none⟩ = some (.slice b3 xb.length bk3) ∧ W.cell? ⟨KB, 3, none⟩ = some (.slice a3 xa.length ak3) ∧ W.cell? ⟨KB, 4, none⟩ = some (.slice o3 xo.length ok3)) w')) := fun W hW => (HSM.out _ _ _ W (HO5.out.keep hW) (below_via BW5.out hW)).mono (fun e w' hx => ⟨hx.1, below_via hW hx.2, HK.out w' (below_via hW hx.2)⟩)
  have c9 := HK.out W5 (Below.refl _ _)
  have z0 : w.heap.size < W5.heap.size := (Array.getElem?_eq_some_iff.1 (blkK HX1.out D5.out)).1
  have z1 : KO < W5.heap.size := (Array.getElem?_eq_some_iff.1 (blkK HK1.out D5.out)).1
  have z2 : KA < W5.heap.size := (Array.getElem?_eq_some_iff.1 HA5.out).1
  have z3 : KB < W5.heap.size := (Array.getElem?_eq_some_iff.1 HB5.out).1
  have HBW := hideIt (Below.refl W5.heap.size W5)
  clear HCK HCR HSR
  have HKK := HK
  clear HK
  go_upto_region 6 with fail
  go_cut [91] from 50 to 91 (fun u wx => u = .bool false ∧ Below W5.heap.size W5 wx)
  case first =>
    obtain ⟨g0, g1, g2, g3, g4, g5, g6, g7, g8, g9, g10, g11, g12, g13, g14, g15, g16, g17, g18, g19⟩ := c9
    go_region_held3 (fun W => W.cell? ⟨w.heap.size, 0, none⟩ = some (.bool cl) ∧ W.cell? ⟨w.heap.size, 1, none⟩ = some (.int .i64 nx) ∧ W.cell? ⟨w.heap.size, 2, none⟩ = some (.slice ba bids.length bc) ∧ W.cell? ⟨w.heap.size, 3, none⟩ = some (.slice aa asks.length ac) ∧ W.cell? ⟨w.heap.size, 4, none⟩ = some (.slice oa owed.length oc) ∧ W.cell? ⟨KO, 0, none⟩ = some (.bool cl) ∧ W.cell? ⟨KO, 1, none⟩ = some (.int .i64 nx) ∧ W.cell? ⟨KO, 2, none⟩ = some (.slice b1 bids.length bk1) ∧ W.cell? ⟨KO, 3, none⟩ = some (.slice a1 asks.length ak1) ∧ W.cell? ⟨KO, 4, none⟩ = some (.slice o1 owed.length ok1) ∧ W.cell? ⟨KA, 0, none⟩ = some (.bool xc) ∧ W.cell? ⟨KA, 1, none⟩ = some (.int .i64 xn) ∧ W.cell? ⟨KA, 2, none⟩ = some (.slice b2 xb.length bk2) ∧ W.cell? ⟨KA, 3, none⟩ = some (.slice a2 xa.length ak2) ∧ W.cell? ⟨KA, 4, none⟩ = some (.slice o2 xo.length ok2) ∧ W.cell? ⟨KB, 0, none⟩ = some (.bool xc) ∧ W.cell? ⟨KB, 1, none⟩ = some (.int .i64 xn) ∧ W.cell? ⟨KB, 2, none⟩ = some (.slice b3 xb.length bk3) ∧ W.cell? ⟨KB, 3, none⟩ = some (.slice a3 xa.length ak3) ∧ W.cell? ⟨KB, 4, none⟩ = some (.slice o3 xo.length ok3)) (go_keep) (first | (go_at_call 16; refine (H16.out _ (by first | exact HBW.out | exact HBW.out.drew)).mono ?_; clear H16 HBW; rintro e wi ⟨rfl, HBW, i0, i1, i2, i3, i4, i5, i6, i7, i8, i9, i10, i11, i12, i13, i14, i15, i16, i17, i18, i19⟩) | (go_at_call 17; refine (H17.out _ (by first | exact HBW.out | exact HBW.out.drew)).mono ?_; clear H17 HBW; rintro e wj ⟨rfl, HBW, j0, j1, j2, j3, j4, j5, j6, j7, j8, j9, j10, j11, j12, j13, j14, j15, j16, j17, j18, j19⟩) | (go_at_call 8; refine (H8a.out _ (by first | exact HBW.out | exact HBW.out.drew)).mono ?_; clear H8a HBW; rintro e wm ⟨rfl, HBW, m0, m1, m2, m3, m4, m5, m6, m7, m8, m9, m10, m11, m12, m13, m14, m15, m16, m17, m18, m19⟩) | (go_at_call 8; refine (H8b.out _ (by first | exact HBW.out | exact HBW.out.drew)).mono ?_; clear H8b HBW; rintro e wn ⟨rfl, HBW, n0, n1, n2, n3, n4, n5, n6, n7, n8, n9, n10, n11, n12, n13, n14, n15, n16, n17, n18, n19⟩))
    all_goals go_wp2_with fail
    all_goals go_meet
    all_goals exact ⟨rfl, HBW.out⟩
  case rest =>
  obtain ⟨rfl, hb6⟩ := hcut
  have D6 := hideIt (below_via D5.out hb6)
  have OB6 : Hid (∃ xs, wc.ownsRow W1.heap.size 49 4 (.slice b2 xb.length bk2) xb.length xs) := ⟨_, own_keep OB5.out hb6⟩
  have OA6 : Hid (∃ xs, wc.ownsRow W1.heap.size 49 4 (.slice a2 xa.length ak2) xa.length xs) := ⟨_, own_keep OA5.out hb6⟩
  have OO6 : Hid (∃ xs, wc.ownsRow W1.heap.size 66 3 (.slice o2 xo.length ok2) xo.length xs) := ⟨_, own_keep OO5.out hb6⟩
  have HS6 := hideIt (HSP.out _ _ _ wc W1.heap.size D6.out.size (by omega) (by omega) (by omega) OB6.out OA6.out OO6.out)
  obtain ⟨⟨r0, r1, r2, r3, r4⟩, -, rz⟩ := five5_at (blkK HA5.out hb6)
  clear c9 hb6 HKK H16 H17 H8a H8b HBW OB5 OA5 OO5 OB6 OA6 OO6 HSP HA5 HB5 HN5 HM5 HO5 z0 z1 z2 z3 D5 BW5
  go_wp2_with fail
  refine HS6.out.mono ?_
  rintro e w7 ⟨rfl, hb7⟩
  dsimp only
  have D7 := hideIt (D6.out.trans hb7)
  clear HS6 hb7 D6 r0 r1 r2 r3 r4 rz
  obtain ⟨⟨c0, c1, c2, c3, c4⟩, -, cz⟩ := five5_at (blkK HX1.out D7.out)
  obtain ⟨⟨k0, k1, k2, k3, k4⟩, -, kz⟩ := five5_at (blkK HK1.out D7.out)
  go_wp2_with fail
  refine (HSM.out _ _ _ _ (HO1.out.keep D7.out) (below_via HB1.out D7.out)).mono ?_
  rintro e w8 ⟨rfl, hb8⟩
  dsimp only
  have B8 := hideIt (below_via (below_via HB1.out D7.out) hb8)
  clear hb8 HSM c0 c1 c2 c3 c4 cz k0 k1 k2 k3 k4 kz D7 HO1 HK1 HX1 HB1
  have HN := hideIt (fun W => new_is W)
  have HN2 := hideIt (fun W => rNew_is W)
  have HLV := hideIt (fun W => live_is W)
  go_wp2_with fail
  refine (HN.out _).mono ?_
  rintro e w9 ⟨rfl, hb9⟩
  dsimp only
  go_wp2_with fail
  refine (HN2.out _).mono ?_
  rintro e w10 ⟨rfl, hb10⟩
  dsimp only
  have B10 := hideIt (below_via B8.out (below_via hb9 hb10))
  clear hb9 hb10 B8
  go_wp2_with fail
  refine (HSN.out _).mono ?_
  rintro e w11 ⟨rfl, hb11⟩
  dsimp only
  have B11 := hideIt (below_via B10.out hb11)
  clear hb11 B10
  go_wp2_with fail
  refine (HLV.out _).mono ?_
  rintro e w12 ⟨rfl, hb12⟩
  dsimp only
  have B12 := hideIt (below_via B11.out hb12)
  clear hb12 B11
  go_wp2
  go_ret
  exact ⟨rfl, B12.out⟩
end Go.Proofs.Ytpfdmjphoeljiaa
