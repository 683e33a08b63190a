/- ClearTakes, walked. -/
import Derived.Test.YtbpnnhalajbjnaaRTk
import Derived.Test.YtbpnnhalajbjnaaSml
namespace Go.Proofs.Ytbpnnhalajbjnaa
open Go.RowKit
set_option linter.all false
theorem row_setG {w : World} {B n g j z : Nat} {e : TypeId} {v u : Value} {xs : List Value} {cur : Array Value} (ho : w.ownsRow B e z v n xs) (hg : w.heap[g]? = some (.cells cur e (0, 0))) : ∃ ys, (w.setCell ⟨g, j, none⟩ u).ownsRow B e z v n ys := by
  obtain ⟨h1, hn | ⟨g', cap, cur', hv, hb, hg', hnc, hcm, hs, ht⟩⟩ := ho
  · exact ⟨xs, h1, .inl hn⟩
  · by_cases e1 : g' = g
    · subst e1
      refine ⟨(cur'.setIfInBounds j u).toList.take (n * z), ?_, .inr ⟨g', cap, cur'.setIfInBounds j u, hv, hb, heap_set hg' j u, hnc, hcm, by simp [hs], rfl⟩⟩
      rw [List.length_take]
      simp [hs]
      rw [Nat.min_eq_left hnc]
    · exact ⟨xs, h1, .inr ⟨g', cap, cur', hv, hb, (heap_set_other _ _ _ _ _ e1).trans hg', hnc, hcm, hs, ht⟩⟩
theorem row_atG {w : World} {B n z : Nat} {e : TypeId} {v : Value} {xs : List Value} (ho : w.ownsRow B e z v n xs) (q : Nat) (hq : q < z) : ∃ a c, v = .slice a n c ∧ ∀ i, i < n → ∃ g off cur u, a = some ⟨g, off, none⟩ ∧ B ≤ g ∧ w.heap[g]? = some (.cells cur e (0, 0)) ∧ g < w.heap.size ∧ w.cell? ⟨g, off + i * z + q, none⟩ = some u ∧ w.frozen? ⟨g, off + i * z + q, none⟩ = false := by
  obtain ⟨h1, ⟨rfl, rfl⟩ | ⟨g, cap, cur, rfl, hb, hg, hnc, hcm, hs, ht⟩⟩ := ho
  · exact ⟨_, _, rfl, fun i hi => by omega⟩
  · refine ⟨_, _, rfl, fun i hi => ?_⟩
    have hlt : 0 + i * z + q < cur.size := by
      rw [hs]
      have : (i + 1) * z ≤ cap * z := Nat.mul_le_mul_right _ (by omega)
      rw [Nat.add_mul, Nat.one_mul] at this
      omega
    exact ⟨g, 0, cur, cur[0 + i * z + q], rfl, hb, hg, (Array.getElem?_eq_some_iff.1 hg).1, by rw [cell_at hg, Array.getElem?_eq_getElem hlt], free_at hg _⟩
theorem ty_set {W : World} {b j k : Nat} {u : Value} {cs cur : Array Value} {t e : TypeId} (h : W.heap[b]? = some (.cells cs t (0, 0))) (hg : W.heap[k]? = some (.cells cur e (0, 0))) (hne : t ≠ e) : (W.setCell ⟨k, j, none⟩ u).heap[b]? = some (.cells cs t (0, 0)) :=
  setOther _ h (fun e1 => by rw [e1, hg] at h; simp at h; exact hne h.2.symm)
/-- A book that is spoiled: nothing below it turns. -/
structure SK (w1 : World) (K : Nat) (cs : Array Value) (u v : Value) (nu nv : Nat) (W : World) : Prop where
  bx : W.heap[K]? = some (.cells cs 37 (0, 0))
  ru : ∃ xs, W.ownsRow w1.heap.size 45 3 u nu xs
  rv : ∃ xs, W.ownsRow w1.heap.size 47 4 v nv xs
  bel : Below w1.heap.size w1 W
theorem SK.s45 {w1 W : World} {K nu nv g j : Nat} {cs cur : Array Value} {u v x : Value} (h : SK w1 K cs u v nu nv W) (hg : W.heap[g]? = some (.cells cur 45 (0, 0))) (hB : w1.heap.size ≤ g) : SK w1 K cs u v nu nv (W.setCell ⟨g, j, none⟩ x) := by
  obtain ⟨xu, hu⟩ := h.ru
  obtain ⟨xv, hv⟩ := h.rv
  exact ⟨ty_set h.bx hg (by decide), row_setG hu hg, ⟨xv, own_cell hv hg (by decide)⟩, belowSet _ h.bel hB⟩
theorem SK.s47 {w1 W : World} {K nu nv g j : Nat} {cs cur : Array Value} {u v x : Value} (h : SK w1 K cs u v nu nv W) (hg : W.heap[g]? = some (.cells cur 47 (0, 0))) (hB : w1.heap.size ≤ g) : SK w1 K cs u v nu nv (W.setCell ⟨g, j, none⟩ x) := by
  obtain ⟨xu, hu⟩ := h.ru
  obtain ⟨xv, hv⟩ := h.rv
  exact ⟨ty_set h.bx hg (by decide), ⟨xu, own_cell hu hg (by decide)⟩, row_setG hv hg, belowSet _ h.bel hB⟩
theorem own_lan {w : World} {B : Nat} {L : LaneV} {b a o : Value} (hb : w.ownsRow B 47 4 b L.bids.length (celC ordE L.bids)) (ha : w.ownsRow B 47 4 a L.asks.length (celC ordE L.asks)) (ho : w.ownsRow B 45 3 o L.owed.length (celC oweE L.owed)) (lb : L.bids.length * 32 ≤ 140737488355328) (la : L.asks.length * 32 ≤ 140737488355328) (lo : L.owed.length * 24 ≤ 140737488355328) : Lan w L b a o := ⟨own_sgot hb lb, own_sgot ha la, own_sgot ho lo⟩
theorem takR_len (L : LaneV) (acc : Int) : (takR L acc).1.bids.length ≤ L.bids.length ∧ (takR L acc).1.asks.length ≤ L.asks.length ∧ (takR L acc).1.owed.length ≤ L.owed.length ∧ (takR L acc).2.1.length ≤ L.owed.length := by
  unfold takR
  split
  · simp [zLn]
  · split
    · simp [zLn]
    · exact ⟨Nat.le_refl _, Nat.le_refl _, lefA_len _ _, takA_len _ _⟩
set_option maxHeartbeats 32000000 in
set_option maxRecDepth 100000 in
theorem takes_walk (L : LaneV) (b a o : Value) (acc : Int) (w : World) (h : Lan w L b a o) : Calls Try.prog 6 #[laneV L b a o, .int .i64 acc] w fun e w' => e = .returned (.bool true) ∧ Below w.heap.size w w' := by
  have HL := hideIt (fun W (hW : Below w.heap.size w W) => h.keep hW)
  have lb := h.bids.1
  have la := h.asks.1
  have lo := h.owed.1
  obtain ⟨tl1, tl2, tl3, tl4⟩ := takR_len L acc
  have HX0 := hideIt (heap_alloc_new w (.cells (laneA L b a o) 37))
  have HB0 := hideIt (below1 w (.cells (laneA L b a o) 37))
  have HCP := hideIt (rCopy_is L b a o _ (HL.out _ HB0.out))
  have HTK := hideIt (fun b' a' o' W (hW : Lan W L b' a' o') => take_is L b' a' o' acc W hW)
  have HTR := hideIt (fun W (hW : Below w.heap.size w W) => rTake_is L b a o acc W (HL.out W hW))
  have HSM := hideIt (fun b' a' o' W (hW : Lan W L b' a' o') (hV : Below w.heap.size w W) => sameL_is L b' a' o' b a o W hW (HL.out W hV))
  have HSR := hideIt (fun b' a' o' b'' a'' o'' W (hW : Lan W (takR L acc).1 b' a' o') (hV : Lan W (takR L acc).1 b'' a'' o'') => sameL_is (takR L acc).1 b' a' o' b'' a'' o'' W hW hV)
  have HSA := hideIt (fun u u' W (hu : Ams W u (takR L acc).2.1) (hu' : Ams W u' (takR L acc).2.1) => sameM_is u u' (takR L acc).2.1 W hu hu')
  have HLV := hideIt (fun W => live_is W)
  unfold LaneBack at HCP
  unfold TkB at HTK HTR
  generalize takR L acc = TR at *
  obtain ⟨ba, bc, rfl⟩ := h.bids.slice
  obtain ⟨aa, ac, rfl⟩ := h.asks.slice
  obtain ⟨oa, oc, rfl⟩ := h.owed.slice
  clear h
  unfold laneV at *
  unfold laneA at *
  obtain ⟨cl, nx, bids, asks, owed⟩ := L
  obtain ⟨⟨xc, xn, xb, xa, xo⟩, xm, xe⟩ := TR
  simp only at *
  obtain ⟨⟨c0, c1, c2, c3, c4⟩, -, cz⟩ := five5_at HX0.out
  go_enter Try.func6, Try.ntmps6
  go_wp2_with fail
  refine HCP.out.mono ?_
  rintro e w1 ⟨b1v, a1v, o1v, rfl, ob, oa1, oo, -, hb⟩
  dsimp only
  obtain ⟨b1, bk1, rfl⟩ := own_len ob
  obtain ⟨a1, ak1, rfl⟩ := own_len oa1
  obtain ⟨o1, ok1, rfl⟩ := own_len oo
  have hb1 := below1 w1 (.cells #[.bool cl, .int .i64 nx, .slice b1 bids.length bk1, .slice a1 asks.length ak1, .slice o1 owed.length ok1] 37)
  have HB1 := hideIt (below_via HB0.out (below_via hb hb1))
  have HX1 := hideIt (blkK HX0.out (below_via hb hb1))
  have HO1 : Hid (Lan (w1.alloc (.cells #[.bool cl, .int .i64 nx, .slice b1 bids.length bk1, .slice a1 asks.length ak1, .slice o1 owed.length ok1] 37)) ⟨cl, nx, bids, asks, owed⟩ (.slice b1 bids.length bk1) (.slice a1 asks.length ak1) (.slice o1 owed.length ok1)) := own_lan (own_keep ob hb1) (own_keep oa1 hb1) (own_keep oo hb1) lb la lo
  have HK1 := hideIt (heap_alloc_new w1 (.cells #[.bool cl, .int .i64 nx, .slice b1 bids.length bk1, .slice a1 asks.length ak1, .slice o1 owed.length ok1] 37))
  clear hb hb1 ob oa1 oo HCP HX0 HB0 c0 c1 c2 c3 c4 cz
  go_upto_region 2 with fail
  generalize w1.alloc (.cells #[.bool cl, .int .i64 nx, .slice b1 bids.length bk1, .slice a1 asks.length ak1, .slice o1 owed.length ok1] 37) = W1 at *
  generalize w1.heap.size = KO at *
  obtain ⟨⟨k0, k1, k2, k3, k4⟩, -, kz⟩ := five5_at HK1.out
  go_wp2_with fail
  refine (HTK.out _ _ _ _ HO1.out).mono ?_
  rintro e w2 ⟨b2v, a2v, o2v, u2v, rfl, ob, oa2, oo, ou, hb⟩
  dsimp only
  try dsimp only at ob oa2 oo ou
  obtain ⟨b2, bk2, rfl⟩ := own_len ob
  obtain ⟨a2, ak2, rfl⟩ := own_len oa2
  obtain ⟨o2, ok2, rfl⟩ := own_len oo
  obtain ⟨u2, uk2, rfl⟩ := own_len ou
  have hb2 := below1 w2 (.cells #[.bool xc, .int .i64 xn, .slice b2 xb.length bk2, .slice a2 xa.length ak2, .slice o2 xo.length ok2] 37)
  have D2 := hideIt (below_via hb hb2)
  have OB2 := hideIt (own_keep ob hb2)
  have OA2 := hideIt (own_keep oa2 hb2)
  have OO2 := hideIt (own_keep oo hb2)
  have OU2 := hideIt (own_keep ou hb2)
  have HA2 := hideIt (heap_alloc_new w2 (.cells #[.bool xc, .int .i64 xn, .slice b2 xb.length bk2, .slice a2 xa.length ak2, .slice o2 xo.length ok2] 37))
  clear hb hb2 ob oa2 oo ou HTK k0 k1 k2 k3 k4 kz
  go_upto_region 3 with fail
  generalize w2.alloc (.cells #[.bool xc, .int .i64 xn, .slice b2 xb.length bk2, .slice a2 xa.length ak2, .slice o2 xo.length ok2] 37) = W2 at *
  generalize w2.heap.size = KA at *
  obtain ⟨⟨c0, c1, c2, c3, c4⟩, -, cz⟩ := five5_at (blkK HX1.out D2.out)
  go_wp2_with fail
  refine (HTR.out _ (below_via HB1.out D2.out)).mono ?_
  rintro e w3 ⟨b3v, a3v, o3v, u3v, rfl, ob, oa3, oo, ou, hb⟩
  dsimp only
  try dsimp only at ob oa3 oo ou
  obtain ⟨b3, bk3, rfl⟩ := own_len ob
  obtain ⟨a3, ak3, rfl⟩ := own_len oa3
  obtain ⟨o3, ok3, rfl⟩ := own_len oo
  obtain ⟨u3, uk3, rfl⟩ := own_len ou
  have hb3 := below1 w3 (.cells #[.bool xc, .int .i64 xn, .slice b3 xb.length bk3, .slice a3 xa.length ak3, .slice o3 xo.length ok3] 37)
  have hbb := below_via hb hb3
  have D3 := hideIt (below_via D2.out hbb)
  have OB3 := hideIt (own_keep OB2.out hbb)
  have OA3 := hideIt (own_keep OA2.out hbb)
  have OO3 := hideIt (own_keep OO2.out hbb)
  have HA3 := hideIt (blkK HA2.out hbb)
  have HB3 := hideIt (heap_alloc_new w3 (.cells #[.bool xc, .int .i64 xn, .slice b3 xb.length bk3, .slice a3 xa.length ak3, .slice o3 xo.length ok3] 37))
  have HM2 : Hid (Lan (w3.alloc (.cells #[.bool xc, .int .i64 xn, .slice b3 xb.length bk3, .slice a3 xa.length ak3, .slice o3 xo.length ok3] 37)) ⟨xc, xn, xb, xa, xo⟩ (.slice b2 xb.length bk2) (.slice a2 xa.length ak2) (.slice o2 xo.length ok2)) := own_lan (own_keep OB2.out hbb) (own_keep OA2.out hbb) (own_keep OO2.out hbb) (by dsimp only; omega) (by dsimp only; omega) (by dsimp only; omega)
  have HM3 : Hid (Lan (w3.alloc (.cells #[.bool xc, .int .i64 xn, .slice b3 xb.length bk3, .slice a3 xa.length ak3, .slice o3 xo.length ok3] 37)) ⟨xc, xn, xb, xa, xo⟩ (.slice b3 xb.length bk3) (.slice a3 xa.length ak3) (.slice o3 xo.length ok3)) := own_lan (own_keep ob hb3) (own_keep oa3 hb3) (own_keep oo hb3) (by dsimp only; omega) (by dsimp only; omega) (by dsimp only; omega)
  have HU2 : Hid (Ams (w3.alloc (.cells #[.bool xc, .int .i64 xn, .slice b3 xb.length bk3, .slice a3 xa.length ak3, .slice o3 xo.length ok3] 37)) (.slice u2 xm.length uk2) xm) := own_sgot (own_keep OU2.out hbb) (by omega)
  have HU3 : Hid (Ams (w3.alloc (.cells #[.bool xc, .int .i64 xn, .slice b3 xb.length bk3, .slice a3 xa.length ak3, .slice o3 xo.length ok3] 37)) (.slice u3 xm.length uk3) xm) := own_sgot (own_keep ou hb3) (by omega)
  clear hb hb3 hbb ob oa3 oo ou HTR c0 c1 c2 c3 c4 cz D2 OB2 OA2 OO2 OU2 HA2
  go_upto_region 4 with fail
  generalize w3.alloc (.cells #[.bool xc, .int .i64 xn, .slice b3 xb.length bk3, .slice a3 xa.length ak3, .slice o3 xo.length ok3] 37) = W3 at *
  generalize w3.heap.size = KB at *
  obtain ⟨⟨k0, k1, k2, k3, k4⟩, -, kz⟩ := five5_at HA3.out
  obtain ⟨⟨c0, c1, c2, c3, c4⟩, -, cz⟩ := five5_at HB3.out
  go_wp2_with fail
  refine (HSR.out _ _ _ _ _ _ _ HM2.out HM3.out).mono ?_
  rintro e w4 ⟨rfl, hb4⟩
  dsimp only
  go_wp2_with fail
  refine (HSA.out _ _ _ (HU2.out.keep hb4) (HU3.out.keep hb4)).mono ?_
  rintro e W5 ⟨rfl, hb5⟩
  dsimp only
  have hbb := below_via hb4 hb5
  have D5 := hideIt (below_via D3.out hbb)
  clear k0 k1 k2 k3 k4 kz c0 c1 c2 c3 c4 cz HSR HSA HM2 HM3 HU2 HU3 HB3
  obtain ⟨⟨k0, k1, k2, k3, k4⟩, -, kz⟩ := five5_at (blkK HK1.out D5.out)
  obtain ⟨⟨c0, c1, c2, c3, c4⟩, -, cz⟩ := five5_at (blkK HX1.out D5.out)
  go_wp2_with fail
  refine (HSM.out _ _ _ _ (HO1.out.keep D5.out) (below_via HB1.out D5.out)).mono ?_
  rintro e W6 ⟨rfl, hb6⟩
  dsimp only
  have hb7 := below_via hbb hb6
  have S0 : Hid (SK W1 KA #[.bool xc, .int .i64 xn, .slice b2 xb.length bk2, .slice a2 xa.length ak2, .slice o2 xo.length ok2] (.slice o2 xo.length ok2) (.slice b2 xb.length bk2) xo.length xb.length W6) := ⟨blkK HA3.out hb7, ⟨_, own_keep OO3.out hb7⟩, ⟨_, own_keep OB3.out hb7⟩, below_via D3.out hb7⟩
  clear hb4 hb5 hbb hb6 hb7 D5 D3 OB3 OA3 OO3 HA3 k0 k1 k2 k3 k4 kz c0 c1 c2 c3 c4 cz
  go_upto_region 7 with fail
  go_loopw [12] (fun v wr => ∃ t : Nat, v = .int .i64 t ∧ t ≤ xo.length ∧ Hid (SK W1 KA #[.bool xc, .int .i64 xn, .slice b2 xb.length bk2, .slice a2 xa.length ak2, .slice o2 xo.length ok2] (.slice o2 xo.length ok2) (.slice b2 xb.length bk2) xo.length xb.length wr)) (fun v _ => xo.length - (RowKit.intOf v).toNat)
  case atStart => exact ⟨0, rfl, Nat.zero_le _, S0⟩
  case round =>
    obtain ⟨t, rfl, ht, HS⟩ := hrel
    obtain ⟨⟨k0, k1, k2, k3, k4⟩, -, kz⟩ := five5_at HS.out.bx
    clear k0 k1 k2 k3
    by_cases hlt : t < xo.length
    · have hltI : (t : Int) < (xo.length : Int) := by omega
      have ht0 : (0 : Int) ≤ (t : Int) := by omega
      have hwt : IntKind.i64.wrap ((t : Int) + 1) = ((t + 1 : Nat) : Int) := by rw [IntKind.wrap_i64]; omega
      obtain ⟨xs, hx⟩ := HS.out.ru
      obtain ⟨a', c', e, hr⟩ := row_atG hx 2 (by omega)
      simp only [Value.slice.injEq, true_and] at e
      obtain ⟨rfl, rfl⟩ := e
      obtain ⟨g, off, cu, u, rfl, hBb, hgb, hbl, hcu, hf⟩ := hr t hlt
      have HS2 := hideIt (HS.out.s45 (j := off + t * 3 + 2) (x := .int .i64 (-1)) hgb hBb)
      clear hx hr hgb hBb HS S0
      go_wp2
      go_roundw
      case rel => exact ⟨t + 1, by go_num, by omega, HS2⟩
      case measure => simp [RowKit.intOf]; omega
    · have hltI : ¬ (t : Int) < (xo.length : Int) := by omega
      clear S0
      go_upto_region 11 with fail
      clear k4 kz
      go_loopw [13] (fun v wr => ∃ t : Nat, v = .int .i64 t ∧ t ≤ xb.length ∧ Hid (SK W1 KA #[.bool xc, .int .i64 xn, .slice b2 xb.length bk2, .slice a2 xa.length ak2, .slice o2 xo.length ok2] (.slice o2 xo.length ok2) (.slice b2 xb.length bk2) xo.length xb.length wr)) (fun v _ => xb.length - (RowKit.intOf v).toNat)
      case atStart => exact ⟨0, rfl, Nat.zero_le _, HS⟩
      case round =>
        clear HS hltI ht hlt
        obtain ⟨t, rfl, ht, HS⟩ := hrel
        obtain ⟨⟨k0, k1, k2, k3, k4⟩, -, kz⟩ := five5_at HS.out.bx
        clear k0 k1 k3 k4
        by_cases hlt : t < xb.length
        · have hltI : (t : Int) < (xb.length : Int) := by omega
          have ht0 : (0 : Int) ≤ (t : Int) := by omega
          have hwt : IntKind.i64.wrap ((t : Int) + 1) = ((t + 1 : Nat) : Int) := by rw [IntKind.wrap_i64]; omega
          obtain ⟨xs, hx⟩ := HS.out.rv
          obtain ⟨a', c', e, hr⟩ := row_atG hx 0 (by omega)
          simp only [Value.slice.injEq, true_and] at e
          obtain ⟨rfl, rfl⟩ := e
          obtain ⟨g, off, cu, u, rfl, hBb, hgb, hbl, hcu, hf⟩ := hr t hlt
          have HS2 := hideIt (HS.out.s47 (j := off + t * 4 + 0) (x := .int .i64 (-1)) hgb hBb)
          rw [Nat.add_zero] at HS2 hcu hf
          clear hx hr hgb hBb HS
          go_wp2
          go_roundw
          case rel => exact ⟨t + 1, by go_num, by omega, HS2⟩
          case measure => simp [RowKit.intOf]; omega
        · have hltI : ¬ (t : Int) < (xb.length : Int) := by omega
          have D6 := hideIt HS.out.bel
          clear HS
          obtain ⟨⟨p0, p1, p2, p3, p4⟩, -, pz⟩ := five5_at (blkK HK1.out D6.out)
          obtain ⟨⟨c0, c1, c2, c3, c4⟩, -, cz⟩ := five5_at (blkK HX1.out D6.out)
          go_wp2_with fail
          refine (HSM.out _ _ _ _ (HO1.out.keep D6.out) (below_via HB1.out D6.out)).mono ?_
          rintro e W7 ⟨rfl, hb6⟩
          dsimp only
          have D7 := hideIt (below_via D6.out hb6)
          clear hb6 D6 p0 p1 p2 p3 p4 pz c0 c1 c2 c3 c4 cz k2 kz
          go_wp2_with fail
          refine (HLV.out _).mono ?_
          rintro e w8 ⟨rfl, hb⟩
          dsimp only
          have B8 := hideIt (below_via HB1.out (below_via D7.out hb))
          clear hb D7 HB1
          go_wp2
          go_ret
          exact ⟨rfl, B8.out⟩
end Go.Proofs.Ytbpnnhalajbjnaa
