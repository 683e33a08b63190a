/- Do no two orders have one number? The program sorts, and looks. -/
import Derived.Test.YtiinigifjdpicaaGreatDoorApp
import Derived.Test.YtiinigifjdpicaaGreatDoorShelf
import Derived.Sort.OwnSortedInts
namespace Go.Proofs.YtiinigifjdpicaaGreatDoor
open Go.RowKit
set_option linter.all false
def sortL (m : List Int) : List Int := m.mergeSort fun x y => decide (x ≤ y)
theorem sortL_len (m : List Int) : (sortL m).length = m.length := List.length_mergeSort m
def ltB (a b : Int) : Bool := decide (a < b)
/-- Are all unlike? -/
def unlB (L : LaneV) : Bool := srtB ltB (sortL (idsL L.bids ++ idsL L.asks))
theorem cmp59 {w : World} : CmpB 95 #[] intU ltB w := fun W x y hW => (less_is x y W).mono (fun _ _ h => ⟨h.1, h.2 ▸ hW⟩)
/-- The box of a lane, and what stays. -/
structure BoxL (w : World) (L : LaneV) (b a o : Value) (wx : World) : Prop where
  box : wx.heap[w.heap.size]? = some (.cells (laneA L b a o) 59 (0, 0))
  bel : Below w.heap.size w wx
  size : w.heap.size + 1 ≤ wx.heap.size
theorem BoxL.first (w : World) (L : LaneV) (b a o : Value) : BoxL w L b a o (w.alloc (.cells (laneA L b a o) 59)) := ⟨heap_alloc_new w _, below1 w _, by simp⟩
theorem BoxL.keep {w wx wy : World} {L : LaneV} {b a o : Value} (h : BoxL w L b a o wx) (hb : Below wx.heap.size wx wy) : BoxL w L b a o wy :=
  ⟨(hb.block _ (by have := h.size; omega)).trans h.box, below_via h.bel hb, Nat.le_trans h.size hb.size⟩
theorem BoxL.out {w wx wy : World} {F : Nat → Prop} {L : LaneV} {b a o : Value} (h : BoxL w L b a o wx) (ho : Out F wx wy) (hF : ∀ k, F k → w.heap.size + 1 ≤ k) : BoxL w L b a o wy :=
  ⟨(ho.block _ (by have := h.size; omega) (fun e => by have := hF _ e; omega)).trans h.box, below_out h.bel ho (fun k e => by have := hF k e; omega), Nat.le_trans h.size ho.size⟩
theorem BoxL.cells {w wx : World} {L : LaneV} {b a o : Value} (h : BoxL w L b a o wx) : wx.cell? ⟨w.heap.size, 0, none⟩ = some (.bool L.call) ∧ wx.cell? ⟨w.heap.size, 1, none⟩ = some (.int .i64 L.next) ∧ wx.cell? ⟨w.heap.size, 2, none⟩ = some b ∧ wx.cell? ⟨w.heap.size, 3, none⟩ = some a ∧ wx.cell? ⟨w.heap.size, 4, none⟩ = some o :=
  ⟨by rw [cell_at h.box]; rfl, by rw [cell_at h.box]; rfl, by rw [cell_at h.box]; rfl, by rw [cell_at h.box]; rfl, by rw [cell_at h.box]; rfl⟩
theorem idsL_take (l : List OrdV) (t : Nat) (h : t < l.length) : idsL (l.take (t + 1)) = idsL (l.take t) ++ [l[t].id] := by
  unfold idsL
  rw [List.take_succ_eq_append_getElem h, List.map_append]
  rfl
theorem idx0 (W : World) : (Instr.index 110 (.agg #[.int .i64 1, .int .i64 2]) (.int .i64 0)).run Tryz.prog W = .ok (.int .i64 1) W := by
  simp [Instr.index, run_underlying Tryz.underlying110, go_sem, asAgg]
theorem idx1 (W : World) : (Instr.index 110 (.agg #[.int .i64 1, .int .i64 2]) (.int .i64 1)).run Tryz.prog W = .ok (.int .i64 2) W := by
  simp [Instr.index, run_underlying Tryz.underlying110, go_sem, asAgg]
/-- The numbers of none, one and both sides. -/
def idsK (b a : List OrdV) : Nat → List Int
  | 0 => []
  | 1 => [] ++ idsL b
  | _ => idsL b ++ idsL a
set_option maxHeartbeats 8000000 in
set_option maxRecDepth 100000 in
theorem areUnlike_is (L : LaneV) (b a o : Value) (w : World) (h : Lan w L b a o) (hb4 : L.bids.length ≤ 40) (ha4 : L.asks.length ≤ 40) : Calls Tryz.prog 67 #[laneV L b a o] w fun e w' => e = .returned (.bool (unlB L)) ∧ Below w.heap.size w w' := by
  have X0 := hideIt (BoxL.first w L b a o)
  have HBS := hideIt (fun W => bothSides_is W)
  have HP1 := hideIt (fun W => sideOf_is w.heap.size 1 W)
  have HP2 := hideIt (fun W => sideOf_is w.heap.size 2 W)
  rw [show sideOff 1 = 2 from rfl] at HP1
  rw [show sideOff 2 = 3 from rfl] at HP2
  obtain ⟨ba, bc, rfl, b8, hb⟩ := h.bids.ords
  obtain ⟨aa, ac, rfl, a8, ha⟩ := h.asks.ords
  obtain ⟨oa, oc, rfl⟩ := h.owed.slice
  have HB := hideIt hb
  have HA := hideIt ha
  unfold laneV laneA unlB at *
  obtain ⟨cl, nx, bids, asks, owed⟩ := L
  simp only at *
  clear h hb ha
  obtain ⟨nn, hnn⟩ : ∃ nn : Nat, nn = bids.length + asks.length := ⟨_, rfl⟩
  have hw : IntKind.i64.wrap ((bids.length : Int) + (asks.length : Int)) = (nn : Int) := by rw [IntKind.wrap_i64]; omega
  have HNN := hideIt hnn
  clear hnn
  obtain ⟨c0, c1, c2, c3, c4⟩ := X0.out.cells
  simp only at c0 c1 c2 c3 c4
  have hix0 := idx0
  have hix1 := idx1
  obtain ⟨R, hR⟩ : ∃ R, R = srtB ltB (sortL (idsL bids ++ idsL asks)) := ⟨_, rfl⟩
  rw [← hR]
  have HRR := hideIt hR
  clear hR
  go_enter Tryz.func67, Tryz.ntmps67
  obtain ⟨i, hi, hz0, hz1, hz2⟩ := info_parts info3
  have XS := hideIt X0.out.size
  go_wp2_with (at_make; go_loud (refine wpList_make_own _ rfl _ _ 153 rfl (w.heap.size + 1) 3 i _ 1 Tryz.underlying153 hi hz0 hz1 _ _ _ nn rfl rfl rfl (by rw [hz2]; have := HNN.out; omega) (by have := HNN.out; unfold maxLen; omega) (by rw [World.size_alloc]; exact Nat.le_refl _) ?_))
  intro w1 ho hg
  have X1 := hideIt (X0.out.keep (grown_none hg))
  have O1 := hideIt ho
  clear hg ho X0 c0 c1 c2 c3 c4 hw XS
  go_wp2_with fail
  refine (HBS.out _).mono ?_
  rintro e w2 ⟨rfl, hb⟩
  dsimp only
  have X2 := hideIt (X1.out.keep hb)
  have O2 := hideIt (own_keep O1.out hb)
  clear hb X1 O1 HBS
  try rw [World.size_alloc] at O2
  go_wp2
  go_loopw [3, 17] (fun v3 v17 wr => ∃ k : Int, v17 = .int .i64 k ∧ (k = 0 ∨ k = 1 ∨ k = 2) ∧ Hid (wr.ownsRow (w.heap.size + 1) 3 1 v3 (idsK bids asks k.toNat).length ((idsK bids asks k.toNat).map (Value.int .i64)) ∧ BoxL w ⟨cl, nx, bids, asks, owed⟩ (.slice ba bids.length bc) (.slice aa asks.length ac) (.slice oa owed.length oc) wr)) (fun _ v _ => 2 - (intOf v).toNat)
  case atStart => exact ⟨0, rfl, .inl rfl, hideIt ⟨O2.out, X2.out⟩⟩
  case round =>
    clear O2 X2
    obtain ⟨k, rfl, hk2, HR⟩ := hrel
    obtain ⟨c0, c1, c2, c3, c4⟩ := HR.out.2.cells
    simp only at c0 c1 c2 c3 c4
    rcases hk2 with rfl | rfl | rfl
    · clear c0 c1
      go_wp2_with fail
      refine (HP1.out _).mono ?_
      rintro e w3 ⟨rfl, rfl⟩
      dsimp only
      go_wp2
      clear c2 c3 c4
      go_loopw [3, 25] (fun v3 v25 wx => ∃ t : Nat, v25 = .int .i64 t ∧ t ≤ bids.length ∧ Hid (wx.ownsRow (w.heap.size + 1) 3 1 v3 (([] : List Int) ++ idsL (bids.take t)).length (celC intE (([] : List Int) ++ idsL (bids.take t))) ∧ BoxL w ⟨cl, nx, bids, asks, owed⟩ (.slice ba bids.length bc) (.slice aa asks.length ac) (.slice oa owed.length oc) wx)) (fun _ v _ => bids.length - (intOf v).toNat)
      case atStart => exact ⟨0, rfl, Nat.zero_le _, hideIt ⟨by rw [intC]; simpa [idsL, idsK] using HR.out.1, HR.out.2⟩⟩
      case round =>
        clear HR
        obtain ⟨t, rfl, ht, HR⟩ := hrel
        by_cases hlt : t < bids.length
        · have hltI : (t : Int) < (bids.length : Int) := by omega
          have ht0 : (0 : Int) ≤ (t : Int) := by omega
          have hw2 : IntKind.i64.wrap ((t : Int) + 1) = ((t + 1 : Nat) : Int) := by rw [IntKind.wrap_i64]; omega
          obtain ⟨b, off, rfl, hbl, q0, q1, q2, q3⟩ := HB.out t hlt
          have hBw := HR.out.2.bel
          have hblr : b < wr.heap.size := Nat.lt_of_lt_of_le hbl hBw.size
          have d0 := (hBw.cell (p := ⟨b, off + t * 4, none⟩) hbl).trans q0
          have d1 := (hBw.cell (p := ⟨b, off + t * 4 + 1, none⟩) hbl).trans q1
          have d2 := (hBw.cell (p := ⟨b, off + t * 4 + 2, none⟩) hbl).trans q2
          have d3 := (hBw.cell (p := ⟨b, off + t * 4 + 3, none⟩) hbl).trans q3
          have HI := hideIt (idsL_take bids t hlt)
          have hL : (idsL (bids.take t)).length ≤ 40 := by simp [idsL]; omega
          have hL2 : (([] : List Int)).length ≤ 40 := by simp [idsL]; try omega
          clear q0 q1 q2 q3 hBw
          generalize bids[t] = en at *
          obtain ⟨ei, ea, ep, el⟩ := en
          simp only at d0 d1 d2 d3 HI
          have hT := two_heap wr (.cells #[.int .i64 ei, .int .i64 ea, .int .i64 ep, .int .i64 el] 115) (.cells #[.int .i64 ei] 3)
          have hB2 := below2 wr (.cells #[.int .i64 ei, .int .i64 ea, .int .i64 ep, .int .i64 el] 115) (.cells #[.int .i64 ei] 3)
          obtain ⟨v', w', hrun, how, hgr⟩ := app1 (enc := intE) (k := 1) (bytes := 8) (t := 153) (e := 3) (fun _ => rfl) (fun x u hu => by simp only [intE, List.mem_cons, List.not_mem_nil, or_false] at hu; rw [hu]; rfl) Tryz.underlying153 info3 rfl (by omega) _ (w.heap.size + 1) _ (([] : List Int) ++ idsL (bids.take t)) ei (wr.heap.size + 1) 1 (Nat.le_trans HR.out.2.size hB2.size) (own_keep HR.out.1 hB2) hT.2.1 (by rw [List.length_append]; omega) (by rw [List.length_append]; unfold maxLen; omega)
          have HN : Hid (w'.ownsRow (w.heap.size + 1) 3 1 v' (([] : List Int) ++ idsL (bids.take (t + 1))).length (celC intE (([] : List Int) ++ idsL (bids.take (t + 1))))) := by
            show World.ownsRow _ _ _ _ _ _ _
            rw [HI.out, ← List.append_assoc]
            exact how
          have HX := hideIt ((HR.out.2.keep hB2).out (Out.ofGrown (F := fun k => w.heap.size + 1 ≤ k) hgr (fun k hk => ((own_keep HR.out.1 hB2).lt k hk).1)) (fun _ h => h))
          have HRUN := hideIt hrun
          clear hrun how hgr hT hB2 HR HI hL hL2
          go_wp2_with (at_builtin; refine Lib.wpList_append_run _ rfl _ _ _ _ rfl _ _ rfl rfl _ _ HRUN.out ?_)
          clear HRUN d0 d1 d2 d3
          go_wp2
          go_roundw
          case rel => exact ⟨t + 1, by go_num, by omega, hideIt ⟨HN.out, HX.out⟩⟩
          case measure => simp [intOf]; omega
        · have hltI : ¬ (t : Int) < (bids.length : Int) := by omega
          have het : bids.take t = bids := List.take_of_length_le (by omega)
          have HN : Hid (wr.ownsRow (w.heap.size + 1) 3 1 u3 (idsK bids asks 1).length ((idsK bids asks 1).map (Value.int .i64))) := by
            have := HR.out.1
            rw [het, intC] at this
            exact this
          have HX := hideIt HR.out.2
          clear HR het
          go_wp2
          go_roundw
          case rel => exact ⟨1, by go_num, by omega, hideIt ⟨HN.out, HX.out⟩⟩
          case measure => simp [intOf]
    · clear c0 c1
      go_wp2_with fail
      refine (HP2.out _).mono ?_
      rintro e w3 ⟨rfl, rfl⟩
      dsimp only
      go_wp2
      clear c2 c3 c4
      go_loopw [3, 25] (fun v3 v25 wx => ∃ t : Nat, v25 = .int .i64 t ∧ t ≤ asks.length ∧ Hid (wx.ownsRow (w.heap.size + 1) 3 1 v3 ((idsL bids) ++ idsL (asks.take t)).length (celC intE ((idsL bids) ++ idsL (asks.take t))) ∧ BoxL w ⟨cl, nx, bids, asks, owed⟩ (.slice ba bids.length bc) (.slice aa asks.length ac) (.slice oa owed.length oc) wx)) (fun _ v _ => asks.length - (intOf v).toNat)
      case atStart => exact ⟨0, rfl, Nat.zero_le _, hideIt ⟨by rw [intC]; simpa [idsL, idsK] using HR.out.1, HR.out.2⟩⟩
      case round =>
        clear HR
        obtain ⟨t, rfl, ht, HR⟩ := hrel
        by_cases hlt : t < asks.length
        · have hltI : (t : Int) < (asks.length : Int) := by omega
          have ht0 : (0 : Int) ≤ (t : Int) := by omega
          have hw2 : IntKind.i64.wrap ((t : Int) + 1) = ((t + 1 : Nat) : Int) := by rw [IntKind.wrap_i64]; omega
          obtain ⟨b, off, rfl, hbl, q0, q1, q2, q3⟩ := HA.out t hlt
          have hBw := HR.out.2.bel
          have hblr : b < wr.heap.size := Nat.lt_of_lt_of_le hbl hBw.size
          have d0 := (hBw.cell (p := ⟨b, off + t * 4, none⟩) hbl).trans q0
          have d1 := (hBw.cell (p := ⟨b, off + t * 4 + 1, none⟩) hbl).trans q1
          have d2 := (hBw.cell (p := ⟨b, off + t * 4 + 2, none⟩) hbl).trans q2
          have d3 := (hBw.cell (p := ⟨b, off + t * 4 + 3, none⟩) hbl).trans q3
          have HI := hideIt (idsL_take asks t hlt)
          have hL : (idsL (asks.take t)).length ≤ 40 := by simp [idsL]; omega
          have hL2 : ((idsL bids)).length ≤ 40 := by simp [idsL]; try omega
          clear q0 q1 q2 q3 hBw
          generalize asks[t] = en at *
          obtain ⟨ei, ea, ep, el⟩ := en
          simp only at d0 d1 d2 d3 HI
          have hT := two_heap wr (.cells #[.int .i64 ei, .int .i64 ea, .int .i64 ep, .int .i64 el] 115) (.cells #[.int .i64 ei] 3)
          have hB2 := below2 wr (.cells #[.int .i64 ei, .int .i64 ea, .int .i64 ep, .int .i64 el] 115) (.cells #[.int .i64 ei] 3)
          obtain ⟨v', w', hrun, how, hgr⟩ := app1 (enc := intE) (k := 1) (bytes := 8) (t := 153) (e := 3) (fun _ => rfl) (fun x u hu => by simp only [intE, List.mem_cons, List.not_mem_nil, or_false] at hu; rw [hu]; rfl) Tryz.underlying153 info3 rfl (by omega) _ (w.heap.size + 1) _ ((idsL bids) ++ idsL (asks.take t)) ei (wr.heap.size + 1) 1 (Nat.le_trans HR.out.2.size hB2.size) (own_keep HR.out.1 hB2) hT.2.1 (by rw [List.length_append]; omega) (by rw [List.length_append]; unfold maxLen; omega)
          have HN : Hid (w'.ownsRow (w.heap.size + 1) 3 1 v' ((idsL bids) ++ idsL (asks.take (t + 1))).length (celC intE ((idsL bids) ++ idsL (asks.take (t + 1))))) := by
            show World.ownsRow _ _ _ _ _ _ _
            rw [HI.out, ← List.append_assoc]
            exact how
          have HX := hideIt ((HR.out.2.keep hB2).out (Out.ofGrown (F := fun k => w.heap.size + 1 ≤ k) hgr (fun k hk => ((own_keep HR.out.1 hB2).lt k hk).1)) (fun _ h => h))
          have HRUN := hideIt hrun
          clear hrun how hgr hT hB2 HR HI hL hL2
          go_wp2_with (at_builtin; refine Lib.wpList_append_run _ rfl _ _ _ _ rfl _ _ rfl rfl _ _ HRUN.out ?_)
          clear HRUN d0 d1 d2 d3
          go_wp2
          go_roundw
          case rel => exact ⟨t + 1, by go_num, by omega, hideIt ⟨HN.out, HX.out⟩⟩
          case measure => simp [intOf]; omega
        · have hltI : ¬ (t : Int) < (asks.length : Int) := by omega
          have het : asks.take t = asks := List.take_of_length_le (by omega)
          have HN : Hid (wr.ownsRow (w.heap.size + 1) 3 1 u3 (idsK bids asks 2).length ((idsK bids asks 2).map (Value.int .i64))) := by
            have := HR.out.1
            rw [het, intC] at this
            exact this
          have HX := hideIt HR.out.2
          clear HR het
          go_wp2
          go_roundw
          case rel => exact ⟨2, by go_num, by omega, hideIt ⟨HN.out, HX.out⟩⟩
          case measure => simp [intOf]
    · have HO := hideIt HR.out.1
      have HX := hideIt HR.out.2.bel
      rw [show idsK bids asks (2 : Int).toNat = idsL bids ++ idsL asks from rfl] at HO
      have hlen : (idsL bids ++ idsL asks).length ≤ 80 := by simp [idsL]; omega
      clear HR c0 c1 c2 c3 c4 HP1 HP2 hix0 hix1 HB HA
      generalize idsL bids ++ idsL asks = m at *
      have HSo := hideIt (fun q cap wx hH hb => slices_Sort_int q 0 cap m wx hH hb (by omega))
      have HS0 := hideIt (fun a cap wx => slices_Sort_int_none a cap wx)
      have hsl := sortL_len m
      have HRO := hideIt (fun W v (hW : Ints W v (sortL m)) => inOrdI_is 95 #[] eg59 v (sortL m) ltB W hW cmp59)
      unfold sortL at hsl HRO HRR
      obtain ⟨_, ⟨hv, hm0⟩ | ⟨q, cap, cur, rfl, hB, hg, hnc, hcm, hs, ht⟩⟩ := HO.out
      · subst hv
        have hmn : m = [] := List.length_eq_zero_iff.1 hm0
        subst hmn
        rw [show (List.mergeSort ([] : List Int) fun x y => decide (x ≤ y)) = [] by simp] at HRO HRR
        clear HSo hsl HO
        go_wp2_with fail
        refine (HS0.out _ _ _).mono ?_
        rintro e w2 ⟨rfl, rfl⟩
        dsimp only
        go_wp2_with fail
        refine (HRO.out _ _ (SGot.nil 1 8 _ _ none 0 (Nat.zero_le _))).mono ?_
        rintro e w3 ⟨rfl, hb⟩
        dsimp only
        have HC := hideIt (below_via HX.out hb)
        clear hb
        go_wp2
        go_ret
        exact ⟨by rw [HRR.out]; rfl, HC.out⟩
      · have hql := (Array.getElem?_eq_some_iff.1 hg).1
        rw [Nat.mul_one] at ht
        have HH := hideIt (holds_of_blockI hg ht)
        go_wp2_with fail
        refine (HSo.out q cap wr HH.out hql).mono ?_
        rintro e w2 ⟨rfl, N, os, rfl⟩
        dsimp only
        have ow := ownsRow_sortedI (base := w.heap.size + 1) (n := N) (os := os) (ss := m) (ts := m.mergeSort fun x y => decide (x ≤ y)) hsl hB hg hnc hcm hs
        have hbb : Below w.heap.size w (Sort.grow (Sort.putRow (Value.int .i64) (Sort.ahead wr N) q 0 (m.mergeSort fun x y => decide (x ≤ y)).toArray) os) := below_out HX.out (Out.ofGrown (F := fun k => k = q) (grownBy_sortedI _) (fun k e => by simpa using e.symm)) (fun k e => by omega)
        have OW : Hid (Ints (Sort.grow (Sort.putRow (Value.int .i64) (Sort.ahead wr N) q 0 (m.mergeSort fun x y => decide (x ≤ y)).toArray) os) (.slice (some ⟨q, 0, none⟩) m.length cap) (m.mergeSort fun x y => decide (x ≤ y))) := by
          refine own_sgot (B := w.heap.size + 1) (e := 3) ?_ (by rw [hsl]; omega)
          rw [show celC (fun x : Int => [Value.int .i64 x]) (m.mergeSort fun x y => decide (x ≤ y)) = (m.mergeSort fun x y => decide (x ≤ y)).map (Value.int .i64) from intC _, hsl]
          exact ow
        have HBB := hideIt hbb
        clear ow hbb HH HSo HS0 HX HO ht hs hg hB hsl hql
        generalize Sort.grow (Sort.putRow (Value.int .i64) (Sort.ahead wr N) q 0 (m.mergeSort fun x y => decide (x ≤ y)).toArray) os = w2 at *
        generalize (m.mergeSort fun x y => decide (x ≤ y)) = sm at *
        go_wp2_with fail
        refine (HRO.out _ _ OW.out).mono ?_
        rintro e w3 ⟨rfl, hb⟩
        dsimp only
        have HC := hideIt (below_via HBB.out hb)
        clear hb
        go_wp2
        go_ret
        exact ⟨by rw [HRR.out]; rfl, HC.out⟩
end Go.Proofs.YtiinigifjdpicaaGreatDoor
