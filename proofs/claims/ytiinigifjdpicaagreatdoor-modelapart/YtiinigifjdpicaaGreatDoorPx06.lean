/- Texts of my own, laid together. -/
import Derived.Test.YtiinigifjdpicaaGreatDoorPx01
import Derived.Test.YtiinigifjdpicaaGreatDoorPx05
import Derived.Sort.OwnSortedInts
import Derived.Test.YtiinigifjdpicaaGreatDoorPx03
import Derived.Lib.SliceRun
namespace Go.Proofs.YtiinigifjdpicaaGreatDoor
open Go.RowKit
set_option linter.all false
def sortL (m : List Int) : List Int := m.mergeSort fun x y => decide (x ≤ y)
theorem sortL_len (m : List Int) : (sortL m).length = m.length := List.length_mergeSort m
def ltB (a b : Int) : Bool := decide (a < b)
def unlB (L : LaneV) : Bool := srtB ltB (sortL (idsL L.bids ++ idsL L.asks))
theorem cmp59 {w : World} : CmpB 95 #[] intU ltB w := fun W x y hW => (less_is x y W).mono (fun _ _ h => ⟨h.1, h.2 ▸ hW⟩)
structure BoxL (w : World) (L : LaneV) (b a o : Value) (wx : World) : Prop where
 box : wx.heap[w.heap.size]? = some (.cells (laneA L b a o) 59 (0, 0))
 bel : Below w.heap.size w wx
 size : w.heap.size + 1 ≤ wx.heap.size
theorem BoxL.first (w : World) (L : LaneV) (b a o : Value) : BoxL w L b a o (w.alloc (.cells (laneA L b a o) 59)) := ⟨heap_alloc_new w _, below1 w _, by simp⟩
theorem BoxL.keep {w wx wy : World} {L : LaneV} {b a o : Value} (h : BoxL w L b a o wx) (hb : Below wx.heap.size wx wy) : BoxL w L b a o wy :=
 ⟨(hb.block _ (by have := h.size; omega)).trans h.box, below_via h.bel hb, Nat.le_trans h.size hb.size⟩
theorem BoxL.out {w wx wy : World} {F : Nat → Prop} {L : LaneV} {b a o : Value} (h : BoxL w L b a o wx) (ho : Out F wx wy) (hF : ∀ k, F k → w.heap.size + 1 ≤ k) : BoxL w L b a o wy :=
 ⟨(ho.block _ (by have := h.size; omega) (fun e => by have := hF _ e; omega)).trans h.box, below_out h.bel ho (fun k e => by have := hF k e; omega), Nat.le_trans h.size ho.size⟩
theorem BoxL.cells {w wx : World} {L : LaneV} {b a o : Value} (h : BoxL w L b a o wx) : wx.cell? ⟨w.heap.size, 0, none⟩ = some (.bool L.call) ∧ wx.cell? ⟨w.heap.size, 1, none⟩ = some (.int .i64 L.next) ∧ wx.cell? ⟨w.heap.size, 2, none⟩ = some b ∧ wx.cell? ⟨w.heap.size, 3, none⟩ = some a ∧ wx.cell? ⟨w.heap.size, 4, none⟩ = some o :=
 ⟨by rw [cell_at h.box]; rfl, by rw [cell_at h.box]; rfl, by rw [cell_at h.box]; rfl, by rw [cell_at h.box]; rfl, by rw [cell_at h.box]; rfl⟩
theorem idsL_take (l : List OrdV) (t : Nat) (h : t < l.length) : idsL (l.take (t + 1)) = idsL (l.take t) ++ [l[t].id] := by
 unfold idsL;rw [List.take_succ_eq_append_getElem h, List.map_append]
 rfl
theorem idx0 (W : World) : (Instr.index 110 (.agg #[.int .i64 1, .int .i64 2]) (.int .i64 0)).run Tryz.prog W = .ok (.int .i64 1) W := by
 simp [Instr.index, run_underlying Tryz.underlying110, go_sem, asAgg]
theorem idx1 (W : World) : (Instr.index 110 (.agg #[.int .i64 1, .int .i64 2]) (.int .i64 1)).run Tryz.prog W = .ok (.int .i64 2) W := by
 simp [Instr.index, run_underlying Tryz.underlying110, go_sem, asAgg]
def idsK (b a : List OrdV) : Nat → List Int
 | 0 => []
 | 1 => [] ++ idsL b
 | _ => idsL b ++ idsL a
set_option maxHeartbeats 8000000 in
set_option maxRecDepth 100000 in
theorem areUnlike_is (L : LaneV) (b a o : Value) (w : World) (h : Lan w L b a o) (hb4 : L.bids.length ≤ 40) (ha4 : L.asks.length ≤ 40) : Calls Tryz.prog 67 #[laneV L b a o] w fun e w' => e = .returned (.bool (unlB L)) ∧ Below w.heap.size w w' := by
 have X0 := hideIt (BoxL.first w L b a o);have HBS := hideIt (fun W => bothSides_is W);have HP1 := hideIt (fun W => sideOf_is w.heap.size 1 W);have HP2 := hideIt (fun W => sideOf_is w.heap.size 2 W);rw [show sideOff 1 = 2 from rfl] at HP1;rw [show sideOff 2 = 3 from rfl] at HP2;obtain ⟨ba, bc, rfl, b8, hb⟩ := h.bids.ords;obtain ⟨aa, ac, rfl, a8, ha⟩ := h.asks.ords;obtain ⟨oa, oc, rfl⟩ := h.owed.slice;have HB := hideIt hb;have HA := hideIt ha;unfold laneV laneA unlB at *;obtain ⟨cl, nx, bids, asks, owed⟩ := L;simp only at *;clear h hb ha;obtain ⟨nn, hnn⟩ : ∃ nn : Nat, nn = bids.length + asks.length := ⟨_, rfl⟩;have hw : IntKind.i64.wrap ((bids.length : Int) + (asks.length : Int)) = (nn : Int) := by rw [IntKind.wrap_i64]; omega
 have HNN := hideIt hnn;clear hnn;obtain ⟨c0, c1, c2, c3, c4⟩ := X0.out.cells;simp only at c0 c1 c2 c3 c4;have hix0 := idx0;have hix1 := idx1;obtain ⟨R, hR⟩ : ∃ R, R = srtB ltB (sortL (idsL bids ++ idsL asks)) := ⟨_, rfl⟩;rw [← hR];have HRR := hideIt hR;clear hR
 go_enter Tryz.func67, Tryz.ntmps67
 obtain ⟨i, hi, hz0, hz1, hz2⟩ := info_parts info3;have XS := hideIt X0.out.size
 go_wp2_with (at_make; go_loud (refine wpList_make_own _ rfl _ _ 153 rfl (w.heap.size + 1) 3 i _ 1 Tryz.underlying153 hi hz0 hz1 _ _ _ nn rfl rfl rfl (by rw [hz2]; have := HNN.out; omega) (by have := HNN.out; unfold maxLen; omega) (by rw [World.size_alloc]; exact Nat.le_refl _) ?_))
 intro w1 ho hg;have X1 := hideIt (X0.out.keep (grown_none hg));have O1 := hideIt ho;clear hg ho X0 c0 c1 c2 c3 c4 hw XS
 go_wp2_with fail
 refine (HBS.out _).mono ?_;rintro e w2 ⟨rfl, hb⟩;dsimp only;have X2 := hideIt (X1.out.keep hb);have O2 := hideIt (own_keep O1.out hb);clear hb X1 O1 HBS
 try rw [World.size_alloc] at O2
 go_wp2
 go_loopw [3, 17] (fun v3 v17 wr => ∃ k : Int, v17 = .int .i64 k ∧ (k = 0 ∨ k = 1 ∨ k = 2) ∧ Hid (wr.ownsRow (w.heap.size + 1) 3 1 v3 (idsK bids asks k.toNat).length ((idsK bids asks k.toNat).map (Value.int .i64)) ∧ BoxL w ⟨cl, nx, bids, asks, owed⟩ (.slice ba bids.length bc) (.slice aa asks.length ac) (.slice oa owed.length oc) wr)) (fun _ v _ => 2 - (intOf v).toNat)
 case atStart => exact ⟨0, rfl, .inl rfl, hideIt ⟨O2.out, X2.out⟩⟩
 case round =>
  clear O2 X2;obtain ⟨k, rfl, hk2, HR⟩ := hrel;obtain ⟨c0, c1, c2, c3, c4⟩ := HR.out.2.cells;simp only at c0 c1 c2 c3 c4
  rcases hk2 with rfl | rfl | rfl
  ·clear c0 c1
   go_wp2_with fail
   refine (HP1.out _).mono ?_;rintro e w3 ⟨rfl, rfl⟩;dsimp only;go_wp2;clear c2 c3 c4
   go_loopw [3, 25] (fun v3 v25 wx => ∃ t : Nat, v25 = .int .i64 t ∧ t ≤ bids.length ∧ Hid (wx.ownsRow (w.heap.size + 1) 3 1 v3 (([] : List Int) ++ idsL (bids.take t)).length (celC intE (([] : List Int) ++ idsL (bids.take t))) ∧ BoxL w ⟨cl, nx, bids, asks, owed⟩ (.slice ba bids.length bc) (.slice aa asks.length ac) (.slice oa owed.length oc) wx)) (fun _ v _ => bids.length - (intOf v).toNat)
   case atStart => exact ⟨0, rfl, Nat.zero_le _, hideIt ⟨by rw [intC]; simpa [idsL, idsK] using HR.out.1, HR.out.2⟩⟩
   case round =>
    clear HR;obtain ⟨t, rfl, ht, HR⟩ := hrel
    by_cases hlt : t < bids.length
    ·have hltI : (t : Int) < (bids.length : Int) := by omega
     have ht0 : (0 : Int) ≤ (t : Int) := by omega
     have hw2 : IntKind.i64.wrap ((t : Int) + 1) = ((t + 1 : Nat) : Int) := by rw [IntKind.wrap_i64]; omega
     obtain ⟨b, off, rfl, hbl, q0, q1, q2, q3⟩ := HB.out t hlt;have hBw := HR.out.2.bel;have hblr : b < wr.heap.size := Nat.lt_of_lt_of_le hbl hBw.size;have d0 := (hBw.cell (p := ⟨b, off + t * 4, none⟩) hbl).trans q0;have d1 := (hBw.cell (p := ⟨b, off + t * 4 + 1, none⟩) hbl).trans q1;have d2 := (hBw.cell (p := ⟨b, off + t * 4 + 2, none⟩) hbl).trans q2;have d3 := (hBw.cell (p := ⟨b, off + t * 4 + 3, none⟩) hbl).trans q3;have HI := hideIt (idsL_take bids t hlt);have hL : (idsL (bids.take t)).length ≤ 40 := by simp [idsL]; omega
     have hL2 : (([] : List Int)).length ≤ 40 := by simp [idsL]; try omega
     clear q0 q1 q2 q3 hBw;generalize bids[t] = en at *;obtain ⟨ei, ea, ep, el⟩ := en;simp only at d0 d1 d2 d3 HI;have hT := two_heap wr (.cells #[.int .i64 ei, .int .i64 ea, .int .i64 ep, .int .i64 el] 115) (.cells #[.int .i64 ei] 3);have hB2 := below2 wr (.cells #[.int .i64 ei, .int .i64 ea, .int .i64 ep, .int .i64 el] 115) (.cells #[.int .i64 ei] 3);obtain ⟨v', w', hrun, how, hgr⟩ := app1 (enc := intE) (k := 1) (bytes := 8) (t := 153) (e := 3) (fun _ => rfl) (fun x u hu => by simp only [intE, List.mem_cons, List.not_mem_nil, or_false] at hu; rw [hu]; rfl) Tryz.underlying153 info3 rfl (by omega) _ (w.heap.size + 1) _ (([] : List Int) ++ idsL (bids.take t)) ei (wr.heap.size + 1) 1 (Nat.le_trans HR.out.2.size hB2.size) (own_keep HR.out.1 hB2) hT.2.1 (by rw [List.length_append]; omega) (by rw [List.length_append]; unfold maxLen; omega)
     have HN : Hid (w'.ownsRow (w.heap.size + 1) 3 1 v' (([] : List Int) ++ idsL (bids.take (t + 1))).length (celC intE (([] : List Int) ++ idsL (bids.take (t + 1))))) := by
      show World.ownsRow _ _ _ _ _ _ _
      rw [HI.out, ← List.append_assoc];exact how
     have HX := hideIt ((HR.out.2.keep hB2).out (Out.ofGrown (F := fun k => w.heap.size + 1 ≤ k) hgr (fun k hk => ((own_keep HR.out.1 hB2).lt k hk).1)) (fun _ h => h));have HRUN := hideIt hrun;clear hrun how hgr hT hB2 HR HI hL hL2
     go_wp2_with (at_builtin; refine Lib.wpList_append_run _ rfl _ _ _ _ rfl _ _ rfl rfl _ _ HRUN.out ?_)
     clear HRUN d0 d1 d2 d3;go_wp2
     go_roundw
     case rel => exact ⟨t + 1, by go_num, by omega, hideIt ⟨HN.out, HX.out⟩⟩
     case measure => simp [intOf]; omega
    ·have hltI : ¬ (t : Int) < (bids.length : Int) := by omega
     have het : bids.take t = bids := List.take_of_length_le (by omega);have HN : Hid (wr.ownsRow (w.heap.size + 1) 3 1 u3 (idsK bids asks 1).length ((idsK bids asks 1).map (Value.int .i64))) := by
      have := HR.out.1;rw [het, intC] at this;exact this
     have HX := hideIt HR.out.2;clear HR het;go_wp2
     go_roundw
     case rel => exact ⟨1, by go_num, by omega, hideIt ⟨HN.out, HX.out⟩⟩
     case measure => simp [intOf]
  ·clear c0 c1
   go_wp2_with fail
   refine (HP2.out _).mono ?_;rintro e w3 ⟨rfl, rfl⟩;dsimp only;go_wp2;clear c2 c3 c4
   go_loopw [3, 25] (fun v3 v25 wx => ∃ t : Nat, v25 = .int .i64 t ∧ t ≤ asks.length ∧ Hid (wx.ownsRow (w.heap.size + 1) 3 1 v3 ((idsL bids) ++ idsL (asks.take t)).length (celC intE ((idsL bids) ++ idsL (asks.take t))) ∧ BoxL w ⟨cl, nx, bids, asks, owed⟩ (.slice ba bids.length bc) (.slice aa asks.length ac) (.slice oa owed.length oc) wx)) (fun _ v _ => asks.length - (intOf v).toNat)
   case atStart => exact ⟨0, rfl, Nat.zero_le _, hideIt ⟨by rw [intC]; simpa [idsL, idsK] using HR.out.1, HR.out.2⟩⟩
   case round =>
    clear HR;obtain ⟨t, rfl, ht, HR⟩ := hrel
    by_cases hlt : t < asks.length
    ·have hltI : (t : Int) < (asks.length : Int) := by omega
     have ht0 : (0 : Int) ≤ (t : Int) := by omega
     have hw2 : IntKind.i64.wrap ((t : Int) + 1) = ((t + 1 : Nat) : Int) := by rw [IntKind.wrap_i64]; omega
     obtain ⟨b, off, rfl, hbl, q0, q1, q2, q3⟩ := HA.out t hlt;have hBw := HR.out.2.bel;have hblr : b < wr.heap.size := Nat.lt_of_lt_of_le hbl hBw.size;have d0 := (hBw.cell (p := ⟨b, off + t * 4, none⟩) hbl).trans q0;have d1 := (hBw.cell (p := ⟨b, off + t * 4 + 1, none⟩) hbl).trans q1;have d2 := (hBw.cell (p := ⟨b, off + t * 4 + 2, none⟩) hbl).trans q2;have d3 := (hBw.cell (p := ⟨b, off + t * 4 + 3, none⟩) hbl).trans q3;have HI := hideIt (idsL_take asks t hlt);have hL : (idsL (asks.take t)).length ≤ 40 := by simp [idsL]; omega
     have hL2 : ((idsL bids)).length ≤ 40 := by simp [idsL]; try omega
     clear q0 q1 q2 q3 hBw;generalize asks[t] = en at *;obtain ⟨ei, ea, ep, el⟩ := en;simp only at d0 d1 d2 d3 HI;have hT := two_heap wr (.cells #[.int .i64 ei, .int .i64 ea, .int .i64 ep, .int .i64 el] 115) (.cells #[.int .i64 ei] 3);have hB2 := below2 wr (.cells #[.int .i64 ei, .int .i64 ea, .int .i64 ep, .int .i64 el] 115) (.cells #[.int .i64 ei] 3);obtain ⟨v', w', hrun, how, hgr⟩ := app1 (enc := intE) (k := 1) (bytes := 8) (t := 153) (e := 3) (fun _ => rfl) (fun x u hu => by simp only [intE, List.mem_cons, List.not_mem_nil, or_false] at hu; rw [hu]; rfl) Tryz.underlying153 info3 rfl (by omega) _ (w.heap.size + 1) _ ((idsL bids) ++ idsL (asks.take t)) ei (wr.heap.size + 1) 1 (Nat.le_trans HR.out.2.size hB2.size) (own_keep HR.out.1 hB2) hT.2.1 (by rw [List.length_append]; omega) (by rw [List.length_append]; unfold maxLen; omega)
     have HN : Hid (w'.ownsRow (w.heap.size + 1) 3 1 v' ((idsL bids) ++ idsL (asks.take (t + 1))).length (celC intE ((idsL bids) ++ idsL (asks.take (t + 1))))) := by
      show World.ownsRow _ _ _ _ _ _ _
      rw [HI.out, ← List.append_assoc];exact how
     have HX := hideIt ((HR.out.2.keep hB2).out (Out.ofGrown (F := fun k => w.heap.size + 1 ≤ k) hgr (fun k hk => ((own_keep HR.out.1 hB2).lt k hk).1)) (fun _ h => h));have HRUN := hideIt hrun;clear hrun how hgr hT hB2 HR HI hL hL2
     go_wp2_with (at_builtin; refine Lib.wpList_append_run _ rfl _ _ _ _ rfl _ _ rfl rfl _ _ HRUN.out ?_)
     clear HRUN d0 d1 d2 d3;go_wp2
     go_roundw
     case rel => exact ⟨t + 1, by go_num, by omega, hideIt ⟨HN.out, HX.out⟩⟩
     case measure => simp [intOf]; omega
    ·have hltI : ¬ (t : Int) < (asks.length : Int) := by omega
     have het : asks.take t = asks := List.take_of_length_le (by omega);have HN : Hid (wr.ownsRow (w.heap.size + 1) 3 1 u3 (idsK bids asks 2).length ((idsK bids asks 2).map (Value.int .i64))) := by
      have := HR.out.1;rw [het, intC] at this;exact this
     have HX := hideIt HR.out.2;clear HR het;go_wp2
     go_roundw
     case rel => exact ⟨2, by go_num, by omega, hideIt ⟨HN.out, HX.out⟩⟩
     case measure => simp [intOf]
  ·have HO := hideIt HR.out.1;have HX := hideIt HR.out.2.bel;rw [show idsK bids asks (2 : Int).toNat = idsL bids ++ idsL asks from rfl] at HO;have hlen : (idsL bids ++ idsL asks).length ≤ 80 := by simp [idsL]; omega
   clear HR c0 c1 c2 c3 c4 HP1 HP2 hix0 hix1 HB HA;generalize idsL bids ++ idsL asks = m at *;have HSo := hideIt (fun q cap wx hH hb => slices_Sort_int q 0 cap m wx hH hb (by omega));have HS0 := hideIt (fun a cap wx => slices_Sort_int_none a cap wx);have hsl := sortL_len m;have HRO := hideIt (fun W v (hW : Ints W v (sortL m)) => inOrdI_is 95 #[] eg59 v (sortL m) ltB W hW cmp59);unfold sortL at hsl HRO HRR;obtain ⟨_, ⟨hv, hm0⟩ | ⟨q, cap, cur, rfl, hB, hg, hnc, hcm, hs, ht⟩⟩ := HO.out
   ·subst hv;have hmn : m = [] := List.length_eq_zero_iff.1 hm0;subst hmn;rw [show (List.mergeSort ([] : List Int) fun x y => decide (x ≤ y)) = [] by simp] at HRO HRR;clear HSo hsl HO
    go_wp2_with fail
    refine (HS0.out _ _ _).mono ?_;rintro e w2 ⟨rfl, rfl⟩;dsimp only
    go_wp2_with fail
    refine (HRO.out _ _ (SGot.nil 1 8 _ _ none 0 (Nat.zero_le _))).mono ?_;rintro e w3 ⟨rfl, hb⟩;dsimp only;have HC := hideIt (below_via HX.out hb);clear hb;go_wp2;go_ret
    exact ⟨by rw [HRR.out]; rfl, HC.out⟩
   ·have hql := (Array.getElem?_eq_some_iff.1 hg).1;rw [Nat.mul_one] at ht;have HH := hideIt (holds_of_blockI hg ht)
    go_wp2_with fail
    refine (HSo.out q cap wr HH.out hql).mono ?_;rintro e w2 ⟨rfl, N, os, rfl⟩;dsimp only;have ow := ownsRow_sortedI (base := w.heap.size + 1) (n := N) (os := os) (ss := m) (ts := m.mergeSort fun x y => decide (x ≤ y)) hsl hB hg hnc hcm hs;have hbb : Below w.heap.size w (Sort.grow (Sort.putRow (Value.int .i64) (Sort.ahead wr N) q 0 (m.mergeSort fun x y => decide (x ≤ y)).toArray) os) := below_out HX.out (Out.ofGrown (F := fun k => k = q) (grownBy_sortedI _) (fun k e => by simpa using e.symm)) (fun k e => by omega);have OW : Hid (Ints (Sort.grow (Sort.putRow (Value.int .i64) (Sort.ahead wr N) q 0 (m.mergeSort fun x y => decide (x ≤ y)).toArray) os) (.slice (some ⟨q, 0, none⟩) m.length cap) (m.mergeSort fun x y => decide (x ≤ y))) := by
     refine own_sgot (B := w.heap.size + 1) (e := 3) ?_ (by rw [hsl]; omega)
     rw [show celC (fun x : Int => [Value.int .i64 x]) (m.mergeSort fun x y => decide (x ≤ y)) = (m.mergeSort fun x y => decide (x ≤ y)).map (Value.int .i64) from intC _, hsl];exact ow
    have HBB := hideIt hbb;clear ow hbb HH HSo HS0 HX HO ht hs hg hB hsl hql;generalize Sort.grow (Sort.putRow (Value.int .i64) (Sort.ahead wr N) q 0 (m.mergeSort fun x y => decide (x ≤ y)).toArray) os = w2 at *;generalize (m.mergeSort fun x y => decide (x ≤ y)) = sm at *
    go_wp2_with fail
    refine (HRO.out _ _ OW.out).mono ?_;rintro e w3 ⟨rfl, hb⟩;dsimp only;have HC := hideIt (below_via HBB.out hb);clear hb;go_wp2;go_ret
    exact ⟨by rw [HRR.out]; rfl, HC.out⟩
def chkB (L : LaneV) : Bool := wiB L.next 1 1000001 && (sideB 1 L.next L.bids && (sideB 2 L.next L.asks && (unlB L && ((L.call || !crossB L) && owedB L.owed))))
def chkI (L : LaneV) : Int := if chkB L then 0 else 130
theorem side_len {s nx : Int} {l : List OrdV} (h : sideB s nx l = true) : l.length ≤ 40 := by
 unfold sideB at h;simp only [Bool.and_eq_true, decide_eq_true_eq] at h;exact h.1
set_option maxHeartbeats 16000000 in
set_option maxRecDepth 100000 in
theorem check_is (L : LaneV) (b a o : Value) (w : World) (h : Lan w L b a o) : Calls Tryz.prog 41 #[laneV L b a o] w fun e w' => e = .returned (.int .i64 (chkI L)) ∧ Below w.heap.size w w' := by
 have X0 := hideIt (BoxL.first w L b a o);have H1 := hideIt (fun W => within_is L.next 1 1000001 W);have H2 := hideIt (fun hn W (hW : Below w.heap.size w W) => areBids_is L b a o W hn (h.keep hW));have H3 := hideIt (fun hn W (hW : Below w.heap.size w W) => areAsks_is L b a o W hn (h.keep hW));have H4 := hideIt (fun h1 h2 W (hW : Below w.heap.size w W) => areUnlike_is L b a o W (h.keep hW) h1 h2);have H5 := hideIt (fun W (hW : Below w.heap.size w W) => isCrossed_is L b a o W (h.keep hW));have H6 := hideIt (fun W (hW : Below w.heap.size w W) => areOwed_is o L.owed W (h.keep hW).owed);have hL2 := fun h => side_len (s := 1) (nx := L.next) (l := L.bids) h
 have hL3 := fun h => side_len (s := 2) (nx := L.next) (l := L.asks) h
 unfold chkI chkB;obtain ⟨ba, bc, rfl⟩ := h.bids.slice;obtain ⟨aa, ac, rfl⟩ := h.asks.slice;obtain ⟨oa, oc, rfl⟩ := h.owed.slice;clear h;generalize sideB 1 L.next L.bids = r2 at *;generalize sideB 2 L.next L.asks = r3 at *;generalize unlB L = r4 at *;generalize crossB L = r5 at *;generalize owedB L.owed = r6 at *;unfold laneV laneA at *;obtain ⟨cl, nx, bids, asks, owed⟩ := L;simp only at *;obtain ⟨c0, c1, c2, c3, c4⟩ := X0.out.cells;simp only at c0 c1 c2 c3 c4;cases h1 : wiB nx 1 1000001
 ·rw [h1] at H1;clear H2 H3 H4 H5 H6 hL2 hL3
  go_enter Tryz.func41, Tryz.ntmps41
  go_wp2_with fail
  refine (H1.out _).mono ?_;rintro e w1 ⟨rfl, rfl⟩;dsimp only;go_wp2;go_ret
  exact ⟨by rfl, X0.out.bel⟩
 ·rw [h1] at H1;have hn : 1 ≤ nx ∧ nx ≤ 1000001 := of_decide_eq_true h1;replace H2 := hideIt (H2.out hn);replace H3 := hideIt (H3.out hn);clear hn;cases r2
  ·clear H3 H4 H5 H6 hL2 hL3
   go_enter Tryz.func41, Tryz.ntmps41
   go_wp2_with fail
   refine (H1.out _).mono ?_;rintro e w1 ⟨rfl, rfl⟩;dsimp only
   go_wp2_with fail
   refine (H2.out _ X0.out.bel).mono ?_;rintro e w2 ⟨rfl, hb⟩;dsimp only;have X2 := hideIt (X0.out.keep hb);clear hb H2 X0 c0 c1 c2 c3 c4;obtain ⟨c0, c1, c2, c3, c4⟩ := X2.out.cells;simp only at c0 c1 c2 c3 c4;go_wp2;go_ret
   exact ⟨by rfl, X2.out.bel⟩
  ·cases r3
   ·clear H4 H5 H6 hL2 hL3
    go_enter Tryz.func41, Tryz.ntmps41
    go_wp2_with fail
    refine (H1.out _).mono ?_;rintro e w1 ⟨rfl, rfl⟩;dsimp only
    go_wp2_with fail
    refine (H2.out _ X0.out.bel).mono ?_;rintro e w2 ⟨rfl, hb⟩;dsimp only;have X2 := hideIt (X0.out.keep hb);clear hb H2 X0 c0 c1 c2 c3 c4;obtain ⟨c0, c1, c2, c3, c4⟩ := X2.out.cells;simp only at c0 c1 c2 c3 c4
    go_wp2_with fail
    refine (H3.out _ X2.out.bel).mono ?_;rintro e w3 ⟨rfl, hb⟩;dsimp only;have X3 := hideIt (X2.out.keep hb);clear hb H3 X2 c0 c1 c2 c3 c4;obtain ⟨c0, c1, c2, c3, c4⟩ := X3.out.cells;simp only at c0 c1 c2 c3 c4;go_wp2;go_ret
    exact ⟨by rfl, X3.out.bel⟩
   ·replace H4 := hideIt (H4.out (hL2 rfl) (hL3 rfl));clear hL2 hL3;cases r4
    ·clear H5 H6
     go_enter Tryz.func41, Tryz.ntmps41
     go_wp2_with fail
     refine (H1.out _).mono ?_;rintro e w1 ⟨rfl, rfl⟩;dsimp only
     go_wp2_with fail
     refine (H2.out _ X0.out.bel).mono ?_;rintro e w2 ⟨rfl, hb⟩;dsimp only;have X2 := hideIt (X0.out.keep hb);clear hb H2 X0 c0 c1 c2 c3 c4;obtain ⟨c0, c1, c2, c3, c4⟩ := X2.out.cells;simp only at c0 c1 c2 c3 c4
     go_wp2_with fail
     refine (H3.out _ X2.out.bel).mono ?_;rintro e w3 ⟨rfl, hb⟩;dsimp only;have X3 := hideIt (X2.out.keep hb);clear hb H3 X2 c0 c1 c2 c3 c4;obtain ⟨c0, c1, c2, c3, c4⟩ := X3.out.cells;simp only at c0 c1 c2 c3 c4
     go_wp2_with fail
     refine (H4.out _ X3.out.bel).mono ?_;rintro e w4 ⟨rfl, hb⟩;dsimp only;have X4 := hideIt (X3.out.keep hb);clear hb H4 X3 c0 c1 c2 c3 c4;obtain ⟨c0, c1, c2, c3, c4⟩ := X4.out.cells;simp only at c0 c1 c2 c3 c4;go_wp2;go_ret
     exact ⟨by rfl, X4.out.bel⟩
    ·cases cl
     ·cases r5
      ·cases r6
       ·go_enter Tryz.func41, Tryz.ntmps41
        go_wp2_with fail
        refine (H1.out _).mono ?_;rintro e w1 ⟨rfl, rfl⟩;dsimp only
        go_wp2_with fail
        refine (H2.out _ X0.out.bel).mono ?_;rintro e w2 ⟨rfl, hb⟩;dsimp only;have X2 := hideIt (X0.out.keep hb);clear hb H2 X0 c0 c1 c2 c3 c4;obtain ⟨c0, c1, c2, c3, c4⟩ := X2.out.cells;simp only at c0 c1 c2 c3 c4
        go_wp2_with fail
        refine (H3.out _ X2.out.bel).mono ?_;rintro e w3 ⟨rfl, hb⟩;dsimp only;have X3 := hideIt (X2.out.keep hb);clear hb H3 X2 c0 c1 c2 c3 c4;obtain ⟨c0, c1, c2, c3, c4⟩ := X3.out.cells;simp only at c0 c1 c2 c3 c4
        go_wp2_with fail
        refine (H4.out _ X3.out.bel).mono ?_;rintro e w4 ⟨rfl, hb⟩;dsimp only;have X4 := hideIt (X3.out.keep hb);clear hb H4 X3 c0 c1 c2 c3 c4;obtain ⟨c0, c1, c2, c3, c4⟩ := X4.out.cells;simp only at c0 c1 c2 c3 c4
        go_wp2_with fail
        refine (H5.out _ X4.out.bel).mono ?_;rintro e w5 ⟨rfl, hb⟩;dsimp only;have X5 := hideIt (X4.out.keep hb);clear hb H5 X4 c0 c1 c2 c3 c4;obtain ⟨c0, c1, c2, c3, c4⟩ := X5.out.cells;simp only at c0 c1 c2 c3 c4
        go_wp2_with fail
        refine (H6.out _ X5.out.bel).mono ?_;rintro e w6 ⟨rfl, hb⟩;dsimp only;have X6 := hideIt (X5.out.keep hb);clear hb H6 X5 c0 c1 c2 c3 c4;obtain ⟨c0, c1, c2, c3, c4⟩ := X6.out.cells;simp only at c0 c1 c2 c3 c4;go_wp2;go_ret
        exact ⟨by rfl, X6.out.bel⟩
       ·go_enter Tryz.func41, Tryz.ntmps41
        go_wp2_with fail
        refine (H1.out _).mono ?_;rintro e w1 ⟨rfl, rfl⟩;dsimp only
        go_wp2_with fail
        refine (H2.out _ X0.out.bel).mono ?_;rintro e w2 ⟨rfl, hb⟩;dsimp only;have X2 := hideIt (X0.out.keep hb);clear hb H2 X0 c0 c1 c2 c3 c4;obtain ⟨c0, c1, c2, c3, c4⟩ := X2.out.cells;simp only at c0 c1 c2 c3 c4
        go_wp2_with fail
        refine (H3.out _ X2.out.bel).mono ?_;rintro e w3 ⟨rfl, hb⟩;dsimp only;have X3 := hideIt (X2.out.keep hb);clear hb H3 X2 c0 c1 c2 c3 c4;obtain ⟨c0, c1, c2, c3, c4⟩ := X3.out.cells;simp only at c0 c1 c2 c3 c4
        go_wp2_with fail
        refine (H4.out _ X3.out.bel).mono ?_;rintro e w4 ⟨rfl, hb⟩;dsimp only;have X4 := hideIt (X3.out.keep hb);clear hb H4 X3 c0 c1 c2 c3 c4;obtain ⟨c0, c1, c2, c3, c4⟩ := X4.out.cells;simp only at c0 c1 c2 c3 c4
        go_wp2_with fail
        refine (H5.out _ X4.out.bel).mono ?_;rintro e w5 ⟨rfl, hb⟩;dsimp only;have X5 := hideIt (X4.out.keep hb);clear hb H5 X4 c0 c1 c2 c3 c4;obtain ⟨c0, c1, c2, c3, c4⟩ := X5.out.cells;simp only at c0 c1 c2 c3 c4
        go_wp2_with fail
        refine (H6.out _ X5.out.bel).mono ?_;rintro e w6 ⟨rfl, hb⟩;dsimp only;have X6 := hideIt (X5.out.keep hb);clear hb H6 X5 c0 c1 c2 c3 c4;obtain ⟨c0, c1, c2, c3, c4⟩ := X6.out.cells;simp only at c0 c1 c2 c3 c4;go_wp2;go_ret
        exact ⟨by rfl, X6.out.bel⟩
      ·clear H6
       go_enter Tryz.func41, Tryz.ntmps41
       go_wp2_with fail
       refine (H1.out _).mono ?_;rintro e w1 ⟨rfl, rfl⟩;dsimp only
       go_wp2_with fail
       refine (H2.out _ X0.out.bel).mono ?_;rintro e w2 ⟨rfl, hb⟩;dsimp only;have X2 := hideIt (X0.out.keep hb);clear hb H2 X0 c0 c1 c2 c3 c4;obtain ⟨c0, c1, c2, c3, c4⟩ := X2.out.cells;simp only at c0 c1 c2 c3 c4
       go_wp2_with fail
       refine (H3.out _ X2.out.bel).mono ?_;rintro e w3 ⟨rfl, hb⟩;dsimp only;have X3 := hideIt (X2.out.keep hb);clear hb H3 X2 c0 c1 c2 c3 c4;obtain ⟨c0, c1, c2, c3, c4⟩ := X3.out.cells;simp only at c0 c1 c2 c3 c4
       go_wp2_with fail
       refine (H4.out _ X3.out.bel).mono ?_;rintro e w4 ⟨rfl, hb⟩;dsimp only;have X4 := hideIt (X3.out.keep hb);clear hb H4 X3 c0 c1 c2 c3 c4;obtain ⟨c0, c1, c2, c3, c4⟩ := X4.out.cells;simp only at c0 c1 c2 c3 c4
       go_wp2_with fail
       refine (H5.out _ X4.out.bel).mono ?_;rintro e w5 ⟨rfl, hb⟩;dsimp only;have X5 := hideIt (X4.out.keep hb);clear hb H5 X4 c0 c1 c2 c3 c4;obtain ⟨c0, c1, c2, c3, c4⟩ := X5.out.cells;simp only at c0 c1 c2 c3 c4;go_wp2;go_ret
       exact ⟨by rfl, X5.out.bel⟩
     ·clear H5;cases r6
      ·go_enter Tryz.func41, Tryz.ntmps41
       go_wp2_with fail
       refine (H1.out _).mono ?_;rintro e w1 ⟨rfl, rfl⟩;dsimp only
       go_wp2_with fail
       refine (H2.out _ X0.out.bel).mono ?_;rintro e w2 ⟨rfl, hb⟩;dsimp only;have X2 := hideIt (X0.out.keep hb);clear hb H2 X0 c0 c1 c2 c3 c4;obtain ⟨c0, c1, c2, c3, c4⟩ := X2.out.cells;simp only at c0 c1 c2 c3 c4
       go_wp2_with fail
       refine (H3.out _ X2.out.bel).mono ?_;rintro e w3 ⟨rfl, hb⟩;dsimp only;have X3 := hideIt (X2.out.keep hb);clear hb H3 X2 c0 c1 c2 c3 c4;obtain ⟨c0, c1, c2, c3, c4⟩ := X3.out.cells;simp only at c0 c1 c2 c3 c4
       go_wp2_with fail
       refine (H4.out _ X3.out.bel).mono ?_;rintro e w4 ⟨rfl, hb⟩;dsimp only;have X4 := hideIt (X3.out.keep hb);clear hb H4 X3 c0 c1 c2 c3 c4;obtain ⟨c0, c1, c2, c3, c4⟩ := X4.out.cells;simp only at c0 c1 c2 c3 c4
       go_wp2_with fail
       refine (H6.out _ X4.out.bel).mono ?_;rintro e w6 ⟨rfl, hb⟩;dsimp only;have X6 := hideIt (X4.out.keep hb);clear hb H6 X4 c0 c1 c2 c3 c4;obtain ⟨c0, c1, c2, c3, c4⟩ := X6.out.cells;simp only at c0 c1 c2 c3 c4;go_wp2;go_ret
       exact ⟨by rfl, X6.out.bel⟩
      ·go_enter Tryz.func41, Tryz.ntmps41
       go_wp2_with fail
       refine (H1.out _).mono ?_;rintro e w1 ⟨rfl, rfl⟩;dsimp only
       go_wp2_with fail
       refine (H2.out _ X0.out.bel).mono ?_;rintro e w2 ⟨rfl, hb⟩;dsimp only;have X2 := hideIt (X0.out.keep hb);clear hb H2 X0 c0 c1 c2 c3 c4;obtain ⟨c0, c1, c2, c3, c4⟩ := X2.out.cells;simp only at c0 c1 c2 c3 c4
       go_wp2_with fail
       refine (H3.out _ X2.out.bel).mono ?_;rintro e w3 ⟨rfl, hb⟩;dsimp only;have X3 := hideIt (X2.out.keep hb);clear hb H3 X2 c0 c1 c2 c3 c4;obtain ⟨c0, c1, c2, c3, c4⟩ := X3.out.cells;simp only at c0 c1 c2 c3 c4
       go_wp2_with fail
       refine (H4.out _ X3.out.bel).mono ?_;rintro e w4 ⟨rfl, hb⟩;dsimp only;have X4 := hideIt (X3.out.keep hb);clear hb H4 X3 c0 c1 c2 c3 c4;obtain ⟨c0, c1, c2, c3, c4⟩ := X4.out.cells;simp only at c0 c1 c2 c3 c4
       go_wp2_with fail
       refine (H6.out _ X4.out.bel).mono ?_;rintro e w6 ⟨rfl, hb⟩;dsimp only;have X6 := hideIt (X4.out.keep hb);clear hb H6 X4 c0 c1 c2 c3 c4;obtain ⟨c0, c1, c2, c3, c4⟩ := X6.out.cells;simp only at c0 c1 c2 c3 c4;go_wp2;go_ret
       exact ⟨by rfl, X6.out.bel⟩
theorem appL {α : Type} {k bytes : Nat} {enc : α → List Value} {t e : TypeId} {z : Value} (hk : ∀ x, (enc x).length = k) (h1 : ∀ x, ∀ u ∈ enc x, u.oneCell' = true) (ht : Tryz.prog.underlying t = some (.slice e))
  (hi : (Tryz.prog.info? e).map (fun i => (i.zero, i.size, i.bytes)) = some (some z, k, bytes)) (hz : z.cells.size = k) (hk0 : 0 < k) (hb0 : 8 ≤ bytes) (w : World) (B : Nat) (v : Value) (xs l : List α) (b : Addr) (n c : Nat) (hn : n = l.length) (hB : B ≤ w.heap.size)
  (ho : w.ownsRow B e k v xs.length (celC enc xs)) (hg : SGot k bytes enc w (.slice (some b) n c) l) (hl : (xs.length + l.length) * bytes ≤ 140737488355328) :
  ∃ v' w', (Builtin.append_ #[t, t] t #[v, .slice (some b) n c]).run Tryz.prog w = .ok v' w' ∧ w'.ownsRow B e k v' (xs ++ l).length (celC enc (xs ++ l)) ∧ w.grownBy w' v.ownBlock := by
 subst hn;obtain ⟨i, hi, hz0, hz1, hz2⟩ := info_parts hi;have hm : xs.length + l.length ≤ maxLen := by
  have : (xs.length + l.length) * 8 ≤ (xs.length + l.length) * bytes := Nat.mul_le_mul_left _ hb0;unfold maxLen;omega
 obtain ⟨h8, a', c', e', _, hr⟩ := hg;simp only [Value.slice.injEq] at e';obtain ⟨v', w', r1, r2, r3, _⟩ := run_append_own (P := Tryz.prog) w B t t e i _ k bytes ht hi hz0 hz1 hz2 hz hk0 v xs.length (celC enc xs) ho b l.length c (celC enc l) (celC_len hk l) (fun j u hu => by
  have hj := (List.getElem?_eq_some_iff.1 hu).1;rw [celC_len hk] at hj;have hp : 0 < l.length := by
   rcases Nat.eq_zero_or_pos l.length with h0 | h0
   ·rw [h0] at hj;omega
   ·exact h0
  obtain ⟨b', off, hb, _, hc⟩ := hr hp;have : b = ⟨b', off, none⟩ := by
   have := e'.1.trans hb
   simpa using this
  rw [this, addN, hc j hj, hu]) (celC_one h1 l) hm hl hB
 refine ⟨v', w', r1, ?_, r3⟩;rw [List.length_append, celC_app];exact r2
set_option maxRecDepth 100000 in
set_option maxHeartbeats 4000000 in
theorem cloneO_is (v : Value) (l : List OrdV) (w : World) (h : Ords w v l) : Calls Tryz.prog 72 #[v] w fun e w' => ∃ v', e = .returned v' ∧ w'.ownsRow w.heap.size 115 4 v' l.length (celC ordE l) ∧ Below w.heap.size w w' := by
 obtain ⟨a, c, rfl⟩ := h.slice;have q22 : ∀ (w : World) (a : Option Addr) (n c n' c' : Nat), (binOp .eql 56 (.slice a n c) (.slice none n' c')).run Tryz.prog w = .ok (.bool a.isNone) w := fun w a n c n' c' => Lib.run_eql_slice_nil w _ _ a n c n' c' Tryz.underlying56
 cases a with
 | none =>
  have h0 : l.length = 0 := by
   obtain ⟨_, a', c', e', _, hr⟩ := h;simp only [Value.slice.injEq] at e'
   rcases Nat.eq_zero_or_pos l.length with h0 | h0
   ·exact h0
   ·obtain ⟨b, off, hb, _⟩ := hr h0;rw [← e'.1] at hb;cases hb
  have hl : l = [] := List.length_eq_zero_iff.1 h0;subst hl;simp only [List.length_nil];clear h h0
  go_enter Tryz.func72, Tryz.ntmps72
  go_wp2;go_ret
  exact ⟨_, rfl, own_nil _ _, Below.refl _ _⟩
 | some b =>
  obtain ⟨v', w', hrun, how, hgr⟩ := appL (enc := ordE) (t := 56) ordK ord1 Tryz.underlying56 info36 rfl (by omega) (by omega) (w.alloc (.cells #[] 115)) w.heap.size (.slice (some ⟨w.heap.size, 0, none⟩) 0 0) [] l b l.length c rfl (by simp) (World.ownsRow_made w #[] 0 (Nat.le_refl _) (Nat.zero_le _) (by simp)) (h.keep (below1 w _)) (by have := h.1; rw [List.length_nil]; omega)
  rw [List.nil_append] at how;have HRUN := hideIt hrun;have HR := hideIt (And.intro how (below_out (below1 w (.cells #[] 115)) (Out.ofGrown (F := fun k => w.heap.size ≤ k) hgr (fun k hk => by simp only [Value.ownBlock, Option.some.injEq] at hk; omega)) (fun _ h => h)))
  clear hrun how hgr h;generalize l.length = n at *;obtain ⟨bb, bo, bp⟩ := b
  go_enter Tryz.func72, Tryz.ntmps72
  go_wp2_with (at_builtin; refine Lib.wpList_append_run _ rfl _ _ _ _ rfl _ _ rfl rfl _ _ HRUN.out ?_)
  go_ret
  exact ⟨_, rfl, HR.out.1, HR.out.2⟩
set_option maxRecDepth 100000 in
set_option maxHeartbeats 4000000 in
theorem cloneW_is (v : Value) (l : List OweV) (w : World) (h : Owes w v l) : Calls Tryz.prog 73 #[v] w fun e w' => ∃ v', e = .returned v' ∧ w'.ownsRow w.heap.size 61 3 v' l.length (celC oweE l) ∧ Below w.heap.size w w' := by
 obtain ⟨a, c, rfl⟩ := h.slice;have q22 : ∀ (w : World) (a : Option Addr) (n c n' c' : Nat), (binOp .eql 57 (.slice a n c) (.slice none n' c')).run Tryz.prog w = .ok (.bool a.isNone) w := fun w a n c n' c' => Lib.run_eql_slice_nil w _ _ a n c n' c' Tryz.underlying57
 cases a with
 | none =>
  have h0 : l.length = 0 := by
   obtain ⟨_, a', c', e', _, hr⟩ := h;simp only [Value.slice.injEq] at e'
   rcases Nat.eq_zero_or_pos l.length with h0 | h0
   ·exact h0
   ·obtain ⟨b, off, hb, _⟩ := hr h0;rw [← e'.1] at hb;cases hb
  have hl : l = [] := List.length_eq_zero_iff.1 h0;subst hl;simp only [List.length_nil];clear h h0
  go_enter Tryz.func73, Tryz.ntmps73
  go_wp2;go_ret
  exact ⟨_, rfl, own_nil _ _, Below.refl _ _⟩
 | some b =>
  obtain ⟨v', w', hrun, how, hgr⟩ := appL (enc := oweE) (t := 57) oweK owe1 Tryz.underlying57 info63 rfl (by omega) (by omega) (w.alloc (.cells #[] 61)) w.heap.size (.slice (some ⟨w.heap.size, 0, none⟩) 0 0) [] l b l.length c rfl (by simp) (World.ownsRow_made w #[] 0 (Nat.le_refl _) (Nat.zero_le _) (by simp)) (h.keep (below1 w _)) (by have := h.1; rw [List.length_nil]; omega)
  rw [List.nil_append] at how;have HRUN := hideIt hrun;have HR := hideIt (And.intro how (below_out (below1 w (.cells #[] 61)) (Out.ofGrown (F := fun k => w.heap.size ≤ k) hgr (fun k hk => by simp only [Value.ownBlock, Option.some.injEq] at hk; omega)) (fun _ h => h)))
  clear hrun how hgr h;generalize l.length = n at *;obtain ⟨bb, bo, bp⟩ := b
  go_enter Tryz.func73, Tryz.ntmps73
  go_wp2_with (at_builtin; refine Lib.wpList_append_run _ rfl _ _ _ _ rfl _ _ rfl rfl _ _ HRUN.out ?_)
  go_ret
  exact ⟨_, rfl, HR.out.1, HR.out.2⟩
structure CB (w : World) (L : LaneV) (b a o : Value) (wx : World) : Prop where
 box : wx.heap[w.heap.size]? = some (.cells (laneA L b a o) 59 (0, 0))
 res : wx.heap[w.heap.size + 1]? = some (.cells #[.bool false, .int .i64 0, .slice none 0 0, .slice none 0 0, .slice none 0 0] 59 (0, 0))
 bel : Below w.heap.size w wx
 size : w.heap.size + 2 ≤ wx.heap.size
theorem CB.first (w : World) (L : LaneV) (b a o : Value) : CB w L b a o ((w.alloc (.cells (laneA L b a o) 59)).alloc (.cells #[.bool false, .int .i64 0, .slice none 0 0, .slice none 0 0, .slice none 0 0] 59)) := by
 have h := two_heap w (.cells (laneA L b a o) 59) (.cells #[.bool false, .int .i64 0, .slice none 0 0, .slice none 0 0, .slice none 0 0] 59)
 exact ⟨h.1, h.2.1, below2 w _ _, by omega⟩
theorem CB.keep {w wx wy : World} {L : LaneV} {b a o : Value} (h : CB w L b a o wx) (hb : Below wx.heap.size wx wy) : CB w L b a o wy :=
 ⟨(hb.block _ (by have := h.size; omega)).trans h.box, (hb.block _ (by have := h.size; omega)).trans h.res, below_via h.bel hb, Nat.le_trans h.size hb.size⟩
theorem CB.cells {w wx : World} {L : LaneV} {b a o : Value} (h : CB w L b a o wx) : wx.cell? ⟨w.heap.size, 0, none⟩ = some (.bool L.call) ∧ wx.cell? ⟨w.heap.size, 1, none⟩ = some (.int .i64 L.next) ∧ wx.cell? ⟨w.heap.size, 2, none⟩ = some b ∧ wx.cell? ⟨w.heap.size, 3, none⟩ = some a ∧ wx.cell? ⟨w.heap.size, 4, none⟩ = some o :=
 ⟨by rw [cell_at h.box]; rfl, by rw [cell_at h.box]; rfl, by rw [cell_at h.box]; rfl, by rw [cell_at h.box]; rfl, by rw [cell_at h.box]; rfl⟩
theorem CB.set2 {w wx : World} {L : LaneV} {b a o : Value} (h : CB w L b a o wx) (v : Value) : CB w L v a o (wx.setCell ⟨w.heap.size, 2, none⟩ v) :=
 ⟨heap_set h.box 2 v, setOther _ h.res (by omega), belowSet _ h.bel (Nat.le_refl _), by simpa using h.size⟩
theorem CB.set3 {w wx : World} {L : LaneV} {b a o : Value} (h : CB w L b a o wx) (v : Value) : CB w L b v o (wx.setCell ⟨w.heap.size, 3, none⟩ v) :=
 ⟨heap_set h.box 3 v, setOther _ h.res (by omega), belowSet _ h.bel (Nat.le_refl _), by simpa using h.size⟩
theorem CB.set4 {w wx : World} {L : LaneV} {b a o : Value} (h : CB w L b a o wx) (v : Value) : CB w L b a v (wx.setCell ⟨w.heap.size, 4, none⟩ v) :=
 ⟨heap_set h.box 4 v, setOther _ h.res (by omega), belowSet _ h.bel (Nat.le_refl _), by simpa using h.size⟩
theorem CB.put {w wx : World} {L : LaneV} {b a o : Value} (h : CB w L b a o wx) (v0 v1 v2 v3 v4 : Value) : (((((wx.setCell ⟨w.heap.size + 1, 0, none⟩ v0).setCell ⟨w.heap.size + 1, 1, none⟩ v1).setCell ⟨w.heap.size + 1, 2, none⟩ v2).setCell ⟨w.heap.size + 1, 3, none⟩ v3).setCell ⟨w.heap.size + 1, 4, none⟩ v4).heap[w.heap.size + 1]? = some (.cells #[v0, v1, v2, v3, v4] 59 (0, 0)) ∧ Below w.heap.size w (((((wx.setCell ⟨w.heap.size + 1, 0, none⟩ v0).setCell ⟨w.heap.size + 1, 1, none⟩ v1).setCell ⟨w.heap.size + 1, 2, none⟩ v2).setCell ⟨w.heap.size + 1, 3, none⟩ v3).setCell ⟨w.heap.size + 1, 4, none⟩ v4) := by
 have h0 := heap_set h.res 0 v0;have h1 := heap_set h0 1 v1;have h2 := heap_set h1 2 v2;have h3 := heap_set h2 3 v3
 exact ⟨heap_set h3 4 v4, belowSet _ (belowSet _ (belowSet _ (belowSet _ (belowSet _ h.bel (by omega)) (by omega)) (by omega)) (by omega)) (by omega)⟩
theorem own_five {wx : World} {R B : Nat} {e : TypeId} {z n : Nat} {v : Value} {xs : List Value} {cs : Array Value} (ho : wx.ownsRow B e z v n xs) (hd : wx.heap[R]? = some (.cells cs 59 (0, 0))) (hne : e ≠ 59) (v0 v1 v2 v3 v4 : Value) : (((((wx.setCell ⟨R, 0, none⟩ v0).setCell ⟨R, 1, none⟩ v1).setCell ⟨R, 2, none⟩ v2).setCell ⟨R, 3, none⟩ v3).setCell ⟨R, 4, none⟩ v4).ownsRow B e z v n xs :=
 own_cell (own_cell (own_cell (own_cell (own_cell ho hd hne) (heap_set hd 0 v0) hne) (heap_set (heap_set hd 0 v0) 1 v1) hne) (heap_set (heap_set (heap_set hd 0 v0) 1 v1) 2 v2) hne) (heap_set (heap_set (heap_set (heap_set hd 0 v0) 1 v1) 2 v2) 3 v3) hne
def LaneBack (L : LaneV) (w : World) (e : Ending) (w' : World) : Prop := ∃ b a o, e = .returned (laneV L b a o) ∧ w'.ownsRow w.heap.size 115 4 b L.bids.length (celC ordE L.bids) ∧ w'.ownsRow w.heap.size 115 4 a L.asks.length (celC ordE L.asks) ∧ w'.ownsRow w.heap.size 61 3 o L.owed.length (celC oweE L.owed) ∧ (b.ownBlock = none ∨ b.ownBlock ≠ a.ownBlock) ∧ Below w.heap.size w w'
set_option maxHeartbeats 8000000 in
set_option maxRecDepth 100000 in
theorem copied_is (L : LaneV) (b a o : Value) (w : World) (h : Lan w L b a o) : Calls Tryz.prog 111 #[laneV L b a o] w (LaneBack L w) := by
 have X0 := hideIt (CB.first w L b a o);have H1 := hideIt (fun W (hW : Below w.heap.size w W) => cloneO_is b L.bids W (h.keep hW).bids);have H2 := hideIt (fun W (hW : Below w.heap.size w W) => cloneO_is a L.asks W (h.keep hW).asks);have H3 := hideIt (fun W (hW : Below w.heap.size w W) => cloneW_is o L.owed W (h.keep hW).owed);unfold LaneBack;obtain ⟨ba, bc, rfl⟩ := h.bids.slice;obtain ⟨aa, ac, rfl⟩ := h.asks.slice;obtain ⟨oa, oc, rfl⟩ := h.owed.slice;clear h;unfold laneV laneA at *;obtain ⟨cl, nx, bids, asks, owed⟩ := L;simp only at *
 go_enter Tryz.func111, Tryz.ntmps111
 go_upto_region 1 with fail
 generalize (w.alloc (.cells #[.bool cl, .int .i64 nx, .slice ba bids.length bc, .slice aa asks.length ac, .slice oa owed.length oc] 59)).alloc (.cells #[.bool false, .int .i64 0, .slice none 0 0, .slice none 0 0, .slice none 0 0] 59) = w0 at *;obtain ⟨c0, c1, c2, c3, c4⟩ := X0.out.cells;simp only at c0 c1 c2 c3 c4
 go_wp2_with fail
 refine (H1.out _ X0.out.bel).mono ?_;rintro e w1 ⟨b1, rfl, ho, hb⟩;dsimp only;obtain ⟨b1a, b1c, rfl⟩ := own_len ho;have X1 := hideIt ((X0.out.keep hb).set2 (.slice b1a bids.length b1c));have O1 := hideIt (own_base (own_cell (j := 2) (u := .slice b1a bids.length b1c) ho (X0.out.keep hb).box (by decide)) (Nat.le_trans (Nat.le_add_right w.heap.size 2) X0.out.size));have fz : w1.frozen? ⟨w.heap.size, 2, none⟩ = false := free_at (X0.out.keep hb).box 2;have k2 : w1.cell? ⟨w.heap.size, 2, none⟩ = some (.slice ba bids.length bc) := (X0.out.keep hb).cells.2.2.1;clear ho hb H1 c0 c1 c2 c3 c4 X0
 go_upto_region 2 with fail
 clear fz k2;generalize w1.setCell ⟨w.heap.size, 2, none⟩ (.slice b1a bids.length b1c) = w2 at *;have K2 := hideIt (O1.out.lt);obtain ⟨c0, c1, c2, c3, c4⟩ := X1.out.cells;simp only at c0 c1 c2 c3 c4
 go_wp2_with fail
 refine (H2.out _ X1.out.bel).mono ?_;rintro e w3 ⟨a1, rfl, ho, hb⟩;dsimp only;obtain ⟨a1a, a1c, rfl⟩ := own_len ho;have SP : Hid ((Value.slice b1a bids.length b1c).ownBlock = none ∨ (Value.slice b1a bids.length b1c).ownBlock ≠ (Value.slice a1a asks.length a1c).ownBlock) := by
  cases hq : (Value.slice b1a bids.length b1c).ownBlock with
  | none => exact .inl rfl
  | some q =>
   refine .inr (fun e => ?_);have h1 := K2.out q hq;have h2 := ho.lt q e.symm;omega
 have X3 := hideIt ((X1.out.keep hb).set3 (.slice a1a asks.length a1c));have O3 := hideIt (own_cell (j := 3) (u := .slice a1a asks.length a1c) (own_keep O1.out hb) (X1.out.keep hb).box (by decide));have A3 := hideIt (own_base (own_cell (j := 3) (u := .slice a1a asks.length a1c) ho (X1.out.keep hb).box (by decide)) (Nat.le_trans (Nat.le_add_right w.heap.size 2) X1.out.size));have fz : w3.frozen? ⟨w.heap.size, 3, none⟩ = false := free_at (X1.out.keep hb).box 3;have k2 : w3.cell? ⟨w.heap.size, 3, none⟩ = some (.slice aa asks.length ac) := (X1.out.keep hb).cells.2.2.2.1;clear ho hb H2 c0 c1 c2 c3 c4 X1 O1 K2
 go_upto_region 3 with fail
 clear fz k2;generalize w3.setCell ⟨w.heap.size, 3, none⟩ (.slice a1a asks.length a1c) = w4 at *;obtain ⟨c0, c1, c2, c3, c4⟩ := X3.out.cells;simp only at c0 c1 c2 c3 c4
 go_wp2_with fail
 refine (H3.out _ X3.out.bel).mono ?_;rintro e w5 ⟨o1, rfl, ho, hb⟩;dsimp only;obtain ⟨o1a, o1c, rfl⟩ := own_len ho;have X5 := hideIt ((X3.out.keep hb).set4 (.slice o1a owed.length o1c));have O5 := hideIt (own_cell (j := 4) (u := .slice o1a owed.length o1c) (own_keep O3.out hb) (X3.out.keep hb).box (by decide));have A5 := hideIt (own_cell (j := 4) (u := .slice o1a owed.length o1c) (own_keep A3.out hb) (X3.out.keep hb).box (by decide));have W5 := hideIt (own_base (own_cell (j := 4) (u := .slice o1a owed.length o1c) ho (X3.out.keep hb).box (by decide)) (Nat.le_trans (Nat.le_add_right w.heap.size 2) X3.out.size));have fz : w5.frozen? ⟨w.heap.size, 4, none⟩ = false := free_at (X3.out.keep hb).box 4;have k2 : w5.cell? ⟨w.heap.size, 4, none⟩ = some (.slice oa owed.length oc) := (X3.out.keep hb).cells.2.2.2.2;clear ho hb H3 c0 c1 c2 c3 c4 X3 O3 A3
 go_upto_region 4 with fail
 clear fz k2;generalize w5.setCell ⟨w.heap.size, 4, none⟩ (.slice o1a owed.length o1c) = w6 at *;obtain ⟨c0, c1, c2, c3, c4⟩ := X5.out.cells;simp only at c0 c1 c2 c3 c4;have z0 : w6.cell? ⟨w.heap.size + 1, 0, none⟩ = some (.bool false) := by rw [cell_at X5.out.res]; rfl
 have z1 : w6.cell? ⟨w.heap.size + 1, 1, none⟩ = some (.int .i64 0) := by rw [cell_at X5.out.res]; rfl
 have z2 : w6.cell? ⟨w.heap.size + 1, 2, none⟩ = some (.slice none 0 0) := by rw [cell_at X5.out.res]; rfl
 have z3 : w6.cell? ⟨w.heap.size + 1, 3, none⟩ = some (.slice none 0 0) := by rw [cell_at X5.out.res]; rfl
 have z4 : w6.cell? ⟨w.heap.size + 1, 4, none⟩ = some (.slice none 0 0) := by rw [cell_at X5.out.res]; rfl
 have zf : ∀ j, w6.frozen? ⟨w.heap.size + 1, j, none⟩ = false := fun j => free_at X5.out.res j
 have HP := hideIt (X5.out.put (.bool cl) (.int .i64 nx) (.slice b1a bids.length b1c) (.slice a1a asks.length a1c) (.slice o1a owed.length o1c));have HO := hideIt (own_five O5.out X5.out.res (by decide) (.bool cl) (.int .i64 nx) (.slice b1a bids.length b1c) (.slice a1a asks.length a1c) (.slice o1a owed.length o1c));have HA := hideIt (own_five A5.out X5.out.res (by decide) (.bool cl) (.int .i64 nx) (.slice b1a bids.length b1c) (.slice a1a asks.length a1c) (.slice o1a owed.length o1c));have HW := hideIt (own_five W5.out X5.out.res (by decide) (.bool cl) (.int .i64 nx) (.slice b1a bids.length b1c) (.slice a1a asks.length a1c) (.slice o1a owed.length o1c));clear X5 O5 A5 W5;go_wp2
 revert HP HO HA HW
 generalize (World.setCell _ ⟨w.heap.size + 1, 4, none⟩ _) = W;intro HP HO HA HW;exact bodyPost_ret (v := laneV ⟨cl, nx, bids, asks, owed⟩ (.slice b1a bids.length b1c) (.slice a1a asks.length a1c) (.slice o1a owed.length o1c)) (by simp [results, Tryz.results111, go_sem, cell_at HP.out.1, laneV, laneA]) rfl ⟨_, _, _, rfl, HO.out, HA.out, HW.out, SP.out, HP.out.2⟩
end Go.Proofs.YtiinigifjdpicaaGreatDoor
