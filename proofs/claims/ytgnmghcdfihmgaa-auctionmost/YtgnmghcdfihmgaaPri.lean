/- The prices of all orders, rising: walked. -/
import Derived.Test.YtgnmghcdfihmgaaUnl
namespace Go.Proofs.Ytgnmghcdfihmgaa
open Go.RowKit
set_option linter.all false
def prL (l : List OrdV) : List Int := l.map OrdV.price
theorem prL_take (l : List OrdV) (t : Nat) (h : t < l.length) : prL (l.take (t + 1)) = prL (l.take t) ++ [l[t].price] := by
  unfold prL
  rw [List.take_succ_eq_append_getElem h, List.map_append]
  rfl
theorem prL_len (l : List OrdV) : (prL l).length = l.length := List.length_map ..
/-- slices.Sort of a list of the call's own. -/
theorem sortI_is (v : Value) (m : List Int) (B : Nat) (W : World) (ho : W.ownsRow B 3 1 v m.length (m.map (Value.int .i64))) (hm : m.length ≤ 1000) : Calls Try.prog 57 #[v] W fun e w' => e = .returned (.tuple #[]) ∧ w'.ownsRow B 3 1 v m.length ((sortL m).map (Value.int .i64)) ∧ W.grownBy w' v.ownBlock := by
  have hsl := sortL_len m
  obtain ⟨h1, ⟨hv, hm0⟩ | ⟨q, cap, cur, rfl, hB, hg, hnc, hcm, hs, ht⟩⟩ := ho
  · subst hv
    have hmn : m = [] := List.length_eq_zero_iff.1 hm0
    subst hmn
    refine (slices_Sort_int_none _ _ _).mono ?_
    rintro e w2 ⟨rfl, rfl⟩
    refine ⟨rfl, ?_, grown_refl _ _⟩
    rw [show sortL ([] : List Int) = [] by simp [sortL]]
    exact ⟨h1, .inl ⟨rfl, hm0⟩⟩
  · have hql := (Array.getElem?_eq_some_iff.1 hg).1
    rw [Nat.mul_one] at ht
    refine (slices_Sort_int q 0 cap m W (holds_of_blockI hg ht) hql (by omega)).mono ?_
    rintro e w2 ⟨rfl, N, os, rfl⟩
    have ow := ownsRow_sortedI (base := B) (n := N) (os := os) (ss := m) (ts := m.mergeSort fun x y => decide (x ≤ y)) hsl hB hg hnc hcm hs
    exact ⟨rfl, ow, grownBy_sortedI _⟩
structure PX (w : World) (L : LaneV) (b a o : Value) (wx : World) : Prop where
  box : BoxL w L b a o wx
  two : wx.heap[w.heap.size + 1]? = some (.cells #[b, a] 22 (0, 0))
  size : w.heap.size + 2 ≤ wx.heap.size
theorem PX.first (w : World) (L : LaneV) (b a o : Value) : PX w L b a o ((w.alloc (.cells (laneA L b a o) 25)).alloc (.cells #[b, a] 22)) := by
  obtain ⟨k1, k2, k3⟩ := two_heap w (.cells (laneA L b a o) 25) (.cells #[b, a] 22)
  exact ⟨⟨k1, below2 w _ _, by omega⟩, k2, by omega⟩
theorem PX.keep {w wx wy : World} {L : LaneV} {b a o : Value} (h : PX w L b a o wx) (hb : Below wx.heap.size wx wy) : PX w L b a o wy :=
  ⟨h.box.keep hb, (hb.block _ (by have := h.size; omega)).trans h.two, Nat.le_trans h.size hb.size⟩
theorem PX.grow {w wx wy : World} {F : Nat → Prop} {L : LaneV} {b a o : Value} (h : PX w L b a o wx) (ho : Out F wx wy) (hF : ∀ k, F k → w.heap.size + 2 ≤ k) : PX w L b a o wy :=
  ⟨h.box.out ho (fun k e => by have := hF k e; omega), (ho.block _ (by have := h.size; omega) (fun e => by have := hF _ e; omega)).trans h.two, Nat.le_trans h.size ho.size⟩
def prK (b a : List OrdV) : Nat → List Int
  | 0 => []
  | 1 => [] ++ prL b
  | _ => prL b ++ prL a
theorem two_at2 {w : World} {p : Nat} {t : TypeId} {a b : Value} (h : w.heap[p]? = some (.cells #[a, b] t (0, 0))) : (w.cell? ⟨p, 0, none⟩ = some a ∧ w.cell? ⟨p, 1, none⟩ = some b) ∧ (∀ j, w.frozen? ⟨p, j, none⟩ = false) ∧ p < w.heap.size :=
  ⟨⟨by rw [cell_at h]; rfl, by rw [cell_at h]; rfl⟩, fun j => free_at h j, (Array.getElem?_eq_some_iff.1 h).1⟩
set_option maxHeartbeats 8000000 in
set_option maxRecDepth 100000 in
theorem prices_is (L : LaneV) (b a o : Value) (w : World) (h : Lan w L b a o) (hb4 : L.bids.length ≤ 40) (ha4 : L.asks.length ≤ 40) : Calls Try.prog 48 #[laneV L b a o] w fun e w' => ∃ v, e = .returned v ∧ w'.ownsRow w.heap.size 3 1 v (prL L.bids ++ prL L.asks).length ((sortL (prL L.bids ++ prL L.asks)).map (Value.int .i64)) ∧ Below w.heap.size w w' := by
  have X0 := hideIt (PX.first w L b a o)
  obtain ⟨ba, bc, rfl, b8, hb⟩ := h.bids.ords
  obtain ⟨aa, ac, rfl, a8, ha⟩ := h.asks.ords
  obtain ⟨oa, oc, rfl⟩ := h.owed.slice
  have HB := hideIt hb
  have HA := hideIt ha
  unfold laneV laneA at *
  obtain ⟨cl, nx, bids, asks, owed⟩ := L
  simp only at *
  clear h hb ha
  go_enter Try.func48, Try.ntmps48
  go_upto_region 3 with fail
  generalize (w.alloc (.cells #[.bool cl, .int .i64 nx, .slice ba bids.length bc, .slice aa asks.length ac, .slice oa owed.length oc] 25)).alloc (.cells #[.slice ba bids.length bc, .slice aa asks.length ac] 22) = W0 at *
  go_loopw [3, 14] (fun v3 v14 wr => ∃ k : Int, v14 = .int .i64 k ∧ (k = 0 ∨ k = 1 ∨ k = 2) ∧ Hid (wr.ownsRow (w.heap.size + 2) 3 1 v3 (prK bids asks k.toNat).length ((prK bids asks k.toNat).map (Value.int .i64)) ∧ PX w ⟨cl, nx, bids, asks, owed⟩ (.slice ba bids.length bc) (.slice aa asks.length ac) (.slice oa owed.length oc) wr)) (fun _ v _ => 2 - (intOf v).toNat)
  case atStart => exact ⟨0, rfl, .inl rfl, hideIt ⟨own_nil _ _, X0.out⟩⟩
  case round =>
    clear X0
    obtain ⟨k, rfl, hk2, HR⟩ := hrel
    rcases hk2 with rfl | rfl | rfl
    · obtain ⟨c0, -, cz⟩ := two_at2 HR.out.2.two
      go_upto_region 6 with fail
      go_loopw [3, 20] (fun v3 v20 wx => ∃ t : Nat, v20 = .int .i64 t ∧ t ≤ bids.length ∧ Hid (wx.ownsRow (w.heap.size + 2) 3 1 v3 (([] : List Int) ++ prL (bids.take t)).length (celC intE (([] : List Int) ++ prL (bids.take t))) ∧ PX w ⟨cl, nx, bids, asks, owed⟩ (.slice ba bids.length bc) (.slice aa asks.length ac) (.slice oa owed.length oc) wx)) (fun _ v _ => bids.length - (intOf v).toNat)
      case atStart => exact ⟨0, rfl, Nat.zero_le _, hideIt ⟨by rw [intC]; simpa [prL, prK] using HR.out.1, HR.out.2⟩⟩
      case round =>
        clear HR c0 cz
        obtain ⟨t, rfl, ht, HR⟩ := hrel
        by_cases hlt : t < bids.length
        · have hltI : (t : Int) < (bids.length : Int) := by omega
          have ht0 : (0 : Int) ≤ (t : Int) := by omega
          have hw2 : IntKind.i64.wrap ((t : Int) + 1) = ((t + 1 : Nat) : Int) := by rw [IntKind.wrap_i64]; omega
          obtain ⟨b, off, rfl, hbl, q0, q1, q2, q3⟩ := HB.out t hlt
          have hBw := HR.out.2.box.bel
          have hblr : b < wr.heap.size := Nat.lt_of_lt_of_le hbl hBw.size
          have d0 := (hBw.cell (p := ⟨b, off + t * 4, none⟩) hbl).trans q0
          have d1 := (hBw.cell (p := ⟨b, off + t * 4 + 1, none⟩) hbl).trans q1
          have d2 := (hBw.cell (p := ⟨b, off + t * 4 + 2, none⟩) hbl).trans q2
          have d3 := (hBw.cell (p := ⟨b, off + t * 4 + 3, none⟩) hbl).trans q3
          have HI := hideIt (prL_take bids t hlt)
          have hL : (prL (bids.take t)).length ≤ 40 := by simp [prL]; omega
          have hL2 : ([] : List Int).length ≤ 40 := by simp [prL]; try omega
          clear q0 q1 q2 q3 hBw
          generalize bids[t] = en at *
          obtain ⟨ei, ea, ep, el⟩ := en
          simp only at d0 d1 d2 d3 HI
          have hT := two_heap wr (.cells #[.int .i64 ei, .int .i64 ea, .int .i64 ep, .int .i64 el] 38) (.cells #[.int .i64 ep] 3)
          have hB2 := below2 wr (.cells #[.int .i64 ei, .int .i64 ea, .int .i64 ep, .int .i64 el] 38) (.cells #[.int .i64 ep] 3)
          obtain ⟨v', w', hrun, how, hgr⟩ := app1 (enc := intE) (k := 1) (bytes := 8) (t := 77) (e := 3) (fun _ => rfl) (fun x u hu => by simp only [intE, List.mem_cons, List.not_mem_nil, or_false] at hu; rw [hu]; rfl) Try.underlying77 info3 rfl (by omega) _ (w.heap.size + 2) _ (([] : List Int) ++ prL (bids.take t)) ep (wr.heap.size + 1) 1 (Nat.le_trans HR.out.2.size hB2.size) (own_keep HR.out.1 hB2) hT.2.1 (by rw [List.length_append]; omega) (by rw [List.length_append]; unfold maxLen; omega)
          have HN : Hid (w'.ownsRow (w.heap.size + 2) 3 1 v' (([] : List Int) ++ prL (bids.take (t + 1))).length (celC intE (([] : List Int) ++ prL (bids.take (t + 1))))) := by
            show World.ownsRow _ _ _ _ _ _ _
            rw [HI.out, ← List.append_assoc]
            exact how
          have HX := hideIt ((HR.out.2.keep hB2).grow (Out.ofGrown (F := fun k => w.heap.size + 2 ≤ k) hgr (fun k hk => ((own_keep HR.out.1 hB2).lt k hk).1)) (fun _ h => h))
          have HRUN := hideIt hrun
          clear hrun how hgr hT hB2 HR HI hL hL2
          go_wp2_with (at_builtin; refine Lib.wpList_append_run _ rfl _ _ _ _ rfl _ _ rfl rfl _ _ HRUN.out ?_)
          clear HRUN d0 d1 d2 d3
          go_wp2
          go_roundw
          case rel => exact ⟨t + 1, by go_num, by omega, hideIt ⟨HN.out, HX.out⟩⟩
          case measure => simp [intOf]; omega
        · have hltI : ¬ (t : Int) < (bids.length : Int) := by omega
          have het : bids.take t = bids := List.take_of_length_le (by omega)
          have HN : Hid (wr.ownsRow (w.heap.size + 2) 3 1 u3 (prK bids asks 1).length ((prK bids asks 1).map (Value.int .i64))) := by
            have := HR.out.1
            rw [het, intC] at this
            exact this
          have HX := hideIt HR.out.2
          clear HR het
          go_wp2
          go_roundw
          case rel => exact ⟨1, by go_num, by omega, hideIt ⟨HN.out, HX.out⟩⟩
          case measure => simp [intOf]
    · obtain ⟨c0, -, cz⟩ := two_at2 HR.out.2.two
      go_upto_region 6 with fail
      go_loopw [3, 20] (fun v3 v20 wx => ∃ t : Nat, v20 = .int .i64 t ∧ t ≤ asks.length ∧ Hid (wx.ownsRow (w.heap.size + 2) 3 1 v3 ((prL bids : List Int) ++ prL (asks.take t)).length (celC intE ((prL bids : List Int) ++ prL (asks.take t))) ∧ PX w ⟨cl, nx, bids, asks, owed⟩ (.slice ba bids.length bc) (.slice aa asks.length ac) (.slice oa owed.length oc) wx)) (fun _ v _ => asks.length - (intOf v).toNat)
      case atStart => exact ⟨0, rfl, Nat.zero_le _, hideIt ⟨by rw [intC]; simpa [prL, prK] using HR.out.1, HR.out.2⟩⟩
      case round =>
        clear HR c0 cz
        obtain ⟨t, rfl, ht, HR⟩ := hrel
        by_cases hlt : t < asks.length
        · have hltI : (t : Int) < (asks.length : Int) := by omega
          have ht0 : (0 : Int) ≤ (t : Int) := by omega
          have hw2 : IntKind.i64.wrap ((t : Int) + 1) = ((t + 1 : Nat) : Int) := by rw [IntKind.wrap_i64]; omega
          obtain ⟨b, off, rfl, hbl, q0, q1, q2, q3⟩ := HA.out t hlt
          have hBw := HR.out.2.box.bel
          have hblr : b < wr.heap.size := Nat.lt_of_lt_of_le hbl hBw.size
          have d0 := (hBw.cell (p := ⟨b, off + t * 4, none⟩) hbl).trans q0
          have d1 := (hBw.cell (p := ⟨b, off + t * 4 + 1, none⟩) hbl).trans q1
          have d2 := (hBw.cell (p := ⟨b, off + t * 4 + 2, none⟩) hbl).trans q2
          have d3 := (hBw.cell (p := ⟨b, off + t * 4 + 3, none⟩) hbl).trans q3
          have HI := hideIt (prL_take asks t hlt)
          have hL : (prL (asks.take t)).length ≤ 40 := by simp [prL]; omega
          have hL2 : (prL bids : List Int).length ≤ 40 := by simp [prL]; try omega
          clear q0 q1 q2 q3 hBw
          generalize asks[t] = en at *
          obtain ⟨ei, ea, ep, el⟩ := en
          simp only at d0 d1 d2 d3 HI
          have hT := two_heap wr (.cells #[.int .i64 ei, .int .i64 ea, .int .i64 ep, .int .i64 el] 38) (.cells #[.int .i64 ep] 3)
          have hB2 := below2 wr (.cells #[.int .i64 ei, .int .i64 ea, .int .i64 ep, .int .i64 el] 38) (.cells #[.int .i64 ep] 3)
          obtain ⟨v', w', hrun, how, hgr⟩ := app1 (enc := intE) (k := 1) (bytes := 8) (t := 77) (e := 3) (fun _ => rfl) (fun x u hu => by simp only [intE, List.mem_cons, List.not_mem_nil, or_false] at hu; rw [hu]; rfl) Try.underlying77 info3 rfl (by omega) _ (w.heap.size + 2) _ ((prL bids : List Int) ++ prL (asks.take t)) ep (wr.heap.size + 1) 1 (Nat.le_trans HR.out.2.size hB2.size) (own_keep HR.out.1 hB2) hT.2.1 (by rw [List.length_append]; omega) (by rw [List.length_append]; unfold maxLen; omega)
          have HN : Hid (w'.ownsRow (w.heap.size + 2) 3 1 v' ((prL bids : List Int) ++ prL (asks.take (t + 1))).length (celC intE ((prL bids : List Int) ++ prL (asks.take (t + 1))))) := by
            show World.ownsRow _ _ _ _ _ _ _
            rw [HI.out, ← List.append_assoc]
            exact how
          have HX := hideIt ((HR.out.2.keep hB2).grow (Out.ofGrown (F := fun k => w.heap.size + 2 ≤ k) hgr (fun k hk => ((own_keep HR.out.1 hB2).lt k hk).1)) (fun _ h => h))
          have HRUN := hideIt hrun
          clear hrun how hgr hT hB2 HR HI hL hL2
          go_wp2_with (at_builtin; refine Lib.wpList_append_run _ rfl _ _ _ _ rfl _ _ rfl rfl _ _ HRUN.out ?_)
          clear HRUN d0 d1 d2 d3
          go_wp2
          go_roundw
          case rel => exact ⟨t + 1, by go_num, by omega, hideIt ⟨HN.out, HX.out⟩⟩
          case measure => simp [intOf]; omega
        · have hltI : ¬ (t : Int) < (asks.length : Int) := by omega
          have het : asks.take t = asks := List.take_of_length_le (by omega)
          have HN : Hid (wr.ownsRow (w.heap.size + 2) 3 1 u3 (prK bids asks 2).length ((prK bids asks 2).map (Value.int .i64))) := by
            have := HR.out.1
            rw [het, intC] at this
            exact this
          have HX := hideIt HR.out.2
          clear HR het
          go_wp2
          go_roundw
          case rel => exact ⟨2, by go_num, by omega, hideIt ⟨HN.out, HX.out⟩⟩
          case measure => simp [intOf]
    · have HO := hideIt HR.out.1
      have HX := hideIt HR.out.2.box.bel
      have HZ := hideIt HR.out.2.size
      rw [show prK bids asks (2 : Int).toNat = prL bids ++ prL asks from rfl] at HO
      have hlen : (prL bids ++ prL asks).length ≤ 80 := by simp [prL]; omega
      clear HR HB HA
      obtain ⟨m, hm⟩ : ∃ m, m = prL bids ++ prL asks := ⟨_, rfl⟩
      rw [← hm] at HO hlen
      have HMM := hideIt hm
      clear hm
      have HSO := hideIt (sortI_is _ m _ wr HO.out (by omega))
      go_wp2_with fail
      refine HSO.out.mono ?_
      rintro e w2 ⟨rfl, how, hgr⟩
      dsimp only
      have B2 := hideIt (grown_own hgr HO.out (show w.heap.size ≤ w.heap.size + 2 by omega) HX.out)
      have O2 := hideIt (own_base how (show w.heap.size ≤ w.heap.size + 2 by omega))
      clear how hgr HSO HO HX HZ
      go_wp2
      go_ret
      exact ⟨u3, rfl, by rw [← HMM.out]; exact O2.out, B2.out⟩
end Go.Proofs.Ytgnmghcdfihmgaa
