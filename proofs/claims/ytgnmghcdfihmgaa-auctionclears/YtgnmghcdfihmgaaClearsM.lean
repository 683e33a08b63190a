/- AuctionClears, walked. -/
import Derived.Test.YtgnmghcdfihmgaaUnl
import Derived.Test.YtgnmghcdfihmgaaRCo
import Derived.Test.YtgnmghcdfihmgaaHld
import Derived.Test.YtgnmghcdfihmgaaCheck
import Derived.Test.YtgnmghcdfihmgaaPlN
import Derived.Test.YtgnmghcdfihmgaaKit
import Derived.Test.YtgnmghcdfihmgaaApp
import Derived.Test.YtgnmghcdfihmgaaCop
import Derived.DeepKeys5
import Derived.Maps.Keyed
import Derived.Maps.OwnOps
import Derived.Maps.OwnSet
import Derived.Lib.SlKeysI
import Derived.Test.YtgnmghcdfihmgaaPlM
import Derived.WideKeyEntry
import Derived.Deep.RegionLaw
import Derived.Test.YtgnmghcdfihmgaaDeal
import Derived.Test.YtgnmghcdfihmgaaDel
import Derived.Test.YtgnmghcdfihmgaaCan
import Derived.Maps.RangeWalk
import Derived.Test.YtgnmghcdfihmgaaROr
import Derived.Test.YtgnmghcdfihmgaaRBk
import Derived.Test.YtgnmghcdfihmgaaRTk
import Derived.Test.YtgnmghcdfihmgaaRUn
import Derived.Test.YtgnmghcdfihmgaaRCh
import Derived.Test.YtgnmghcdfihmgaaSmF
import Derived.Test.YtgnmghcdfihmgaaSpo
import Derived.Test.YtgnmghcdfihmgaaSml
namespace Go.Proofs.Ytgnmghcdfihmgaa
open Go.RowKit
set_option linter.all false
def prL (l : List OrdV) : List Int := l.map OrdV.price
theorem prL_take (l : List OrdV) (t : Nat) (h : t < l.length) : prL (l.take (t + 1)) = prL (l.take t) ++ [l[t].price] := by
  unfold prL
  rw [List.take_succ_eq_append_getElem h, List.map_append]
  rfl
theorem prL_len (l : List OrdV) : (prL l).length = l.length := List.length_map ..
/-- slices.Sort of a list of the call's own. -/
theorem sortI_is (v : Value) (m : List Int) (B : Nat) (W : World) (ho : W.ownsRow B 3 1 v m.length (m.map (Value.int .i64))) (hm : m.length ≤ 1000) : Calls Try.prog 57 #[v] W fun e w' => e = .returned (.tuple #[]) ∧ w'.ownsRow B 3 1 v m.length ((sortL m).map (Value.int .i64)) ∧ W.grownBy w' v.ownBlock := by
  have hsl := sortL_len m
  obtain ⟨h1, ⟨hv, hm0⟩ | ⟨q, cap, cur, rfl, hB, hg, hnc, hcm, hs, ht⟩⟩ := ho
  · subst hv
    have hmn : m = [] := List.length_eq_zero_iff.1 hm0
    subst hmn
    refine (slices_Sort_int_none _ _ _).mono ?_
    rintro e w2 ⟨rfl, rfl⟩
    refine ⟨rfl, ?_, grown_refl _ _⟩
    rw [show sortL ([] : List Int) = [] by simp [sortL]]
    exact ⟨h1, .inl ⟨rfl, hm0⟩⟩
  · have hql := (Array.getElem?_eq_some_iff.1 hg).1
    rw [Nat.mul_one] at ht
    refine (slices_Sort_int q 0 cap m W (holds_of_blockI hg ht) hql (by omega)).mono ?_
    rintro e w2 ⟨rfl, N, os, rfl⟩
    have ow := ownsRow_sortedI (base := B) (n := N) (os := os) (ss := m) (ts := m.mergeSort fun x y => decide (x ≤ y)) hsl hB hg hnc hcm hs
    exact ⟨rfl, ow, grownBy_sortedI _⟩
structure PX (w : World) (L : LaneV) (b a o : Value) (wx : World) : Prop where
  box : BoxL w L b a o wx
  two : wx.heap[w.heap.size + 1]? = some (.cells #[b, a] 22 (0, 0))
  size : w.heap.size + 2 ≤ wx.heap.size
theorem PX.first (w : World) (L : LaneV) (b a o : Value) : PX w L b a o ((w.alloc (.cells (laneA L b a o) 25)).alloc (.cells #[b, a] 22)) := by
  obtain ⟨k1, k2, k3⟩ := two_heap w (.cells (laneA L b a o) 25) (.cells #[b, a] 22)
  exact ⟨⟨k1, below2 w _ _, by omega⟩, k2, by omega⟩
theorem PX.keep {w wx wy : World} {L : LaneV} {b a o : Value} (h : PX w L b a o wx) (hb : Below wx.heap.size wx wy) : PX w L b a o wy :=
  ⟨h.box.keep hb, (hb.block _ (by have := h.size; omega)).trans h.two, Nat.le_trans h.size hb.size⟩
theorem PX.grow {w wx wy : World} {F : Nat → Prop} {L : LaneV} {b a o : Value} (h : PX w L b a o wx) (ho : Out F wx wy) (hF : ∀ k, F k → w.heap.size + 2 ≤ k) : PX w L b a o wy :=
  ⟨h.box.out ho (fun k e => by have := hF k e; omega), (ho.block _ (by have := h.size; omega) (fun e => by have := hF _ e; omega)).trans h.two, Nat.le_trans h.size ho.size⟩
def prK (b a : List OrdV) : Nat → List Int
  | 0 => []
  | 1 => [] ++ prL b
  | _ => prL b ++ prL a
theorem two_at2 {w : World} {p : Nat} {t : TypeId} {a b : Value} (h : w.heap[p]? = some (.cells #[a, b] t (0, 0))) : (w.cell? ⟨p, 0, none⟩ = some a ∧ w.cell? ⟨p, 1, none⟩ = some b) ∧ (∀ j, w.frozen? ⟨p, j, none⟩ = false) ∧ p < w.heap.size :=
  ⟨⟨by rw [cell_at h]; rfl, by rw [cell_at h]; rfl⟩, fun j => free_at h j, (Array.getElem?_eq_some_iff.1 h).1⟩
set_option maxHeartbeats 8000000 in
set_option maxRecDepth 100000 in
theorem prices_is (L : LaneV) (b a o : Value) (w : World) (h : Lan w L b a o) (hb4 : L.bids.length ≤ 40) (ha4 : L.asks.length ≤ 40) : Calls Try.prog 48 #[laneV L b a o] w fun e w' => ∃ v, e = .returned v ∧ w'.ownsRow w.heap.size 3 1 v (prL L.bids ++ prL L.asks).length ((sortL (prL L.bids ++ prL L.asks)).map (Value.int .i64)) ∧ Below w.heap.size w w' := by
  have X0 := hideIt (PX.first w L b a o)
  obtain ⟨ba, bc, rfl, b8, hb⟩ := h.bids.ords
  obtain ⟨aa, ac, rfl, a8, ha⟩ := h.asks.ords
  obtain ⟨oa, oc, rfl⟩ := h.owed.slice
  have HB := hideIt hb
  have HA := hideIt ha
  unfold laneV laneA at *
  obtain ⟨cl, nx, bids, asks, owed⟩ := L
  simp only at *
  clear h hb ha
  go_enter Try.func48, Try.ntmps48
  go_upto_region 3 with fail
  generalize (w.alloc (.cells #[.bool cl, .int .i64 nx, .slice ba bids.length bc, .slice aa asks.length ac, .slice oa owed.length oc] 25)).alloc (.cells #[.slice ba bids.length bc, .slice aa asks.length ac] 22) = W0 at *
  go_loopw [3, 14] (fun v3 v14 wr => ∃ k : Int, v14 = .int .i64 k ∧ (k = 0 ∨ k = 1 ∨ k = 2) ∧ Hid (wr.ownsRow (w.heap.size + 2) 3 1 v3 (prK bids asks k.toNat).length ((prK bids asks k.toNat).map (Value.int .i64)) ∧ PX w ⟨cl, nx, bids, asks, owed⟩ (.slice ba bids.length bc) (.slice aa asks.length ac) (.slice oa owed.length oc) wr)) (fun _ v _ => 2 - (intOf v).toNat)
  case atStart => exact ⟨0, rfl, .inl rfl, hideIt ⟨own_nil _ _, X0.out⟩⟩
  case round =>
    clear X0
    obtain ⟨k, rfl, hk2, HR⟩ := hrel
    rcases hk2 with rfl | rfl | rfl
    · obtain ⟨c0, -, cz⟩ := two_at2 HR.out.2.two
      go_upto_region 6 with fail
      go_loopw [3, 20] (fun v3 v20 wx => ∃ t : Nat, v20 = .int .i64 t ∧ t ≤ bids.length ∧ Hid (wx.ownsRow (w.heap.size + 2) 3 1 v3 (([] : List Int) ++ prL (bids.take t)).length (celC intE (([] : List Int) ++ prL (bids.take t))) ∧ PX w ⟨cl, nx, bids, asks, owed⟩ (.slice ba bids.length bc) (.slice aa asks.length ac) (.slice oa owed.length oc) wx)) (fun _ v _ => bids.length - (intOf v).toNat)
      case atStart => exact ⟨0, rfl, Nat.zero_le _, hideIt ⟨by rw [intC]; simpa [prL, prK] using HR.out.1, HR.out.2⟩⟩
      case round =>
        clear HR c0 cz
        obtain ⟨t, rfl, ht, HR⟩ := hrel
        by_cases hlt : t < bids.length
        · have hltI : (t : Int) < (bids.length : Int) := by omega
          have ht0 : (0 : Int) ≤ (t : Int) := by omega
          have hw2 : IntKind.i64.wrap ((t : Int) + 1) = ((t + 1 : Nat) : Int) := by rw [IntKind.wrap_i64]; omega
          obtain ⟨b, off, rfl, hbl, q0, q1, q2, q3⟩ := HB.out t hlt
          have hBw := HR.out.2.box.bel
          have hblr : b < wr.heap.size := Nat.lt_of_lt_of_le hbl hBw.size
          have d0 := (hBw.cell (p := ⟨b, off + t * 4, none⟩) hbl).trans q0
          have d1 := (hBw.cell (p := ⟨b, off + t * 4 + 1, none⟩) hbl).trans q1
          have d2 := (hBw.cell (p := ⟨b, off + t * 4 + 2, none⟩) hbl).trans q2
          have d3 := (hBw.cell (p := ⟨b, off + t * 4 + 3, none⟩) hbl).trans q3
          have HI := hideIt (prL_take bids t hlt)
          have hL : (prL (bids.take t)).length ≤ 40 := by simp [prL]; omega
          have hL2 : ([] : List Int).length ≤ 40 := by simp [prL]; try omega
          clear q0 q1 q2 q3 hBw
          generalize bids[t] = en at *
          obtain ⟨ei, ea, ep, el⟩ := en
          simp only at d0 d1 d2 d3 HI
          have hT := two_heap wr (.cells #[.int .i64 ei, .int .i64 ea, .int .i64 ep, .int .i64 el] 38) (.cells #[.int .i64 ep] 3)
          have hB2 := below2 wr (.cells #[.int .i64 ei, .int .i64 ea, .int .i64 ep, .int .i64 el] 38) (.cells #[.int .i64 ep] 3)
          obtain ⟨v', w', hrun, how, hgr⟩ := app1 (enc := intE) (k := 1) (bytes := 8) (t := 77) (e := 3) (fun _ => rfl) (fun x u hu => by simp only [intE, List.mem_cons, List.not_mem_nil, or_false] at hu; rw [hu]; rfl) Try.underlying77 info3 rfl (by omega) _ (w.heap.size + 2) _ (([] : List Int) ++ prL (bids.take t)) ep (wr.heap.size + 1) 1 (Nat.le_trans HR.out.2.size hB2.size) (own_keep HR.out.1 hB2) hT.2.1 (by rw [List.length_append]; omega) (by rw [List.length_append]; unfold maxLen; omega)
          have HN : Hid (w'.ownsRow (w.heap.size + 2) 3 1 v' (([] : List Int) ++ prL (bids.take (t + 1))).length (celC intE (([] : List Int) ++ prL (bids.take (t + 1))))) := by
            show World.ownsRow _ _ _ _ _ _ _
            rw [HI.out, ← List.append_assoc]
            exact how
          have HX := hideIt ((HR.out.2.keep hB2).grow (Out.ofGrown (F := fun k => w.heap.size + 2 ≤ k) hgr (fun k hk => ((own_keep HR.out.1 hB2).lt k hk).1)) (fun _ h => h))
          have HRUN := hideIt hrun
          clear hrun how hgr hT hB2 HR HI hL hL2
          go_wp2_with (at_builtin; refine Lib.wpList_append_run _ rfl _ _ _ _ rfl _ _ rfl rfl _ _ HRUN.out ?_)
          clear HRUN d0 d1 d2 d3
          go_wp2
          go_roundw
          case rel => exact ⟨t + 1, by go_num, by omega, hideIt ⟨HN.out, HX.out⟩⟩
          case measure => simp [intOf]; omega
        · have hltI : ¬ (t : Int) < (bids.length : Int) := by omega
          have het : bids.take t = bids := List.take_of_length_le (by omega)
          have HN : Hid (wr.ownsRow (w.heap.size + 2) 3 1 u3 (prK bids asks 1).length ((prK bids asks 1).map (Value.int .i64))) := by
            have := HR.out.1
            rw [het, intC] at this
            exact this
          have HX := hideIt HR.out.2
          clear HR het
          go_wp2
          go_roundw
          case rel => exact ⟨1, by go_num, by omega, hideIt ⟨HN.out, HX.out⟩⟩
          case measure => simp [intOf]
    · obtain ⟨c0, -, cz⟩ := two_at2 HR.out.2.two
      go_upto_region 6 with fail
      go_loopw [3, 20] (fun v3 v20 wx => ∃ t : Nat, v20 = .int .i64 t ∧ t ≤ asks.length ∧ Hid (wx.ownsRow (w.heap.size + 2) 3 1 v3 ((prL bids : List Int) ++ prL (asks.take t)).length (celC intE ((prL bids : List Int) ++ prL (asks.take t))) ∧ PX w ⟨cl, nx, bids, asks, owed⟩ (.slice ba bids.length bc) (.slice aa asks.length ac) (.slice oa owed.length oc) wx)) (fun _ v _ => asks.length - (intOf v).toNat)
      case atStart => exact ⟨0, rfl, Nat.zero_le _, hideIt ⟨by rw [intC]; simpa [prL, prK] using HR.out.1, HR.out.2⟩⟩
      case round =>
        clear HR c0 cz
        obtain ⟨t, rfl, ht, HR⟩ := hrel
        by_cases hlt : t < asks.length
        · have hltI : (t : Int) < (asks.length : Int) := by omega
          have ht0 : (0 : Int) ≤ (t : Int) := by omega
          have hw2 : IntKind.i64.wrap ((t : Int) + 1) = ((t + 1 : Nat) : Int) := by rw [IntKind.wrap_i64]; omega
          obtain ⟨b, off, rfl, hbl, q0, q1, q2, q3⟩ := HA.out t hlt
          have hBw := HR.out.2.box.bel
          have hblr : b < wr.heap.size := Nat.lt_of_lt_of_le hbl hBw.size
          have d0 := (hBw.cell (p := ⟨b, off + t * 4, none⟩) hbl).trans q0
          have d1 := (hBw.cell (p := ⟨b, off + t * 4 + 1, none⟩) hbl).trans q1
          have d2 := (hBw.cell (p := ⟨b, off + t * 4 + 2, none⟩) hbl).trans q2
          have d3 := (hBw.cell (p := ⟨b, off + t * 4 + 3, none⟩) hbl).trans q3
          have HI := hideIt (prL_take asks t hlt)
          have hL : (prL (asks.take t)).length ≤ 40 := by simp [prL]; omega
          have hL2 : (prL bids : List Int).length ≤ 40 := by simp [prL]; try omega
          clear q0 q1 q2 q3 hBw
          generalize asks[t] = en at *
          obtain ⟨ei, ea, ep, el⟩ := en
          simp only at d0 d1 d2 d3 HI
          have hT := two_heap wr (.cells #[.int .i64 ei, .int .i64 ea, .int .i64 ep, .int .i64 el] 38) (.cells #[.int .i64 ep] 3)
          have hB2 := below2 wr (.cells #[.int .i64 ei, .int .i64 ea, .int .i64 ep, .int .i64 el] 38) (.cells #[.int .i64 ep] 3)
          obtain ⟨v', w', hrun, how, hgr⟩ := app1 (enc := intE) (k := 1) (bytes := 8) (t := 77) (e := 3) (fun _ => rfl) (fun x u hu => by simp only [intE, List.mem_cons, List.not_mem_nil, or_false] at hu; rw [hu]; rfl) Try.underlying77 info3 rfl (by omega) _ (w.heap.size + 2) _ ((prL bids : List Int) ++ prL (asks.take t)) ep (wr.heap.size + 1) 1 (Nat.le_trans HR.out.2.size hB2.size) (own_keep HR.out.1 hB2) hT.2.1 (by rw [List.length_append]; omega) (by rw [List.length_append]; unfold maxLen; omega)
          have HN : Hid (w'.ownsRow (w.heap.size + 2) 3 1 v' ((prL bids : List Int) ++ prL (asks.take (t + 1))).length (celC intE ((prL bids : List Int) ++ prL (asks.take (t + 1))))) := by
            show World.ownsRow _ _ _ _ _ _ _
            rw [HI.out, ← List.append_assoc]
            exact how
          have HX := hideIt ((HR.out.2.keep hB2).grow (Out.ofGrown (F := fun k => w.heap.size + 2 ≤ k) hgr (fun k hk => ((own_keep HR.out.1 hB2).lt k hk).1)) (fun _ h => h))
          have HRUN := hideIt hrun
          clear hrun how hgr hT hB2 HR HI hL hL2
          go_wp2_with (at_builtin; refine Lib.wpList_append_run _ rfl _ _ _ _ rfl _ _ rfl rfl _ _ HRUN.out ?_)
          clear HRUN d0 d1 d2 d3
          go_wp2
          go_roundw
          case rel => exact ⟨t + 1, by go_num, by omega, hideIt ⟨HN.out, HX.out⟩⟩
          case measure => simp [intOf]; omega
        · have hltI : ¬ (t : Int) < (asks.length : Int) := by omega
          have het : asks.take t = asks := List.take_of_length_le (by omega)
          have HN : Hid (wr.ownsRow (w.heap.size + 2) 3 1 u3 (prK bids asks 2).length ((prK bids asks 2).map (Value.int .i64))) := by
            have := HR.out.1
            rw [het, intC] at this
            exact this
          have HX := hideIt HR.out.2
          clear HR het
          go_wp2
          go_roundw
          case rel => exact ⟨2, by go_num, by omega, hideIt ⟨HN.out, HX.out⟩⟩
          case measure => simp [intOf]
    · have HO := hideIt HR.out.1
      have HX := hideIt HR.out.2.box.bel
      have HZ := hideIt HR.out.2.size
      rw [show prK bids asks (2 : Int).toNat = prL bids ++ prL asks from rfl] at HO
      have hlen : (prL bids ++ prL asks).length ≤ 80 := by simp [prL]; omega
      clear HR HB HA
      obtain ⟨m, hm⟩ : ∃ m, m = prL bids ++ prL asks := ⟨_, rfl⟩
      rw [← hm] at HO hlen
      have HMM := hideIt hm
      clear hm
      have HSO := hideIt (sortI_is _ m _ wr HO.out (by omega))
      go_wp2_with fail
      refine HSO.out.mono ?_
      rintro e w2 ⟨rfl, how, hgr⟩
      dsimp only
      have B2 := hideIt (grown_own hgr HO.out (show w.heap.size ≤ w.heap.size + 2 by omega) HX.out)
      have O2 := hideIt (own_base how (show w.heap.size ≤ w.heap.size + 2 by omega))
      clear how hgr HSO HO HX HZ
      go_wp2
      go_ret
      exact ⟨u3, rfl, by rw [← HMM.out]; exact O2.out, B2.out⟩
end Go.Proofs.Ytgnmghcdfihmgaa
namespace Go.Proofs.Ytgnmghcdfihmgaa
open Go.RowKit
set_option linter.all false
set_option maxHeartbeats 400000 in
theorem may1_is (x y : Int) (w : World) : Calls Try.prog 46 #[.int .i64 x, .int .i64 y] w fun e w' => e = .returned (.bool (decide (y ≤ x))) ∧ w' = w := by
  go_enter Try.func46, Try.ntmps46
  go_wp2
  go_ret
  exact ⟨rfl, rfl⟩
set_option maxHeartbeats 400000 in
theorem may2_is (x y : Int) (w : World) : Calls Try.prog 47 #[.int .i64 x, .int .i64 y] w fun e w' => e = .returned (.bool (decide (x ≤ y))) ∧ w' = w := by
  go_enter Try.func47, Try.ntmps47
  go_wp2
  go_ret
  exact ⟨rfl, rfl⟩
/-- How much is left of those that may trade at a price. -/
def dem (p : Int) (l : List OrdV) : Int := (l.map (fun o => if p ≤ o.price then o.left else 0)).sum
def sup (p : Int) (l : List OrdV) : Int := (l.map (fun o => if o.price ≤ p then o.left else 0)).sum
theorem dem_take {p : Int} {l : List OrdV} {t : Nat} (h : t < l.length) : dem p (l.take (t + 1)) = dem p (l.take t) + (if p ≤ l[t].price then l[t].left else 0) := by
  unfold dem
  rw [List.take_succ_eq_append_getElem h, List.map_append, List.sum_append]
  simp
theorem sup_take {p : Int} {l : List OrdV} {t : Nat} (h : t < l.length) : sup p (l.take (t + 1)) = sup p (l.take t) + (if l[t].price ≤ p then l[t].left else 0) := by
  unfold sup
  rw [List.take_succ_eq_append_getElem h, List.map_append, List.sum_append]
  simp
theorem dem_bd (p : Int) : ∀ (l : List OrdV), OkT l → 0 ≤ dem p l ∧ dem p l ≤ l.length * 1000000
  | [], _ => by simp [dem]
  | o :: l, h => by
    have ih := dem_bd p l (fun q hq => h q (List.mem_cons_of_mem _ hq))
    have ho := h o (List.mem_cons_self ..)
    have e : dem p (o :: l) = (if p ≤ o.price then o.left else 0) + dem p l := by simp [dem]
    rw [e, List.length_cons]
    push_cast
    split <;> omega
theorem sup_bd (p : Int) : ∀ (l : List OrdV), OkT l → 0 ≤ sup p l ∧ sup p l ≤ l.length * 1000000
  | [], _ => by simp [sup]
  | o :: l, h => by
    have ih := sup_bd p l (fun q hq => h q (List.mem_cons_of_mem _ hq))
    have ho := h o (List.mem_cons_self ..)
    have e : sup p (o :: l) = (if o.price ≤ p then o.left else 0) + sup p l := by simp [sup]
    rw [e, List.length_cons]
    push_cast
    split <;> omega
/-- A function that was made, in memory. -/
structure Dep (w : World) (k K0 K1 : Nat) (v : Value) : Prop where
  c0 : w.heap[K0]? = some (.cells #[v] 22 (0, 0))
  c1 : w.heap[K1]? = some (.cells #[.func (Fn.func k) #[] #[]] 76 (0, 0))
theorem Dep.keep {w w' : World} {k K0 K1 : Nat} {v : Value} (h : Dep w k K0 K1 v) (hb : Below w.heap.size w w') : Dep w' k K0 K1 v :=
  ⟨(hb.block _ (Array.getElem?_eq_some_iff.1 h.c0).1).trans h.c0, (hb.block _ (Array.getElem?_eq_some_iff.1 h.c1).1).trans h.c1⟩
set_option maxHeartbeats 1000000 in
theorem depth1_is (a : Option Addr) (n c : Nat) (w : World) : Calls Try.prog 45 #[.slice a n c, .func (Fn.func 46) #[] #[]] w fun e w' => ∃ K0 K1, e = .returned (.func (Fn.func 70) #[] #[.pointer (some ⟨K0, 0, none⟩), .pointer (some ⟨K1, 0, none⟩)]) ∧ Dep w' 46 K0 K1 (.slice a n c) ∧ Below w.heap.size w w' := by
  have HT := hideIt (two_heap w (.cells #[.slice a n c] 22) (.cells #[.func (Fn.func 46) #[] #[]] 76))
  have HB := hideIt (below2 w (.cells #[.slice a n c] 22) (.cells #[.func (Fn.func 46) #[] #[]] 76))
  go_enter Try.func45, Try.ntmps45
  go_wp2
  go_ret
  exact ⟨_, _, rfl, ⟨HT.out.1, HT.out.2.1⟩, HB.out⟩
set_option maxHeartbeats 1000000 in
theorem depth2_is (a : Option Addr) (n c : Nat) (w : World) : Calls Try.prog 45 #[.slice a n c, .func (Fn.func 47) #[] #[]] w fun e w' => ∃ K0 K1, e = .returned (.func (Fn.func 70) #[] #[.pointer (some ⟨K0, 0, none⟩), .pointer (some ⟨K1, 0, none⟩)]) ∧ Dep w' 47 K0 K1 (.slice a n c) ∧ Below w.heap.size w w' := by
  have HT := hideIt (two_heap w (.cells #[.slice a n c] 22) (.cells #[.func (Fn.func 47) #[] #[]] 76))
  have HB := hideIt (below2 w (.cells #[.slice a n c] 22) (.cells #[.func (Fn.func 47) #[] #[]] 76))
  go_enter Try.func45, Try.ntmps45
  go_wp2
  go_ret
  exact ⟨_, _, rfl, ⟨HT.out.1, HT.out.2.1⟩, HB.out⟩
theorem one_at {w : World} {p : Nat} {t : TypeId} {a : Value} (h : w.heap[p]? = some (.cells #[a] t (0, 0))) : w.cell? ⟨p, 0, none⟩ = some a ∧ p < w.heap.size :=
  ⟨by rw [cell_at h]; rfl, (Array.getElem?_eq_some_iff.1 h).1⟩
theorem four_at4 {w : World} {p : Nat} {t : TypeId} {a b c d : Value} (h : w.heap[p]? = some (.cells #[a, b, c, d] t (0, 0))) : (w.cell? ⟨p, 0, none⟩ = some a ∧ w.cell? ⟨p, 1, none⟩ = some b ∧ w.cell? ⟨p, 2, none⟩ = some c ∧ w.cell? ⟨p, 3, none⟩ = some d) ∧ (∀ j, w.frozen? ⟨p, j, none⟩ = false) ∧ p < w.heap.size :=
  ⟨⟨by rw [cell_at h]; rfl, by rw [cell_at h]; rfl, by rw [cell_at h]; rfl, by rw [cell_at h]; rfl⟩, fun j => free_at h j, (Array.getElem?_eq_some_iff.1 h).1⟩
set_option maxHeartbeats 8000000 in
set_option maxRecDepth 100000 in
theorem demand_is (p : Int) (K0 K1 : Nat) (v : Value) (l : List OrdV) (w : World) (hd : Dep w 46 K0 K1 v) (h : Ords w v l) (hl : l.length ≤ 40) (hT : OkT l) : Calls Try.prog 70 #[.int .i64 p, .pointer (some ⟨K0, 0, none⟩), .pointer (some ⟨K1, 0, none⟩)] w fun e w' => e = .returned (.int .i64 (dem p l)) ∧ Below w.heap.size w w' := by
  obtain ⟨a, c, rfl, h8, hr⟩ := h.ords
  have HH := hideIt hr
  have HM := hideIt (fun x y W => may1_is x y W)
  have HS := hideIt (fun t (ht : t < l.length) => dem_take (p := p) ht)
  have HB := hideIt (fun t => dem_bd p (l.take t) (okT_take hT t))
  have HZ : Hid (dem p (l.take 0) = 0) := by show _ = _; simp [dem]
  have HE : Hid (dem p (l.take l.length) = dem p l) := by show _ = _; rw [List.take_length]
  generalize hfu : (fun t : Nat => dem p (l.take t)) = F at *
  have HT1 : Hid (∀ t, dem p (l.take t) = F t) := fun t => congrFun hfu t
  simp only [HT1.out] at HS HB HZ HE
  clear hfu HT1 hr h hT
  generalize dem p l = R at *
  have HD := hideIt hd
  obtain ⟨a0, z0⟩ := one_at hd.c0
  clear hd
  go_enter Try.func70, Try.ntmps70
  go_upto_region 3 with fail
  clear a0 z0
  go_loopw [5, 10] (fun u x wr => ∃ t : Nat, u = .int .i64 (F t) ∧ x = .int .i64 t ∧ t ≤ l.length ∧ Hid (Below w.heap.size w wr)) (fun _ x _ => l.length - (intOf x).toNat)
  case atStart => exact ⟨0, by rw [HZ.out], rfl, Nat.zero_le _, hideIt (Below.refl _ _)⟩
  case round =>
    obtain ⟨t, rfl, rfl, ht, HR⟩ := hrel
    by_cases hlt : t < l.length
    · have hltI : (t : Int) < (l.length : Int) := by omega
      have ht0 : (0 : Int) ≤ (t : Int) := by omega
      have hw : IntKind.i64.wrap ((t : Int) + 1) = ((t + 1 : Nat) : Int) := by rw [IntKind.wrap_i64]; omega
      obtain ⟨b, off, rfl, hbl, q0, q1, q2, q3⟩ := HH.out t hlt
      have hblr : b < wr.heap.size := Nat.lt_of_lt_of_le hbl HR.out.size
      have e0 := (HR.out.cell (p := ⟨b, off + t * 4, none⟩) hbl).trans q0
      have e1 := (HR.out.cell (p := ⟨b, off + t * 4 + 1, none⟩) hbl).trans q1
      have e2 := (HR.out.cell (p := ⟨b, off + t * 4 + 2, none⟩) hbl).trans q2
      have e3 := (HR.out.cell (p := ⟨b, off + t * 4 + 3, none⟩) hbl).trans q3
      have hs := HS.out t hlt
      have hb0 := HB.out t
      have hb1 := HB.out (t + 1)
      have ht40 : (l.take (t + 1)).length ≤ 40 := by rw [List.length_take]; omega
      have ht41 : (l.take t).length ≤ 40 := by rw [List.length_take]; omega
      clear q0 q1 q2 q3 HH HS HB
      generalize l[t] = y at *
      obtain ⟨yi, ya, yp, yl⟩ := y
      dsimp only at e0 e1 e2 e3 hs
      have HD1 := hideIt (HD.out.keep HR.out)
      have hb2 := below1 wr (.cells #[.int .i64 yi, .int .i64 ya, .int .i64 yp, .int .i64 yl] 38)
      have HR2 := hideIt (below_via HR.out hb2)
      have HD2 := hideIt (HD1.out.keep hb2)
      have HO := hideIt (heap_alloc_new wr (.cells #[.int .i64 yi, .int .i64 ya, .int .i64 yp, .int .i64 yl] 38))
      clear hb2 HR HD1
      go_upto_region 5 with fail
      generalize wr.alloc (.cells #[.int .i64 yi, .int .i64 ya, .int .i64 yp, .int .i64 yl] 38) = W2 at *
      generalize wr.heap.size = KO at *
      clear e0 e1 e2 e3 hblr
      obtain ⟨a1, z1⟩ := one_at HD2.out.c1
      obtain ⟨⟨o0, o1, o2, o3⟩, -, oz⟩ := four_at4 HO.out
      go_wp2_with fail
      refine (HM.out _ _ _).mono ?_
      rintro e wq ⟨rfl, hwq⟩
      replace hwq := hwq.symm
      subst hwq
      dsimp only
      by_cases hp : p ≤ yp
      · rw [if_pos hp] at hs
        have hwA : IntKind.i64.wrap (F t + yl) = F (t + 1) := by rw [hs, IntKind.wrap_i64]; omega
        have hpd : decide (p ≤ yp) = true := decide_eq_true hp
        clear hs hb0 hb1 HD2
        go_wp2
        go_roundw
        case rel => exact ⟨t + 1, rfl, by go_num, by omega, HR2⟩
        case measure => simp [intOf]; omega
      · rw [if_neg hp, Int.add_zero] at hs
        have HSH := hideIt hs
        have hpd : decide (p ≤ yp) = false := decide_eq_false hp
        clear hs hb0 hb1 HD2
        go_wp2
        go_roundw
        case rel => exact ⟨t + 1, by rw [HSH.out], by go_num, by omega, HR2⟩
        case measure => simp [intOf]; omega
    · have hltI : ¬ (t : Int) < (l.length : Int) := by omega
      have het : t = l.length := by omega
      subst het
      clear HH HS HB
      go_wp2
      go_ret
      exact ⟨by rw [HE.out]; rfl, HR.out⟩
set_option maxHeartbeats 8000000 in
set_option maxRecDepth 100000 in
theorem supply_is (p : Int) (K0 K1 : Nat) (v : Value) (l : List OrdV) (w : World) (hd : Dep w 47 K0 K1 v) (h : Ords w v l) (hl : l.length ≤ 40) (hT : OkT l) : Calls Try.prog 70 #[.int .i64 p, .pointer (some ⟨K0, 0, none⟩), .pointer (some ⟨K1, 0, none⟩)] w fun e w' => e = .returned (.int .i64 (sup p l)) ∧ Below w.heap.size w w' := by
  obtain ⟨a, c, rfl, h8, hr⟩ := h.ords
  have HH := hideIt hr
  have HM := hideIt (fun x y W => may2_is x y W)
  have HS := hideIt (fun t (ht : t < l.length) => sup_take (p := p) ht)
  have HB := hideIt (fun t => sup_bd p (l.take t) (okT_take hT t))
  have HZ : Hid (sup p (l.take 0) = 0) := by show _ = _; simp [sup]
  have HE : Hid (sup p (l.take l.length) = sup p l) := by show _ = _; rw [List.take_length]
  generalize hfu : (fun t : Nat => sup p (l.take t)) = F at *
  have HT1 : Hid (∀ t, sup p (l.take t) = F t) := fun t => congrFun hfu t
  simp only [HT1.out] at HS HB HZ HE
  clear hfu HT1 hr h hT
  generalize sup p l = R at *
  have HD := hideIt hd
  obtain ⟨a0, z0⟩ := one_at hd.c0
  clear hd
  go_enter Try.func70, Try.ntmps70
  go_upto_region 3 with fail
  clear a0 z0
  go_loopw [5, 10] (fun u x wr => ∃ t : Nat, u = .int .i64 (F t) ∧ x = .int .i64 t ∧ t ≤ l.length ∧ Hid (Below w.heap.size w wr)) (fun _ x _ => l.length - (intOf x).toNat)
  case atStart => exact ⟨0, by rw [HZ.out], rfl, Nat.zero_le _, hideIt (Below.refl _ _)⟩
  case round =>
    obtain ⟨t, rfl, rfl, ht, HR⟩ := hrel
    by_cases hlt : t < l.length
    · have hltI : (t : Int) < (l.length : Int) := by omega
      have ht0 : (0 : Int) ≤ (t : Int) := by omega
      have hw : IntKind.i64.wrap ((t : Int) + 1) = ((t + 1 : Nat) : Int) := by rw [IntKind.wrap_i64]; omega
      obtain ⟨b, off, rfl, hbl, q0, q1, q2, q3⟩ := HH.out t hlt
      have hblr : b < wr.heap.size := Nat.lt_of_lt_of_le hbl HR.out.size
      have e0 := (HR.out.cell (p := ⟨b, off + t * 4, none⟩) hbl).trans q0
      have e1 := (HR.out.cell (p := ⟨b, off + t * 4 + 1, none⟩) hbl).trans q1
      have e2 := (HR.out.cell (p := ⟨b, off + t * 4 + 2, none⟩) hbl).trans q2
      have e3 := (HR.out.cell (p := ⟨b, off + t * 4 + 3, none⟩) hbl).trans q3
      have hs := HS.out t hlt
      have hb0 := HB.out t
      have hb1 := HB.out (t + 1)
      have ht40 : (l.take (t + 1)).length ≤ 40 := by rw [List.length_take]; omega
      have ht41 : (l.take t).length ≤ 40 := by rw [List.length_take]; omega
      clear q0 q1 q2 q3 HH HS HB
      generalize l[t] = y at *
      obtain ⟨yi, ya, yp, yl⟩ := y
      dsimp only at e0 e1 e2 e3 hs
      have HD1 := hideIt (HD.out.keep HR.out)
      have hb2 := below1 wr (.cells #[.int .i64 yi, .int .i64 ya, .int .i64 yp, .int .i64 yl] 38)
      have HR2 := hideIt (below_via HR.out hb2)
      have HD2 := hideIt (HD1.out.keep hb2)
      have HO := hideIt (heap_alloc_new wr (.cells #[.int .i64 yi, .int .i64 ya, .int .i64 yp, .int .i64 yl] 38))
      clear hb2 HR HD1
      go_upto_region 5 with fail
      generalize wr.alloc (.cells #[.int .i64 yi, .int .i64 ya, .int .i64 yp, .int .i64 yl] 38) = W2 at *
      generalize wr.heap.size = KO at *
      clear e0 e1 e2 e3 hblr
      obtain ⟨a1, z1⟩ := one_at HD2.out.c1
      obtain ⟨⟨o0, o1, o2, o3⟩, -, oz⟩ := four_at4 HO.out
      go_wp2_with fail
      refine (HM.out _ _ _).mono ?_
      rintro e wq ⟨rfl, hwq⟩
      replace hwq := hwq.symm
      subst hwq
      dsimp only
      by_cases hp : yp ≤ p
      · rw [if_pos hp] at hs
        have hwA : IntKind.i64.wrap (F t + yl) = F (t + 1) := by rw [hs, IntKind.wrap_i64]; omega
        have hpd : decide (yp ≤ p) = true := decide_eq_true hp
        clear hs hb0 hb1 HD2
        go_wp2
        go_roundw
        case rel => exact ⟨t + 1, rfl, by go_num, by omega, HR2⟩
        case measure => simp [intOf]; omega
      · rw [if_neg hp, Int.add_zero] at hs
        have HSH := hideIt hs
        have hpd : decide (yp ≤ p) = false := decide_eq_false hp
        clear hs hb0 hb1 HD2
        go_wp2
        go_roundw
        case rel => exact ⟨t + 1, by rw [HSH.out], by go_num, by omega, HR2⟩
        case measure => simp [intOf]; omega
    · have hltI : ¬ (t : Int) < (l.length : Int) := by omega
      have het : t = l.length := by omega
      subst het
      clear HH HS HB
      go_wp2
      go_ret
      exact ⟨by rw [HE.out]; rfl, HR.out⟩
end Go.Proofs.Ytgnmghcdfihmgaa
namespace Go.Proofs.Ytgnmghcdfihmgaa
open Go.RowKit
set_option linter.all false
def rfE (L : LaneV) (c : Bool) : Int := if chkB L = false then 130 else if L.call = c then 0 else 140
set_option maxHeartbeats 4000000 in
set_option maxRecDepth 100000 in
theorem aRefused_is (L : LaneV) (b a o : Value) (c : Bool) (w : World) (h : Lan w L b a o) : Calls Try.prog 22 #[laneV L b a o, .bool c] w fun e w' => e = .returned (.int .i64 (rfE L c)) ∧ Below w.heap.size w w' := by
  have X0 := hideIt (BoxL.first w L b a o)
  have HC := hideIt (check_is L b a o _ (h.keep X0.out.bel))
  obtain ⟨ba, bc, rfl⟩ := h.bids.slice
  obtain ⟨aa, ac, rfl⟩ := h.asks.slice
  obtain ⟨oa, oc, rfl⟩ := h.owed.slice
  clear h
  cases hk : chkB L
  · have e : rfE L c = 130 := by unfold rfE; rw [if_pos hk]
    rw [e]
    rw [show chkI L = 130 by unfold chkI; rw [hk]; rfl] at HC
    obtain ⟨c0, c1, c2, c3, c4⟩ := X0.out.cells
    unfold laneV laneA at *
    obtain ⟨cl, nx, bids, asks, owed⟩ := L
    simp only at *
    clear e hk
    go_enter Try.func22, Try.ntmps22
    go_wp2_with fail
    refine HC.out.mono ?_
    rintro e w1 ⟨rfl, hb⟩
    dsimp only
    have X1 := hideIt (X0.out.keep hb)
    clear hb X0 HC c0 c1 c2 c3 c4
    go_wp2
    go_ret
    exact ⟨rfl, X1.out.bel⟩
  · rw [show chkI L = 0 by unfold chkI; rw [hk]; rfl] at HC
    have e : rfE L c = if L.call = c then 0 else 140 := by unfold rfE; rw [if_neg (by simp [hk])]
    rw [e]
    clear e hk
    obtain ⟨cl, nx, bids, asks, owed⟩ := L
    cases cl <;> cases c
    all_goals
      obtain ⟨c0, c1, c2, c3, c4⟩ := X0.out.cells
      unfold laneV laneA at *
      simp only at *
      go_enter Try.func22, Try.ntmps22
      go_wp2_with fail
      refine HC.out.mono ?_
      rintro e w1 ⟨rfl, hb⟩
      dsimp only
      have X1 := hideIt (X0.out.keep hb)
      clear hb X0 HC c0 c1 c2 c3 c4
      obtain ⟨c0, c1, c2, c3, c4⟩ := X1.out.cells
      simp only at c0 c1 c2 c3 c4
      have kz : w.heap.size < w1.heap.size := by have := X1.out.size; omega
      go_wp2
      go_ret
      exact ⟨by first | rfl | simp, X1.out.bel⟩
end Go.Proofs.Ytgnmghcdfihmgaa
namespace Go.Proofs.Ytgnmghcdfihmgaa
open Go.RowKit
set_option linter.all false
def volP (L : LaneV) (p : Int) : Int := min (dem p L.bids) (sup p L.asks)
def rstP (L : LaneV) (p : Int) : Int := max (dem p L.bids) (sup p L.asks) - min (dem p L.bids) (sup p L.asks)
def clS (L : LaneV) (st : Int × Int × Int) (p : Int) : Int × Int × Int := if st.2.1 < volP L p ∨ (volP L p = st.2.1 ∧ rstP L p < st.2.2) then (p, volP L p, rstP L p) else st
def clL (L : LaneV) : Int × Int × Int := (sortL (prL L.bids ++ prL L.asks)).foldl (clS L) (0, 0, 0)
set_option maxHeartbeats 16000000 in
set_option maxRecDepth 100000 in
theorem clearing_is (L : LaneV) (b a o : Value) (w : World) (h : Lan w L b a o) (hk : chkB L = true) : Calls Try.prog 26 #[laneV L b a o] w fun e w' => e = .returned (.tuple #[.int .i64 (clL L).1, .int .i64 (clL L).2.1]) ∧ Below w.heap.size w w' := by
  have hm := chk_may hk
  have X0 := hideIt (BoxL.first w L b a o)
  have HL := hideIt (fun W (hW : Below w.heap.size w W) => h.keep hW)
  have HPR := hideIt (fun W (hW : Below w.heap.size w W) => prices_is L b a o W (HL.out W hW) hm.lb hm.la)
  have HDM := hideIt (fun p K0 K1 W (hW : Below w.heap.size w W) (hd : Dep W 46 K0 K1 b) => demand_is p K0 K1 b L.bids W hd (HL.out W hW).bids hm.lb hm.tb)
  have HSP := hideIt (fun p K0 K1 W (hW : Below w.heap.size w W) (hd : Dep W 47 K0 K1 a) => supply_is p K0 K1 a L.asks W hd (HL.out W hW).asks hm.la hm.ta)
  have HBD := hideIt (fun p => dem_bd p L.bids hm.tb)
  have HBS := hideIt (fun p => sup_bd p L.asks hm.ta)
  have hlb := hm.lb
  have hla := hm.la
  have HST := hideIt (fun st p => show clS L st p = if st.2.1 < min (dem p L.bids) (sup p L.asks) ∨ (min (dem p L.bids) (sup p L.asks) = st.2.1 ∧ max (dem p L.bids) (sup p L.asks) - min (dem p L.bids) (sup p L.asks) < st.2.2) then (p, min (dem p L.bids) (sup p L.asks), max (dem p L.bids) (sup p L.asks) - min (dem p L.bids) (sup p L.asks)) else st from rfl)
  obtain ⟨PS, hPS⟩ : ∃ PS, PS = sortL (prL L.bids ++ prL L.asks) := ⟨_, rfl⟩
  have hpl : PS.length = (prL L.bids ++ prL L.asks).length := by rw [hPS, sortL_len]
  have hpl2 : PS.length ≤ 80 := by rw [hpl, List.length_append, prL_len, prL_len]; omega
  have HCL : Hid (clL L = PS.foldl (clS L) (0, 0, 0)) := by show _ = _; rw [hPS]; rfl
  rw [← hPS, ← hpl] at HPR
  have HF := hideIt (fun t (ht : t < PS.length) => show (PS.take (t + 1)).foldl (clS L) (0, 0, 0) = clS L ((PS.take t).foldl (clS L) (0, 0, 0)) PS[t] by rw [List.take_succ_eq_append_getElem ht, List.foldl_append]; rfl)
  have HFE : Hid ((PS.take PS.length).foldl (clS L) (0, 0, 0) = clL L) := by show _ = _; rw [List.take_length, HCL.out]
  have HFZ : Hid ((PS.take 0).foldl (clS L) (0, 0, 0) = (0, 0, 0)) := rfl
  clear hPS hpl HCL hm hk
  generalize hG : (fun st p => clS L st p) = G at *
  have HG2 : Hid (∀ st p, clS L st p = G st p) := fun st p => congrFun (congrFun hG st) p
  generalize hfu : (fun t : Nat => (PS.take t).foldl (clS L) (0, 0, 0)) = FT at *
  have HT1 : Hid (∀ t, (PS.take t).foldl (clS L) (0, 0, 0) = FT t) := fun t => congrFun hfu t
  simp only [HT1.out, HG2.out] at HF HFE HFZ HST
  clear hfu HT1 hG HG2
  generalize clL L = R at *
  obtain ⟨ba, bc, rfl⟩ := h.bids.slice
  obtain ⟨aa, ac, rfl⟩ := h.asks.slice
  obtain ⟨oa, oc, rfl⟩ := h.owed.slice
  have HD1 := hideIt (fun W => depth1_is ba L.bids.length bc W)
  have HD2 := hideIt (fun W => depth2_is aa L.asks.length ac W)
  clear h
  obtain ⟨c0, c1, c2, c3, c4⟩ := X0.out.cells
  unfold laneV laneA at *
  obtain ⟨cl, nx, bids, asks, owed⟩ := L
  simp only at *
  go_enter Try.func26, Try.ntmps26
  go_wp2_with fail
  refine (HD1.out _).mono ?_
  rintro e w1 ⟨K0, K1, rfl, hd, hb⟩
  dsimp only
  have X1 := hideIt (X0.out.keep hb)
  have E1 := hideIt hd
  clear hd hb X0 HD1 c0 c1 c2 c3 c4
  obtain ⟨c0, c1, c2, c3, c4⟩ := X1.out.cells
  simp only at c0 c1 c2 c3 c4
  have kz : w.heap.size < w1.heap.size := by have := X1.out.size; omega
  go_wp2_with fail
  refine (HD2.out _).mono ?_
  rintro e w2 ⟨K2, K3, rfl, hd, hb⟩
  dsimp only
  have X2 := hideIt (X1.out.keep hb)
  have E2 := hideIt hd
  have E1b := hideIt (E1.out.keep hb)
  clear hd hb X1 HD2 c0 c1 c2 c3 c4 kz E1
  obtain ⟨c0, c1, c2, c3, c4⟩ := X2.out.cells
  simp only at c0 c1 c2 c3 c4
  have kz : w.heap.size < w2.heap.size := by have := X2.out.size; omega
  go_wp2_with fail
  refine (HPR.out _ X2.out.bel).mono ?_
  rintro e w3 ⟨pv, rfl, ho, hb⟩
  dsimp only
  have B3 := hideIt (below_via X2.out.bel hb)
  have D1 := hideIt (E1b.out.keep hb)
  have D2 := hideIt (E2.out.keep hb)
  have P3 : Hid (SGot 1 8 intE w3 pv PS) := own_sgot (by rw [show celC intE PS = PS.map (Value.int .i64) from intC _]; exact ho) (by omega)
  obtain ⟨pa, pc, rfl⟩ := own_len ho
  clear ho hb X2 HPR c0 c1 c2 c3 c4 kz E1b E2
  obtain ⟨pa', pc', e, -, hr⟩ := P3.out.ints
  simp only [Value.slice.injEq, true_and] at e
  obtain ⟨rfl, rfl⟩ := e
  have HH := hideIt hr
  clear hr P3
  go_upto_region 5 with fail
  go_loopw [2, 3, 6, 22] (fun u v x y wr => ∃ t : Nat, ∃ p q r : Int, u = .int .i64 p ∧ v = .int .i64 q ∧ x = .int .i64 r ∧ y = .int .i64 t ∧ t ≤ PS.length ∧ Hid (FT t = (p, q, r)) ∧ Hid (Below w3.heap.size w3 wr)) (fun _ _ _ y _ => PS.length - (intOf y).toNat)
  case atStart => exact ⟨0, 0, 0, 0, rfl, rfl, rfl, rfl, Nat.zero_le _, HFZ, hideIt (Below.refl _ _)⟩
  case round =>
    obtain ⟨t, p, q, r, rfl, rfl, rfl, rfl, ht, HV, HR⟩ := hrel
    by_cases hlt : t < PS.length
    · have hltI : (t : Int) < (PS.length : Int) := by omega
      have ht0 : (0 : Int) ≤ (t : Int) := by omega
      have hw : IntKind.i64.wrap ((t : Int) + 1) = ((t + 1 : Nat) : Int) := by rw [IntKind.wrap_i64]; omega
      obtain ⟨bb, off, rfl, hbl, q0⟩ := HH.out t hlt
      have hblr : bb < wr.heap.size := Nat.lt_of_lt_of_le hbl HR.out.size
      have e0 := (HR.out.cell (p := ⟨bb, off + t, none⟩) hbl).trans q0
      have hs := HF.out t hlt
      rw [HV.out, HST.out] at hs
      have HS := hideIt hs
      clear hs HH HF HST q0 HV
      generalize PS[t] = at1 at *
      have hd0 := HBD.out at1
      have hs0 := HBS.out at1
      have HDA := hideIt (HDM.out at1 K0 K1)
      have HSA := hideIt (HSP.out at1 K2 K3)
      clear HBD HBS HDM HSP
      generalize dem at1 bids = dv at *
      generalize sup at1 asks = sv at *
      go_wp2_with fail
      refine (HDA.out _ (below_via B3.out HR.out) (D1.out.keep HR.out)).mono ?_
      rintro e w4 ⟨rfl, hb⟩
      dsimp only
      have R4 := hideIt (below_via HR.out hb)
      clear hb HR HDA e0 hblr
      go_wp2_with fail
      refine (HSA.out _ (below_via B3.out R4.out) (D2.out.keep R4.out)).mono ?_
      rintro e w5 ⟨rfl, hb⟩
      dsimp only
      have R5 := hideIt (below_via R4.out hb)
      clear hb R4 HSA
      obtain ⟨vv, hvv⟩ : ∃ vv, vv = min dv sv := ⟨_, rfl⟩
      obtain ⟨rr, hrr⟩ : ∃ rr, rr = max dv sv - min dv sv := ⟨_, rfl⟩
      rw [← hrr, ← hvv] at HS
      have hv0 : 0 ≤ vv ∧ vv ≤ 40000000 := by omega
      have hr0 : 0 ≤ rr ∧ rr ≤ 40000000 := by omega
      have hwr : IntKind.i64.wrap (max dv sv - min dv sv) = rr := by rw [← hrr, IntKind.wrap_i64]; omega
      have HVV := hideIt hvv
      have HRR := hideIt hrr
      clear hvv hrr hd0 hs0
      go_upto_region 9 with fail
      rw [← HVV.out]
      by_cases h1 : q < vv
      · have HS1 : Hid (FT (t + 1) = (at1, vv, rr)) := by
          show _ = _
          rw [HS.out, if_pos (.inl h1)]
        clear HS
        go_wp2
        go_roundw
        case rel => exact ⟨t + 1, _, _, _, rfl, rfl, rfl, by go_num, by omega, HS1, R5⟩
        case measure => simp [intOf]; omega
      · by_cases h2 : vv = q
        · subst h2
          by_cases h3 : rr < r
          · have HS1 : Hid (FT (t + 1) = (at1, vv, rr)) := by
              show _ = _
              rw [HS.out, if_pos (.inr ⟨rfl, h3⟩)]
            clear HS
            go_wp2
            go_roundw
            case rel => exact ⟨t + 1, _, _, _, rfl, rfl, rfl, by go_num, by omega, HS1, R5⟩
            case measure => simp [intOf]; omega
          · have HS1 : Hid (FT (t + 1) = (p, vv, r)) := by
              show _ = _
              rw [HS.out, if_neg (by rintro (h | h); exact h1 h; exact h3 h.2)]
            clear HS
            go_wp2
            go_roundw
            case rel => exact ⟨t + 1, _, _, _, rfl, rfl, rfl, by go_num, by omega, HS1, R5⟩
            case measure => simp [intOf]; omega
        · have HS1 : Hid (FT (t + 1) = (p, q, r)) := by
            show _ = _
            rw [HS.out, if_neg (by rintro (h | h); exact h1 h; exact h2 h.1)]
          have h2q : (vv == q) = false := by simpa using h2
          clear HS
          go_wp2
          go_roundw
          case rel => exact ⟨t + 1, _, _, _, rfl, rfl, rfl, by go_num, by omega, HS1, R5⟩
          case measure => simp [intOf]; omega
    · have hltI : ¬ (t : Int) < (PS.length : Int) := by omega
      have het : t = PS.length := by omega
      subst het
      have hE := HFE.out
      rw [HV.out] at hE
      have HE := hideIt hE
      have B8 := hideIt (below_via B3.out HR.out)
      clear HR HH HF HFE hE HV
      go_wp2
      exact bodyPost_ret (v := .tuple #[.int .i64 p, .int .i64 q]) (by simp [results, Try.results26, go_sem]) rfl ⟨by rw [← HE.out], B8.out⟩
end Go.Proofs.Ytgnmghcdfihmgaa
namespace Go.Proofs.Ytgnmghcdfihmgaa
open Go.RowKit
set_option linter.all false
def prR (L : LaneV) : Int × Int × Int := if rfE L true = 0 then ((clL L).1, (clL L).2.1, 0) else (0, 0, rfE L true)
theorem rf_chk {L : LaneV} {c : Bool} (h : rfE L c = 0) : chkB L = true ∧ L.call = c := by
  unfold rfE at h
  cases hk : chkB L
  · rw [if_pos hk] at h
    cases h
  · rw [if_neg (by simp [hk])] at h
    split at h
    · rename_i e
      exact ⟨rfl, e⟩
    · cases h
set_option maxHeartbeats 4000000 in
set_option maxRecDepth 100000 in
theorem price_is (L : LaneV) (b a o : Value) (w : World) (h : Lan w L b a o) : Calls Try.prog 13 #[laneV L b a o] w fun e w' => e = .returned (.tuple #[.int .i64 (prR L).1, .int .i64 (prR L).2.1, .int .i64 (prR L).2.2]) ∧ Below w.heap.size w w' := by
  have X0 := hideIt (BoxL.first w L b a o)
  have HR := hideIt (aRefused_is L b a o true _ (h.keep X0.out.bel))
  by_cases h0 : rfE L true = 0
  · have e : prR L = ((clL L).1, (clL L).2.1, 0) := by unfold prR; rw [if_pos h0]
    rw [e]
    dsimp only
    rw [h0] at HR
    have HCL := hideIt (fun W (hW : Below w.heap.size w W) => clearing_is L b a o W (h.keep hW) (rf_chk h0).1)
    generalize clL L = R at *
    obtain ⟨ba, bc, rfl⟩ := h.bids.slice
    obtain ⟨aa, ac, rfl⟩ := h.asks.slice
    obtain ⟨oa, oc, rfl⟩ := h.owed.slice
    clear h e h0
    obtain ⟨c0, c1, c2, c3, c4⟩ := X0.out.cells
    unfold laneV laneA at *
    obtain ⟨cl, nx, bids, asks, owed⟩ := L
    simp only at *
    go_enter Try.func13, Try.ntmps13
    go_wp2_with fail
    refine HR.out.mono ?_
    rintro e w1 ⟨rfl, hb⟩
    dsimp only
    have X1 := hideIt (X0.out.keep hb)
    clear hb X0 HR c0 c1 c2 c3 c4
    obtain ⟨c0, c1, c2, c3, c4⟩ := X1.out.cells
    simp only at c0 c1 c2 c3 c4
    have kz : w.heap.size < w1.heap.size := by have := X1.out.size; omega
    go_wp2_with fail
    refine (HCL.out _ X1.out.bel).mono ?_
    rintro e w2 ⟨rfl, hb⟩
    dsimp only
    have B2 := hideIt (below_via X1.out.bel hb)
    clear hb X1 HCL c0 c1 c2 c3 c4 kz
    go_wp2
    exact bodyPost_ret (v := .tuple #[.int .i64 R.1, .int .i64 R.2.1, .int .i64 0]) (by simp [results, Try.results13, go_sem]) rfl ⟨rfl, B2.out⟩
  · have e : prR L = (0, 0, rfE L true) := by unfold prR; rw [if_neg h0]
    rw [e]
    dsimp only
    generalize rfE L true = R at *
    obtain ⟨ba, bc, rfl⟩ := h.bids.slice
    obtain ⟨aa, ac, rfl⟩ := h.asks.slice
    obtain ⟨oa, oc, rfl⟩ := h.owed.slice
    have h0q : (R == 0) = false := by simpa using h0
    clear h e
    obtain ⟨c0, c1, c2, c3, c4⟩ := X0.out.cells
    unfold laneV laneA at *
    obtain ⟨cl, nx, bids, asks, owed⟩ := L
    simp only at *
    go_enter Try.func13, Try.ntmps13
    go_wp2_with fail
    refine HR.out.mono ?_
    rintro e w1 ⟨rfl, hb⟩
    dsimp only
    have X1 := hideIt (X0.out.keep hb)
    clear hb X0 HR c0 c1 c2 c3 c4
    go_wp2
    exact bodyPost_ret (v := .tuple #[.int .i64 0, .int .i64 0, .int .i64 R]) (by simp [results, Try.results13, go_sem]) rfl ⟨rfl, X1.out.bel⟩
end Go.Proofs.Ytgnmghcdfihmgaa
namespace Go.Proofs.Ytgnmghcdfihmgaa
open Go.RowKit
set_option linter.all false
theorem exists_min (q : Int) : ∀ (l : List Int), (∃ x ∈ l, q ≤ x) → ∃ m ∈ l, q ≤ m ∧ ∀ x ∈ l, q ≤ x → m ≤ x
  | [], h => by obtain ⟨x, hx, -⟩ := h; simp at hx
  | y :: l, h => by
    by_cases hl : ∃ x ∈ l, q ≤ x
    · obtain ⟨m, hm, hq, hmin⟩ := exists_min q l hl
      by_cases hy : q ≤ y ∧ y ≤ m
      · refine ⟨y, List.mem_cons_self .., hy.1, fun x hx hqx => ?_⟩
        rw [List.mem_cons] at hx
        rcases hx with rfl | hx
        · exact Int.le_refl _
        · exact Int.le_trans hy.2 (hmin x hx hqx)
      · refine ⟨m, List.mem_cons_of_mem _ hm, hq, fun x hx hqx => ?_⟩
        rw [List.mem_cons] at hx
        rcases hx with rfl | hx
        · omega
        · exact hmin x hx hqx
    · obtain ⟨x, hx, hqx⟩ := h
      rw [List.mem_cons] at hx
      rcases hx with rfl | hx
      · refine ⟨x, List.mem_cons_self .., hqx, fun z hz hqz => ?_⟩
        rw [List.mem_cons] at hz
        rcases hz with rfl | hz
        · exact Int.le_refl _
        · exact absurd ⟨z, hz, hqz⟩ hl
      · exact absurd ⟨x, hx, hqx⟩ hl
theorem dem_eq {p q : Int} {l : List OrdV} (h : ∀ o ∈ l, (q ≤ o.price ↔ p ≤ o.price)) : dem p l = dem q l := by
  unfold dem
  congr 1
  apply List.map_congr_left
  intro o ho
  by_cases e : q ≤ o.price
  · rw [if_pos e, if_pos ((h o ho).1 e)]
  · rw [if_neg e, if_neg (fun c => e ((h o ho).2 c))]
theorem dem_none {q : Int} {l : List OrdV} (h : ∀ o ∈ l, ¬ q ≤ o.price) : dem q l = 0 := by
  induction l with
  | nil => rfl
  | cons o l ih =>
    have e : dem q (o :: l) = (if q ≤ o.price then o.left else 0) + dem q l := by simp [dem]
    rw [e, if_neg (h o (List.mem_cons_self ..)), ih (fun x hx => h x (List.mem_cons_of_mem _ hx))]
    rfl
theorem sup_mono {p q : Int} (hpq : q ≤ p) : ∀ {l : List OrdV}, OkT l → sup q l ≤ sup p l
  | [], _ => by simp [sup]
  | o :: l, h => by
    have ih := sup_mono hpq (l := l) (fun x hx => h x (List.mem_cons_of_mem _ hx))
    have ho := h o (List.mem_cons_self ..)
    have e : ∀ r, sup r (o :: l) = (if o.price ≤ r then o.left else 0) + sup r l := fun r => by simp [sup]
    rw [e, e]
    split <;> split <;> omega
theorem vol_listed {L : LaneV} (hb : OkT L.bids) (ha : OkT L.asks) (q : Int) : volP L q ≤ 0 ∨ ∃ p ∈ prL L.bids, volP L q ≤ volP L p := by
  by_cases h : ∃ x ∈ prL L.bids, q ≤ x
  · obtain ⟨m, hm, hq, hmin⟩ := exists_min q _ h
    refine .inr ⟨m, hm, ?_⟩
    have e : dem m L.bids = dem q L.bids := dem_eq (fun o ho => ⟨fun hqo => hmin o.price (List.mem_map.2 ⟨o, ho, rfl⟩) hqo, fun hmo => Int.le_trans hq hmo⟩)
    have s := sup_mono hq ha
    unfold volP
    rw [e]
    omega
  · refine .inl ?_
    have e : dem q L.bids = 0 := dem_none (fun o ho hqo => h ⟨o.price, List.mem_map.2 ⟨o, ho, rfl⟩, hqo⟩)
    unfold volP
    rw [e]
    omega
theorem rst_pos (L : LaneV) (p : Int) : 0 ≤ rstP L p := by unfold rstP; omega
theorem vol_pos {L : LaneV} (hb : OkT L.bids) (ha : OkT L.asks) (p : Int) : 0 ≤ volP L p := by
  have h1 := (dem_bd p L.bids hb).1
  have h2 := (sup_bd p L.asks ha).1
  unfold volP
  omega
/-- What the fold over the prices keeps. -/
def ClI (st : Int × Int × Int) : Prop := (st.1 = 0 ∧ st.2.1 = 0 ∧ st.2.2 = 0) ∨ (0 < st.1 ∧ 0 < st.2.1)
theorem cl_fold (L : LaneV) (hv : ∀ p, 0 ≤ volP L p) : ∀ (ps : List Int) (st : Int × Int × Int), (∀ p ∈ ps, 1 ≤ p) → ClI st → ClI (ps.foldl (clS L) st) ∧ st.2.1 ≤ (ps.foldl (clS L) st).2.1 ∧ ∀ p ∈ ps, volP L p ≤ (ps.foldl (clS L) st).2.1
  | [], st, _, hi => ⟨hi, Int.le_refl _, fun p hp => by simp at hp⟩
  | p :: ps, st, hp, hi => by
    have h1 := hp p (List.mem_cons_self ..)
    have hs : ClI (clS L st p) ∧ st.2.1 ≤ (clS L st p).2.1 ∧ volP L p ≤ (clS L st p).2.1 := by
      have hv1 := hv p
      have hr1 := rst_pos L p
      unfold clS
      split
      · rename_i hc
        refine ⟨.inr ⟨by show 0 < p; omega, ?_⟩, ?_, Int.le_refl _⟩
        · show 0 < volP L p
          rcases hi with ⟨e1, e2, e3⟩ | ⟨e1, e2⟩ <;> rcases hc with hc | hc <;> omega
        · show st.2.1 ≤ volP L p
          rcases hc with hc | hc <;> omega
      · rename_i hc
        exact ⟨hi, Int.le_refl _, by rw [not_or] at hc; omega⟩
    obtain ⟨i1, i2, i3⟩ := cl_fold L hv ps (clS L st p) (fun x hx => hp x (List.mem_cons_of_mem _ hx)) hs.1
    rw [List.foldl_cons]
    refine ⟨i1, Int.le_trans hs.2.1 i2, fun x hx => ?_⟩
    rw [List.mem_cons] at hx
    rcases hx with rfl | hx
    · exact Int.le_trans hs.2.2 i2
    · exact i3 x hx
theorem most_all {L : LaneV} (hk : chkB L = true) (q : Int) : volP L q ≤ (clL L).2.1 ∧ ((0 < (clL L).2.1) ↔ 0 < (clL L).1) := by
  have hm := chk_may hk
  have hv := fun p => vol_pos hm.tb hm.ta p
  have hps : ∀ p ∈ sortL (prL L.bids ++ prL L.asks), 1 ≤ p := by
    intro p hp
    have := (sort_perm _).mem_iff.1 hp
    rw [List.mem_append] at this
    unfold prL at this
    simp only [List.mem_map] at this
    rcases this with ⟨o, ho, rfl⟩ | ⟨o, ho, rfl⟩
    · exact (hm.tb o ho).1.1
    · exact (hm.ta o ho).1.1
  obtain ⟨i1, i2, i3⟩ := cl_fold L hv (sortL (prL L.bids ++ prL L.asks)) (0, 0, 0) hps (.inl ⟨rfl, rfl, rfl⟩)
  refine ⟨?_, ?_⟩
  · rcases vol_listed hm.tb hm.ta q with h | ⟨p, hp, h⟩
    · exact Int.le_trans h i2
    · exact Int.le_trans h (i3 p ((sort_perm _).mem_iff.2 (List.mem_append_left _ hp)))
  · show (0 < ((sortL (prL L.bids ++ prL L.asks)).foldl (clS L) (0, 0, 0)).2.1) ↔ _
    rcases i1 with ⟨e1, e2, e3⟩ | ⟨e1, e2⟩
    · unfold clL
      omega
    · unfold clL
      omega
end Go.Proofs.Ytgnmghcdfihmgaa
namespace Go.Proofs.Ytgnmghcdfihmgaa
open Go.RowKit Go.Maps
set_option linter.all false
theorem cl_law : WideMaps.KeyLaw Try.prog 73 := deep_law (m := 2) (by omega) (by kernel_rfl) (by kernel_rfl) (by kernel_rfl)
theorem cl_keyed : Keyed Try.prog 73 := Keyed.of_law cl_law
def clV (x a : Int) : Value := .agg #[.int .i64 x, .int .i64 a]
def clK (x a : Int) : Lit := .string (keyBytes [.int .i64 x, .int .i64 a])
theorem wf64 (x : Int) (h1 : -9223372036854775808 ≤ x) (h2 : x ≤ 9223372036854775807) : (Lit.int .i64 x).wf = true := by
  have e1 : IntKind.i64.min = -9223372036854775808 := by decide
  have e2 : IntKind.i64.max = 9223372036854775807 := by decide
  simp [Lit.wf, e1, e2]; omega
/-- A claim: an account, an asset. -/
def Cl2 (x a : Int) : Prop := (1 ≤ x ∧ x ≤ 8) ∧ (0 ≤ a ∧ a ≤ 1)
theorem Cl2.wf {x a : Int} (h : Cl2 x a) : (Lit.int .i64 x).wf = true ∧ (Lit.int .i64 a).wf = true := by
  obtain ⟨h1, h2⟩ := h
  exact ⟨wf64 x (by omega) (by omega), wf64 a (by omega) (by omega)⟩
theorem cl_formed (x a : Int) : (clV x a).formed Try.prog 73 = true := by kernel_rfl
theorem cl_type : Try.prog.keyType 73 = true := by kernel_rfl
theorem u3 : Try.prog.underlying 3 = some (.int .i64) := by kernel_rfl
theorem c73 : Try.prog.cellsOf 73 = 2 := by kernel_rfl
theorem c3 : Try.prog.cellsOf 3 = 1 := by kernel_rfl
theorem big_types : Try.prog.types.size + 1 = (Try.prog.types.size - 1) + 1 + 1 := by kernel_rfl
theorem cl_key (x a : Int) (h : Cl2 x a) : keyOf Try.prog 73 (clV x a) = some (clK x a) := by
  obtain ⟨h1, h2⟩ := h.wf
  have hf := cl_formed x a
  unfold keyOf
  rw [Try.underlying73]
  simp only [cl_type, hf, Bool.and_self, if_true]
  have e3 : ∀ d x, (Lit.int .i64 x).wf = true → Try.prog.keyLits (d + 1) 3 [.int .i64 x] = some [.int .i64 x] := by
    intro d x hx
    unfold Program.keyLits
    rw [u3]
    simp only
    rw [if_pos ⟨trivial, hx⟩]
  obtain ⟨d, hd⟩ : ∃ d, Try.prog.types.size + 1 = d + 1 + 1 := ⟨_, big_types⟩
  rw [hd]
  have e : Try.prog.keyLits (d + 1 + 1) 73 (clV x a).cells.toList = some [.int .i64 x, .int .i64 a] := by
    have hc : (clV x a).cells.toList = [.int .i64 x, .int .i64 a] := rfl
    rw [hc]
    unfold Program.keyLits
    rw [Try.underlying73]
    simp only
    rw [c73, if_pos (show ([Value.int IntKind.i64 x, Value.int IntKind.i64 a] : List Value).length = 2 from rfl), show List.range 2 = [0, 1] from rfl]
    simp only [ List.mapM_cons, List.mapM_nil, c3, Nat.zero_mul, Nat.one_mul, List.drop_zero, List.drop_succ_cons, List.take_succ_cons, List.take_zero, e3 d _ h1, e3 d _ h2]
    rfl
  rw [e]
  rfl
theorem cl_inj {x a y b : Int} (h : Cl2 x a) (h' : Cl2 y b) (e : clK x a = clK y b) : x = y ∧ a = b := by
  unfold clK at e
  simp only [Lit.string.injEq] at e
  have := keyBytes_inj (l := [.int .i64 x, .int .i64 a]) (l' := [.int .i64 y, .int .i64 b]) ⟨rfl, rfl, trivial⟩ (by
    intro l hl
    simp only [List.mem_cons, List.not_mem_nil, or_false] at hl
    rcases hl with rfl | rfl
    · exact h.wf.1
    · exact h.wf.2) (by
    intro l hl
    simp only [List.mem_cons, List.not_mem_nil, or_false] at hl
    rcases hl with rfl | rfl
    · exact h'.wf.1
    · exact h'.wf.2) e
  simpa using this
def heldR (v : Value) : Option (DataW Value × List MemPlace) := some (.held v, [])
theorem ownsMap_block {w w' : World} {b n : Nat} {D : DataW Value} (h : w.ownsMap Try.prog 73 heldR b n D) (hb : w'.heap[b]? = w.heap[b]?) : w'.ownsMap Try.prog 73 heldR b n D := by
  obtain ⟨es, clock, hb', r⟩ := h
  exact ⟨es, clock, hb.trans hb', r⟩
theorem zero3 (w : World) : (zeroValue 3).run Try.prog w = .ok (.int .i64 0) w := by kernel_rfl
abbrev Cls := Int → Int → Option Int
/-- Claims in memory. -/
def CM (w : World) (mb c : Nat) (f : Cls) : Prop := ∃ n D, n ≤ c ∧ w.ownsMap Try.prog 73 heldR mb n D ∧ (∀ x a, Cl2 x a → ∀ p, f x a = some p → ∀ z, D.atKey (clK x a) z = .held (.int .i64 p)) ∧ (∀ x a, Cl2 x a → f x a = none → ∀ z, D.atKey (clK x a) z = z) ∧ ∀ kl, has D kl = true → ∃ x a, Cl2 x a ∧ kl = clK x a
theorem CM.made (w : World) : CM (w.alloc (.map #[] 0)) w.heap.size 0 (fun _ _ => none) :=
  ⟨0, .map [], Nat.le_refl _, World.ownsMap_made w Try.prog 73 heldR, (fun x a _ p h => by cases h), (fun x a _ _ z => rfl), fun kl h => by cases h⟩
theorem CM.block {w w' : World} {mb c : Nat} {f : Cls} (h : CM w mb c f) (hb : w'.heap[mb]? = w.heap[mb]?) : CM w' mb c f := by
  obtain ⟨n, D, h1, h2, h3, h4, h5⟩ := h
  exact ⟨n, D, h1, ownsMap_block h2 hb, h3, h4, h5⟩
theorem CM.lt {w : World} {mb c : Nat} {f : Cls} (h : CM w mb c f) : mb < w.heap.size := by
  obtain ⟨n, D, h1, h2, h3, h4, h5⟩ := h
  exact h2.lt
theorem CM.keep {w w' : World} {mb c : Nat} {f : Cls} (h : CM w mb c f) (hb : Below w.heap.size w w') : CM w' mb c f := h.block (hb.block mb h.lt)
theorem CM.look {w : World} {mb c : Nat} {f : Cls} (h : CM w mb c f) (x a : Int) (hx : Cl2 x a) : (Instr.lookup 53 (.map (some mb)) (clV x a) false).run Try.prog w = .ok (.int .i64 ((f x a).getD 0)) w := by
  obtain ⟨n, D, h1, h2, h3, h4, h5⟩ := h
  obtain ⟨v, ps, hrun, hv⟩ := h2.lookup cl_keyed Try.underlying53 (zero3 w) (zd := .held (.int .i64 0)) (zp := []) rfl (key := clV x a) (kl := clK x a) (cl_key x a hx)
  cases hf : f x a with
  | none =>
    rw [h4 x a hx hf] at hv
    simp [heldR] at hv
    rw [hrun, hv.1]
    rfl
  | some p =>
    rw [h3 x a hx p hf] at hv
    simp [heldR] at hv
    rw [hrun, hv.1]
    rfl
def updC (f : Cls) (x a p : Int) : Cls := fun y b => if y = x ∧ b = a then some p else f y b
theorem CM.store {w : World} {mb c : Nat} {f : Cls} (h : CM w mb c f) (hc : c ≤ 1000000) (x a : Int) (hx : Cl2 x a) (p : Int) : ∃ w', (Instr.mapUpdate 53 (.map (some mb)) (clV x a) (.int .i64 p)).run Try.prog w = .ok () w' ∧ CM w' mb (c + 1) (updC f x a p) ∧ w.grownBy w' (some mb) := by
  obtain ⟨n, D, h1, h2, h3, h4, h5⟩ := h
  obtain ⟨w', hrun, hown, hturn⟩ := h2.store cl_keyed Try.underlying53 (by unfold maxLen; omega) (val := .int .i64 p) (cl_key x a hx) (d := .held (.int .i64 p)) (ps := []) rfl
  have hne : ∀ y b : Int, Cl2 y b → ¬ (y = x ∧ b = a) → clK y b ≠ clK x a := fun y b hy hn e => hn (cl_inj hy hx e)
  refine ⟨w', hrun, ⟨n + 1, _, by omega, hown, fun y b hy q hq z => ?_, fun y b hy hq z => ?_, fun kl hkl => ?_⟩, hturn.grown⟩
  · unfold updC at hq
    by_cases e : y = x ∧ b = a
    · obtain ⟨rfl, rfl⟩ := e
      rw [if_pos ⟨rfl, rfl⟩] at hq
      cases hq
      exact atKey_put_same h2.isMap (show WideAt.IsKeyLit (clK y b) from trivial) _ z
    · rw [if_neg e] at hq
      exact (atKey_put_other (hne y b hy e) _ z).trans (h3 y b hy q hq z)
  · unfold updC at hq
    by_cases e : y = x ∧ b = a
    · rw [if_pos e] at hq
      cases hq
    · rw [if_neg e] at hq
      exact (atKey_put_other (hne y b hy e) _ z).trans (h4 y b hy hq z)
  · by_cases e : kl = clK x a
    · exact ⟨x, a, hx, e⟩
    · rw [has_put_other e] at hkl
      exact h5 kl hkl
end Go.Proofs.Ytgnmghcdfihmgaa
namespace Go.Proofs.Ytgnmghcdfihmgaa
open Go.RowKit Go.Maps
set_option linter.all false
def clsOf (l : List OweV) : Cls := l.foldl (fun f y => updC f y.acc y.asset y.n) (fun _ _ => none)
theorem cls_take {l : List OweV} {t : Nat} (h : t < l.length) : clsOf (l.take (t + 1)) = updC (clsOf (l.take t)) l[t].acc l[t].asset l[t].n := by
  unfold clsOf
  rw [List.take_succ_eq_append_getElem h, List.foldl_append]
  rfl
set_option maxHeartbeats 8000000 in
set_option maxRecDepth 100000 in
theorem claimsOf_is (v : Value) (l : List OweV) (w : World) (h : Owes w v l) (hk : ∀ y ∈ l, Cl2 y.acc y.asset) (hl : l.length ≤ 1000) : Calls Try.prog 25 #[v] w fun e w' => e = .returned (.map (some w.heap.size)) ∧ CM w' w.heap.size l.length (clsOf l) ∧ Below w.heap.size w w' := by
  obtain ⟨a, c, rfl, h8, hr⟩ := h.owes
  have HH := hideIt hr
  have HK := hideIt (fun t (ht : t < l.length) => hk l[t] (List.getElem_mem ht))
  have HS := hideIt (fun t (ht : t < l.length) => cls_take ht)
  have HE : Hid (clsOf (l.take l.length) = clsOf l) := by show _ = _; rw [List.take_length]
  have HZ : Hid (clsOf (l.take 0) = fun _ _ => none) := rfl
  generalize hfu : (fun t : Nat => clsOf (l.take t)) = F at *
  have HT1 : Hid (∀ t, clsOf (l.take t) = F t) := fun t => congrFun hfu t
  simp only [HT1.out] at HS HE HZ
  clear hfu HT1 hr h hk
  generalize clsOf l = R at *
  have M0 := hideIt (CM.made w)
  have B0 := hideIt (below1 w (.map #[] 0))
  have hmm := @run_makeMap Try.prog
  go_enter Try.func25, Try.ntmps25
  go_upto_region 3 with fail
  generalize w.alloc (.map #[] 0) = W0 at *
  go_loopw [9] (fun x wr => ∃ t : Nat, x = .int .i64 t ∧ t ≤ l.length ∧ Hid (CM wr w.heap.size t (F t) ∧ Below w.heap.size w wr)) (fun x _ => l.length - (intOf x).toNat)
  case atStart => exact ⟨0, rfl, Nat.zero_le _, hideIt ⟨by rw [HZ.out]; exact M0.out, B0.out⟩⟩
  case round =>
    clear M0 B0
    obtain ⟨t, rfl, ht, HR⟩ := hrel
    by_cases hlt : t < l.length
    · have hltI : (t : Int) < (l.length : Int) := by omega
      have ht0 : (0 : Int) ≤ (t : Int) := by omega
      have hw : IntKind.i64.wrap ((t : Int) + 1) = ((t + 1 : Nat) : Int) := by rw [IntKind.wrap_i64]; omega
      obtain ⟨b, off, rfl, hbl, q0, q1, q2⟩ := HH.out t hlt
      have hblr : b < wr.heap.size := Nat.lt_of_lt_of_le hbl HR.out.2.size
      have e0 := (HR.out.2.cell (p := ⟨b, off + t * 3, none⟩) hbl).trans q0
      have e1 := (HR.out.2.cell (p := ⟨b, off + t * 3 + 1, none⟩) hbl).trans q1
      have e2 := (HR.out.2.cell (p := ⟨b, off + t * 3 + 2, none⟩) hbl).trans q2
      have hky := HK.out t hlt
      have HST := hideIt (HS.out t hlt)
      clear q0 q1 q2 HH HK HS
      generalize l[t] = y at *
      obtain ⟨yc, ys, yn⟩ := y
      dsimp only at e0 e1 e2 hky HST
      have hb1 := below1 wr (.cells #[.int .i64 yc, .int .i64 ys, .int .i64 yn] 48)
      obtain ⟨w', hrun, hM, hgr⟩ := CM.store (HR.out.1.keep hb1) (by omega) yc ys hky yn
      have Z : Hid (CM w' w.heap.size (t + 1) (F (t + 1)) ∧ Below w.heap.size w w') := by
        refine ⟨by rw [HST.out]; exact hM, ?_⟩
        exact below_out (below_via HR.out.2 hb1) (Out.ofGrown (F := fun k => k = w.heap.size) hgr (fun k e => by cases e; rfl)) (fun k e => by omega)
      unfold clV at hrun
      clear hM hgr hb1 HR HST hky
      go_wp2
      go_roundw
      case rel => exact ⟨t + 1, by go_num, by omega, Z⟩
      case measure => simp [intOf]; omega
    · have hltI : ¬ (t : Int) < (l.length : Int) := by omega
      have het : t = l.length := by omega
      subst het
      clear HH HK HS
      go_wp2
      go_ret
      exact ⟨rfl, by rw [← HE.out]; exact HR.out.1, HR.out.2⟩
end Go.Proofs.Ytgnmghcdfihmgaa
namespace Go.Proofs.Ytgnmghcdfihmgaa
open Go.RowKit Go.Maps
set_option linter.all false
def cg (f : Cls) (x a : Int) : Int := (f x a).getD 0
def one1 (f : Cls) (x a : Int) : List OweV := if 0 < cg f x a then [⟨x, a, cg f x a⟩] else []
def prt (f : Cls) (x : Int) : Nat → List OweV
  | 0 => []
  | 1 => one1 f x 0
  | _ => one1 f x 0 ++ one1 f x 1
def lstK (f : Cls) : Nat → List OweV
  | 0 => []
  | k + 1 => lstK f k ++ prt f ((k : Int) + 1) 2
theorem one1_len (f : Cls) (x a : Int) : (one1 f x a).length ≤ 1 := by unfold one1; split <;> simp
theorem prt_len (f : Cls) (x : Int) (j : Nat) : (prt f x j).length ≤ 2 := by
  unfold prt
  split
  · simp
  · have := one1_len f x 0; omega
  · have := one1_len f x 0
    have := one1_len f x 1
    rw [List.length_append]; omega
theorem lstK_len (f : Cls) : ∀ k, (lstK f k).length ≤ 2 * k
  | 0 => by simp [lstK]
  | k + 1 => by
    have := lstK_len f k
    have := prt_len f ((k : Int) + 1) 2
    unfold lstK
    rw [List.length_append]; omega
set_option maxHeartbeats 8000000 in
set_option maxRecDepth 100000 in
theorem list_is (mb c : Nat) (f : Cls) (w : World) (h : CM w mb c f) : Calls Try.prog 31 #[.map (some mb)] w fun e w' => ∃ v, e = .returned v ∧ w'.ownsRow w.heap.size 48 3 v (lstK f 8).length (celC oweE (lstK f 8)) ∧ Below w.heap.size w w' := by
  have HC := hideIt (fun W (hW : Below w.heap.size w W) => h.keep hW)
  clear h
  go_enter Try.func31, Try.ntmps31
  go_upto_region 3 with fail
  go_loopw [3, 4] (fun u x wr => ∃ k : Nat, x = .int .i64 ((k : Int) + 1) ∧ k ≤ 8 ∧ Hid (wr.ownsRow w.heap.size 48 3 u (lstK f k).length (celC oweE (lstK f k)) ∧ Below w.heap.size w wr)) (fun _ x _ => 10 - (intOf x).toNat)
  case atStart => exact ⟨0, rfl, Nat.zero_le _, hideIt ⟨own_nil _ _, Below.refl _ _⟩⟩
  case round =>
    obtain ⟨k, rfl, hk, HR⟩ := hrel
    by_cases hlt : k < 8
    · have hle : (k : Int) + 1 ≤ 8 := by omega
      have hwk : IntKind.i64.wrap ((k : Int) + 1 + 1) = ((k + 1 : Nat) : Int) + 1 := by rw [IntKind.wrap_i64]; omega
      go_upto_region 6 with fail
      go_loopw [3, 5] (fun u x wr => ∃ j : Int, x = .int .i64 j ∧ (j = 0 ∨ j = 1 ∨ j = 2) ∧ Hid (wr.ownsRow w.heap.size 48 3 u (lstK f k ++ prt f ((k : Int) + 1) j.toNat).length (celC oweE (lstK f k ++ prt f ((k : Int) + 1) j.toNat)) ∧ Below w.heap.size w wr)) (fun _ x _ => 2 - (intOf x).toNat)
      case atStart => exact ⟨0, rfl, .inl rfl, hideIt ⟨by rw [show prt f ((k : Int) + 1) (0 : Int).toNat = [] from rfl, List.append_nil]; exact HR.out.1, HR.out.2⟩⟩
      case round =>
        clear HR
        obtain ⟨j, rfl, hj, HR⟩ := hrel
        rcases hj with rfl | rfl | rfl
        · rw [show (0 : Int).toNat = 0 from rfl] at HR
          have hlk := (HC.out wr HR.out.2).look ((k : Int) + 1) 0 ⟨by omega, by omega⟩
          unfold clV at hlk
          have hpo : prt f ((k : Int) + 1) 1 = prt f ((k : Int) + 1) 0 ++ one1 f ((k : Int) + 1) 0 := rfl
          have hln1 := lstK_len f k
          have hln2 := prt_len f ((k : Int) + 1) 0
          have HO := hideIt HR.out.1
          have HB := hideIt HR.out.2
          obtain ⟨ua, uc, rfl⟩ := own_len HO.out
          unfold one1 cg at hpo
          generalize (f ((k : Int) + 1) 0).getD 0 = gv at *
          by_cases hg : 0 < gv
          · rw [if_pos hg] at hpo
            have hgd : decide (0 < gv) = true := decide_eq_true hg
            have HPO := hideIt hpo
            have hb1 := below1 wr (.cells #[.int .i64 ((k : Int) + 1), .int .i64 0, .int .i64 gv] 48)
            obtain ⟨v', w', hrun, how, hgr⟩ := app1 (enc := oweE) (t := 23) oweK owe1 Try.underlying23 info63 rfl (by omega) _ w.heap.size _ (lstK f k ++ prt f ((k : Int) + 1) 0) ⟨(k : Int) + 1, 0, gv⟩ wr.heap.size 1 (below_via HB.out hb1).size (own_keep HO.out hb1) (heap_alloc_new wr _) (by rw [List.length_append]; omega) (by rw [List.length_append]; unfold maxLen; omega)
            have Z : Hid (w'.ownsRow w.heap.size 48 3 v' (lstK f k ++ prt f ((k : Int) + 1) 1).length (celC oweE (lstK f k ++ prt f ((k : Int) + 1) 1)) ∧ Below w.heap.size w w') := by
              refine ⟨?_, grown_own hgr (own_keep HO.out hb1) (Nat.le_refl _) (below_via HB.out hb1)⟩
              rw [HPO.out, ← List.append_assoc]
              exact how
            have HRUN := hideIt hrun
            unfold oweE at HRUN
            try dsimp only at HRUN
            obtain ⟨va, vc, rfl⟩ := own_len Z.out.1
            clear hrun how hgr hb1 HO HB HR hpo
            go_wp2_with (at_builtin; refine Lib.wpList_append_run _ rfl _ _ _ _ rfl _ _ rfl rfl _ _ HRUN.out ?_)
            clear HRUN
            go_wp2
            go_roundw
            case rel => exact ⟨1, by go_num, by omega, by rw [← List.length_append]; exact Z⟩
            case measure => simp [intOf]
          · rw [if_neg hg, List.append_nil] at hpo
            have hgd : decide (0 < gv) = false := decide_eq_false hg
            have Z : Hid (wr.ownsRow w.heap.size 48 3 (.slice ua (lstK f k ++ prt f ((k : Int) + 1) 0).length uc) (lstK f k ++ prt f ((k : Int) + 1) 1).length (celC oweE (lstK f k ++ prt f ((k : Int) + 1) 1)) ∧ Below w.heap.size w wr) := by
              rw [hpo]
              exact ⟨HO.out, HB.out⟩
            clear hpo HO HB HR
            go_wp2
            go_roundw
            case rel => exact ⟨1, by go_num, by omega, Z⟩
            case measure => simp [intOf]
        · rw [show (1 : Int).toNat = 1 from rfl] at HR
          have hlk := (HC.out wr HR.out.2).look ((k : Int) + 1) 1 ⟨by omega, by omega⟩
          unfold clV at hlk
          have hpo : prt f ((k : Int) + 1) 2 = prt f ((k : Int) + 1) 1 ++ one1 f ((k : Int) + 1) 1 := rfl
          have hln1 := lstK_len f k
          have hln2 := prt_len f ((k : Int) + 1) 1
          have HO := hideIt HR.out.1
          have HB := hideIt HR.out.2
          obtain ⟨ua, uc, rfl⟩ := own_len HO.out
          unfold one1 cg at hpo
          generalize (f ((k : Int) + 1) 1).getD 0 = gv at *
          by_cases hg : 0 < gv
          · rw [if_pos hg] at hpo
            have hgd : decide (0 < gv) = true := decide_eq_true hg
            have HPO := hideIt hpo
            have hb1 := below1 wr (.cells #[.int .i64 ((k : Int) + 1), .int .i64 1, .int .i64 gv] 48)
            obtain ⟨v', w', hrun, how, hgr⟩ := app1 (enc := oweE) (t := 23) oweK owe1 Try.underlying23 info63 rfl (by omega) _ w.heap.size _ (lstK f k ++ prt f ((k : Int) + 1) 1) ⟨(k : Int) + 1, 1, gv⟩ wr.heap.size 1 (below_via HB.out hb1).size (own_keep HO.out hb1) (heap_alloc_new wr _) (by rw [List.length_append]; omega) (by rw [List.length_append]; unfold maxLen; omega)
            have Z : Hid (w'.ownsRow w.heap.size 48 3 v' (lstK f k ++ prt f ((k : Int) + 1) 2).length (celC oweE (lstK f k ++ prt f ((k : Int) + 1) 2)) ∧ Below w.heap.size w w') := by
              refine ⟨?_, grown_own hgr (own_keep HO.out hb1) (Nat.le_refl _) (below_via HB.out hb1)⟩
              rw [HPO.out, ← List.append_assoc]
              exact how
            have HRUN := hideIt hrun
            unfold oweE at HRUN
            try dsimp only at HRUN
            obtain ⟨va, vc, rfl⟩ := own_len Z.out.1
            clear hrun how hgr hb1 HO HB HR hpo
            go_wp2_with (at_builtin; refine Lib.wpList_append_run _ rfl _ _ _ _ rfl _ _ rfl rfl _ _ HRUN.out ?_)
            clear HRUN
            go_wp2
            go_roundw
            case rel => exact ⟨2, by go_num, by omega, by rw [← List.length_append]; exact Z⟩
            case measure => simp [intOf]
          · rw [if_neg hg, List.append_nil] at hpo
            have hgd : decide (0 < gv) = false := decide_eq_false hg
            have Z : Hid (wr.ownsRow w.heap.size 48 3 (.slice ua (lstK f k ++ prt f ((k : Int) + 1) 1).length uc) (lstK f k ++ prt f ((k : Int) + 1) 2).length (celC oweE (lstK f k ++ prt f ((k : Int) + 1) 2)) ∧ Below w.heap.size w wr) := by
              rw [hpo]
              exact ⟨HO.out, HB.out⟩
            clear hpo HO HB HR
            go_wp2
            go_roundw
            case rel => exact ⟨2, by go_num, by omega, Z⟩
            case measure => simp [intOf]
        · have Z : Hid (wr.ownsRow w.heap.size 48 3 u3 (lstK f (k + 1)).length (celC oweE (lstK f (k + 1))) ∧ Below w.heap.size w wr) := HR.out
          clear HR
          go_wp2
          go_roundw
          case rel => exact ⟨k + 1, by first | go_num | (simp; omega), by omega, Z⟩
          case measure => simp [intOf]; omega
    · have hle : ¬ (k : Int) + 1 ≤ 8 := by omega
      have hk8 : k = 8 := by omega
      subst hk8
      go_wp2
      go_ret
      exact ⟨u3, rfl, HR.out⟩
end Go.Proofs.Ytgnmghcdfihmgaa
namespace Go.Proofs.Ytgnmghcdfihmgaa
open Go.RowKit Go.Maps Go.WideElems Go.WideMaps Go.ChangeMaps
set_option linter.all false
theorem set_twice (w : World) (b : Nat) (o p : Obj) : setBlock (setBlock w b o) b p = setBlock w b p := by
  simp [setBlock]
theorem set_self2 {w : World} {b : Nat} {o : Obj} (h : w.heap[b]? = some o) : setBlock w b o = w := by
  unfold setBlock
  have : w.heap.setIfInBounds b o = w.heap := by
    apply Array.ext
    · simp
    · intro i h1 h2
      rw [Array.getElem_setIfInBounds]
      split
      · rename_i e
        subst e
        have := (Array.getElem?_eq_some_iff.1 h).2
        exact this.symm
      · rfl
  rw [this]
theorem CM.entry {w : World} {mb c : Nat} {f : Cls} (h : CM w mb c f) (hc : c ≤ 1000000) (x a : Int) (hx : Cl2 x a) (p : Int) : ∃ v0 st w1 w3, (Instr.mapEntry 53 (.map (some mb)) (clV x a)).run Try.prog w = .ok (.tuple #[v0, goInt st]) w1 ∧ (Instr.lookup 53 (.map (some mb)) (clV x a) false).run Try.prog w1 = .ok (.int .i64 (cg f x a)) w1 ∧ (Instr.entryStore 53 (.map (some mb)) (goInt st) (.int .i64 p)).run Try.prog w1 = .ok () w3 ∧ CM w3 mb (c + 1) (updC f x a p) ∧ w.grownBy w3 (some mb) ∧ w.grownBy w1 (some mb) := by
  have hL := h.look x a hx
  obtain ⟨w', hrun, hM, hgr⟩ := h.store hc x a hx p
  obtain ⟨w0, hrun0, hM0, hgr0⟩ := h.store hc x a hx 0
  obtain ⟨n, D, h1, ⟨es, clock, hb, F, r⟩, h3, h4, h5⟩ := h
  have hkey := cl_key x a hx
  obtain ⟨v0, st, es1, clock1, hme, hcase, hst⟩ := entry_then_store cl_law Try.underlying53 (fun u => zero3 u) hb F hkey
  obtain ⟨es', clock', hes, hup⟩ := hst (setBlock w mb (.map es1 clock1)) (.int .i64 p) (heap_setBlock_same hb _)
  rw [hrun] at hup
  simp only [Result.ok.injEq, true_and] at hup
  have hw1 : (setBlock w mb (.map es1 clock1) = w ∧ True) ∨ (setBlock w mb (.map es1 clock1) = w0 ∧ cg f x a = 0) := by
    rcases cl_law.find w hkey es.toList F.keys with ⟨g1, g2⟩ | ⟨j, e0, g1, g2, g3⟩
    · refine .inr ⟨?_, ?_⟩
      · have hz := fun u => zero3 u
        have e1 : (Instr.mapEntry 53 (.map (some mb)) (clV x a)).run Try.prog w = .ok (.tuple #[.int .i64 0, goInt clock]) (setBlock w mb (.map (es.push ⟨clV x a, .int .i64 0, clock⟩) (clock + 1))) := by
          simp [Instr.mapEntry, run_underlying Try.underlying53, MapKept.run_getObj_map hb, cl_law.check w false hkey, g1, hz, MapKept.run_setObj_map _ hb, Result.andThen, setBlock]
        have e2 : (Instr.mapUpdate 53 (.map (some mb)) (clV x a) (.int .i64 0)).run Try.prog w = .ok () (setBlock w mb (.map (es.push ⟨clV x a, .int .i64 0, clock⟩) (clock + 1))) := by
          simp [Instr.mapUpdate, run_underlying Try.underlying53, MapKept.run_getObj_map hb, cl_law.check w false hkey, g1, MapKept.run_setObj_map _ hb, Result.andThen, setBlock]
        rw [hme] at e1
        simp only [Result.ok.injEq] at e1
        rw [hrun0] at e2
        simp only [Result.ok.injEq, true_and] at e2
        rw [e1.2, e2]
      · have e1 : (Instr.lookup 53 (.map (some mb)) (clV x a) false).run Try.prog w = .ok (.int .i64 0) w := by
          have hz := fun u => zero3 u
          simp [Instr.lookup, run_underlying Try.underlying53, MapKept.run_getObj_map hb, cl_law.check w es.isEmpty hkey, g1, hz, Result.andThen]
        rw [hL] at e1
        simpa [cg] using e1
    · refine .inl ⟨?_, trivial⟩
      have hj : es[j]? = some e0 := by simpa using g2
      have hsame : es.modify j (fun e => { e with key := clV x a }) = es := by
        apply Array.ext'
        rw [Array.toList_modify, modify_eq_set _ _ _ _ g2]
        have : ({ e0 with key := clV x a } : MapEntry) = e0 := by rw [← g3]
        rw [this]
        exact set_self _ _ _ g2
      have e1 : (Instr.mapEntry 53 (.map (some mb)) (clV x a)).run Try.prog w = .ok (.tuple #[e0.val, goInt e0.born]) (setBlock w mb (.map es clock)) := by
        simp [Instr.mapEntry, run_underlying Try.underlying53, MapKept.run_getObj_map hb, cl_law.check w false hkey, g1, hj, g3, cl_law.stays w hkey, hsame, MapKept.run_setObj_map _ hb, Result.andThen, setBlock]
      rw [hme] at e1
      simp only [Result.ok.injEq] at e1
      rw [e1.2]
      exact set_self2 hb
  refine ⟨v0, st, setBlock w mb (.map es1 clock1), _, hme, ?_, hes, ?_, ?_, ?_⟩
  · rcases hw1 with ⟨e, -⟩ | ⟨e, e2⟩
    · rw [e]
      exact hL
    · rw [e, hM0.look x a hx, e2]
      simp [updC]
  · rw [set_twice, ← hup]
    exact hM
  · rw [set_twice, ← hup]
    exact hgr
  · rcases hw1 with ⟨e, -⟩ | ⟨e, -⟩
    · rw [e]
      exact grown_refl _ _
    · rw [e]
      exact hgr0
end Go.Proofs.Ytgnmghcdfihmgaa
namespace Go.Proofs.Ytgnmghcdfihmgaa
open Go.RowKit Go.Maps
set_option linter.all false
def addC (f : Cls) (x a n : Int) : Cls := updC f x a (cg f x a + n)
def stlC (f : Cls) (xa xp ya p n : Int) : Cls := addC (if p < xp then addC (addC f xa 1 n) xa 0 ((xp - p) * n) else addC f xa 1 n) ya 0 (p * n)
theorem cg_add (f : Cls) (x a n y b : Int) : cg (addC f x a n) y b = cg f y b + (if y = x ∧ b = a then n else 0) := by
  unfold cg addC updC
  by_cases e : y = x ∧ b = a
  · obtain ⟨rfl, rfl⟩ := e
    simp [cg]
  · simp [e]
theorem four_at5 {w : World} {p : Nat} {t : TypeId} {a b c d : Value} (h : w.heap[p]? = some (.cells #[a, b, c, d] t (0, 0))) : (w.cell? ⟨p, 0, none⟩ = some a ∧ w.cell? ⟨p, 1, none⟩ = some b ∧ w.cell? ⟨p, 2, none⟩ = some c ∧ w.cell? ⟨p, 3, none⟩ = some d) ∧ (∀ j, w.frozen? ⟨p, j, none⟩ = false) ∧ p < w.heap.size :=
  ⟨⟨by rw [cell_at h]; rfl, by rw [cell_at h]; rfl, by rw [cell_at h]; rfl, by rw [cell_at h]; rfl⟩, fun j => free_at h j, (Array.getElem?_eq_some_iff.1 h).1⟩
/-- Claims, and both orders in their boxes. -/
structure SX (w : World) (mb c : Nat) (f : Cls) (X Y : Array Value) (W : World) : Prop where
  cm : CM W mb c f
  b6 : W.heap[w.heap.size]? = some (.cells X 38 (0, 0))
  b7 : W.heap[w.heap.size + 1]? = some (.cells Y 38 (0, 0))
  out : Out (fun k => k = mb) w W
  lt : mb < w.heap.size
  sz : w.heap.size + 2 ≤ W.heap.size
theorem SX.drew {w W : World} {mb c : Nat} {f : Cls} {X Y : Array Value} (h : SX w mb c f X Y W) : SX w mb c f X Y W.drew :=
  ⟨h.cm.block rfl, h.b6, h.b7, h.out.trans (Out.ofDrew W) (fun _ _ h => h), h.lt, h.sz⟩
theorem SX.entry {w W : World} {mb c : Nat} {f : Cls} {X Y : Array Value} (h : SX w mb c f X Y W) (hc : c ≤ 100000) (x a n : Int) (hx : Cl2 x a) : ∃ (v0 : Value) (st : Int) (w1 w3 : World), (Instr.mapEntry 53 (.map (some mb)) (clV x a)).run Try.prog W = .ok (.tuple #[v0, Value.int .i64 st]) w1 ∧ (Instr.lookup 53 (.map (some mb)) (clV x a) false).run Try.prog W = .ok (.int .i64 (cg f x a)) W ∧ (Instr.lookup 53 (.map (some mb)) (clV x a) false).run Try.prog w1 = .ok (.int .i64 (cg f x a)) w1 ∧ (Instr.entryStore 53 (.map (some mb)) (Value.int .i64 st) (.int .i64 (cg f x a + n))).run Try.prog w1 = .ok () w3 ∧ SX w mb (c + 1) (addC f x a n) X Y w3 ∧ w1.heap[w.heap.size]? = some (.cells X 38 (0, 0)) ∧ w1.heap[w.heap.size + 1]? = some (.cells Y 38 (0, 0)) := by
  obtain ⟨v0, st, w1, w3, h1, h2, h3, h4, h5, h6⟩ := h.cm.entry (by omega) x a hx (cg f x a + n)
  have hlt := h.lt
  have hz := h.sz
  have n0 : some w.heap.size ≠ some mb := by intro e; cases e; omega
  have n1 : some (w.heap.size + 1) ≠ some mb := by intro e; cases e; omega
  refine ⟨v0, st, w1, w3, h1, h.cm.look x a hx, h2, h3, ⟨h4, ?_, ?_, h.out.trans (Out.ofGrown h5 (fun k e => by cases e; rfl)) (fun _ _ h => h), hlt, Nat.le_trans hz h5.size⟩, ?_, ?_⟩
  · exact (h5.block _ (by omega) n0).trans h.b6
  · exact (h5.block _ (by omega) n1).trans h.b7
  · exact (h6.block _ (by omega) n0).trans h.b6
  · exact (h6.block _ (by omega) n1).trans h.b7
theorem CM.mono {w : World} {mb c d : Nat} {f : Cls} (h : CM w mb c f) (hd : c ≤ d) : CM w mb d f := by
  obtain ⟨n, D, h1, h2⟩ := h
  exact ⟨n, D, by omega, h2⟩
set_option maxHeartbeats 8000000 in
set_option maxRecDepth 100000 in
theorem settle_is (mb c : Nat) (f : Cls) (xi xa xp xl yi ya yp yl p n : Int) (w : World) (h : CM w mb c f) (hc : c ≤ 1000) (hx : 1 ≤ xa ∧ xa ≤ 8) (hy : 1 ≤ ya ∧ ya ≤ 8) (hn : 0 ≤ n ∧ n ≤ 1000000) (hp : 0 ≤ p ∧ p ≤ 1000000) (hxp : 0 ≤ xp ∧ xp ≤ 1000000) (hf : ∀ x a, 0 ≤ cg f x a ∧ cg f x a ≤ 4000000000000000000) : Calls Try.prog 29 #[.map (some mb), .agg #[.int .i64 xi, .int .i64 xa, .int .i64 xp, .int .i64 xl], .agg #[.int .i64 yi, .int .i64 ya, .int .i64 yp, .int .i64 yl], .int .i64 p, .int .i64 n] w fun e w' => e = .returned (.tuple #[]) ∧ CM w' mb (c + 3) (stlC f xa xp ya p n) ∧ Out (fun k => k = mb) w w' := by
  obtain ⟨k1, k2, k3⟩ := two_heap w (.cells #[.int .i64 xi, .int .i64 xa, .int .i64 xp, .int .i64 xl] 38) (.cells #[.int .i64 yi, .int .i64 ya, .int .i64 yp, .int .i64 yl] 38)
  have hb2 := below2 w (.cells #[.int .i64 xi, .int .i64 xa, .int .i64 xp, .int .i64 xl] 38) (.cells #[.int .i64 yi, .int .i64 ya, .int .i64 yp, .int .i64 yl] 38)
  have S0 : Hid (SX w mb c f #[.int .i64 xi, .int .i64 xa, .int .i64 xp, .int .i64 xl] #[.int .i64 yi, .int .i64 ya, .int .i64 yp, .int .i64 yl] ((w.alloc (.cells #[.int .i64 xi, .int .i64 xa, .int .i64 xp, .int .i64 xl] 38)).alloc (.cells #[.int .i64 yi, .int .i64 ya, .int .i64 yp, .int .i64 yl] 38))) := ⟨h.keep hb2, k1, k2, Out.ofBelow hb2, h.lt, by omega⟩
  clear k1 k2 k3 hb2 h
  go_enter Try.func29, Try.ntmps29
  go_upto_region 1 with fail
  generalize (w.alloc (.cells #[.int .i64 xi, .int .i64 xa, .int .i64 xp, .int .i64 xl] 38)).alloc (.cells #[.int .i64 yi, .int .i64 ya, .int .i64 yp, .int .i64 yl] 38) = W0 at *
  obtain ⟨v0, st, w1, w3, hme, hl0, hl1, hes, hS, h6, h7⟩ := S0.out.drew.entry (by omega) xa 1 n ⟨hx, by omega⟩
  obtain ⟨⟨a0, a1, a2, a3⟩, -, az⟩ := four_at5 S0.out.b6
  obtain ⟨⟨b0, b1, b2, b3⟩, -, bz⟩ := four_at5 h6
  have S1 := hideIt hS
  have hw1 : IntKind.i64.wrap (cg f xa 1 + n) = cg f xa 1 + n := by have := hf xa 1; rw [IntKind.wrap_i64]; omega
  unfold clV at hme hl0 hl1
  clear hS h6 h7 S0
  go_cut [18] from 10 to 18 (fun _ wx => w3 = wx)
  case first =>
    go_region
    all_goals go_wp2_with fail
    all_goals go_meet
    all_goals rfl
  case rest =>
  subst hcut
  clear hme hl0 hl1 hes a0 a1 a2 a3 az b0 b1 b2 b3 bz hw1
  have hf1 : ∀ x a, cg (addC f xa 1 n) x a = cg f x a + (if x = xa ∧ a = 1 then n else 0) := fun x a => cg_add f xa 1 n x a
  obtain ⟨f1, hf1e⟩ : ∃ f1, f1 = addC f xa 1 n := ⟨_, rfl⟩
  rw [← hf1e] at S1
  rw [← hf1e] at hf1
  have HF1 := hideIt hf1e
  have HFA := hideIt hf1
  clear hf1e hf1
  obtain ⟨⟨a0, a1, a2, a3⟩, -, az⟩ := four_at5 S1.out.b6
  by_cases hgt : p < xp
  · have hmul : 0 ≤ (xp - p) * n ∧ (xp - p) * n ≤ 1000000000000 := ⟨Int.mul_nonneg (by omega) (by omega), by
      have := Int.mul_le_mul (show xp - p ≤ 1000000 by omega) hn.2 hn.1 (by omega : (0 : Int) ≤ 1000000)
      omega⟩
    obtain ⟨v0, st2, w4, w6, hme, hl0, hl1, hes, hS, h6, h7⟩ := S1.out.drew.entry (by omega) xa 0 ((xp - p) * n) ⟨hx, by omega⟩
    obtain ⟨⟨b0, b1, b2, b3⟩, -, bz⟩ := four_at5 h6
    have S2 := hideIt hS
    have hw0 : IntKind.i64.wrap (xp - p) = xp - p := by rw [IntKind.wrap_i64]; omega
    have hw1 : IntKind.i64.wrap ((xp - p) * n) = (xp - p) * n := by rw [IntKind.wrap_i64]; omega
    have hw2 : IntKind.i64.wrap (cg f1 xa 0 + (xp - p) * n) = cg f1 xa 0 + (xp - p) * n := by have := hf xa 0; have := HFA.out xa 0; rw [IntKind.wrap_i64]; split at this <;> omega
    unfold clV at hme hl0 hl1
    clear hS h6 h7 S1
    go_upto_if 22 with fail
    go_cut [36] from 23 to 36 (fun _ wx => w6 = wx)
    case first =>
      go_upto_region 3 with fail
      go_region
      all_goals go_wp2_with fail
      all_goals go_meet
      all_goals rfl
    case rest =>
    subst hcut
    clear hme hl0 hl1 hes a0 a1 a2 a3 az b0 b1 b2 b3 bz hw0 hw1 hw2
    have HFB := hideIt (fun x a => cg_add f1 xa 0 ((xp - p) * n) x a)
    have HST : Hid (stlC f xa xp ya p n = addC (addC f1 xa 0 ((xp - p) * n)) ya 0 (p * n)) := by show _ = _; unfold stlC; rw [if_pos hgt, ← HF1.out]
    generalize addC f1 xa 0 ((xp - p) * n) = f2 at *
    have hcg : 0 ≤ cg f2 ya 0 ∧ cg f2 ya 0 ≤ 4000002000000000000 := by
      have q0 := hf ya 0
      have q1 := HFA.out ya 0
      have q2 := HFB.out ya 0
      split at q1 <;> split at q2 <;> omega
    have hmul2 : 0 ≤ p * n ∧ p * n ≤ 1000000000000 := ⟨Int.mul_nonneg hp.1 hn.1, by
      have := Int.mul_le_mul hp.2 hn.2 hn.1 (by omega : (0 : Int) ≤ 1000000)
      omega⟩
    have hw3 : IntKind.i64.wrap (p * n) = p * n := by rw [IntKind.wrap_i64]; omega
    have hw4 : IntKind.i64.wrap (cg f2 ya 0 + p * n) = cg f2 ya 0 + p * n := by rw [IntKind.wrap_i64]; omega
    (try obtain ⟨⟨a0, a1, a2, a3⟩, -, az⟩ := four_at5 S2.out.b6)
    go_upto_region 4 with fail
    obtain ⟨v0, st3, w7, w9, hme, hl0, hl1, hes, hS, h6, h7⟩ := S2.out.drew.entry (by omega) ya 0 (p * n) ⟨hy, by omega⟩
    obtain ⟨⟨e0, e1, e2, e3⟩, -, ez⟩ := four_at5 S2.out.b7
    obtain ⟨⟨b0, b1, b2, b3⟩, -, bz⟩ := four_at5 h7
    have S3 := hideIt hS
    unfold clV at hme hl0 hl1
    clear hS h6 h7 S2
    go_region
    all_goals go_wp2
    all_goals go_end0
    all_goals exact ⟨rfl, by rw [HST.out]; exact CM.mono S3.out.cm (by omega), S3.out.out⟩
  · have HST : Hid (stlC f xa xp ya p n = addC f1 ya 0 (p * n)) := by show _ = _; unfold stlC; rw [if_neg hgt, ← HF1.out]
    have hcg : 0 ≤ cg f1 ya 0 ∧ cg f1 ya 0 ≤ 4000002000000000000 := by
      have q0 := hf ya 0
      have q1 := HFA.out ya 0
      split at q1 <;> omega
    have S2 := S1
    generalize f1 = f2 at *
    clear S1
    have hmul2 : 0 ≤ p * n ∧ p * n ≤ 1000000000000 := ⟨Int.mul_nonneg hp.1 hn.1, by
      have := Int.mul_le_mul hp.2 hn.2 hn.1 (by omega : (0 : Int) ≤ 1000000)
      omega⟩
    have hw3 : IntKind.i64.wrap (p * n) = p * n := by rw [IntKind.wrap_i64]; omega
    have hw4 : IntKind.i64.wrap (cg f2 ya 0 + p * n) = cg f2 ya 0 + p * n := by rw [IntKind.wrap_i64]; omega
    (try obtain ⟨⟨a0, a1, a2, a3⟩, -, az⟩ := four_at5 S2.out.b6)
    go_upto_region 4 with fail
    obtain ⟨v0, st3, w7, w9, hme, hl0, hl1, hes, hS, h6, h7⟩ := S2.out.drew.entry (by omega) ya 0 (p * n) ⟨hy, by omega⟩
    obtain ⟨⟨e0, e1, e2, e3⟩, -, ez⟩ := four_at5 S2.out.b7
    obtain ⟨⟨b0, b1, b2, b3⟩, -, bz⟩ := four_at5 h7
    have S3 := hideIt hS
    unfold clV at hme hl0 hl1
    clear hS h6 h7 S2
    go_region
    all_goals go_wp2
    all_goals go_end0
    all_goals exact ⟨rfl, by rw [HST.out]; exact CM.mono S3.out.cm (by omega), S3.out.out⟩
end Go.Proofs.Ytgnmghcdfihmgaa
namespace Go.Proofs.Ytgnmghcdfihmgaa
open Go.RowKit
set_option linter.all false
def takO (n : Int) : List OrdV → List OrdV
  | [] => []
  | o :: rest => if o.left - n = 0 then rest else ⟨o.id, o.acc, o.price, o.left - n⟩ :: rest
theorem grown_two {a b c : World} {r : Option Nat} (h : a.grownBy b r) (k : b.grownBy c r) : a.grownBy c r :=
  ⟨k.os.trans h.os, k.tape.trans h.tape, k.output.trans h.output, Nat.le_trans h.size k.size, fun i hi hne => (k.block i (Nat.lt_of_lt_of_le hi h.size) hne).trans (h.block i hi hne)⟩
set_option maxHeartbeats 4000000 in
set_option maxRecDepth 100000 in
theorem taken_is (B : Nat) (v : Value) (o : OrdV) (rest : List OrdV) (n : Int) (w : World) (ho : w.ownsRow B 38 4 v (o :: rest).length (celC ordE (o :: rest))) (hn : -9223372036854775808 ≤ o.left - n ∧ o.left - n ≤ 9223372036854775807) : Calls Try.prog 49 #[v, .int .i64 n] w fun e w' => ∃ v', e = .returned v' ∧ w'.ownsRow B 38 4 v' (takO n (o :: rest)).length (celC ordE (takO n (o :: rest))) ∧ w.grownBy w' v.ownBlock ∧ v'.ownBlock = v.ownBlock := by
  have HT : Hid (takO n (o :: rest) = if o.left - n = 0 then rest else ⟨o.id, o.acc, o.price, o.left - n⟩ :: rest) := rfl
  generalize takO n (o :: rest) = T at *
  obtain ⟨g, c, rfl, hgl, hcell⟩ : ∃ g c, v = .slice (some ⟨g, 0, none⟩) (o :: rest).length c ∧ g < w.heap.size ∧ w.cell? ⟨g, 3, none⟩ = some (.int .i64 o.left) := by
    have hc := fun g hg => ho.cells (g := g) hg
    obtain ⟨h1, ⟨rfl, h0⟩ | ⟨g, cap, cur, rfl, hB, hg, r⟩⟩ := ho
    · simp at h0
    · refine ⟨g, cap, rfl, (Array.getElem?_eq_some_iff.1 hg).1, ?_⟩
      have := hc g rfl 3 (.int .i64 o.left) (by simp [celC, ordE])
      rwa [addN, Nat.zero_add] at this
  have hfz : w.frozen? ⟨g, 3, none⟩ = false := by
    obtain ⟨h1, ⟨e, h0⟩ | ⟨g', cap, cur, e, hB, hg, r⟩⟩ := ho
    · simp at h0
    · simp only [Value.slice.injEq, Option.some.injEq, Addr.mk.injEq] at e
      obtain ⟨⟨rfl, -⟩, -⟩ := e
      exact free_at hg 3
  have hw : IntKind.i64.wrap (o.left - n) = o.left - n := by rw [IntKind.wrap_i64]; omega
  have O2 : Hid ((w.setCell ⟨g, 3, none⟩ (.int .i64 (o.left - n))).ownsRow B 38 4 (.slice (some ⟨g, 0, none⟩) (o :: rest).length c) (o :: rest).length (celC ordE (⟨o.id, o.acc, o.price, o.left - n⟩ :: rest))) := by
    have := own_at (j := 3) (u := .int .i64 (o.left - n)) ho (by rw [List.length_cons]; omega)
    have e : (celC ordE (o :: rest)).set 3 (.int .i64 (o.left - n)) = celC ordE (⟨o.id, o.acc, o.price, o.left - n⟩ :: rest) := by simp [celC, ordE]
    rw [e] at this
    exact this
  have G2 : Hid (w.grownBy (w.setCell ⟨g, 3, none⟩ (.int .i64 (o.left - n))) (Value.slice (some ⟨g, 0, none⟩) (o :: rest).length c).ownBlock) := grown_at
  have c3' : (w.setCell ⟨g, 3, none⟩ (.int .i64 (o.left - n))).cell? ⟨g, 3, none⟩ = some (.int .i64 (o.left - n)) := by
    have hc := fun g hg => O2.out.cells (g := g) hg
    have := hc g rfl 3 (.int .i64 (o.left - n)) (by simp [celC, ordE])
    rwa [addN, Nat.zero_add] at this
  have gl2 : g < (w.setCell ⟨g, 3, none⟩ (.int .i64 (o.left - n))).heap.size := by simpa using hgl
  have hnp : 0 < (o :: rest).length := by simp
  have hnI : (0 : Int) < (((o :: rest).length : Nat) : Int) := by omega
  have hln : (o :: rest).length = rest.length + 1 := rfl
  generalize hnb : (o :: rest).length = nb at *
  have HLN := hideIt hln
  clear hnb hln ho hn
  by_cases h0 : o.left - n = 0
  · rw [if_pos h0] at HT
    have HD := hideIt (deleteO_is B 0 1 rfl (.slice (some ⟨g, 0, none⟩) nb c) (⟨o.id, o.acc, o.price, o.left - n⟩ :: rest) _ (by rw [show (⟨o.id, o.acc, o.price, o.left - n⟩ :: rest : List OrdV).length = nb from HLN.out.symm]; exact O2.out) (by simp))
    rw [show ((0 : Nat) : Int) = 0 from rfl, show ((1 : Nat) : Int) = 1 from rfl] at HD
    have HTT := hideIt HT
    have hq0 : ((o.left - n) == 0) = true := by simpa using h0
    have H00 := hideIt h0
    clear h0 HT
    go_enter Try.func49, Try.ntmps49
    go_wp2_with fail
    refine HD.out.mono ?_
    rintro e w2 ⟨v', rfl, how, hgr, heq⟩
    dsimp only
    have Z : Hid (w2.ownsRow B 38 4 v' T.length (celC ordE T) ∧ w.grownBy w2 (Value.slice (some ⟨g, 0, none⟩) nb c).ownBlock ∧ v'.ownBlock = (Value.slice (some ⟨g, 0, none⟩) nb c).ownBlock) := by
      refine ⟨?_, grown_two G2.out hgr, heq⟩
      rw [show T = rest from HTT.out.out]
      simpa using how
    clear how hgr heq HD O2 G2
    go_wp2
    go_ret
    exact ⟨v', rfl, Z.out⟩
  · rw [if_neg h0] at HT
    have hq0 : ((o.left - n) == 0) = false := by simpa using h0
    go_enter Try.func49, Try.ntmps49
    go_wp2
    go_ret
    exact ⟨_, rfl, by rw [HT.out]; exact HLN.out ▸ O2.out, G2.out, rfl⟩
end Go.Proofs.Ytgnmghcdfihmgaa
namespace Go.Proofs.Ytgnmghcdfihmgaa
open Go.RowKit Go.Maps
set_option linter.all false
/-- The first bid meets the first ask until that is the volume. -/
def trdC (p : Int) : Nat → List OrdV → List OrdV → Int → Cls → List FillV → List OrdV × List OrdV × Cls × List FillV
  | 0, B, A, _, f, F => (B, A, f, F)
  | k + 1, B, A, V, f, F => if 0 < V then (match B, A with
      | x :: bs, y :: ys => trdC p k (takO (min x.left y.left) (x :: bs)) (takO (min x.left y.left) (y :: ys)) (V - min x.left y.left) (stlC f x.acc x.price y.acc p (min x.left y.left)) (F ++ [⟨x.acc, y.acc, p, min x.left y.left⟩])
      | _, _ => (B, A, f, F)) else (B, A, f, F)
/-- What stays true of what is left. -/
structure IV (p : Int) (B A : List OrdV) (V : Int) (f : Cls) (F : List FillV) : Prop where
  vol : V = min (dem p B) (sup p A)
  tb : OkT B
  ta : OkT A
  cb : AccT B
  ca : AccT A
  sb : B.Pairwise (fun x y => y.price ≤ x.price)
  sa : A.Pairwise (fun x y => x.price ≤ y.price)
  cgb : ∀ x a, 0 ≤ cg f x a ∧ cg f x a ≤ 9007199254740992 + (F.length : Int) * 3000000000000
theorem takO_cons (n : Int) (o : OrdV) (rest : List OrdV) : takO n (o :: rest) = if o.left - n = 0 then rest else ⟨o.id, o.acc, o.price, o.left - n⟩ :: rest := rfl
theorem dem_cons (p : Int) (o : OrdV) (l : List OrdV) : dem p (o :: l) = (if p ≤ o.price then o.left else 0) + dem p l := by simp [dem]
theorem sup_cons (p : Int) (o : OrdV) (l : List OrdV) : sup p (o :: l) = (if o.price ≤ p then o.left else 0) + sup p l := by simp [sup]
theorem sup_none {q : Int} {l : List OrdV} (h : ∀ o ∈ l, ¬ o.price ≤ q) : sup q l = 0 := by
  induction l with
  | nil => rfl
  | cons o l ih =>
    rw [sup_cons, if_neg (h o (List.mem_cons_self ..)), ih (fun x hx => h x (List.mem_cons_of_mem _ hx))]
    rfl
theorem IV.heads {p : Int} {B A : List OrdV} {V : Int} {f : Cls} {F : List FillV} (h : IV p B A V f F) (hV : 0 < V) : ∃ x bs y ys, B = x :: bs ∧ A = y :: ys ∧ p ≤ x.price ∧ y.price ≤ p := by
  have hv := h.vol
  have hd : 0 < dem p B := by omega
  have hs : 0 < sup p A := by omega
  cases B with
  | nil => simp [dem] at hd
  | cons x bs =>
    cases A with
    | nil => simp [sup] at hs
    | cons y ys =>
      refine ⟨x, bs, y, ys, rfl, rfl, ?_, ?_⟩
      · by_cases e : p ≤ x.price
        · exact e
        · have := dem_none (q := p) (l := x :: bs) (fun o ho => by
            rw [List.mem_cons] at ho
            rcases ho with rfl | ho
            · exact e
            · have := (List.pairwise_cons.1 h.sb).1 o ho
              omega)
          omega
      · by_cases e : y.price ≤ p
        · exact e
        · have := sup_none (q := p) (l := y :: ys) (fun o ho => by
            rw [List.mem_cons] at ho
            rcases ho with rfl | ho
            · exact e
            · have := (List.pairwise_cons.1 h.sa).1 o ho
              omega)
          omega
theorem takO_ok {n : Int} {x : OrdV} {bs : List OrdV} (h : OkT (x :: bs)) (hn : 0 ≤ n ∧ n ≤ x.left) : OkT (takO n (x :: bs)) := by
  rw [takO_cons]
  have hx := h x (List.mem_cons_self ..)
  split
  · exact fun q hq => h q (List.mem_cons_of_mem _ hq)
  · intro q hq
    rw [List.mem_cons] at hq
    rcases hq with rfl | hq
    · exact ⟨hx.1, by dsimp only; omega⟩
    · exact h q (List.mem_cons_of_mem _ hq)
theorem takO_acc {n : Int} {x : OrdV} {bs : List OrdV} (h : AccT (x :: bs)) : AccT (takO n (x :: bs)) := by
  simp only [takO_cons]
  split
  · exact fun q hq => h q (List.mem_cons_of_mem _ hq)
  · intro q hq
    rw [List.mem_cons] at hq
    rcases hq with rfl | hq
    · exact h x (List.mem_cons_self ..)
    · exact h q (List.mem_cons_of_mem _ hq)
theorem takO_srt {n : Int} {x : OrdV} {bs : List OrdV} {R : OrdV → OrdV → Prop} (hR : ∀ y, R x y → R ⟨x.id, x.acc, x.price, x.left - n⟩ y) (h : (x :: bs).Pairwise R) : (takO n (x :: bs)).Pairwise R := by
  rw [List.pairwise_cons] at h
  simp only [takO_cons]
  split
  · exact h.2
  · rw [List.pairwise_cons]
    exact ⟨fun y hy => hR y (h.1 y hy), h.2⟩
theorem takO_dem {n p : Int} {x : OrdV} {bs : List OrdV} (hp : p ≤ x.price) : dem p (takO n (x :: bs)) = dem p (x :: bs) - n := by
  simp only [takO_cons]
  rw [dem_cons, if_pos hp]
  split
  · omega
  · rw [dem_cons, if_pos (by exact hp)]
    dsimp only
    omega
theorem takO_sup {n p : Int} {x : OrdV} {bs : List OrdV} (hp : x.price ≤ p) : sup p (takO n (x :: bs)) = sup p (x :: bs) - n := by
  simp only [takO_cons]
  rw [sup_cons, if_pos hp]
  split
  · omega
  · rw [sup_cons, if_pos (by exact hp)]
    dsimp only
    omega
theorem takO_len (x y : OrdV) (bs ys : List OrdV) : (takO (min x.left y.left) (x :: bs)).length + (takO (min x.left y.left) (y :: ys)).length ≤ bs.length + ys.length + 1 := by
  simp only [takO_cons]
  by_cases h : x.left ≤ y.left
  · rw [if_pos (by omega)]
    split <;> simp <;> omega
  · have e : y.left - min x.left y.left = 0 := by omega
    rw [if_pos e]
    split <;> simp <;> omega
theorem cg_stl {f : Cls} {xa xp ya p n : Int} (h1 : 0 ≤ n ∧ n ≤ 1000000) (h2 : 0 ≤ p ∧ p ≤ 1000000) (h3 : 0 ≤ xp ∧ xp ≤ 1000000) (x a : Int) : cg f x a ≤ cg (stlC f xa xp ya p n) x a ∧ cg (stlC f xa xp ya p n) x a ≤ cg f x a + 3000000000000 := by
  have m1 : 0 ≤ p * n ∧ p * n ≤ 1000000000000 := ⟨Int.mul_nonneg h2.1 h1.1, by
    have := Int.mul_le_mul h2.2 h1.2 h1.1 (by omega : (0 : Int) ≤ 1000000)
    omega⟩
  unfold stlC
  rw [cg_add]
  by_cases hp : p < xp
  · have m2 : 0 ≤ (xp - p) * n ∧ (xp - p) * n ≤ 1000000000000 := ⟨Int.mul_nonneg (by omega) h1.1, by
      have := Int.mul_le_mul (show xp - p ≤ 1000000 by omega) h1.2 h1.1 (by omega : (0 : Int) ≤ 1000000)
      omega⟩
    rw [if_pos hp, cg_add, cg_add]
    split <;> split <;> split <;> omega
  · rw [if_neg hp, cg_add]
    split <;> split <;> omega
theorem IV.step {p : Int} {x y : OrdV} {bs ys : List OrdV} {V : Int} {f : Cls} {F : List FillV} (h : IV p (x :: bs) (y :: ys) V f F) (hp : 0 ≤ p ∧ p ≤ 1000000) (hx : p ≤ x.price) (hy : y.price ≤ p) : (1 ≤ min x.left y.left ∧ min x.left y.left ≤ 1000000) ∧ IV p (takO (min x.left y.left) (x :: bs)) (takO (min x.left y.left) (y :: ys)) (V - min x.left y.left) (stlC f x.acc x.price y.acc p (min x.left y.left)) (F ++ [⟨x.acc, y.acc, p, min x.left y.left⟩]) := by
  have t1 := h.tb x (List.mem_cons_self ..)
  have t2 := h.ta y (List.mem_cons_self ..)
  refine ⟨by omega, ⟨?_, takO_ok h.tb (by omega), takO_ok h.ta (by omega), takO_acc h.cb, takO_acc h.ca, takO_srt (fun _ h => h) h.sb, takO_srt (fun _ h => h) h.sa, fun u a => ?_⟩⟩
  · rw [takO_dem hx, takO_sup hy]
    have := h.vol
    omega
  · have h1 := h.cgb u a
    have h2 := cg_stl (f := f) (xa := x.acc) (xp := x.price) (ya := y.acc) (p := p) (n := min x.left y.left) (by omega) hp (by omega) u a
    rw [List.length_append]
    simp only [List.length_cons, List.length_nil]
    push_cast
    omega
end Go.Proofs.Ytgnmghcdfihmgaa
namespace Go.Proofs.Ytgnmghcdfihmgaa
open Go.RowKit Go.Maps
set_option linter.all false
theorem cl_vol (L : LaneV) : ∀ (ps : List Int) (st : Int × Int × Int), (∀ p ∈ ps, 1 ≤ p ∧ p ≤ 1000000) → (st.2.1 = volP L st.1 ∧ 0 ≤ st.1 ∧ st.1 ≤ 1000000) → ((ps.foldl (clS L) st).2.1 = volP L (ps.foldl (clS L) st).1 ∧ 0 ≤ (ps.foldl (clS L) st).1 ∧ (ps.foldl (clS L) st).1 ≤ 1000000)
  | [], st, _, h => h
  | p :: ps, st, hp, h => by
    rw [List.foldl_cons]
    refine cl_vol L ps _ (fun x hx => hp x (List.mem_cons_of_mem _ hx)) ?_
    have h1 := hp p (List.mem_cons_self ..)
    unfold clS
    split
    · exact ⟨rfl, by show 0 ≤ p; omega, by show p ≤ 1000000; omega⟩
    · exact h
theorem cl_start {L : LaneV} (hk : chkB L = true) : (clL L).2.1 = volP L (clL L).1 ∧ 0 ≤ (clL L).1 ∧ (clL L).1 ≤ 1000000 := by
  have hm := chk_may hk
  refine cl_vol L _ _ (fun p hp => ?_) ⟨?_, Int.le_refl _, by decide⟩
  · have := (sort_perm _).mem_iff.1 hp
    rw [List.mem_append] at this
    unfold prL at this
    simp only [List.mem_map] at this
    rcases this with ⟨o, ho, rfl⟩ | ⟨o, ho, rfl⟩
    · exact (hm.tb o ho).1
    · exact (hm.ta o ho).1
  · have h1 : sup 0 L.asks = 0 := sup_none (fun o ho => by have := (hm.ta o ho).1.1; omega)
    have h2 := (dem_bd 0 L.bids hm.tb).1
    show (0 : Int) = volP L 0
    unfold volP
    rw [h1]
    omega
theorem ah_pair {s : Int} (hs : s = 1 ∨ s = 2) : ∀ {l : List OrdV}, srtB (ahB s) l = true → l.Pairwise (fun x y => ahB s x y = true)
  | [], _ => List.Pairwise.nil
  | [x], _ => by simp
  | x :: y :: l, h => by
    have ih := ah_pair hs (srt_tail h)
    have hxy := srt_head h
    rw [List.pairwise_cons]
    refine ⟨fun z hz => ?_, ih⟩
    rw [List.mem_cons] at hz
    rcases hz with rfl | hz
    · exact hxy
    · exact ah_trans hs hxy ((List.pairwise_cons.1 ih).1 z hz)
theorem cg_of {l : List OweV} (h : ∀ y ∈ l, 0 ≤ y.n ∧ y.n ≤ 9007199254740992) (x a : Int) : 0 ≤ cg (clsOf l) x a ∧ cg (clsOf l) x a ≤ 9007199254740992 := by
  have key : ∀ (l : List OweV) (f : Cls), (∀ y ∈ l, 0 ≤ y.n ∧ y.n ≤ 9007199254740992) → (0 ≤ cg f x a ∧ cg f x a ≤ 9007199254740992) → 0 ≤ cg (l.foldl (fun f y => updC f y.acc y.asset y.n) f) x a ∧ cg (l.foldl (fun f y => updC f y.acc y.asset y.n) f) x a ≤ 9007199254740992 := by
    intro l
    induction l with
    | nil => intro f _ hf; exact hf
    | cons y l ih =>
      intro f hl hf
      rw [List.foldl_cons]
      refine ih _ (fun z hz => hl z (List.mem_cons_of_mem _ hz)) ?_
      have hy := hl y (List.mem_cons_self ..)
      unfold cg updC at *
      by_cases e : x = y.acc ∧ a = y.asset
      · rw [if_pos e]
        exact hy
      · rw [if_neg e]
        exact hf
  exact key l _ h ⟨Int.le_refl _, by show (0 : Int) ≤ 9007199254740992; omega⟩
/-- All that the trades want at their beginning. -/
theorem iv_start {L : LaneV} (hk : chkB L = true) : IV (clL L).1 L.bids L.asks (clL L).2.1 (clsOf L.owed) [] := by
  have hm := chk_may hk
  have hb := (chk_bok L).1 hk
  have s1 := side_acc hb.sb
  have s2 := side_acc hb.sa
  refine ⟨(cl_start hk).1, hm.tb, hm.ta, s1.1, s2.1, ?_, ?_, fun x a => ?_⟩
  · refine (ah_pair (.inl rfl) s1.2.2).imp ?_
    intro x y h
    have := ah_worse (.inl rfl) h
    unfold worse at this
    simpa using this
  · refine (ah_pair (.inr rfl) s2.2.2).imp ?_
    intro x y h
    have := ah_worse (.inr rfl) h
    unfold worse at this
    simpa using this
  · have := cg_of (l := L.owed) (fun y hy => by have := hm.ow.2 y hy; simpa using this) x a
    simpa using this
theorem cl_keys {L : LaneV} (hk : chkB L = true) : (∀ y ∈ L.owed, Cl2 y.acc y.asset) ∧ L.owed.length ≤ 16 := by
  have hm := chk_may hk
  have hb := (chk_bok L).1 hk
  refine ⟨fun y hy => ?_, by have := hm.ow.1; simpa using this⟩
  have := (owed_owok hb.ow).2 y hy
  exact ⟨this.1, this.2.1⟩
end Go.Proofs.Ytgnmghcdfihmgaa
namespace Go.Proofs.Ytgnmghcdfihmgaa
open Go.RowKit Go.Maps
set_option linter.all false
def sumN (F : List FillV) : Int := (F.map (fun f => f.n)).sum
theorem sumN_app (F : List FillV) (x : FillV) : sumN (F ++ [x]) = sumN F + x.n := by simp [sumN]
theorem sumN_take {F : List FillV} {t : Nat} (h : t < F.length) : sumN (F.take (t + 1)) = sumN (F.take t) + F[t].n := by
  rw [List.take_succ_eq_append_getElem h, sumN_app]
theorem trdC_none {p : Int} {k : Nat} {B A : List OrdV} {V : Int} {f : Cls} {F : List FillV} (h : ¬ 0 < V) : trdC p (k + 1) B A V f F = (B, A, f, F) := if_neg h
/-- What holds of the beginning and stays true at each trade is true in the end, and nothing is left to be traded. -/
theorem trd_ind {p : Int} (hp : 0 ≤ p ∧ p ≤ 1000000) (P : List OrdV → List OrdV → Int → Cls → List FillV → Prop)
    (step : ∀ x bs y ys V f F, IV p (x :: bs) (y :: ys) V f F → 0 < V → p ≤ x.price → y.price ≤ p → (1 ≤ min x.left y.left ∧ min x.left y.left ≤ 1000000) → P (x :: bs) (y :: ys) V f F → P (takO (min x.left y.left) (x :: bs)) (takO (min x.left y.left) (y :: ys)) (V - min x.left y.left) (stlC f x.acc x.price y.acc p (min x.left y.left)) (F ++ [⟨x.acc, y.acc, p, min x.left y.left⟩])) :
    ∀ (k : Nat) (B A : List OrdV) (V : Int) (f : Cls) (F : List FillV), IV p B A V f F → B.length + A.length ≤ k → P B A V f F → P (trdC p k B A V f F).1 (trdC p k B A V f F).2.1 0 (trdC p k B A V f F).2.2.1 (trdC p k B A V f F).2.2.2 ∧ IV p (trdC p k B A V f F).1 (trdC p k B A V f F).2.1 0 (trdC p k B A V f F).2.2.1 (trdC p k B A V f F).2.2.2
  | 0, B, A, V, f, F, hi, hl, hP => by
    have e1 : B = [] := List.length_eq_zero_iff.1 (by omega)
    have e2 : A = [] := List.length_eq_zero_iff.1 (by omega)
    have hv := hi.vol
    subst e1 e2
    have : V = 0 := by rw [hv]; rfl
    subst this
    exact ⟨hP, hi⟩
  | k + 1, B, A, V, f, F, hi, hl, hP => by
    by_cases hV : 0 < V
    · obtain ⟨x, bs, y, ys, rfl, rfl, hx, hy⟩ := hi.heads hV
      have hs := hi.step hp hx hy
      have e : trdC p (k + 1) (x :: bs) (y :: ys) V f F = trdC p k (takO (min x.left y.left) (x :: bs)) (takO (min x.left y.left) (y :: ys)) (V - min x.left y.left) (stlC f x.acc x.price y.acc p (min x.left y.left)) (F ++ [⟨x.acc, y.acc, p, min x.left y.left⟩]) := by
        rw [trdC, if_pos hV]
      rw [e]
      have h1 := takO_len x y bs ys
      simp only [List.length_cons] at hl
      exact trd_ind hp P step k _ _ _ _ _ hs.2 (by omega) (step x bs y ys V f F hi hV hx hy hs.1 hP)
    · have e : trdC p (k + 1) B A V f F = (B, A, f, F) := trdC_none hV
      rw [e]
      have h1 := (dem_bd p B hi.tb).1
      have h2 := (sup_bd p A hi.ta).1
      have hv := hi.vol
      have : V = 0 := by omega
      subst this
      exact ⟨hP, hi⟩
/-- A side without so much of its first orders. -/
def cutO : Int → List OrdV → List OrdV
  | _, [] => []
  | n, x :: l => if x.left ≤ n then cutO (n - x.left) l else ⟨x.id, x.acc, x.price, x.left - n⟩ :: l
/-- How many orders are gone then. -/
def skN : Int → List OrdV → Nat
  | _, [] => 0
  | n, x :: l => if x.left ≤ n then skN (n - x.left) l + 1 else 0
theorem cut_zero {l : List OrdV} (h : OkT l) : cutO 0 l = l := by
  cases l with
  | nil => rfl
  | cons x l =>
    have := (h x (List.mem_cons_self ..)).2
    rw [cutO, if_neg (by omega)]
    simp
theorem cut_take : ∀ {l : List OrdV} {s n : Int} {x : OrdV} {bs : List OrdV}, OkT l → 0 ≤ s → cutO s l = x :: bs → 0 ≤ n → n ≤ x.left → takO n (x :: bs) = cutO (s + n) l
  | [], s, n, x, bs, _, _, h, _, _ => by simp [cutO] at h
  | y :: t, s, n, x, bs, hl, hs, h, h0, hn => by
    have hy := (hl y (List.mem_cons_self ..)).2
    have ht : OkT t := fun q hq => hl q (List.mem_cons_of_mem _ hq)
    rw [cutO] at h
    by_cases e : y.left ≤ s
    · rw [if_pos e] at h
      rw [cut_take ht (by omega) h h0 hn, cutO, if_pos (by omega), show s + n - y.left = s - y.left + n by omega]
    · rw [if_neg e] at h
      simp only [List.cons.injEq] at h
      obtain ⟨rfl, rfl⟩ := h
      simp only at hn
      rw [takO_cons, cutO]
      simp only
      by_cases e2 : y.left - s - n = 0
      · rw [if_pos e2, if_pos (by omega), show s + n - y.left = 0 by omega, cut_zero ht]
      · rw [if_neg e2, if_neg (by omega), show y.left - s - n = y.left - (s + n) by omega]
theorem cut_head : ∀ {l : List OrdV} {s : Int} {x : OrdV} {bs : List OrdV}, cutO s l = x :: bs → ∃ y, l[skN s l]? = some y ∧ x.acc = y.acc ∧ x.price = y.price
  | [], s, x, bs, h => by simp [cutO] at h
  | y :: t, s, x, bs, h => by
    rw [cutO] at h
    rw [skN]
    by_cases e : y.left ≤ s
    · rw [if_pos e] at h
      rw [if_pos e]
      obtain ⟨z, h1, h2⟩ := cut_head h
      exact ⟨z, by simpa using h1, h2⟩
    · rw [if_neg e] at h
      rw [if_neg e]
      simp only [List.cons.injEq] at h
      exact ⟨y, rfl, by rw [← h.1], by rw [← h.1]⟩
theorem cut_suf : ∀ {l : List OrdV} {s : Int}, OkT l → 0 ≤ s → Suf l (cutO s l)
  | [], s, _, _ => Suf.all _
  | y :: t, s, hl, hs => by
    have hy := (hl y (List.mem_cons_self ..)).2
    rw [cutO]
    split
    · exact Suf.skip y (cut_suf (fun q hq => hl q (List.mem_cons_of_mem _ hq)) (by omega))
    · exact Suf.cut y t _ (by omega)
/-- Each trade is that of the first orders, at the one price, which is no worse for them than their own. -/
def FokP (L : LaneV) (p : Int) (F : List FillV) : Prop := ∀ (i : Nat) (h : i < F.length), ∃ x y, L.bids[skN (sumN (F.take i)) L.bids]? = some x ∧ L.asks[skN (sumN (F.take i)) L.asks]? = some y ∧ F[i].buyer = x.acc ∧ F[i].seller = y.acc ∧ F[i].price = p ∧ (1 ≤ F[i].n ∧ F[i].n ≤ 1000000) ∧ p ≤ x.price ∧ y.price ≤ p
structure TrP (L : LaneV) (p V0 : Int) (B A : List OrdV) (V : Int) (F : List FillV) : Prop where
  vol : V + sumN F = V0
  pos : 0 ≤ sumN F
  cb : B = cutO (sumN F) L.bids
  ca : A = cutO (sumN F) L.asks
  fok : FokP L p F
  len : F.length + (B.length + A.length) ≤ 80
theorem trd_facts {L : LaneV} (hk : chkB L = true) : TrP L (clL L).1 (clL L).2.1 (trdC (clL L).1 80 L.bids L.asks (clL L).2.1 (clsOf L.owed) []).1 (trdC (clL L).1 80 L.bids L.asks (clL L).2.1 (clsOf L.owed) []).2.1 0 (trdC (clL L).1 80 L.bids L.asks (clL L).2.1 (clsOf L.owed) []).2.2.2 := by
  have hm := chk_may hk
  have hlb := hm.lb
  have hla := hm.la
  refine (trd_ind (cl_start hk).2 (fun B A V _ F => TrP L (clL L).1 (clL L).2.1 B A V F) ?_ 80 L.bids L.asks _ _ [] (iv_start hk) (by omega) ?_).1
  · intro x bs y ys V f F hi hV hx hy hn hP
    have e1 := hP.cb.symm
    have e2 := hP.ca.symm
    have hpos := hP.pos
    have hvol := hP.vol
    obtain ⟨z, hz, za, zp⟩ := cut_head e1
    obtain ⟨u, hu, ua, up⟩ := cut_head e2
    refine ⟨by rw [sumN_app]; simp only; omega, by rw [sumN_app]; simp only; omega, ?_, ?_, ?_, ?_⟩
    · rw [sumN_app]
      exact cut_take hm.tb hpos e1 (by omega) (by omega)
    · rw [sumN_app]
      exact cut_take hm.ta hpos e2 (by omega) (by omega)
    · intro i hi'
      by_cases h : i < F.length
      · obtain ⟨a, b, h1⟩ := hP.fok i h
        refine ⟨a, b, ?_⟩
        rw [List.take_append_of_le_length (by omega), List.getElem_append_left h]
        exact h1
      · have e : i = F.length := by
          rw [List.length_append] at hi'
          simp only [List.length_cons, List.length_nil] at hi'
          omega
        subst e
        refine ⟨z, u, ?_⟩
        rw [List.take_append_of_le_length (by omega), List.take_length, List.getElem_append_right (by omega)]
        simp only [Nat.sub_self, List.getElem_cons_zero]
        exact ⟨hz, hu, za, ua, trivial, hn, by omega, by omega⟩
    · have h1 := takO_len x y bs ys
      have h2 := hP.len
      rw [List.length_append]
      simp only [List.length_cons, List.length_nil] at h2 ⊢
      omega
  · refine ⟨by simp [sumN], by simp [sumN], ?_, ?_, fun i h => absurd h (by simp), by simp; omega⟩
    · exact (cut_zero hm.tb).symm
    · exact (cut_zero hm.ta).symm
theorem sumN_bd {F : List FillV} (h : ∀ (i : Nat) (h : i < F.length), 1 ≤ F[i].n ∧ F[i].n ≤ 1000000) : ∀ t : Nat, 0 ≤ sumN (F.take t) ∧ sumN (F.take t) ≤ t * 1000000
  | 0 => by simp [sumN]
  | t + 1 => by
    have ih := sumN_bd h t
    by_cases ht : t < F.length
    · have := h t ht
      rw [sumN_take ht]
      push_cast
      omega
    · rw [List.take_of_length_le (by omega)] at ih ⊢
      push_cast
      omega
end Go.Proofs.Ytgnmghcdfihmgaa
namespace Go.Proofs.Ytgnmghcdfihmgaa
open Go.RowKit Go.Maps
set_option linter.all false
/-- How much a list owes. -/
def lok (x a : Int) (l : List OweV) : Int := (l.map (fun y => if y.acc = x ∧ y.asset = a then y.n else 0)).sum
theorem lok_cons (x a : Int) (y : OweV) (l : List OweV) : lok x a (y :: l) = (if y.acc = x ∧ y.asset = a then y.n else 0) + lok x a l := by simp [lok]
theorem lok_app (x a : Int) (l m : List OweV) : lok x a (l ++ m) = lok x a l + lok x a m := by simp [lok]
theorem lok_modify (x a n : Int) : ∀ (l : List OweV) (i : Nat) (h : i < l.length), lok x a (l.modify i (fun y => ⟨y.acc, y.asset, y.n + n⟩)) = lok x a l + (if l[i].acc = x ∧ l[i].asset = a then n else 0)
  | [], i, h => absurd h (by simp)
  | y :: l, 0, h => by
    rw [List.modify_zero_cons]
    simp only [lok, List.map_cons, List.sum_cons, List.getElem_cons_zero]
    split <;> omega
  | y :: l, i + 1, h => by
    rw [List.modify_succ_cons]
    have ih := lok_modify x a n l i (by simpa using h)
    simp only [lok, List.map_cons, List.sum_cons, List.getElem_cons_succ] at ih ⊢
    omega
theorem lok_owe (x a acc asset n : Int) (l : List OweV) : lok x a (oweL acc asset n l) = lok x a l + (if acc = x ∧ asset = a then n else 0) := by
  unfold oweL
  split
  · rename_i i hi
    rw [List.findIdx?_eq_some_iff_getElem] at hi
    obtain ⟨h1, h2, _⟩ := hi
    rw [lok_modify x a n l i h1]
    unfold oweP at h2
    simp only [Bool.and_eq_true, decide_eq_true_eq] at h2
    rw [h2.1, h2.2]
  · have := sum_perm ((laid_perm (r := owB) (x := (⟨acc, asset, n⟩ : OweV)) (l := l)).map (fun y => if y.acc = x ∧ y.asset = a then y.n else 0))
    unfold lok
    rw [this]
    simp only [List.map_cons, List.sum_cons]
    omega
/-- The list tells the claims. -/
structure Rep (l : List OweV) (f : Cls) : Prop where
  ok : OwOk l
  eq : ∀ x a, Cl2 x a → cg f x a = lok x a l
theorem rep_add {l : List OweV} {f : Cls} (h : Rep l f) {x a n : Int} (hx : Cl2 x a) (hn : 1 ≤ n) : Rep (oweL x a n l) (addC f x a n) := by
  refine ⟨owok_owe h.ok hx.1 hx.2 hn, fun y b hy => ?_⟩
  rw [cg_add, lok_owe, h.eq y b hy]
  by_cases e : y = x ∧ b = a
  · rw [if_pos e, if_pos ⟨e.1.symm, e.2.symm⟩]
  · rw [if_neg e, if_neg (fun c => e ⟨c.1.symm, c.2.symm⟩)]
theorem owB_trans {a b c : OweV} (h : owB a b = true) (k : owB b c = true) : owB a c = true := by
  unfold owB at *
  simp only [Bool.or_eq_true, Bool.and_eq_true, decide_eq_true_eq] at *
  omega
theorem ow_pairC : ∀ {l : List OweV}, srtB owB l = true → l.Pairwise (fun x y => owB x y = true)
  | [], _ => List.Pairwise.nil
  | [x], _ => by simp
  | x :: y :: l, h => by
    have ih := ow_pairC (srt_tail h)
    have hxy := srt_head h
    rw [List.pairwise_cons]
    refine ⟨fun z hz => ?_, ih⟩
    rw [List.mem_cons] at hz
    rcases hz with rfl | hz
    · exact hxy
    · exact owB_trans hxy ((List.pairwise_cons.1 ih).1 z hz)
theorem pair_ow : ∀ {l : List OweV}, l.Pairwise (fun x y => owB x y = true) → srtB owB l = true
  | [], _ => rfl
  | [x], _ => rfl
  | x :: y :: l, h => by
    rw [List.pairwise_cons] at h
    unfold srtB
    rw [h.1 y (List.mem_cons_self ..), pair_ow h.2]
    rfl
theorem lok_none {x a : Int} {l : List OweV} (h : ∀ y ∈ l, ¬ (y.acc = x ∧ y.asset = a)) : lok x a l = 0 := by
  induction l with
  | nil => rfl
  | cons y l ih =>
    rw [lok_cons, if_neg (h y (List.mem_cons_self ..)), ih (fun z hz => h z (List.mem_cons_of_mem _ hz))]
    rfl
theorem lok_beyond {y : OweV} {l : List OweV} (h : ∀ z ∈ l, owB y z = true) : lok y.acc y.asset l = 0 := by
  refine lok_none (fun z hz c => ?_)
  have := h z hz
  unfold owB at this
  simp only [Bool.or_eq_true, Bool.and_eq_true, decide_eq_true_eq] at this
  omega
theorem rep_one : ∀ {l m : List OweV}, l.Pairwise (fun x y => owB x y = true) → m.Pairwise (fun x y => owB x y = true) → (∀ y ∈ l, Cl2 y.acc y.asset ∧ 1 ≤ y.n) → (∀ y ∈ m, Cl2 y.acc y.asset ∧ 1 ≤ y.n) → (∀ x a, Cl2 x a → lok x a l = lok x a m) → l = m
  | [], [], _, _, _, _, _ => rfl
  | [], z :: m, _, hm, _, km, h => by
    exfalso
    rw [List.pairwise_cons] at hm
    have kz := km z (List.mem_cons_self ..)
    have := h z.acc z.asset kz.1
    rw [lok_cons, if_pos ⟨rfl, rfl⟩, lok_beyond hm.1] at this
    simp [lok] at this
    omega
  | y :: l, [], hl, _, kl, _, h => by
    exfalso
    rw [List.pairwise_cons] at hl
    have ky := kl y (List.mem_cons_self ..)
    have := h y.acc y.asset ky.1
    rw [lok_cons, if_pos ⟨rfl, rfl⟩, lok_beyond hl.1] at this
    simp [lok] at this
    omega
  | y :: l, z :: m, hl, hm, kl, km, h => by
    rw [List.pairwise_cons] at hl hm
    have ky := kl y (List.mem_cons_self ..)
    have kz := km z (List.mem_cons_self ..)
    have h1 := h y.acc y.asset ky.1
    have h2 := h z.acc z.asset kz.1
    have e : y.acc = z.acc ∧ y.asset = z.asset := by
      by_cases e : y.acc = z.acc ∧ y.asset = z.asset
      · exact e
      · exfalso
        have hc : owB y z = true ∨ owB z y = true := by
          unfold owB
          simp only [Bool.or_eq_true, Bool.and_eq_true, decide_eq_true_eq]
          omega
        rcases hc with hc | hc
        · rw [lok_cons, if_pos ⟨rfl, rfl⟩, lok_beyond hl.1, lok_beyond (y := y) (l := z :: m) (fun u hu => by
            rw [List.mem_cons] at hu
            rcases hu with rfl | hu
            · exact hc
            · exact owB_trans hc (hm.1 u hu))] at h1
          omega
        · rw [lok_cons z.acc z.asset z m, if_pos ⟨rfl, rfl⟩, lok_beyond hm.1, lok_beyond (y := z) (l := y :: l) (fun u hu => by
            rw [List.mem_cons] at hu
            rcases hu with rfl | hu
            · exact hc
            · exact owB_trans hc (hl.1 u hu))] at h2
          omega
    have en : y.n = z.n := by
      rw [lok_cons, lok_cons, if_pos ⟨rfl, rfl⟩, if_pos ⟨e.1.symm, e.2.symm⟩, lok_beyond hl.1, e.1, e.2, lok_beyond hm.1] at h1
      omega
    have eyz : y = z := by
      obtain ⟨y1, y2, y3⟩ := y
      obtain ⟨z1, z2, z3⟩ := z
      simp only at e en
      obtain ⟨rfl, rfl⟩ := e
      subst en
      rfl
    subst eyz
    rw [rep_one hl.2 hm.2 (fun u hu => kl u (List.mem_cons_of_mem _ hu)) (fun u hu => km u (List.mem_cons_of_mem _ hu)) (fun x a hx => by
      have := h x a hx
      rw [lok_cons, lok_cons] at this
      omega)]
theorem one1_mem {f : Cls} {x a : Int} {y : OweV} (h : y ∈ one1 f x a) : y.acc = x ∧ y.asset = a ∧ 1 ≤ y.n ∧ y.n = cg f x a := by
  unfold one1 at h
  split at h
  · rename_i hc
    simp only [List.mem_singleton] at h
    subst h
    exact ⟨rfl, rfl, by show 1 ≤ cg f x a; omega, rfl⟩
  · simp at h
theorem prt_mem {f : Cls} {x : Int} {y : OweV} (h : y ∈ prt f x 2) : y.acc = x ∧ (y.asset = 0 ∨ y.asset = 1) ∧ 1 ≤ y.n ∧ y.n = cg f x y.asset := by
  have h' : y ∈ one1 f x 0 ++ one1 f x 1 := h
  rw [List.mem_append] at h'
  rcases h' with h' | h'
  · have := one1_mem h'
    exact ⟨this.1, .inl this.2.1, this.2.2.1, by rw [this.2.1]; exact this.2.2.2⟩
  · have := one1_mem h'
    exact ⟨this.1, .inr this.2.1, this.2.2.1, by rw [this.2.1]; exact this.2.2.2⟩
theorem lst_mem {f : Cls} : ∀ {k : Nat} {y : OweV}, y ∈ lstK f k → (1 ≤ y.acc ∧ y.acc ≤ k) ∧ (y.asset = 0 ∨ y.asset = 1) ∧ 1 ≤ y.n ∧ y.n = cg f y.acc y.asset
  | 0, y, h => by simp [lstK] at h
  | k + 1, y, h => by
    rw [lstK, List.mem_append] at h
    rcases h with h | h
    · have := lst_mem h
      exact ⟨by omega, this.2⟩
    · have := prt_mem h
      exact ⟨by omega, this.2.1, this.2.2.1, by rw [this.1]; exact this.2.2.2⟩
theorem one1_pair (f : Cls) (x a : Int) : (one1 f x a).Pairwise (fun x y => owB x y = true) := by
  unfold one1
  split <;> simp
theorem prt_pair (f : Cls) (x : Int) : (prt f x 2).Pairwise (fun x y => owB x y = true) := by
  show (one1 f x 0 ++ one1 f x 1).Pairwise _
  rw [List.pairwise_append]
  refine ⟨one1_pair f x 0, one1_pair f x 1, fun y hy z hz => ?_⟩
  have h1 := one1_mem hy
  have h2 := one1_mem hz
  unfold owB
  simp only [Bool.or_eq_true, Bool.and_eq_true, decide_eq_true_eq]
  omega
theorem lst_pair (f : Cls) : ∀ k, (lstK f k).Pairwise (fun x y => owB x y = true)
  | 0 => List.Pairwise.nil
  | k + 1 => by
    rw [lstK, List.pairwise_append]
    refine ⟨lst_pair f k, prt_pair f _, fun y hy z hz => ?_⟩
    have h1 := lst_mem hy
    have h2 := prt_mem hz
    unfold owB
    simp only [Bool.or_eq_true, Bool.and_eq_true, decide_eq_true_eq]
    omega
theorem lok_one1 {f : Cls} {x a y b : Int} (h : 0 ≤ cg f x a) : lok y b (one1 f x a) = if x = y ∧ a = b then cg f x a else 0 := by
  unfold one1
  split
  · simp [lok]
  · simp only [lok, List.map_nil, List.sum_nil]
    split <;> omega
theorem lok_lst {f : Cls} (hf : ∀ x a, 0 ≤ cg f x a) {y b : Int} (hb : b = 0 ∨ b = 1) (h1 : 1 ≤ y) : ∀ k : Nat, lok y b (lstK f k) = if y ≤ k then cg f y b else 0
  | 0 => by
    rw [if_neg (by omega)]
    rfl
  | k + 1 => by
    have e : lok y b (prt f ((k : Int) + 1) 2) = if y = (k : Int) + 1 then cg f y b else 0 := by
      show lok y b (one1 f ((k : Int) + 1) 0 ++ one1 f ((k : Int) + 1) 1) = _
      rw [lok_app, lok_one1 (hf _ _), lok_one1 (hf _ _)]
      by_cases hy : y = (k : Int) + 1
      · rw [if_pos hy]
        rcases hb with rfl | rfl
        · rw [if_pos ⟨hy.symm, rfl⟩, if_neg (by omega), hy]
          omega
        · rw [if_neg (by omega), if_pos ⟨hy.symm, rfl⟩, hy]
          omega
      · rw [if_neg hy, if_neg (by omega), if_neg (by omega)]
        rfl
    rw [lstK, lok_app, lok_lst hf hb h1 k, e]
    by_cases c1 : y ≤ (k : Int)
    · rw [if_pos c1, if_neg (by omega), if_pos (by push_cast; omega)]
      omega
    · rw [if_neg c1]
      by_cases c2 : y = (k : Int) + 1
      · rw [if_pos c2, if_pos (by push_cast; omega)]
        omega
      · rw [if_neg c2, if_neg (by push_cast; omega)]
        rfl
theorem lst_owok (f : Cls) : OwOk (lstK f 8) := by
  refine ⟨pair_ow (lst_pair f 8), fun y hy => ?_⟩
  have := lst_mem hy
  exact ⟨by omega, by omega, this.2.2.1⟩
/-- The list of the claims is the list. -/
theorem rep_list {l : List OweV} {f : Cls} (h : Rep l f) (hf : ∀ x a, 0 ≤ cg f x a) : lstK f 8 = l := by
  refine rep_one (lst_pair f 8) (ow_pairC h.ok.1) (fun y hy => ?_) (fun y hy => ?_) (fun x a hx => ?_)
  · have := (lst_owok f).2 y hy
    exact ⟨⟨this.1, this.2.1⟩, this.2.2⟩
  · have := h.ok.2 y hy
    exact ⟨⟨this.1, this.2.1⟩, this.2.2⟩
  · obtain ⟨h1, h2⟩ := hx
    rw [lok_lst hf (by omega) h1.1 8, if_pos (by omega), h.eq x a ⟨h1, h2⟩]
theorem cls_rep {l : List OweV} (h : OwOk l) : Rep l (clsOf l) := by
  refine ⟨h, fun x a _ => ?_⟩
  have key : ∀ (l : List OweV) (f : Cls), l.Pairwise (fun x y => owB x y = true) → cg (l.foldl (fun f y => updC f y.acc y.asset y.n) f) x a = if (∃ y ∈ l, y.acc = x ∧ y.asset = a) then lok x a l else cg f x a := by
    intro l
    induction l with
    | nil => intro f _; simp
    | cons y l ih =>
      intro f hl
      rw [List.pairwise_cons] at hl
      rw [List.foldl_cons, ih _ hl.2]
      by_cases e : y.acc = x ∧ y.asset = a
      · obtain ⟨rfl, rfl⟩ := e
        have hb := lok_beyond hl.1
        have hn : ¬ ∃ z ∈ l, z.acc = y.acc ∧ z.asset = y.asset := by
          rintro ⟨z, hz, c⟩
          have := hl.1 z hz
          unfold owB at this
          simp only [Bool.or_eq_true, Bool.and_eq_true, decide_eq_true_eq] at this
          omega
        rw [if_neg hn, if_pos ⟨y, List.mem_cons_self .., rfl, rfl⟩, lok_cons, if_pos ⟨rfl, rfl⟩, hb]
        simp [cg, updC]
      · rw [lok_cons, if_neg e]
        have hc : cg (updC f y.acc y.asset y.n) x a = cg f x a := by
          unfold cg updC
          rw [if_neg (fun c => e ⟨c.1.symm, c.2.symm⟩)]
        rw [hc]
        by_cases e2 : ∃ z ∈ l, z.acc = x ∧ z.asset = a
        · obtain ⟨z, hz, c⟩ := e2
          rw [if_pos ⟨z, hz, c⟩, if_pos ⟨z, List.mem_cons_of_mem _ hz, c⟩]
          omega
        · rw [if_neg e2, if_neg]
          rintro ⟨z, hz, c⟩
          rw [List.mem_cons] at hz
          rcases hz with rfl | hz
          · exact e c
          · exact e2 ⟨z, hz, c⟩
  have := key l (fun _ _ => none) (ow_pairC h.1)
  unfold clsOf
  rw [this]
  split
  · rfl
  · rename_i hn
    rw [lok_none (fun y hy c => hn ⟨y, hy, c⟩)]
    rfl
theorem mul_ge1 {a b : Int} (ha : 1 ≤ a) (hb : 1 ≤ b) : 1 ≤ a * b := mul_pos1 ha hb
/-- One trade's settlement of a list. -/
def stlO (l : List OweV) (xa xp ya p n : Int) : List OweV := oweL ya 0 (p * n) (if p < xp then oweL xa 0 ((xp - p) * n) (oweL xa 1 n l) else oweL xa 1 n l)
theorem rep_stl {l : List OweV} {f : Cls} (h : Rep l f) {xa xp ya p n : Int} (hx : 1 ≤ xa ∧ xa ≤ 8) (hy : 1 ≤ ya ∧ ya ≤ 8) (hp : 1 ≤ p) (hn : 1 ≤ n) : Rep (stlO l xa xp ya p n) (stlC f xa xp ya p n) := by
  unfold stlO stlC
  have h1 := rep_add h (x := xa) (a := 1) (n := n) ⟨hx, by omega⟩ hn
  by_cases c : p < xp
  · rw [if_pos c, if_pos c]
    exact rep_add (rep_add h1 ⟨hx, by omega⟩ (mul_ge1 (by omega) hn)) ⟨hy, by omega⟩ (mul_ge1 hp hn)
  · rw [if_neg c, if_neg c]
    exact rep_add h1 ⟨hy, by omega⟩ (mul_ge1 hp hn)
theorem stl_sum {l : List OweV} {xa xp ya p n : Int} (hp : p ≤ xp) : sumA 0 (stlO l xa xp ya p n) = sumA 0 l + xp * n ∧ sumA 1 (stlO l xa xp ya p n) = sumA 1 l + n := by
  unfold stlO
  by_cases c : p < xp
  · simp only [if_pos c, sumA_owe]
    refine ⟨?_, by simp⟩
    simp [Int.sub_mul]
    omega
  · have e : xp = p := by omega
    rw [if_neg c]
    simp only [sumA_owe, e]
    exact ⟨by simp, by simp⟩
end Go.Proofs.Ytgnmghcdfihmgaa
namespace Go.Proofs.Ytgnmghcdfihmgaa
open Go.RowKit Go.Maps
set_option linter.all false
set_option maxHeartbeats 8000000 in
set_option maxRecDepth 100000 in
theorem un1_is (mb c : Nat) (f : Cls) (xi xa xp xl yi ya yp yl p n : Int) (KO KP : Nat) (w : World) (h : CM w mb c f) (ho : w.heap[KO]? = some (.cells #[.map (some mb)] 53 (0, 0))) (hpp : w.heap[KP]? = some (.cells #[.int .i64 p] 3 (0, 0))) (hc : c ≤ 1000) (hx : 1 ≤ xa ∧ xa ≤ 8) (hy : 1 ≤ ya ∧ ya ≤ 8) (hn : 0 ≤ n ∧ n ≤ 1000000) (hp : 0 ≤ p ∧ p ≤ 1000000) (hxp : 0 ≤ xp ∧ xp ≤ 1000000) (hf : ∀ x a, 0 ≤ cg f x a ∧ cg f x a ≤ 4000000000000000000) : Calls Try.prog 28 #[.agg #[.int .i64 xi, .int .i64 xa, .int .i64 xp, .int .i64 xl], .agg #[.int .i64 yi, .int .i64 ya, .int .i64 yp, .int .i64 yl], .int .i64 n, .pointer (some ⟨KO, 0, none⟩), .pointer (some ⟨KP, 0, none⟩)] w fun e w' => e = .returned (.agg #[.int .i64 xa, .int .i64 ya, .int .i64 p, .int .i64 n]) ∧ CM w' mb (c + 3) (stlC f xa xp ya p n) ∧ Out (fun k => k = mb) w w' := by
  obtain ⟨k1, k2, k3, k4⟩ := three_heap w (.cells #[.int .i64 xi, .int .i64 xa, .int .i64 xp, .int .i64 xl] 38) (.cells #[.int .i64 yi, .int .i64 ya, .int .i64 yp, .int .i64 yl] 38) (.cells #[.int .i64 0, .int .i64 0, .int .i64 0, .int .i64 0] 41)
  have hb3 := below3 w (.cells #[.int .i64 xi, .int .i64 xa, .int .i64 xp, .int .i64 xl] 38) (.cells #[.int .i64 yi, .int .i64 ya, .int .i64 yp, .int .i64 yl] 38) (.cells #[.int .i64 0, .int .i64 0, .int .i64 0, .int .i64 0] 41)
  have hlt := h.lt
  have lO := (Array.getElem?_eq_some_iff.1 ho).1
  have lP := (Array.getElem?_eq_some_iff.1 hpp).1
  have nO : KO ≠ mb := by
    rintro rfl
    obtain ⟨n', D, -, ⟨es, clock, hb, -⟩, -⟩ := h
    rw [hb] at ho
    cases ho
  have nP : KP ≠ mb := by
    rintro rfl
    obtain ⟨n', D, -, ⟨es, clock, hb, -⟩, -⟩ := h
    rw [hb] at hpp
    cases hpp
  have HST := hideIt (settle_is mb c f xi xa xp xl yi ya yp yl p n _ (h.keep hb3) hc hx hy hn hp hxp hf)
  have HO := hideIt ((hb3.block _ lO).trans ho)
  have HP := hideIt ((hb3.block _ lP).trans hpp)
  have HB3 := hideIt hb3
  have K1 := hideIt k1
  have K2 := hideIt k2
  have K3 := hideIt k3
  clear k1 k2 k3 hb3 ho hpp h
  go_enter Try.func28, Try.ntmps28
  go_upto_region 1 with fail
  generalize ((w.alloc (.cells #[.int .i64 xi, .int .i64 xa, .int .i64 xp, .int .i64 xl] 38)).alloc (.cells #[.int .i64 yi, .int .i64 ya, .int .i64 yp, .int .i64 yl] 38)).alloc (.cells #[.int .i64 0, .int .i64 0, .int .i64 0, .int .i64 0] 41) = W0 at *
  have o0 : W0.cell? ⟨KO, 0, none⟩ = some (.map (some mb)) := by rw [cell_at HO.out]; rfl
  have oz : KO < W0.heap.size := (Array.getElem?_eq_some_iff.1 HO.out).1
  have p0 : W0.cell? ⟨KP, 0, none⟩ = some (.int .i64 p) := by rw [cell_at HP.out]; rfl
  have pz : KP < W0.heap.size := (Array.getElem?_eq_some_iff.1 HP.out).1
  obtain ⟨⟨a0, a1, a2, a3⟩, -, az⟩ := four_at5 K1.out
  obtain ⟨⟨b0, b1, b2, b3⟩, -, bz⟩ := four_at5 K2.out
  go_wp2_with fail
  refine HST.out.mono ?_
  rintro e w2 ⟨rfl, hM, hO⟩
  dsimp only
  have M2 := hideIt hM
  have O2 := hideIt hO
  have k1 := (hO.block w.heap.size (by omega) (by omega)).trans K1.out
  have k2 := (hO.block (w.heap.size + 1) (by omega) (by omega)).trans K2.out
  have k3 := (hO.block (w.heap.size + 2) (by omega) (by omega)).trans K3.out
  have kp := (hO.block KP pz nP).trans HP.out
  clear hM hO o0 oz p0 pz a0 a1 a2 a3 az b0 b1 b2 b3 bz HST HO HP K1 K2 K3
  obtain ⟨⟨a0, a1, a2, a3⟩, -, az⟩ := four_at5 k1
  obtain ⟨⟨b0, b1, b2, b3⟩, -, bz⟩ := four_at5 k2
  obtain ⟨⟨d0, d1, d2, d3⟩, df, dz⟩ := four_at5 k3
  have p0 : w2.cell? ⟨KP, 0, none⟩ = some (.int .i64 p) := by rw [cell_at kp]; rfl
  have pz : KP < w2.heap.size := (Array.getElem?_eq_some_iff.1 kp).1
  have PT := hideIt (put4 w2 (w.heap.size + 2) 41 (.int .i64 xa) (.int .i64 ya) (.int .i64 p) (.int .i64 n) k3)
  have FN : Hid (CM ((((w2.setCell ⟨w.heap.size + 2, 0, none⟩ (.int .i64 xa)).setCell ⟨w.heap.size + 2, 1, none⟩ (.int .i64 ya)).setCell ⟨w.heap.size + 2, 2, none⟩ (.int .i64 p)).setCell ⟨w.heap.size + 2, 3, none⟩ (.int .i64 n)) mb (c + 3) (stlC f xa xp ya p n) ∧ Out (fun k => k = mb) w ((((w2.setCell ⟨w.heap.size + 2, 0, none⟩ (.int .i64 xa)).setCell ⟨w.heap.size + 2, 1, none⟩ (.int .i64 ya)).setCell ⟨w.heap.size + 2, 2, none⟩ (.int .i64 p)).setCell ⟨w.heap.size + 2, 3, none⟩ (.int .i64 n))) := by
    have hne : mb ≠ w.heap.size + 2 := by omega
    refine ⟨M2.out.block (setOther _ (setOther _ (setOther _ (setOther _ rfl hne) hne) hne) hne), ?_⟩
    have h1 : Out (fun k => k = mb) w w2 := (Out.ofBelow HB3.out).trans O2.out (fun _ _ h => h)
    have hs : ∀ (W : World) (j : Nat) (v : Value), Out (fun k => k = mb) w W → Out (fun k => k = mb) w (W.setCell ⟨w.heap.size + 2, j, none⟩ v) := fun W j v hW => hW.trans (Out.ofSet (F := fun k => k = w.heap.size + 2) W ⟨w.heap.size + 2, j, none⟩ v rfl) (fun i hi e => by omega)
    exact hs _ _ _ (hs _ _ _ (hs _ _ _ (hs _ _ _ h1)))
  clear M2 O2 HB3
  go_wp2
  revert PT FN
  generalize (World.setCell _ ⟨w.heap.size + 2, 3, none⟩ _) = WF
  intro PT FN
  exact bodyPost_ret (v := .agg #[.int .i64 xa, .int .i64 ya, .int .i64 p, .int .i64 n]) (by simp [results, Try.results28, go_sem, cell_at PT.out]) rfl ⟨rfl, FN.out⟩
end Go.Proofs.Ytgnmghcdfihmgaa
namespace Go.Proofs.Ytgnmghcdfihmgaa
open Go.RowKit
set_option linter.all false
def zLn : LaneV := ⟨false, 0, [], [], []⟩
def calR (L : LaneV) : LaneV × Int := if rfE L false = 0 then (⟨true, L.next, L.bids, L.asks, L.owed⟩, 0) else (zLn, rfE L false)
def CaB (X : LaneV × Int) (w : World) (e : Ending) (w' : World) : Prop := ∃ b a o, e = .returned (.tuple #[laneV X.1 b a o, .int .i64 X.2]) ∧ w'.ownsRow w.heap.size 38 4 b X.1.bids.length (celC ordE X.1.bids) ∧ w'.ownsRow w.heap.size 38 4 a X.1.asks.length (celC ordE X.1.asks) ∧ w'.ownsRow w.heap.size 48 3 o X.1.owed.length (celC oweE X.1.owed) ∧ Below w.heap.size w w'
set_option maxHeartbeats 16000000 in
set_option maxRecDepth 100000 in
theorem call_is (L : LaneV) (b a o : Value) (w : World) (h : Lan w L b a o) : Calls Try.prog 9 #[laneV L b a o] w (CaB (calR L) w) := by
  have X0 := hideIt (CB.first w L b a o)
  have HC := hideIt (aRefused_is L b a o false _ (h.keep X0.out.bel))
  have HCB := hideIt (fun W (hW : Below w.heap.size w W) => cloneO_is b L.bids W (h.keep hW).bids)
  have HCA := hideIt (fun W (hW : Below w.heap.size w W) => cloneO_is a L.asks W (h.keep hW).asks)
  have HCO := hideIt (fun W (hW : Below w.heap.size w W) => cloneW_is o L.owed W (h.keep hW).owed)
  obtain ⟨ba, bc, rfl⟩ := h.bids.slice
  obtain ⟨aa, ac, rfl⟩ := h.asks.slice
  obtain ⟨oa, oc, rfl⟩ := h.owed.slice
  clear h
  by_cases h0 : rfE L false = 0
  · have HR : Hid (calR L = (⟨true, L.next, L.bids, L.asks, L.owed⟩, 0)) := by show _ = _; unfold calR; rw [if_pos h0]
    rw [h0] at HC
    generalize calR L = RX at *
    unfold laneV laneA at *
    obtain ⟨cl, nx, bids, asks, owed⟩ := L
    simp only at *
    clear h0
    go_enter Try.func9, Try.ntmps9
    go_wp2_with fail
    refine HC.out.mono ?_
    rintro e w1 ⟨rfl, hb⟩
    dsimp only
    · have X1 := hideIt (X0.out.keep hb)
      clear hb X0 HC
      obtain ⟨x0, x1, x2, x3, x4⟩ := X1.out.cells
      obtain ⟨⟨r0, r1, r2, r3, r4⟩, rf, rl⟩ := five5_at X1.out.res
      simp only at x0 x1 x2 x3 x4
      have z2 : w.heap.size < w1.heap.size := by have := X1.out.size; omega
      have HB2 : Hid (∀ W, Below w1.heap.size w1 W → Calls Try.prog 23 #[.slice ba bids.length bc] W fun e w' => ∃ q k, e = .returned (.slice q bids.length k) ∧ Hid (w'.ownsRow (w.heap.size + 2) 38 4 (.slice q bids.length k) bids.length (celC ordE bids) ∧ Below W.heap.size W w') ∧ Hid (Below w1.heap.size w1 w') ∧ (w'.cell? ⟨w.heap.size, 1, none⟩ = some (.int .i64 nx) ∧ w'.cell? ⟨w.heap.size, 2, none⟩ = some (.slice ba bids.length bc) ∧ w'.cell? ⟨w.heap.size, 3, none⟩ = some (.slice aa asks.length ac) ∧ w'.cell? ⟨w.heap.size, 4, none⟩ = some (.slice oa owed.length oc)) ∧ w.heap.size < w'.heap.size ∧ (w'.cell? ⟨w.heap.size + 1, 0, none⟩ = some (.bool false) ∧ w'.cell? ⟨w.heap.size + 1, 1, none⟩ = some (.int .i64 0) ∧ w'.cell? ⟨w.heap.size + 1, 2, none⟩ = some (.slice none 0 0) ∧ w'.cell? ⟨w.heap.size + 1, 3, none⟩ = some (.slice none 0 0) ∧ w'.cell? ⟨w.heap.size + 1, 4, none⟩ = some (.slice none 0 0)) ∧ (∀ j, w'.frozen? ⟨w.heap.size + 1, j, none⟩ = false) ∧ w.heap.size + 1 < w'.heap.size) := by
        intro W hW
        have hX := X1.out.keep hW
        refine (HCB.out W hX.bel).mono ?_
        rintro e w' ⟨v', rfl, ho, hb⟩
        obtain ⟨q, k, rfl⟩ := own_len ho
        have hX' := hX.keep hb
        obtain ⟨-, y1, y2, y3, y4⟩ := hX'.cells
        obtain ⟨⟨s0, s1, s2, s3, s4⟩, sf, sz⟩ := five5_at hX'.res
        exact ⟨q, k, rfl, ⟨own_base ho hX.size, hb⟩, below_via hW hb, ⟨y1, y2, y3, y4⟩, by have := hX'.size; omega, ⟨s0, s1, s2, s3, s4⟩, sf, sz⟩
      have HA2 : Hid (∀ W, Below w1.heap.size w1 W → Calls Try.prog 23 #[.slice aa asks.length ac] W fun e w' => ∃ q k, e = .returned (.slice q asks.length k) ∧ Hid (w'.ownsRow (w.heap.size + 2) 38 4 (.slice q asks.length k) asks.length (celC ordE asks) ∧ Below W.heap.size W w') ∧ Hid (Below w1.heap.size w1 w') ∧ (w'.cell? ⟨w.heap.size, 1, none⟩ = some (.int .i64 nx) ∧ w'.cell? ⟨w.heap.size, 2, none⟩ = some (.slice ba bids.length bc) ∧ w'.cell? ⟨w.heap.size, 3, none⟩ = some (.slice aa asks.length ac) ∧ w'.cell? ⟨w.heap.size, 4, none⟩ = some (.slice oa owed.length oc)) ∧ w.heap.size < w'.heap.size ∧ (w'.cell? ⟨w.heap.size + 1, 0, none⟩ = some (.bool false) ∧ w'.cell? ⟨w.heap.size + 1, 1, none⟩ = some (.int .i64 0) ∧ w'.cell? ⟨w.heap.size + 1, 2, none⟩ = some (.slice none 0 0) ∧ w'.cell? ⟨w.heap.size + 1, 3, none⟩ = some (.slice none 0 0) ∧ w'.cell? ⟨w.heap.size + 1, 4, none⟩ = some (.slice none 0 0)) ∧ (∀ j, w'.frozen? ⟨w.heap.size + 1, j, none⟩ = false) ∧ w.heap.size + 1 < w'.heap.size) := by
        intro W hW
        have hX := X1.out.keep hW
        refine (HCA.out W hX.bel).mono ?_
        rintro e w' ⟨v', rfl, ho, hb⟩
        obtain ⟨q, k, rfl⟩ := own_len ho
        have hX' := hX.keep hb
        obtain ⟨-, y1, y2, y3, y4⟩ := hX'.cells
        obtain ⟨⟨s0, s1, s2, s3, s4⟩, sf, sz⟩ := five5_at hX'.res
        exact ⟨q, k, rfl, ⟨own_base ho hX.size, hb⟩, below_via hW hb, ⟨y1, y2, y3, y4⟩, by have := hX'.size; omega, ⟨s0, s1, s2, s3, s4⟩, sf, sz⟩
      have HO2 : Hid (∀ W, Below w1.heap.size w1 W → Calls Try.prog 24 #[.slice oa owed.length oc] W fun e w' => ∃ q k, e = .returned (.slice q owed.length k) ∧ Hid (w'.ownsRow (w.heap.size + 2) 48 3 (.slice q owed.length k) owed.length (celC oweE owed) ∧ Below W.heap.size W w') ∧ Hid (Below w1.heap.size w1 w') ∧ (w'.cell? ⟨w.heap.size, 1, none⟩ = some (.int .i64 nx) ∧ w'.cell? ⟨w.heap.size, 2, none⟩ = some (.slice ba bids.length bc) ∧ w'.cell? ⟨w.heap.size, 3, none⟩ = some (.slice aa asks.length ac) ∧ w'.cell? ⟨w.heap.size, 4, none⟩ = some (.slice oa owed.length oc)) ∧ w.heap.size < w'.heap.size ∧ (w'.cell? ⟨w.heap.size + 1, 0, none⟩ = some (.bool false) ∧ w'.cell? ⟨w.heap.size + 1, 1, none⟩ = some (.int .i64 0) ∧ w'.cell? ⟨w.heap.size + 1, 2, none⟩ = some (.slice none 0 0) ∧ w'.cell? ⟨w.heap.size + 1, 3, none⟩ = some (.slice none 0 0) ∧ w'.cell? ⟨w.heap.size + 1, 4, none⟩ = some (.slice none 0 0)) ∧ (∀ j, w'.frozen? ⟨w.heap.size + 1, j, none⟩ = false) ∧ w.heap.size + 1 < w'.heap.size) := by
        intro W hW
        have hX := X1.out.keep hW
        refine (HCO.out W hX.bel).mono ?_
        rintro e w' ⟨v', rfl, ho, hb⟩
        obtain ⟨q, k, rfl⟩ := own_len ho
        have hX' := hX.keep hb
        obtain ⟨-, y1, y2, y3, y4⟩ := hX'.cells
        obtain ⟨⟨s0, s1, s2, s3, s4⟩, sf, sz⟩ := five5_at hX'.res
        exact ⟨q, k, rfl, ⟨own_base ho hX.size, hb⟩, below_via hW hb, ⟨y1, y2, y3, y4⟩, by have := hX'.size; omega, ⟨s0, s1, s2, s3, s4⟩, sf, sz⟩
      clear HCB HCA HCO
      have nr : w.heap.size ≠ w.heap.size + 1 := by omega
      clear x0
      go_upto_region 4 with fail
      go_region_held3 (fun W => W.cell? ⟨w.heap.size, 1, none⟩ = some (.int .i64 nx) ∧ W.cell? ⟨w.heap.size, 2, none⟩ = some (.slice ba bids.length bc) ∧ W.cell? ⟨w.heap.size, 3, none⟩ = some (.slice aa asks.length ac) ∧ W.cell? ⟨w.heap.size, 4, none⟩ = some (.slice oa owed.length oc)) (go_keep) (first | (go_at_call 23; refine (HB2.out _ (by first | exact Below.refl _ _ | exact (Below.refl _ _).drew | exact HWA.out | exact HWO.out)).mono ?_; rintro e wB ⟨qB, mB, rfl, HQB, HWB, ⟨i1B, i2B, i3B, i4B⟩, izB, ⟨s0B, s1B, s2B, s3B, s4B⟩, sfB, szB⟩; clear HB2) | (go_at_call 23; refine (HA2.out _ (by first | exact Below.refl _ _ | exact (Below.refl _ _).drew | exact HWB.out | exact HWO.out)).mono ?_; rintro e wA ⟨qA, mA, rfl, HQA, HWA, ⟨i1A, i2A, i3A, i4A⟩, izA, ⟨s0A, s1A, s2A, s3A, s4A⟩, sfA, szA⟩; clear HA2) | (go_at_call 24; refine (HO2.out _ (by first | exact Below.refl _ _ | exact (Below.refl _ _).drew | exact HWA.out | exact HWB.out)).mono ?_; rintro e wO ⟨qO, mO, rfl, HQO, HWO, ⟨i1O, i2O, i3O, i4O⟩, izO, ⟨s0O, s1O, s2O, s3O, s4O⟩, sfO, szO⟩; clear HO2))
      all_goals
        first
        | (have XF := hideIt (X1.out.keep HWO.out)
           have HPT := hideIt (XF.out.put (.bool true) (.int .i64 nx) (.slice qB bids.length mB) (.slice qA asks.length mA) (.slice qO owed.length mO))
           have HRW := hideIt (And.intro (own_five (own_keep (own_keep HQB.out.1 HQA.out.2) HQO.out.2) XF.out.res (by decide) (.bool true) (.int .i64 nx) (.slice qB bids.length mB) (.slice qA asks.length mA) (.slice qO owed.length mO)) (And.intro (own_five (own_keep HQA.out.1 HQO.out.2) XF.out.res (by decide) (.bool true) (.int .i64 nx) (.slice qB bids.length mB) (.slice qA asks.length mA) (.slice qO owed.length mO)) (own_five HQO.out.1 XF.out.res (by decide) (.bool true) (.int .i64 nx) (.slice qB bids.length mB) (.slice qA asks.length mA) (.slice qO owed.length mO))))
           clear XF X1 HQB HQA HQO
           go_wp2
           revert HPT HRW
           generalize (World.setCell _ ⟨w.heap.size + 1, 4, none⟩ _) = WF
           intro HPT HRW
           exact bodyPost_ret (v := .tuple #[.agg #[.bool true, .int .i64 nx, .slice qB bids.length mB, .slice qA asks.length mA, .slice qO owed.length mO], .int .i64 0]) (by simp [results, Try.results9, go_sem, cell_at HPT.out.1, laneA]) rfl (by unfold CaB; rw [HR.out]; exact ⟨_, _, _, rfl, own_base HRW.out.1 (by omega), own_base HRW.out.2.1 (by omega), own_base HRW.out.2.2 (by omega), by first | exact HPT.out.2 | exact HPT.out.2.drew⟩))
        | (have XF := hideIt (X1.out.keep HWA.out)
           have HPT := hideIt (XF.out.put (.bool true) (.int .i64 nx) (.slice qB bids.length mB) (.slice qA asks.length mA) (.slice qO owed.length mO))
           have HRW := hideIt (And.intro (own_five (own_keep (own_keep HQB.out.1 HQO.out.2) HQA.out.2) XF.out.res (by decide) (.bool true) (.int .i64 nx) (.slice qB bids.length mB) (.slice qA asks.length mA) (.slice qO owed.length mO)) (And.intro (own_five HQA.out.1 XF.out.res (by decide) (.bool true) (.int .i64 nx) (.slice qB bids.length mB) (.slice qA asks.length mA) (.slice qO owed.length mO)) (own_five (own_keep HQO.out.1 HQA.out.2) XF.out.res (by decide) (.bool true) (.int .i64 nx) (.slice qB bids.length mB) (.slice qA asks.length mA) (.slice qO owed.length mO))))
           clear XF X1 HQB HQA HQO
           go_wp2
           revert HPT HRW
           generalize (World.setCell _ ⟨w.heap.size + 1, 4, none⟩ _) = WF
           intro HPT HRW
           exact bodyPost_ret (v := .tuple #[.agg #[.bool true, .int .i64 nx, .slice qB bids.length mB, .slice qA asks.length mA, .slice qO owed.length mO], .int .i64 0]) (by simp [results, Try.results9, go_sem, cell_at HPT.out.1, laneA]) rfl (by unfold CaB; rw [HR.out]; exact ⟨_, _, _, rfl, own_base HRW.out.1 (by omega), own_base HRW.out.2.1 (by omega), own_base HRW.out.2.2 (by omega), by first | exact HPT.out.2 | exact HPT.out.2.drew⟩))
        | (have XF := hideIt (X1.out.keep HWO.out)
           have HPT := hideIt (XF.out.put (.bool true) (.int .i64 nx) (.slice qB bids.length mB) (.slice qA asks.length mA) (.slice qO owed.length mO))
           have HRW := hideIt (And.intro (own_five (own_keep HQB.out.1 HQO.out.2) XF.out.res (by decide) (.bool true) (.int .i64 nx) (.slice qB bids.length mB) (.slice qA asks.length mA) (.slice qO owed.length mO)) (And.intro (own_five (own_keep (own_keep HQA.out.1 HQB.out.2) HQO.out.2) XF.out.res (by decide) (.bool true) (.int .i64 nx) (.slice qB bids.length mB) (.slice qA asks.length mA) (.slice qO owed.length mO)) (own_five HQO.out.1 XF.out.res (by decide) (.bool true) (.int .i64 nx) (.slice qB bids.length mB) (.slice qA asks.length mA) (.slice qO owed.length mO))))
           clear XF X1 HQB HQA HQO
           go_wp2
           revert HPT HRW
           generalize (World.setCell _ ⟨w.heap.size + 1, 4, none⟩ _) = WF
           intro HPT HRW
           exact bodyPost_ret (v := .tuple #[.agg #[.bool true, .int .i64 nx, .slice qB bids.length mB, .slice qA asks.length mA, .slice qO owed.length mO], .int .i64 0]) (by simp [results, Try.results9, go_sem, cell_at HPT.out.1, laneA]) rfl (by unfold CaB; rw [HR.out]; exact ⟨_, _, _, rfl, own_base HRW.out.1 (by omega), own_base HRW.out.2.1 (by omega), own_base HRW.out.2.2 (by omega), by first | exact HPT.out.2 | exact HPT.out.2.drew⟩))
        | (have XF := hideIt (X1.out.keep HWB.out)
           have HPT := hideIt (XF.out.put (.bool true) (.int .i64 nx) (.slice qB bids.length mB) (.slice qA asks.length mA) (.slice qO owed.length mO))
           have HRW := hideIt (And.intro (own_five HQB.out.1 XF.out.res (by decide) (.bool true) (.int .i64 nx) (.slice qB bids.length mB) (.slice qA asks.length mA) (.slice qO owed.length mO)) (And.intro (own_five (own_keep (own_keep HQA.out.1 HQO.out.2) HQB.out.2) XF.out.res (by decide) (.bool true) (.int .i64 nx) (.slice qB bids.length mB) (.slice qA asks.length mA) (.slice qO owed.length mO)) (own_five (own_keep HQO.out.1 HQB.out.2) XF.out.res (by decide) (.bool true) (.int .i64 nx) (.slice qB bids.length mB) (.slice qA asks.length mA) (.slice qO owed.length mO))))
           clear XF X1 HQB HQA HQO
           go_wp2
           revert HPT HRW
           generalize (World.setCell _ ⟨w.heap.size + 1, 4, none⟩ _) = WF
           intro HPT HRW
           exact bodyPost_ret (v := .tuple #[.agg #[.bool true, .int .i64 nx, .slice qB bids.length mB, .slice qA asks.length mA, .slice qO owed.length mO], .int .i64 0]) (by simp [results, Try.results9, go_sem, cell_at HPT.out.1, laneA]) rfl (by unfold CaB; rw [HR.out]; exact ⟨_, _, _, rfl, own_base HRW.out.1 (by omega), own_base HRW.out.2.1 (by omega), own_base HRW.out.2.2 (by omega), by first | exact HPT.out.2 | exact HPT.out.2.drew⟩))
        | (have XF := hideIt (X1.out.keep HWA.out)
           have HPT := hideIt (XF.out.put (.bool true) (.int .i64 nx) (.slice qB bids.length mB) (.slice qA asks.length mA) (.slice qO owed.length mO))
           have HRW := hideIt (And.intro (own_five (own_keep HQB.out.1 HQA.out.2) XF.out.res (by decide) (.bool true) (.int .i64 nx) (.slice qB bids.length mB) (.slice qA asks.length mA) (.slice qO owed.length mO)) (And.intro (own_five HQA.out.1 XF.out.res (by decide) (.bool true) (.int .i64 nx) (.slice qB bids.length mB) (.slice qA asks.length mA) (.slice qO owed.length mO)) (own_five (own_keep (own_keep HQO.out.1 HQB.out.2) HQA.out.2) XF.out.res (by decide) (.bool true) (.int .i64 nx) (.slice qB bids.length mB) (.slice qA asks.length mA) (.slice qO owed.length mO))))
           clear XF X1 HQB HQA HQO
           go_wp2
           revert HPT HRW
           generalize (World.setCell _ ⟨w.heap.size + 1, 4, none⟩ _) = WF
           intro HPT HRW
           exact bodyPost_ret (v := .tuple #[.agg #[.bool true, .int .i64 nx, .slice qB bids.length mB, .slice qA asks.length mA, .slice qO owed.length mO], .int .i64 0]) (by simp [results, Try.results9, go_sem, cell_at HPT.out.1, laneA]) rfl (by unfold CaB; rw [HR.out]; exact ⟨_, _, _, rfl, own_base HRW.out.1 (by omega), own_base HRW.out.2.1 (by omega), own_base HRW.out.2.2 (by omega), by first | exact HPT.out.2 | exact HPT.out.2.drew⟩))
        | (have XF := hideIt (X1.out.keep HWB.out)
           have HPT := hideIt (XF.out.put (.bool true) (.int .i64 nx) (.slice qB bids.length mB) (.slice qA asks.length mA) (.slice qO owed.length mO))
           have HRW := hideIt (And.intro (own_five HQB.out.1 XF.out.res (by decide) (.bool true) (.int .i64 nx) (.slice qB bids.length mB) (.slice qA asks.length mA) (.slice qO owed.length mO)) (And.intro (own_five (own_keep HQA.out.1 HQB.out.2) XF.out.res (by decide) (.bool true) (.int .i64 nx) (.slice qB bids.length mB) (.slice qA asks.length mA) (.slice qO owed.length mO)) (own_five (own_keep (own_keep HQO.out.1 HQA.out.2) HQB.out.2) XF.out.res (by decide) (.bool true) (.int .i64 nx) (.slice qB bids.length mB) (.slice qA asks.length mA) (.slice qO owed.length mO))))
           clear XF X1 HQB HQA HQO
           go_wp2
           revert HPT HRW
           generalize (World.setCell _ ⟨w.heap.size + 1, 4, none⟩ _) = WF
           intro HPT HRW
           exact bodyPost_ret (v := .tuple #[.agg #[.bool true, .int .i64 nx, .slice qB bids.length mB, .slice qA asks.length mA, .slice qO owed.length mO], .int .i64 0]) (by simp [results, Try.results9, go_sem, cell_at HPT.out.1, laneA]) rfl (by unfold CaB; rw [HR.out]; exact ⟨_, _, _, rfl, own_base HRW.out.1 (by omega), own_base HRW.out.2.1 (by omega), own_base HRW.out.2.2 (by omega), by first | exact HPT.out.2 | exact HPT.out.2.drew⟩))
  · have HR : Hid (calR L = (zLn, rfE L false)) := by show _ = _; unfold calR; rw [if_neg h0]
    generalize calR L = RX at *
    generalize rfE L false = er at *
    have h0q : (er == 0) = false := by simpa using h0
    unfold laneV laneA at *
    obtain ⟨cl, nx, bids, asks, owed⟩ := L
    simp only at *
    clear HCB HCA HCO
    go_enter Try.func9, Try.ntmps9
    go_wp2_with fail
    refine HC.out.mono ?_
    rintro e w1 ⟨rfl, hb⟩
    dsimp only
    have X1 := hideIt (X0.out.keep hb)
    clear hb X0 HC
    obtain ⟨⟨r0, r1, r2, r3, r4⟩, rf, rl⟩ := five5_at X1.out.res
    have HP := hideIt (X1.out.put (.bool false) (.int .i64 0) (.slice none 0 0) (.slice none 0 0) (.slice none 0 0))
    go_wp2
    revert HP
    generalize (World.setCell _ ⟨w.heap.size + 1, 4, none⟩ _) = W
    intro HP
    exact bodyPost_ret (v := .tuple #[laneV zLn (.slice none 0 0) (.slice none 0 0) (.slice none 0 0), .int .i64 er]) (by simp [results, Try.results9, go_sem, cell_at HP.out.1, laneV, laneA, zLn]) rfl (by unfold CaB; rw [HR.out]; exact ⟨_, _, _, rfl, own_nil _ _, own_nil _ _, own_nil _ _, HP.out.2⟩)
end Go.Proofs.Ytgnmghcdfihmgaa
namespace Go.Proofs.Ytgnmghcdfihmgaa
open Go.RowKit Go.Maps
set_option linter.all false
theorem own_cells3 {w : World} {B n : Nat} {e : TypeId} {z : Nat} {v : Value} {xs : List Value} (h : w.ownsRow B e z v n xs) (hn : 0 < n) : ∃ g c, v = .slice (some ⟨g, 0, none⟩) n c ∧ g < w.heap.size ∧ ∀ j u, xs[j]? = some u → w.cell? ⟨g, j, none⟩ = some u := by
  have hc := fun g hg => h.cells (g := g) hg
  obtain ⟨h1, ⟨rfl, h0⟩ | ⟨g, cap, cur, rfl, hB, hg, r⟩⟩ := h
  · omega
  · refine ⟨g, cap, rfl, (Array.getElem?_eq_some_iff.1 hg).1, fun j u hu => ?_⟩
    have := hc g rfl j u hu
    rwa [addN, Nat.zero_add] at this
/-- Both sides, the fills and the claims, on their way. -/
structure TX (w : World) (mb c : Nat) (f : Cls) (B A : List OrdV) (F : List FillV) (b a u : Value) (W : World) : Prop where
  rb : W.ownsRow w.heap.size 38 4 b B.length (celC ordE B)
  ra : W.ownsRow w.heap.size 38 4 a A.length (celC ordE A)
  ru : W.ownsRow w.heap.size 41 4 u F.length (celC filE F)
  ne : b.ownBlock = none ∨ b.ownBlock ≠ a.ownBlock
  cm : CM W mb c f
  out : Out (fun k => k = mb) w W
  lt : mb < w.heap.size
theorem TX.keep {w W W' : World} {mb c : Nat} {f : Cls} {B A : List OrdV} {F : List FillV} {b a u : Value} (h : TX w mb c f B A F b a u W) (hb : Below W.heap.size W W') : TX w mb c f B A F b a u W' :=
  ⟨own_keep h.rb hb, own_keep h.ra hb, own_keep h.ru hb, h.ne, h.cm.keep hb, h.out.trans (Out.ofBelow hb) (fun _ _ h => h), h.lt⟩
theorem TX.call {w W W2 : World} {mb c c2 : Nat} {f f2 : Cls} {B A : List OrdV} {F : List FillV} {b a u : Value} (h : TX w mb c f B A F b a u W) (hM : CM W2 mb c2 f2) (hO : Out (fun k => k = mb) W W2) : TX w mb c2 f2 B A F b a u W2 :=
  have hl : ∀ k, k = mb → k < w.heap.size := fun k e => by rw [e]; exact h.lt
  ⟨own_out h.rb hO hl, own_out h.ra hO hl, own_out h.ru hO hl, h.ne, hM, h.out.trans hO (fun _ _ h => h), h.lt⟩
theorem row_block {w : World} {B n k : Nat} {e : TypeId} {z : Nat} {v : Value} {xs : List Value} (h : w.ownsRow B e z v n xs) (hk : v.ownBlock = some k) : B ≤ k := (h.lt k hk).1
theorem TX.app {w W : World} {mb c : Nat} {f : Cls} {B A : List OrdV} {F : List FillV} {b a u : Value} (h : TX w mb c f B A F b a u W) (x : FillV) (hl : F.length ≤ 1000) : ∃ a' c' w', (Builtin.append_ #[30, 30] 30 #[u, .slice (some ⟨W.heap.size, 0, none⟩) 1 1]).run Try.prog (W.alloc (.cells (filE x).toArray 41)) = .ok (.slice a' (F.length + 1) c') w' ∧ TX w mb c f B A (F ++ [x]) b a (.slice a' (F.length + 1) c') w' := by
  have hb := below1 W (.cells (filE x).toArray 41)
  have h1 := h.keep hb
  obtain ⟨v', w', hrun, how, hgr⟩ := app1 (enc := filE) (t := 30) filK fil1 Try.underlying30 info39 rfl (by omega) (W.alloc (.cells (filE x).toArray 41)) w.heap.size u F x W.heap.size 1 h1.out.size h1.ru (heap_alloc_new W _) (by omega) (by unfold maxLen; omega)
  obtain ⟨a', c', rfl⟩ := own_len how
  have hlen : (F ++ [x]).length = F.length + 1 := by simp
  rw [hlen] at hrun how
  have hmb : ∀ k, u.ownBlock = some k → k ≠ mb := fun k hk e => by have := row_block h1.ru hk; have := h1.lt; omega
  refine ⟨a', c', w', hrun, own_type hgr h1.ru h1.rb (by decide), own_type hgr h1.ru h1.ra (by decide), by rw [hlen]; exact how, h1.ne, h1.cm.block (hgr.block mb h1.cm.lt (fun e => hmb mb e.symm rfl)), h1.out.trans (Out.ofGrown (F := fun k => w.heap.size ≤ k) hgr (fun k hk => row_block h1.ru hk)) (fun i hi e => by omega), h1.lt⟩
theorem TX.takB {w W W' : World} {mb c : Nat} {f : Cls} {B A B' : List OrdV} {F : List FillV} {b a u b' : Value} (h : TX w mb c f B A F b a u W) (ho : W'.ownsRow w.heap.size 38 4 b' B'.length (celC ordE B')) (hg : W.grownBy W' b.ownBlock) (he : b'.ownBlock = b.ownBlock) : TX w mb c f B' A F b' a u W' := by
  have hmb : ∀ k, b.ownBlock = some k → k ≠ mb := fun k hk e => by have := row_block h.rb hk; have := h.lt; omega
  refine ⟨ho, h.ra.kept hg ?_, own_type hg h.rb h.ru (by decide), by rw [he]; exact h.ne, h.cm.block (hg.block mb h.cm.lt (fun e => hmb mb e.symm rfl)), h.out.trans (Out.ofGrown (F := fun k => w.heap.size ≤ k) hg (fun k hk => row_block h.rb hk)) (fun i hi e => by omega), h.lt⟩
  rcases h.ne with e | e
  · cases ha : a.ownBlock
    · exact .inl rfl
    · refine .inr ?_
      rw [e]
      simp
  · exact .inr (fun e' => e e'.symm)
theorem TX.takA {w W W' : World} {mb c : Nat} {f : Cls} {B A A' : List OrdV} {F : List FillV} {b a u a' : Value} (h : TX w mb c f B A F b a u W) (ho : W'.ownsRow w.heap.size 38 4 a' A'.length (celC ordE A')) (hg : W.grownBy W' a.ownBlock) (he : a'.ownBlock = a.ownBlock) : TX w mb c f B A' F b a' u W' := by
  have hmb : ∀ k, a.ownBlock = some k → k ≠ mb := fun k hk e => by have := row_block h.ra hk; have := h.lt; omega
  exact ⟨h.rb.kept hg h.ne, ho, own_type hg h.ra h.ru (by decide), by rw [he]; exact h.ne, h.cm.block (hg.block mb h.cm.lt (fun e => hmb mb e.symm rfl)), h.out.trans (Out.ofGrown (F := fun k => w.heap.size ≤ k) hg (fun k hk => row_block h.ra hk)) (fun i hi e => by omega), h.lt⟩
end Go.Proofs.Ytgnmghcdfihmgaa
namespace Go.Proofs.Ytgnmghcdfihmgaa
open Go.RowKit Go.Maps
set_option linter.all false
def lenOf : Value → Nat
  | .slice _ n _ => n
  | _ => 0
theorem sep_rows {w1 w2 : World} {B1 n m : Nat} {e : TypeId} {z : Nat} {b a : Value} {xs ys : List Value} (hb : w1.ownsRow B1 e z b n xs) (ha : w2.ownsRow w1.heap.size e z a m ys) : b.ownBlock = none ∨ b.ownBlock ≠ a.ownBlock := by
  cases hk : b.ownBlock with
  | none => exact .inl rfl
  | some k =>
    refine .inr (fun e => ?_)
    have h1 := (hb.lt k hk).2
    have h2 := (ha.lt k e.symm).1
    omega
theorem TX.head8 {w W : World} {mb c gB gA nB nA cB cA : Nat} {f : Cls} {x y : OrdV} {bs ys : List OrdV} {F : List FillV} {u : Value} (h : TX w mb c f (x :: bs) (y :: ys) F (.slice (some ⟨gB, 0, none⟩) nB cB) (.slice (some ⟨gA, 0, none⟩) nA cA) u W) : W.cell? ⟨gB, 0, none⟩ = some (.int .i64 x.id) ∧ W.cell? ⟨gB, 1, none⟩ = some (.int .i64 x.acc) ∧ W.cell? ⟨gB, 2, none⟩ = some (.int .i64 x.price) ∧ W.cell? ⟨gB, 3, none⟩ = some (.int .i64 x.left) ∧ W.cell? ⟨gA, 0, none⟩ = some (.int .i64 y.id) ∧ W.cell? ⟨gA, 1, none⟩ = some (.int .i64 y.acc) ∧ W.cell? ⟨gA, 2, none⟩ = some (.int .i64 y.price) ∧ W.cell? ⟨gA, 3, none⟩ = some (.int .i64 y.left) := by
  obtain ⟨g1, c1, e1, l1, k1⟩ := own_cells3 h.rb (by simp)
  obtain ⟨g2, c2, e2, l2, k2⟩ := own_cells3 h.ra (by simp)
  simp only [Value.slice.injEq, Option.some.injEq, Addr.mk.injEq] at e1 e2
  obtain ⟨⟨rfl, -⟩, -⟩ := e1
  obtain ⟨⟨rfl, -⟩, -⟩ := e2
  exact ⟨k1 0 _ rfl, k1 1 _ rfl, k1 2 _ rfl, k1 3 _ rfl, k2 0 _ rfl, k2 1 _ rfl, k2 2 _ rfl, k2 3 _ rfl⟩
set_option maxHeartbeats 16000000 in
set_option maxRecDepth 100000 in
theorem trade_is (L : LaneV) (b a o : Value) (V p : Int) (mb c KO KP : Nat) (f : Cls) (w : World) (h : Lan w L b a o) (hM : CM w mb c f) (hc : c ≤ 100) (hKO : w.heap[KO]? = some (.cells #[.map (some mb)] 53 (0, 0))) (hKP : w.heap[KP]? = some (.cells #[.int .i64 p] 3 (0, 0))) (hp : 0 ≤ p ∧ p ≤ 1000000) (hlb : L.bids.length ≤ 40) (hla : L.asks.length ≤ 40) (hI : IV p L.bids L.asks V f []) : Calls Try.prog 27 #[laneV L b a o, .int .i64 V, .func (Fn.func 28) #[] #[.pointer (some ⟨KO, 0, none⟩), .pointer (some ⟨KP, 0, none⟩)]] w fun e w' => ∃ bv av uv c2, e = .returned (.tuple #[bv, av, uv]) ∧ TX w mb c2 (trdC p 80 L.bids L.asks V f []).2.2.1 (trdC p 80 L.bids L.asks V f []).1 (trdC p 80 L.bids L.asks V f []).2.1 (trdC p 80 L.bids L.asks V f []).2.2.2 bv av uv w' := by
  have X0 := hideIt (BoxL.first w L b a o)
  have HCB := hideIt (fun W (hW : Below w.heap.size w W) => cloneO_is b L.bids W (h.keep hW).bids)
  have HCA := hideIt (fun W (hW : Below w.heap.size w W) => cloneO_is a L.asks W (h.keep hW).asks)
  obtain ⟨ba, bc, rfl⟩ := h.bids.slice
  obtain ⟨aa, ac, rfl⟩ := h.asks.slice
  obtain ⟨oa, oc, rfl⟩ := h.owed.slice
  clear h
  have HK := hideIt (And.intro hKO hKP)
  have HI := hideIt hI
  have HM := hideIt hM
  have lKO := (Array.getElem?_eq_some_iff.1 hKO).1
  have lKP := (Array.getElem?_eq_some_iff.1 hKP).1
  have nO : KO ≠ mb := by
    rintro rfl
    obtain ⟨n', D, -, ⟨es, clock, hb, -⟩, -⟩ := hM
    rw [hb] at hKO
    cases hKO
  have nP : KP ≠ mb := by
    rintro rfl
    obtain ⟨n', D, -, ⟨es, clock, hb, -⟩, -⟩ := hM
    rw [hb] at hKP
    cases hKP
  clear hKO hKP hI hM
  obtain ⟨R, hR⟩ : ∃ R, R = trdC p 80 L.bids L.asks V f [] := ⟨_, rfl⟩
  rw [← hR]
  have HR := hideIt hR
  clear hR
  unfold laneV laneA at *
  obtain ⟨cl, nx, bids, asks, owed⟩ := L
  simp only at *
  obtain ⟨x0, x1, x2, x3, x4⟩ := X0.out.cells
  simp only at x0 x1 x2 x3 x4
  go_enter Try.func27, Try.ntmps27
  go_upto_region 1 with fail
  generalize w.alloc (.cells #[.bool cl, .int .i64 nx, .slice ba bids.length bc, .slice aa asks.length ac, .slice oa owed.length oc] 25) = W0 at *
  have xz : w.heap.size < W0.heap.size := by have := X0.out.size; omega
  have HB2 : Hid (∀ W, Below W0.heap.size W0 W → Calls Try.prog 23 #[.slice ba bids.length bc] W fun e w' => ∃ q k, e = .returned (.slice q bids.length k) ∧ Hid (w'.ownsRow W.heap.size 38 4 (.slice q bids.length k) bids.length (celC ordE bids) ∧ Below W.heap.size W w') ∧ Hid (Below W0.heap.size W0 w') ∧ (w'.cell? ⟨w.heap.size, 2, none⟩ = some (.slice ba bids.length bc) ∧ w'.cell? ⟨w.heap.size, 3, none⟩ = some (.slice aa asks.length ac)) ∧ w.heap.size < w'.heap.size) := by
    intro W hW
    have hX := X0.out.keep hW
    refine (HCB.out W hX.bel).mono ?_
    rintro e w' ⟨v', rfl, ho, hb⟩
    obtain ⟨q, k, rfl⟩ := own_len ho
    have hX' := hX.keep hb
    obtain ⟨-, -, y2, y3, -⟩ := hX'.cells
    exact ⟨q, k, rfl, ⟨ho, hb⟩, below_via hW hb, ⟨y2, y3⟩, by have := hX'.size; omega⟩
  have HA2 : Hid (∀ W, Below W0.heap.size W0 W → Calls Try.prog 23 #[.slice aa asks.length ac] W fun e w' => ∃ q k, e = .returned (.slice q asks.length k) ∧ Hid (w'.ownsRow W.heap.size 38 4 (.slice q asks.length k) asks.length (celC ordE asks) ∧ Below W.heap.size W w') ∧ Hid (Below W0.heap.size W0 w') ∧ (w'.cell? ⟨w.heap.size, 2, none⟩ = some (.slice ba bids.length bc) ∧ w'.cell? ⟨w.heap.size, 3, none⟩ = some (.slice aa asks.length ac)) ∧ w.heap.size < w'.heap.size) := by
    intro W hW
    have hX := X0.out.keep hW
    refine (HCA.out W hX.bel).mono ?_
    rintro e w' ⟨v', rfl, ho, hb⟩
    obtain ⟨q, k, rfl⟩ := own_len ho
    have hX' := hX.keep hb
    obtain ⟨-, -, y2, y3, -⟩ := hX'.cells
    exact ⟨q, k, rfl, ⟨ho, hb⟩, below_via hW hb, ⟨y2, y3⟩, by have := hX'.size; omega⟩
  clear HCB HCA x0 x1 x4
  go_cut [6, 7] from 10 to 15 (fun x y wx => ∃ ba bc aa ac, x = .slice ba bids.length bc ∧ y = .slice aa asks.length ac ∧ Hid (TX w mb c f bids asks [] (.slice ba bids.length bc) (.slice aa asks.length ac) (.slice none 0 0) wx))
  case first =>
    go_region_held3 (fun W => W.cell? ⟨w.heap.size, 2, none⟩ = some (.slice ba bids.length bc) ∧ W.cell? ⟨w.heap.size, 3, none⟩ = some (.slice aa asks.length ac)) (go_keep) (first | (go_at_call 23; refine (HB2.out _ (by first | exact Below.refl _ _ | exact (Below.refl _ _).drew | exact HWA.out)).mono ?_; rintro e wB ⟨qB, mB, rfl, HQB, HWB, ⟨i2B, i3B⟩, izB⟩; clear HB2) | (go_at_call 23; refine (HA2.out _ (by first | exact Below.refl _ _ | exact (Below.refl _ _).drew | exact HWB.out)).mono ?_; rintro e wA ⟨qA, mA, rfl, HQA, HWA, ⟨i2A, i3A⟩, izA⟩; clear HA2))
    all_goals go_wp2_with fail
    all_goals go_meet
    · exact ⟨qB, mB, qA, mA, rfl, rfl, hideIt ⟨own_base (own_keep HQB.out.1 HQA.out.2) (by have := X0.out.bel.size; exact this), own_base HQA.out.1 (by have := HWB.out.size; have := X0.out.bel.size; omega), own_nil _ _, sep_rows HQB.out.1 HQA.out.1, (HM.out.keep (below_via X0.out.bel HWA.out)), Out.ofBelow (below_via X0.out.bel HWA.out), HM.out.lt⟩⟩
  case rest =>
  obtain ⟨ba2, bc2, aa2, ac2, rfl, rfl, T0⟩ := hcut
  clear HB2 HA2 HM X0 x2 x3 xz
  go_upto_region 2 with fail
  go_loopw [1, 6, 7, 8] (fun x1 x6 x7 x8 wr => ∃ (k : Nat) (V : Int) (B A : List OrdV) (F : List FillV) (f : Cls), ∃ ba bc aa ac ua uc, x1 = .int .i64 V ∧ x6 = .slice ba B.length bc ∧ x7 = .slice aa A.length ac ∧ x8 = .slice ua F.length uc ∧ B.length + A.length ≤ k ∧ k + F.length ≤ 80 ∧ Hid (trdC p k B A V f F = R ∧ IV p B A V f F) ∧ Hid (TX w mb (c + 3 * F.length) f B A F (.slice ba B.length bc) (.slice aa A.length ac) (.slice ua F.length uc) wr)) (fun _ x6 x7 _ _ => lenOf x6 + lenOf x7)
  case atStart => exact ⟨80, V, bids, asks, [], f, ba2, bc2, aa2, ac2, none, 0, rfl, rfl, rfl, rfl, by omega, by simp, hideIt ⟨HR.out.symm, HI.out⟩, T0⟩
  case round =>
    clear T0 HR HI
    obtain ⟨k, V, B, A, F, f, ba, bc, aa, ac, ua, uc, rfl, rfl, rfl, rfl, hk, hkF, HV, HT⟩ := hrel
    by_cases hV : 0 < V
    · obtain ⟨x, bs, y, ys, rfl, rfl, hpx, hpy⟩ := HV.out.2.heads hV
      obtain ⟨hn, hIV⟩ := HV.out.2.step hp hpx hpy
      have hT1 := HV.out.2.tb x (List.mem_cons_self ..)
      have hT2 := HV.out.2.ta y (List.mem_cons_self ..)
      have hC1 := HV.out.2.cb x (List.mem_cons_self ..)
      have hC2 := HV.out.2.ca y (List.mem_cons_self ..)
      have hcg := HV.out.2.cgb
      have hVb : V ≤ 80000000 := by
        have h1 := (dem_bd p _ HV.out.2.tb).2
        have h2 := HV.out.2.vol
        have h3 : ((x :: bs).length : Int) ≤ 80 := by omega
        omega
      obtain ⟨k2, rfl⟩ : ∃ k2, k = k2 + 1 := ⟨k - 1, by simp at hk; omega⟩
      have hRR := HV.out.1
      unfold trdC at hRR
      rw [if_pos hV] at hRR
      have hln := takO_len x y bs ys
      have HNX := hideIt (And.intro hRR hIV)
      have HLN := hideIt hln
      clear hRR hIV hln HV
      obtain ⟨gB, cB, eB, lB, cellB⟩ := own_cells3 HT.out.rb (by simp)
      obtain ⟨gA, cA, eA, lA, cellA⟩ := own_cells3 HT.out.ra (by simp)
      simp only [Value.slice.injEq] at eB eA
      obtain ⟨rfl, -, rfl⟩ := eB
      obtain ⟨rfl, -, rfl⟩ := eA
      have p0 := cellB 0 (.int .i64 x.id) rfl
      have p1 := cellB 1 (.int .i64 x.acc) rfl
      have p2 := cellB 2 (.int .i64 x.price) rfl
      have p3 := cellB 3 (.int .i64 x.left) rfl
      have q0 := cellA 0 (.int .i64 y.id) rfl
      have q1 := cellA 1 (.int .i64 y.acc) rfl
      have q2 := cellA 2 (.int .i64 y.price) rfl
      have q3 := cellA 3 (.int .i64 y.left) rfl
      clear cellB cellA
      have hnB : 0 < (x :: bs).length := by simp
      have hnA : 0 < (y :: ys).length := by simp
      have HTB := hideIt (fun n W b (ho : W.ownsRow w.heap.size 38 4 b (x :: bs).length (celC ordE (x :: bs))) hh => taken_is w.heap.size b x bs n W ho hh)
      have HTA := hideIt (fun n W b (ho : W.ownsRow w.heap.size 38 4 b (y :: ys).length (celC ordE (y :: ys))) hh => taken_is w.heap.size b y ys n W ho hh)
      have HLB : Hid ((x :: bs).length = bs.length + 1) := rfl
      have HLA : Hid ((y :: ys).length = ys.length + 1) := rfl
      generalize hnb : (x :: bs).length = nb at *
      generalize hna : (y :: ys).length = na at *
      have HNB := hideIt hnb
      have HNA := hideIt hna
      clear hnb hna
      have iB : (0 : Int) < (nb : Int) := by omega
      have iA : (0 : Int) < (na : Int) := by omega
      obtain ⟨n, hnn⟩ : ∃ n, n = min x.left y.left := ⟨_, rfl⟩
      have HN2 : Hid (trdC p k2 (takO n (x :: bs)) (takO n (y :: ys)) (V - n) (stlC f x.acc x.price y.acc p n) (F ++ [⟨x.acc, y.acc, p, n⟩]) = R ∧ IV p (takO n (x :: bs)) (takO n (y :: ys)) (V - n) (stlC f x.acc x.price y.acc p n) (F ++ [⟨x.acc, y.acc, p, n⟩])) := by rw [hnn]; exact HNX.out
      clear HNX
      rw [← hnn] at HLN hn
      have HNN := hideIt hnn
      clear hnn
      go_upto_region 3 with fail
      go_cut [9] from 18 to 26 (fun v wx => v = .int .i64 (min x.left y.left) ∧ wr.drew = wx)
      case first =>
        clear HT HN2 HLN HTB HTA
        go_region
        all_goals go_wp2_with fail
        all_goals go_meet
        all_goals exact ⟨rfl, rfl⟩
      case rest =>
      obtain ⟨rfl, rfl⟩ := hcut
      rw [← HNN.out]
      have HT2 := hideIt (HT.out.keep (Below.refl _ wr).drew)
      have p0' : wr.drew.cell? ⟨gB, 0, none⟩ = some (.int .i64 x.id) := p0
      have p1' : wr.drew.cell? ⟨gB, 1, none⟩ = some (.int .i64 x.acc) := p1
      have p2' : wr.drew.cell? ⟨gB, 2, none⟩ = some (.int .i64 x.price) := p2
      have p3' : wr.drew.cell? ⟨gB, 3, none⟩ = some (.int .i64 x.left) := p3
      have q0' : wr.drew.cell? ⟨gA, 0, none⟩ = some (.int .i64 y.id) := q0
      have q1' : wr.drew.cell? ⟨gA, 1, none⟩ = some (.int .i64 y.acc) := q1
      have q2' : wr.drew.cell? ⟨gA, 2, none⟩ = some (.int .i64 y.price) := q2
      have q3' : wr.drew.cell? ⟨gA, 3, none⟩ = some (.int .i64 y.left) := q3
      have lB' : gB < wr.drew.heap.size := lB
      have lA' : gA < wr.drew.heap.size := lA
      clear p0 p1 p2 p3 q0 q1 q2 q3 lB lA HT
      generalize wr.drew = W1 at *
      have HU : Hid (Calls Try.prog 28 #[.agg #[.int .i64 x.id, .int .i64 x.acc, .int .i64 x.price, .int .i64 x.left], .agg #[.int .i64 y.id, .int .i64 y.acc, .int .i64 y.price, .int .i64 y.left], .int .i64 n, .pointer (some ⟨KO, 0, none⟩), .pointer (some ⟨KP, 0, none⟩)] W1.drew fun e w' => e = .returned (.agg #[.int .i64 x.acc, .int .i64 y.acc, .int .i64 p, .int .i64 n]) ∧ Hid (∃ a' c' w6, (Builtin.append_ #[30, 30] 30 #[.slice ua F.length uc, .slice (some ⟨w'.heap.size, 0, none⟩) 1 1]).run Try.prog (w'.alloc (.cells #[.int .i64 x.acc, .int .i64 y.acc, .int .i64 p, .int .i64 n] 41)) = .ok (.slice a' (F.length + 1) c') w6 ∧ TX w mb (c + 3 * (F.length + 1)) (stlC f x.acc x.price y.acc p n) (x :: bs) (y :: ys) (F ++ [⟨x.acc, y.acc, p, n⟩]) (.slice (some ⟨gB, 0, none⟩) nb bc) (.slice (some ⟨gA, 0, none⟩) na ac) (.slice a' (F.length + 1) c') w6) ∧ w'.cell? ⟨gB, 0, none⟩ = some (.int .i64 x.id) ∧ w'.cell? ⟨gB, 1, none⟩ = some (.int .i64 x.acc) ∧ w'.cell? ⟨gB, 2, none⟩ = some (.int .i64 x.price) ∧ w'.cell? ⟨gB, 3, none⟩ = some (.int .i64 x.left) ∧ w'.cell? ⟨gA, 0, none⟩ = some (.int .i64 y.id) ∧ w'.cell? ⟨gA, 1, none⟩ = some (.int .i64 y.acc) ∧ w'.cell? ⟨gA, 2, none⟩ = some (.int .i64 y.price) ∧ w'.cell? ⟨gA, 3, none⟩ = some (.int .i64 y.left)) := by
        have hT := HT2.out.keep (Below.refl _ W1).drew
        have hcgf : ∀ u v, 0 ≤ cg f u v ∧ cg f u v ≤ 4000000000000000000 := fun u v => by have := hcg u v; omega
        refine (un1_is mb (c + 3 * F.length) f x.id x.acc x.price x.left y.id y.acc y.price y.left p n KO KP W1.drew hT.cm ((hT.out.block KO lKO nO).trans HK.out.1) ((hT.out.block KP lKP nP).trans HK.out.2) (by omega) hC1 hC2 (by omega) hp (by omega) hcgf).mono ?_
        rintro e w' ⟨rfl, hM, hO⟩
        have hT3 := hT.call hM hO
        obtain ⟨a', c', w6, hrun, hX⟩ := hT3.app ⟨x.acc, y.acc, p, n⟩ (by omega)
        have hgB : gB ≠ mb := by
          have := row_block (k := gB) hT.rb rfl
          have := hT.lt
          omega
        have hgA : gA ≠ mb := by
          have := row_block (k := gA) hT.ra rfl
          have := hT.lt
          omega
        have cB : ∀ j, w'.cell? ⟨gB, j, none⟩ = W1.cell? ⟨gB, j, none⟩ := fun j => by
          have := hO.block gB lB' hgB
          simp only [World.cell?, this]
          rfl
        have cA : ∀ j, w'.cell? ⟨gA, j, none⟩ = W1.cell? ⟨gA, j, none⟩ := fun j => by
          have := hO.block gA lA' hgA
          simp only [World.cell?, this]
          rfl
        exact ⟨rfl, ⟨a', c', w6, hrun, by rw [show c + 3 * (F.length + 1) = c + 3 * F.length + 3 by omega]; exact hX⟩, (cB 0).trans p0', (cB 1).trans p1', (cB 2).trans p2', (cB 3).trans p3', (cA 0).trans q0', (cA 1).trans q1', (cA 2).trans q2', (cA 3).trans q3'⟩
      go_upto_region 4 with fail
      go_cut [8] from 27 to 38 (fun v wx => ∃ a' c', v = .slice a' (F.length + 1) c' ∧ Hid (TX w mb (c + 3 * (F.length + 1)) (stlC f x.acc x.price y.acc p n) (x :: bs) (y :: ys) (F ++ [⟨x.acc, y.acc, p, n⟩]) (.slice (some ⟨gB, 0, none⟩) nb bc) (.slice (some ⟨gA, 0, none⟩) na ac) (.slice a' (F.length + 1) c') wx))
      case first =>
        clear HT2 HN2 HLN HTB HTA
        go_region_held3 (fun W => W.cell? ⟨gB, 0, none⟩ = some (.int .i64 x.id) ∧ W.cell? ⟨gB, 1, none⟩ = some (.int .i64 x.acc) ∧ W.cell? ⟨gB, 2, none⟩ = some (.int .i64 x.price) ∧ W.cell? ⟨gB, 3, none⟩ = some (.int .i64 x.left) ∧ W.cell? ⟨gA, 0, none⟩ = some (.int .i64 y.id) ∧ W.cell? ⟨gA, 1, none⟩ = some (.int .i64 y.acc) ∧ W.cell? ⟨gA, 2, none⟩ = some (.int .i64 y.price) ∧ W.cell? ⟨gA, 3, none⟩ = some (.int .i64 y.left)) (go_keep) (first | (go_at_call 28; refine HU.out.mono ?_; rintro e w5 ⟨rfl, HE, j0, j1, j2, j3, j4, j5, j6, j7⟩; obtain ⟨a6, c6, w6, hrun6, hX6⟩ := HE.out; obtain ⟨z0, z1, z2, z3, z4, z5, z6, z7⟩ := hX6.head8; have HX6 := hideIt hX6; clear hX6 HE) | (refine step_app_runK rfl _ _ 30 30 rfl _ _ rfl rfl hrun6 ?_) | (at_builtin; refine Lib.wpList_append_run _ rfl _ _ _ _ rfl _ _ rfl rfl _ _ hrun6 ?_))
        all_goals go_wp2_with fail
        all_goals go_meet
        all_goals exact ⟨a6, c6, rfl, HX6⟩
      case rest =>
      obtain ⟨a6, c6, rfl, HX⟩ := hcut
      clear HU HT2 p0' p1' p2' p3' q0' q1' q2' q3' lB' lA'
      have hnl : n ≤ x.left ∧ n ≤ y.left := by have := HNN.out; omega
      have hb0 : wc.ownsRow w.heap.size 38 4 (.slice (some ⟨gB, 0, none⟩) nb bc) nb (celC ordE (x :: bs)) := by
        have := HX.out.rb
        rw [HNB.out] at this
        exact this
      have HB0 := hideIt (HTB.out n wc _ hb0 (by omega))
      clear hb0 HTB
      go_wp2_with fail
      refine HB0.out.mono ?_
      rintro e w2 ⟨v2, rfl, how, hgr, heq⟩
      dsimp only
      have T2 := hideIt (HX.out.takB how hgr heq)
      obtain ⟨b2, bk2, rfl⟩ := own_len how
      clear how hgr heq HX HB0
      have ha0 : w2.ownsRow w.heap.size 38 4 (.slice (some ⟨gA, 0, none⟩) na ac) na (celC ordE (y :: ys)) := by
        have := T2.out.ra
        rw [HNA.out] at this
        exact this
      have HA0 := hideIt (HTA.out n w2 _ ha0 (by omega))
      clear ha0 HTA
      go_wp2_with fail
      refine HA0.out.mono ?_
      rintro e w3 ⟨v3, rfl, how, hgr, heq⟩
      dsimp only
      have T3 := hideIt (T2.out.takA how hgr heq)
      obtain ⟨a2, ak2, rfl⟩ := own_len how
      clear how hgr heq T2 HA0
      have hwv : IntKind.i64.wrap (V - n) = V - n := by rw [IntKind.wrap_i64]; omega
      have T4 : Hid (TX w mb (c + 3 * (F ++ [(⟨x.acc, y.acc, p, n⟩ : FillV)]).length) (stlC f x.acc x.price y.acc p n) (takO n (x :: bs)) (takO n (y :: ys)) (F ++ [⟨x.acc, y.acc, p, n⟩]) (.slice b2 (takO n (x :: bs)).length bk2) (.slice a2 (takO n (y :: ys)).length ak2) (.slice a6 (F ++ [(⟨x.acc, y.acc, p, n⟩ : FillV)]).length c6) w3) := by
        show TX _ _ _ _ _ _ _ _ _ _ _
        rw [show (F ++ [(⟨x.acc, y.acc, p, n⟩ : FillV)]).length = F.length + 1 by simp]
        exact T3.out
      have hl1 := HLN.out
      have hl2 := HLB.out
      have hl3 := HLA.out
      have HLL : Hid ((takO n (x :: bs)).length + (takO n (y :: ys)).length ≤ k2 ∧ (takO n (x :: bs)).length + (takO n (y :: ys)).length < nb + na) := ⟨by omega, by omega⟩
      generalize htb : (takO n (x :: bs)) = TB at *
      generalize hta : (takO n (y :: ys)) = TA at *
      clear hl1 hl2 hl3 htb hta T3
      go_wp2
      go_roundw
      case rel => exact ⟨k2, V - n, TB, TA, F ++ [⟨x.acc, y.acc, p, n⟩], _, b2, bk2, a2, ak2, a6, c6, rfl, rfl, rfl, by simp, HLL.out.1, by simp; omega, HN2, T4⟩
      case measure => exact HLL.out.2
    · have hz : trdC p k B A V f F = (B, A, f, F) := by
        cases k with
        | zero => rfl
        | succ k => unfold trdC; rw [if_neg hV]
      have hRR := HV.out.1
      rw [hz] at hRR
      have HRR := hideIt hRR
      clear HV hz hRR
      go_wp2
      exact bodyPost_ret (v := .tuple #[.slice ba B.length bc, .slice aa A.length ac, .slice ua F.length uc]) (by simp [results, Try.results27, go_sem]) rfl ⟨.slice ba B.length bc, .slice aa A.length ac, .slice ua F.length uc, rfl, c + 3 * F.length, by rw [← HRR.out]; exact HT.out⟩
end Go.Proofs.Ytgnmghcdfihmgaa
namespace Go.Proofs.Ytgnmghcdfihmgaa
open Go.RowKit Go.Maps
set_option linter.all false
/-- Too much of something. -/
def ovrC (f : Cls) : Prop := ∃ x a, Cl2 x a ∧ 9007199254740992 < cg f x a
theorem CM.val {w : World} {mb c : Nat} {f : Cls} (h : CM w mb c f) : ∃ n D, w.ownsMap Try.prog 73 heldR mb n D ∧ (∀ kl, has D kl = true → ∃ x a p, Cl2 x a ∧ kl = clK x a ∧ f x a = some p ∧ ∀ z, D.atKey kl z = .held (.int .i64 p)) ∧ ∀ x a p, Cl2 x a → f x a = some p → has D (clK x a) = true := by
  obtain ⟨n, D, h1, h2, h3, h4, h5⟩ := h
  refine ⟨n, D, h2, fun kl hk => ?_, fun x a p hx hp => has_true_of_atKey (h3 x a hx p hp)⟩
  obtain ⟨x, a, hx, rfl⟩ := h5 kl hk
  cases hf : f x a with
  | none =>
    rw [has_false_of_atKey (h4 x a hx hf)] at hk
    cases hk
  | some p => exact ⟨x, a, p, hx, rfl, hf, h3 x a hx p hf⟩
set_option maxHeartbeats 8000000 in
set_option maxRecDepth 100000 in
theorem areOver_is (mb c : Nat) (f : Cls) (b : Bool) (w : World) (h : CM w mb c f) (hb : b = true ↔ ovrC f) : Calls Try.prog 30 #[.map (some mb)] w fun e w' => e = .returned (.bool b) ∧ Below w.heap.size w w' := by
  obtain ⟨n, D, hown, hv, hh⟩ := h.val
  have HV := hideIt hv
  have HB := hideIt hb
  have HN := hideIt (show (∀ kl, has D kl = true → ∃ x a p, Cl2 x a ∧ kl = clK x a ∧ f x a = some p ∧ p ≤ 9007199254740992) → b = false from fun hk => by
    cases hbb : b
    · rfl
    · obtain ⟨x, a, hx, hg⟩ := hb.1 hbb
      cases hf : f x a with
      | none => simp [cg, hf] at hg
      | some p =>
        obtain ⟨y, d, q, hy, he, hq, hle⟩ := hk _ (hh x a p hx hf)
        obtain ⟨rfl, rfl⟩ := cl_inj hx hy he
        rw [hf] at hq
        cases hq
        simp [cg, hf] at hg
        omega)
  have HY := hideIt (show ∀ x a p, Cl2 x a → f x a = some p → 9007199254740992 < p → b = true from fun x a p hx hp hl => hb.2 ⟨x, a, hx, by simp [cg, hp]; exact hl⟩)
  clear hv hb h hh
  go_enter Try.func30, Try.ntmps30
  go_wp2_with (first | (at_range; refine wpList_range_own _ rfl _ 53 rfl 73 3 cl_keyed Try.underlying53 heldR mb n D rfl hown ?_; intro w0 hrg0 hg0 hs0) | go_in)
  go_frame
  have B0 : Hid (Below w.heap.size w w0) := grown_none hg0
  have HRG := hideIt hrg0
  clear hg0 hs0 hown hrg0
  go_loopw [4] (fun v wr => ∃ left cnt, Hid (wr.ranges Try.prog 73 heldR mb w.heap.size n D left cnt ∧ (∀ kl, left kl = true → has D kl = true) ∧ (∀ kl, has D kl = true → left kl = false → ∃ x a p, Cl2 x a ∧ kl = clK x a ∧ f x a = some p ∧ p ≤ 9007199254740992) ∧ Below w.heap.size w wr)) (fun _ wr => wr.rangeLeft mb w.heap.size)
  case atStart => exact ⟨_, _, hideIt ⟨HRG.out, fun _ h => h, fun kl h1 h2 => (by rw [h1] at h2; cases h2), B0.out⟩⟩
  case round =>
    clear HRG B0
    obtain ⟨left, cnt, HR⟩ := hrel
    have hrg := HR.out.1
    go_wp2_with (first | (at_next; refine wpList_next_ranges _ rfl _ rfl 73 cl_keyed heldR (fun v : Value => v) (fun v : Value => v) (fun key kl h => ⟨key, rfl⟩) (fun v y h => ⟨v, rfl⟩) mb w.heap.size n D left cnt rfl hrg ?_ ?_) | go_in)
    · intro h0 hl
      have hbf := HN.out (fun kl hk => HR.out.2.2.1 kl hk (hl kl))
      have HF := hideIt hbf
      have BB := hideIt HR.out.2.2.2
      clear hbf hrg HR
      go_wp2
      go_ret
      exact ⟨by rw [HF.out]; rfl, BB.out⟩
    · intro x v kl yd yps w1 cnt1 hkey hlk hR hat hrg1 hlt hg1 hs1 hen
      obtain ⟨x', a', p, hx', hkl, hfp, hval⟩ := HV.out kl (HR.out.2.1 kl hlk)
      have hvp : v = .int .i64 p := by
        have h1 := hat (.held (.int .i64 0))
        rw [hval] at h1
        unfold heldR at hR
        cases hR
        simpa using h1.symm
      subst hvp
      have R1 := hideIt hrg1
      have RO := hideIt hrg
      have B1 : Hid (Below w.heap.size w w1) := below_out HR.out.2.2.2 (Out.ofGrown (F := fun k => k = w.heap.size) hg1 (fun k e => by cases e; rfl)) (fun k e => by omega)
      have LT := hideIt hlt
      clear hg1 hs1 hrg1 hrg hat hR hval
      by_cases hp : 9007199254740992 < p
      · have HT := hideIt (HY.out x' a' p hx' hfp hp)
        clear HR hkey hlk R1 RO LT
        go_wp2
        go_ret
        exact ⟨by rw [HT.out]; rfl, B1.out⟩
      · have Z : Hid (w1.ranges Try.prog 73 heldR mb w.heap.size n D (fun z => left z && !z.sameKey kl) cnt1 ∧ (∀ k', (left k' && !k'.sameKey kl) = true → has D k' = true) ∧ (∀ k', has D k' = true → (left k' && !k'.sameKey kl) = false → ∃ x a p, Cl2 x a ∧ k' = clK x a ∧ f x a = some p ∧ p ≤ 9007199254740992) ∧ Below w.heap.size w w1) := by
          refine ⟨R1.out, fun k' hk => HR.out.2.1 k' (by simp at hk; exact hk.1), fun k' hk hl => ?_, B1.out⟩
          by_cases e : left k' = true
          · rw [e] at hl
            simp only [Bool.true_and, Bool.not_eq_false'] at hl
            exact ⟨x', a', p, hx', (WideAt.sameKey_eq hl).trans hkl, hfp, by omega⟩
          · exact HR.out.2.2.1 k' hk (by simpa using e)
        clear HR hkey hlk
        go_wp2
        go_roundw
        case rel => exact ⟨_, _, Z⟩
        case measure => rw [R1.out.left_eq, RO.out.left_eq]; exact LT.out
end Go.Proofs.Ytgnmghcdfihmgaa
namespace Go.Proofs.Ytgnmghcdfihmgaa
open Go.RowKit Go.Maps
set_option linter.all false
/-- Too much of something, told by looking. -/
def ovrD (f : Cls) : Bool := (List.range 8).any (fun i => (List.range 2).any (fun j => decide (9007199254740992 < cg f ((i : Int) + 1) (j : Int))))
theorem ovrD_iff (f : Cls) : ovrD f = true ↔ ovrC f := by
  unfold ovrD ovrC
  simp only [List.any_eq_true, List.mem_range, decide_eq_true_eq]
  constructor
  · rintro ⟨i, hi, j, hj, h⟩
    exact ⟨_, _, ⟨⟨by omega, by omega⟩, ⟨by omega, by omega⟩⟩, h⟩
  · rintro ⟨x, a, ⟨⟨h1, h2⟩, h3, h4⟩, h⟩
    refine ⟨(x - 1).toNat, by omega, a.toNat, by omega, ?_⟩
    have e1 : (((x - 1).toNat : Nat) : Int) + 1 = x := by omega
    have e2 : ((a.toNat : Nat) : Int) = a := by omega
    rw [e1, e2]
    exact h
def uncR (L : LaneV) : LaneV × List FillV × Int :=
  if rfE L true = 0 then (if ovrD (trdC (clL L).1 80 L.bids L.asks (clL L).2.1 (clsOf L.owed) []).2.2.1 = true then (zLn, [], 131) else (⟨false, L.next, (trdC (clL L).1 80 L.bids L.asks (clL L).2.1 (clsOf L.owed) []).1, (trdC (clL L).1 80 L.bids L.asks (clL L).2.1 (clsOf L.owed) []).2.1, lstK (trdC (clL L).1 80 L.bids L.asks (clL L).2.1 (clsOf L.owed) []).2.2.1 8⟩, (trdC (clL L).1 80 L.bids L.asks (clL L).2.1 (clsOf L.owed) []).2.2.2, 0)) else (zLn, [], rfE L true)
def UnB (X : LaneV × List FillV × Int) (w : World) (e : Ending) (w' : World) : Prop := ∃ b a o u, e = .returned (.tuple #[laneV X.1 b a o, u, .int .i64 X.2.2]) ∧ w'.ownsRow w.heap.size 38 4 b X.1.bids.length (celC ordE X.1.bids) ∧ w'.ownsRow w.heap.size 38 4 a X.1.asks.length (celC ordE X.1.asks) ∧ w'.ownsRow w.heap.size 48 3 o X.1.owed.length (celC oweE X.1.owed) ∧ w'.ownsRow w.heap.size 41 4 u X.2.1.length (celC filE X.2.1) ∧ Below w.heap.size w w'
theorem CB.turn {w wx wy : World} {mb : Nat} {L : LaneV} {b a o : Value} (h : CB w L b a o wx) (ho : Out (fun k => k = mb) wx wy) (hm : w.heap.size + 2 ≤ mb) : CB w L b a o wy :=
  ⟨(ho.block _ (by have := h.size; omega) (by omega)).trans h.box, (ho.block _ (by have := h.size; omega) (by omega)).trans h.res, below_out h.bel ho (fun k e => by omega), Nat.le_trans h.size ho.size⟩
set_option maxHeartbeats 16000000 in
set_option maxRecDepth 100000 in
theorem uncross_is (L : LaneV) (b a o : Value) (w : World) (h : Lan w L b a o) : Calls Try.prog 11 #[laneV L b a o] w (UnB (uncR L) w) := by
  have X0 := hideIt (CB.first w L b a o)
  have HC := hideIt (aRefused_is L b a o true _ (h.keep X0.out.bel))
  have HL := hideIt (fun W (hW : Below w.heap.size w W) => h.keep hW)
  by_cases h0 : rfE L true = 0
  · have hk := (rf_chk h0).1
    rw [h0] at HC
    have hm := chk_may hk
    have HCO := hideIt (fun W (hW : Below w.heap.size w W) => claimsOf_is o L.owed W (HL.out W hW).owed (cl_keys hk).1 (by have := (cl_keys hk).2; omega))
    have HCL := hideIt (fun W (hW : Below w.heap.size w W) => clearing_is L b a o W (HL.out W hW) hk)
    have HTR := hideIt (fun W mb KO KP (hW : Below w.heap.size w W) (hM : CM W mb L.owed.length (clsOf L.owed)) hKO hKP => trade_is L b a o (clL L).2.1 (clL L).1 mb L.owed.length KO KP (clsOf L.owed) W (HL.out W hW) hM (by have := (cl_keys hk).2; omega) hKO hKP (cl_start hk).2 hm.lb hm.la (iv_start hk))
    obtain ⟨R, hR⟩ : ∃ R, R = trdC (clL L).1 80 L.bids L.asks (clL L).2.1 (clsOf L.owed) [] := ⟨_, rfl⟩
    rw [← hR] at HTR
    have HU1 : Hid (ovrC R.2.2.1 → uncR L = (zLn, [], 131)) := fun ho => by
      unfold uncR
      rw [if_pos h0, ← hR, if_pos ((ovrD_iff _).2 ho)]
    have HU2 : Hid (¬ ovrC R.2.2.1 → uncR L = (⟨false, L.next, R.1, R.2.1, lstK R.2.2.1 8⟩, R.2.2.2, 0)) := fun ho => by
      unfold uncR
      rw [if_pos h0, ← hR, if_neg (fun c => ho ((ovrD_iff _).1 c))]
    clear hR h0
    generalize uncR L = RX at *
    generalize (clL L).1 = pr at *
    generalize (clL L).2.1 = vo at *
    generalize clsOf L.owed = f0 at *
    obtain ⟨RB, RA, RF, RL⟩ := R
    dsimp only at HU1 HU2 HTR
    obtain ⟨ba, bc, rfl⟩ := h.bids.slice
    obtain ⟨aa, ac, rfl⟩ := h.asks.slice
    obtain ⟨oa, oc, rfl⟩ := h.owed.slice
    clear h HL hm hk
    unfold laneV laneA at *
    obtain ⟨cl, nx, bids, asks, owed⟩ := L
    simp only at *
    go_enter Try.func11, Try.ntmps11
    go_wp2_with fail
    refine HC.out.mono ?_
    rintro e w1 ⟨rfl, hb⟩
    dsimp only
    have X1 := hideIt (X0.out.keep hb)
    clear hb X0 HC
    obtain ⟨x0, x1, x2, x3, x4⟩ := X1.out.cells
    simp only at x0 x1 x2 x3 x4
    have xz : w.heap.size < w1.heap.size := by have := X1.out.size; omega
    go_wp2_with fail
    refine (HCO.out _ X1.out.bel).mono ?_
    rintro e w2 ⟨rfl, hM, hb⟩
    dsimp only
    have hb2 := below1 w2 (.cells #[.map (some w1.heap.size)] 53)
    have X2 := hideIt (X1.out.keep (below_via hb hb2))
    have M2 := hideIt (hM.keep hb2)
    have K2 := hideIt (heap_alloc_new w2 (.cells #[.map (some w1.heap.size)] 53))
    have hmb : w.heap.size + 2 ≤ w1.heap.size := X1.out.size
    clear hM hb hb2 X1 HCO x0 x1 x2 x3 x4 xz
    go_upto_region 5 with fail
    generalize w2.alloc (.cells #[.map (some w1.heap.size)] 53) = W2 at *
    generalize w2.heap.size = KO at *
    generalize w1.heap.size = mb at *
    obtain ⟨x0, x1, x2, x3, x4⟩ := X2.out.cells
    simp only at x0 x1 x2 x3 x4
    have xz : w.heap.size < W2.heap.size := by have := X2.out.size; omega
    go_wp2_with fail
    refine (HCL.out _ X2.out.bel).mono ?_
    rintro e w3 ⟨rfl, hb⟩
    dsimp only
    have hb3 := below1 w3 (.cells #[.int .i64 pr] 3)
    have hbb := below_via hb hb3
    have X3 := hideIt (X2.out.keep hbb)
    have M3 := hideIt (M2.out.keep hbb)
    have K3 := hideIt (blkK K2.out hbb)
    have P3 := hideIt (heap_alloc_new w3 (.cells #[.int .i64 pr] 3))
    clear hb hb3 hbb X2 M2 K2 HCL x0 x1 x2 x3 x4 xz
    go_upto_region 6 with fail
    generalize w3.alloc (.cells #[.int .i64 pr] 3) = W3 at *
    generalize w3.heap.size = KP at *
    obtain ⟨x0, x1, x2, x3, x4⟩ := X3.out.cells
    simp only at x0 x1 x2 x3 x4
    have xz : w.heap.size < W3.heap.size := by have := X3.out.size; omega
    go_wp2_with fail
    refine (HTR.out _ mb KO KP X3.out.bel M3.out K3.out P3.out).mono ?_
    rintro e w4 ⟨bv, av, uv, c2, rfl, hTX⟩
    dsimp only
    have hO4 := hTX.out
    have hlt4 := hTX.lt
    have nKO : KO ≠ mb := by
      rintro rfl
      obtain ⟨n', D, -, ⟨es, clock, hb, -⟩, -⟩ := M3.out
      rw [hb] at K3
      cases K3.out
    have X4 := hideIt (X3.out.turn hO4 hmb)
    have K4 := hideIt ((hO4.block KO (Array.getElem?_eq_some_iff.1 K3.out).1 nKO).trans K3.out)
    have T4 := hideIt hTX
    have hbs := X3.out.bel.size
    obtain ⟨bva, bvc, rfl⟩ := own_len hTX.rb
    obtain ⟨ava, avc, rfl⟩ := own_len hTX.ra
    obtain ⟨uva, uvc, rfl⟩ := own_len hTX.ru
    clear hTX hO4 HTR X3 M3 K3 P3 x0 x1 x2 x3 x4 xz
    have k0 : w4.cell? ⟨KO, 0, none⟩ = some (.map (some mb)) := by rw [cell_at K4.out]; rfl
    have kz : KO < w4.heap.size := (Array.getElem?_eq_some_iff.1 K4.out).1
    by_cases hov : ovrC RF
    · have HR : Hid (RX = (zLn, [], 131)) := HU1.out hov
      have HOV := hideIt (areOver_is mb c2 RF true w4 T4.out.cm ⟨fun _ => hov, fun _ => rfl⟩)
      clear HU1 HU2 hov
      go_wp2_with fail
      refine HOV.out.mono ?_
      rintro e w5 ⟨rfl, hb⟩
      dsimp only
      have X5 := hideIt (X4.out.keep hb)
      clear hb X4 K4 T4 k0 kz HOV
      obtain ⟨⟨r0, r1, r2, r3, r4⟩, rf, rl⟩ := five5_at X5.out.res
      have HP := hideIt (X5.out.put (.bool false) (.int .i64 0) (.slice none 0 0) (.slice none 0 0) (.slice none 0 0))
      go_wp2
      revert HP
      generalize (World.setCell _ ⟨w.heap.size + 1, 4, none⟩ _) = W
      intro HP
      exact bodyPost_ret (v := .tuple #[laneV zLn (.slice none 0 0) (.slice none 0 0) (.slice none 0 0), .slice none 0 0, .int .i64 131]) (by simp [results, Try.results11, go_sem, cell_at HP.out.1, laneV, laneA, zLn]) rfl (by unfold UnB; rw [HR.out]; exact ⟨_, _, _, _, rfl, own_nil _ _, own_nil _ _, own_nil _ _, own_nil _ _, HP.out.2⟩)
    · have HR : Hid (RX = (⟨false, nx, RB, RA, lstK RF 8⟩, RL, 0)) := HU2.out hov
      have HOV := hideIt (areOver_is mb c2 RF false w4 T4.out.cm ⟨fun h => (by cases h), fun h => absurd h hov⟩)
      clear HU1 HU2 hov
      go_wp2_with fail
      refine HOV.out.mono ?_
      rintro e w5 ⟨rfl, hb⟩
      dsimp only
      have X5 := hideIt (X4.out.keep hb)
      have K5 := hideIt (blkK K4.out hb)
      have T5 := hideIt (T4.out.keep hb)
      clear hb X4 K4 T4 k0 kz HOV
      have HLS : Hid (∀ W, Below w5.heap.size w5 W → Calls Try.prog 31 #[.map (some mb)] W fun e w' => ∃ q k, e = .returned (.slice q (lstK RF 8).length k) ∧ Hid (w'.ownsRow (w.heap.size + 2) 48 3 (.slice q (lstK RF 8).length k) (lstK RF 8).length (celC oweE (lstK RF 8)) ∧ Below w5.heap.size w5 w') ∧ (w'.cell? ⟨w.heap.size, 1, none⟩ = some (.int .i64 nx) ∧ w'.cell? ⟨KO, 0, none⟩ = some (.map (some mb))) ∧ w.heap.size < w'.heap.size ∧ KO < w'.heap.size ∧ (w'.cell? ⟨w.heap.size + 1, 0, none⟩ = some (.bool false) ∧ w'.cell? ⟨w.heap.size + 1, 1, none⟩ = some (.int .i64 0) ∧ w'.cell? ⟨w.heap.size + 1, 2, none⟩ = some (.slice none 0 0) ∧ w'.cell? ⟨w.heap.size + 1, 3, none⟩ = some (.slice none 0 0) ∧ w'.cell? ⟨w.heap.size + 1, 4, none⟩ = some (.slice none 0 0)) ∧ (∀ j, w'.frozen? ⟨w.heap.size + 1, j, none⟩ = false) ∧ w.heap.size + 1 < w'.heap.size) := by
        intro W hW
        have hX := X5.out.keep hW
        refine (list_is mb c2 RF W (T5.out.keep hW).cm).mono ?_
        rintro e w' ⟨v', rfl, ho, hb⟩
        obtain ⟨q, k, rfl⟩ := own_len ho
        have hX' := hX.keep hb
        have hB := below_via hW hb
        obtain ⟨-, y1, -, -, -⟩ := hX'.cells
        have hK := blkK K5.out hB
        obtain ⟨⟨s0, s1, s2, s3, s4⟩, sf, sz⟩ := five5_at hX'.res
        exact ⟨q, k, rfl, ⟨own_base ho hX.size, hB⟩, ⟨y1, by rw [cell_at hK]; rfl⟩, by have := hX'.size; omega, (Array.getElem?_eq_some_iff.1 hK).1, ⟨s0, s1, s2, s3, s4⟩, sf, sz⟩
      obtain ⟨-, x1, -, -, -⟩ := X5.out.cells
      have k0 : w5.cell? ⟨KO, 0, none⟩ = some (.map (some mb)) := by rw [cell_at K5.out]; rfl
      have kz : KO < w5.heap.size := (Array.getElem?_eq_some_iff.1 K5.out).1
      have xz : w.heap.size < w5.heap.size := by have := X5.out.size; omega
      have nr : w.heap.size ≠ w.heap.size + 1 := by omega
      have nk : KO ≠ w.heap.size + 1 := by
        intro e
        have h1 := K5.out
        rw [e, X5.out.res] at h1
        cases h1
      have nk2 : w.heap.size + 1 ≠ KO := fun e => nk e.symm
      have nr2 : w.heap.size + 1 ≠ w.heap.size := by omega
      simp only at x1
      go_upto_region 9 with fail
      go_region_held3 (fun W => W.cell? ⟨w.heap.size, 1, none⟩ = some (.int .i64 nx) ∧ W.cell? ⟨KO, 0, none⟩ = some (.map (some mb))) (go_keep) (first | (go_at_call 31; refine (HLS.out _ (by first | exact Below.refl _ _ | exact (Below.refl _ _).drew)).mono ?_; rintro e wO ⟨qO, mO, rfl, HQO, ⟨i1, i2⟩, iz, iy, ⟨s0, s1, s2, s3, s4⟩, sf, sz⟩; clear HLS))
      all_goals
        have XF := hideIt (X5.out.keep HQO.out.2)
        have TF := hideIt (T5.out.keep HQO.out.2)
        have HPT := hideIt (XF.out.put (.bool false) (.int .i64 nx) (.slice bva RB.length bvc) (.slice ava RA.length avc) (.slice qO (lstK RF 8).length mO))
        have HRW := hideIt (And.intro (own_five (own_base TF.out.rb hbs) XF.out.res (by decide) (.bool false) (.int .i64 nx) (.slice bva RB.length bvc) (.slice ava RA.length avc) (.slice qO (lstK RF 8).length mO)) (And.intro (own_five (own_base TF.out.ra hbs) XF.out.res (by decide) (.bool false) (.int .i64 nx) (.slice bva RB.length bvc) (.slice ava RA.length avc) (.slice qO (lstK RF 8).length mO)) (And.intro (own_five HQO.out.1 XF.out.res (by decide) (.bool false) (.int .i64 nx) (.slice bva RB.length bvc) (.slice ava RA.length avc) (.slice qO (lstK RF 8).length mO)) (own_five (own_base TF.out.ru hbs) XF.out.res (by decide) (.bool false) (.int .i64 nx) (.slice bva RB.length bvc) (.slice ava RA.length avc) (.slice qO (lstK RF 8).length mO)))))
        clear XF TF X5 T5 K5 HQO
        go_wp2
        revert HPT HRW
        generalize (World.setCell _ ⟨w.heap.size + 1, 4, none⟩ _) = WF
        intro HPT HRW
        exact bodyPost_ret (v := .tuple #[.agg #[.bool false, .int .i64 nx, .slice bva RB.length bvc, .slice ava RA.length avc, .slice qO (lstK RF 8).length mO], .slice uva RL.length uvc, .int .i64 0]) (by simp [results, Try.results11, go_sem, cell_at HPT.out.1, laneA]) rfl (by unfold UnB; rw [HR.out]; exact ⟨_, _, _, _, rfl, HRW.out.1, HRW.out.2.1, own_base HRW.out.2.2.1 (by omega), HRW.out.2.2.2, by first | exact HPT.out.2 | exact HPT.out.2.drew⟩)
  · have HR : Hid (uncR L = (zLn, [], rfE L true)) := by show _ = _; unfold uncR; rw [if_neg h0]
    generalize uncR L = RX at *
    generalize rfE L true = er at *
    have h0q : (er == 0) = false := by simpa using h0
    obtain ⟨ba, bc, rfl⟩ := h.bids.slice
    obtain ⟨aa, ac, rfl⟩ := h.asks.slice
    obtain ⟨oa, oc, rfl⟩ := h.owed.slice
    clear h HL
    unfold laneV laneA at *
    obtain ⟨cl, nx, bids, asks, owed⟩ := L
    simp only at *
    go_enter Try.func11, Try.ntmps11
    go_wp2_with fail
    refine HC.out.mono ?_
    rintro e w1 ⟨rfl, hb⟩
    dsimp only
    have X1 := hideIt (X0.out.keep hb)
    clear hb X0 HC
    obtain ⟨⟨r0, r1, r2, r3, r4⟩, rf, rl⟩ := five5_at X1.out.res
    have HP := hideIt (X1.out.put (.bool false) (.int .i64 0) (.slice none 0 0) (.slice none 0 0) (.slice none 0 0))
    go_wp2
    revert HP
    generalize (World.setCell _ ⟨w.heap.size + 1, 4, none⟩ _) = W
    intro HP
    exact bodyPost_ret (v := .tuple #[laneV zLn (.slice none 0 0) (.slice none 0 0) (.slice none 0 0), .slice none 0 0, .int .i64 er]) (by simp [results, Try.results11, go_sem, cell_at HP.out.1, laneV, laneA, zLn]) rfl (by unfold UnB; rw [HR.out]; exact ⟨_, _, _, _, rfl, own_nil _ _, own_nil _ _, own_nil _ _, own_nil _ _, HP.out.2⟩)
end Go.Proofs.Ytgnmghcdfihmgaa
namespace Go.Proofs.Ytgnmghcdfihmgaa
open Go.RowKit Go.Maps
set_option linter.all false
theorem sumP_cons (x : OrdV) (l : List OrdV) : sumP (x :: l) = x.price * x.left + sumP l := by simp [sumP]
theorem sumQ_cons (x : OrdV) (l : List OrdV) : sumQ (x :: l) = x.left + sumQ l := by simp [sumQ]
theorem takO_sumP (n : Int) (x : OrdV) (l : List OrdV) : sumP (takO n (x :: l)) = sumP (x :: l) - x.price * n := by
  rw [takO_cons, sumP_cons]
  split
  · rename_i h
    have e : x.left = n := by omega
    rw [e]
    omega
  · rw [sumP_cons]
    dsimp only
    rw [Int.mul_sub]
    omega
theorem takO_sumQ (n : Int) (x : OrdV) (l : List OrdV) : sumQ (takO n (x :: l)) = sumQ (x :: l) - n := by
  rw [takO_cons, sumQ_cons]
  split
  · omega
  · rw [sumQ_cons]
    dsimp only
    omega
theorem trd_rep {L : LaneV} (hk : chkB L = true) : ∃ ow, Rep ow (trdC (clL L).1 80 L.bids L.asks (clL L).2.1 (clsOf L.owed) []).2.2.1 ∧ sumP (trdC (clL L).1 80 L.bids L.asks (clL L).2.1 (clsOf L.owed) []).1 + sumA 0 ow = holM L ∧ sumQ (trdC (clL L).1 80 L.bids L.asks (clL L).2.1 (clsOf L.owed) []).2.1 + sumA 1 ow = holG L ∧ lstK (trdC (clL L).1 80 L.bids L.asks (clL L).2.1 (clsOf L.owed) []).2.2.1 8 = ow := by
  have hm := chk_may hk
  have hb := (chk_bok L).1 hk
  have hlb := hm.lb
  have hla := hm.la
  obtain ⟨⟨ow, h1, h2, h3⟩, hi⟩ := trd_ind (cl_start hk).2 (fun B A _ f _ => ∃ ow, Rep ow f ∧ sumP B + sumA 0 ow = holM L ∧ sumQ A + sumA 1 ow = holG L) (by
    rintro x bs y ys V f F hi hV hx hy hn ⟨ow, h1, h2, h3⟩
    have t2 := hi.ta y (List.mem_cons_self ..)
    have a1 := hi.cb x (List.mem_cons_self ..)
    have a2 := hi.ca y (List.mem_cons_self ..)
    have hs := stl_sum (l := ow) (xa := x.acc) (xp := x.price) (ya := y.acc) (n := min x.left y.left) hx
    refine ⟨stlO ow x.acc x.price y.acc (clL L).1 (min x.left y.left), rep_stl h1 a1 a2 (by omega) hn.1, ?_, ?_⟩
    · rw [takO_sumP, hs.1]
      omega
    · rw [takO_sumQ, hs.2]
      omega) 80 L.bids L.asks _ _ [] (iv_start hk) (by omega) ⟨L.owed, cls_rep (owed_owok hb.ow), rfl, rfl⟩
  exact ⟨ow, h1, h2, h3, rep_list h1 (fun x a => (hi.cgb x a).1)⟩
theorem cut_dem : ∀ {l : List OrdV} {s : Int} {x : OrdV} {bs : List OrdV}, OkT l → l.Pairwise (fun x y => y.price ≤ x.price) → 0 ≤ s → cutO s l = x :: bs → s + x.left ≤ dem x.price l ∧ 1 ≤ x.left ∧ ∃ z ∈ l, z.price = x.price
  | [], s, x, bs, _, _, _, h => by simp [cutO] at h
  | y :: t, s, x, bs, hl, hp, hs, h => by
    have hy := (hl y (List.mem_cons_self ..)).2
    have ht : OkT t := fun q hq => hl q (List.mem_cons_of_mem _ hq)
    rw [List.pairwise_cons] at hp
    rw [cutO] at h
    by_cases e : y.left ≤ s
    · rw [if_pos e] at h
      obtain ⟨h1, h2, z, hz, hzp⟩ := cut_dem ht hp.2 (by omega) h
      have := hp.1 z hz
      rw [dem_cons, if_pos (by omega)]
      exact ⟨by omega, h2, z, List.mem_cons_of_mem _ hz, hzp⟩
    · rw [if_neg e] at h
      simp only [List.cons.injEq] at h
      obtain ⟨rfl, rfl⟩ := h
      have h0 := (dem_bd y.price t ht).1
      rw [dem_cons]
      simp only
      rw [if_pos (Int.le_refl _)]
      exact ⟨by omega, by omega, y, List.mem_cons_self .., rfl⟩
theorem cut_sup : ∀ {l : List OrdV} {s : Int} {x : OrdV} {bs : List OrdV}, OkT l → l.Pairwise (fun x y => x.price ≤ y.price) → 0 ≤ s → cutO s l = x :: bs → s + x.left ≤ sup x.price l ∧ 1 ≤ x.left ∧ ∃ z ∈ l, z.price = x.price
  | [], s, x, bs, _, _, _, h => by simp [cutO] at h
  | y :: t, s, x, bs, hl, hp, hs, h => by
    have hy := (hl y (List.mem_cons_self ..)).2
    have ht : OkT t := fun q hq => hl q (List.mem_cons_of_mem _ hq)
    rw [List.pairwise_cons] at hp
    rw [cutO] at h
    by_cases e : y.left ≤ s
    · rw [if_pos e] at h
      obtain ⟨h1, h2, z, hz, hzp⟩ := cut_sup ht hp.2 (by omega) h
      have := hp.1 z hz
      rw [sup_cons, if_pos (by omega)]
      exact ⟨by omega, h2, z, List.mem_cons_of_mem _ hz, hzp⟩
    · rw [if_neg e] at h
      simp only [List.cons.injEq] at h
      obtain ⟨rfl, rfl⟩ := h
      have h0 := (sup_bd y.price t ht).1
      rw [sup_cons]
      simp only
      rw [if_pos (Int.le_refl _)]
      exact ⟨by omega, by omega, y, List.mem_cons_self .., rfl⟩
theorem cleared_may {L : LaneV} (hk : chkB L = true) (ho : ¬ ovrC (trdC (clL L).1 80 L.bids L.asks (clL L).2.1 (clsOf L.owed) []).2.2.1) : chkB ⟨false, L.next, cutO (clL L).2.1 L.bids, cutO (clL L).2.1 L.asks, lstK (trdC (clL L).1 80 L.bids L.asks (clL L).2.1 (clsOf L.owed) []).2.2.1 8⟩ = true := by
  have hm := chk_may hk
  have hb := (chk_bok L).1 hk
  have hi := iv_start hk
  have hv : 0 ≤ (clL L).2.1 := by
    have h1 := (dem_bd (clL L).1 L.bids hm.tb).1
    have h2 := (sup_bd (clL L).1 L.asks hm.ta).1
    have := hi.vol
    omega
  have s1 := cut_suf hm.tb hv
  have s2 := cut_suf hm.ta hv
  rw [chk_bok]
  refine ⟨hb.next, side_suf (Int.le_refl _) s1 hb.sb, side_suf (Int.le_refl _) s2 hb.sa, ?_, .inr ?_, ?_⟩
  · exact (hb.nd).sublist (List.Sublist.append (suf_ids s1) (suf_ids s2))
  · intro x y hx hy
    dsimp only at hx hy
    obtain ⟨bs, e1⟩ : ∃ bs, cutO (clL L).2.1 L.bids = x :: bs := by
      cases hc : cutO (clL L).2.1 L.bids with
      | nil => rw [hc] at hx; cases hx
      | cons z t => rw [hc] at hx; cases hx; exact ⟨t, rfl⟩
    obtain ⟨ys, e2⟩ : ∃ bs, cutO (clL L).2.1 L.asks = y :: bs := by
      cases hc : cutO (clL L).2.1 L.asks with
      | nil => rw [hc] at hy; cases hy
      | cons z t => rw [hc] at hy; cases hy; exact ⟨t, rfl⟩
    obtain ⟨d1, d2, -⟩ := cut_dem hm.tb hi.sb hv e1
    obtain ⟨u1, u2, -⟩ := cut_sup hm.ta hi.sa hv e2
    by_cases c : x.price < y.price
    · exact c
    · exfalso
      have h1 := sup_mono (p := x.price) (q := y.price) (by omega) hm.ta
      have h2 := (most_all hk x.price).1
      unfold volP at h2
      omega
  · refine owok_owed (lst_owok _) ?_
    unfold overB
    simp only [List.any_eq_false, decide_eq_true_eq]
    intro z hz
    have h1 := lst_mem hz
    have h2 := (lst_owok _).2 z hz
    intro hc
    exact ho ⟨z.acc, z.asset, ⟨h2.1, h2.2.1⟩, by rw [← h1.2.2.2]; omega⟩
theorem cleared_holds {L : LaneV} (hk : chkB L = true) : holM ⟨false, L.next, cutO (clL L).2.1 L.bids, cutO (clL L).2.1 L.asks, lstK (trdC (clL L).1 80 L.bids L.asks (clL L).2.1 (clsOf L.owed) []).2.2.1 8⟩ = holM L ∧ holG ⟨false, L.next, cutO (clL L).2.1 L.bids, cutO (clL L).2.1 L.asks, lstK (trdC (clL L).1 80 L.bids L.asks (clL L).2.1 (clsOf L.owed) []).2.2.1 8⟩ = holG L := by
  obtain ⟨ow, -, h2, h3, e⟩ := trd_rep hk
  have hF := trd_facts hk
  have hcb := hF.cb
  have hca := hF.ca
  have ev : sumN (trdC (clL L).1 80 L.bids L.asks (clL L).2.1 (clsOf L.owed) []).2.2.2 = (clL L).2.1 := by have := hF.vol; omega
  rw [ev] at hcb hca
  rw [hcb] at h2
  rw [hca] at h3
  rw [e]
  exact ⟨h2, h3⟩
/-- How many are gone, step by step. -/
theorem skN_drop {l : List OrdV} {t : Nat} (h : t < l.length) (k : Int) : skN k (l.drop t) = if l[t].left ≤ k then skN (k - l[t].left) (l.drop (t + 1)) + 1 else 0 := by
  rw [List.drop_eq_getElem_cons h, skN]
theorem skN_len : ∀ (l : List OrdV) (n : Int), skN n l ≤ l.length
  | [], n => by simp [skN]
  | x :: l, n => by
    rw [skN]
    split
    · have := skN_len l (n - x.left)
      simp only [List.length_cons]
      omega
    · simp
end Go.Proofs.Ytgnmghcdfihmgaa
namespace Go.Proofs.Ytgnmghcdfihmgaa
open Go.RowKit Go.Maps
set_option linter.all false
theorem deal_stl {ow : List OweV} {xa xp ya p n : Int} (hn : 1 ≤ n) (hp : 1 ≤ p) (hx : p ≤ xp) : (dealD ⟨xa, ya, p, n⟩ (xp - p) ow).1 = stlO ow xa xp ya p n := by
  have h1 : n ≠ 0 := by omega
  have h2 : p * n ≠ 0 := by have := mul_pos1 hp hn; omega
  unfold dealD stlO oweD
  dsimp only
  rw [if_neg h1]
  dsimp only
  rw [if_neg h2]
  dsimp only
  by_cases c : p < xp
  · have h3 : (xp - p) * n ≠ 0 := by have := mul_pos1 (show 1 ≤ xp - p by omega) hn; omega
    rw [if_pos c, if_neg h3]
  · have h3 : (xp - p) * n = 0 := by rw [show xp - p = 0 by omega]; simp
    rw [if_neg c, if_pos h3]
theorem lok_ge {l : List OweV} (h : ∀ y ∈ l, 0 ≤ y.n) (x a : Int) : 0 ≤ lok x a l := by
  induction l with
  | nil => exact Int.le_refl _
  | cons y l ih =>
    have h1 := h y (List.mem_cons_self ..)
    have h2 := ih (fun z hz => h z (List.mem_cons_of_mem _ hz))
    rw [lok_cons]
    split <;> omega
theorem lok_mem {l : List OweV} (h : ∀ y ∈ l, 0 ≤ y.n) {y : OweV} (hy : y ∈ l) : y.n ≤ lok y.acc y.asset l := by
  induction l with
  | nil => simp at hy
  | cons z l ih =>
    have hz := h z (List.mem_cons_self ..)
    have hl := lok_ge (fun u hu => h u (List.mem_cons_of_mem _ hu)) y.acc y.asset
    rw [List.mem_cons] at hy
    rw [lok_cons]
    rcases hy with rfl | hy
    · rw [if_pos ⟨rfl, rfl⟩]
      omega
    · have := ih (fun u hu => h u (List.mem_cons_of_mem _ hu)) hy
      split <;> omega
theorem lok_one {l : List OweV} (hp : l.Pairwise (fun x y => owB x y = true)) (x a : Int) : lok x a l = 0 ∨ ∃ y ∈ l, y.acc = x ∧ y.asset = a ∧ lok x a l = y.n := by
  induction l with
  | nil => exact .inl rfl
  | cons z l ih =>
    rw [List.pairwise_cons] at hp
    rw [lok_cons]
    by_cases e : z.acc = x ∧ z.asset = a
    · obtain ⟨rfl, rfl⟩ := e
      rw [if_pos ⟨rfl, rfl⟩, lok_beyond hp.1]
      exact .inr ⟨z, List.mem_cons_self .., rfl, rfl, by omega⟩
    · rw [if_neg e, Int.zero_add]
      rcases ih hp.2 with h | ⟨y, hy, h⟩
      · exact .inl h
      · exact .inr ⟨y, List.mem_cons_of_mem _ hy, h⟩
theorem rep_over {ow : List OweV} {f : Cls} (h : Rep ow f) : overB ow = true ↔ ovrC f := by
  unfold overB ovrC
  simp only [List.any_eq_true, decide_eq_true_eq]
  constructor
  · rintro ⟨y, hy, hn⟩
    have hk := h.ok.2 y hy
    refine ⟨y.acc, y.asset, ⟨hk.1, hk.2.1⟩, ?_⟩
    rw [h.eq _ _ ⟨hk.1, hk.2.1⟩]
    have := lok_mem (fun z hz => by have := (h.ok.2 z hz).2.2; omega) hy
    omega
  · rintro ⟨x, a, hx, hg⟩
    rw [h.eq x a hx] at hg
    rcases lok_one (ow_pairC h.ok.1) x a with e | ⟨y, hy, -, -, e⟩
    · omega
    · exact ⟨y, hy, by omega⟩
theorem trd_mono {p : Int} (hp : 0 ≤ p ∧ p ≤ 1000000) {k : Nat} {B A : List OrdV} {V : Int} {f : Cls} {F : List FillV} (hi : IV p B A V f F) (hl : B.length + A.length ≤ k) (x a : Int) : cg f x a ≤ cg (trdC p k B A V f F).2.2.1 x a := by
  refine (trd_ind hp (fun _ _ _ g _ => cg f x a ≤ cg g x a) ?_ k B A V f F hi hl (Int.le_refl _)).1
  intro u bs y ys V' g F' hi' hV hx hy hn hP
  have h3 := (hi'.tb u (List.mem_cons_self ..)).1
  have := (cg_stl (f := g) (xa := u.acc) (xp := u.price) (ya := y.acc) (p := p) (n := min u.left y.left) (by omega) hp (by omega) x a).1
  omega
/-- On the way: what is left, what is owed as a list, and what comes of it. -/
structure US (p : Int) (R : List OrdV × List OrdV × Cls × List FillV) (B A : List OrdV) (V : Int) (F : List FillV) (ow : List OweV) : Prop where
  run : ∃ k f, trdC p k B A V f F = R ∧ B.length + A.length ≤ k ∧ IV p B A V f F ∧ Rep ow f
  nov : overB ow = false
  go : GO (3 * F.length) ow
  len : F.length + (B.length + A.length) ≤ 80
  lb : B.length ≤ 40
  la : A.length ≤ 40
theorem takO_le (n : Int) (x : OrdV) (l : List OrdV) : (takO n (x :: l)).length ≤ (x :: l).length := by
  rw [takO_cons]
  split <;> simp
theorem us_start {L : LaneV} (hk : chkB L = true) : US (clL L).1 (trdC (clL L).1 80 L.bids L.asks (clL L).2.1 (clsOf L.owed) []) L.bids L.asks (clL L).2.1 [] L.owed := by
  have hm := chk_may hk
  have hb := (chk_bok L).1 hk
  have hlb := hm.lb
  have hla := hm.la
  refine ⟨⟨80, _, rfl, by omega, iv_start hk, cls_rep (owed_owok hb.ow)⟩, ?_, ⟨owed_owok hb.ow, hm.ow⟩, by simp; omega, hlb, hla⟩
  unfold overB
  simp only [List.any_eq_false, decide_eq_true_eq]
  intro y hy
  have := (hm.ow.2 y hy).2
  simp at this
  omega
theorem US.heads {p : Int} {R : List OrdV × List OrdV × Cls × List FillV} {B A : List OrdV} {V : Int} {F : List FillV} {ow : List OweV} (h : US p R B A V F ow) (hV : 0 < V) (hp : 0 ≤ p ∧ p ≤ 1000000) : ∃ x bs y ys, B = x :: bs ∧ A = y :: ys ∧ (p ≤ x.price ∧ x.price ≤ 1000000) ∧ (1 ≤ y.price ∧ y.price ≤ p) ∧ (1 ≤ x.left ∧ x.left ≤ 1000000) ∧ (1 ≤ y.left ∧ y.left ≤ 1000000) ∧ (1 ≤ x.acc ∧ x.acc ≤ 8) ∧ (1 ≤ y.acc ∧ y.acc ≤ 8) ∧ (min x.left y.left ≤ V ∧ V ≤ 40000000) ∧ (bs.length + 1 ≤ 40 ∧ ys.length + 1 ≤ 40) := by
  obtain ⟨k, f, -, -, hi, -⟩ := h.run
  obtain ⟨x, bs, y, ys, rfl, rfl, hx, hy⟩ := hi.heads hV
  have t1 := hi.tb x (List.mem_cons_self ..)
  have t2 := hi.ta y (List.mem_cons_self ..)
  have hs := (hi.step hp hx hy).2
  have h1 := (dem_bd p _ hs.tb).1
  have h2 := (sup_bd p _ hs.ta).1
  have h3 := hs.vol
  have h4 := h.lb
  have h5 := h.la
  have h6 := (dem_bd p _ hi.tb).2
  have h7 := hi.vol
  simp only [List.length_cons] at h4 h5 h6
  push_cast at h6
  exact ⟨x, bs, y, ys, rfl, rfl, by omega, by omega, t1.2, t2.2, hi.cb x (List.mem_cons_self ..), hi.ca y (List.mem_cons_self ..), ⟨by omega, by omega⟩, by omega, by omega⟩
theorem US.run1 {p : Int} {R : List OrdV × List OrdV × Cls × List FillV} {x y : OrdV} {bs ys : List OrdV} {V : Int} {F : List FillV} {ow : List OweV} (h : US p R (x :: bs) (y :: ys) V F ow) (hV : 0 < V) (hp : 0 ≤ p ∧ p ≤ 1000000) (hx : p ≤ x.price) (hy : 1 ≤ y.price ∧ y.price ≤ p) : ∃ k f, trdC p k (takO (min x.left y.left) (x :: bs)) (takO (min x.left y.left) (y :: ys)) (V - min x.left y.left) f (F ++ [⟨x.acc, y.acc, p, min x.left y.left⟩]) = R ∧ (takO (min x.left y.left) (x :: bs)).length + (takO (min x.left y.left) (y :: ys)).length ≤ k ∧ IV p (takO (min x.left y.left) (x :: bs)) (takO (min x.left y.left) (y :: ys)) (V - min x.left y.left) f (F ++ [⟨x.acc, y.acc, p, min x.left y.left⟩]) ∧ Rep (stlO ow x.acc x.price y.acc p (min x.left y.left)) f := by
  obtain ⟨k, f, hr, hl, hi, hrep⟩ := h.run
  cases k with
  | zero => simp at hl
  | succ k =>
    have hs := hi.step hp hx hy.2
    have h1 := takO_len x y bs ys
    simp only [List.length_cons] at hl
    refine ⟨k, _, ?_, by omega, hs.2, rep_stl hrep (hi.cb x (List.mem_cons_self ..)) (hi.ca y (List.mem_cons_self ..)) (by omega) hs.1.1⟩
    rw [← hr, trdC, if_pos hV]
theorem US.step {p : Int} {R : List OrdV × List OrdV × Cls × List FillV} {x y : OrdV} {bs ys : List OrdV} {V : Int} {F : List FillV} {ow : List OweV} (h : US p R (x :: bs) (y :: ys) V F ow) (hV : 0 < V) (hp : 0 ≤ p ∧ p ≤ 1000000) (hx : p ≤ x.price) (hy : 1 ≤ y.price ∧ y.price ≤ p) (ho : overB (stlO ow x.acc x.price y.acc p (min x.left y.left)) = false) : US p R (takO (min x.left y.left) (x :: bs)) (takO (min x.left y.left) (y :: ys)) (V - min x.left y.left) (F ++ [⟨x.acc, y.acc, p, min x.left y.left⟩]) (stlO ow x.acc x.price y.acc p (min x.left y.left)) := by
  obtain ⟨k, f, -, -, hi, -⟩ := h.run
  have hs := hi.step hp hx hy.2
  have t1 := (hi.tb x (List.mem_cons_self ..)).1
  have h1 := takO_len x y bs ys
  have h2 := h.len
  simp only [List.length_cons] at h2
  have h3 := takO_le (min x.left y.left) x bs
  have h4 := takO_le (min x.left y.left) y ys
  refine ⟨h.run1 hV hp hx hy, ho, ?_, by rw [List.length_append]; simp only [List.length_cons, List.length_nil]; omega, Nat.le_trans h3 h.lb, Nat.le_trans h4 h.la⟩
  have e : 3 * (F ++ [(⟨x.acc, y.acc, p, min x.left y.left⟩ : FillV)]).length = 3 * F.length + 3 := by simp; omega
  rw [e, ← deal_stl hs.1.1 (by omega) hx]
  exact h.go.deal (f := ⟨x.acc, y.acc, p, min x.left y.left⟩) ⟨hi.cb x (List.mem_cons_self ..), hi.ca y (List.mem_cons_self ..), by dsimp only; omega, hs.1⟩ ⟨Int.mul_nonneg (by omega) (by dsimp only; omega), by have := Int.mul_le_mul (show x.price - p ≤ 1000000 by omega) hs.1.2 (by omega) (by omega : (0 : Int) ≤ 1000000); dsimp only; omega⟩ ⟨mul_pos1 (by dsimp only; omega) hs.1.1, by have := Int.mul_le_mul hp.2 hs.1.2 (by omega) (by omega : (0 : Int) ≤ 1000000); dsimp only; omega⟩
theorem US.over {p : Int} {R : List OrdV × List OrdV × Cls × List FillV} {x y : OrdV} {bs ys : List OrdV} {V : Int} {F : List FillV} {ow : List OweV} (h : US p R (x :: bs) (y :: ys) V F ow) (hV : 0 < V) (hp : 0 ≤ p ∧ p ≤ 1000000) (hx : p ≤ x.price) (hy : 1 ≤ y.price ∧ y.price ≤ p) (ho : overB (stlO ow x.acc x.price y.acc p (min x.left y.left)) = true) : ovrC R.2.2.1 := by
  obtain ⟨k, f, hr, hl, hi, hrep⟩ := h.run1 hV hp hx hy
  obtain ⟨u, a, hu, hg⟩ := (rep_over hrep).1 ho
  refine ⟨u, a, hu, ?_⟩
  rw [← hr]
  have := trd_mono hp hi hl u a
  omega
theorem US.deal {p : Int} {R : List OrdV × List OrdV × Cls × List FillV} {x y : OrdV} {bs ys : List OrdV} {V : Int} {F : List FillV} {ow : List OweV} (h : US p R (x :: bs) (y :: ys) V F ow) (hV : 0 < V) (hp : 0 ≤ p ∧ p ≤ 1000000) (hx : p ≤ x.price) (hy : 1 ≤ y.price ∧ y.price ≤ p) : dealD ⟨x.acc, y.acc, p, min x.left y.left⟩ (x.price - p) ow = (stlO ow x.acc x.price y.acc p (min x.left y.left), !(overB (stlO ow x.acc x.price y.acc p (min x.left y.left)))) := by
  obtain ⟨k, f, -, -, hi, -⟩ := h.run
  have hs := hi.step hp hx hy.2
  have t1 := (hi.tb x (List.mem_cons_self ..)).1
  have e1 := deal_stl (ow := ow) (xa := x.acc) (xp := x.price) (ya := y.acc) (p := p) (n := min x.left y.left) hs.1.1 (by omega) hx
  have e2 := deal_ok (f := ⟨x.acc, y.acc, p, min x.left y.left⟩) (better := x.price - p) h.nov (by dsimp only; omega) ⟨Int.mul_nonneg (by omega) (by dsimp only; omega), by have := Int.mul_le_mul (show x.price - p ≤ 1000000 by omega) hs.1.2 (by omega) (by omega : (0 : Int) ≤ 1000000); dsimp only; omega⟩ ⟨Int.mul_nonneg (by dsimp only; omega) (by dsimp only; omega), by have := Int.mul_le_mul hp.2 hs.1.2 (by omega) (by omega : (0 : Int) ≤ 1000000); dsimp only; omega⟩
  rw [e1] at e2
  exact Prod.ext e1 e2
theorem US.fin {p : Int} {R : List OrdV × List OrdV × Cls × List FillV} {B A : List OrdV} {V : Int} {F : List FillV} {ow : List OweV} (h : US p R B A V F ow) (hV : ¬ 0 < V) : R.1 = B ∧ R.2.1 = A ∧ R.2.2.2 = F ∧ lstK R.2.2.1 8 = ow ∧ ¬ ovrC R.2.2.1 := by
  obtain ⟨k, f, hr, hl, hi, hrep⟩ := h.run
  have e : R = (B, A, f, F) := by
    rw [← hr]
    cases k with
    | zero => rfl
    | succ k => exact trdC_none hV
  rw [e]
  refine ⟨rfl, rfl, rfl, rep_list hrep (fun x a => (hi.cgb x a).1), fun c => ?_⟩
  have := (rep_over hrep).2 c
  rw [h.nov] at this
  cases this
end Go.Proofs.Ytgnmghcdfihmgaa
namespace Go.Proofs.Ytgnmghcdfihmgaa
open Go.RowKit Go.Maps
set_option linter.all false
def TokB (R : List OrdV) (w : World) (e : Ending) (w' : World) : Prop := ∃ a c, e = .returned (.slice a R.length c) ∧ w'.ownsRow w.heap.size 38 4 (.slice a R.length c) R.length (celC ordE R) ∧ Below w.heap.size w w'
set_option maxHeartbeats 8000000 in
set_option maxRecDepth 100000 in
theorem took_is (v : Value) (x : OrdV) (rs : List OrdV) (n : Int) (w : World) (B : Nat) (hB : B ≤ w.heap.size) (h : w.ownsRow B 38 4 v (x :: rs).length (celC ordE (x :: rs))) (hl : rs.length + 1 ≤ 40) (hn : 0 ≤ n ∧ n ≤ x.left) (hx : x.left ≤ 1000000) : Calls Try.prog 44 #[v, .int .i64 n] w (TokB (takO n (x :: rs)) w) := by
  have HROW : Hid (Ords w v (x :: rs)) := own_sgot h (by simp; omega)
  obtain ⟨ta, tc, rfl⟩ := own_len h
  have hcap := HROW.out.cap
  obtain ⟨ad, cd, e, -, hr⟩ := HROW.out.ords
  simp only [Value.slice.injEq] at e
  obtain ⟨rfl, -, rfl⟩ := e
  obtain ⟨g, off, rfl, hgl, q0, q1, q2, q3⟩ := hr 0 (by simp)
  clear hr
  simp only [List.getElem_cons_zero, Nat.zero_mul, Nat.add_zero] at q0 q1 q2 q3
  have HRS0 := hideIt (restA (w := w) hB h hl)
  have HTK := hideIt (takO_cons n x rs)
  generalize takO n (x :: rs) = R at *
  have htp : (0 : Int) < (((x :: rs : List OrdV).length : Nat) : Int) := by simp
  have htN : 0 < (x :: rs : List OrdV).length := by simp
  have htz : ((((x :: rs : List OrdV).length : Nat) : Int) == 0) = false := by simp; omega
  have HTN : Hid ((x :: rs : List OrdV).length = rs.length + 1) := by show _ = _; simp
  have HH := hideIt h
  clear h HROW
  generalize hTl : (x :: rs : List OrdV).length = tn at *
  have HTL := hideIt hTl
  clear hTl
  obtain ⟨xi, xa, xp, xl⟩ := x
  dsimp only at *
  have htc : (tn : Int) ≤ (tc : Int) := by omega
  have ht1 : (1 : Int) ≤ (tn : Int) := by omega
  have ht1c : (1 : Int) ≤ (tc : Int) := by omega
  by_cases hz : xl - n = 0
  · have hzI : ¬ n < xl := by omega
    have HTK2 := HTK.out
    rw [if_pos hz] at HTK2
    clear HTK
    rw [HTK2]
    clear HTK2
    by_cases htc1 : tc = 1
    · have HRS : Hid (Ords w (.slice (some ⟨g, off, none⟩) (tn - 1) 0) rs) := by
        have := HRS0.out
        rw [if_pos htc1, htc1] at this
        exact this
      have htc2 : tc - 1 = 0 := by omega
      clear HRS0
      obtain ⟨a', c', w', hrun, ho', hb'⟩ := runA (Nat.le_refl _) HRS.out (by omega)
      unfold TokB
      go_enter Try.func44, Try.ntmps44
      have HRUN := hideIt hrun
      have HO := hideIt ho'
      have HB := hideIt hb'
      clear hrun ho' hb' HRS
      go_wp2_with (at_builtin; refine Lib.wpList_append_run _ rfl _ _ _ _ rfl _ _ rfl rfl _ _ HRUN.out ?_)
      clear HRUN
      go_wp2
      go_ret
      exact ⟨_, _, rfl, HO.out, HB.out⟩
    · have HRS : Hid (Ords w (.slice (some ⟨g, off + 4, none⟩) (tn - 1) (tc - 1)) rs) := by
        have := HRS0.out
        rw [if_neg htc1] at this
        exact this
      have htc2 : ¬ tc - 1 = 0 := by omega
      clear HRS0
      obtain ⟨a', c', w', hrun, ho', hb'⟩ := runA (Nat.le_refl _) HRS.out (by omega)
      unfold TokB
      go_enter Try.func44, Try.ntmps44
      have HRUN := hideIt hrun
      have HO := hideIt ho'
      have HB := hideIt hb'
      clear hrun ho' hb' HRS
      go_wp2_with (at_builtin; refine Lib.wpList_append_run _ rfl _ _ _ _ rfl _ _ rfl rfl _ _ HRUN.out ?_)
      clear HRUN
      go_wp2
      go_ret
      exact ⟨_, _, rfl, HO.out, HB.out⟩
  · have hzI : n < xl := by omega
    have HTK2 := HTK.out
    rw [if_neg hz] at HTK2
    clear HTK
    rw [HTK2]
    clear HTK2
    have hw2 : IntKind.i64.wrap (xl - n) = xl - n := by rw [IntKind.wrap_i64]; omega
    have B1 := hideIt (below1 w (.cells #[.int .i64 xi, .int .i64 xa, .int .i64 xp, .int .i64 (xl - n)] 38))
    have K1 := hideIt (heap_alloc_new w (.cells #[.int .i64 xi, .int .i64 xa, .int .i64 xp, .int .i64 (xl - n)] 38))
    unfold TokB
    go_enter Try.func44, Try.ntmps44
    go_upto_region 5 with fail
    clear q0 q1 q2 q3
    generalize w.alloc (.cells #[.int .i64 xi, .int .i64 xa, .int .i64 xp, .int .i64 (xl - n)] 38) = W1 at *
    obtain ⟨⟨k0, k1, k2, k3⟩, kf, kz⟩ := four5_at (w := W1) (a := .int .i64 xi) (b := .int .i64 xa) (c := .int .i64 xp) (d := .int .i64 (xl - n)) K1.out
    by_cases htc1 : tc = 1
    · have HRS : Hid (Ords W1 (.slice (some ⟨g, off, none⟩) (tn - 1) 0) rs) := by
        have := HRS0.out
        rw [if_pos htc1, htc1] at this
        exact this.keep B1.out
      have htc2 : tc - 1 = 0 := by omega
      clear HRS0
      obtain ⟨a1, d1, w1, a', c', w', hrun1, hrun, ho', hb'⟩ := runB (x := ⟨xi, xa, xp, xl - n⟩) B1.out.size HRS.out hl
      have HRUN := hideIt hrun
      have HRUN1 := hideIt hrun1
      simp only [ordE] at HRUN1
      have HO := hideIt ho'
      have HB := hideIt (below_via B1.out hb')
      clear hrun hrun1 ho' hb' HRS
      go_upto_region 6 with (at_builtin; refine Lib.wpList_append_run _ rfl _ _ _ _ rfl _ _ rfl rfl _ _ HRUN1.out ?_)
      clear HRUN1
      go_wp2_with (at_builtin; refine Lib.wpList_append_run _ rfl _ _ _ _ rfl _ _ rfl rfl _ _ HRUN.out ?_)
      clear HRUN
      go_wp2
      go_ret
      exact ⟨_, _, rfl, own_base HO.out (Nat.le_refl _), HB.out⟩
    · have HRS : Hid (Ords W1 (.slice (some ⟨g, off + 4, none⟩) (tn - 1) (tc - 1)) rs) := by
        have := HRS0.out
        rw [if_neg htc1] at this
        exact this.keep B1.out
      have htc2 : ¬ tc - 1 = 0 := by omega
      clear HRS0
      obtain ⟨a1, d1, w1, a', c', w', hrun1, hrun, ho', hb'⟩ := runB (x := ⟨xi, xa, xp, xl - n⟩) B1.out.size HRS.out hl
      have HRUN := hideIt hrun
      have HRUN1 := hideIt hrun1
      simp only [ordE] at HRUN1
      have HO := hideIt ho'
      have HB := hideIt (below_via B1.out hb')
      clear hrun hrun1 ho' hb' HRS
      go_upto_region 6 with (at_builtin; refine Lib.wpList_append_run _ rfl _ _ _ _ rfl _ _ rfl rfl _ _ HRUN1.out ?_)
      clear HRUN1
      go_wp2_with (at_builtin; refine Lib.wpList_append_run _ rfl _ _ _ _ rfl _ _ rfl rfl _ _ HRUN.out ?_)
      clear HRUN
      go_wp2
      go_ret
      exact ⟨_, _, rfl, own_base HO.out (Nat.le_refl _), HB.out⟩
end Go.Proofs.Ytgnmghcdfihmgaa
namespace Go.Proofs.Ytgnmghcdfihmgaa
open Go.RowKit Go.Maps
set_option linter.all false
set_option maxHeartbeats 16000000 in
set_option maxRecDepth 100000 in
theorem rAt_is (L : LaneV) (b a o : Value) (q : Int) (w : World) (h : Lan w L b a o) (hk : chkB L = true) : Calls Try.prog 68 #[laneV L b a o, .int .i64 q] w fun e w' => e = .returned (.tuple #[.int .i64 (volP L q), .int .i64 (rstP L q)]) ∧ Below w.heap.size w w' := by
  have X0 := hideIt (BoxL.first w L b a o)
  obtain ⟨ba, bc, rfl, b8, hb⟩ := h.bids.ords
  obtain ⟨aa, ac, rfl, a8, ha⟩ := h.asks.ords
  obtain ⟨oa, oc, rfl⟩ := h.owed.slice
  have HHB := hideIt hb
  have HHA := hideIt ha
  clear h hb ha
  obtain ⟨c0, c1, c2, c3, c4⟩ := X0.out.cells
  have hm := chk_may hk
  have HSB := hideIt (fun t (ht : t < L.bids.length) => dem_take (p := q) ht)
  have HSA := hideIt (fun t (ht : t < L.asks.length) => sup_take (p := q) ht)
  have HBB := hideIt (fun t => dem_bd q (L.bids.take t) (okT_take hm.tb t))
  have HBA := hideIt (fun t => sup_bd q (L.asks.take t) (okT_take hm.ta t))
  have HEB : Hid (dem q (L.bids.take L.bids.length) = dem q L.bids) := by show _ = _; rw [List.take_length]
  have HEA : Hid (sup q (L.asks.take L.asks.length) = sup q L.asks) := by show _ = _; rw [List.take_length]
  have HZB : Hid (dem q (L.bids.take 0) = 0) := rfl
  have HZA : Hid (sup q (L.asks.take 0) = 0) := rfl
  have hlb := hm.lb
  have hla := hm.la
  have hdb := dem_bd q L.bids hm.tb
  have hsb := sup_bd q L.asks hm.ta
  unfold volP rstP
  generalize hfu : (fun t : Nat => dem q (L.bids.take t)) = FB at *
  generalize hfv : (fun t : Nat => sup q (L.asks.take t)) = FA at *
  have T1 : Hid (∀ t, dem q (L.bids.take t) = FB t) := fun t => congrFun hfu t
  have T2 : Hid (∀ t, sup q (L.asks.take t) = FA t) := fun t => congrFun hfv t
  simp only [T1.out] at HSB HBB HEB HZB
  simp only [T2.out] at HSA HBA HEA HZA
  generalize dem q L.bids = DB at *
  generalize sup q L.asks = DA at *
  clear hfu hfv T1 T2 hk hm
  obtain ⟨vv, hvv⟩ : ∃ vv, vv = min DB DA := ⟨_, rfl⟩
  obtain ⟨rr, hrr⟩ : ∃ rr, rr = max DB DA - min DB DA := ⟨_, rfl⟩
  rw [← hrr, ← hvv]
  have HVV := hideIt hvv
  have hwr : IntKind.i64.wrap (max DB DA - min DB DA) = rr := by rw [← hrr, IntKind.wrap_i64]; omega
  clear hvv hrr hdb hsb
  unfold laneV laneA at *
  obtain ⟨cl, nx, bids, asks, owed⟩ := L
  simp only at *
  go_enter Try.func68, Try.ntmps68
  go_upto_region 4 with fail
  clear c0 c1 c2 c3 c4
  go_loopw [6, 8] (fun u x wr => ∃ t : Nat, u = .int .i64 (FB t) ∧ x = .int .i64 t ∧ t ≤ bids.length ∧ Hid (BoxL w ⟨cl, nx, bids, asks, owed⟩ (.slice ba bids.length bc) (.slice aa asks.length ac) (.slice oa owed.length oc) wr)) (fun _ x _ => bids.length - (RowKit.intOf x).toNat)
  case atStart => exact ⟨0, by rw [HZB.out], rfl, Nat.zero_le _, X0⟩
  case round =>
    clear X0
    obtain ⟨t, rfl, rfl, ht, HR⟩ := hrel
    obtain ⟨c0, c1, c2, c3, c4⟩ := HR.out.cells
    simp only at c0 c1 c2 c3 c4
    have kz : w.heap.size < wr.heap.size := by have := HR.out.size; omega
    by_cases hlt : t < bids.length
    · have hltI : (t : Int) < (bids.length : Int) := by omega
      have ht0 : (0 : Int) ≤ (t : Int) := by omega
      have hw : IntKind.i64.wrap ((t : Int) + 1) = ((t + 1 : Nat) : Int) := by rw [IntKind.wrap_i64]; omega
      obtain ⟨b, off, rfl, hbl, q0, q1, q2, q3⟩ := HHB.out t hlt
      have hblr : b < wr.heap.size := Nat.lt_of_lt_of_le hbl HR.out.bel.size
      have e2 := (HR.out.bel.cell (p := ⟨b, off + t * 4 + 2, none⟩) hbl).trans q2
      have e3 := (HR.out.bel.cell (p := ⟨b, off + t * 4 + 3, none⟩) hbl).trans q3
      have hs := HSB.out t hlt
      have hb0 := HBB.out t
      have hb1 := HBB.out (t + 1)
      have ht40 : (bids.take (t + 1)).length ≤ 40 := by rw [List.length_take]; omega
      have ht41 : (bids.take t).length ≤ 40 := by rw [List.length_take]; omega
      clear q0 q1 q2 q3 HHB
      generalize bids[t] = y at *
      obtain ⟨yi, ya, yp, yl⟩ := y
      dsimp only at e2 e3 hs
      by_cases hp : q ≤ yp
      · rw [if_pos hp] at hs
        have hwA : IntKind.i64.wrap (FB t + yl) = FB (t + 1) := by rw [hs, IntKind.wrap_i64]; omega
        have hpd : decide (q ≤ yp) = true := decide_eq_true hp
        clear hs hb0 hb1
        go_wp2
        go_roundw
        case rel => exact ⟨t + 1, rfl, by go_num, by omega, HR⟩
        case measure => simp [RowKit.intOf]; omega
      · rw [if_neg hp, Int.add_zero] at hs
        have HSH := hideIt hs
        have hpd : decide (q ≤ yp) = false := decide_eq_false hp
        clear hs hb0 hb1
        go_wp2
        go_roundw
        case rel => exact ⟨t + 1, by rw [HSH.out], by go_num, by omega, HR⟩
        case measure => simp [RowKit.intOf]; omega
    · have hltI : ¬ (t : Int) < (bids.length : Int) := by omega
      have het : t = bids.length := by omega
      subst het
      clear HHB HSB HBB
      go_upto_region 9 with fail
      clear c0 c1 c2 c3 c4 kz
      go_loopw [7, 9] (fun u x wr => ∃ t : Nat, u = .int .i64 (FA t) ∧ x = .int .i64 t ∧ t ≤ asks.length ∧ Hid (BoxL w ⟨cl, nx, bids, asks, owed⟩ (.slice ba bids.length bc) (.slice aa asks.length ac) (.slice oa owed.length oc) wr)) (fun _ x _ => asks.length - (RowKit.intOf x).toNat)
      case atStart => exact ⟨0, by rw [HZA.out], rfl, Nat.zero_le _, HR⟩
      case round =>
        clear HR
        obtain ⟨t, rfl, rfl, ht, HR⟩ := hrel
        obtain ⟨c0, c1, c2, c3, c4⟩ := HR.out.cells
        simp only at c0 c1 c2 c3 c4
        have kz : w.heap.size < wr.heap.size := by have := HR.out.size; omega
        by_cases hlt : t < asks.length
        · have hltI : (t : Int) < (asks.length : Int) := by omega
          have ht0 : (0 : Int) ≤ (t : Int) := by omega
          have hw : IntKind.i64.wrap ((t : Int) + 1) = ((t + 1 : Nat) : Int) := by rw [IntKind.wrap_i64]; omega
          obtain ⟨b, off, rfl, hbl, q0, q1, q2, q3⟩ := HHA.out t hlt
          have hblr : b < wr.heap.size := Nat.lt_of_lt_of_le hbl HR.out.bel.size
          have e2 := (HR.out.bel.cell (p := ⟨b, off + t * 4 + 2, none⟩) hbl).trans q2
          have e3 := (HR.out.bel.cell (p := ⟨b, off + t * 4 + 3, none⟩) hbl).trans q3
          have hs := HSA.out t hlt
          have hb0 := HBA.out t
          have hb1 := HBA.out (t + 1)
          have ht40 : (asks.take (t + 1)).length ≤ 40 := by rw [List.length_take]; omega
          have ht41 : (asks.take t).length ≤ 40 := by rw [List.length_take]; omega
          clear q0 q1 q2 q3 HHA
          generalize asks[t] = y at *
          obtain ⟨yi, ya, yp, yl⟩ := y
          dsimp only at e2 e3 hs
          by_cases hp : yp ≤ q
          · rw [if_pos hp] at hs
            have hwA : IntKind.i64.wrap (FA t + yl) = FA (t + 1) := by rw [hs, IntKind.wrap_i64]; omega
            have hpd : decide (yp ≤ q) = true := decide_eq_true hp
            clear hs hb0 hb1
            go_wp2
            go_roundw
            case rel => exact ⟨t + 1, rfl, by go_num, by omega, HR⟩
            case measure => simp [RowKit.intOf]; omega
          · rw [if_neg hp, Int.add_zero] at hs
            have HSH := hideIt hs
            have hpd : decide (yp ≤ q) = false := decide_eq_false hp
            clear hs hb0 hb1
            go_wp2
            go_roundw
            case rel => exact ⟨t + 1, by rw [HSH.out], by go_num, by omega, HR⟩
            case measure => simp [RowKit.intOf]; omega
        · have hltA : ¬ (t : Int) < (asks.length : Int) := by omega
          have hta : t = asks.length := by omega
          subst hta
          have B3 := hideIt HR.out.bel
          clear HHA HSA HBA HR
          rw [HEB.out, HEA.out]
          go_wp2
          rw [← HVV.out]
          exact bodyPost_ret (v := .tuple #[.int .i64 vv, .int .i64 rr]) (by simp [results, Try.results68, go_sem]) rfl ⟨rfl, B3.out⟩
end Go.Proofs.Ytgnmghcdfihmgaa
namespace Go.Proofs.Ytgnmghcdfihmgaa
open Go.RowKit
set_option linter.all false
def dcS (L : LaneV) (st : Int × Int × Int) (p : Int) : Int × Int × Int := if st.1 = 0 ∨ st.2.1 < volP L p ∨ (volP L p = st.2.1 ∧ rstP L p < st.2.2) ∨ (volP L p = st.2.1 ∧ rstP L p = st.2.2 ∧ p < st.1) then (p, volP L p, rstP L p) else st
def dcL (L : LaneV) : Int × Int × Int := (prL L.bids ++ prL L.asks).foldl (dcS L) (0, 0, 0)
def Bett (L : LaneV) (q p : Int) : Prop := volP L p < volP L q ∨ (volP L q = volP L p ∧ rstP L q < rstP L p) ∨ (volP L q = volP L p ∧ rstP L q = rstP L p ∧ q < p)
def BestOf (L : LaneV) (S : List Int) (p : Int) : Prop := p ∈ S ∧ ∀ q ∈ S, ¬ Bett L q p
theorem best_one {L : LaneV} {S T : List Int} {p q : Int} (hp : BestOf L S p) (hq : BestOf L T q) (h : ∀ x, x ∈ S ↔ x ∈ T) : p = q := by
  have h1 := hp.2 q ((h q).2 hq.1)
  have h2 := hq.2 p ((h p).1 hp.1)
  unfold Bett at h1 h2
  omega
theorem dc_fold (L : LaneV) : ∀ (ps S : List Int) (p : Int), (∀ x ∈ ps, 1 ≤ x) → 1 ≤ p → BestOf L S p → ∃ q, ps.foldl (dcS L) (p, volP L p, rstP L p) = (q, volP L q, rstP L q) ∧ BestOf L (S ++ ps) q ∧ 1 ≤ q
  | [], S, p, _, h1, hb => ⟨p, rfl, by rw [List.append_nil]; exact hb, h1⟩
  | x :: ps, S, p, hps, h1, hb => by
    have hx := hps x (List.mem_cons_self ..)
    rw [List.foldl_cons]
    have e : S ++ x :: ps = (S ++ [x]) ++ ps := by simp
    rw [e]
    have hbt := hb.2
    unfold dcS
    dsimp only
    split
    · rename_i hc
      have hB : Bett L x p := by
        unfold Bett
        rcases hc with hc | hc | hc | hc
        · omega
        · exact .inl hc
        · exact .inr (.inl hc)
        · exact .inr (.inr hc)
      refine dc_fold L ps (S ++ [x]) x (fun y hy => hps y (List.mem_cons_of_mem _ hy)) hx ⟨by simp, fun q hq => ?_⟩
      rw [List.mem_append, List.mem_singleton] at hq
      rcases hq with hq | rfl
      · have := hbt q hq
        unfold Bett at *
        omega
      · unfold Bett
        omega
    · rename_i hc
      refine dc_fold L ps (S ++ [x]) p (fun y hy => hps y (List.mem_cons_of_mem _ hy)) h1 ⟨by simp [hb.1], fun q hq => ?_⟩
      rw [List.mem_append, List.mem_singleton] at hq
      rcases hq with hq | rfl
      · exact hbt q hq
      · unfold Bett
        omega
theorem cl_fold2 (L : LaneV) (hv : ∀ p, 0 ≤ volP L p) : ∀ (ps S : List Int) (st : Int × Int × Int), (S ++ ps).Pairwise (· ≤ ·) → ((st = (0, 0, 0) ∧ ∀ q ∈ S, volP L q = 0) ∨ (∃ p, st = (p, volP L p, rstP L p) ∧ 0 < volP L p ∧ BestOf L S p)) → ((ps.foldl (clS L) st = (0, 0, 0) ∧ ∀ q ∈ S ++ ps, volP L q = 0) ∨ (∃ p, ps.foldl (clS L) st = (p, volP L p, rstP L p) ∧ 0 < volP L p ∧ BestOf L (S ++ ps) p))
  | [], S, st, _, h => by rw [List.append_nil]; exact h
  | x :: ps, S, st, hs, h => by
    have hvx := hv x
    have e : S ++ x :: ps = (S ++ [x]) ++ ps := by simp
    rw [List.foldl_cons]
    rw [e] at hs ⊢
    have hle : ∀ q ∈ S, q ≤ x := fun q hq => by
      have := (List.pairwise_append.1 (List.pairwise_append.1 hs).1).2.2
      exact this q hq x (by simp)
    refine cl_fold2 L hv ps (S ++ [x]) _ hs ?_
    have hrx := rst_pos L x
    rcases h with ⟨rfl, h0⟩ | ⟨p, rfl, hp, hb⟩
    · unfold clS
      dsimp only
      by_cases hc : 0 < volP L x ∨ volP L x = 0 ∧ rstP L x < 0
      · rw [if_pos hc]
        refine .inr ⟨x, rfl, by omega, by simp, fun q hq => ?_⟩
        rw [List.mem_append, List.mem_singleton] at hq
        rcases hq with hq | rfl
        · have := h0 q hq
          unfold Bett
          omega
        · unfold Bett
          omega
      · rw [if_neg hc]
        refine .inl ⟨rfl, fun q hq => ?_⟩
        rw [List.mem_append, List.mem_singleton] at hq
        rcases hq with hq | rfl
        · exact h0 q hq
        · omega
    · unfold clS
      dsimp only
      have hpx := hle p hb.1
      have hbt := hb.2
      by_cases hc : volP L p < volP L x ∨ volP L x = volP L p ∧ rstP L x < rstP L p
      · rw [if_pos hc]
        refine .inr ⟨x, rfl, by omega, by simp, fun q hq => ?_⟩
        rw [List.mem_append, List.mem_singleton] at hq
        rcases hq with hq | rfl
        · have := hbt q hq
          unfold Bett at *
          omega
        · unfold Bett
          omega
      · rw [if_neg hc]
        refine .inr ⟨p, rfl, hp, by simp [hb.1], fun q hq => ?_⟩
        rw [List.mem_append, List.mem_singleton] at hq
        rcases hq with hq | rfl
        · exact hbt q hq
        · unfold Bett
          omega
theorem best_is {L : LaneV} (hk : chkB L = true) : (if (dcL L).2.1 = 0 then ((0 : Int), (0 : Int)) else ((dcL L).1, (dcL L).2.1)) = ((clL L).1, (clL L).2.1) := by
  have hm := chk_may hk
  have hv := fun p => vol_pos hm.tb hm.ta p
  have hpr : ∀ p ∈ prL L.bids ++ prL L.asks, 1 ≤ p := by
    intro p hp
    rw [List.mem_append] at hp
    unfold prL at hp
    simp only [List.mem_map] at hp
    rcases hp with ⟨o, ho, rfl⟩ | ⟨o, ho, rfl⟩
    · exact (hm.tb o ho).1.1
    · exact (hm.ta o ho).1.1
  have h2 := cl_fold2 L hv (sortL (prL L.bids ++ prL L.asks)) [] (0, 0, 0) (by rw [List.nil_append]; exact sort_pair _) (.inl ⟨rfl, fun q hq => by simp at hq⟩)
  rw [List.nil_append] at h2
  have hmem : ∀ x, x ∈ sortL (prL L.bids ++ prL L.asks) ↔ x ∈ prL L.bids ++ prL L.asks := fun x => (sort_perm _).mem_iff
  change ((clL L = (0, 0, 0) ∧ _) ∨ (∃ p, clL L = (p, volP L p, rstP L p) ∧ _)) at h2
  unfold dcL
  generalize prL L.bids ++ prL L.asks = S at *
  cases S with
  | nil =>
    rcases h2 with ⟨e, -⟩ | ⟨p, e, -, hb⟩
    · rw [e]
      rfl
    · exact absurd ((hmem p).1 hb.1) (by simp)
  | cons x S =>
    have h1x := hpr x (List.mem_cons_self ..)
    have e0 : dcS L (0, 0, 0) x = (x, volP L x, rstP L x) := by unfold dcS; rw [if_pos (.inl rfl)]
    obtain ⟨q, e, hb, hq⟩ := dc_fold L S [x] x (fun y hy => hpr y (List.mem_cons_of_mem _ hy)) h1x ⟨by simp, fun q hq => by simp at hq; subst hq; unfold Bett; omega⟩
    rw [List.foldl_cons, e0, e]
    dsimp only
    rw [List.singleton_append] at hb
    rcases h2 with ⟨e2, h0⟩ | ⟨p, e2, hp, hb2⟩
    · rw [if_pos (h0 q ((hmem q).2 hb.1)), e2]
    · have := best_one hb hb2 (fun y => (hmem y).symm)
      subst this
      rw [if_neg (by omega), e2]
end Go.Proofs.Ytgnmghcdfihmgaa
namespace Go.Proofs.Ytgnmghcdfihmgaa
open Go.RowKit Go.Maps
set_option linter.all false
theorem prL_app (l k : List OrdV) : prL l ++ prL k = prL (l ++ k) := by unfold prL; rw [List.map_append]
set_option maxHeartbeats 16000000 in
set_option maxRecDepth 100000 in
theorem rBest_is (L : LaneV) (b a o : Value) (w : World) (h : Lan w L b a o) (hk : chkB L = true) : Calls Try.prog 42 #[laneV L b a o] w fun e w' => e = .returned (.tuple #[.int .i64 (clL L).1, .int .i64 (clL L).2.1]) ∧ Below w.heap.size w w' := by
  have hm := chk_may hk
  have HB1 := hideIt (below1 w (.cells (laneA L b a o) 25))
  have HX1 := hideIt (BoxL.first w L b a o)
  have H := hideIt (h.keep HB1.out)
  have HAT := hideIt (fun p W (hW : Below w.heap.size w W) => rAt_is L b a o p W (h.keep hW) hk)
  have HBI := hideIt (best_is hk)
  have hlb := hm.lb
  have hla := hm.la
  have HST := hideIt (fun st p => show dcS L st p = if st.1 = 0 ∨ st.2.1 < volP L p ∨ (volP L p = st.2.1 ∧ rstP L p < st.2.2) ∨ (volP L p = st.2.1 ∧ rstP L p = st.2.2 ∧ p < st.1) then (p, volP L p, rstP L p) else st from rfl)
  have HDC : Hid (dcL L = (prL (L.bids ++ L.asks)).foldl (dcS L) (0, 0, 0)) := by show _ = _; unfold dcL; rw [prL_app]
  obtain ⟨ba, bc, rfl⟩ := h.bids.slice
  obtain ⟨aa, ac, rfl⟩ := h.asks.slice
  obtain ⟨oa, oc, rfl⟩ := h.owed.slice
  clear h hm hk
  unfold laneV laneA at *
  generalize clL L = R at *
  generalize dcL L = D at *
  go_enter Try.func42, Try.ntmps42
  go_upto_region 2 with fail
  generalize w.alloc (.cells #[.bool L.call, .int .i64 L.next, .slice ba L.bids.length bc, .slice aa L.asks.length ac, .slice oa L.owed.length oc] 25) = W1 at *
  obtain ⟨xa, xc, w2, hrun, ho, hb⟩ := app0 (enc := ordE) (t := 22) ordK ord1 Try.underlying22 info36 rfl (by omega) (by omega) W1 _ _ H.out.bids
  obtain ⟨v3, w3, hrun3, ho3, hb3⟩ := appW (W := W1) hb.size ho (H.out.keep hb).asks (by omega) (Nat.le_refl _) hb
  obtain ⟨c0, c1, c2, c3, c4⟩ := HX1.out.cells
  obtain ⟨d0, d1, d2, d3, d4⟩ := (HX1.out.keep hb).cells
  have cl0 : w.heap.size < W1.heap.size := HX1.out.size
  have dl0 : w.heap.size < w2.heap.size := (HX1.out.keep hb).size
  have HRUN := hideIt hrun
  have HRUN3 := hideIt hrun3
  have HL3 : Hid (Ords w3 v3 (L.bids ++ L.asks)) := own_sgot ho3 (by rw [List.length_append]; omega)
  have HX3 := hideIt (HX1.out.keep hb3)
  clear hrun hrun3 ho hb ho3 hb3 H HX1
  go_upto_region 3 with (at_builtin; refine Lib.wpList_append_run _ rfl _ _ _ _ rfl _ _ rfl rfl _ _ HRUN.out ?_)
  clear c0 c1 c2 c3 c4 cl0 HRUN
  go_upto_region 8 with (at_builtin; refine Lib.wpList_append_run _ rfl _ _ _ _ rfl _ _ rfl rfl _ _ HRUN3.out ?_)
  clear d0 d1 d2 d3 d4 dl0 HRUN3 HB1
  obtain ⟨l, hl⟩ : ∃ l, l = L.bids ++ L.asks := ⟨_, rfl⟩
  have hll : l.length ≤ 80 := by rw [hl, List.length_append]; omega
  rw [← hl] at HDC HL3
  have HF := hideIt (fun t (ht : t < l.length) => show ((prL l).take (t + 1)).foldl (dcS L) (0, 0, 0) = dcS L (((prL l).take t).foldl (dcS L) (0, 0, 0)) l[t].price by
    rw [List.take_succ_eq_append_getElem (by rw [prL_len]; exact ht), List.foldl_append]
    simp [prL])
  have HFE : Hid (((prL l).take l.length).foldl (dcS L) (0, 0, 0) = D) := by
    show _ = _
    rw [← prL_len l, List.take_length, HDC.out]
  have HFZ : Hid (((prL l).take 0).foldl (dcS L) (0, 0, 0) = (0, 0, 0)) := rfl
  clear hl HDC
  generalize hG : (fun st p => dcS L st p) = G at *
  have HG2 : Hid (∀ st p, dcS L st p = G st p) := fun st p => congrFun (congrFun hG st) p
  generalize hfu : (fun t : Nat => ((prL l).take t).foldl (dcS L) (0, 0, 0)) = FT at *
  have HT1 : Hid (∀ t, ((prL l).take t).foldl (dcS L) (0, 0, 0) = FT t) := fun t => congrFun hfu t
  simp only [HT1.out, HG2.out] at HF HFE HFZ HST
  clear hfu HT1 hG HG2
  obtain ⟨ad, c, rfl, h8, hr⟩ := HL3.out.ords
  have HH := hideIt hr
  clear hr HL3
  go_loopw [5, 6, 7, 8] (fun u v x y wr => ∃ t : Nat, ∃ p q r : Int, u = .int .i64 p ∧ v = .int .i64 q ∧ x = .int .i64 r ∧ y = .int .i64 t ∧ t ≤ l.length ∧ Hid (FT t = (p, q, r)) ∧ Hid (Below w3.heap.size w3 wr)) (fun _ _ _ y _ => l.length - (intOf y).toNat)
  case atStart => exact ⟨0, 0, 0, 0, rfl, rfl, rfl, rfl, Nat.zero_le _, HFZ, hideIt (Below.refl _ _)⟩
  case round =>
    obtain ⟨t, p, q, r, rfl, rfl, rfl, rfl, ht, HV, HR⟩ := hrel
    by_cases hlt : t < l.length
    · have hltI : (t : Int) < (l.length : Int) := by omega
      have ht0 : (0 : Int) ≤ (t : Int) := by omega
      have hw : IntKind.i64.wrap ((t : Int) + 1) = ((t + 1 : Nat) : Int) := by rw [IntKind.wrap_i64]; omega
      obtain ⟨bb, off, rfl, hbl, -, -, q2, -⟩ := HH.out t hlt
      have hblr : bb < wr.heap.size := Nat.lt_of_lt_of_le hbl HR.out.size
      have e0 := (HR.out.cell (p := ⟨bb, off + t * 4 + 2, none⟩) hbl).trans q2
      have hs := HF.out t hlt
      rw [HV.out, HST.out] at hs
      have HS := hideIt hs
      clear hs HH HF HST q2 HV
      generalize l[t].price = at1 at *
      have XR := hideIt (HX3.out.keep HR.out)
      obtain ⟨c0, c1, c2, c3, c4⟩ := XR.out.cells
      have kz : w.heap.size < wr.heap.size := XR.out.size
      have HAA := hideIt (HAT.out at1)
      generalize volP L at1 = vv at *
      generalize rstP L at1 = rr at *
      clear HAT
      go_wp2_with fail
      refine (HAA.out _ XR.out.bel).mono ?_
      rintro e w4 ⟨rfl, hb⟩
      dsimp only
      have R5 := hideIt (below_via HR.out hb)
      clear hb HR HAA e0 hblr XR c0 c1 c2 c3 c4 kz
      go_upto_region 12 with fail
      by_cases h0 : p = 0
      · subst h0
        have HS1 : Hid (FT (t + 1) = (at1, vv, rr)) := by
          show _ = _
          rw [HS.out, if_pos (.inl rfl)]
        clear HS
        go_wp2
        go_roundw
        case rel => exact ⟨t + 1, _, _, _, rfl, rfl, rfl, by go_num, by omega, HS1, R5⟩
        case measure => simp [intOf]; omega
      · have h0q : (p == 0) = false := by simpa using h0
        by_cases h1 : q < vv
        · have HS1 : Hid (FT (t + 1) = (at1, vv, rr)) := by
            show _ = _
            rw [HS.out, if_pos (.inr (.inl h1))]
          clear HS
          go_wp2
          go_roundw
          case rel => exact ⟨t + 1, _, _, _, rfl, rfl, rfl, by go_num, by omega, HS1, R5⟩
          case measure => simp [intOf]; omega
        · by_cases h2 : vv = q
          · subst h2
            by_cases h3 : rr < r
            · have HS1 : Hid (FT (t + 1) = (at1, vv, rr)) := by
                show _ = _
                rw [HS.out, if_pos (.inr (.inr (.inl ⟨rfl, h3⟩)))]
              clear HS
              go_wp2
              go_roundw
              case rel => exact ⟨t + 1, _, _, _, rfl, rfl, rfl, by go_num, by omega, HS1, R5⟩
              case measure => simp [intOf]; omega
            · by_cases h4 : rr = r
              · subst h4
                by_cases h5 : at1 < p
                · have HS1 : Hid (FT (t + 1) = (at1, vv, rr)) := by
                    show _ = _
                    rw [HS.out, if_pos (.inr (.inr (.inr ⟨rfl, rfl, h5⟩)))]
                  clear HS
                  go_wp2
                  go_roundw
                  case rel => exact ⟨t + 1, _, _, _, rfl, rfl, rfl, by go_num, by omega, HS1, R5⟩
                  case measure => simp [intOf]; omega
                · have HS1 : Hid (FT (t + 1) = (p, vv, rr)) := by
                    show _ = _
                    rw [HS.out, if_neg (by rintro (h | h | h | h); exact h0 h; exact h1 h; exact h3 h.2; exact h5 h.2.2)]
                  clear HS
                  go_wp2
                  go_roundw
                  case rel => exact ⟨t + 1, _, _, _, rfl, rfl, rfl, by go_num, by omega, HS1, R5⟩
                  case measure => simp [intOf]; omega
              · have h4q : (rr == r) = false := by simpa using h4
                have HS1 : Hid (FT (t + 1) = (p, vv, r)) := by
                  show _ = _
                  rw [HS.out, if_neg (by rintro (h | h | h | h); exact h0 h; exact h1 h; exact h3 h.2; exact h4 h.2.1)]
                clear HS
                go_wp2
                go_roundw
                case rel => exact ⟨t + 1, _, _, _, rfl, rfl, rfl, by go_num, by omega, HS1, R5⟩
                case measure => simp [intOf]; omega
          · have h2q : (vv == q) = false := by simpa using h2
            have HS1 : Hid (FT (t + 1) = (p, q, r)) := by
              show _ = _
              rw [HS.out, if_neg (by rintro (h | h | h | h); exact h0 h; exact h1 h; exact h2 h.1; exact h2 h.1)]
            clear HS
            go_wp2
            go_roundw
            case rel => exact ⟨t + 1, _, _, _, rfl, rfl, rfl, by go_num, by omega, HS1, R5⟩
            case measure => simp [intOf]; omega
    · have hltI : ¬ (t : Int) < (l.length : Int) := by omega
      have het : t = l.length := by omega
      subst het
      have hE := HFE.out
      rw [HV.out] at hE
      have hB := HBI.out
      rw [← hE] at hB
      dsimp only at hB
      have B8 := hideIt (below_via HX3.out.bel HR.out)
      clear HR HH HF HFE hE HV HBI HX3
      by_cases hq : q = 0
      · subst hq
        rw [if_pos rfl] at hB
        have HB := hideIt hB
        clear hB
        go_wp2
        exact bodyPost_ret (v := .tuple #[.int .i64 0, .int .i64 0]) (by simp [results, Try.results42, go_sem]) rfl ⟨by rw [show R.1 = 0 from (congrArg Prod.fst HB.out).symm, show R.2.1 = 0 from (congrArg Prod.snd HB.out).symm], B8.out⟩
      · have hqq : (q == 0) = false := by simpa using hq
        rw [if_neg hq] at hB
        have HB := hideIt hB
        clear hB
        go_wp2
        exact bodyPost_ret (v := .tuple #[.int .i64 p, .int .i64 q]) (by simp [results, Try.results42, go_sem]) rfl ⟨by rw [show R.1 = p from (congrArg Prod.fst HB.out).symm, show R.2.1 = q from (congrArg Prod.snd HB.out).symm], B8.out⟩
end Go.Proofs.Ytgnmghcdfihmgaa
namespace Go.Proofs.Ytgnmghcdfihmgaa
open Go.RowKit Go.Maps
set_option linter.all false
theorem rfE_no {L : LaneV} {c : Bool} (h : chkB L = false) : rfE L c = 130 := by unfold rfE; rw [if_pos h]
theorem rfE_other {L : LaneV} {c : Bool} (h : chkB L = true) (hc : L.call ≠ c) : rfE L c = 140 := by unfold rfE; rw [if_neg (by simp [h]), if_neg hc]
theorem rfE_ok {L : LaneV} {c : Bool} (h : chkB L = true) (hc : L.call = c) : rfE L c = 0 := by unfold rfE; rw [if_neg (by simp [h]), if_pos hc]
set_option maxHeartbeats 4000000 in
set_option maxRecDepth 100000 in
theorem rPrice_is (L : LaneV) (b a o : Value) (w : World) (h : Lan w L b a o) : Calls Try.prog 19 #[laneV L b a o] w fun e w' => e = .returned (.tuple #[.int .i64 (prR L).1, .int .i64 (prR L).2.1, .int .i64 (prR L).2.2]) ∧ Below w.heap.size w w' := by
  have X0 := hideIt (BoxL.first w L b a o)
  have HC := hideIt (rCheck_is L b a o _ (h.keep X0.out.bel))
  have HBE := hideIt (fun hk W (hW : Below w.heap.size w W) => rBest_is L b a o W (h.keep hW) hk)
  obtain ⟨ba, bc, rfl⟩ := h.bids.slice
  obtain ⟨aa, ac, rfl⟩ := h.asks.slice
  obtain ⟨oa, oc, rfl⟩ := h.owed.slice
  clear h
  obtain ⟨c0, c1, c2, c3, c4⟩ := X0.out.cells
  unfold chkI at HC
  cases hk : chkB L with
  | false =>
    have e : prR L = (0, 0, 130) := by unfold prR; rw [rfE_no hk, if_neg (by decide)]
    rw [e]
    rw [hk] at HC
    clear HBE e hk
    unfold laneV laneA at *
    obtain ⟨cl, nx, bids, asks, owed⟩ := L
    simp only at *
    go_enter Try.func19, Try.ntmps19
    go_wp2_with fail
    refine HC.out.mono ?_
    rintro e w1 ⟨rfl, hb⟩
    dsimp only
    have B1 := hideIt (below_via X0.out.bel hb)
    clear hb X0 HC c0 c1 c2 c3 c4
    go_wp2
    exact bodyPost_ret (v := .tuple #[.int .i64 0, .int .i64 0, .int .i64 130]) (by simp [results, Try.results19, go_sem]) rfl ⟨rfl, B1.out⟩
  | true =>
    rw [hk] at HC
    cases hc : L.call with
    | false =>
      have e : prR L = (0, 0, 140) := by unfold prR; rw [rfE_other hk (by rw [hc]; decide), if_neg (by decide)]
      rw [e]
      clear HBE e hk
      unfold laneV laneA at *
      obtain ⟨cl, nx, bids, asks, owed⟩ := L
      simp only at *
      subst hc
      go_enter Try.func19, Try.ntmps19
      go_wp2_with fail
      refine HC.out.mono ?_
      rintro e w1 ⟨rfl, hb⟩
      dsimp only
      have X1 := hideIt (X0.out.keep hb)
      clear hb X0 HC c0 c1 c2 c3 c4
      obtain ⟨c0, c1, c2, c3, c4⟩ := X1.out.cells
      simp only at c0 c1 c2 c3 c4
      have kz : w.heap.size < w1.heap.size := X1.out.size
      go_wp2
      exact bodyPost_ret (v := .tuple #[.int .i64 0, .int .i64 0, .int .i64 140]) (by simp [results, Try.results19, go_sem]) rfl ⟨rfl, X1.out.bel⟩
    | true =>
      have e : prR L = ((clL L).1, (clL L).2.1, 0) := by unfold prR; rw [if_pos (rfE_ok hk hc)]
      rw [e]
      have HB := hideIt (HBE.out hk)
      clear e hk HBE
      generalize clL L = R at *
      unfold laneV laneA at *
      obtain ⟨cl, nx, bids, asks, owed⟩ := L
      simp only at *
      subst hc
      go_enter Try.func19, Try.ntmps19
      go_wp2_with fail
      refine HC.out.mono ?_
      rintro e w1 ⟨rfl, hb⟩
      dsimp only
      have X1 := hideIt (X0.out.keep hb)
      clear hb X0 HC c0 c1 c2 c3 c4
      obtain ⟨c0, c1, c2, c3, c4⟩ := X1.out.cells
      simp only at c0 c1 c2 c3 c4
      have kz : w.heap.size < w1.heap.size := X1.out.size
      go_wp2_with fail
      refine (HB.out _ X1.out.bel).mono ?_
      rintro e w2 ⟨rfl, hb⟩
      dsimp only
      have B2 := hideIt (below_via X1.out.bel hb)
      clear hb X1 HB c0 c1 c2 c3 c4 kz
      go_wp2
      exact bodyPost_ret (v := .tuple #[.int .i64 R.1, .int .i64 R.2.1, .int .i64 0]) (by simp [results, Try.results19, go_sem]) rfl ⟨rfl, B2.out⟩
set_option maxHeartbeats 16000000 in
set_option maxRecDepth 100000 in
theorem rCall_is (L : LaneV) (b a o : Value) (w : World) (h : Lan w L b a o) : Calls Try.prog 18 #[laneV L b a o] w (CaB (calR L) w) := by
  have X0 := hideIt (CB.first w L b a o)
  have HC := hideIt (rCheck_is L b a o _ (h.keep X0.out.bel))
  have HCO := hideIt (fun W (hW : Below w.heap.size w W) => rCopy_is L b a o W (h.keep hW))
  obtain ⟨ba, bc, rfl⟩ := h.bids.slice
  obtain ⟨aa, ac, rfl⟩ := h.asks.slice
  obtain ⟨oa, oc, rfl⟩ := h.owed.slice
  clear h
  unfold chkI at HC
  cases hk : chkB L with
  | false =>
    have HR : Hid (calR L = (zLn, 130)) := by show _ = _; unfold calR; rw [rfE_no hk, if_neg (by decide)]
    rw [hk] at HC
    generalize calR L = RX at *
    clear HCO hk
    unfold laneV laneA at *
    obtain ⟨cl, nx, bids, asks, owed⟩ := L
    simp only at *
    go_enter Try.func18, Try.ntmps18
    go_wp2_with fail
    refine HC.out.mono ?_
    rintro e w1 ⟨rfl, hb⟩
    dsimp only
    have X1 := hideIt (X0.out.keep hb)
    clear hb X0 HC
    obtain ⟨⟨r0, r1, r2, r3, r4⟩, rf, rl⟩ := five5_at X1.out.res
    obtain ⟨x0, x1, x2, x3, x4⟩ := X1.out.cells
    simp only at x0
    have xz : w.heap.size < w1.heap.size := by have := X1.out.size; omega
    have HP := hideIt (X1.out.put (.bool false) (.int .i64 0) (.slice none 0 0) (.slice none 0 0) (.slice none 0 0))
    go_wp2
    revert HP
    generalize (World.setCell _ ⟨w.heap.size + 1, 4, none⟩ _) = W
    intro HP
    exact bodyPost_ret (v := .tuple #[laneV zLn (.slice none 0 0) (.slice none 0 0) (.slice none 0 0), .int .i64 130]) (by simp [results, Try.results18, go_sem, cell_at HP.out.1, laneV, laneA, zLn]) rfl (by unfold CaB; rw [HR.out]; exact ⟨_, _, _, rfl, own_nil _ _, own_nil _ _, own_nil _ _, HP.out.2⟩)
  | true =>
    rw [hk] at HC
    cases hc : L.call with
    | true =>
      have HR : Hid (calR L = (zLn, 140)) := by show _ = _; unfold calR; rw [rfE_other hk (by rw [hc]; decide), if_neg (by decide)]
      generalize calR L = RX at *
      clear HCO hk
      unfold laneV laneA at *
      obtain ⟨cl, nx, bids, asks, owed⟩ := L
      simp only at *
      subst hc
      go_enter Try.func18, Try.ntmps18
      go_wp2_with fail
      refine HC.out.mono ?_
      rintro e w1 ⟨rfl, hb⟩
      dsimp only
      have X1 := hideIt (X0.out.keep hb)
      clear hb X0 HC
      obtain ⟨⟨r0, r1, r2, r3, r4⟩, rf, rl⟩ := five5_at X1.out.res
      obtain ⟨x0, x1, x2, x3, x4⟩ := X1.out.cells
      simp only at x0
      have xz : w.heap.size < w1.heap.size := by have := X1.out.size; omega
      have HP := hideIt (X1.out.put (.bool false) (.int .i64 0) (.slice none 0 0) (.slice none 0 0) (.slice none 0 0))
      go_wp2
      revert HP
      generalize (World.setCell _ ⟨w.heap.size + 1, 4, none⟩ _) = W
      intro HP
      exact bodyPost_ret (v := .tuple #[laneV zLn (.slice none 0 0) (.slice none 0 0) (.slice none 0 0), .int .i64 140]) (by simp [results, Try.results18, go_sem, cell_at HP.out.1, laneV, laneA, zLn]) rfl (by unfold CaB; rw [HR.out]; exact ⟨_, _, _, rfl, own_nil _ _, own_nil _ _, own_nil _ _, HP.out.2⟩)
    | false =>
      have HR : Hid (calR L = (⟨true, L.next, L.bids, L.asks, L.owed⟩, 0)) := by show _ = _; unfold calR; rw [if_pos (rfE_ok hk hc)]
      generalize calR L = RX at *
      clear hk
      unfold LaneBack at HCO
      unfold laneV laneA at *
      obtain ⟨cl, nx, bids, asks, owed⟩ := L
      simp only at *
      subst hc
      go_enter Try.func18, Try.ntmps18
      go_wp2_with fail
      refine HC.out.mono ?_
      rintro e w1 ⟨rfl, hb⟩
      dsimp only
      have X1 := hideIt (X0.out.keep hb)
      clear hb X0 HC
      obtain ⟨x0, x1, x2, x3, x4⟩ := X1.out.cells
      simp only at x0 x1 x2 x3 x4
      have xz : w.heap.size < w1.heap.size := by have := X1.out.size; omega
      go_wp2_with fail
      refine (HCO.out _ X1.out.bel).mono ?_
      rintro e w2 ⟨bv, av, ov, rfl, rb, ra, ro, -, hb⟩
      dsimp only
      have hb3 := below1 w2 (.cells #[.bool false, .int .i64 nx, bv, av, ov] 25)
      have X3 := hideIt (X1.out.keep (below_via hb hb3))
      have hs1 := X1.out.size
      have RB := hideIt (own_keep rb hb3)
      have RA := hideIt (own_keep ra hb3)
      have RO := hideIt (own_keep ro hb3)
      have K3 := hideIt (heap_alloc_new w2 (.cells #[.bool false, .int .i64 nx, bv, av, ov] 25))
      have hk3 : w.heap.size + 2 ≤ w2.heap.size := Nat.le_trans hs1 hb.size
      obtain ⟨xb, xbc, rfl⟩ := own_len rb
      obtain ⟨xa, xac, rfl⟩ := own_len ra
      obtain ⟨xo, xoc, rfl⟩ := own_len ro
      clear rb ra ro hb hb3 X1 HCO x0 x1 x2 x3 x4 xz
      go_upto_region 6 with fail
      generalize w2.alloc (.cells #[.bool false, .int .i64 nx, .slice xb bids.length xbc, .slice xa asks.length xac, .slice xo owed.length xoc] 25) = W3 at *
      generalize w2.heap.size = k3 at *
      have K4 := hideIt (heap_set K3.out 0 (.bool true))
      have nk : w.heap.size + 1 ≠ k3 := by omega
      have X4 : Hid (CB w ⟨false, nx, bids, asks, owed⟩ (.slice ba bids.length bc) (.slice aa asks.length ac) (.slice oa owed.length oc) (W3.setCell ⟨k3, 0, none⟩ (.bool true))) := ⟨setOther _ X3.out.box (by omega), setOther _ X3.out.res nk, belowSet _ X3.out.bel (by omega), by simpa using X3.out.size⟩
      have RB4 := hideIt (own_cell (j := 0) (u := .bool true) RB.out K3.out (by decide))
      have RA4 := hideIt (own_cell (j := 0) (u := .bool true) RA.out K3.out (by decide))
      have RO4 := hideIt (own_cell (j := 0) (u := .bool true) RO.out K3.out (by decide))
      obtain ⟨⟨d0, d1, d2, d3, d4⟩, df, dz⟩ := five5_at K3.out
      clear X3 RB RA RO
      go_upto_region 7 with fail
      clear d0 d1 d2 d3 d4 df dz
      generalize W3.setCell ⟨k3, 0, none⟩ (.bool true) = W4 at *
      clear K3
      obtain ⟨⟨d0, d1, d2, d3, d4⟩, df, dz⟩ := five5_at K4.out
      obtain ⟨⟨r0, r1, r2, r3, r4⟩, rf, rl⟩ := five5_at X4.out.res
      have HPT := hideIt (X4.out.put (.bool true) (.int .i64 nx) (.slice xb bids.length xbc) (.slice xa asks.length xac) (.slice xo owed.length xoc))
      have HRW := hideIt (And.intro (own_five RB4.out X4.out.res (by decide) (.bool true) (.int .i64 nx) (.slice xb bids.length xbc) (.slice xa asks.length xac) (.slice xo owed.length xoc)) (And.intro (own_five RA4.out X4.out.res (by decide) (.bool true) (.int .i64 nx) (.slice xb bids.length xbc) (.slice xa asks.length xac) (.slice xo owed.length xoc)) (own_five RO4.out X4.out.res (by decide) (.bool true) (.int .i64 nx) (.slice xb bids.length xbc) (.slice xa asks.length xac) (.slice xo owed.length xoc))))
      clear RB4 RA4 RO4 X4 K4
      go_wp2
      revert HPT HRW
      generalize (World.setCell _ ⟨w.heap.size + 1, 4, none⟩ _) = WF
      intro HPT HRW
      exact bodyPost_ret (v := .tuple #[.agg #[.bool true, .int .i64 nx, .slice xb bids.length xbc, .slice xa asks.length xac, .slice xo owed.length xoc], .int .i64 0]) (by simp [results, Try.results18, go_sem, cell_at HPT.out.1, laneA]) rfl (by unfold CaB; rw [HR.out]; exact ⟨_, _, _, rfl, own_base HRW.out.1 (by omega), own_base HRW.out.2.1 (by omega), own_base HRW.out.2.2 (by omega), HPT.out.2⟩)
end Go.Proofs.Ytgnmghcdfihmgaa
namespace Go.Proofs.Ytgnmghcdfihmgaa
open Go.RowKit Go.Maps
set_option linter.all false
structure UX (w : World) (K : Nat) (L : LaneV) (b a o : Value) (B A : List OrdV) (ow : List OweV) (F : List FillV) (bv av ov u : Value) (W : World) : Prop where
  cb : CB w L b a o W
  out : W.heap[K]? = some (.cells #[.bool false, .int .i64 L.next, bv, av, ov] 25 (0, 0))
  rb : W.ownsRow (w.heap.size + 2) 38 4 bv B.length (celC ordE B)
  ra : W.ownsRow (w.heap.size + 2) 38 4 av A.length (celC ordE A)
  ro : W.ownsRow (w.heap.size + 2) 48 3 ov ow.length (celC oweE ow)
  ru : W.ownsRow (w.heap.size + 2) 41 4 u F.length (celC filE F)
  lt : w.heap.size + 2 ≤ K
theorem UX.keep {w W W' : World} {K : Nat} {L : LaneV} {b a o bv av ov u : Value} {B A : List OrdV} {ow : List OweV} {F : List FillV} (h : UX w K L b a o B A ow F bv av ov u W) (hb : Below W.heap.size W W') : UX w K L b a o B A ow F bv av ov u W' :=
  ⟨h.cb.keep hb, blkK h.out hb, own_keep h.rb hb, own_keep h.ra hb, own_keep h.ro hb, own_keep h.ru hb, h.lt⟩
theorem UX.cset {w W : World} {K : Nat} {L : LaneV} {b a o bv av ov u : Value} {B A : List OrdV} {ow : List OweV} {F : List FillV} (h : UX w K L b a o B A ow F bv av ov u W) (j : Nat) (v : Value) : CB w L b a o (W.setCell ⟨K, j, none⟩ v) :=
  ⟨setOther _ h.cb.box (by have := h.lt; omega), setOther _ h.cb.res (by have := h.lt; omega), belowSet _ h.cb.bel (by have := h.lt; omega), by simpa using h.cb.size⟩
theorem UX.setB {w W : World} {K : Nat} {L : LaneV} {b a o bv av ov u v : Value} {B A B' : List OrdV} {ow : List OweV} {F : List FillV} (h : UX w K L b a o B A ow F bv av ov u W) (hr : W.ownsRow (w.heap.size + 2) 38 4 v B'.length (celC ordE B')) : UX w K L b a o B' A ow F v av ov u (W.setCell ⟨K, 2, none⟩ v) :=
  ⟨h.cset 2 v, heap_set h.out 2 v, own_cell hr h.out (by decide), own_cell h.ra h.out (by decide), own_cell h.ro h.out (by decide), own_cell h.ru h.out (by decide), h.lt⟩
theorem UX.setA {w W : World} {K : Nat} {L : LaneV} {b a o bv av ov u v : Value} {B A A' : List OrdV} {ow : List OweV} {F : List FillV} (h : UX w K L b a o B A ow F bv av ov u W) (hr : W.ownsRow (w.heap.size + 2) 38 4 v A'.length (celC ordE A')) : UX w K L b a o B A' ow F bv v ov u (W.setCell ⟨K, 3, none⟩ v) :=
  ⟨h.cset 3 v, heap_set h.out 3 v, own_cell h.rb h.out (by decide), own_cell hr h.out (by decide), own_cell h.ro h.out (by decide), own_cell h.ru h.out (by decide), h.lt⟩
theorem UX.setO {w W : World} {K : Nat} {L : LaneV} {b a o bv av ov u v : Value} {B A : List OrdV} {ow ow' : List OweV} {F : List FillV} (h : UX w K L b a o B A ow F bv av ov u W) (hr : W.ownsRow (w.heap.size + 2) 48 3 v ow'.length (celC oweE ow')) : UX w K L b a o B A ow' F bv av v u (W.setCell ⟨K, 4, none⟩ v) :=
  ⟨h.cset 4 v, heap_set h.out 4 v, own_cell h.rb h.out (by decide), own_cell h.ra h.out (by decide), own_cell hr h.out (by decide), own_cell h.ru h.out (by decide), h.lt⟩
theorem UX.app {w W : World} {K : Nat} {L : LaneV} {b a o bv av ov u : Value} {B A : List OrdV} {ow : List OweV} {F : List FillV} (h : UX w K L b a o B A ow F bv av ov u W) (z : FillV) (hl : F.length ≤ 1000) : ∃ a' c' w', (Builtin.append_ #[30, 30] 30 #[u, .slice (some ⟨W.heap.size, 0, none⟩) 1 1]).run Try.prog (W.alloc (.cells (filE z).toArray 41)) = .ok (.slice a' (F.length + 1) c') w' ∧ UX w K L b a o B A ow (F ++ [z]) bv av ov (.slice a' (F.length + 1) c') w' := by
  have h1 := h.keep (below1 W (.cells (filE z).toArray 41))
  have hO := h1.ru
  have hs : w.heap.size + 2 ≤ (W.alloc (.cells (filE z).toArray 41)).heap.size := h1.cb.size
  obtain ⟨v', w', hrun, how, hgr⟩ := app1 (enc := filE) (t := 30) filK fil1 Try.underlying30 info39 rfl (by omega) (W.alloc (.cells (filE z).toArray 41)) (w.heap.size + 2) u F z W.heap.size 1 hs hO (heap_alloc_new W _) (by omega) (by unfold maxLen; omega)
  obtain ⟨a', c', rfl⟩ := own_len how
  have hlen : (F ++ [z]).length = F.length + 1 := by simp
  rw [hlen] at hrun how
  have hpn : ∀ {k : Nat} {cs : Array Value} {t : TypeId}, (W.alloc (.cells (filE z).toArray 41)).heap[k]? = some (.cells cs t (0, 0)) → t ≠ 41 → w'.heap[k]? = some (.cells cs t (0, 0)) := fun {k cs t} hk ht => by
    refine (hgr.block _ (Array.getElem?_eq_some_iff.1 hk).1 (fun e => ?_)).trans hk
    obtain ⟨h0, hq | ⟨g, cap, cur, hv, _, hg, _⟩⟩ := hO
    · rw [hq.1] at e
      cases e
    · rw [hv] at e
      simp only [Value.ownBlock, Option.some.injEq] at e
      subst e
      rw [hg] at hk
      simp at hk
      exact ht hk.2.symm
  have hO2 := Out.ofGrown (F := fun k => w.heap.size + 2 ≤ k) hgr (fun k e => (hO.lt k e).1)
  exact ⟨a', c', w', hrun, ⟨⟨hpn h1.cb.box (by decide), hpn h1.cb.res (by decide), below_out h1.cb.bel hO2 (fun k e => by omega), Nat.le_trans hs hgr.size⟩, hpn h1.out (by decide), own_type hgr hO h1.rb (by decide), own_type hgr hO h1.ra (by decide), own_type hgr hO h1.ro (by decide), by rw [hlen]; exact how, h.lt⟩⟩
end Go.Proofs.Ytgnmghcdfihmgaa
namespace Go.Proofs.Ytgnmghcdfihmgaa
open Go.RowKit Go.Maps
set_option linter.all false
theorem row_head {W : World} {B : Nat} {v : Value} {x : OrdV} {rs : List OrdV} (h : W.ownsRow B 38 4 v (x :: rs).length (celC ordE (x :: rs))) (hl : rs.length + 1 ≤ 40) : ∃ g off n c, v = .slice (some ⟨g, off, none⟩) n c ∧ 0 < n ∧ g < W.heap.size ∧ W.cell? ⟨g, off, none⟩ = some (.int .i64 x.id) ∧ W.cell? ⟨g, off + 1, none⟩ = some (.int .i64 x.acc) ∧ W.cell? ⟨g, off + 2, none⟩ = some (.int .i64 x.price) ∧ W.cell? ⟨g, off + 3, none⟩ = some (.int .i64 x.left) := by
  have hs : Ords W v (x :: rs) := own_sgot h (by simp; omega)
  obtain ⟨a, c, rfl, -, hr⟩ := hs.ords
  obtain ⟨g, off, rfl, hg, q0, q1, q2, q3⟩ := hr 0 (by simp)
  simp only [List.getElem_cons_zero, Nat.zero_mul, Nat.add_zero] at q0 q1 q2 q3
  exact ⟨g, off, _, c, rfl, by simp, hg, q0, q1, q2, q3⟩
set_option maxHeartbeats 16000000 in
set_option maxRecDepth 100000 in
theorem rUncross_is (L : LaneV) (b a o : Value) (w : World) (h : Lan w L b a o) : Calls Try.prog 20 #[laneV L b a o] w (UnB (uncR L) w) := by
  have X0 := hideIt (CB.first w L b a o)
  have HC := hideIt (rPrice_is L b a o _ (h.keep X0.out.bel))
  have HCO := hideIt (fun W (hW : Below w.heap.size w W) => rCopy_is L b a o W (h.keep hW))
  obtain ⟨ba, bc, rfl⟩ := h.bids.slice
  obtain ⟨aa, ac, rfl⟩ := h.asks.slice
  obtain ⟨oa, oc, rfl⟩ := h.owed.slice
  clear h
  by_cases h0 : rfE L true = 0
  · have hk := (rf_chk h0).1
    have e : prR L = ((clL L).1, (clL L).2.1, 0) := by unfold prR; rw [if_pos h0]
    rw [e] at HC
    have HS0 := hideIt (us_start hk)
    have hp := (cl_start hk).2
    obtain ⟨R, hR⟩ : ∃ R, R = trdC (clL L).1 80 L.bids L.asks (clL L).2.1 (clsOf L.owed) [] := ⟨_, rfl⟩
    rw [← hR] at HS0
    have HU1 : Hid (ovrC R.2.2.1 → uncR L = (zLn, [], 131)) := fun ho => by
      unfold uncR
      rw [if_pos h0, ← hR, if_pos ((ovrD_iff _).2 ho)]
    have HU2 : Hid (¬ ovrC R.2.2.1 → uncR L = (⟨false, L.next, R.1, R.2.1, lstK R.2.2.1 8⟩, R.2.2.2, 0)) := fun ho => by
      unfold uncR
      rw [if_pos h0, ← hR, if_neg (fun c => ho ((ovrD_iff _).1 c))]
    clear hR h0 e hk
    generalize uncR L = RX at *
    generalize (clL L).1 = p at *
    generalize (clL L).2.1 = V0 at *
    unfold LaneBack at HCO
    unfold laneV laneA at *
    obtain ⟨cl, nx, bids, asks, owed⟩ := L
    simp only at *
    go_enter Try.func20, Try.ntmps20
    go_wp2_with fail
    refine HC.out.mono ?_
    rintro e w1 ⟨rfl, hb⟩
    dsimp only
    have X1 := hideIt (X0.out.keep hb)
    clear hb X0 HC
    obtain ⟨x0, x1, x2, x3, x4⟩ := X1.out.cells
    simp only at x0 x1 x2 x3 x4
    have xz : w.heap.size < w1.heap.size := by have := X1.out.size; omega
    go_wp2_with fail
    refine (HCO.out _ X1.out.bel).mono ?_
    rintro e w2 ⟨bv, av, ov, rfl, rb, ra, ro, -, hb⟩
    dsimp only
    have hb3 := below1 w2 (.cells #[.bool false, .int .i64 nx, bv, av, ov] 25)
    have hs1 := X1.out.size
    have UX3 : Hid (UX w w2.heap.size ⟨cl, nx, bids, asks, owed⟩ (.slice ba bids.length bc) (.slice aa asks.length ac) (.slice oa owed.length oc) bids asks owed [] bv av ov (.slice none 0 0) (w2.alloc (.cells #[.bool false, .int .i64 nx, bv, av, ov] 25))) := ⟨X1.out.keep (below_via hb hb3), heap_alloc_new w2 _, own_keep (own_base rb hs1) hb3, own_keep (own_base ra hs1) hb3, own_keep (own_base ro hs1) hb3, own_nil _ _, Nat.le_trans hs1 hb.size⟩
    obtain ⟨xb, xbc, rfl⟩ := own_len rb
    obtain ⟨xa, xac, rfl⟩ := own_len ra
    obtain ⟨xo, xoc, rfl⟩ := own_len ro
    clear rb ra ro hb hb3 X1 HCO x0 x1 x2 x3 x4 xz hs1
    go_upto_region 7 with fail
    generalize w2.alloc (.cells #[.bool false, .int .i64 nx, .slice xb bids.length xbc, .slice xa asks.length xac, .slice xo owed.length xoc] 25) = W3 at *
    generalize w2.heap.size = K at *
    go_loopw [6, 9] (fun u6 u9 wr => ∃ (B A : List OrdV) (V : Int) (F : List FillV) (ow : List OweV) (bv av ov : Value), u6 = .int .i64 V ∧ Hid (US p R B A V F ow) ∧ Hid (UX w K ⟨cl, nx, bids, asks, owed⟩ (.slice ba bids.length bc) (.slice aa asks.length ac) (.slice oa owed.length oc) B A ow F bv av ov u9 wr)) (fun u6 _ _ => (RowKit.intOf u6).toNat)
    case atStart => exact ⟨_, _, _, _, _, _, _, _, rfl, HS0, UX3⟩
    case round =>
      clear UX3 HS0
      obtain ⟨B, A, V, F, ow, bv, av, ov, rfl, HS, HX⟩ := hrel
      by_cases hV : 0 < V
      · obtain ⟨x, bs, y, ys, rfl, rfl, hx, hy, hxl, hyl, hxa, hya, hnV, hbl, hal⟩ := HS.out.heads hV hp
        have HD := hideIt (HS.out.deal hV hp hx.1 hy)
        have HST := hideIt (HS.out.step hV hp hx.1 hy)
        have HOV := hideIt (HS.out.over hV hp hx.1 hy)
        have HGO := hideIt HS.out.go
        have hFl : F.length ≤ 80 := by have := HS.out.len; omega
        obtain ⟨g1, o1, n1, d1, hbv, hn1, hg1, q0, q1, q2, q3⟩ := row_head HX.out.rb hbl
        obtain ⟨g2, o2, n2, d2, hav, hn2, hg2, r0, r1, r2, r3⟩ := row_head HX.out.ra hal
        have HBV := hideIt hbv
        have HAV := hideIt hav
        clear hbv hav HS
        obtain ⟨xi, xa, xp, xl⟩ := x
        obtain ⟨yi, ya, yp, yl⟩ := y
        simp only at q0 q1 q2 q3 r0 r1 r2 r3 hx hy hxl hyl hxa hya hnV HD HST HOV
        obtain ⟨n, hn⟩ : ∃ n, n = min xl yl := ⟨_, rfl⟩
        rw [← hn] at HD HST HOV hnV
        have hn0 : 1 ≤ n ∧ n ≤ 1000000 ∧ n ≤ xl ∧ n ≤ yl := by omega
        have HN := hideIt hn
        clear hn
        have hi1 : (0 : Int) < (n1 : Int) := by omega
        have hi2 : (0 : Int) < (n2 : Int) := by omega
        obtain ⟨⟨c0, c1, c2, c3, c4⟩, cf, cz⟩ := five5_at HX.out.out
        try rw [HBV.out] at c2
        try rw [HAV.out] at c3
        have hb1 := below1 wr (.cells #[.int .i64 xi, .int .i64 xa, .int .i64 xp, .int .i64 xl] 38)
        have X1 := hideIt (HX.out.keep hb1)
        have K1 := hideIt (heap_alloc_new wr (.cells #[.int .i64 xi, .int .i64 xa, .int .i64 xp, .int .i64 xl] 38))
        have s0 := (hb1.cell (p := ⟨g2, o2, none⟩) hg2).trans r0
        have s1 := (hb1.cell (p := ⟨g2, o2 + 1, none⟩) hg2).trans r1
        have s2 := (hb1.cell (p := ⟨g2, o2 + 2, none⟩) hg2).trans r2
        have s3 := (hb1.cell (p := ⟨g2, o2 + 3, none⟩) hg2).trans r3
        have hg3 := Nat.lt_of_lt_of_le hg2 hb1.size
        clear hb1 r0 r1 r2 r3 HX
        go_upto_region 9 with fail
        clear c0 c1 c2 c3 c4 cf cz
        clear q0 q1 q2 q3 hg1
        generalize wr.alloc (.cells #[.int .i64 xi, .int .i64 xa, .int .i64 xp, .int .i64 xl] 38) = W1 at *
        generalize wr.heap.size = KB at *
        obtain ⟨⟨c0, c1, c2, c3, c4⟩, cf, cz⟩ := five5_at X1.out.out
        try rw [HBV.out] at c2
        try rw [HAV.out] at c3
        have hb2 := below1 W1 (.cells #[.int .i64 yi, .int .i64 ya, .int .i64 yp, .int .i64 yl] 38)
        have X2 := hideIt (X1.out.keep hb2)
        have K2 := hideIt (blkK K1.out hb2)
        have J2 := hideIt (heap_alloc_new W1 (.cells #[.int .i64 yi, .int .i64 ya, .int .i64 yp, .int .i64 yl] 38))
        clear hb2 X1 K1
        go_upto_region 10 with fail
        clear c0 c1 c2 c3 c4 cf cz
        clear s0 s1 s2 s3 hg3
        generalize W1.alloc (.cells #[.int .i64 yi, .int .i64 ya, .int .i64 yp, .int .i64 yl] 38) = W2 at *
        generalize W1.heap.size = KA at *
        obtain ⟨⟨k0, k1, k2, k3⟩, kf, kz⟩ := four5_at K2.out
        obtain ⟨⟨j0, j1, j2, j3⟩, jf, jz⟩ := four5_at J2.out
        go_upto_region 11 with fail
        have hmn : (if V < if yl < xl then yl else xl then V else if yl < xl then yl else xl) = n := by
          have := HN.out
          split <;> split at * <;> omega
        rw [hmn]
        clear hmn
        have hb3 := below1 W2 (.cells #[.int .i64 xa, .int .i64 ya, .int .i64 p, .int .i64 n] 41)
        have X3 := hideIt (X2.out.keep hb3)
        have K3 := hideIt (blkK K2.out hb3)
        have J3 := hideIt (heap_alloc_new W2 (.cells #[.int .i64 xa, .int .i64 ya, .int .i64 p, .int .i64 n] 41))
        clear hb3 X2 K2
        go_upto_region 12 with fail
        clear k0 k1 k2 k3 kf kz j0 j1 j2 j3 jf jz J2
        generalize W2.alloc (.cells #[.int .i64 xa, .int .i64 ya, .int .i64 p, .int .i64 n] 41) = W3a at *
        generalize W2.heap.size = KF at *
        obtain ⟨⟨c0, c1, c2, c3, c4⟩, cf, cz⟩ := five5_at X3.out.out
        try rw [HBV.out] at c2
        try rw [HAV.out] at c3
        obtain ⟨⟨k0, k1, k2, k3⟩, kf, kz⟩ := four5_at K3.out
        obtain ⟨⟨j0, j1, j2, j3⟩, jf, jz⟩ := four5_at J3.out
        have hwx : IntKind.i64.wrap (xp - p) = xp - p := by rw [IntKind.wrap_i64]; omega
        have HDL := hideIt (rDeal_is (c := 3 * F.length) ov ow ⟨xa, ya, p, n⟩ (xp - p) W3a (own_sgot X3.out.ro (by have := HGO.out.few.1; omega)) HGO.out (by omega) ⟨hxa, hya, by dsimp only; omega, by dsimp only; omega⟩ (by omega))
        rw [HD.out] at HDL
        unfold OweBack at HDL
        obtain ⟨ow', hw'⟩ : ∃ ow', ow' = stlO ow xa xp ya p n := ⟨_, rfl⟩
        rw [← hw'] at HDL HST HOV
        clear hw' HD HGO
        simp only [filE] at HDL
        go_wp2_with fail
        refine HDL.out.mono ?_
        rintro e w4 ⟨da, dc, rfl, hro, hb⟩
        dsimp only
        have X4 := hideIt (X3.out.keep hb)
        have J4 := hideIt (blkK J3.out hb)
        have RO4 := hideIt (own_base hro X3.out.cb.size)
        clear hro hb HDL X3 K3 J3 k0 k1 k2 k3 kf kz j0 j1 j2 j3 jf jz
        clear c0 c1 c2 c3 c4 cf cz
        cases hov : overB ow' with
        | true =>
          have HR : Hid (RX = (zLn, [], 131)) := HU1.out (HOV.out hov)
          clear HU1 HU2 HOV HST
          obtain ⟨⟨r0, r1, r2, r3, r4⟩, rf, rl⟩ := five5_at X4.out.cb.res
          have HP := hideIt (X4.out.cb.put (.bool false) (.int .i64 0) (.slice none 0 0) (.slice none 0 0) (.slice none 0 0))
          go_wp2
          revert HP
          generalize (World.setCell _ ⟨w.heap.size + 1, 4, none⟩ _) = WZ
          intro HP
          exact bodyPost_ret (v := .tuple #[laneV zLn (.slice none 0 0) (.slice none 0 0) (.slice none 0 0), .slice none 0 0, .int .i64 131]) (by simp [results, Try.results20, go_sem, cell_at HP.out.1, laneV, laneA, zLn]) rfl (by unfold UnB; rw [HR.out]; exact ⟨_, _, _, _, rfl, own_nil _ _, own_nil _ _, own_nil _ _, own_nil _ _, HP.out.2⟩)
        | false =>
          have HS5 := hideIt (HST.out hov)
          clear HOV HST hov
          have X5 := hideIt (X4.out.setO RO4.out)
          have J5 : Hid ((w4.setCell ⟨K, 4, none⟩ (.slice da ow'.length dc)).heap[KF]? = some (.cells #[.int .i64 xa, .int .i64 ya, .int .i64 p, .int .i64 n] 41 (0, 0))) := setOther _ J4.out (ty_ne J4.out X4.out.out (by decide))
          obtain ⟨⟨c0, c1, c2, c3, c4⟩, cf, cz⟩ := five5_at X4.out.out
          try rw [HBV.out] at c2
          try rw [HAV.out] at c3
          clear X4 J4 RO4
          go_upto_region 16 with fail
          clear c0 c1 c2 c3 c4 cf cz
          generalize w4.setCell ⟨K, 4, none⟩ (.slice da ow'.length dc) = W5 at *
          obtain ⟨⟨j0, j1, j2, j3⟩, jf, jz⟩ := four5_at J5.out
          obtain ⟨fa, fc, w6, hrun, hX6⟩ := X5.out.app ⟨xa, ya, p, n⟩ (by omega)
          have HRUN := hideIt hrun
          simp only [filE] at HRUN
          have X6 := hideIt hX6
          clear hrun hX6 X5 J5
          go_upto_region 17 with (at_builtin; refine Lib.wpList_append_run _ rfl _ _ _ _ rfl _ _ rfl rfl _ _ HRUN.out ?_)
          clear HRUN j0 j1 j2 j3 jf jz
          obtain ⟨⟨c0, c1, c2, c3, c4⟩, cf, cz⟩ := five5_at X6.out.out
          try rw [HBV.out] at c2
          try rw [HAV.out] at c3
          have HT6 := hideIt (took_is bv ⟨xi, xa, xp, xl⟩ bs n w6 _ X6.out.cb.size X6.out.rb hbl ⟨by omega, by dsimp only; omega⟩ (by dsimp only; omega))
          rw [HBV.out] at HT6
          unfold TokB at HT6
          go_wp2_with fail
          refine HT6.out.mono ?_
          rintro e w7 ⟨ta, tc, rfl, hrb, hb⟩
          dsimp only
          have X7 := hideIt (X6.out.keep hb)
          have X8 := hideIt (X7.out.setB (own_base hrb X6.out.cb.size))
          clear hrb hb X6 HT6 HBV
          clear c0 c1 c2 c3 c4 cf cz
          obtain ⟨⟨c0, c1, c2, c3, c4⟩, cf, cz⟩ := five5_at X7.out.out
          try rw [HBV.out] at c2
          try rw [HAV.out] at c3
          clear X7
          generalize (takO n (⟨xi, xa, xp, xl⟩ :: bs)) = B8 at *
          go_upto_region 18 with fail
          clear c0 c1 c2 c3 c4 cf cz
          generalize w7.setCell ⟨K, 2, none⟩ (.slice ta B8.length tc) = W8 at *
          obtain ⟨⟨c0, c1, c2, c3, c4⟩, cf, cz⟩ := five5_at X8.out.out
          try rw [HBV.out] at c2
          try rw [HAV.out] at c3
          have HT8 := hideIt (took_is av ⟨yi, ya, yp, yl⟩ ys n W8 _ X8.out.cb.size X8.out.ra hal ⟨by omega, by dsimp only; omega⟩ (by dsimp only; omega))
          rw [HAV.out] at HT8
          unfold TokB at HT8
          go_wp2_with fail
          refine HT8.out.mono ?_
          rintro e w9 ⟨sa, sc, rfl, hra, hb⟩
          dsimp only
          have X9 := hideIt (X8.out.keep hb)
          have X10 := hideIt (X9.out.setA (own_base hra X8.out.cb.size))
          clear hra hb X8 HT8 HAV
          clear c0 c1 c2 c3 c4 cf cz
          obtain ⟨⟨c0, c1, c2, c3, c4⟩, cf, cz⟩ := five5_at X9.out.out
          try rw [HBV.out] at c2
          try rw [HAV.out] at c3
          clear X9
          generalize (takO n (⟨yi, ya, yp, yl⟩ :: ys)) = A8 at *
          have hwv : IntKind.i64.wrap (V - n) = V - n := by rw [IntKind.wrap_i64]; omega
          go_upto_region 19 with fail
          clear c0 c1 c2 c3 c4 cf cz
          generalize w9.setCell ⟨K, 3, none⟩ (.slice sa A8.length sc) = W10 at *
          go_wp2
          go_roundw
          case rel => exact ⟨_, _, _, _, _, _, _, _, rfl, HS5, X10⟩
          case measure => simp [RowKit.intOf]; omega
      · obtain ⟨f1, f2, f3, f4, f5⟩ := HS.out.fin hV
        have HR : Hid (RX = (⟨false, nx, B, A, ow⟩, F, 0)) := by
          show _ = _
          rw [HU2.out f5, f1, f2, f3, f4]
        clear f1 f2 f3 f4 f5 HU1 HU2 HS
        obtain ⟨b1, e1, rfl⟩ := own_len HX.out.rb
        obtain ⟨a1, e2, rfl⟩ := own_len HX.out.ra
        obtain ⟨o1, e3, rfl⟩ := own_len HX.out.ro
        obtain ⟨u1, e4, rfl⟩ := own_len HX.out.ru
        obtain ⟨⟨c0, c1, c2, c3, c4⟩, cf, cz⟩ := five5_at HX.out.out
        obtain ⟨⟨r0, r1, r2, r3, r4⟩, rf, rl⟩ := five5_at HX.out.cb.res
        simp only at c0 c1 c2 c3 c4
        have hKl := HX.out.lt
        have hK1 : K ≠ w.heap.size + 1 := by omega
        have hK2 : w.heap.size + 1 ≠ K := by omega
        have HPT := hideIt (HX.out.cb.put (.bool false) (.int .i64 nx) (.slice b1 B.length e1) (.slice a1 A.length e2) (.slice o1 ow.length e3))
        have HRW := hideIt (And.intro (own_five HX.out.rb HX.out.cb.res (by decide) (.bool false) (.int .i64 nx) (.slice b1 B.length e1) (.slice a1 A.length e2) (.slice o1 ow.length e3)) (And.intro (own_five HX.out.ra HX.out.cb.res (by decide) (.bool false) (.int .i64 nx) (.slice b1 B.length e1) (.slice a1 A.length e2) (.slice o1 ow.length e3)) (And.intro (own_five HX.out.ro HX.out.cb.res (by decide) (.bool false) (.int .i64 nx) (.slice b1 B.length e1) (.slice a1 A.length e2) (.slice o1 ow.length e3)) (own_five HX.out.ru HX.out.cb.res (by decide) (.bool false) (.int .i64 nx) (.slice b1 B.length e1) (.slice a1 A.length e2) (.slice o1 ow.length e3)))))
        clear HX hKl
        go_wp2
        revert HPT HRW
        generalize (World.setCell _ ⟨w.heap.size + 1, 4, none⟩ _) = WF
        intro HPT HRW
        exact bodyPost_ret (v := .tuple #[.agg #[.bool false, .int .i64 nx, .slice b1 B.length e1, .slice a1 A.length e2, .slice o1 ow.length e3], .slice u1 F.length e4, .int .i64 0]) (by simp [results, Try.results20, go_sem, cell_at HPT.out.1, laneA]) rfl (by unfold UnB; rw [HR.out]; exact ⟨_, _, _, _, rfl, own_base HRW.out.1 (by omega), own_base HRW.out.2.1 (by omega), own_base HRW.out.2.2.1 (by omega), own_base HRW.out.2.2.2 (by omega), HPT.out.2⟩)
  · have e : prR L = (0, 0, rfE L true) := by unfold prR; rw [if_neg h0]
    rw [e] at HC
    have HR : Hid (uncR L = (zLn, [], rfE L true)) := by show _ = _; unfold uncR; rw [if_neg h0]
    generalize uncR L = RX at *
    generalize rfE L true = er at *
    have h0q : (er == 0) = false := by simpa using h0
    clear HCO e
    unfold laneV laneA at *
    obtain ⟨cl, nx, bids, asks, owed⟩ := L
    simp only at *
    go_enter Try.func20, Try.ntmps20
    go_wp2_with fail
    refine HC.out.mono ?_
    rintro e w1 ⟨rfl, hb⟩
    dsimp only
    have X1 := hideIt (X0.out.keep hb)
    clear hb X0 HC
    obtain ⟨⟨r0, r1, r2, r3, r4⟩, rf, rl⟩ := five5_at X1.out.res
    have HP := hideIt (X1.out.put (.bool false) (.int .i64 0) (.slice none 0 0) (.slice none 0 0) (.slice none 0 0))
    go_wp2
    revert HP
    generalize (World.setCell _ ⟨w.heap.size + 1, 4, none⟩ _) = WZ
    intro HP
    exact bodyPost_ret (v := .tuple #[laneV zLn (.slice none 0 0) (.slice none 0 0) (.slice none 0 0), .slice none 0 0, .int .i64 er]) (by simp [results, Try.results20, go_sem, cell_at HP.out.1, laneV, laneA, zLn]) rfl (by unfold UnB; rw [HR.out]; exact ⟨_, _, _, _, rfl, own_nil _ _, own_nil _ _, own_nil _ _, own_nil _ _, HP.out.2⟩)
end Go.Proofs.Ytgnmghcdfihmgaa
namespace Go.Proofs.Ytgnmghcdfihmgaa
open Go.RowKit Go.Maps
set_option linter.all false
def l4 : LaneV := ⟨true, 5, [⟨1, 1, 12, 5⟩, ⟨2, 2, 10, 5⟩], [⟨3, 3, 9, 4⟩, ⟨4, 4, 11, 4⟩], []⟩
theorem chk_l4 : chkB l4 = true := by
  rw [chk_bok]
  exact ⟨by decide, rfl, rfl, by decide, .inl rfl, rfl⟩
theorem rf_l4 : rfE l4 true = 0 := by
  unfold rfE
  rw [if_neg (by simp [chk_l4]), if_pos (show l4.call = true from rfl)]
theorem sort_l4 : sortL [12, 10, 9, 11] = [9, 10, 11, 12] := by
  simp [sortL, List.mergeSort, List.MergeSort.Internal.splitInTwo, List.merge]
theorem cl_l4 : clL l4 = (11, 5, 3) := by
  unfold clL
  rw [show prL l4.bids ++ prL l4.asks = [12, 10, 9, 11] from rfl, sort_l4]
  decide
theorem trd_l4 : trdC 11 80 l4.bids l4.asks 5 (clsOf l4.owed) [] = ([⟨2, 2, 10, 5⟩], [⟨4, 4, 11, 3⟩], stlC (stlC (clsOf []) 1 12 3 11 4) 1 12 4 11 1, [⟨1, 3, 11, 4⟩, ⟨1, 4, 11, 1⟩]) := rfl
theorem ovr_l4 : ¬ ovrC (stlC (stlC (clsOf []) 1 12 3 11 4) 1 12 4 11 1) := by
  rintro ⟨x, a, -, h⟩
  have h1 := (cg_stl (f := stlC (clsOf []) 1 12 3 11 4) (xa := 1) (xp := 12) (ya := 4) (p := 11) (n := 1) (by decide) (by decide) (by decide) x a).2
  have h2 := (cg_stl (f := clsOf []) (xa := 1) (xp := 12) (ya := 3) (p := 11) (n := 4) (by decide) (by decide) (by decide) x a).2
  have h3 : cg (clsOf []) x a = 0 := rfl
  omega
theorem pr_l4 : prR l4 = (11, 5, 0) := by
  unfold prR
  rw [if_pos rf_l4, cl_l4]
theorem unc_l4 : uncR l4 = (⟨false, 5, [⟨2, 2, 10, 5⟩], [⟨4, 4, 11, 3⟩], lstK (stlC (stlC (clsOf []) 1 12 3 11 4) 1 12 4 11 1) 8⟩, [⟨1, 3, 11, 4⟩, ⟨1, 4, 11, 1⟩], 0) := by
  unfold uncR
  rw [if_pos rf_l4, cl_l4]
  dsimp only
  rw [trd_l4]
  dsimp only
  rw [if_neg (fun c => ovr_l4 ((ovrD_iff _).1 c))]
  rfl
end Go.Proofs.Ytgnmghcdfihmgaa
namespace Go.Proofs.Ytgnmghcdfihmgaa
open Go.RowKit Go.Maps
set_option linter.all false
theorem eq41 (a b c d : Int) (w : World) : (binOp .eql 41 (.agg #[.int .i64 a, .int .i64 b, .int .i64 c, .int .i64 d]) (.agg #[.int .i64 a, .int .i64 b, .int .i64 c, .int .i64 d])).run Try.prog w = .ok (.bool true) w := by
  simp [go_sem]
theorem ords_two {w : World} {g : Nat} {x y : OrdV} (h : w.heap[g]? = some (.cells #[.int .i64 x.id, .int .i64 x.acc, .int .i64 x.price, .int .i64 x.left, .int .i64 y.id, .int .i64 y.acc, .int .i64 y.price, .int .i64 y.left] 38 (0, 0))) : Ords w (.slice (some ⟨g, 0, none⟩) 2 2) [x, y] := by
  refine ⟨by simp, some ⟨g, 0, none⟩, 2, rfl, ⟨by simp, by unfold maxLen; omega⟩, fun _ => ⟨g, 0, rfl, (Array.getElem?_eq_some_iff.1 h).1, fun j hj => ?_⟩⟩
  rw [Nat.zero_add, cell_at h]
  have : j < 8 := by simpa using hj
  match j, this with
  | 0, _ => rfl
  | 1, _ => rfl
  | 2, _ => rfl
  | 3, _ => rfl
  | 4, _ => rfl
  | 5, _ => rfl
  | 6, _ => rfl
  | 7, _ => rfl
set_option maxHeartbeats 8000000 in
set_option maxRecDepth 100000 in
theorem live_is (w : World) : Calls Try.prog 10 #[] w fun e w' => e = .returned (.bool true) ∧ Below w.heap.size w w' := by
  obtain ⟨k1, k2, k3, k4⟩ := three_heap w (.cells #[.int .i64 1, .int .i64 1, .int .i64 12, .int .i64 5, .int .i64 2, .int .i64 2, .int .i64 10, .int .i64 5] 38) (.cells #[.int .i64 3, .int .i64 3, .int .i64 9, .int .i64 4, .int .i64 4, .int .i64 4, .int .i64 11, .int .i64 4] 38) (.cells #[.bool true, .int .i64 5, .slice (some ⟨w.heap.size, 0, none⟩) 2 2, .slice (some ⟨w.heap.size + 1, 0, none⟩) 2 2, .slice none 0 0] 25)
  have hb := below3 w (.cells #[.int .i64 1, .int .i64 1, .int .i64 12, .int .i64 5, .int .i64 2, .int .i64 2, .int .i64 10, .int .i64 5] 38) (.cells #[.int .i64 3, .int .i64 3, .int .i64 9, .int .i64 4, .int .i64 4, .int .i64 4, .int .i64 11, .int .i64 4] 38) (.cells #[.bool true, .int .i64 5, .slice (some ⟨w.heap.size, 0, none⟩) 2 2, .slice (some ⟨w.heap.size + 1, 0, none⟩) 2 2, .slice none 0 0] 25)
  have LN : Hid (Lan _ l4 (.slice (some ⟨w.heap.size, 0, none⟩) 2 2) (.slice (some ⟨w.heap.size + 1, 0, none⟩) 2 2) (.slice none 0 0)) := ⟨ords_two (x := ⟨1, 1, 12, 5⟩) (y := ⟨2, 2, 10, 5⟩) k1, ords_two (x := ⟨3, 3, 9, 4⟩) (y := ⟨4, 4, 11, 4⟩) k2, own_sgot (own_nil (e := 48) _ 0) (by simp [l4])⟩
  have HB := hideIt hb
  have K3 := hideIt k3
  have q1 := fun W => eq41 1 4 11 1 W
  clear k1 k2 k3 hb
  go_enter Try.func10, Try.ntmps10
  go_upto_region 2 with fail
  generalize ((w.alloc (.cells #[.int .i64 1, .int .i64 1, .int .i64 12, .int .i64 5, .int .i64 2, .int .i64 2, .int .i64 10, .int .i64 5] 38)).alloc (.cells #[.int .i64 3, .int .i64 3, .int .i64 9, .int .i64 4, .int .i64 4, .int .i64 4, .int .i64 11, .int .i64 4] 38)).alloc (.cells #[.bool true, .int .i64 5, .slice (some ⟨w.heap.size, 0, none⟩) 2 2, .slice (some ⟨w.heap.size + 1, 0, none⟩) 2 2, .slice none 0 0] 25) = W0 at *
  have HP := hideIt (price_is l4 _ _ _ W0 LN.out)
  have HUN := hideIt (fun W (hW : Below W0.heap.size W0 W) => uncross_is l4 _ _ _ W (LN.out.keep hW))
  rw [pr_l4] at HP
  rw [unc_l4] at HUN
  unfold UnB at HUN
  unfold laneV laneA at HP HUN
  dsimp only [l4] at HP HUN
  obtain ⟨⟨c0, c1, c2, c3, c4⟩, -, cz⟩ := five5_at K3.out
  go_wp2_with fail
  refine HP.out.mono ?_
  rintro e w1 ⟨rfl, hb⟩
  dsimp only
  have B1 := hideIt hb
  have K1 := hideIt ((hb.block _ cz).trans K3.out)
  clear hb HP c0 c1 c2 c3 c4 cz
  obtain ⟨⟨c0, c1, c2, c3, c4⟩, -, cz⟩ := five5_at K1.out
  go_wp2_with fail
  refine (HUN.out _ B1.out).mono ?_
  rintro e w2 ⟨bv, av, ov, uv, rfl, rb, ra, ro, ru, hb⟩
  dsimp only
  obtain ⟨xb, xbc, rfl⟩ := own_len rb
  obtain ⟨xa, xac, rfl⟩ := own_len ra
  obtain ⟨xo, xoc, rfl⟩ := own_len ro
  simp only [List.length_cons, List.length_nil, Nat.zero_add] at ru rb ra
  obtain ⟨g, gc, rfl, hgl, hcc⟩ := own_cells3 ru (by omega)
  have u4 := hcc 4 (.int .i64 1) rfl
  have u5 := hcc 5 (.int .i64 4) rfl
  have u6 := hcc 6 (.int .i64 11) rfl
  have u7 := hcc 7 (.int .i64 1) rfl
  have B2 := hideIt (below_via HB.out (below_via B1.out hb))
  clear rb ra ro ru hcc hb HUN K1 K3 B1 LN c0 c1 c2 c3 c4 cz
  generalize lstK (stlC (stlC (clsOf []) 1 12 3 11 4) 1 12 4 11 1) 8 = LK at *
  have hb3 := below1 w2 (.cells #[.bool false, .int .i64 5, .slice xb 1 xbc, .slice xa 1 xac, .slice xo LK.length xoc] 25)
  have v4 := (hb3.cell (p := ⟨g, 4, none⟩) hgl).trans u4
  have v5 := (hb3.cell (p := ⟨g, 5, none⟩) hgl).trans u5
  have v6 := (hb3.cell (p := ⟨g, 6, none⟩) hgl).trans u6
  have v7 := (hb3.cell (p := ⟨g, 7, none⟩) hgl).trans u7
  have K4 := hideIt (heap_alloc_new w2 (.cells #[.bool false, .int .i64 5, .slice xb 1 xbc, .slice xa 1 xac, .slice xo LK.length xoc] 25))
  have B3 := hideIt (below_via B2.out hb3)
  have gz : g < (w2.alloc (.cells #[.bool false, .int .i64 5, .slice xb 1 xbc, .slice xa 1 xac, .slice xo LK.length xoc] 25)).heap.size := Nat.lt_of_lt_of_le hgl hb3.size
  clear u4 u5 u6 u7 hgl hb3 B2
  go_upto_region 4 with fail
  generalize w2.alloc (.cells #[.bool false, .int .i64 5, .slice xb 1 xbc, .slice xa 1 xac, .slice xo LK.length xoc] 25) = W4 at *
  generalize w2.heap.size = k4 at *
  obtain ⟨⟨c0, c1, c2, c3, c4⟩, -, cz⟩ := five5_at K4.out
  clear K4 c1 c2 c3 c4
  go_wp2
  go_ret
  exact ⟨rfl, B3.out⟩
end Go.Proofs.Ytgnmghcdfihmgaa
namespace Go.Proofs.Ytgnmghcdfihmgaa
open Go.RowKit Go.Maps
set_option linter.all false
/-- What a clearing tells. -/
def UncC (L : LaneV) (U : LaneV × List FillV × Int) (Q : Int × Int × Int) : Prop :=
  (∃ er, er ≠ 0 ∧ U = (zLn, [], er) ∧ Q = (0, 0, er)) ∨ (∃ p v, U = (zLn, [], 131) ∧ Q = (p, v, 0)) ∨
  ∃ (p v : Int) (M : LaneV) (F : List FillV), U = (M, F, 0) ∧ Q = (p, v, 0) ∧ chkB L = true ∧ L.call = true ∧ p = (clL L).1 ∧ v = (clL L).2.1 ∧ sumN F = v ∧ FokP L p F ∧ F.length ≤ 80 ∧ M = ⟨false, L.next, cutO v L.bids, cutO v L.asks, lstK (trdC (clL L).1 80 L.bids L.asks (clL L).2.1 (clsOf L.owed) []).2.2.1 8⟩ ∧ ¬ ovrC (trdC (clL L).1 80 L.bids L.asks (clL L).2.1 (clsOf L.owed) []).2.2.1
theorem unc_cases (L : LaneV) : UncC L (uncR L) (prR L) := by
  unfold uncR prR
  by_cases h0 : rfE L true = 0
  · rw [if_pos h0, if_pos h0]
    by_cases ho : ovrD (trdC (clL L).1 80 L.bids L.asks (clL L).2.1 (clsOf L.owed) []).2.2.1 = true
    · rw [if_pos ho]
      exact .inr (.inl ⟨_, _, rfl, rfl⟩)
    · rw [if_neg ho]
      have hk := rf_chk h0
      have hF := trd_facts hk.1
      have e : sumN (trdC (clL L).1 80 L.bids L.asks (clL L).2.1 (clsOf L.owed) []).2.2.2 = (clL L).2.1 := by have := hF.vol; omega
      have hl := hF.len
      have hcb := hF.cb
      have hca := hF.ca
      rw [e] at hcb hca
      exact .inr (.inr ⟨_, _, _, _, rfl, rfl, hk.1, hk.2, rfl, rfl, e, hF.fok, by omega, by rw [← hcb, ← hca], fun c => ho ((ovrD_iff _).2 c)⟩)
  · rw [if_neg h0, if_neg h0]
    exact .inl ⟨_, h0, rfl, rfl⟩
set_option maxHeartbeats 16000000 in
set_option maxRecDepth 100000 in
theorem sums_walk (L : LaneV) (b a o : Value) (w : World) (h : Lan w L b a o) : Calls Try.prog 5 #[laneV L b a o] w fun e w' => e = .returned (.bool true) ∧ Below w.heap.size w w' := by
  have X0 := hideIt (BoxL.first w L b a o)
  have HP := hideIt (price_is L b a o _ (h.keep X0.out.bel))
  have HU := hideIt (fun W (hW : Below w.heap.size w W) => uncross_is L b a o W (h.keep hW))
  have HLV := hideIt (fun W => live_is W)
  obtain ⟨ba, bc, rfl⟩ := h.bids.slice
  obtain ⟨aa, ac, rfl⟩ := h.asks.slice
  obtain ⟨oa, oc, rfl⟩ := h.owed.slice
  clear h
  obtain ⟨c0, c1, c2, c3, c4⟩ := X0.out.cells
  have hcs := unc_cases L
  generalize uncR L = U at *
  generalize prR L = Q at *
  rcases hcs with ⟨er, hne, rfl, rfl⟩ | ⟨p, v, rfl, rfl⟩ | ⟨p, v, M, F, rfl, rfl, hk, hc, hp, hv, hs, hf, hl, hM, ho⟩
  · skip
    unfold UnB laneV laneA zLn at *
    obtain ⟨cl, nx, bids, asks, owed⟩ := L
    simp only [List.length_nil] at *
    have h0q : (er == 0) = false := by simpa using hne
    have h0d : decide (er = 0) = false := by simpa using hne
    go_enter Try.func5, Try.ntmps5
    go_wp2_with fail
    refine HP.out.mono ?_
    rintro e w1 ⟨rfl, hb⟩
    dsimp only
    have X1 := hideIt (X0.out.keep hb)
    clear hb X0 HP c0 c1 c2 c3 c4
    obtain ⟨c0, c1, c2, c3, c4⟩ := X1.out.cells
    simp only at c0 c1 c2 c3 c4
    have kz : w.heap.size < w1.heap.size := by have := X1.out.size; omega
    go_wp2_with fail
    refine (HU.out _ X1.out.bel).mono ?_
    rintro e w2 ⟨bv, av, ov, uv, rfl, rb, ra, ro, ru, hb⟩
    dsimp only
    have B2 := hideIt (below_via X1.out.bel hb)
    obtain ⟨xb, xbc, rfl⟩ := own_len rb
    obtain ⟨xa, xac, rfl⟩ := own_len ra
    obtain ⟨xo, xoc, rfl⟩ := own_len ro
    clear rb ra ro hb HU c0 c1 c2 c3 c4 kz X1
    obtain ⟨xu, xuc, rfl⟩ := own_len ru
    clear ru
    have hb3 := hideIt (below_via B2.out (below1 w2 (.cells #[.bool false, .int .i64 0, .slice xb 0 xbc, .slice xa 0 xac, .slice xo 0 xoc] 25)))
    clear B2
    go_wp2_with fail
    refine (HLV.out _).mono ?_
    rintro e w3 ⟨rfl, hb⟩
    dsimp only
    have B4 := hideIt (below_via hb3.out hb)
    clear hb hb3
    go_wp2
    go_ret
    exact ⟨rfl, B4.out⟩
  · skip
    unfold UnB laneV laneA zLn at *
    obtain ⟨cl, nx, bids, asks, owed⟩ := L
    simp only [List.length_nil] at *
    go_enter Try.func5, Try.ntmps5
    go_wp2_with fail
    refine HP.out.mono ?_
    rintro e w1 ⟨rfl, hb⟩
    dsimp only
    have X1 := hideIt (X0.out.keep hb)
    clear hb X0 HP c0 c1 c2 c3 c4
    obtain ⟨c0, c1, c2, c3, c4⟩ := X1.out.cells
    simp only at c0 c1 c2 c3 c4
    have kz : w.heap.size < w1.heap.size := by have := X1.out.size; omega
    go_wp2_with fail
    refine (HU.out _ X1.out.bel).mono ?_
    rintro e w2 ⟨bv, av, ov, uv, rfl, rb, ra, ro, ru, hb⟩
    dsimp only
    have B2 := hideIt (below_via X1.out.bel hb)
    obtain ⟨xb, xbc, rfl⟩ := own_len rb
    obtain ⟨xa, xac, rfl⟩ := own_len ra
    obtain ⟨xo, xoc, rfl⟩ := own_len ro
    clear rb ra ro hb HU c0 c1 c2 c3 c4 kz X1
    obtain ⟨xu, xuc, rfl⟩ := own_len ru
    clear ru
    have hb3 := hideIt (below_via B2.out (below1 w2 (.cells #[.bool false, .int .i64 0, .slice xb 0 xbc, .slice xa 0 xac, .slice xo 0 xoc] 25)))
    clear B2
    go_wp2_with fail
    refine (HLV.out _).mono ?_
    rintro e w3 ⟨rfl, hb⟩
    dsimp only
    have B4 := hideIt (below_via hb3.out hb)
    clear hb hb3
    go_wp2
    go_ret
    exact ⟨rfl, B4.out⟩
  · skip
    have HS := hideIt hs
    have HFP := hideIt (fun t (ht : t < F.length) => (hf t ht).elim (fun x hx => hx.elim (fun y hy => hy.2.2.2.2.1)))
    have HFB := hideIt (sumN_bd (F := F) (fun t ht => (hf t ht).elim (fun x hx => hx.elim (fun y hy => hy.2.2.2.2.2.1))))
    have HFT := hideIt (fun t (ht : t < F.length) => sumN_take ht)
    have HFE : Hid (sumN (F.take F.length) = v) := by show _ = _; rw [List.take_length, hs]
    have HFZ : Hid (sumN (F.take 0) = 0) := rfl
    clear hs hf hp hv hk hc hM ho
    generalize hfu : (fun t : Nat => sumN (F.take t)) = FT at *
    have T1 : Hid (∀ t, sumN (F.take t) = FT t) := fun t => congrFun hfu t
    simp only [T1.out] at HFB HFT HFE HFZ
    clear hfu T1 HS
    unfold UnB laneV laneA at *
    obtain ⟨cl, nx, bids, asks, owed⟩ := L
    obtain ⟨mc, mn, mb, ma, mo⟩ := M
    simp only at *
    go_enter Try.func5, Try.ntmps5
    go_wp2_with fail
    refine HP.out.mono ?_
    rintro e w1 ⟨rfl, hb⟩
    dsimp only
    have X1 := hideIt (X0.out.keep hb)
    clear hb X0 HP c0 c1 c2 c3 c4
    obtain ⟨c0, c1, c2, c3, c4⟩ := X1.out.cells
    simp only at c0 c1 c2 c3 c4
    have kz : w.heap.size < w1.heap.size := by have := X1.out.size; omega
    go_wp2_with fail
    refine (HU.out _ X1.out.bel).mono ?_
    rintro e w2 ⟨bv, av, ov, uv, rfl, rb, ra, ro, ru, hb⟩
    dsimp only
    have B2 := hideIt (below_via X1.out.bel hb)
    obtain ⟨xb, xbc, rfl⟩ := own_len rb
    obtain ⟨xa, xac, rfl⟩ := own_len ra
    obtain ⟨xo, xoc, rfl⟩ := own_len ro
    clear rb ra ro hb HU c0 c1 c2 c3 c4 kz X1
    have hG := own_sgot (bytes := 32) ru (by omega)
    obtain ⟨ua, uc, rfl, -, hr⟩ := hG.fils
    have HH := hideIt hr
    have hb3 := below1 w2 (.cells #[.bool mc, .int .i64 mn, .slice xb mb.length xbc, .slice xa ma.length xac, .slice xo mo.length xoc] 25)
    have B3 := hideIt (below_via B2.out hb3)
    have R3 := hideIt hb3
    clear ru hG hr B2 hb3
    go_upto_region 7 with fail
    generalize w2.alloc (.cells #[.bool mc, .int .i64 mn, .slice xb mb.length xbc, .slice xa ma.length xac, .slice xo mo.length xoc] 25) = W3 at *
    go_loopw [9, 10] (fun u x wr => ∃ t : Nat, u = .int .i64 (FT t) ∧ x = .int .i64 t ∧ t ≤ F.length ∧ wr = W3) (fun _ x _ => F.length - (RowKit.intOf x).toNat)
    case atStart => exact ⟨0, by rw [HFZ.out], rfl, Nat.zero_le _, rfl⟩
    case round =>
      obtain ⟨t, rfl, rfl, ht, rfl⟩ := hrel
      by_cases hlt : t < F.length
      · have hltI : (t : Int) < (F.length : Int) := by omega
        have ht0 : (0 : Int) ≤ (t : Int) := by omega
        have hw : IntKind.i64.wrap ((t : Int) + 1) = ((t + 1 : Nat) : Int) := by rw [IntKind.wrap_i64]; omega
        obtain ⟨g, off, rfl, hgl, q0, q1, q2, q3⟩ := HH.out t hlt
        have hgr : g < wr.heap.size := Nat.lt_of_lt_of_le hgl R3.out.size
        have e2 := (R3.out.cell (p := ⟨g, off + t * 4 + 2, none⟩) hgl).trans q2
        have e3 := (R3.out.cell (p := ⟨g, off + t * 4 + 3, none⟩) hgl).trans q3
        have hs := HFT.out t hlt
        have hb0 := HFB.out t
        have hb1 := HFB.out (t + 1)
        have hpr := HFP.out t hlt
        clear q0 q1 q2 q3 HH HFT HFP HFB
        generalize F[t] = y at *
        obtain ⟨yb, ys, yp, yn⟩ := y
        dsimp only at e2 e3 hs hpr
        subst hpr
        have hwA : IntKind.i64.wrap (FT t + yn) = FT (t + 1) := by rw [hs, IntKind.wrap_i64]; omega
        clear hs hb0 hb1
        go_wp2
        go_roundw
        case rel => exact ⟨t + 1, by first | rfl | trivial, by go_num, by omega, by first | rfl | trivial⟩
        case measure => simp [RowKit.intOf]; omega
      · have hltI : ¬ (t : Int) < (F.length : Int) := by omega
        have het : t = F.length := by omega
        subst het
        clear HH HFT HFP HFB
        rw [HFE.out]
        go_wp2_with fail
        refine (HLV.out _).mono ?_
        rintro e w5 ⟨rfl, hb⟩
        dsimp only
        have B5 := hideIt (below_via B3.out hb)
        clear hb B3
        go_wp2
        go_ret
        exact ⟨rfl, B5.out⟩
end Go.Proofs.Ytgnmghcdfihmgaa
namespace Go.Proofs.Ytgnmghcdfihmgaa
open Go.RowKit Go.Maps
set_option linter.all false
theorem unc_len (L : LaneV) : (uncR L).1.bids.length ≤ 40 ∧ (uncR L).1.asks.length ≤ 40 ∧ (uncR L).1.owed.length ≤ 16 ∧ (uncR L).2.1.length ≤ 80 := by
  have hcs := unc_cases L
  generalize uncR L = U at *
  generalize prR L = Q at *
  rcases hcs with ⟨er, hne, rfl, rfl⟩ | ⟨p, v, rfl, rfl⟩ | ⟨p, v, M, F, rfl, rfl, hk, hc, hp, hv, hs, hf, hl, hM, ho⟩
  · simp [zLn]
  · simp [zLn]
  · have hkM : chkB M = true := by rw [hM, hv]; exact cleared_may hk ho
    have hm := chk_may hkM
    exact ⟨hm.lb, hm.la, (cl_keys hkM).2, hl⟩
/-- What came out, while it is spoiled: all else stays. -/
structure SK (w3 : World) (k4 : Nat) (cs : Array Value) (bv ov : Value) (nb no : Nat) (W : World) : Prop where
  bel : Below w3.heap.size w3 W
  box : W.heap[k4]? = some (.cells cs 25 (0, 0))
  rb : ∃ xs, W.ownsRow w3.heap.size 38 4 bv nb xs
  ro : ∃ xs, W.ownsRow w3.heap.size 48 3 ov no xs
theorem SK.s38 {w3 W : World} {k4 nb no g j : Nat} {cs cur : Array Value} {bv ov u : Value} (h : SK w3 k4 cs bv ov nb no W) (hg : W.heap[g]? = some (.cells cur 38 (0, 0))) (hB : w3.heap.size ≤ g) : SK w3 k4 cs bv ov nb no (W.setCell ⟨g, j, none⟩ u) := by
  obtain ⟨xs, hb⟩ := h.rb
  obtain ⟨ys, ho⟩ := h.ro
  exact ⟨belowSet _ h.bel hB, ty_set h.box hg (by decide), row_setG hb hg, ys, own_cell ho hg (by decide)⟩
theorem SK.s48 {w3 W : World} {k4 nb no g j : Nat} {cs cur : Array Value} {bv ov u : Value} (h : SK w3 k4 cs bv ov nb no W) (hg : W.heap[g]? = some (.cells cur 48 (0, 0))) (hB : w3.heap.size ≤ g) : SK w3 k4 cs bv ov nb no (W.setCell ⟨g, j, none⟩ u) := by
  obtain ⟨xs, hb⟩ := h.rb
  obtain ⟨ys, ho⟩ := h.ro
  exact ⟨belowSet _ h.bel hB, ty_set h.box hg (by decide), ⟨xs, own_cell hb hg (by decide)⟩, row_setG ho hg⟩
set_option maxHeartbeats 16000000 in
set_option maxRecDepth 100000 in
theorem clears_walk (L : LaneV) (b a o : Value) (w : World) (h : Lan w L b a o) : Calls Try.prog 8 #[laneV L b a o] w fun e w' => e = .returned (.bool true) ∧ Below w.heap.size w w' := by
  have X0 := hideIt (BoxL.first w L b a o)
  have HCP := hideIt (rCopy_is L b a o _ (h.keep X0.out.bel))
  have HL := hideIt (fun W (hW : Below w.heap.size w W) => h.keep hW)
  have HLV := hideIt (fun W => live_is W)
  have HUN := hideIt (fun W bv av ov (hW : Lan W L bv av ov) => uncross_is L bv av ov W hW)
  have HRU := hideIt (fun W bv av ov (hW : Lan W L bv av ov) => rUncross_is L bv av ov W hW)
  have HSL := hideIt (fun W bv av ov bv' av' ov' (h1 : Lan W L bv av ov) (h2 : Lan W L bv' av' ov') => sameL_is L bv av ov bv' av' ov' W h1 h2)
  have HSM := hideIt (fun W bv av ov bv' av' ov' (h1 : Lan W (uncR L).1 bv av ov) (h2 : Lan W (uncR L).1 bv' av' ov') => sameL_is (uncR L).1 bv av ov bv' av' ov' W h1 h2)
  have HSF := hideIt (fun W u u' (h1 : Fils W u (uncR L).2.1) (h2 : Fils W u' (uncR L).2.1) => sameF_is u u' (uncR L).2.1 W h1 h2)
  obtain ⟨l1, l2, l3, l4'⟩ := unc_len L
  obtain ⟨ba, bc, rfl, b8, -⟩ := h.bids.ords
  obtain ⟨aa, ac, rfl, a8, -⟩ := h.asks.ords
  obtain ⟨oa, oc, rfl, o8, -⟩ := h.owed.owes
  generalize uncR L = RX at *
  obtain ⟨M, F, er⟩ := RX
  obtain ⟨c0, c1, c2, c3, c4⟩ := X0.out.cells
  clear h
  unfold UnB at HUN HRU
  unfold LaneBack at HCP
  unfold laneV laneA at *
  dsimp only at *
  go_enter Try.func8, Try.ntmps8
  go_wp2_with fail
  refine HCP.out.mono ?_
  rintro e w1 ⟨bv, av, ov, rfl, rb, ra, ro, -, hb⟩
  dsimp only
  have hb2 := below1 w1 (.cells #[.bool L.call, .int .i64 L.next, bv, av, ov] 25)
  have hbb := below_via hb hb2
  have X2 := hideIt (X0.out.keep hbb)
  have L1 : Lan w1 L bv av ov := ⟨own_sgot rb b8, own_sgot ra a8, own_sgot ro o8⟩
  have L2 := hideIt (L1.keep hb2)
  have K2 := hideIt (heap_alloc_new w1 (.cells #[.bool L.call, .int .i64 L.next, bv, av, ov] 25))
  obtain ⟨xb, xbc, rfl⟩ := own_len rb
  obtain ⟨xa, xac, rfl⟩ := own_len ra
  obtain ⟨xo, xoc, rfl⟩ := own_len ro
  clear rb ra ro hb hb2 hbb X0 L1 HCP c0 c1 c2 c3 c4
  go_upto_region 2 with fail
  generalize w1.alloc (.cells #[.bool L.call, .int .i64 L.next, .slice xb L.bids.length xbc, .slice xa L.asks.length xac, .slice xo L.owed.length xoc] 25) = W2 at *
  generalize w1.heap.size = k2 at *
  obtain ⟨⟨d0, d1, d2, d3, d4⟩, -, dz⟩ := five5_at K2.out
  go_wp2_with fail
  refine (HUN.out _ _ _ _ L2.out).mono ?_
  rintro e w3 ⟨bv, av, ov, uv, rfl, rb, ra, ro, ru, hb⟩
  dsimp only
  have hb4 := below1 w3 (.cells #[.bool M.call, .int .i64 M.next, bv, av, ov] 25)
  have B4 := hideIt (below_via hb hb4)
  have J4 := hideIt (heap_alloc_new w3 (.cells #[.bool M.call, .int .i64 M.next, bv, av, ov] 25))
  have RB4 := hideIt (own_keep rb hb4)
  have RA4 := hideIt (own_keep ra hb4)
  have RO4 := hideIt (own_keep ro hb4)
  have RU4 := hideIt (own_keep ru hb4)
  obtain ⟨yb, ybc, rfl⟩ := own_len rb
  obtain ⟨ya, yac, rfl⟩ := own_len ra
  obtain ⟨yo, yoc, rfl⟩ := own_len ro
  obtain ⟨yu, yuc, rfl⟩ := own_len ru
  clear rb ra ro ru hb hb4 HUN d0 d1 d2 d3 d4 dz
  go_upto_region 3 with fail
  generalize w3.alloc (.cells #[.bool M.call, .int .i64 M.next, .slice yb M.bids.length ybc, .slice ya M.asks.length yac, .slice yo M.owed.length yoc] 25) = W4 at *
  generalize w3.heap.size = k4 at *
  have X4 := hideIt (X2.out.keep B4.out)
  obtain ⟨c0, c1, c2, c3, c4⟩ := X4.out.cells
  have kz : w.heap.size < W4.heap.size := X4.out.size
  go_wp2_with fail
  refine (HRU.out _ _ _ _ (HL.out _ X4.out.bel)).mono ?_
  rintro e w5 ⟨bv, av, ov, uv, rfl, rb, ra, ro, ru, hb⟩
  dsimp only
  have hb6 := below1 w5 (.cells #[.bool M.call, .int .i64 M.next, bv, av, ov] 25)
  have hbb := below_via hb hb6
  have B6 := hideIt (below_via B4.out hbb)
  have J6 := hideIt (blkK J4.out hbb)
  have RB6 := hideIt (own_keep RB4.out hbb)
  have RA6 := hideIt (own_keep RA4.out hbb)
  have RO6 := hideIt (own_keep RO4.out hbb)
  have RU6 := hideIt (own_keep RU4.out hbb)
  have N5 : Lan w5 M bv av ov := ⟨own_sgot rb (by omega), own_sgot ra (by omega), own_sgot ro (by omega)⟩
  have N6 := hideIt (N5.keep hb6)
  have G5 : Fils w5 uv F := own_sgot ru (by omega)
  have G6 := hideIt (G5.keep hb6)
  have I6 := hideIt (heap_alloc_new w5 (.cells #[.bool M.call, .int .i64 M.next, bv, av, ov] 25))
  obtain ⟨zb, zbc, rfl⟩ := own_len rb
  obtain ⟨za, zac, rfl⟩ := own_len ra
  obtain ⟨zo, zoc, rfl⟩ := own_len ro
  obtain ⟨zu, zuc, rfl⟩ := own_len ru
  clear rb ra ro ru hb hb6 hbb X4 B4 J4 RB4 RA4 RO4 RU4 N5 G5 HRU c0 c1 c2 c3 c4 kz
  go_upto_region 4 with fail
  generalize w5.alloc (.cells #[.bool M.call, .int .i64 M.next, .slice zb M.bids.length zbc, .slice za M.asks.length zac, .slice zo M.owed.length zoc] 25) = W6 at *
  generalize w5.heap.size = k6 at *
  obtain ⟨⟨i0, i1, i2, i3, i4⟩, -, iz⟩ := five5_at I6.out
  obtain ⟨⟨j0, j1, j2, j3, j4⟩, -, jz⟩ := five5_at J6.out
  go_wp2_with fail
  refine (HSM.out _ _ _ _ _ _ _ ⟨own_sgot RB6.out (by omega), own_sgot RA6.out (by omega), own_sgot RO6.out (by omega)⟩ N6.out).mono ?_
  rintro e w7 ⟨rfl, hb⟩
  dsimp only
  have B7 := hideIt (below_via B6.out hb)
  have J7 := hideIt (blkK J6.out hb)
  have RB7 := hideIt (own_keep RB6.out hb)
  have RO7 := hideIt (own_keep RO6.out hb)
  have RU7 := hideIt (own_keep RU6.out hb)
  have G7 := hideIt (G6.out.keep hb)
  clear hb B6 J6 RB6 RA6 RO6 RU6 G6 N6 I6 HSM i0 i1 i2 i3 i4 iz j0 j1 j2 j3 j4 jz
  go_wp2_with fail
  refine (HSF.out _ _ _ (own_sgot RU7.out (by omega)) G7.out).mono ?_
  rintro e w8 ⟨rfl, hb⟩
  dsimp only
  have B8 := hideIt (below_via B7.out hb)
  have J8 := hideIt (blkK J7.out hb)
  have RB8 := hideIt (own_keep RB7.out hb)
  have RO8 := hideIt (own_keep RO7.out hb)
  clear hb B7 J7 RB7 RO7 RU7 G7 HSF
  have X8 := hideIt (X2.out.keep B8.out)
  obtain ⟨c0, c1, c2, c3, c4⟩ := X8.out.cells
  have kz : w.heap.size < w8.heap.size := X8.out.size
  obtain ⟨⟨d0, d1, d2, d3, d4⟩, -, dz⟩ := five5_at (blkK K2.out B8.out)
  go_wp2_with fail
  refine (HSL.out _ _ _ _ _ _ _ (L2.out.keep B8.out) (HL.out _ X8.out.bel)).mono ?_
  rintro e w9 ⟨rfl, hb⟩
  dsimp only
  have S9 : Hid (SK W2 k4 #[.bool M.call, .int .i64 M.next, .slice yb M.bids.length ybc, .slice ya M.asks.length yac, .slice yo M.owed.length yoc] (.slice yb M.bids.length ybc) (.slice yo M.owed.length yoc) M.bids.length M.owed.length w9) := ⟨below_via B8.out hb, blkK J8.out hb, ⟨_, own_keep RB8.out hb⟩, ⟨_, own_keep RO8.out hb⟩⟩
  clear hb B8 J8 RB8 RO8 X8 c0 c1 c2 c3 c4 kz d0 d1 d2 d3 d4 dz
  go_upto_region 7 with fail
  go_loopw [10] (fun x wr => ∃ t : Nat, x = .int .i64 t ∧ t ≤ M.bids.length ∧ Hid (SK W2 k4 #[.bool M.call, .int .i64 M.next, .slice yb M.bids.length ybc, .slice ya M.asks.length yac, .slice yo M.owed.length yoc] (.slice yb M.bids.length ybc) (.slice yo M.owed.length yoc) M.bids.length M.owed.length wr)) (fun x _ => M.bids.length - (RowKit.intOf x).toNat)
  case atStart => exact ⟨0, rfl, Nat.zero_le _, S9⟩
  case round =>
    clear S9
    obtain ⟨t, rfl, ht, S⟩ := hrel
    obtain ⟨⟨j0, j1, j2, j3, j4⟩, -, jz⟩ := five5_at S.out.box
    by_cases hlt : t < M.bids.length
    · have hltI : (t : Int) < (M.bids.length : Int) := by omega
      have ht0 : (0 : Int) ≤ (t : Int) := by omega
      have hw : IntKind.i64.wrap ((t : Int) + 1) = ((t + 1 : Nat) : Int) := by rw [IntKind.wrap_i64]; omega
      obtain ⟨xs, hrow⟩ := S.out.rb
      obtain ⟨ra', rc', e, hrr⟩ := row_atG hrow 3 (by omega)
      simp only [Value.slice.injEq, true_and] at e
      obtain ⟨rfl, rfl⟩ := e
      obtain ⟨g, off, cur, u, hyb, hBg, hg, hgl, q3, qf⟩ := hrr t hlt
      rw [hyb] at j2
      have Z := hideIt (S.out.s38 (j := off + t * 4 + 3) (u := .int .i64 (-1)) hg hBg)
      have HYB := hideIt hyb
      clear hyb hrow hrr hg hBg S xs
      go_wp2
      go_roundw
      case rel => exact ⟨t + 1, by go_num, by omega, Z⟩
      case measure => simp [RowKit.intOf]; omega
    · have hltI : ¬ (t : Int) < (M.bids.length : Int) := by omega
      go_upto_region 11 with fail
      clear j0 j1 j2 j3 j4 jz
      go_loopw [11] (fun x wr => ∃ t : Nat, x = .int .i64 t ∧ t ≤ M.owed.length ∧ Hid (SK W2 k4 #[.bool M.call, .int .i64 M.next, .slice yb M.bids.length ybc, .slice ya M.asks.length yac, .slice yo M.owed.length yoc] (.slice yb M.bids.length ybc) (.slice yo M.owed.length yoc) M.bids.length M.owed.length wr)) (fun x _ => M.owed.length - (RowKit.intOf x).toNat)
      case atStart => exact ⟨0, rfl, Nat.zero_le _, S⟩
      case round =>
        clear S
        clear hlt hltI ht
        obtain ⟨t, rfl, ht, S⟩ := hrel
        obtain ⟨⟨j0, j1, j2, j3, j4⟩, -, jz⟩ := five5_at S.out.box
        by_cases hlt : t < M.owed.length
        · have hltI : (t : Int) < (M.owed.length : Int) := by omega
          have ht0 : (0 : Int) ≤ (t : Int) := by omega
          have hw : IntKind.i64.wrap ((t : Int) + 1) = ((t + 1 : Nat) : Int) := by rw [IntKind.wrap_i64]; omega
          obtain ⟨xs, hrow⟩ := S.out.ro
          obtain ⟨ra', rc', e, hrr⟩ := row_atG hrow 2 (by omega)
          simp only [Value.slice.injEq, true_and] at e
          obtain ⟨rfl, rfl⟩ := e
          obtain ⟨g, off, cur, u, hyb, hBg, hg, hgl, q3, qf⟩ := hrr t hlt
          rw [hyb] at j4
          have Z := hideIt (S.out.s48 (j := off + t * 3 + 2) (u := .int .i64 (-1)) hg hBg)
          have HYB := hideIt hyb
          clear hyb hrow hrr hg hBg S xs
          go_wp2
          go_roundw
          case rel => exact ⟨t + 1, by go_num, by omega, Z⟩
          case measure => simp [RowKit.intOf]; omega
        · have hltI : ¬ (t : Int) < (M.owed.length : Int) := by omega
          go_upto_region 14 with fail
          clear j0 j1 j2 j3 j4 jz
          have XE := hideIt (X2.out.keep S.out.bel)
          obtain ⟨c0, c1, c2, c3, c4⟩ := XE.out.cells
          have kz : w.heap.size < wr.heap.size := XE.out.size
          obtain ⟨⟨d0, d1, d2, d3, d4⟩, -, dz⟩ := five5_at (blkK K2.out S.out.bel)
          go_wp2_with fail
          refine (HSL.out _ _ _ _ _ _ _ (L2.out.keep S.out.bel) (HL.out _ XE.out.bel)).mono ?_
          rintro e w10 ⟨rfl, hb⟩
          dsimp only
          have B5 := hideIt (below_via XE.out.bel hb)
          clear hb XE S HSL HL d0 d1 d2 d3 d4 dz c0 c1 c2 c3 c4 kz
          go_wp2_with fail
          refine (HLV.out _).mono ?_
          rintro e w11 ⟨rfl, hb⟩
          dsimp only
          have B6 := hideIt (below_via B5.out hb)
          clear hb B5
          go_wp2
          go_ret
          exact ⟨rfl, B6.out⟩
end Go.Proofs.Ytgnmghcdfihmgaa
