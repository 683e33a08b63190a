/- The document's unlike: do no two orders have one number? -/
import Derived.Test.YtgnmghcdfihmgaaROr
import Derived.Test.YtgnmghcdfihmgaaRCo
import Derived.Test.YtgnmghcdfihmgaaPlN
namespace Go.Proofs.Ytgnmghcdfihmgaa
open Go.RowKit
set_option linter.all false
theorem appW {W w : World} {B : Nat} {v g : Value} {xs l : List OrdV} (hB : B ≤ w.heap.size) (ho : w.ownsRow B 38 4 v xs.length (celC ordE xs)) (hg : Ords w g l) (hl : (xs.length + l.length) * 32 ≤ 140737488355328) (hW : W.heap.size ≤ B) (hb : Below W.heap.size W w) :
    ∃ v' w', (Builtin.append_ #[22, 22] 22 #[v, g]).run Try.prog w = .ok v' w' ∧ w'.ownsRow B 38 4 v' (xs ++ l).length (celC ordE (xs ++ l)) ∧ Below W.heap.size W w' := by
  obtain ⟨a, c, rfl⟩ := hg.slice
  cases a with
  | none =>
    have h0 : l.length = 0 := by
      obtain ⟨_, a', c', e', _, hr⟩ := hg
      simp only [Value.slice.injEq] at e'
      rcases Nat.eq_zero_or_pos l.length with h0 | h0
      · exact h0
      · obtain ⟨b, off, hb, _⟩ := hr h0
        rw [← e'.1] at hb
        cases hb
    have hl0 : l = [] := List.length_eq_zero_iff.1 h0
    subst hl0
    exact ⟨v, w, app_none Try.underlying22 info36 w B v xs.length _ ho c, by rw [List.append_nil]; exact ho, hb⟩
  | some b =>
    obtain ⟨v', w', hrun, how, hgr⟩ := appL ordK ord1 Try.underlying22 info36 rfl (by omega) (by omega) w B v xs l b l.length c rfl hB ho hg hl
    exact ⟨v', w', hrun, how, grown_own hgr ho hW hb⟩
theorem ids_take_nd {l : List OrdV} {t : Nat} (h : t < l.length) (hn : (idsL (l.take t)).Nodup) (hk : ∀ j (hj : j < t), (l[j]'(by omega)).id ≠ l[t].id) : (idsL (l.take (t + 1))).Nodup := by
  unfold idsL at *
  rw [List.take_succ_eq_append_getElem h, List.map_append, List.nodup_append]
  refine ⟨hn, by simp, fun x hx y hy e => ?_⟩
  simp only [List.map_cons, List.map_nil, List.mem_singleton] at hy
  subst hy
  subst e
  rw [List.mem_map] at hx
  obtain ⟨o, ho, e⟩ := hx
  obtain ⟨j, hj, rfl⟩ := List.mem_iff_getElem.1 ho
  rw [List.length_take] at hj
  exact hk j (by omega) (by rw [← e, List.getElem_take])
theorem nd_not {l : List OrdV} {j t : Nat} (h : t < l.length) (hj : j < t) (e : (l[j]'(by omega)).id = l[t].id) : ¬ (idsL l).Nodup := by
  intro hn
  unfold idsL at hn
  have := (List.nodup_iff_pairwise_ne.1 hn)
  rw [List.pairwise_iff_getElem] at this
  have h2 := this j t (by rw [List.length_map]; omega) (by rw [List.length_map]; omega) hj
  rw [List.getElem_map, List.getElem_map] at h2
  exact h2 e
theorem ids_app (l k : List OrdV) : idsL l ++ idsL k = idsL (l ++ k) := by unfold idsL; rw [List.map_append]
set_option maxHeartbeats 8000000 in
set_option maxRecDepth 100000 in
theorem rUnlike_is (L : LaneV) (b a o : Value) (w : World) (h : Lan w L b a o) (hlb : L.bids.length ≤ 40) (hla : L.asks.length ≤ 40) : Calls Try.prog 66 #[laneV L b a o] w fun e w' => e = .returned (.bool (unlB L)) ∧ Below w.heap.size w w' := by
  have HB1 := hideIt (below1 w (.cells (laneA L b a o) 25))
  have HX1 := hideIt (heap_alloc_new w (.cells (laneA L b a o) 25))
  have H := hideIt (h.keep HB1.out)
  have HU := hideIt (unl_iff L)
  generalize unlB L = ub at *
  obtain ⟨ba, bc, rfl⟩ := h.bids.slice
  obtain ⟨aa, ac, rfl⟩ := h.asks.slice
  obtain ⟨oa, oc, rfl⟩ := h.owed.slice
  clear h
  unfold laneV
  unfold laneA at *
  go_enter Try.func66, Try.ntmps66
  go_upto_region 2 with fail
  generalize w.alloc (.cells #[.bool L.call, .int .i64 L.next, .slice ba L.bids.length bc, .slice aa L.asks.length ac, .slice oa L.owed.length oc] 25) = W1 at *
  obtain ⟨xa, xc, w2, hrun, ho, hb⟩ := app0 (enc := ordE) (t := 22) ordK ord1 Try.underlying22 info36 rfl (by omega) (by omega) W1 _ _ H.out.bids
  obtain ⟨v3, w3, hrun3, ho3, hb3⟩ := appW (W := W1) hb.size ho (H.out.keep hb).asks (by omega) (Nat.le_refl _) hb
  obtain ⟨⟨c0, c1, c2, c3, c4⟩, -, cl0⟩ := five_at HX1.out
  obtain ⟨⟨d0, d1, d2, d3, d4⟩, -, dl0⟩ := five_at (blkK HX1.out hb)
  have HRUN := hideIt hrun
  have HRUN3 := hideIt hrun3
  have HL3 : Hid (Ords w3 v3 (L.bids ++ L.asks)) := own_sgot ho3 (by rw [List.length_append]; omega)
  have HB3 := hideIt (below_via HB1.out hb3)
  clear hrun hrun3 ho hb ho3 hb3 H HX1
  go_upto_region 3 with (at_builtin; refine Lib.wpList_append_run _ rfl _ _ _ _ rfl _ _ rfl rfl _ _ HRUN.out ?_)
  clear c0 c1 c2 c3 c4 cl0 HRUN
  go_upto_region 5 with (at_builtin; refine Lib.wpList_append_run _ rfl _ _ _ _ rfl _ _ rfl rfl _ _ HRUN3.out ?_)
  clear d0 d1 d2 d3 d4 dl0 HRUN3 HB1
  rw [ids_app] at HU
  generalize L.bids ++ L.asks = l at *
  obtain ⟨ad, c, rfl, h8, hr⟩ := HL3.out.ords
  have HH := hideIt hr
  clear hr HL3
  go_loopw [4] (fun v wr => ∃ t : Nat, v = .int .i64 t ∧ t ≤ l.length ∧ Hid ((idsL (l.take t)).Nodup ∧ Below w3.heap.size w3 wr)) (fun v _ => l.length - (intOf v).toNat)
  case atStart => exact ⟨0, rfl, Nat.zero_le _, hideIt ⟨by simp [idsL], Below.refl _ _⟩⟩
  case round =>
    obtain ⟨t, rfl, ht, HR⟩ := hrel
    by_cases hlt : t < l.length
    · have hltI : (t : Int) < (l.length : Int) := by omega
      have ht0 : (0 : Int) ≤ (t : Int) := by omega
      have hw : IntKind.i64.wrap ((t : Int) + 1) = ((t + 1 : Nat) : Int) := by rw [IntKind.wrap_i64]; omega
      have HND := hideIt HR.out.1
      have HBR := hideIt HR.out.2
      clear HR
      go_upto_region 8 with fail
      go_loopw [5] (fun v wx => ∃ j : Nat, v = .int .i64 j ∧ j ≤ t ∧ Hid ((∀ i (hi : i < j) (hj : i < l.length), (l[i]'hj).id ≠ l[t].id) ∧ Below w3.heap.size w3 wx)) (fun v _ => t - (intOf v).toNat)
      case atStart => exact ⟨0, rfl, Nat.zero_le _, hideIt ⟨fun i hi => by omega, HBR.out⟩⟩
      case round =>
        clear HBR
        obtain ⟨j, rfl, hj, HR⟩ := hrel
        by_cases hjt : j < t
        · have hjI : (j : Int) < (t : Int) := by omega
          have hj0 : (0 : Int) ≤ (j : Int) := by omega
          have hjl : (j : Int) < (l.length : Int) := by omega
          have hjn : j < l.length := by omega
          have hwj : IntKind.i64.wrap ((j : Int) + 1) = ((j + 1 : Nat) : Int) := by rw [IntKind.wrap_i64]; omega
          obtain ⟨bb, off, rfl, hbl, q0, -, -, -⟩ := HH.out t hlt
          obtain ⟨b', off', e, -, p0, -, -, -⟩ := HH.out j hjn
          simp only [Option.some.injEq, Addr.mk.injEq, and_true] at e
          obtain ⟨rfl, rfl⟩ := e
          have hblr : bb < wr.heap.size := Nat.lt_of_lt_of_le hbl HR.out.2.size
          have c0 := (HR.out.2.cell (p := ⟨bb, off + t * 4, none⟩) hbl).trans q0
          have c1 := (HR.out.2.cell (p := ⟨bb, off + j * 4, none⟩) hbl).trans p0
          have HBR := hideIt HR.out.2
          by_cases hid : (l[j]'hjn).id = l[t].id
          · have HNO : Hid (ub = false) := by
              show _ = _
              have := nd_not hlt hjt hid
              cases ub with
              | false => rfl
              | true => exact absurd (HU.out.1 rfl) this
            rw [hid] at c1
            clear q0 p0 HR hid HND HH
            generalize l[t].id = it at *
            go_upto_region 10 with fail
            go_quiet (fail)
            go_wp2
            go_ret
            exact ⟨by rw [HNO.out]; rfl, below_drewN (below_via HB3.out HBR.out) _⟩
          · have HNX : Hid (∀ i (hi : i < j + 1) (hj : i < l.length), (l[i]'hj).id ≠ l[t].id) := fun i hi hl => by
              rcases Nat.lt_succ_iff_lt_or_eq.1 hi with h | h
              · exact HR.out.1 i h hl
              · subst h; exact hid
            clear q0 p0 HR HND HH
            have hne := hid
            clear hid
            generalize hgi : l[t].id = it at *
            generalize hgj : (l[j]'hjn).id = ij at *
            have HGI := hideIt hgi
            have HGJ := hideIt hgj
            clear hgi hgj
            go_upto_region 10 with fail
            go_quiet (fail)
            go_wp2
            go_roundw
            case rel => exact ⟨j + 1, by go_num, by omega, hideIt ⟨HNX.out, below_drewN HBR.out _⟩⟩
            case measure => simp [intOf]; omega
        · have hjI : ¬ (j : Int) < (t : Int) := by omega
          have HNX : Hid ((idsL (l.take (t + 1))).Nodup) := ids_take_nd hlt HND.out (fun i hi => HR.out.1 i (by omega) (by omega))
          have HBR := hideIt HR.out.2
          clear HR HND HH
          go_wp2
          go_roundw
          case rel => exact ⟨t + 1, by go_num, by omega, hideIt ⟨HNX.out, HBR.out⟩⟩
          case measure => simp [intOf]; omega
    · have hltI : ¬ (t : Int) < (l.length : Int) := by omega
      have HF : Hid (ub = true) := HU.out.2 (by have := HR.out.1; rwa [List.take_of_length_le (by omega)] at this)
      have HB := hideIt (below_via HB3.out HR.out.2)
      clear HR HH HU
      go_wp2
      go_ret
      exact ⟨by rw [HF.out]; rfl, HB.out⟩
end Go.Proofs.Ytgnmghcdfihmgaa
