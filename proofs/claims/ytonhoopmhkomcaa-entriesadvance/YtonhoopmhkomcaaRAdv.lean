/- What is committed by what others have: the document. -/
import Derived.Test.YtonhoopmhkomcaaAvP
import Derived.Test.YtonhoopmhkomcaaRLast
namespace Go.Proofs.Ytonhoopmhkomcaa
open Go.RowKit
theorem bN {B : Nat} {a w : World} (h : Below B a w) (n : Nat) : Below B a (w.drewN n) := h.trans ⟨rfl, rfl, rfl, Nat.le_refl _, fun _ _ => rfl⟩
theorem own_ne2 {w : World} {B n k j : Nat} {v u : Value} {xs : List Value} {cs : Array Value} (h : w.ownsRow B 40 3 v n xs) (hx : w.heap[k]? = some (.cells cs 26 (0, 0))) : (w.setCell ⟨k, j, none⟩ u).ownsRow B 40 3 v n xs := by
  obtain ⟨h1, h2 | ⟨q, cap, cur, hv, hB, hg, r⟩⟩ := h
  · exact ⟨h1, .inl h2⟩
  · refine ⟨h1, .inr ⟨q, cap, cur, hv, hB, (heap_set_other _ _ _ _ _ (fun e => ?_)).trans hg, r⟩⟩
    rw [e, hx] at hg
    simp at hg
theorem cnt_take (m : List Int) (j : Nat) (y : Int) (h : j < m.length) : cntL (m.take (j + 1)) y = cntL (m.take j) y + if y ≤ m.getD j 0 then 1 else 0 := by
  rw [List.take_succ_eq_append_getElem h, cnt_app]
  have : m.getD j 0 = m[j] := by rw [List.getD, List.getElem?_eq_getElem h]; rfl
  rw [this]
  unfold cntL
  by_cases c : y ≤ m[j] <;> simp [c]
set_option maxHeartbeats 16000000 in
set_option maxRecDepth 100000 in
theorem rAdvance_is (L : LogV) (g k : Value) (term : Int) (m : List Int) (w : World) (h : EGot w g L.l) (hk : NGot w k m) : Calls Try.prog 27 #[logV L g, .int .i64 term, k] w (LogErr (advL L term m) w) := by
  have T0 := hideIt (LR.first w L g)
  have H1 := hideIt (rCheck_is L g _ (h.keep T0.out.bel))
  have HW1 := hideIt (fun wx => rwithin_is term 1 1000000 wx)
  have HW2 := hideIt (fun wx => rwithin_is (m.length : Int) 1 7 wx)
  unfold LogErr
  cases hm : mayB L
  · rw [show chkI L = 80 by simp [chkI, hm]] at H1
    rw [show advL L term m = (zL, 80) by unfold advL; rw [hm, if_pos rfl]]
    obtain ⟨a, c, rfl⟩ := h.slice
    obtain ⟨_, ka, kc, rfl, _⟩ := hk
    unfold logV logA at *
    obtain ⟨bi, bt, l, cm⟩ := L
    simp only at H1 T0 ⊢
    clear h hm
    go_enter Try.func27, Try.ntmps27
    go_wp2_with fail
    refine H1.out.mono ?_
    rintro e w1 ⟨rfl, hbl⟩
    dsimp only
    have T1 := hideIt (T0.out.keep hbl)
    clear hbl T0 H1
    obtain ⟨z0, z1, z2, z3, zf⟩ := T1.out.zero
    have HP := T1.out.put (.int .i64 0) (.int .i64 0) (.slice none 0 0) (.int .i64 0)
    obtain ⟨e1, e2⟩ := HP.out
    clear HP T1
    go_wp2
    revert e1 e2
    generalize (World.setCell _ ⟨w.heap.size + 1, 3, none⟩ _) = W
    intro e1 e2
    exact bodyPost_ret (v := .tuple #[logV zL (.slice none 0 0), .int .i64 80]) (by simp [results, Try.results27, go_sem, cell_at e1, logV, logA, zL]) rfl ⟨_, rfl, own_nil _ _, e2⟩
  · rw [show chkI L = 0 by simp [chkI, hm]] at H1
    have hadv : advL L term m = if advB term m = false then (zL, 1) else if L.cm < midL m ∧ hasM L (midL m) term = true then (⟨L.bi, L.bt, L.l, midL m⟩, 0) else (L, 0) := by
      unfold advL
      rw [hm, if_neg (by simp)]
    cases h2 : wiB term 1 1000000
    · rw [h2] at HW1
      rw [hadv, if_pos (by unfold advB; rw [h2]; rfl)]
      obtain ⟨a, c, rfl⟩ := h.slice
      obtain ⟨_, ka, kc, rfl, _⟩ := hk
      unfold logV logA at *
      obtain ⟨bi, bt, l, cm⟩ := L
      simp only at H1 T0 ⊢
      clear h hm hadv
      go_enter Try.func27, Try.ntmps27
      go_wp2_with fail
      refine H1.out.mono ?_
      rintro e w1 ⟨rfl, hbl⟩
      dsimp only
      have T1 := hideIt (T0.out.keep hbl)
      clear hbl T0 H1
      go_wp2_with fail
      refine (HW1.out _).mono ?_
      rintro e w2 ⟨rfl, rfl⟩
      dsimp only
      obtain ⟨z0, z1, z2, z3, zf⟩ := T1.out.zero
      have HP := T1.out.put (.int .i64 0) (.int .i64 0) (.slice none 0 0) (.int .i64 0)
      obtain ⟨e1, e2⟩ := HP.out
      clear HP T1
      go_wp2
      revert e1 e2
      generalize (World.setCell _ ⟨w.heap.size + 1, 3, none⟩ _) = W
      intro e1 e2
      exact bodyPost_ret (v := .tuple #[logV zL (.slice none 0 0), .int .i64 1]) (by simp [results, Try.results27, go_sem, cell_at e1, logV, logA, zL]) rfl ⟨_, rfl, own_nil _ _, e2⟩
    · rw [h2] at HW1
      cases h3 : wiB (m.length : Int) 1 7
      · rw [h3] at HW2
        rw [hadv, if_pos (by unfold advB; rw [h2, h3]; rfl)]
        obtain ⟨a, c, rfl⟩ := h.slice
        obtain ⟨_, ka, kc, rfl, _⟩ := hk
        unfold logV logA at *
        obtain ⟨bi, bt, l, cm⟩ := L
        simp only at H1 T0 ⊢
        clear h hm hadv
        go_enter Try.func27, Try.ntmps27
        go_wp2_with fail
        refine H1.out.mono ?_
        rintro e w1 ⟨rfl, hbl⟩
        dsimp only
        have T1 := hideIt (T0.out.keep hbl)
        clear hbl T0 H1
        go_wp2_with fail
        refine (HW1.out _).mono ?_
        rintro e w2 ⟨rfl, rfl⟩
        dsimp only
        go_wp2_with fail
        refine (HW2.out _).mono ?_
        rintro e w2 ⟨rfl, rfl⟩
        dsimp only
        obtain ⟨z0, z1, z2, z3, zf⟩ := T1.out.zero
        have HP := T1.out.put (.int .i64 0) (.int .i64 0) (.slice none 0 0) (.int .i64 0)
        obtain ⟨e1, e2⟩ := HP.out
        clear HP T1
        go_wp2
        revert e1 e2
        generalize (World.setCell _ ⟨w.heap.size + 1, 3, none⟩ _) = W
        intro e1 e2
        exact bodyPost_ret (v := .tuple #[logV zL (.slice none 0 0), .int .i64 1]) (by simp [results, Try.results27, go_sem, cell_at e1, logV, logA, zL]) rfl ⟨_, rfl, own_nil _ _, e2⟩
      · rw [h3] at HW2
        have hml : 1 ≤ (m.length : Int) ∧ (m.length : Int) ≤ 7 := of_decide_eq_true h3
        have HNEG : Hid ((∃ t, t < m.length ∧ m.getD t 0 < 0) → advL L term m = (zL, 1)) := by
          rintro ⟨t, ht, hz⟩
          rw [hadv, if_pos]
          unfold advB
          rw [h2, h3, decide_eq_false]
          · rfl
          · rw [min_neg (by omega)]
            intro hc
            have := hc (m.getD t 0) (by rw [List.getD, List.getElem?_eq_getElem ht]; exact List.getElem_mem ht)
            omega
        have HPOS : Hid ((∀ t, t < m.length → 0 ≤ m.getD t 0) → bstL m m.length = midL m ∧ advL L term m = if L.cm < midL m ∧ hasM L (midL m) term = true then (⟨L.bi, L.bt, L.l, midL m⟩, 0) else (L, 0)) := by
          intro hp
          have hall : ∀ z ∈ m, 0 ≤ z := fun z hz => by
            obtain ⟨j, hj, rfl⟩ := List.mem_iff_getElem.1 hz
            have := hp j hj
            rwa [List.getD, List.getElem?_eq_getElem hj] at this
          refine ⟨bst_mid (by omega) (hall _ (mid_mem (by omega))), ?_⟩
          rw [hadv, if_neg]
          unfold advB
          rw [h2, h3, decide_eq_true ((min_neg (by omega)).2 hall)]
          simp
        have HTM := hideIt (fun x => hasM_term hm x term)
        have HTA := hideIt (fun x wx (hx : Below w.heap.size w wx) => rTermAt_is L g x wx (h.keep hx))
        have HCO := hideIt (fun wx (hx : Below w.heap.size w wx) => copy_is L g wx (h.keep hx))
        have h8 := h.1
        have HHK : Hid (∀ wx, Below w.heap.size w wx → NGot wx k m) := fun wx hx => hk.keep hx
        unfold LogBack at HCO
        obtain ⟨a, c, rfl⟩ := h.slice
        obtain ⟨_, ka, kc, rfl, _⟩ := hk
        generalize advL L term m = R at *
        unfold logV logA at *
        obtain ⟨bi, bt, l, cm⟩ := L
        simp only at H1 T0 HTA HCO HPOS h8 ⊢
        clear h hm hadv h2 h3
        go_enter Try.func27, Try.ntmps27
        go_wp2_with fail
        refine H1.out.mono ?_
        rintro e w1 ⟨rfl, hbl⟩
        dsimp only
        have T1 := hideIt (T0.out.keep hbl)
        clear hbl T0 H1
        go_wp2_with fail
        refine (HW1.out _).mono ?_
        rintro e w2 ⟨rfl, rfl⟩
        dsimp only
        go_wp2_with fail
        refine (HW2.out _).mono ?_
        rintro e w2 ⟨rfl, rfl⟩
        dsimp only
        clear HW1 HW2
        go_upto_region 7 with fail
        go_loopw [8, 9] (fun u v wr => ∃ t : Nat, u = .int .i64 (bstL m t) ∧ v = .int .i64 t ∧ t ≤ m.length ∧ Hid ((∀ j, j < t → 0 ≤ m.getD j 0) ∧ LR w ⟨bi, bt, l, cm⟩ (.slice a l.length c) wr)) (fun _ v _ => m.length - (intOf v).toNat)
        case atStart => exact ⟨0, rfl, rfl, Nat.zero_le _, hideIt ⟨fun j hj => by omega, T1.out⟩⟩
        case round =>
          obtain ⟨t, rfl, rfl, ht, HR⟩ := hrel
          by_cases hlt : t < m.length
          · have hltI : (t : Int) < (m.length : Int) := by omega
            have ht0 : (0 : Int) ≤ (t : Int) := by omega
            have hNK : ∃ b off, ka = some ⟨b, off, none⟩ ∧ ∀ wx, Below w.heap.size w wx → ∀ j, j < m.length → wx.cell? ⟨b, off + j, none⟩ = some (.int .i64 (m.getD j 0)) := by
              obtain ⟨_, a1, c1, e1, hr1⟩ := HHK.out w (Below.refl _ _)
              simp only [Value.slice.injEq] at e1
              obtain ⟨rfl, -, -⟩ := e1
              obtain ⟨b, off, rfl, hbl, hc⟩ := hr1 (by omega)
              exact ⟨b, off, rfl, fun wx hx j hj => (hx.cell (p := ⟨b, off + j, none⟩) hbl).trans (hc j hj)⟩
            obtain ⟨b, off, rfl, hNC⟩ := hNK
            have HNC := hideIt hNC
            clear hNC
            have ct := HNC.out wr HR.out.2.bel t hlt
            obtain ⟨y, hy⟩ : ∃ y, y = m.getD t 0 := ⟨_, rfl⟩
            rw [← hy] at ct
            have HY := hideIt hy
            by_cases hz : y < 0
            · have hR := HNEG.out ⟨t, hlt, by rw [← hy]; exact hz⟩
              subst hR
              have T2 := hideIt HR.out.2
              clear HR HPOS HNEG HTM HTA HCO hy
              obtain ⟨z0, z1, z2, z3, zf⟩ := T2.out.zero
              have HP := T2.out.put (.int .i64 0) (.int .i64 0) (.slice none 0 0) (.int .i64 0)
              obtain ⟨e1, e2⟩ := HP.out
              clear HP T2
              go_wp2
              revert e1 e2
              generalize (World.setCell _ ⟨w.heap.size + 1, 3, none⟩ _) = W
              intro e1 e2
              exact bodyPost_ret (v := .tuple #[logV zL (.slice none 0 0), .int .i64 1]) (by simp [results, Try.results27, go_sem, cell_at e1, logV, logA, zL]) rfl ⟨_, rfl, own_nil _ _, e2⟩
            · have hzI : 0 ≤ y := by omega
              clear hy
              go_upto_region 13 with fail
              go_loopw [10, 11] (fun u v wz => ∃ j : Nat, u = .int .i64 (cntL (m.take j) y : Int) ∧ v = .int .i64 j ∧ j ≤ m.length ∧ Hid (LR w ⟨bi, bt, l, cm⟩ (.slice a l.length c) wz)) (fun _ v _ => m.length - (intOf v).toNat)
              case atStart => exact ⟨0, rfl, rfl, Nat.zero_le _, hideIt HR.out.2⟩
              case round =>
                obtain ⟨j, rfl, rfl, hj, HV⟩ := hrel
                by_cases hjl : j < m.length
                · have hjI : (j : Int) < (m.length : Int) := by omega
                  have hj0 : (0 : Int) ≤ (j : Int) := by omega
                  have cj := HNC.out wr HV.out.bel j hjl
                  have cu := HNC.out wr HV.out.bel t hlt
                  rw [← HY.out] at cu
                  have HCT := hideIt (cnt_take m j y hjl)
                  have hcl := cnt_le (m.take j) y
                  rw [List.length_take] at hcl
                  generalize m.getD j 0 = z at *
                  generalize cntL (m.take j) y = n at *
                  clear ct
                  by_cases hyz : y ≤ z
                  · rw [if_pos hyz] at HCT
                    go_upto_region 15 with fail
                    go_quiet (fail)
                    go_wp2
                    go_roundw
                    case rel => exact ⟨j + 1, by rw [HCT.out]; go_num, by go_num, by omega, hideIt (HV.out.keep (bN (Below.refl _ _) _))⟩
                    case measure => simp [intOf]; omega
                  · rw [if_neg hyz] at HCT
                    have hyI : z < y := by omega
                    go_upto_region 15 with fail
                    go_quiet (fail)
                    go_wp2
                    go_roundw
                    case rel => exact ⟨j + 1, by rw [HCT.out]; go_num, by go_num, by omega, hideIt (HV.out.keep (bN (Below.refl _ _) _))⟩
                    case measure => simp [intOf]; omega
                · have hjI : ¬ (j : Int) < (m.length : Int) := by omega
                  have hjj : m.take j = m := List.take_of_length_le (by omega)
                  rw [hjj]
                  have HBT : Hid (bstL m (t + 1) = if m.length < 2 * cntL m y then max (bstL m t) y else bstL m t) := by
                    show _ = _
                    rw [bstL, ← HY.out]
                  have HPY : Hid (∀ q, q < t + 1 → 0 ≤ m.getD q 0) := fun q hq => by
                    by_cases e : q = t
                    · rw [e, ← HY.out]
                      exact hzI
                    · exact HR.out.1 q (by omega)
                  have cu := HNC.out wr HV.out.bel t hlt
                  rw [← HY.out] at cu
                  have hcl := cnt_le m y
                  generalize cntL m y = n at *
                  generalize bstL m t = bs at *
                  have hw2 : IntKind.i64.wrap (2 * (n : Int)) = 2 * (n : Int) := by rw [IntKind.wrap_i64]; omega
                  by_cases hmn : m.length < 2 * n
                  · rw [if_pos hmn] at HBT
                    have hmI : (m.length : Int) < 2 * (n : Int) := by omega
                    go_wp2
                    go_roundw
                    case rel => exact ⟨t + 1, by rw [HBT.out], by go_num, by omega, hideIt ⟨HPY.out, HV.out⟩⟩
                    case measure => simp [intOf]; omega
                  · rw [if_neg hmn] at HBT
                    have hmI : ¬ ((m.length : Int) < 2 * (n : Int)) := by omega
                    go_wp2
                    go_roundw
                    case rel => exact ⟨t + 1, by rw [HBT.out], by go_num, by omega, hideIt ⟨HPY.out, HV.out⟩⟩
                    case measure => simp [intOf]; omega
          · have hltI : ¬ (t : Int) < (m.length : Int) := by omega
            have htm : t = m.length := by omega
            subst htm
            obtain ⟨hb, hR⟩ := HPOS.out (fun q hq => HR.out.1 q hq)
            rw [hb]
            replace HTM := hideIt (HTM.out (midL m))
            replace HTA := hideIt (HTA.out (midL m))
            have T2 := hideIt HR.out.2
            generalize hx : midL m = x at *
            rw [HTM.out] at hR
            generalize termL ⟨bi, bt, l, cm⟩ x = te at *
            obtain ⟨te1, te2⟩ := te
            simp only at HTA hR
            clear HR HPOS HNEG HTM hb hx
            by_cases hc1 : cm < x
            · cases te2
              · rw [if_neg (by simp)] at hR
                subst hR
                obtain ⟨c0, c1, c2, c3, ff⟩ := T2.out.cells
                simp only at c0 c1 c2 c3
                go_wp2_with fail
                refine (HCO.out _ T2.out.bel).mono ?_
                rintro e w5 ⟨gx, rfl, ho, hbl⟩
                dsimp only
                obtain ⟨ra, rc, rfl⟩ := own_len ho
                have C5 := hideIt (below_via hbl (below1 w5 (.cells #[.int .i64 bi, .int .i64 bt, .slice ra l.length rc, .int .i64 cm] 26)))
                have X5 := hideIt (heap_alloc_new w5 (.cells #[.int .i64 bi, .int .i64 bt, .slice ra l.length rc, .int .i64 cm] 26))
                have O5 := hideIt (own_keep ho (below1 w5 (.cells #[.int .i64 bi, .int .i64 bt, .slice ra l.length rc, .int .i64 cm] 26)))
                have K5 := hideIt hbl.size
                have T5 := hideIt (T2.out.keep C5.out)
                clear ho hbl HCO c0 c1 c2 c3 ff
                go_upto_region 20 with fail
                generalize w5.alloc (.cells #[.int .i64 bi, .int .i64 bt, .slice ra l.length rc, .int .i64 cm] 26) = w6 at *
                generalize w5.heap.size = k5 at *
                obtain ⟨c0, c1, c2, c3, ff⟩ := T5.out.cells
                simp only at c0 c1 c2 c3
                go_wp2_with fail
                refine (HTA.out _ T5.out.bel).mono ?_
                rintro e w7 ⟨rfl, hbl⟩
                dsimp only
                have B7 := hideIt (below_via C5.out hbl)
                have T7 := hideIt (T2.out.keep B7.out)
                have X7 := hideIt ((hbl.block _ (Array.getElem?_eq_some_iff.1 X5.out).1).trans X5.out)
                have O7 := hideIt (own_keep O5.out hbl)
                clear hbl T5 X5 O5 C5 HTA c0 c1 c2 c3 ff
                obtain ⟨c0, c1, c2, c3, ff⟩ := T7.out.cells
                simp only at c0 c1 c2 c3
                have y0 : w7.cell? ⟨k5, 0, none⟩ = some (.int .i64 bi) := by rw [cell_at X7.out]; rfl
                have y1 : w7.cell? ⟨k5, 1, none⟩ = some (.int .i64 bt) := by rw [cell_at X7.out]; rfl
                have y2 : w7.cell? ⟨k5, 2, none⟩ = some (.slice ra l.length rc) := by rw [cell_at X7.out]; rfl
                have y3 : w7.cell? ⟨k5, 3, none⟩ = some (.int .i64 cm) := by rw [cell_at X7.out]; rfl
                have HP := T7.out.put (.int .i64 bi) (.int .i64 bt) (.slice ra l.length rc) (.int .i64 cm)
                obtain ⟨z0, z1, z2, z3, zf⟩ := T7.out.zero
                obtain ⟨e1, e2⟩ := HP.out
                have hs2 := T2.out.size
                have e3 := (own4 (R := w.heap.size + 1) (.int .i64 bi) (.int .i64 bt) (.slice ra l.length rc) (.int .i64 cm) O7.out (by omega) w.heap.size (by omega)).out
                clear HP O7 X7 hs2
                go_wp2
                revert e1 e2 e3
                generalize (World.setCell _ ⟨w.heap.size + 1, 3, none⟩ _) = W
                intro e1 e2 e3
                exact bodyPost_ret (v := .tuple #[logV ⟨bi, bt, l, cm⟩ (.slice ra l.length rc), .int .i64 0]) (by simp [results, Try.results27, go_sem, cell_at e1, logV, logA]) rfl ⟨_, rfl, e3, e2⟩
              · by_cases hc2 : te1 = term
                · subst hc2
                  rw [if_pos ⟨hc1, by simp⟩] at hR
                  subst hR
                  have hcb : (te1 == te1) = true := by simp
                  obtain ⟨c0, c1, c2, c3, ff⟩ := T2.out.cells
                  simp only at c0 c1 c2 c3
                  go_wp2_with fail
                  refine (HCO.out _ T2.out.bel).mono ?_
                  rintro e w5 ⟨gx, rfl, ho, hbl⟩
                  dsimp only
                  obtain ⟨ra, rc, rfl⟩ := own_len ho
                  have C5 := hideIt (below_via hbl (below1 w5 (.cells #[.int .i64 bi, .int .i64 bt, .slice ra l.length rc, .int .i64 cm] 26)))
                  have X5 := hideIt (heap_alloc_new w5 (.cells #[.int .i64 bi, .int .i64 bt, .slice ra l.length rc, .int .i64 cm] 26))
                  have O5 := hideIt (own_keep ho (below1 w5 (.cells #[.int .i64 bi, .int .i64 bt, .slice ra l.length rc, .int .i64 cm] 26)))
                  have K5 := hideIt hbl.size
                  have T5 := hideIt (T2.out.keep C5.out)
                  clear ho hbl HCO c0 c1 c2 c3 ff
                  go_upto_region 20 with fail
                  generalize w5.alloc (.cells #[.int .i64 bi, .int .i64 bt, .slice ra l.length rc, .int .i64 cm] 26) = w6 at *
                  generalize w5.heap.size = k5 at *
                  obtain ⟨c0, c1, c2, c3, ff⟩ := T5.out.cells
                  simp only at c0 c1 c2 c3
                  go_wp2_with fail
                  refine (HTA.out _ T5.out.bel).mono ?_
                  rintro e w7 ⟨rfl, hbl⟩
                  dsimp only
                  have B7 := hideIt (below_via C5.out hbl)
                  have T7 := hideIt (T2.out.keep B7.out)
                  have X7 := hideIt ((hbl.block _ (Array.getElem?_eq_some_iff.1 X5.out).1).trans X5.out)
                  have O7 := hideIt (own_keep O5.out hbl)
                  clear hbl T5 X5 O5 C5 HTA c0 c1 c2 c3 ff
                  obtain ⟨c0, c1, c2, c3, ff⟩ := T7.out.cells
                  simp only at c0 c1 c2 c3
                  have x3 : w7.cell? ⟨k5, 3, none⟩ = some (.int .i64 cm) := by rw [cell_at X7.out]; rfl
                  have xf : ∀ j, w7.frozen? ⟨k5, j, none⟩ = false := fun j => free_at X7.out j
                  have BY := belowSet (b := k5) (j := 3) (.int .i64 x) B7.out K5.out
                  have T8 := hideIt (T2.out.keep BY)
                  have X8 := hideIt (heap_set X7.out 3 (.int .i64 x))
                  have O8 := hideIt (own_ne2 (j := 3) (u := .int .i64 x) O7.out X7.out)
                  clear BY
                  go_upto_region 23 with fail
                  generalize w7.setCell ⟨k5, 3, none⟩ (.int .i64 x) = w8 at *
                  clear x3 xf T7 X7 O7 B7 c0 c1 c2 c3 ff
                  have X7 := X8
                  have O7 := O8
                  clear X8 O8
                  have y0 : w8.cell? ⟨k5, 0, none⟩ = some (.int .i64 bi) := by rw [cell_at X7.out]; rfl
                  have y1 : w8.cell? ⟨k5, 1, none⟩ = some (.int .i64 bt) := by rw [cell_at X7.out]; rfl
                  have y2 : w8.cell? ⟨k5, 2, none⟩ = some (.slice ra l.length rc) := by rw [cell_at X7.out]; rfl
                  have y3 : w8.cell? ⟨k5, 3, none⟩ = some (.int .i64 x) := by rw [cell_at X7.out]; rfl
                  have HP := T8.out.put (.int .i64 bi) (.int .i64 bt) (.slice ra l.length rc) (.int .i64 x)
                  obtain ⟨z0, z1, z2, z3, zf⟩ := T8.out.zero
                  obtain ⟨e1, e2⟩ := HP.out
                  have hs2 := T2.out.size
                  have e3 := (own4 (R := w.heap.size + 1) (.int .i64 bi) (.int .i64 bt) (.slice ra l.length rc) (.int .i64 x) O7.out (by omega) w.heap.size (by omega)).out
                  clear HP O7 X7 hs2
                  go_wp2
                  revert e1 e2 e3
                  generalize (World.setCell _ ⟨w.heap.size + 1, 3, none⟩ _) = W
                  intro e1 e2 e3
                  exact bodyPost_ret (v := .tuple #[logV ⟨bi, bt, l, x⟩ (.slice ra l.length rc), .int .i64 0]) (by simp [results, Try.results27, go_sem, cell_at e1, logV, logA]) rfl ⟨_, rfl, e3, e2⟩
                · have hcb : (te1 == term) = false := beq_eq_false_iff_ne.2 hc2
                  rw [if_neg (by simp [hc2])] at hR
                  subst hR
                  obtain ⟨c0, c1, c2, c3, ff⟩ := T2.out.cells
                  simp only at c0 c1 c2 c3
                  go_wp2_with fail
                  refine (HCO.out _ T2.out.bel).mono ?_
                  rintro e w5 ⟨gx, rfl, ho, hbl⟩
                  dsimp only
                  obtain ⟨ra, rc, rfl⟩ := own_len ho
                  have C5 := hideIt (below_via hbl (below1 w5 (.cells #[.int .i64 bi, .int .i64 bt, .slice ra l.length rc, .int .i64 cm] 26)))
                  have X5 := hideIt (heap_alloc_new w5 (.cells #[.int .i64 bi, .int .i64 bt, .slice ra l.length rc, .int .i64 cm] 26))
                  have O5 := hideIt (own_keep ho (below1 w5 (.cells #[.int .i64 bi, .int .i64 bt, .slice ra l.length rc, .int .i64 cm] 26)))
                  have K5 := hideIt hbl.size
                  have T5 := hideIt (T2.out.keep C5.out)
                  clear ho hbl HCO c0 c1 c2 c3 ff
                  go_upto_region 20 with fail
                  generalize w5.alloc (.cells #[.int .i64 bi, .int .i64 bt, .slice ra l.length rc, .int .i64 cm] 26) = w6 at *
                  generalize w5.heap.size = k5 at *
                  obtain ⟨c0, c1, c2, c3, ff⟩ := T5.out.cells
                  simp only at c0 c1 c2 c3
                  go_wp2_with fail
                  refine (HTA.out _ T5.out.bel).mono ?_
                  rintro e w7 ⟨rfl, hbl⟩
                  dsimp only
                  have B7 := hideIt (below_via C5.out hbl)
                  have T7 := hideIt (T2.out.keep B7.out)
                  have X7 := hideIt ((hbl.block _ (Array.getElem?_eq_some_iff.1 X5.out).1).trans X5.out)
                  have O7 := hideIt (own_keep O5.out hbl)
                  clear hbl T5 X5 O5 C5 HTA c0 c1 c2 c3 ff
                  obtain ⟨c0, c1, c2, c3, ff⟩ := T7.out.cells
                  simp only at c0 c1 c2 c3
                  have y0 : w7.cell? ⟨k5, 0, none⟩ = some (.int .i64 bi) := by rw [cell_at X7.out]; rfl
                  have y1 : w7.cell? ⟨k5, 1, none⟩ = some (.int .i64 bt) := by rw [cell_at X7.out]; rfl
                  have y2 : w7.cell? ⟨k5, 2, none⟩ = some (.slice ra l.length rc) := by rw [cell_at X7.out]; rfl
                  have y3 : w7.cell? ⟨k5, 3, none⟩ = some (.int .i64 cm) := by rw [cell_at X7.out]; rfl
                  have HP := T7.out.put (.int .i64 bi) (.int .i64 bt) (.slice ra l.length rc) (.int .i64 cm)
                  obtain ⟨z0, z1, z2, z3, zf⟩ := T7.out.zero
                  obtain ⟨e1, e2⟩ := HP.out
                  have hs2 := T2.out.size
                  have e3 := (own4 (R := w.heap.size + 1) (.int .i64 bi) (.int .i64 bt) (.slice ra l.length rc) (.int .i64 cm) O7.out (by omega) w.heap.size (by omega)).out
                  clear HP O7 X7 hs2
                  go_wp2
                  revert e1 e2 e3
                  generalize (World.setCell _ ⟨w.heap.size + 1, 3, none⟩ _) = W
                  intro e1 e2 e3
                  exact bodyPost_ret (v := .tuple #[logV ⟨bi, bt, l, cm⟩ (.slice ra l.length rc), .int .i64 0]) (by simp [results, Try.results27, go_sem, cell_at e1, logV, logA]) rfl ⟨_, rfl, e3, e2⟩
            · have hcI : x ≤ cm := by omega
              rw [if_neg (fun hc => hc1 hc.1)] at hR
              subst hR
              obtain ⟨c0, c1, c2, c3, ff⟩ := T2.out.cells
              simp only at c0 c1 c2 c3
              go_wp2_with fail
              refine (HCO.out _ T2.out.bel).mono ?_
              rintro e w5 ⟨gx, rfl, ho, hbl⟩
              dsimp only
              obtain ⟨ra, rc, rfl⟩ := own_len ho
              have C5 := hideIt (below_via hbl (below1 w5 (.cells #[.int .i64 bi, .int .i64 bt, .slice ra l.length rc, .int .i64 cm] 26)))
              have X5 := hideIt (heap_alloc_new w5 (.cells #[.int .i64 bi, .int .i64 bt, .slice ra l.length rc, .int .i64 cm] 26))
              have O5 := hideIt (own_keep ho (below1 w5 (.cells #[.int .i64 bi, .int .i64 bt, .slice ra l.length rc, .int .i64 cm] 26)))
              have K5 := hideIt hbl.size
              have T5 := hideIt (T2.out.keep C5.out)
              clear ho hbl HCO c0 c1 c2 c3 ff
              go_upto_region 20 with fail
              generalize w5.alloc (.cells #[.int .i64 bi, .int .i64 bt, .slice ra l.length rc, .int .i64 cm] 26) = w6 at *
              generalize w5.heap.size = k5 at *
              obtain ⟨c0, c1, c2, c3, ff⟩ := T5.out.cells
              simp only at c0 c1 c2 c3
              go_wp2_with fail
              refine (HTA.out _ T5.out.bel).mono ?_
              rintro e w7 ⟨rfl, hbl⟩
              dsimp only
              have B7 := hideIt (below_via C5.out hbl)
              have T7 := hideIt (T2.out.keep B7.out)
              have X7 := hideIt ((hbl.block _ (Array.getElem?_eq_some_iff.1 X5.out).1).trans X5.out)
              have O7 := hideIt (own_keep O5.out hbl)
              clear hbl T5 X5 O5 C5 HTA c0 c1 c2 c3 ff
              obtain ⟨c0, c1, c2, c3, ff⟩ := T7.out.cells
              simp only at c0 c1 c2 c3
              have y0 : w7.cell? ⟨k5, 0, none⟩ = some (.int .i64 bi) := by rw [cell_at X7.out]; rfl
              have y1 : w7.cell? ⟨k5, 1, none⟩ = some (.int .i64 bt) := by rw [cell_at X7.out]; rfl
              have y2 : w7.cell? ⟨k5, 2, none⟩ = some (.slice ra l.length rc) := by rw [cell_at X7.out]; rfl
              have y3 : w7.cell? ⟨k5, 3, none⟩ = some (.int .i64 cm) := by rw [cell_at X7.out]; rfl
              have HP := T7.out.put (.int .i64 bi) (.int .i64 bt) (.slice ra l.length rc) (.int .i64 cm)
              obtain ⟨z0, z1, z2, z3, zf⟩ := T7.out.zero
              obtain ⟨e1, e2⟩ := HP.out
              have hs2 := T2.out.size
              have e3 := (own4 (R := w.heap.size + 1) (.int .i64 bi) (.int .i64 bt) (.slice ra l.length rc) (.int .i64 cm) O7.out (by omega) w.heap.size (by omega)).out
              clear HP O7 X7 hs2
              go_wp2
              revert e1 e2 e3
              generalize (World.setCell _ ⟨w.heap.size + 1, 3, none⟩ _) = W
              intro e1 e2 e3
              exact bodyPost_ret (v := .tuple #[logV ⟨bi, bt, l, cm⟩ (.slice ra l.length rc), .int .i64 0]) (by simp [results, Try.results27, go_sem, cell_at e1, logV, logA]) rfl ⟨_, rfl, e3, e2⟩
end Go.Proofs.Ytonhoopmhkomcaa
