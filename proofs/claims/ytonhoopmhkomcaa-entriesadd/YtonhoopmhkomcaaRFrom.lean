/- The document's entries from an index on. -/
import Derived.Test.YtonhoopmhkomcaaRLast
namespace Go.Proofs.Ytonhoopmhkomcaa
open Go.RowKit
def entA (e : EntV) : Array Value := #[.int .i64 e.term, .int .i64 e.kind, .string e.text]
theorem one_ent (w : World) (e : EntV) : EGot (w.alloc (.cells (entA e) 40)) (.slice (some ⟨w.heap.size, 0, none⟩) 1 1) [e] := by
  refine ⟨by simp, _, 1, rfl, ⟨by simp, by unfold maxLen; omega⟩, fun _ => ⟨w.heap.size, 0, rfl, by simp, fun j hj => ?_⟩⟩
  rw [cell_at (heap_alloc_new w _), Nat.zero_add]
  simp only [entC, entA]
  rw [← List.getElem?_toArray]
  rfl
theorem grow_one {W wr : World} {v : Value} {xs : List EntV} (ho : wr.ownsRow W.heap.size 40 3 v xs.length (entC xs)) (hb : Below W.heap.size W wr) (e : EntV) (hl : xs.length ≤ 1000) :
    ∃ v' w', (Builtin.append_ #[24, 24] 24 #[v, .slice (some ⟨wr.heap.size, 0, none⟩) 1 1]).run Try.prog (wr.alloc (.cells (entA e) 40)) = .ok v' w' ∧ w'.ownsRow W.heap.size 40 3 v' (xs ++ [e]).length (entC (xs ++ [e])) ∧ Below W.heap.size W w' := by
  have hs := hb.size
  obtain ⟨v', w', h1, h2, h3⟩ := run_app (wr.alloc (.cells (entA e) 40)) 24 W.heap.size v xs [e] (.slice (some ⟨wr.heap.size, 0, none⟩) 1 1) (by simp; omega) (own_keep ho (below1 wr _)) (one_ent wr e) (by rw [List.length_singleton]; omega)
  exact ⟨v', w', h1, h2, grown_own h3 (own_keep ho (below1 wr _)) (below_via hb (below1 wr _))⟩
set_option maxHeartbeats 8000000 in
set_option maxRecDepth 100000 in
theorem rFrom_is (L : LogV) (g : Value) (i m : Int) (w : World) (h : EGot w g L.l) : Calls Try.prog 18 #[logV L g, .int .i64 i, .int .i64 m] w (EntsBack (fromL L i m) w) := by
  have HI := hideIt (Box.first w L g)
  have H1 := hideIt (rCheck_is L g _ (h.keep HI.out.bel))
  have H2 := hideIt (fun wx (hx : Below w.heap.size w wx) (hm : mayB L = true) => rEnd_is L g wx (h.keep hx) (near_may hm))
  have hh := hideIt h
  obtain ⟨a, c, rfl⟩ := h.slice
  unfold EntsBack fromL
  cases hm : mayB L
  · have hc80 : chkI L = 80 := by simp [chkI, hm]
    rw [hc80] at H1
    simp only [Bool.false_and, Bool.false_eq_true, if_false]
    unfold logV logA at *
    obtain ⟨bi, bt, l, cm⟩ := L
    simp only at H1 HI ⊢
    clear h H2 hh hm
    go_enter Try.func18, Try.ntmps18
    go_wp2_with fail
    refine H1.out.mono ?_
    rintro e w1 ⟨rfl, hbl⟩
    dsimp only
    have I1 := hideIt (HI.out.keep hbl)
    clear hbl HI H1
    obtain ⟨c0, c1, c2, c3⟩ := I1.out.cells
    simp only at c0 c1 c2 c3
    have B1 := hideIt I1.out.bel
    go_wp2
    go_ret
    exact ⟨_, rfl, own_nil _ _, B1.out⟩
  · have hc0 : chkI L = 0 := by simp [chkI, hm]
    rw [hc0] at H1
    replace H2 := hideIt (fun wx hx => H2.out wx hx hm)
    have hin := mayB_in hm
    have hHB : hasB L i = decide (L.bi + 1 ≤ i ∧ i ≤ lasI L) := rfl
    have hL : lasI L = L.bi + (L.l.length : Int) := rfl
    by_cases h1 : i ≤ L.bi
    · rw [hHB, decide_eq_false (by omega)]
      simp only [Bool.and_false, Bool.false_and, Bool.false_eq_true, if_false]
      unfold logV logA at *
      obtain ⟨bi, bt, l, cm⟩ := L
      simp only at H1 HI h1 ⊢
      clear h H2 hh hm hin hHB hL
      go_enter Try.func18, Try.ntmps18
      go_wp2_with fail
      refine H1.out.mono ?_
      rintro e w1 ⟨rfl, hbl⟩
      dsimp only
      have I1 := hideIt (HI.out.keep hbl)
      clear hbl HI H1
      obtain ⟨c0, c1, c2, c3⟩ := I1.out.cells
      simp only at c0 c1 c2 c3
      have B1 := hideIt I1.out.bel
      go_wp2
      go_ret
      exact ⟨_, rfl, own_nil _ _, B1.out⟩
    · by_cases h2 : lasI L < i
      · rw [hHB, decide_eq_false (by omega)]
        simp only [Bool.and_false, Bool.false_and, Bool.false_eq_true, if_false]
        generalize lasI L = li at *
        unfold logV logA at *
        obtain ⟨bi, bt, l, cm⟩ := L
        simp only at H1 H2 HI h1 ⊢
        clear h hh hm hin hHB hL
        go_enter Try.func18, Try.ntmps18
        go_wp2_with fail
        refine H1.out.mono ?_
        rintro e w1 ⟨rfl, hbl⟩
        dsimp only
        have I1 := hideIt (HI.out.keep hbl)
        clear hbl HI H1
        obtain ⟨c0, c1, c2, c3⟩ := I1.out.cells
        simp only at c0 c1 c2 c3
        go_wp2_with fail
        refine (H2.out _ I1.out.bel).mono ?_
        rintro e w2 ⟨rfl, rfl⟩
        dsimp only
        have B1 := hideIt (below_via I1.out.bel (below1 w1 (.cells #[.int .i64 bi, .int .i64 bt, .slice a l.length c, .int .i64 cm] 26)))
        go_wp2
        go_ret
        exact ⟨_, rfl, own_nil _ _, B1.out⟩
      · by_cases h3 : m < 1
        · rw [decide_eq_false (show ¬ (1 ≤ m) by omega)]
          simp only [Bool.and_false, Bool.false_eq_true, if_false]
          generalize lasI L = li at *
          unfold logV logA at *
          obtain ⟨bi, bt, l, cm⟩ := L
          simp only at H1 H2 HI h1 ⊢
          clear h hh hm hin hHB hL
          go_enter Try.func18, Try.ntmps18
          go_wp2_with fail
          refine H1.out.mono ?_
          rintro e w1 ⟨rfl, hbl⟩
          dsimp only
          have I1 := hideIt (HI.out.keep hbl)
          clear hbl HI H1
          obtain ⟨c0, c1, c2, c3⟩ := I1.out.cells
          simp only at c0 c1 c2 c3
          go_wp2_with fail
          refine (H2.out _ I1.out.bel).mono ?_
          rintro e w2 ⟨rfl, rfl⟩
          dsimp only
          have B1 := hideIt (below_via I1.out.bel (below1 w1 (.cells #[.int .i64 bi, .int .i64 bt, .slice a l.length c, .int .i64 cm] 26)))
          go_wp2
          go_ret
          exact ⟨_, rfl, own_nil _ _, B1.out⟩
        · rw [hHB, decide_eq_true (show L.bi + 1 ≤ i ∧ i ≤ lasI L by omega), decide_eq_true (show 1 ≤ m by omega)]
          simp only [Bool.and_self, if_true]
          obtain ⟨k, hk⟩ : ∃ k : Nat, i - L.bi - 1 = (k : Int) := Int.eq_ofNat_of_zero_le (by omega)
          rw [hk, Int.toNat_natCast]
          obtain ⟨D, hD⟩ : ∃ D, D = (L.l.drop k).take m.toNat := ⟨_, rfl⟩
          rw [← hD]
          have HDD := hideIt hD
          clear hD
          have hkl : k < L.l.length := by omega
          have hil : i ≤ lasI L := by omega
          have hbb : 0 ≤ L.bi ∧ L.bi ≤ 1000000 := hin.1
          have hll : L.l.length ≤ 400 := hin.2.2.1
          have HL := hideIt hL
          have HK := hideIt hk
          obtain ⟨a', c', e, h8, hr⟩ := hh.out.open
          simp only [Value.slice.injEq] at e
          obtain ⟨rfl, -, -⟩ := e
          have HR := hideIt hr
          have h1I : ¬ (i ≤ L.bi) := h1
          have h2I : ¬ (lasI L < i) := h2
          have h3I : ¬ (m < 1) := h3
          generalize lasI L = li at *
          unfold logV logA at *
          obtain ⟨bi, bt, l, cm⟩ := L
          simp only at H1 H2 HI h1I HR HL HK hkl hbb hll h8 HDD ⊢
          clear h hh hm hin hHB hL h1 h2 h3 hr hk
          go_enter Try.func18, Try.ntmps18
          go_wp2_with fail
          refine H1.out.mono ?_
          rintro e w1 ⟨rfl, hbl⟩
          dsimp only
          have I1 := hideIt (HI.out.keep hbl)
          clear hbl HI H1
          obtain ⟨c0, c1, c2, c3⟩ := I1.out.cells
          simp only at c0 c1 c2 c3
          go_wp2_with fail
          refine (H2.out _ I1.out.bel).mono ?_
          rintro e w2 ⟨rfl, rfl⟩
          dsimp only
          have I2 := hideIt (I1.out.keep (below1 w1 (.cells #[.int .i64 bi, .int .i64 bt, .slice a l.length c, .int .i64 cm] 26)))
          clear c0 c1 c2 c3 I1
          go_upto_region 5 with fail
          generalize w1.alloc (.cells #[.int .i64 bi, .int .i64 bt, .slice a l.length c, .int .i64 cm] 26) = X at *
          go_loopw [7, 8] (fun u v wr => ∃ t : Nat, v = .int .i64 (i + t) ∧ k + t ≤ l.length ∧ (t : Int) ≤ m ∧ Hid (wr.ownsRow X.heap.size 40 3 u t (entC ((l.drop k).take t)) ∧ Below X.heap.size X wr)) (fun _ v _ => (li + 1 - intOf v).toNat)
          case atStart => exact ⟨0, by simp, by omega, by omega, hideIt ⟨own_nil _ _, Below.refl _ _⟩⟩
          case round =>
            obtain ⟨t, rfl, ht, htm, HO⟩ := hrel
            have I3 := hideIt (I2.out.keep HO.out.2)
            have I4 := hideIt (I3.out.keep (below1 wr (.cells #[.int .i64 bi, .int .i64 bt, .slice a l.length c, .int .i64 cm] 26)))
            obtain ⟨c0, c1, c2, c3⟩ := I3.out.cells
            simp only at c0 c1 c2 c3
            obtain ⟨ua, uc, rfl⟩ := own_len HO.out.1
            have O4 := hideIt (own_keep HO.out.1 (below1 wr (.cells #[.int .i64 bi, .int .i64 bt, .slice a l.length c, .int .i64 cm] 26)))
            have B4 := hideIt (below_via HO.out.2 (below1 wr (.cells #[.int .i64 bi, .int .i64 bt, .slice a l.length c, .int .i64 cm] 26)))
            by_cases hlt : i + t ≤ li
            · by_cases htq : (t : Int) < m
              · have hkt : k + t < l.length := by have := HL.out; have := HK.out; omega
                obtain ⟨b, off, rfl, hbl, q0, q1, q2⟩ := HR.out (k + t) hkt
                have HTS : Hid ((l.drop k).take (t + 1) = (l.drop k).take t ++ [l[k + t]]) := by
                  show _ = _
                  rw [List.take_succ_eq_append_getElem (by rw [List.length_drop]; omega)]
                  simp
                have hBX := hideIt (below_via I2.out.bel B4.out)
                have e0 := (hBX.out.cell (p := ⟨b, off + (k + t) * 3, none⟩) hbl).trans q0
                have e1 := (hBX.out.cell (p := ⟨b, off + (k + t) * 3 + 1, none⟩) hbl).trans q1
                have e2 := (hBX.out.cell (p := ⟨b, off + (k + t) * 3 + 2, none⟩) hbl).trans q2
                have hlen : ((l.drop k).take t).length = t := by rw [List.length_take, List.length_drop]; omega
                generalize l[k + t] = en at *
                have O5 : Hid ((wr.alloc (.cells #[.int .i64 bi, .int .i64 bt, .slice (some ⟨b, off, none⟩) l.length c, .int .i64 cm] 26)).ownsRow X.heap.size 40 3 (.slice ua t uc) ((l.drop k).take t).length (entC ((l.drop k).take t))) := by
                  show World.ownsRow _ _ _ _ _ _ _
                  rw [hlen]
                  exact O4.out
                obtain ⟨v', w', hrun, how, hbw⟩ := grow_one O5.out B4.out en (by omega)
                rw [← HTS.out] at how
                have hlen2 : ((l.drop k).take (t + 1)).length = t + 1 := by rw [List.length_take, List.length_drop]; omega
                rw [hlen2] at how
                have HN := hideIt (And.intro how hbw)
                have HRUN := hideIt hrun
                unfold entA at HRUN
                obtain ⟨et, ek, ex⟩ := en
                simp only at e0 e1 e2 HRUN
                have hid : i + t - bi - 1 = ((k + t : Nat) : Int) := by have := HK.out; omega
                have hw1 : IntKind.i64.wrap (i + t - bi) = i + t - bi := by have := HL.out; rw [IntKind.wrap_i64]; omega
                have hw2 : IntKind.i64.wrap (i + t - bi - 1) = ((k + t : Nat) : Int) := by have := HK.out; rw [IntKind.wrap_i64]; omega
                have hw3 : IntKind.i64.wrap (i + t + 1) = i + t + 1 := by have := HL.out; rw [IntKind.wrap_i64]; omega
                have kt0 : (0 : Int) ≤ ((k + t : Nat) : Int) := by omega
                have kt1 : ((k + t : Nat) : Int) < (l.length : Int) := by omega
                obtain ⟨d0, d1, d2, d3⟩ := I4.out.cells
                simp only at d0 d1 d2 d3
                obtain ⟨z, hz⟩ : ∃ z : Nat, z = k + t := ⟨_, rfl⟩
                rw [← hz] at e0 e1 e2 hid hw2 kt0 kt1
                have HZ := hideIt hz
                clear q0 q1 q2 hrun how hbw hlen hlen2 HTS O5 hz
                go_wp2_with fail
                refine (H2.out _ (below_via I2.out.bel HO.out.2)).mono ?_
                rintro e w3 ⟨rfl, rfl⟩
                dsimp only
                go_upto_region 7 with fail
                generalize wr.alloc (.cells #[.int .i64 bi, .int .i64 bt, .slice (some ⟨b, off, none⟩) l.length c, .int .i64 cm] 26) = wy at *
                clear c0 c1 c2 c3
                go_upto_region 6 with (at_builtin; refine wpList_append_run _ rfl _ _ rfl rfl rfl rfl HRUN.out ?_)
                clear HRUN
                go_wp2
                go_roundw
                case rel => exact ⟨t + 1, by rw [show i + ((t + 1 : Nat) : Int) = i + t + 1 by omega], by omega, by omega, HN⟩
                case measure => simp only [intOf]; omega
              · have hT : (l.drop k).take m.toNat = (l.drop k).take t := by rw [show m.toNat = t by omega]
                have hlen : ((l.drop k).take t).length = t := by rw [List.length_take, List.length_drop]; omega
                have HD : Hid ((wr.alloc (.cells #[.int .i64 bi, .int .i64 bt, .slice a l.length c, .int .i64 cm] 26)).ownsRow w.heap.size 40 3 (.slice ua t uc) D.length (entC D) ∧ Below w.heap.size w (wr.alloc (.cells #[.int .i64 bi, .int .i64 bt, .slice a l.length c, .int .i64 cm] 26))) := by
                  rw [HDD.out, hT]
                  refine ⟨?_, below_via I2.out.bel B4.out⟩
                  rw [hlen]
                  exact own_base O4.out I2.out.bel.size
                clear hT hlen
                go_wp2_with fail
                refine (H2.out _ (below_via I2.out.bel HO.out.2)).mono ?_
                rintro e w3 ⟨rfl, rfl⟩
                dsimp only
                go_wp2
                go_ret
                exact ⟨_, rfl, HD.out.1, HD.out.2⟩
            · have hT : (l.drop k).take m.toNat = (l.drop k).take t := by
                have := HL.out
                have := HK.out
                rw [List.take_of_length_le (by rw [List.length_drop]; omega), List.take_of_length_le (by rw [List.length_drop]; omega)]
              have hlen : ((l.drop k).take t).length = t := by rw [List.length_take, List.length_drop]; omega
              have HD : Hid ((wr.alloc (.cells #[.int .i64 bi, .int .i64 bt, .slice a l.length c, .int .i64 cm] 26)).ownsRow w.heap.size 40 3 (.slice ua t uc) D.length (entC D) ∧ Below w.heap.size w (wr.alloc (.cells #[.int .i64 bi, .int .i64 bt, .slice a l.length c, .int .i64 cm] 26))) := by
                rw [HDD.out, hT]
                refine ⟨?_, below_via I2.out.bel B4.out⟩
                rw [hlen]
                exact own_base O4.out I2.out.bel.size
              clear hT hlen
              go_wp2_with fail
              refine (H2.out _ (below_via I2.out.bel HO.out.2)).mono ?_
              rintro e w3 ⟨rfl, rfl⟩
              dsimp only
              go_wp2
              go_ret
              exact ⟨_, rfl, HD.out.1, HD.out.2⟩
end Go.Proofs.Ytonhoopmhkomcaa
