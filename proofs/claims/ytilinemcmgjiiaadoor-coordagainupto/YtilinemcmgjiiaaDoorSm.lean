/- Small words of the coordinator and the ledger: walked. -/
import Derived.Test.YtilinemcmgjiiaaDoorTc
namespace Go.Proofs.YtilinemcmgjiiaaDoor
open Go.RowKit
set_option linter.all false
set_option maxHeartbeats 1000000 in
theorem withinC_is (x lo hi : Int) (w : World) : Calls Tryd.prog 30 #[.int .i64 x, .int .i64 lo, .int .i64 hi] w fun e w' => e = .returned (.bool (wiB x lo hi)) ∧ w' = w := by
  unfold wiB
  by_cases h : lo ≤ x
  · go_enter Tryd.func30, Tryd.ntmps30
    go_wp2
    go_ret
    exact ⟨by simp [h], rfl⟩
  · go_enter Tryd.func30, Tryd.ntmps30
    go_wp2
    go_ret
    exact ⟨by rw [decide_eq_false (by omega)]; rfl, rfl⟩
set_option maxHeartbeats 1000000 in
theorem withinL_is (x lo hi : Int) (w : World) : Calls Tryd.prog 56 #[.int .i64 x, .int .i64 lo, .int .i64 hi] w fun e w' => e = .returned (.bool (wiB x lo hi)) ∧ w' = w := by
  unfold wiB
  by_cases h : lo ≤ x
  · go_enter Tryd.func56, Tryd.ntmps56
    go_wp2
    go_ret
    exact ⟨by simp [h], rfl⟩
  · go_enter Tryd.func56, Tryd.ntmps56
    go_wp2
    go_ret
    exact ⟨by rw [decide_eq_false (by omega)]; rfl, rfl⟩
theorem isGroup_is (x : Int) (w : World) : Calls Tryd.prog 16 #[.int .i64 x] w fun e w' => e = .returned (.bool (wiB x 0 3)) ∧ w' = w := by
  have H := hideIt (withinC_is x 0 3 w)
  go_enter Tryd.func16, Tryd.ntmps16
  go_wp2_with fail
  refine H.out.mono ?_
  rintro e w1 ⟨rfl, rfl⟩
  dsimp only
  go_wp2
  go_ret
  exact ⟨rfl, rfl⟩
theorem isAsset_is (x : Int) (w : World) : Calls Tryd.prog 70 #[.int .i64 x] w fun e w' => e = .returned (.bool (wiB x 0 3)) ∧ w' = w := by
  have H := hideIt (withinL_is x 0 3 w)
  go_enter Tryd.func70, Tryd.ntmps70
  go_wp2_with fail
  refine H.out.mono ?_
  rintro e w1 ⟨rfl, rfl⟩
  dsimp only
  go_wp2
  go_ret
  exact ⟨rfl, rfl⟩
theorem isBalance_is (x : Int) (w : World) : Calls Tryd.prog 71 #[.int .i64 x] w fun e w' => e = .returned (.bool (wiB x 1 9007199254740992)) ∧ w' = w := by
  have H := hideIt (withinL_is x 1 9007199254740992 w)
  go_enter Tryd.func71, Tryd.ntmps71
  go_wp2_with fail
  refine H.out.mono ?_
  rintro e w1 ⟨rfl, rfl⟩
  dsimp only
  go_wp2
  go_ret
  exact ⟨rfl, rfl⟩
def heaB (k : Int) : Bool := (k == 3) || ((k == 6) || (k == 5))
theorem isHeard_is (k : Int) (w : World) : Calls Tryd.prog 22 #[.int .i64 k] w fun e w' => e = .returned (.bool (heaB k)) ∧ w' = w := by
  unfold heaB
  cases h1 : (k == 3)
  · cases h2 : (k == 6)
    · go_enter Tryd.func22, Tryd.ntmps22
      go_wp2
      go_ret
      exact ⟨by simp, rfl⟩
    · go_enter Tryd.func22, Tryd.ntmps22
      go_wp2
      go_ret
      exact ⟨rfl, rfl⟩
  · go_enter Tryd.func22, Tryd.ntmps22
    go_wp2
    go_ret
    exact ⟨rfl, rfl⟩
/-- Amounts that may be: each asset once, in their order. -/
def amsB : List AmV → Int → Bool
  | [], _ => true
  | x :: l, last => !decide (x.1 ≤ last) && (wiB x.1 0 3 && (wiB x.2 1 9007199254740992 && amsB l x.1))
theorem amsB_at {l : List AmV} {t : Nat} (h : t < l.length) (last : Int) : amsB (l.drop t) last = (!decide (l[t].1 ≤ last) && (wiB l[t].1 0 3 && (wiB l[t].2 1 9007199254740992 && amsB (l.drop (t + 1)) l[t].1))) := by
  rw [List.drop_eq_getElem_cons h]
  rfl
set_option maxHeartbeats 8000000 in
set_option maxRecDepth 100000 in
theorem areAmounts_is (v : Value) (l : List AmV) (w : World) (h : Ams w v l) : Calls Tryd.prog 55 #[v] w fun e w' => e = .returned (.bool (amsB l (-1))) ∧ Below w.heap.size w w' := by
  have HG := hideIt h
  obtain ⟨va, vc, rfl⟩ := h.slice
  clear h
  have HST := hideIt (fun t (ht : t < l.length) last => amsB_at ht last)
  have HE : Hid (∀ last, amsB (l.drop l.length) last = true) := fun last => by rw [List.drop_length]; rfl
  have H0 : Hid (amsB (l.drop 0) (-1) = amsB l (-1)) := by show _ = _; rw [List.drop_zero]
  generalize amsB l (-1) = R at *
  go_enter Tryd.func55, Tryd.ntmps55
  go_upto_region 3 with fail
  go_loopw [3, 8] (fun u x wr => ∃ (t : Nat) (last : Int), u = .int .i64 last ∧ x = .int .i64 t ∧ t ≤ l.length ∧ Hid (amsB (l.drop t) last = R ∧ Below w.heap.size w wr)) (fun _ x _ => l.length - (intOf x).toNat)
  case atStart => exact ⟨0, -1, rfl, rfl, Nat.zero_le _, ⟨H0.out, Below.refl _ _⟩⟩
  case round =>
    obtain ⟨t, last, rfl, rfl, ht, HR⟩ := hrel
    by_cases hlt : t < l.length
    · have hltI : (t : Int) < (l.length : Int) := by omega
      have ht0 : (0 : Int) ≤ (t : Int) := by omega
      have h8 := HG.out.1
      have hw : IntKind.i64.wrap ((t : Int) + 1) = ((t + 1 : Nat) : Int) := by rw [IntKind.wrap_i64]; omega
      obtain ⟨-, a', c', e, hcap, hr⟩ := HG.out
      simp only [Value.slice.injEq, true_and] at e
      obtain ⟨rfl, rfl⟩ := e
      obtain ⟨g, off, hva, hgl, hcc⟩ := hr (by omega)
      have hgr : g < wr.heap.size := Nat.lt_of_lt_of_le hgl HR.out.2.size
      have q0 : wr.cell? ⟨g, off + t * 2, none⟩ = some (.int .i64 (l[t]).1) := by
        rw [HR.out.2.cell (p := ⟨g, off + t * 2, none⟩) hgl, hcc (t * 2) (by omega)]
        exact celC_get amK l t hlt 0 (by omega)
      have q1 : wr.cell? ⟨g, off + t * 2 + 1, none⟩ = some (.int .i64 (l[t]).2) := by
        rw [HR.out.2.cell (p := ⟨g, off + t * 2 + 1, none⟩) hgl, show off + t * 2 + 1 = off + (t * 2 + 1) by omega, hcc (t * 2 + 1) (by omega)]
        exact celC_get amK l t hlt 1 (by omega)
      have HS := hideIt (HST.out t hlt last)
      have HW := hideIt (fun W => isAsset_is l[t].1 W)
      have HV := hideIt (fun W => isBalance_is l[t].2 W)
      clear hcc hr hcap
      generalize l[t] = y at *
      obtain ⟨y1, y2⟩ := y
      dsimp only at q0 q1 HS HW HV
      have hb1 := below1 wr (.cells #[.int .i64 y1, .int .i64 y2] 72)
      have B1 := hideIt (below_via HR.out.2 hb1)
      clear hb1
      have HRR := hideIt HR.out.1
      clear HR HG HST
      subst hva
      by_cases h1 : y1 ≤ last
      · have hR : R = false := by rw [← HRR.out, HS.out, decide_eq_true h1]; rfl
        have HRF := hideIt hR
        clear hR HRR HS
        go_wp2
        go_ret
        exact ⟨by rw [HRF.out]; rfl, B1.out⟩
      · have hd1 : decide (y1 ≤ last) = false := decide_eq_false h1
        cases h2 : wiB y1 0 3
        · have hR : R = false := by rw [← HRR.out, HS.out, hd1, h2]; rfl
          have HRF := hideIt hR
          rw [h2] at HW
          clear hR HRR HS h2
          go_wp2_with fail
          refine (HW.out _).mono ?_
          rintro e w1 ⟨rfl, rfl⟩
          dsimp only
          go_wp2
          go_ret
          exact ⟨by rw [HRF.out]; rfl, B1.out⟩
        · rw [h2] at HW
          cases h3 : wiB y2 1 9007199254740992
          · have hR : R = false := by rw [← HRR.out, HS.out, hd1, h2, h3]; rfl
            have HRF := hideIt hR
            rw [h3] at HV
            clear hR HRR HS h2 h3
            go_wp2_with fail
            refine (HW.out _).mono ?_
            rintro e w1 ⟨rfl, rfl⟩
            dsimp only
            go_wp2_with fail
            refine (HV.out _).mono ?_
            rintro e w1 ⟨rfl, rfl⟩
            dsimp only
            go_wp2
            go_ret
            exact ⟨by rw [HRF.out]; rfl, B1.out⟩
          · rw [h3] at HV
            have hR : amsB (l.drop (t + 1)) y1 = R := by rw [← HRR.out, HS.out, hd1, h2, h3]; simp
            have HRF := hideIt hR
            clear hR HRR HS h2 h3
            go_wp2_with fail
            refine (HW.out _).mono ?_
            rintro e w1 ⟨rfl, rfl⟩
            dsimp only
            go_wp2_with fail
            refine (HV.out _).mono ?_
            rintro e w1 ⟨rfl, rfl⟩
            dsimp only
            go_wp2
            go_roundw
            case rel => exact ⟨t + 1, y1, rfl, by go_num, by omega, ⟨HRF.out, B1.out⟩⟩
            case measure => simp [intOf]; omega
    · have hltI : ¬ (t : Int) < (l.length : Int) := by omega
      have het : t = l.length := by omega
      subst het
      have hR : R = true := by rw [← HR.out.1, HE.out]
      have HRF := hideIt hR
      have B2 := hideIt HR.out.2
      clear hR HR HG HST HE H0
      go_wp2
      go_ret
      exact ⟨by rw [HRF.out]; rfl, B2.out⟩
set_option maxHeartbeats 4000000 in
theorem check_amounts (v : Value) (l : List AmV) (w : World) (h : Ams w v l) : Calls Tryd.prog 38 #[.agg #[v, .int .i64 0]] w fun e w' => e = .returned (.int .i64 (if amsB l (-1) = true then 0 else 120)) ∧ Below w.heap.size w w' := by
  have hb1 := below1 w (.cells #[v, .int .i64 0] 75)
  have X := hideIt (heap_alloc_new w (.cells #[v, .int .i64 0] 75))
  have B1 := hideIt hb1
  have HA := hideIt (areAmounts_is v l _ (h.keep hb1))
  have HW := hideIt (fun W => withinL_is 0 0 1000000000 W)
  have hw0 : wiB 0 0 1000000000 = true := by decide
  rw [hw0] at HW
  obtain ⟨va, vc, rfl⟩ := h.slice
  clear h hb1 hw0
  cases hR : amsB l (-1)
  · rw [hR] at HA
    rw [if_neg (by decide)]
    clear hR
    go_enter Tryd.func38, Tryd.ntmps38
    go_upto_region 1 with fail
    generalize w.alloc (.cells #[.slice va l.length vc, .int .i64 0] 75) = W1 at *
    obtain ⟨⟨c0, c1⟩, cf, cz⟩ := at2 X.out
    go_wp2_with fail
    refine HA.out.mono ?_
    rintro e w1 ⟨rfl, hb⟩
    dsimp only
    have B2 := hideIt (below_via B1.out hb)
    clear hb c0 c1 cf cz
    go_wp2
    go_ret
    exact ⟨rfl, B2.out⟩
  · rw [hR] at HA
    rw [if_pos rfl]
    clear hR
    go_enter Tryd.func38, Tryd.ntmps38
    go_upto_region 1 with fail
    generalize w.alloc (.cells #[.slice va l.length vc, .int .i64 0] 75) = W1 at *
    obtain ⟨⟨c0, c1⟩, cf, cz⟩ := at2 X.out
    go_wp2_with fail
    refine HA.out.mono ?_
    rintro e w1 ⟨rfl, hb⟩
    dsimp only
    have B2 := hideIt (below_via B1.out hb)
    obtain ⟨⟨d0, d1⟩, df, dz⟩ := at2 (blkK X.out hb)
    clear hb c0 c1 cf cz
    go_wp2_with fail
    refine (HW.out _).mono ?_
    rintro e w2 ⟨rfl, rfl⟩
    dsimp only
    go_wp2
    go_ret
    exact ⟨rfl, B2.out⟩
theorem areAmountsC_is (v : Value) (l : List AmV) (w : World) (h : Ams w v l) : Calls Tryd.prog 23 #[v] w fun e w' => e = .returned (.bool (amsB l (-1))) ∧ Below w.heap.size w w' := by
  have H := hideIt (check_amounts v l w h)
  obtain ⟨va, vc, rfl⟩ := h.slice
  clear h
  cases hR : amsB l (-1)
  · rw [hR, if_neg (by decide)] at H
    clear hR
    go_enter Tryd.func23, Tryd.ntmps23
    go_wp2_with fail
    refine H.out.mono ?_
    rintro e w1 ⟨rfl, hb⟩
    dsimp only
    go_wp2
    go_ret
    exact ⟨rfl, hb⟩
  · rw [hR, if_pos rfl] at H
    clear hR
    go_enter Tryd.func23, Tryd.ntmps23
    go_wp2_with fail
    refine H.out.mono ?_
    rintro e w1 ⟨rfl, hb⟩
    dsimp only
    go_wp2
    go_ret
    exact ⟨rfl, hb⟩
/-- A coordinator that has nothing to do. -/
theorem newC_is (g : Int) (w : World) : Calls Tryd.prog 7 #[.int .i64 g] w fun e w' => e = .returned (.tuple (if wiB g 0 3 = true then #[.agg #[.int .i64 g, .slice none 0 0], .int .i64 0] else #[.agg #[.int .i64 0, .slice none 0 0], .int .i64 1])) ∧ Below w.heap.size w w' := by
  have X := hideIt (heap_alloc_new w (.cells #[.int .i64 0, .slice none 0 0] 25))
  have B1 := hideIt (below1 w (.cells #[.int .i64 0, .slice none 0 0] 25))
  have HG := hideIt (fun W => isGroup_is g W)
  cases hR : wiB g 0 3
  · rw [hR] at HG
    rw [if_neg (by decide)]
    clear hR
    go_enter Tryd.func7, Tryd.ntmps7
    go_upto_region 1 with fail
    generalize w.alloc (.cells #[.int .i64 0, .slice none 0 0] 25) = W1 at *
    obtain ⟨⟨c0, c1⟩, cf, cz⟩ := at2 X.out
    go_wp2_with fail
    refine (HG.out _).mono ?_
    rintro e w1 ⟨rfl, rfl⟩
    dsimp only
    go_wp2
    obtain ⟨hzz, hoo⟩ := puts2 w1 w.heap.size 25 (.int .i64 0) (.slice none 0 0) X.out
    exact bodyPost_ret (v := .tuple #[.agg #[.int .i64 0, .slice none 0 0], .int .i64 1]) (by simp [results, Tryd.results7, go_sem, cell_at hzz]) rfl ⟨rfl, below_out B1.out hoo (fun k hk => by omega)⟩
  · rw [hR] at HG
    rw [if_pos rfl]
    clear hR
    go_enter Tryd.func7, Tryd.ntmps7
    go_upto_region 1 with fail
    generalize w.alloc (.cells #[.int .i64 0, .slice none 0 0] 25) = W1 at *
    obtain ⟨⟨c0, c1⟩, cf, cz⟩ := at2 X.out
    go_wp2_with fail
    refine (HG.out _).mono ?_
    rintro e w1 ⟨rfl, rfl⟩
    dsimp only
    go_wp2
    obtain ⟨hzz, hoo⟩ := puts2 w1 w.heap.size 25 (.int .i64 g) (.slice none 0 0) X.out
    exact bodyPost_ret (v := .tuple #[.agg #[.int .i64 g, .slice none 0 0], .int .i64 0]) (by simp [results, Tryd.results7, go_sem, cell_at hzz]) rfl ⟨rfl, below_out B1.out hoo (fun k hk => by omega)⟩
end Go.Proofs.YtilinemcmgjiiaaDoor
