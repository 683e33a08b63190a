/- Whether a map may be. -/
import Derived.Test.YtfcbjdfelahfkaaSmall
namespace Go.Proofs.Ytfcbjdfelahfkaa
open Go.RowKit
set_option linter.all false
def okB (p : PlaV) : Bool := keyB p.1 && wiB p.2.1 0 3 && wiB p.2.2 0 1000000
def pkB (o : Option KeyV) (k : KeyV) : Bool := match o with
  | none => true
  | some j => ahdB j k
def mayP : Option KeyV → List PlaV → Bool
  | _, [] => true
  | o, p :: r => okB p && pkB o p.1 && mayP (some p.1) r
def mayB (l : List PlaV) : Bool := mayP none l
def pk (l : List PlaV) : Nat → Option KeyV
  | 0 => none
  | t + 1 => (l[t]?).map (·.1)
theorem may_at {l : List PlaV} {t : Nat} (h : t < l.length) : mayP (pk l t) (l.drop t) = (okB l[t] && pkB (pk l t) l[t].1 && mayP (pk l (t + 1)) (l.drop (t + 1))) := by
  rw [List.drop_eq_getElem_cons h, mayP]
  simp [pk, List.getElem?_eq_getElem h]
set_option maxHeartbeats 8000000 in
set_option maxRecDepth 100000 in
theorem mayBe_is (v : Value) (l : List PlaV) (w : World) (h : Plas w v l) : Calls Try.prog 17 #[v] w fun e w' => e = .returned (.bool (mayB l)) ∧ Below w.heap.size w w' := by
  obtain ⟨a, c, rfl, h8, hr⟩ := h.plas
  have HH := hideIt hr
  clear hr h
  have HK := hideIt (fun k n W => isKey_is k n W)
  have HW := hideIt (fun x lo hi W => within_is x lo hi W)
  have HA := hideIt (fun x y z u W => isAhead_is x y z u W)
  go_enter Try.func17, Try.ntmps17
  go_wp2
  go_loopw [7] (fun v wr => ∃ t : Nat, v = .int .i64 t ∧ t ≤ l.length ∧ Hid (Below w.heap.size w wr ∧ mayB l = mayP (pk l t) (l.drop t))) (fun v _ => l.length - (intOf v).toNat)
  case atStart => exact ⟨0, rfl, Nat.zero_le _, hideIt ⟨Below.refl _ _, by simp [pk, mayB]⟩⟩
  case round =>
    obtain ⟨t, rfl, ht, HR⟩ := hrel
    by_cases hlt : t < l.length
    · have hltI : (t : Int) < (l.length : Int) := by omega
      have ht0 : (0 : Int) ≤ (t : Int) := by omega
      have hw : IntKind.i64.wrap ((t : Int) + 1) = ((t + 1 : Nat) : Int) := by rw [IntKind.wrap_i64]; omega
      have hB := HR.out.1
      have HP := hideIt (fun k (hk : t = k + 1) => HH.out k (by omega))
      obtain ⟨b, off, rfl, hbl, q0, q1, q2, q3⟩ := HH.out t hlt
      have hblr : b < wr.heap.size := Nat.lt_of_lt_of_le hbl hB.size
      have c0 := (hB.cell (p := ⟨b, off + t * 4, none⟩) hbl).trans q0
      have c1 := (hB.cell (p := ⟨b, off + t * 4 + 1, none⟩) hbl).trans q1
      have c2 := (hB.cell (p := ⟨b, off + t * 4 + 2, none⟩) hbl).trans q2
      have c3 := (hB.cell (p := ⟨b, off + t * 4 + 3, none⟩) hbl).trans q3
      clear q0 q1 q2 q3
      have HD := hideIt (HR.out.2.trans (may_at hlt))
      have HPK : Hid (∀ k, t = k + 1 → ∃ e : PlaV, pk l t = some e.1 ∧ wr.cell? ⟨b, off + k * 4, none⟩ = some (.int .i64 e.1.1) ∧ wr.cell? ⟨b, off + k * 4 + 1, none⟩ = some (.int .i64 e.1.2)) := by
        intro k hk
        subst hk
        obtain ⟨b', off', e', hbl', p0, p1, -⟩ := HP.out k rfl
        simp only [Option.some.injEq, Addr.mk.injEq] at e'
        obtain ⟨rfl, rfl, -⟩ := e'
        exact ⟨_, by simp [pk, List.getElem?_eq_getElem (show k < l.length by omega)], (hB.cell (p := ⟨b, off + k * 4, none⟩) hbl').trans p0, (hB.cell (p := ⟨b, off + k * 4 + 1, none⟩) hbl').trans p1⟩
      clear HR HH HP
      generalize l[t] = en at *
      obtain ⟨⟨x, y⟩, ⟨z, u⟩⟩ := en
      dsimp only at c0 c1 c2 c3 HD
      have HB2 := hideIt (below_via hB (below1 wr (.cells #[.int .i64 x, .int .i64 y, .int .i64 z, .int .i64 u] 26)))
      have H4 := hideIt (heap_alloc_new wr (.cells #[.int .i64 x, .int .i64 y, .int .i64 z, .int .i64 u] 26))
      have HC := hideIt (HK.out x y (wr.alloc (.cells #[.int .i64 x, .int .i64 y, .int .i64 z, .int .i64 u] 26)))
      have HC2 := hideIt (fun W => HW.out z 0 3 W)
      have HC3 := hideIt (fun W => HW.out u 0 1000000 W)
      have HPK2 : Hid (∀ w1, Below (wr.alloc (.cells #[.int .i64 x, .int .i64 y, .int .i64 z, .int .i64 u] 26)).heap.size (wr.alloc (.cells #[.int .i64 x, .int .i64 y, .int .i64 z, .int .i64 u] 26)) w1 → b < w1.heap.size ∧ ∀ k, t = k + 1 → ∃ e : PlaV, pk l t = some e.1 ∧ w1.cell? ⟨b, off + k * 4, none⟩ = some (.int .i64 e.1.1) ∧ w1.cell? ⟨b, off + k * 4 + 1, none⟩ = some (.int .i64 e.1.2)) := by
        intro w1 hw1
        have hb := below_via (below1 wr (.cells #[.int .i64 x, .int .i64 y, .int .i64 z, .int .i64 u] 26)) hw1
        refine ⟨Nat.lt_of_lt_of_le hblr hb.size, fun k hk => ?_⟩
        obtain ⟨e, he, e0, e1⟩ := HPK.out k hk
        exact ⟨e, he, (hb.cell (p := ⟨b, off + k * 4, none⟩) hblr).trans e0, (hb.cell (p := ⟨b, off + k * 4 + 1, none⟩) hblr).trans e1⟩
      clear hB HK HW HPK
      cases hk : keyB (x, y)
      · rw [hk] at HC
        have HE : Hid (okB ((x, y), (z, u)) = false) := by
          show okB _ = _
          simp [okB, hk]
        clear hk
        go_wp2_with fail
        refine HC.out.mono ?_
        rintro e w1 ⟨rfl, hb⟩
        dsimp only
        have HB3 := hideIt (below_via HB2.out hb)
        clear hb
        go_wp2
        go_ret
        exact ⟨by rw [HD.out, HE.out]; rfl, HB3.out⟩
      · rw [hk] at HC
        cases hn : wiB z 0 3
        · rw [hn] at HC2
          have HE : Hid (okB ((x, y), (z, u)) = false) := by
            show okB _ = _
            simp [okB, hk, hn]
          clear hk hn
          go_wp2_with fail
          refine HC.out.mono ?_
          rintro e w1 ⟨rfl, hb⟩
          dsimp only
          have HB3 := hideIt (below_via HB2.out hb)
          have H5 := hideIt ((hb.block _ (by simp)).trans H4.out)
          have d2 : w1.cell? ⟨wr.heap.size, 2, none⟩ = some (.int .i64 z) := by rw [cell_at H5.out]; rfl
          clear hb HC
          go_wp2_with fail
          refine (HC2.out _).mono ?_
          rintro e w1 ⟨rfl, rfl⟩
          dsimp only
          go_wp2
          go_ret
          exact ⟨by rw [HD.out, HE.out]; rfl, HB3.out⟩
        · rw [hn] at HC2
          cases hv : wiB u 0 1000000
          · rw [hv] at HC3
            have HE : Hid (okB ((x, y), (z, u)) = false) := by
              show okB _ = _
              simp [okB, hk, hn, hv]
            clear hk hn hv
            go_wp2_with fail
            refine HC.out.mono ?_
            rintro e w1 ⟨rfl, hb⟩
            dsimp only
            have HB3 := hideIt (below_via HB2.out hb)
            have H5 := hideIt ((hb.block _ (by simp)).trans H4.out)
            have d2 : w1.cell? ⟨wr.heap.size, 2, none⟩ = some (.int .i64 z) := by rw [cell_at H5.out]; rfl
            have d3 : w1.cell? ⟨wr.heap.size, 3, none⟩ = some (.int .i64 u) := by rw [cell_at H5.out]; rfl
            clear hb HC
            go_wp2_with fail
            refine (HC2.out _).mono ?_
            rintro e w1 ⟨rfl, rfl⟩
            dsimp only
            go_wp2_with fail
            refine (HC3.out _).mono ?_
            rintro e w1 ⟨rfl, rfl⟩
            dsimp only
            go_wp2
            go_ret
            exact ⟨by rw [HD.out, HE.out]; rfl, HB3.out⟩
          · rw [hv] at HC3
            have HE : Hid (okB ((x, y), (z, u)) = true) := by
              show okB _ = _
              simp [okB, hk, hn, hv]
            clear hk hn hv
            go_wp2_with fail
            refine HC.out.mono ?_
            rintro e w1 ⟨rfl, hb⟩
            dsimp only
            have HB3 := hideIt (below_via HB2.out hb)
            have H5 := hideIt ((hb.block _ (by simp)).trans H4.out)
            have hPK := HPK2.out _ hb
            have d0 : w1.cell? ⟨wr.heap.size, 0, none⟩ = some (.int .i64 x) := by rw [cell_at H5.out]; rfl
            have d1 : w1.cell? ⟨wr.heap.size, 1, none⟩ = some (.int .i64 y) := by rw [cell_at H5.out]; rfl
            have d2 : w1.cell? ⟨wr.heap.size, 2, none⟩ = some (.int .i64 z) := by rw [cell_at H5.out]; rfl
            have d3 : w1.cell? ⟨wr.heap.size, 3, none⟩ = some (.int .i64 u) := by rw [cell_at H5.out]; rfl
            have HPK3 := hideIt hPK
            clear hb HC HPK2 hPK
            go_wp2_with fail
            refine (HC2.out _).mono ?_
            rintro e w1 ⟨rfl, rfl⟩
            dsimp only
            go_wp2_with fail
            refine (HC3.out _).mono ?_
            rintro e w1 ⟨rfl, rfl⟩
            dsimp only
            clear HC2 HC3 HB2 H4 c0 c1 c2 c3 hblr
            have hblr := HPK3.out.1
            generalize wr.heap.size = K at *
            by_cases htz : 0 < t
            · obtain ⟨k, hk⟩ : ∃ k, t = k + 1 := ⟨t - 1, by omega⟩
              obtain ⟨⟨⟨ex, ey⟩, eg⟩, he, p0, p1⟩ := HPK3.out.2 k hk
              dsimp only at p0 p1 he
              have htI : (0 : Int) < (t : Int) := by omega
              have htd : decide (0 < t) = true := decide_eq_true htz
              have hkI : (0 : Int) ≤ (k : Int) := by omega
              have hkl : (k : Int) < (l.length : Int) := by omega
              have hwk : IntKind.i64.wrap ((t : Int) - 1) = (k : Int) := by rw [IntKind.wrap_i64]; omega
              have HC4 := hideIt (fun W => HA.out ex ey x y W)
              have HE2 : Hid (pkB (pk l t) (x, y) = ahdB (ex, ey) (x, y)) := by
                show _ = _
                rw [he]
                rfl
              have HS : Hid (∀ w2, Below w1.heap.size w1 w2 → w2.cell? ⟨b, off + k * 4, none⟩ = some (.int .i64 ex) ∧ w2.cell? ⟨b, off + k * 4 + 1, none⟩ = some (.int .i64 ey) ∧ w2.cell? ⟨K, 0, none⟩ = some (.int .i64 x) ∧ w2.cell? ⟨K, 1, none⟩ = some (.int .i64 y)) := fun w2 hb => by
                have hK : K < w1.heap.size := World.block_lt_of_cell? _ _ d0
                exact ⟨(hb.cell (p := ⟨b, off + k * 4, none⟩) hblr).trans p0, (hb.cell (p := ⟨b, off + k * 4 + 1, none⟩) hblr).trans p1, (hb.cell (p := ⟨K, 0, none⟩) hK).trans d0, (hb.cell (p := ⟨K, 1, none⟩) hK).trans d1⟩
              generalize ahdB (ex, ey) (x, y) = ba at *
              clear hk he HPK3 d2 d3 HA htz
              go_upto_region 6 with fail
              go_region_held3 (fun W => W.cell? ⟨b, off + k * 4, none⟩ = some (.int .i64 ex) ∧ W.cell? ⟨b, off + k * 4 + 1, none⟩ = some (.int .i64 ey) ∧ W.cell? ⟨K, 0, none⟩ = some (.int .i64 x) ∧ W.cell? ⟨K, 1, none⟩ = some (.int .i64 y)) (go_keep) (first | (go_at_call 26; refine (HC4.out _).mono ?_; clear HC4; rintro e w2 ⟨rfl, hb⟩; have HB4 := hideIt (below_via (by first | exact HB3.out | exact HB3.out.drew) hb); obtain ⟨j0, j1, j2, j3⟩ := HS.out w2 (by first | exact hb | exact below_via (Below.refl _ w1).drew hb); clear hb))
              cases ba
              · go_wp2
                go_ret
                exact ⟨by rw [HD.out, HE2.out]; simp, HB4.out⟩
              · go_wp2
                go_roundw
                case rel => exact ⟨t + 1, by go_num, by omega, hideIt ⟨HB4.out, by rw [HD.out, HE.out, HE2.out]; rfl⟩⟩
                case measure => simp [intOf]; omega
            · have htd : decide ((0 : Int) < (t : Int)) = false := decide_eq_false (by omega)
              have htd2 : decide (0 < t) = false := decide_eq_false htz
              have HE2 : Hid (pkB (pk l t) (x, y) = true) := by
                show _ = _
                rw [show t = 0 by omega]
                rfl
              clear HPK3 HA htz
              go_upto_region 6 with fail
              go_quiet (fail)
              go_wp2
              go_roundw
              case rel => exact ⟨t + 1, by go_num, by omega, hideIt ⟨below_drewN HB3.out _, by rw [HD.out, HE.out, HE2.out]; rfl⟩⟩
              case measure => simp [intOf]; omega
    · have hltI : ¬ (t : Int) < (l.length : Int) := by omega
      have HF : Hid (mayB l = true) := by
        show _ = _
        rw [HR.out.2, List.drop_eq_nil_of_le (by omega)]
        rfl
      have HB := hideIt HR.out.1
      clear HR HH HK HW HA
      go_wp2
      go_ret
      exact ⟨by rw [HF.out]; rfl, HB.out⟩
end Go.Proofs.Ytfcbjdfelahfkaa
