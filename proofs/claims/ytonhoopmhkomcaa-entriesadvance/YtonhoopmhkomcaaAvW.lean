/- The statement on what is committed by what others have, walked. -/
import Derived.Test.YtonhoopmhkomcaaKpW
import Derived.Test.YtonhoopmhkomcaaRAdv
import Derived.Lib.AppendZeros
namespace Go.Proofs.Ytonhoopmhkomcaa
open Go.RowKit
theorem info3 : (Try.prog.info? 3).map (fun i => (i.zero, i.size, i.bytes)) = some (some (.int .i64 0), 1, 8) := by kernel_rfl
def numC (m : List Int) : List Value := m.map (Value.int .i64)
/-- A list of numbers, copied. -/
theorem run_num (w : World) (m : List Int) (g : Value) (hg : NGot w g m) : ∃ v' w', (Builtin.append_ #[49, 49] 49 #[.slice none 0 0, g]).run Try.prog w = .ok v' w' ∧ w'.ownsRow w.heap.size 3 1 v' m.length (numC m) ∧ Below w.heap.size w w' := by
  obtain ⟨i, hi, hz0, hz1, hz2⟩ := info_parts info3
  have ht : Try.prog.underlying 49 = some (.slice 3) := Try.underlying49
  obtain ⟨h8, a, c, rfl, hr⟩ := hg
  have h0 : w.ownsRow w.heap.size 3 1 (.slice none 0 0) 0 [] := ⟨rfl, .inl ⟨rfl, rfl⟩⟩
  rcases Nat.eq_zero_or_pos m.length with hm | hp
  · rw [List.length_eq_zero_iff] at hm
    subst hm
    cases a with
    | none =>
      refine ⟨.slice none 0 0, w, ?_, ⟨rfl, .inl ⟨rfl, rfl⟩⟩, Below.refl _ _⟩
      simp [Builtin.append_, run_underlying ht, sizeOf, typeInfo, hi, Builtin.lenOf, Builtin.firstCells]
    | some a =>
      obtain ⟨v', w', h1, h2, h3, _⟩ := run_append_own (P := Try.prog) w w.heap.size 49 49 3 i _ 1 8 ht hi hz0 hz1 hz2 rfl (by omega) (.slice none 0 0) 0 [] h0 a 0 c [] rfl (fun j u hu => by simp at hu) (fun u hu => by simp at hu) (by simp [maxLen]) (by simp) (Nat.le_refl _)
      refine ⟨v', w', h1, by simpa [numC] using h2, grown_none h3⟩
  · obtain ⟨b, off, rfl, hlt, hc⟩ := hr hp
    obtain ⟨v', w', h1, h2, h3, _⟩ := run_append_own (P := Try.prog) w w.heap.size 49 49 3 i _ 1 8 ht hi hz0 hz1 hz2 rfl (by omega) (.slice none 0 0) 0 [] h0 ⟨b, off, none⟩ m.length c (numC m) (by simp [numC]) (fun j u hu => by
        rw [addN]
        have hj : j < m.length := by
          have := (List.getElem?_eq_some_iff.1 hu).1
          simpa [numC] using this
        rw [hc j hj, ← hu]
        simp [numC, List.getD, List.getElem?_eq_getElem hj]) (fun u hu => by
        obtain ⟨x, _, rfl⟩ := List.mem_map.1 hu
        rfl) (by unfold maxLen; omega) (by omega) (Nat.le_refl _)
    refine ⟨v', w', h1, by simpa using h2, grown_none h3⟩
theorem own_num {w : World} {B : Nat} {v : Value} {m : List Int} (h : w.ownsRow B 3 1 v m.length (numC m)) (h8 : m.length * 8 ≤ 140737488355328) : NGot w v m := by
  obtain ⟨a, c, rfl⟩ := own_len h
  refine ⟨h8, a, c, rfl, fun hp => ?_⟩
  obtain ⟨_, ⟨hv, h0⟩ | ⟨g, cap, cur, hv, hB, hg, hn, hc, hs, ht⟩⟩ := h
  · omega
  · simp only [Value.slice.injEq] at hv
    obtain ⟨rfl, _, rfl⟩ := hv
    refine ⟨g, 0, rfl, (Array.getElem?_eq_some_iff.1 hg).1, fun j hj => ?_⟩
    have h1 : (cur.toList.take (m.length * 1))[j]? = (numC m)[j]? := by rw [ht]
    rw [Nat.mul_one, List.getElem?_take_of_lt hj] at h1
    rw [cell_at hg, Nat.zero_add, ← Array.getElem?_toList, h1]
    simp [numC, List.getD, List.getElem?_eq_getElem hj]
theorem adv_len (L : LogV) (t : Int) (m : List Int) (h : L.l.length * 32 ≤ 140737488355328) : (advL L t m).1.l.length * 32 ≤ 140737488355328 := by
  unfold advL
  repeat' split
  all_goals first | (simp [zL]; done) | exact h
set_option maxHeartbeats 16000000 in
set_option maxRecDepth 100000 in
theorem advance_walk (L : LogV) (g k : Value) (term : Int) (m : List Int) (w : World) (h : EGot w g L.l) (hk : NGot w k m) : Calls Try.prog 6 #[logV L g, .int .i64 term, k] w fun e w' => e = .returned (.bool true) ∧ Below w.heap.size w w' := by
  have HL := hideIt (fun W => live8_is W)
  have E0 := hideIt (Ent.first h)
  have HCO := hideIt (copy_is L g (w.alloc (.cells (logA L g) 26)) E0.out.got)
  have HLN := hideIt h.1
  have HLX := hideIt (adv_len L term m h.1)
  have HA1 := hideIt (fun W gx kx (hW : EGot W gx L.l) (hK : NGot W kx m) => advance_is L gx kx term m W hW hK)
  have HA2 := hideIt (fun W gx kx (hW : EGot W gx L.l) (hK : NGot W kx m) => rAdvance_is L gx kx term m W hW hK)
  have HNK : Hid (∀ wx, Below w.heap.size w wx → NGot wx k m) := fun wx hx => hk.keep hx
  have HRN : Hid (∀ wx, Below w.heap.size w wx → ∃ v' w', (Builtin.append_ #[49, 49] 49 #[.slice none 0 0, k]).run Try.prog wx = .ok v' w' ∧ w'.ownsRow wx.heap.size 3 1 v' m.length (numC m) ∧ Below wx.heap.size wx w') := fun wx hx => run_num wx m k (hk.keep hx)
  have hm8 := hk.1
  generalize advL L term m = XX at *
  obtain ⟨X, x⟩ := XX
  have HSX := hideIt (fun g k W hg hk => same_is X g k W hg hk)
  have HS0 := hideIt (fun g k W hg hk => same_is L g k W hg hk)
  have hxx : (x == x) = true := by simp
  simp only at HLX
  unfold LogErr at HA1 HA2
  unfold LogBack at HCO
  obtain ⟨ga, gc, rfl⟩ := h.slice
  obtain ⟨_, ka, kc, rfl, _⟩ := hk
  unfold logV logA at *
  obtain ⟨bi, bt, l, cm⟩ := L
  simp only at HCO HA1 HA2 HS0 E0 HLN ⊢
  clear h
  go_enter Try.func6, Try.ntmps6
  go_wp2_with fail
  refine HCO.out.mono ?_
  rintro e w1 ⟨go, rfl, ho, hbl⟩
  dsimp only
  obtain ⟨oa, oc, rfl⟩ := own_len ho
  have C1 := hideIt (below_via hbl (below1 w1 (.cells #[.int .i64 bi, .int .i64 bt, .slice oa l.length oc, .int .i64 cm] 26)))
  have V1 : Hid (LX w w1.heap.size ⟨bi, bt, l, cm⟩ ⟨bi, bt, l, cm⟩ (.slice ga l.length gc) (.slice oa l.length oc) (w1.alloc (.cells #[.int .i64 bi, .int .i64 bt, .slice oa l.length oc, .int .i64 cm] 26))) := ⟨E0.out.keep C1.out, Ent.new (L := ⟨bi, bt, l, cm⟩) ho HLN.out, below_via (below1 w _) C1.out⟩
  clear ho hbl HCO C1 E0
  go_upto_region 3 with fail
  generalize w1.alloc (.cells #[.int .i64 bi, .int .i64 bt, .slice oa l.length oc, .int .i64 cm] 26) = w2 at *
  generalize w1.heap.size = k1 at *
  obtain ⟨nv, w3, hrun, how, hbw⟩ := HRN.out w2 V1.out.bel
  have HRUN := hideIt hrun
  have V3 := hideIt (V1.out.keep hbw)
  have N3 := hideIt (own_num how hm8)
  clear hrun how hbw V1 HRN
  go_upto_region 4 with (at_builtin; refine Lib.wpList_append_run _ rfl _ _ _ _ rfl _ _ rfl rfl _ _ HRUN.out ?_)
  clear HRUN
  obtain ⟨c0, c1, c2, c3, d0, d1, d2, d3⟩ := V3.out.eight
  simp only at c0 c1 c2 c3 d0 d1 d2 d3
  go_wp2_with fail
  refine (HA1.out _ _ _ V3.out.e1.got N3.out).mono ?_
  rintro e w4 ⟨gx, rfl, ho, hbl⟩
  dsimp only
  obtain ⟨xa, xc, rfl⟩ := own_len ho
  have C4 := hideIt (below_via hbl (below1 w4 (.cells #[.int .i64 X.bi, .int .i64 X.bt, .slice xa X.l.length xc, .int .i64 X.cm] 26)))
  have V5 := hideIt (V3.out.keep C4.out)
  have X5 := hideIt (Ent.new ho HLX.out)
  have N5 := hideIt (N3.out.keep C4.out)
  clear ho hbl HA1 C4 V3 N3 c0 c1 c2 c3 d0 d1 d2 d3
  go_upto_region 5 with fail
  unfold logA at X5
  generalize w4.alloc (.cells #[.int .i64 X.bi, .int .i64 X.bt, .slice xa X.l.length xc, .int .i64 X.cm] 26) = w5 at *
  generalize w4.heap.size = k4 at *
  obtain ⟨c0, c1, c2, c3, d0, d1, d2, d3⟩ := V5.out.eight
  simp only at c0 c1 c2 c3 d0 d1 d2 d3
  go_wp2_with fail
  refine (HA2.out _ _ _ V5.out.e0.got (HNK.out _ V5.out.bel)).mono ?_
  rintro e w6 ⟨gy, rfl, ho, hbl⟩
  dsimp only
  obtain ⟨ya, yc, rfl⟩ := own_len ho
  have C6 := hideIt (below_via hbl (below1 w6 (.cells #[.int .i64 X.bi, .int .i64 X.bt, .slice ya X.l.length yc, .int .i64 X.cm] 26)))
  have V7 := hideIt (V5.out.keep C6.out)
  have X7 := hideIt (X5.out.keep C6.out)
  have Y7 := hideIt (Ent.new ho HLX.out)
  have N7 := hideIt (N5.out.keep C6.out)
  clear ho hbl HA2 C6 V5 N5 X5 c0 c1 c2 c3 d0 d1 d2 d3
  go_upto_region 6 with fail
  unfold logA at Y7
  generalize w6.alloc (.cells #[.int .i64 X.bi, .int .i64 X.bt, .slice ya X.l.length yc, .int .i64 X.cm] 26) = w7 at *
  generalize w6.heap.size = k6 at *
  obtain ⟨c0, c1, c2, c3⟩ := X7.out.cells
  obtain ⟨d0, d1, d2, d3⟩ := Y7.out.cells
  go_wp2_with fail
  refine (HSX.out _ _ _ X7.out.got Y7.out.got).mono ?_
  rintro e w8 ⟨rfl, hbl⟩
  dsimp only
  have V8 := hideIt (V7.out.keep hbl)
  have N8 := hideIt (N7.out.keep hbl)
  clear hbl HSX V7 X7 Y7 N7 c0 c1 c2 c3 d0 d1 d2 d3
  obtain ⟨c0, c1, c2, c3, d0, d1, d2, d3⟩ := V8.out.eight
  simp only at c0 c1 c2 c3 d0 d1 d2 d3
  go_wp2_with fail
  refine (HS0.out _ _ _ V8.out.e1.got V8.out.e0.got).mono ?_
  rintro e w9 ⟨rfl, hbl⟩
  dsimp only
  have B9 := hideIt (below_via V8.out.bel hbl)
  have N9 := hideIt (N8.out.keep hbl)
  clear hbl HS0 V8 N8 c0 c1 c2 c3 d0 d1 d2 d3
  have M9 := hideIt (HNK.out _ B9.out)
  obtain ⟨_, na, nc, rfl, hn⟩ := N9.out
  have HN := hideIt hn
  clear hn
  go_upto_region 8 with fail
  go_loopw [13, 14] (fun u v wr => ∃ t : Nat, u = .bool true ∧ v = .int .i64 t ∧ t ≤ m.length ∧ Hid (Below w9.heap.size w9 wr)) (fun _ v _ => m.length - (intOf v).toNat)
  case atStart => exact ⟨0, rfl, rfl, Nat.zero_le _, hideIt (Below.refl _ _)⟩
  case round =>
    obtain ⟨t, rfl, rfl, ht, HW⟩ := hrel
    by_cases hlt : t < m.length
    · have hltI : (t : Int) < (m.length : Int) := by omega
      have ht0 : (0 : Int) ≤ (t : Int) := by omega
      obtain ⟨b1, o1, rfl, hb1, hc1⟩ := HN.out (by omega)
      obtain ⟨_, a2, c2', e2, hr2⟩ := M9.out
      simp only [Value.slice.injEq] at e2
      obtain ⟨rfl, -, -⟩ := e2
      obtain ⟨b2, o2, rfl, hb2, hc2⟩ := hr2 (by omega)
      have y1 := (HW.out.cell (p := ⟨b1, o1 + t, none⟩) hb1).trans (hc1 t hlt)
      have y2 := (HW.out.cell (p := ⟨b2, o2 + t, none⟩) hb2).trans (hc2 t hlt)
      generalize m.getD t 0 = z at *
      have hzz : (z == z) = true := by simp
      clear hc1 hc2 hr2
      go_upto_region 10 with fail
      go_quiet (fail)
      go_wp2
      go_roundw
      case rel => exact ⟨t + 1, rfl, by go_num, by omega, hideIt (bN HW.out _)⟩
      case measure => simp [intOf]; omega
    · have hltI : ¬ (t : Int) < (m.length : Int) := by omega
      have B10 := hideIt (below_via B9.out HW.out)
      go_wp2_with fail
      refine (HL.out _).mono ?_
      rintro e w11 ⟨rfl, hbl⟩
      dsimp only
      have HB := hideIt (below_via B10.out hbl)
      clear hbl
      go_wp2
      go_ret
      exact ⟨rfl, HB.out⟩
end Go.Proofs.Ytonhoopmhkomcaa
