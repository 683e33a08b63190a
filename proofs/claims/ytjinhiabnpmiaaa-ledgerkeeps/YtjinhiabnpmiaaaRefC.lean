/- What is given and taken: the document. -/
import Derived.Test.YtjinhiabnpmiaaaCred
namespace Go.Proofs.Ytjinhiabnpmiaaa
open Go.RowKit
theorem setR_drop (l : List AmtV) (t : Nat) (a n : Int) (p : Bool) (h : t < l.length) : setR (l.drop t) a n p = (if !p && decide (a ≤ (l[t]).k) then [⟨a, n⟩] else []) ++ ((if (l[t]).k = a then [] else [l[t]]) ++ setR (l.drop (t + 1)) a n (p || decide (a ≤ (l[t]).k))) := by
  rw [List.drop_eq_getElem_cons h]
  rfl
set_option maxHeartbeats 8000000 in
set_option maxRecDepth 100000 in
theorem set_any (g : Value) (l : List AmtV) (a n : Int) (w : World) (h : AGot w g l) (hl4 : l.length ≤ 100) : Calls Try.prog 33 #[g, .int .i64 a, .int .i64 n] w fun e w' => ∃ r, e = .returned r ∧ Mine w r (setR l a n (n == 0)) w' := by
  obtain ⟨ga, c, rfl, h8, hr⟩ := h.open
  have HH := hideIt hr
  clear hr h
  go_enter Try.func33, Try.ntmps33
  go_wp2
  go_loopw [7, 8, 9] (fun u x v wr => ∃ (t : Nat) (p : Bool) (xs : List AmtV), x = .bool p ∧ v = .int .i64 t ∧ t ≤ l.length ∧ xs.length ≤ 2 * t ∧ Hid (Mine w u xs wr ∧ setR l a n (n == 0) = xs ++ setR (l.drop t) a n p)) (fun _ _ v _ => l.length - (intOf v).toNat)
  case atStart => exact ⟨0, n == 0, [], by first | rfl | simp, rfl, Nat.zero_le _, by simp, hideIt ⟨⟨own_nil _ _, Below.refl _ _⟩, rfl⟩⟩
  case round =>
    obtain ⟨t, p, xs, rfl, rfl, ht, hxl, HR⟩ := hrel
    by_cases hlt : t < l.length
    · have hltI : (t : Int) < (l.length : Int) := by omega
      have ht0 : (0 : Int) ≤ (t : Int) := by omega
      obtain ⟨b, off, rfl, hbl, q0, q1⟩ := HH.out t hlt
      have HRD := hideIt (setR_drop l t a n p hlt)
      have HCC : Hid (∀ wx, Below w.heap.size w wx → wx.cell? ⟨b, off + t * 2, none⟩ = some (.int .i64 (l[t]).k) ∧ wx.cell? ⟨b, off + t * 2 + 1, none⟩ = some (.int .i64 (l[t]).n)) := fun wx hx => ⟨(hx.cell (p := ⟨b, off + t * 2, none⟩) hbl).trans q0, (hx.cell (p := ⟨b, off + t * 2 + 1, none⟩) hbl).trans q1⟩
      generalize l[t] = en at *
      obtain ⟨ek, ex⟩ := en
      simp only at HRD HCC
      clear q0 q1
      obtain ⟨c0, c1⟩ := HCC.out wr HR.out.1.bel
      have HM0 := hideIt HR.out.1
      have HE0 := hideIt HR.out.2
      cases p
      · by_cases h1 : a ≤ ek
        · by_cases h2 : ek = a
          · subst h2
            obtain ⟨v1, w1, hrun, hm⟩ := HM0.out.grow ek n (by omega)
            have HRUN := hideIt hrun
            have HM1 := hideIt hm
            clear hrun hm
            have HF : Hid (setR l ek n (n == 0) = (xs ++ [⟨ek, n⟩]) ++ setR (l.drop (t + 1)) ek n true) := by
              show _ = _
              rw [HE0.out, HRD.out]
              simp
            clear HR HE0 HRD
            go_upto_region 9 with (at_builtin; refine wpList_append_run _ rfl _ _ rfl rfl rfl rfl HRUN.out ?_)
            clear HRUN c0 c1
            obtain ⟨c0, c1⟩ := HCC.out w1 HM1.out.bel
            go_wp2
            go_roundw
            case rel => exact ⟨t + 1, true, xs ++ [⟨ek, n⟩], rfl, by go_num, by omega, by simp; omega, hideIt ⟨HM1.out, HF.out⟩⟩
            case measure => simp [intOf]; omega
          · have h2b : (ek != a) = true := by simp [h2]
            obtain ⟨v1, w1, hrun, hm⟩ := HM0.out.grow a n (by omega)
            have HRUN := hideIt hrun
            have HM1 := hideIt hm
            clear hrun hm
            have HF : Hid (setR l a n (n == 0) = (xs ++ [⟨a, n⟩] ++ [⟨ek, ex⟩]) ++ setR (l.drop (t + 1)) a n true) := by
              show _ = _
              rw [HE0.out, HRD.out]
              simp [h1, h2]
            clear HR HE0 HRD
            go_upto_region 9 with (at_builtin; refine wpList_append_run _ rfl _ _ rfl rfl rfl rfl HRUN.out ?_)
            clear HRUN c0 c1
            obtain ⟨c0, c1⟩ := HCC.out w1 HM1.out.bel
            have hx1 : (xs ++ [(⟨a, n⟩ : AmtV)]).length ≤ 2 * t + 1 := by simp; omega
            obtain ⟨v2, w2, hrun, hm⟩ := HM1.out.grow ek ex (by omega)
            have HRUN := hideIt hrun
            have HM2 := hideIt hm
            clear hrun hm
            go_upto_region 5 with (at_builtin; refine wpList_append_run _ rfl _ _ rfl rfl rfl rfl HRUN.out ?_)
            clear HRUN
            go_wp2
            go_roundw
            case rel => exact ⟨t + 1, true, xs ++ [⟨a, n⟩] ++ [⟨ek, ex⟩], rfl, by go_num, by omega, by simp; omega, hideIt ⟨HM2.out, HF.out⟩⟩
            case measure => simp [intOf]; omega
        · have h1I : ek < a := by omega
          have h2b : (ek != a) = true := by simp; omega
          have h2c : ¬ ek = a := by omega
          have HF : Hid (setR l a n (n == 0) = (xs ++ [⟨ek, ex⟩]) ++ setR (l.drop (t + 1)) a n false) := by
            show _ = _
            rw [HE0.out, HRD.out]
            simp [h1, h2c]
          obtain ⟨v1, w1, hrun, hm⟩ := HM0.out.grow ek ex (by omega)
          have HRUN := hideIt hrun
          have HM1 := hideIt hm
          clear hrun hm
          clear HR HE0 HRD
          go_upto_region 5 with (at_builtin; refine wpList_append_run _ rfl _ _ rfl rfl rfl rfl HRUN.out ?_)
          clear HRUN
          go_wp2
          go_roundw
          case rel => exact ⟨t + 1, false, xs ++ [⟨ek, ex⟩], rfl, by go_num, by omega, by simp; omega, hideIt ⟨HM1.out, HF.out⟩⟩
          case measure => simp [intOf]; omega
      · by_cases h2 : ek = a
        · subst h2
          have HF : Hid (setR l ek n (n == 0) = xs ++ setR (l.drop (t + 1)) ek n true) := by
            show _ = _
            rw [HE0.out, HRD.out]
            simp
          clear HR HE0 HRD
          go_wp2
          go_roundw
          case rel => exact ⟨t + 1, true, xs, rfl, by go_num, by omega, by omega, hideIt ⟨HM0.out, HF.out⟩⟩
          case measure => simp [intOf]; omega
        · have h2b : (ek != a) = true := by simp [h2]
          have HF : Hid (setR l a n (n == 0) = (xs ++ [⟨ek, ex⟩]) ++ setR (l.drop (t + 1)) a n true) := by
            show _ = _
            rw [HE0.out, HRD.out]
            simp [h2]
          obtain ⟨v1, w1, hrun, hm⟩ := HM0.out.grow ek ex (by omega)
          have HRUN := hideIt hrun
          have HM1 := hideIt hm
          clear hrun hm
          clear HR HE0 HRD
          go_upto_region 5 with (at_builtin; refine wpList_append_run _ rfl _ _ rfl rfl rfl rfl HRUN.out ?_)
          clear HRUN
          go_wp2
          go_roundw
          case rel => exact ⟨t + 1, true, xs ++ [⟨ek, ex⟩], rfl, by go_num, by omega, by simp; omega, hideIt ⟨HM1.out, HF.out⟩⟩
          case measure => simp [intOf]; omega
    · have hltI : ¬ (t : Int) < (l.length : Int) := by omega
      have HE := HR.out.2
      rw [List.drop_of_length_le (by omega)] at HE
      have HE2 := hideIt HE
      clear HE
      cases p
      · have HM0 := hideIt HR.out.1
        obtain ⟨v1, w1, hrun, hm⟩ := HM0.out.grow a n (by omega)
        have HRUN := hideIt hrun
        have HM1 := hideIt hm
        clear hrun hm
        clear HR
        go_upto_region 13 with (at_builtin; refine wpList_append_run _ rfl _ _ rfl rfl rfl rfl HRUN.out ?_)
        clear HRUN
        go_wp2
        go_ret
        refine ⟨_, rfl, ?_⟩
        rw [HE2.out]
        exact HM1.out
      · go_wp2
        go_ret
        refine ⟨_, rfl, ?_⟩
        rw [HE2.out]
        simpa [setR] using HR.out.1
end Go.Proofs.Ytjinhiabnpmiaaa
