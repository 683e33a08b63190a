/- What accounts have in all: the document. -/
import Derived.Test.YtjinhiabnpmiaaaTotal
namespace Go.Proofs.Ytjinhiabnpmiaaa
open Go.RowKit
set_option maxHeartbeats 8000000 in
set_option maxRecDepth 100000 in
theorem rTotal_is (L : List AccV) (v : Value) (w : World) (h : LGot w v L) : Calls Try.prog 21 #[v] w (TotBack (totL L) w) := by
  obtain ⟨h8, a, c, rfl, hr⟩ := h
  have HH := hideIt hr
  clear hr
  unfold TotBack
  by_cases hn : 1000 < L.length
  · have hnI : (1000 : Int) < (L.length : Int) := by omega
    rw [show totL L = ([], 120) from if_neg (by omega)]
    go_enter Try.func21, Try.ntmps21
    go_wp2
    go_ret2
    exact ⟨_, rfl, own_nil _ _, Below.refl _ _⟩
  · have hnI : ¬ (1000 : Int) < (L.length : Int) := by omega
    have hn2 : L.length ≤ 1000 := by omega
    clear hn
    go_enter Try.func21, Try.ntmps21
    go_wp2
    go_loopw [4] (fun v wr => ∃ (t : Nat), v = .int .i64 t ∧ t ≤ L.length ∧ Hid ((L.take t).all accB = true ∧ Below w.heap.size w wr)) (fun v _ => L.length - (intOf v).toNat)
    case atStart => exact ⟨0, rfl, Nat.zero_le _, hideIt ⟨rfl, Below.refl _ _⟩⟩
    case round =>
      obtain ⟨t, rfl, ht, HR⟩ := hrel
      by_cases hlt : t < L.length
      · have hltI : (t : Int) < (L.length : Int) := by omega
        have ht0 : (0 : Int) ≤ (t : Int) := by omega
        obtain ⟨b, off, g, rfl, hbl, q0, q1, hg⟩ := HH.out t hlt
        have hB := HR.out.2
        have c0 := (hB.cell (p := ⟨b, off + t * 2, none⟩) hbl).trans q0
        have c1 := (hB.cell (p := ⟨b, off + t * 2 + 1, none⟩) hbl).trans q1
        have HALL := hideIt (fun ha => all_take hlt HR.out.1 ha)
        have HNOT := hideIt (fun ha => all_not (L := L) hlt ha)
        have HC := hideIt (rCheck_is L[t] g wr (hg.keep hB))
        have HG := hideIt hg
        have HB := hideIt hB
        clear q0 q1 hB HR hg
        generalize L[t] = en at *
        obtain ⟨l, ct⟩ := en
        unfold accV accA chkI at *
        simp only at c1 HC HG
        obtain ⟨ga, gc, rfl⟩ := HG.out.slice
        cases hacc : accB ⟨l, ct⟩
        · rw [hacc] at HC
          have HT : Hid (totL L = ([], 120)) := if_neg (by rw [HNOT.out hacc]; simp)
          simp only [Bool.false_eq_true, if_false] at HC
          go_wp2_with fail
          refine HC.out.mono ?_
          rintro e w1 ⟨rfl, hbl⟩
          dsimp only
          have HB2 := hideIt (below_via HB.out hbl)
          clear hbl
          go_wp2
          go_ret2
          rw [HT.out]
          exact ⟨_, rfl, own_nil _ _, HB2.out⟩
        · rw [hacc] at HC
          simp only [if_true] at HC
          go_wp2_with fail
          refine HC.out.mono ?_
          rintro e w1 ⟨rfl, hbl2⟩
          dsimp only
          have HN : Hid ((L.take (t + 1)).all accB = true ∧ Below w.heap.size w w1) := ⟨HALL.out hacc, below_via HB.out hbl2⟩
          clear hbl2 c0 c1
          go_wp2
          go_roundw
          case rel => exact ⟨t + 1, by go_num, by omega, HN⟩
          case measure => simp [intOf]; omega
      · have hltI : ¬ (t : Int) < (L.length : Int) := by omega
        have e1 : L.take t = L := List.take_of_length_le (by omega)
        rw [e1] at HR
        have hall := HR.out.1
        have HT : Hid (totL L = (pre (fun k => sumA L k) 4, 0)) := if_pos ⟨hn2, hall⟩
        have HIN := hideIt (fun (j : Nat) (a : Int) => sumA_take_in (L := L) (t := j) a hn2 (by
          rw [List.all_eq_true] at hall ⊢
          exact fun x hx => hall x (List.mem_of_mem_take hx)))
        have HACC := hideIt (fun (j : Nat) (hj : j < L.length) (a : Int) => bal_in (L[j]).l _ a (accB_in (List.all_eq_true.1 hall L[j] (List.getElem_mem hj))).1)
        have HB0 := hideIt HR.out.2
        clear hall HR e1 ht hltI
        go_upto_region 10 with fail
        go_loopw [5, 6] (fun u v wr => ∃ (k : Nat), v = .int .i64 k ∧ k ≤ 4 ∧ Hid (Mine w u (pre (fun k => sumA L k) k) wr)) (fun _ v _ => 4 - (intOf v).toNat)
        case atStart => exact ⟨0, rfl, Nat.zero_le _, hideIt ⟨own_nil _ _, HB0.out⟩⟩
        case round =>
          obtain ⟨k, rfl, hk, HM⟩ := hrel
          by_cases hk3 : k < 4
          · have hk3I : (k : Int) ≤ 3 := by omega
            go_upto_region 14 with fail
            go_loopw [7, 8] (fun u v wr => ∃ (j : Nat), u = .int .i64 (sumA (L.take j) k) ∧ v = .int .i64 j ∧ j ≤ L.length ∧ Hid (Mine w u5 (pre (fun k => sumA L k) k) wr)) (fun _ v _ => L.length - (intOf v).toNat)
            case atStart => exact ⟨0, rfl, rfl, Nat.zero_le _, HM⟩
            case round =>
              obtain ⟨j, rfl, rfl, hj, HM2⟩ := hrel
              by_cases hlt : j < L.length
              · have hltI : (j : Int) < (L.length : Int) := by omega
                have ht0 : (0 : Int) ≤ (j : Int) := by omega
                obtain ⟨b, off, g, rfl, hbl, q0, q1, hg⟩ := HH.out j hlt
                have hB := HM2.out.bel
                have c0 := (hB.cell (p := ⟨b, off + j * 2, none⟩) hbl).trans q0
                have c1 := (hB.cell (p := ⟨b, off + j * 2 + 1, none⟩) hbl).trans q1
                have HST := hideIt (sumA_take L j k hlt)
                obtain ⟨s1, s2⟩ := HIN.out j k
                obtain ⟨s3, s4⟩ := HACC.out j hlt k
                have HC := hideIt (rBalance_is L[j] g k wr (hg.keep hB))
                have HG := hideIt hg
                clear q0 q1 hB hg
                generalize L[j] = en at *
                obtain ⟨l, ct⟩ := en
                unfold accV accA at *
                simp only at c1 HC HST s3 s4 HG
                obtain ⟨ga, gc, rfl⟩ := HG.out.slice
                generalize balL l k = B at *
                obtain ⟨S, hS⟩ : ∃ S, S = sumA (L.take j) k := ⟨_, rfl⟩
                rw [← hS] at HST s1 s2 ⊢
                have HS := hideIt hS
                clear hS
                go_wp2_with fail
                refine HC.out.mono ?_
                rintro e w1 ⟨rfl, hbl2⟩
                dsimp only
                have HM3 : Hid (Mine w u5 (pre (fun k => sumA L k) k) w1) := ⟨own_keep HM2.out.own hbl2, below_via HM2.out.bel hbl2⟩
                clear hbl2 c0 c1
                go_wp2
                go_roundw
                case rel => exact ⟨j + 1, by rw [HST.out], by go_num, by omega, HM3⟩
                case measure => simp [intOf]; omega
              · have hltI : ¬ (j : Int) < (L.length : Int) := by omega
                have e1 : L.take j = L := List.take_of_length_le (by omega)
                rw [e1]
                have HE : Hid (pre (fun k => sumA L k) (k + 1) = pre (fun k => sumA L k) k ++ one (fun k => sumA L k) k) := rfl
                have hpl := pre_len (fun k => sumA L k) k
                obtain ⟨S, hS⟩ : ∃ S, S = sumA L k := ⟨_, rfl⟩
                rw [← hS]
                by_cases h0 : 0 < S
                · have HO : Hid (one (fun k => sumA L k) k = [⟨k, S⟩]) := by
                    show one (fun k => sumA L k) k = _
                    unfold one
                    simp only
                    rw [← hS, if_pos h0]
                  obtain ⟨v', w', hrun, hm⟩ := HM2.out.grow k S (by omega)
                  have HRUN := hideIt hrun
                  have HM3 := hideIt hm
                  clear hrun hm hS
                  go_upto_region 11 with (at_builtin; refine wpList_append_run _ rfl _ _ rfl rfl rfl rfl HRUN.out ?_)
                  clear HRUN
                  go_wp2
                  go_roundw
                  case rel => exact ⟨k + 1, by go_num, by omega, hideIt (by rw [HE.out, HO.out]; exact HM3.out)⟩
                  case measure => simp [intOf]; omega
                · have HO : Hid (one (fun k => sumA L k) k = []) := by
                    show one (fun k => sumA L k) k = _
                    unfold one
                    simp only
                    rw [← hS, if_neg h0]
                  have h0I : S ≤ 0 := by omega
                  clear h0 hS
                  go_wp2
                  go_roundw
                  case rel => exact ⟨k + 1, by go_num, by omega, hideIt (by rw [HE.out, HO.out, List.append_nil]; exact HM2.out)⟩
                  case measure => simp [intOf]; omega
          · have hk3I : ¬ (k : Int) ≤ 3 := by omega
            obtain rfl : k = 4 := by omega
            go_wp2
            go_ret2
            rw [HT.out]
            exact ⟨_, rfl, HM.out⟩
end Go.Proofs.Ytjinhiabnpmiaaa
