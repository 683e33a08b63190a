/- The document's Net, walked. -/
import Derived.Test.YtbpnnhalajbjnaaRNp
import Derived.BigQuiet
import Derived.Deep.CutRange
import Derived.RegionTactic
import Derived.BigRegion
namespace Go.Proofs.Ytbpnnhalajbjnaa
open Go.RowKit
set_option linter.all false
theorem any_at {l : List FillV} {t : Nat} (h : t < l.length) (hs : strF l[t] = true) : l.any strF = true := List.any_eq_true.2 ⟨_, List.getElem_mem h, hs⟩
set_option maxHeartbeats 16000000 in
set_option maxRecDepth 100000 in
theorem rNet_is (v : Value) (l : List FillV) (w : World) (h : Fils w v l) : Calls Try.prog 10 #[v] w (NetB (netL l) w) := by
  obtain ⟨a, c, rfl, h8, hr⟩ := h.fils
  have HH := hideIt hr
  clear hr h
  by_cases hl : 1000 < l.length
  · have hlI : (1000 : Int) < (l.length : Int) := by omega
    have e : netL l = ([], 150) := by unfold netL; rw [decide_eq_true hl, Bool.true_or, if_pos rfl]
    rw [e]
    clear HH e
    unfold NetB
    go_enter Try.func10, Try.ntmps10
    go_wp2
    go_ret2
    exact ⟨none, 0, rfl, own_nil _ _, Below.refl _ _⟩
  · have hlI : ¬ (1000 : Int) < (l.length : Int) := by omega
    have HB0 : Hid (l.any strF = true → ∀ W, Below w.heap.size w W → NetB (netL l) w (.returned (.tuple #[.slice none 0 0, .int .i64 150])) W) := fun hs W hW => by
      have e : netL l = ([], 150) := by unfold netL; rw [hs, Bool.or_true, if_pos rfl]
      rw [e]
      exact ⟨none, 0, rfl, own_nil _ _, hW⟩
    have HOKL : Hid ((∀ x ∈ l, strF x = false) → netL l = (posT (netS l) 8, 0)) := fun hs => by
      unfold netL
      rw [decide_eq_false hl, Bool.false_or, if_neg]
      rw [Bool.not_eq_true, List.any_eq_false]
      intro x hx
      simp [hs x hx]
    generalize netL l = NL at *
    go_enter Try.func10, Try.ntmps10
    go_wp2
    go_loopw [4] (fun v wr => ∃ t : Nat, v = .int .i64 t ∧ t ≤ l.length ∧ Hid ((∀ i (hi : i < l.length), i < t → strF l[i] = false) ∧ Below w.heap.size w wr)) (fun v _ => l.length - (RowKit.intOf v).toNat)
    case atStart => exact ⟨0, rfl, Nat.zero_le _, hideIt ⟨fun i _ hi => by omega, Below.refl _ _⟩⟩
    case round =>
      obtain ⟨t, rfl, ht, HR⟩ := hrel
      by_cases hlt : t < l.length
      · have hltI : (t : Int) < (l.length : Int) := by omega
        have ht0 : (0 : Int) ≤ (t : Int) := by omega
        have hw : IntKind.i64.wrap ((t : Int) + 1) = ((t + 1 : Nat) : Int) := by rw [IntKind.wrap_i64]; omega
        obtain ⟨b, off, rfl, hbl, q0, q1, q2, q3⟩ := HH.out t hlt
        have hblr : b < wr.heap.size := Nat.lt_of_lt_of_le hbl HR.out.2.size
        have c0 := (HR.out.2.cell (p := ⟨b, off + t * 4, none⟩) hbl).trans q0
        have c1 := (HR.out.2.cell (p := ⟨b, off + t * 4 + 1, none⟩) hbl).trans q1
        have c2 := (HR.out.2.cell (p := ⟨b, off + t * 4 + 2, none⟩) hbl).trans q2
        have c3 := (HR.out.2.cell (p := ⟨b, off + t * 4 + 3, none⟩) hbl).trans q3
        have HBA := hideIt (fun (hs : strF l[t] = true) => HB0.out (any_at hlt hs))
        have HNX : Hid (strF l[t] = false → ∀ i (hi : i < l.length), i < t + 1 → strF l[i] = false) := fun hs i hi h1 => by
          by_cases e : i = t
          · subst e; exact hs
          · exact HR.out.1 i hi (by omega)
        clear q0 q1 q2 q3 HH
        generalize l[t] = y at *
        obtain ⟨yb, ys, yp, yn⟩ := y
        dsimp only at c0 c1 c2 c3
        have B1 := hideIt (below_via HR.out.2 (below1 wr (.cells #[.int .i64 yb, .int .i64 ys, .int .i64 yp, .int .i64 yn] 67)))
        have K1 := hideIt (heap_alloc_new wr (.cells #[.int .i64 yb, .int .i64 ys, .int .i64 yp, .int .i64 yn] 67))
        clear HR
        go_upto_region 7 with fail
        clear c0 c1 c2 c3 hblr
        generalize wr.alloc (.cells #[.int .i64 yb, .int .i64 ys, .int .i64 yp, .int .i64 yn] 67) = W1 at *
        generalize wr.heap.size = kb at *
        have k0 : W1.cell? ⟨kb, 0, none⟩ = some (.int .i64 yb) := by rw [cell_at K1.out]; rfl
        have k1 : W1.cell? ⟨kb, 1, none⟩ = some (.int .i64 ys) := by rw [cell_at K1.out]; rfl
        have k2 : W1.cell? ⟨kb, 2, none⟩ = some (.int .i64 yp) := by rw [cell_at K1.out]; rfl
        have k3 : W1.cell? ⟨kb, 3, none⟩ = some (.int .i64 yn) := by rw [cell_at K1.out]; rfl
        have kz : kb < W1.heap.size := (Array.getElem?_eq_some_iff.1 K1.out).1
        have HBAD := hideIt (fun hs => HBA.out hs W1 B1.out)
        clear K1 HBA
        by_cases h1 : yb < 1
        · have HF := hideIt (HBAD.out (by unfold strF wiB; simp; omega))
          go_wp2
          go_ret2
          exact HF.out
        by_cases h2 : 8 < yb
        · have HF := hideIt (HBAD.out (by unfold strF wiB; simp; omega))
          go_wp2
          go_ret2
          exact HF.out
        by_cases h3 : ys < 1
        · have HF := hideIt (HBAD.out (by unfold strF wiB; simp; omega))
          go_wp2
          go_ret2
          exact HF.out
        by_cases h4 : 8 < ys
        · have HF := hideIt (HBAD.out (by unfold strF wiB; simp; omega))
          go_wp2
          go_ret2
          exact HF.out
        by_cases h5 : yp < 1
        · have HF := hideIt (HBAD.out (by unfold strF wiB; simp; omega))
          go_wp2
          go_ret2
          exact HF.out
        by_cases h6 : 1000000 < yp
        · have HF := hideIt (HBAD.out (by unfold strF wiB; simp; omega))
          go_wp2
          go_ret2
          exact HF.out
        by_cases h7 : yn < 1
        · have HF := hideIt (HBAD.out (by unfold strF wiB; simp; omega))
          go_wp2
          go_ret2
          exact HF.out
        by_cases h9 : 1000000 < yn
        · have HF := hideIt (HBAD.out (by unfold strF wiB; simp; omega))
          go_wp2
          go_ret2
          exact HF.out
        have HOK := hideIt (HNX.out (by unfold strF wiB; simp; omega))
        clear HBAD HNX
        go_wp2
        go_roundw
        case rel => exact ⟨t + 1, by go_num, by omega, hideIt ⟨HOK.out, B1.out⟩⟩
        case measure => simp [RowKit.intOf]; omega
      · have hltI : ¬ (t : Int) < (l.length : Int) := by omega
        have HALL : Hid (∀ x ∈ l, strF x = false) := fun x hx => by
          obtain ⟨i, hi, rfl⟩ := List.mem_iff_getElem.1 hx
          exact HR.out.1 i hi (by omega)
        have HNL := hideIt (HOKL.out HALL.out)
        have HB1 := hideIt HR.out.2
        clear HR HB0 HOKL
        have HPS := hideIt (fun t => pos_trp (netS l) t)
        have HPL := hideIt (fun t => posT_len (netS l) t)
        have H0 : Hid ((posT (netS l) 0).length = 0) := by show _ = _; simp [posT]
        have HST := hideIt (fun i (hi : i < l.length) x => show trp (netS (l.take (i + 1))) x = _ from (congrArg (fun f => trp f x) (show netS (l.take (i + 1)) = netS1 (netS (l.take i)) l[i] by unfold netS; rw [List.take_succ_eq_append_getElem hi, List.foldl_append]; rfl)).trans (trp_net (netS (l.take i)) l[i] x))
        have HGS := hideIt (fun i x => g_small (small_take HALL.out i) x)
        have HTI := hideIt (fun x => show trp (netS (l.take 0)) x = (0, 0, false) by simp [netS, trp, gM, gG])
        have HTL := hideIt (fun x => show trp (netS (l.take l.length)) x = trp (netS l) x by rw [List.take_length])
        have HEL : Hid (∀ i (hi : i < l.length), (1 ≤ l[i].price ∧ l[i].price ≤ 1000000) ∧ (1 ≤ l[i].n ∧ l[i].n ≤ 1000000)) := fun i hi => (str_ok (HALL.out _ (List.getElem_mem hi))).2.2
        have X0 : Hid (wr.ownsRow w.heap.size 31 3 (.slice none 0 0) (posT (netS l) 0).length (celC posE (posT (netS l) 0)) ∧ Below w.heap.size w wr) := ⟨by simpa [posT, celC] using own_nil (k := 3) (e := 31) wr w.heap.size, HB1.out⟩
        clear HALL HB1
        generalize hPT : posT (netS l) = PT at *
        clear hPT
        go_upto_region 11 with fail
        go_loopw [6, 7] (fun u v wr => ∃ t : Nat, ∃ ua un uc, u = .slice ua un uc ∧ v = .int .i64 ((t : Int) + 1) ∧ t ≤ 8 ∧ un = (PT t).length ∧ Hid (wr.ownsRow w.heap.size 31 3 (.slice ua un uc) (PT t).length (celC posE (PT t)) ∧ Below w.heap.size w wr)) (fun _ v _ => 9 - (RowKit.intOf v).toNat)
        case atStart => exact ⟨0, none, 0, 0, rfl, rfl, by omega, H0.out.symm, X0⟩
        case round =>
          clear X0 H0
          obtain ⟨t2, ua, un, uc, rfl, rfl, ht2, hun, HP⟩ := hrel
          have hln := HPL.out t2
          subst hun
          by_cases hlt2 : t2 < 8
          · have hlt2I : (t2 : Int) + 1 ≤ 8 := by omega
            have hwt : IntKind.i64.wrap ((t2 : Int) + 1 + 1) = (t2 : Int) + 1 + 1 := by rw [IntKind.wrap_i64]; omega
            have N0 : Hid (NB w wr.heap.size ((t2 : Int) + 1) 0 0 (PT t2) (.slice ua (PT t2).length uc) (wr.alloc (.cells #[.int .i64 ((t2 : Int) + 1), .int .i64 0, .int .i64 0] 31))) := ⟨heap_alloc_new wr _, own_keep HP.out.1 (below1 _ _), fun e => by have := (HP.out.1.lt _ e).2; omega, below_via HP.out.2 (below1 _ _), HP.out.2.size⟩
            have hpt := HPS.out t2
            have HTI2 := hideIt (HTI.out ((t2 : Int) + 1))
            have HTL2 := hideIt (HTL.out ((t2 : Int) + 1))
            have HST2 := hideIt (fun i hi => HST.out i hi ((t2 : Int) + 1))
            have HGS2 := hideIt (fun i => HGS.out i ((t2 : Int) + 1))
            have HPT2 := hideIt hpt
            clear HP hpt
            generalize hx : (t2 : Int) + 1 = x at *
            have HX := hideIt hx
            clear hx
            go_upto_region 16 with fail
            have N0' := N0
            clear N0
            generalize wr.alloc (.cells #[.int .i64 x, .int .i64 0, .int .i64 0] 31) = WB at *
            generalize wr.heap.size = K at *
            go_loopw [9, 10] (fun bv iv wr => ∃ (i : Nat) (m g : Int) (is : Bool), bv = .bool is ∧ iv = .int .i64 i ∧ i ≤ l.length ∧ Hid (trp (netS (l.take i)) x = (m, g, is)) ∧ Hid (NB w K x m g (PT t2) (.slice ua (PT t2).length uc) wr)) (fun _ iv _ => l.length - (RowKit.intOf iv).toNat)
            case atStart => exact ⟨0, 0, 0, false, rfl, rfl, Nat.zero_le _, HTI2, N0'⟩
            case round =>
              clear N0' HTI2
              obtain ⟨i, m, g, is, rfl, rfl, hi, HTR, N1⟩ := hrel
              by_cases hil : i < l.length
              · have hilI : (i : Int) < (l.length : Int) := by omega
                have hi0 : (0 : Int) ≤ (i : Int) := by omega
                have hwi : IntKind.i64.wrap ((i : Int) + 1) = ((i + 1 : Nat) : Int) := by rw [IntKind.wrap_i64]; omega
                obtain ⟨b, off, rfl, hbl, q0, q1, q2, q3⟩ := HH.out i hil
                have hel := HEL.out i hil
                have HNX := hideIt (HST2.out i hil)
                have hbd := HGS2.out i
                have hgm : gM (netS (l.take i)) x = m := congrArg (·.1) HTR.out
                have hgg : gG (netS (l.take i)) x = g := congrArg (·.2.1) HTR.out
                rw [hgm, hgg] at hbd
                have hlt3 : (l.take i).length ≤ 1000 := by rw [List.length_take]; omega
                generalize l[i] = y at *
                obtain ⟨yb, ys, yp, yn⟩ := y
                dsimp only at q0 q1 q2 q3 hel HNX
                have hmu := mul_bd2 hel.1 hel.2
                have u1 : IntKind.i64.wrap (yp * yn) = yp * yn := by rw [IntKind.wrap_i64]; omega
                have u2 : IntKind.i64.wrap (m - yp * yn) = m - yp * yn := by rw [IntKind.wrap_i64]; omega
                have u3 : IntKind.i64.wrap (g + yn) = g + yn := by rw [IntKind.wrap_i64]; omega
                have u4 : IntKind.i64.wrap (m + yp * yn) = m + yp * yn := by rw [IntKind.wrap_i64]; omega
                have u5 : IntKind.i64.wrap (g - yn) = g - yn := by rw [IntKind.wrap_i64]; omega
                have u6 : IntKind.i64.wrap (m - yp * yn + yp * yn) = m - yp * yn + yp * yn := by rw [IntKind.wrap_i64]; omega
                have u7 : IntKind.i64.wrap (g + yn - yn) = g + yn - yn := by rw [IntKind.wrap_i64]; omega
                have HGM := hideIt hgm
                have HGG := hideIt hgg
                clear hgm hgg hbd hel hmu
                by_cases hbq : yb = x
                · by_cases hsq : ys = x
                  · obtain ⟨n0, n1, n2, nf, nz⟩ := N1.out.cells
                    have p0 := (N1.out.bel.cell (p := ⟨b, off + i * 4, none⟩) hbl).trans q0
                    have p1 := (N1.out.bel.cell (p := ⟨b, off + i * 4 + 1, none⟩) hbl).trans q1
                    have p2 := (N1.out.bel.cell (p := ⟨b, off + i * 4 + 2, none⟩) hbl).trans q2
                    have p3 := (N1.out.bel.cell (p := ⟨b, off + i * 4 + 3, none⟩) hbl).trans q3
                    have pz : b < wr.heap.size := Nat.lt_of_lt_of_le hbl N1.out.bel.size
                    go_upto_region 19 with fail
                    clear n0 n1 n2 nf nz p0 p1 p2 p3 pz
                    obtain ⟨n0, n1, n2, nf, nz⟩ := N1.out.cells
                    have p0 := (N1.out.bel.cell (p := ⟨b, off + i * 4, none⟩) hbl).trans q0
                    have p1 := (N1.out.bel.cell (p := ⟨b, off + i * 4 + 1, none⟩) hbl).trans q1
                    have p2 := (N1.out.bel.cell (p := ⟨b, off + i * 4 + 2, none⟩) hbl).trans q2
                    have p3 := (N1.out.bel.cell (p := ⟨b, off + i * 4 + 3, none⟩) hbl).trans q3
                    have pz : b < wr.heap.size := Nat.lt_of_lt_of_le hbl N1.out.bel.size
                    have N2 := hideIt ((N1.out.keep (Below.refl _ _).drew).setM (m - yp * yn))
                    go_upto_region 19 with fail
                    go_cut [94] from 81 to 95 (fun _ wx => wr.drew.setCell ⟨K, 1, none⟩ (.int .i64 (m - yp * yn)) = wx)
                    case first =>
                      clear N1 N2 HST2 HGS2 HPT2 HTL2 HH
                      go_region
                      all_goals go_wp2_with fail
                      all_goals go_meet
                      all_goals rfl
                    case rest =>
                    subst hcut
                    clear N1 n0 n1 n2 nf nz p0 p1 p2 p3 pz
                    generalize wr.drew.setCell ⟨K, 1, none⟩ (.int .i64 (m - yp * yn)) = W2 at *
                    obtain ⟨n0, n1, n2, nf, nz⟩ := N2.out.cells
                    have p0 := (N2.out.bel.cell (p := ⟨b, off + i * 4, none⟩) hbl).trans q0
                    have p1 := (N2.out.bel.cell (p := ⟨b, off + i * 4 + 1, none⟩) hbl).trans q1
                    have p2 := (N2.out.bel.cell (p := ⟨b, off + i * 4 + 2, none⟩) hbl).trans q2
                    have p3 := (N2.out.bel.cell (p := ⟨b, off + i * 4 + 3, none⟩) hbl).trans q3
                    have pz : b < W2.heap.size := Nat.lt_of_lt_of_le hbl N2.out.bel.size
                    have N3 := hideIt ((N2.out.keep (Below.refl _ _).drew).setG (g + yn))
                    go_upto_region 20 with fail
                    go_cut [103] from 96 to 104 (fun _ wx => W2.drew.setCell ⟨K, 2, none⟩ (.int .i64 (g + yn)) = wx)
                    case first =>
                      clear N2 N3 HST2 HGS2 HPT2 HTL2 HH
                      go_region
                      all_goals go_wp2_with fail
                      all_goals go_meet
                      all_goals rfl
                    case rest =>
                    subst hcut
                    clear N2 n0 n1 n2 nf nz p0 p1 p2 p3 pz
                    generalize W2.drew.setCell ⟨K, 2, none⟩ (.int .i64 (g + yn)) = W3 at *
                    obtain ⟨m2, hm2⟩ : ∃ m2, m2 = m - yp * yn := ⟨_, rfl⟩
                    obtain ⟨g2, hg2⟩ : ∃ g2, g2 = g + yn := ⟨_, rfl⟩
                    rw [← hm2, ← hg2] at N3
                    have v6 : IntKind.i64.wrap (m2 + yp * yn) = m2 + yp * yn := by rw [hm2]; exact u6
                    have v7 : IntKind.i64.wrap (g2 - yn) = g2 - yn := by rw [hg2]; exact u7
                    have HM2 := hideIt hm2
                    have HG2 := hideIt hg2
                    clear hm2 hg2 u6 u7
                    obtain ⟨n0, n1, n2, nf, nz⟩ := N3.out.cells
                    have p0 := (N3.out.bel.cell (p := ⟨b, off + i * 4, none⟩) hbl).trans q0
                    have p1 := (N3.out.bel.cell (p := ⟨b, off + i * 4 + 1, none⟩) hbl).trans q1
                    have p2 := (N3.out.bel.cell (p := ⟨b, off + i * 4 + 2, none⟩) hbl).trans q2
                    have p3 := (N3.out.bel.cell (p := ⟨b, off + i * 4 + 3, none⟩) hbl).trans q3
                    have pz : b < W3.heap.size := Nat.lt_of_lt_of_le hbl N3.out.bel.size
                    go_upto_region 23 with fail
                    clear n0 n1 n2 nf nz p0 p1 p2 p3 pz
                    obtain ⟨n0, n1, n2, nf, nz⟩ := N3.out.cells
                    have p0 := (N3.out.bel.cell (p := ⟨b, off + i * 4, none⟩) hbl).trans q0
                    have p1 := (N3.out.bel.cell (p := ⟨b, off + i * 4 + 1, none⟩) hbl).trans q1
                    have p2 := (N3.out.bel.cell (p := ⟨b, off + i * 4 + 2, none⟩) hbl).trans q2
                    have p3 := (N3.out.bel.cell (p := ⟨b, off + i * 4 + 3, none⟩) hbl).trans q3
                    have pz : b < W3.heap.size := Nat.lt_of_lt_of_le hbl N3.out.bel.size
                    have N4 := hideIt ((N3.out.keep (Below.refl _ _).drew).setM (m2 + yp * yn))
                    go_upto_region 23 with fail
                    go_cut [125] from 112 to 126 (fun _ wx => W3.drew.setCell ⟨K, 1, none⟩ (.int .i64 (m2 + yp * yn)) = wx)
                    case first =>
                      clear N3 N4 HST2 HGS2 HPT2 HTL2 HH
                      go_region
                      all_goals go_wp2_with fail
                      all_goals go_meet
                      all_goals rfl
                    case rest =>
                    subst hcut
                    clear N3 n0 n1 n2 nf nz p0 p1 p2 p3 pz
                    generalize W3.drew.setCell ⟨K, 1, none⟩ (.int .i64 (m2 + yp * yn)) = W4 at *
                    obtain ⟨n0, n1, n2, nf, nz⟩ := N4.out.cells
                    have p0 := (N4.out.bel.cell (p := ⟨b, off + i * 4, none⟩) hbl).trans q0
                    have p1 := (N4.out.bel.cell (p := ⟨b, off + i * 4 + 1, none⟩) hbl).trans q1
                    have p2 := (N4.out.bel.cell (p := ⟨b, off + i * 4 + 2, none⟩) hbl).trans q2
                    have p3 := (N4.out.bel.cell (p := ⟨b, off + i * 4 + 3, none⟩) hbl).trans q3
                    have pz : b < W4.heap.size := Nat.lt_of_lt_of_le hbl N4.out.bel.size
                    have N5 := hideIt ((N4.out.keep (Below.refl _ _).drew).setG (g2 - yn))
                    go_upto_region 24 with fail
                    go_cut [134] from 127 to 135 (fun _ wx => W4.drew.setCell ⟨K, 2, none⟩ (.int .i64 (g2 - yn)) = wx)
                    case first =>
                      clear N4 N5 HST2 HGS2 HPT2 HTL2 HH
                      go_region
                      all_goals go_wp2_with fail
                      all_goals go_meet
                      all_goals rfl
                    case rest =>
                    subst hcut
                    clear N4 n0 n1 n2 nf nz p0 p1 p2 p3 pz
                    generalize W4.drew.setCell ⟨K, 2, none⟩ (.int .i64 (g2 - yn)) = W5 at *
                    obtain ⟨n0, n1, n2, nf, nz⟩ := N5.out.cells
                    have p0 := (N5.out.bel.cell (p := ⟨b, off + i * 4, none⟩) hbl).trans q0
                    have p1 := (N5.out.bel.cell (p := ⟨b, off + i * 4 + 1, none⟩) hbl).trans q1
                    have p2 := (N5.out.bel.cell (p := ⟨b, off + i * 4 + 2, none⟩) hbl).trans q2
                    have p3 := (N5.out.bel.cell (p := ⟨b, off + i * 4 + 3, none⟩) hbl).trans q3
                    have pz : b < W5.heap.size := Nat.lt_of_lt_of_le hbl N5.out.bel.size
                    have HN : Hid (trp (netS (l.take (i + 1))) x = ((m2 + yp * yn), (g2 - yn), true)) := by
                      show _ = _
                      rw [HNX.out]
                      rw [if_pos hsq, if_pos hbq, if_pos hbq, HGM.out, HGG.out, ← HM2.out, ← HG2.out]
                    go_wp2
                    go_roundw
                    case rel => first | exact ⟨i + 1, (m2 + yp * yn), (g2 - yn), true, rfl, by go_num, by omega, HN, N5⟩ | ((repeat apply Exists.intro); exact ⟨⟨i + 1, (m2 + yp * yn), (g2 - yn), true, rfl, by go_num, by omega, HN, N5⟩, rfl⟩)
                    case measure => simp [RowKit.intOf]; omega
                  · have hsqb : (ys == x) = false := by simp [hsq]
                    obtain ⟨n0, n1, n2, nf, nz⟩ := N1.out.cells
                    have p0 := (N1.out.bel.cell (p := ⟨b, off + i * 4, none⟩) hbl).trans q0
                    have p1 := (N1.out.bel.cell (p := ⟨b, off + i * 4 + 1, none⟩) hbl).trans q1
                    have p2 := (N1.out.bel.cell (p := ⟨b, off + i * 4 + 2, none⟩) hbl).trans q2
                    have p3 := (N1.out.bel.cell (p := ⟨b, off + i * 4 + 3, none⟩) hbl).trans q3
                    have pz : b < wr.heap.size := Nat.lt_of_lt_of_le hbl N1.out.bel.size
                    go_upto_region 19 with fail
                    clear n0 n1 n2 nf nz p0 p1 p2 p3 pz
                    obtain ⟨n0, n1, n2, nf, nz⟩ := N1.out.cells
                    have p0 := (N1.out.bel.cell (p := ⟨b, off + i * 4, none⟩) hbl).trans q0
                    have p1 := (N1.out.bel.cell (p := ⟨b, off + i * 4 + 1, none⟩) hbl).trans q1
                    have p2 := (N1.out.bel.cell (p := ⟨b, off + i * 4 + 2, none⟩) hbl).trans q2
                    have p3 := (N1.out.bel.cell (p := ⟨b, off + i * 4 + 3, none⟩) hbl).trans q3
                    have pz : b < wr.heap.size := Nat.lt_of_lt_of_le hbl N1.out.bel.size
                    have N2 := hideIt ((N1.out.keep (Below.refl _ _).drew).setM (m - yp * yn))
                    go_upto_region 19 with fail
                    go_cut [94] from 81 to 95 (fun _ wx => wr.drew.setCell ⟨K, 1, none⟩ (.int .i64 (m - yp * yn)) = wx)
                    case first =>
                      clear N1 N2 HST2 HGS2 HPT2 HTL2 HH
                      go_region
                      all_goals go_wp2_with fail
                      all_goals go_meet
                      all_goals rfl
                    case rest =>
                    subst hcut
                    clear N1 n0 n1 n2 nf nz p0 p1 p2 p3 pz
                    generalize wr.drew.setCell ⟨K, 1, none⟩ (.int .i64 (m - yp * yn)) = W2 at *
                    obtain ⟨n0, n1, n2, nf, nz⟩ := N2.out.cells
                    have p0 := (N2.out.bel.cell (p := ⟨b, off + i * 4, none⟩) hbl).trans q0
                    have p1 := (N2.out.bel.cell (p := ⟨b, off + i * 4 + 1, none⟩) hbl).trans q1
                    have p2 := (N2.out.bel.cell (p := ⟨b, off + i * 4 + 2, none⟩) hbl).trans q2
                    have p3 := (N2.out.bel.cell (p := ⟨b, off + i * 4 + 3, none⟩) hbl).trans q3
                    have pz : b < W2.heap.size := Nat.lt_of_lt_of_le hbl N2.out.bel.size
                    have N3 := hideIt ((N2.out.keep (Below.refl _ _).drew).setG (g + yn))
                    go_upto_region 20 with fail
                    go_cut [103] from 96 to 104 (fun _ wx => W2.drew.setCell ⟨K, 2, none⟩ (.int .i64 (g + yn)) = wx)
                    case first =>
                      clear N2 N3 HST2 HGS2 HPT2 HTL2 HH
                      go_region
                      all_goals go_wp2_with fail
                      all_goals go_meet
                      all_goals rfl
                    case rest =>
                    subst hcut
                    clear N2 n0 n1 n2 nf nz p0 p1 p2 p3 pz
                    generalize W2.drew.setCell ⟨K, 2, none⟩ (.int .i64 (g + yn)) = W3 at *
                    obtain ⟨n0, n1, n2, nf, nz⟩ := N3.out.cells
                    have p0 := (N3.out.bel.cell (p := ⟨b, off + i * 4, none⟩) hbl).trans q0
                    have p1 := (N3.out.bel.cell (p := ⟨b, off + i * 4 + 1, none⟩) hbl).trans q1
                    have p2 := (N3.out.bel.cell (p := ⟨b, off + i * 4 + 2, none⟩) hbl).trans q2
                    have p3 := (N3.out.bel.cell (p := ⟨b, off + i * 4 + 3, none⟩) hbl).trans q3
                    have pz : b < W3.heap.size := Nat.lt_of_lt_of_le hbl N3.out.bel.size
                    have HN : Hid (trp (netS (l.take (i + 1))) x = ((m - yp * yn), (g + yn), true)) := by
                      show _ = _
                      rw [HNX.out]
                      simp [hbq, hsq, HGM.out, HGG.out, HTR.out]
                    go_wp2
                    go_roundw
                    case rel => first | exact ⟨i + 1, (m - yp * yn), (g + yn), true, rfl, by go_num, by omega, HN, N3⟩ | ((repeat apply Exists.intro); exact ⟨⟨i + 1, (m - yp * yn), (g + yn), true, rfl, by go_num, by omega, HN, N3⟩, rfl⟩)
                    case measure => simp [RowKit.intOf]; omega
                · have hbqb : (yb == x) = false := by simp [hbq]
                  by_cases hsq : ys = x
                  · obtain ⟨n0, n1, n2, nf, nz⟩ := N1.out.cells
                    have p0 := (N1.out.bel.cell (p := ⟨b, off + i * 4, none⟩) hbl).trans q0
                    have p1 := (N1.out.bel.cell (p := ⟨b, off + i * 4 + 1, none⟩) hbl).trans q1
                    have p2 := (N1.out.bel.cell (p := ⟨b, off + i * 4 + 2, none⟩) hbl).trans q2
                    have p3 := (N1.out.bel.cell (p := ⟨b, off + i * 4 + 3, none⟩) hbl).trans q3
                    have pz : b < wr.heap.size := Nat.lt_of_lt_of_le hbl N1.out.bel.size
                    go_upto_region 23 with fail
                    clear n0 n1 n2 nf nz p0 p1 p2 p3 pz
                    obtain ⟨n0, n1, n2, nf, nz⟩ := N1.out.cells
                    have p0 := (N1.out.bel.cell (p := ⟨b, off + i * 4, none⟩) hbl).trans q0
                    have p1 := (N1.out.bel.cell (p := ⟨b, off + i * 4 + 1, none⟩) hbl).trans q1
                    have p2 := (N1.out.bel.cell (p := ⟨b, off + i * 4 + 2, none⟩) hbl).trans q2
                    have p3 := (N1.out.bel.cell (p := ⟨b, off + i * 4 + 3, none⟩) hbl).trans q3
                    have pz : b < wr.heap.size := Nat.lt_of_lt_of_le hbl N1.out.bel.size
                    have N4 := hideIt ((N1.out.keep (Below.refl _ _).drew).setM (m + yp * yn))
                    go_upto_region 23 with fail
                    go_cut [125] from 112 to 126 (fun _ wx => wr.drew.setCell ⟨K, 1, none⟩ (.int .i64 (m + yp * yn)) = wx)
                    case first =>
                      clear N1 N4 HST2 HGS2 HPT2 HTL2 HH
                      go_region
                      all_goals go_wp2_with fail
                      all_goals go_meet
                      all_goals rfl
                    case rest =>
                    subst hcut
                    clear N1 n0 n1 n2 nf nz p0 p1 p2 p3 pz
                    generalize wr.drew.setCell ⟨K, 1, none⟩ (.int .i64 (m + yp * yn)) = W4 at *
                    obtain ⟨n0, n1, n2, nf, nz⟩ := N4.out.cells
                    have p0 := (N4.out.bel.cell (p := ⟨b, off + i * 4, none⟩) hbl).trans q0
                    have p1 := (N4.out.bel.cell (p := ⟨b, off + i * 4 + 1, none⟩) hbl).trans q1
                    have p2 := (N4.out.bel.cell (p := ⟨b, off + i * 4 + 2, none⟩) hbl).trans q2
                    have p3 := (N4.out.bel.cell (p := ⟨b, off + i * 4 + 3, none⟩) hbl).trans q3
                    have pz : b < W4.heap.size := Nat.lt_of_lt_of_le hbl N4.out.bel.size
                    have N5 := hideIt ((N4.out.keep (Below.refl _ _).drew).setG (g - yn))
                    go_upto_region 24 with fail
                    go_cut [134] from 127 to 135 (fun _ wx => W4.drew.setCell ⟨K, 2, none⟩ (.int .i64 (g - yn)) = wx)
                    case first =>
                      clear N4 N5 HST2 HGS2 HPT2 HTL2 HH
                      go_region
                      all_goals go_wp2_with fail
                      all_goals go_meet
                      all_goals rfl
                    case rest =>
                    subst hcut
                    clear N4 n0 n1 n2 nf nz p0 p1 p2 p3 pz
                    generalize W4.drew.setCell ⟨K, 2, none⟩ (.int .i64 (g - yn)) = W5 at *
                    obtain ⟨n0, n1, n2, nf, nz⟩ := N5.out.cells
                    have p0 := (N5.out.bel.cell (p := ⟨b, off + i * 4, none⟩) hbl).trans q0
                    have p1 := (N5.out.bel.cell (p := ⟨b, off + i * 4 + 1, none⟩) hbl).trans q1
                    have p2 := (N5.out.bel.cell (p := ⟨b, off + i * 4 + 2, none⟩) hbl).trans q2
                    have p3 := (N5.out.bel.cell (p := ⟨b, off + i * 4 + 3, none⟩) hbl).trans q3
                    have pz : b < W5.heap.size := Nat.lt_of_lt_of_le hbl N5.out.bel.size
                    have HN : Hid (trp (netS (l.take (i + 1))) x = ((m + yp * yn), (g - yn), true)) := by
                      show _ = _
                      rw [HNX.out]
                      simp [hbq, hsq, HGM.out, HGG.out, HTR.out]
                    go_wp2
                    go_roundw
                    case rel => first | exact ⟨i + 1, (m + yp * yn), (g - yn), true, rfl, by go_num, by omega, HN, N5⟩ | ((repeat apply Exists.intro); exact ⟨⟨i + 1, (m + yp * yn), (g - yn), true, rfl, by go_num, by omega, HN, N5⟩, rfl⟩)
                    case measure => simp [RowKit.intOf]; omega
                  · have hsqb : (ys == x) = false := by simp [hsq]
                    obtain ⟨n0, n1, n2, nf, nz⟩ := N1.out.cells
                    have p0 := (N1.out.bel.cell (p := ⟨b, off + i * 4, none⟩) hbl).trans q0
                    have p1 := (N1.out.bel.cell (p := ⟨b, off + i * 4 + 1, none⟩) hbl).trans q1
                    have p2 := (N1.out.bel.cell (p := ⟨b, off + i * 4 + 2, none⟩) hbl).trans q2
                    have p3 := (N1.out.bel.cell (p := ⟨b, off + i * 4 + 3, none⟩) hbl).trans q3
                    have pz : b < wr.heap.size := Nat.lt_of_lt_of_le hbl N1.out.bel.size
                    have HN : Hid (trp (netS (l.take (i + 1))) x = (m, g, is)) := by
                      show _ = _
                      rw [HNX.out]
                      simp [hbq, hsq, HGM.out, HGG.out, HTR.out]
                    go_wp2
                    go_roundw
                    case rel => first | exact ⟨i + 1, m, g, is, rfl, by go_num, by omega, HN, N1⟩ | ((repeat apply Exists.intro); exact ⟨⟨i + 1, m, g, is, rfl, by go_num, by omega, HN, N1⟩, rfl⟩)
                    case measure => simp [RowKit.intOf]; omega
              · have hilI : ¬ (i : Int) < (l.length : Int) := by omega
                have hie : i = l.length := by omega
                subst hie
                have hq := HTL2.out
                rw [HTR.out] at hq
                have hP2 := HPT2.out
                rw [← hq] at hP2
                have HP2 := hideIt hP2
                clear HTL2 HST2 HGS2 HPT2 HH HTR hq hP2 HEL HST HGS HTI HTL HPS
                cases is
                · have Z : Hid (wr.ownsRow w.heap.size 31 3 (.slice ua (PT t2).length uc) (PT (t2 + 1)).length (celC posE (PT (t2 + 1))) ∧ Below w.heap.size w wr) := by
                    have e : PT (t2 + 1) = PT t2 := by rw [HP2.out]; simp
                    rw [e]
                    exact ⟨N1.out.row, N1.out.bel⟩
                  have HE : Hid ((PT t2).length = (PT (t2 + 1)).length) := by show _ = _; rw [HP2.out]; simp
                  clear N1
                  go_wp2
                  go_roundw
                  case rel => exact ⟨t2 + 1, ua, _, uc, rfl, by rw [← HX.out]; congr 1, by omega, HE.out, Z⟩
                  case measure => simp [RowKit.intOf]; have := HX.out; omega
                · have hS : PT (t2 + 1) = PT t2 ++ [⟨x, m, g⟩] := by rw [HP2.out]; simp
                  obtain ⟨k0, k1, k2, kf, kz⟩ := N1.out.cells
                  have hb2 := below1 wr (.cells (posE ⟨x, m, g⟩).toArray 31)
                  obtain ⟨v', w', hrun, how, hgr⟩ := app1 (enc := posE) (t := 23) posK pos1 Try.underlying23 info31 rfl (by omega) (wr.alloc (.cells (posE ⟨x, m, g⟩).toArray 31)) w.heap.size (.slice ua (PT t2).length uc) (PT t2) ⟨x, m, g⟩ wr.heap.size 1 (Nat.le_trans N1.out.bel.size hb2.size) (own_keep N1.out.row hb2) (heap_alloc_new _ _) (by omega) (by unfold maxLen; omega)
                  rw [← hS] at how
                  obtain ⟨a', c', rfl⟩ := own_len how
                  obtain ⟨n1, hn1⟩ : ∃ n1, (PT (t2 + 1)).length = n1 := ⟨_, rfl⟩
                  have Z : Hid (w'.ownsRow w.heap.size 31 3 (.slice a' n1 c') (PT (t2 + 1)).length (celC posE (PT (t2 + 1))) ∧ Below w.heap.size w w') := ⟨by rw [← hn1]; exact how, grown_own hgr (own_keep N1.out.row hb2) (Nat.le_refl _) (below_via N1.out.bel hb2)⟩
                  rw [hn1] at hrun
                  have HRUN := hideIt hrun
                  unfold posE at HRUN
                  dsimp only at HRUN
                  have HN2 := hideIt hn1
                  clear hrun how hgr hb2 hn1 N1 hS HP2
                  go_wp2_with (at_builtin; refine Lib.wpList_append_run _ rfl _ _ _ _ rfl _ _ rfl rfl _ _ HRUN.out ?_)
                  clear HRUN
                  go_wp2
                  go_roundw
                  case rel => first | exact ⟨t2 + 1, a', n1, c', rfl, by rw [← HX.out]; congr 1, by omega, HN2.out.symm, Z⟩ | ((repeat apply Exists.intro); exact ⟨⟨t2 + 1, a', n1, c', rfl, by rw [← HX.out]; congr 1, by omega, HN2.out.symm, Z⟩, rfl⟩)
                  case measure => simp [RowKit.intOf]; have := HX.out; omega
          · have hlt2I : ¬ (t2 : Int) + 1 ≤ 8 := by omega
            have het : t2 = 8 := by omega
            subst het
            clear HPS HPL HST HGS HTI HTL HEL HH
            go_wp2
            go_ret2
            rw [HNL.out]
            exact ⟨_, _, rfl, HP.out⟩
end Go.Proofs.Ytbpnnhalajbjnaa
