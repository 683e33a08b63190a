/- NetKeeps, walked. -/
import Derived.Test.YtagfolckodpioaaKpA
import Derived.BigQuiet
namespace Go.Proofs.Ytagfolckodpioaa.K2
open Go.RowKit Go.Maps Go.Proofs.Ytagfolckodpioaa
set_option linter.all false
theorem KS.up {w : World} {D n mb : Nat} {room : Int} {t : Nat} {I O l : List PkV} {iv ov row : Value} {sent taken : Int} {c : Nat} {f : Pks} {W : World} (h : KS w D n mb room t I O l iv ov row sent taken c f W) : KS w D n mb room (t + 1) I O l iv ov row sent taken c f W :=
  ⟨h.na, h.ri, h.ro, h.d1, h.d2, h.d3, h.ki, h.bel, by have := h.hI; omega, by have := h.hs; push_cast; omega, by have := h.ht; push_cast; omega, by have := h.hc; omega, h.hD, h.hZ, h.hn, h.hm⟩
theorem pk_small {p : PkV} (h1 : wiB p.frm 1 7 = true) (h2 : wiB p.dst 1 7 = true) (h3 : p.text.size ≤ 70008) : PkOk p := by
  have hw1 : 1 ≤ p.frm ∧ p.frm ≤ 7 := by unfold wiB at h1; simpa using h1
  have hw2 : 1 ≤ p.dst ∧ p.dst ≤ 7 := by unfold wiB at h2; simpa using h2
  have e1 : IntKind.i64.min = -9223372036854775808 := by decide
  have e2 : IntKind.i64.max = 9223372036854775807 := by decide
  exact ⟨by simp [Lit.wf, e1, e2]; omega, by simp [Lit.wf, e1, e2]; omega, by unfold maxLen; omega⟩
set_option maxHeartbeats 16000000 in
set_option maxRecDepth 100000 in
theorem keeps_walk (room : Int) (sa : Option Addr) (sc : Nat) (ops : List OpV) (w : World) (hO : OpsAt w sa ops) (hl : ops.length ≤ 9223372036854775807) (hr : -9223372036854775808 ≤ room ∧ room ≤ 9223372036854775807) : Calls Try.prog 7 #[.int .i64 room, .slice sa ops.length sc] w fun e w' => e = .returned (.bool true) ∧ Below w.heap.size w w' := by
  have HPK := hideIt (pick_is room 100 w hr (by omega))
  have HLV := hideIt (fun W => live_is W)
  have HOP := hideIt (fun W (hW : Below w.heap.size w W) => hO.keep hW)
  clear hO
  go_enter Try.func7, Try.ntmps7
  go_wp2_with fail
  refine HPK.out.mono ?_
  rintro e w1 ⟨⟨r, rfl, hr1⟩, rfl⟩
  dsimp only
  clear HPK
  obtain ⟨rm, hrm⟩ : ∃ rm : Int, rm = 1 + (r : Int) := ⟨_, rfl⟩
  have hw1 : IntKind.i64.wrap (1 + (r : Int)) = rm := by rw [hrm, IntKind.wrap_i64]; omega
  have hrb : 1 ≤ rm ∧ rm ≤ 100 := by omega
  have HNW := hideIt (newNet_yes rm w1 (by unfold wiB; simp; omega))
  clear hrm hr1
  go_wp2_with fail
  refine HNW.out.mono ?_
  rintro e w2 ⟨rfl, rfl⟩
  dsimp only
  have hb2 := below2 w1 (.map #[] 0) (.cells (netC rm (.slice none 0 0) w1.heap.size 0 0) 94)
  have S2 : Hid (KS w1 w1.heap.size (w1.heap.size + 1) w1.heap.size rm 0 [] [] [] (.slice none 0 0) (.slice none 0 0) (.slice none 0 0) 0 0 0 f0 ((w1.alloc (.map #[] 0)).alloc (.cells (netC rm (.slice none 0 0) w1.heap.size 0 0) 94))) := by
    refine ⟨⟨(two_heap w1 _ _).2.1, own_nil _ _, (PM.made w1).keep (below1 _ _)⟩, own_nil _ _, own_nil _ _, fun k e => (by cases e), fun k e => (by cases e), fun k e => (by cases e), KI.start, hb2, Nat.le_refl _, by omega, by omega, Nat.le_refl _, Nat.le_refl _, hb2.size, by omega, Nat.le_refl _⟩
  clear hb2 HNW hw1
  go_upto_region 2 with fail
  generalize ((w1.alloc (.map #[] 0)).alloc (.cells (netC rm (.slice none 0 0) w1.heap.size 0 0) 94)) = W2 at *
  obtain ⟨D, hD⟩ : ∃ D, D = w1.heap.size := ⟨_, rfl⟩
  rw [← hD] at S2
  rw [← hD]
  have HDD := hideIt hD
  clear hD
  go_wp2_with fail
  refine (HLV.out _).mono ?_
  rintro e w3 ⟨rfl, hb⟩
  dsimp only
  have S3 := hideIt (S2.out.keep hb)
  clear hb S2 HLV
  go_upto_region 7 with fail
  go_loopw [7, 8, 9] (fun u7 u8 u9 wr => ∃ (t : Nat) (I O l : List PkV) (row : Value) (sent taken : Int) (c : Nat) (f : Pks), u9 = .int .i64 t ∧ t ≤ ops.length ∧ t ≤ 80 ∧ Hid (KS w1 D (D + 1) D rm t I O l u7 u8 row sent taken c f wr)) (fun _ _ u9 _ => ops.length - (RowKit.intOf u9).toNat)
  case atStart => exact ⟨0, [], [], [], _, 0, 0, 0, f0, rfl, Nat.zero_le _, by omega, S3⟩
  case round =>
    clear S3
    obtain ⟨t, I, O, l, row, sent, taken, c, f, rfl, ht, ht80, HK⟩ := hrel
    by_cases hlt : t < ops.length
    · by_cases hlt8 : t < 80
      · have hltI : (t : Int) < (ops.length : Int) := by omega
        have hlt80 : (t : Int) < 80 := by omega
        have ht0 : (0 : Int) ≤ (t : Int) := by omega
        have hw : IntKind.i64.wrap ((t : Int) + 1) = ((t + 1 : Nat) : Int) := by rw [IntKind.wrap_i64]; omega
        obtain ⟨b, off, hsa, hbl, q0, q1, q2, q3, q4⟩ := HOP.out _ HK.out.bel t hlt
        have hbr := hbl
        generalize ops[t] = o at *
        obtain ⟨oa, on, ⟨pf, pd, pt⟩⟩ := o
        dsimp only at q0 q1 q2 q3 q4
        have hb1 := below1 wr (.cells #[.int .i64 oa, .int .i64 on, .int .i64 pf, .int .i64 pd, .string pt] 58)
        have K1 := hideIt (HK.out.keep hb1)
        have X1 := hideIt (heap_alloc_new wr (.cells #[.int .i64 oa, .int .i64 on, .int .i64 pf, .int .i64 pd, .string pt] 58))
        have HSA := hideIt hsa
        have c5 : sa = some ⟨b, off, none⟩ := hsa
        clear hb1 HK hsa
        subst c5
        go_upto_region 10 with fail
        clear q0 q1 q2 q3 q4 hbl hbr
        generalize wr.alloc (.cells #[.int .i64 oa, .int .i64 on, .int .i64 pf, .int .i64 pd, .string pt] 58) = W1 at *
        generalize wr.heap.size = kx at *
        have hki1 := K1.out.ki.len
        have hIt1 := K1.out.hI
        have HAW := hideIt (all_is D (D + 1) D rm sent taken l row c f W1 K1.out.na (by omega))
        go_wp2_with fail
        refine HAW.out.mono ?_
        rintro e W3 ⟨wv, rfl, hwo, hb⟩
        dsimp only
        have K3 := hideIt (K1.out.keep hb)
        have X3 := hideIt (blkK X1.out hb)
        have GW : Hid (SGot 3 32 pkE W3 wv l) := own_sgot hwo (by omega)
        obtain ⟨wA, wC, rfl⟩ := own_len hwo
        have HWO := hideIt (own_base hwo K1.out.hZ)
        have HWD : Hid (∀ k, (Value.slice wA l.length wC).ownBlock = some k → row.ownBlock ≠ some k) := fun k e e2 => by
          have h1 := (hwo.lt k e).1
          have h2 := (K1.out.na.own.lt k e2).2
          omega
        clear hwo hb K1 X1 HAW
        obtain ⟨⟨x0, x1, x2, x3, x4⟩, xf, xz⟩ := five5_at X3.out
        by_cases a0 : oa = 0
        · subst a0
          by_cases hok : wiB pf 1 7 = true ∧ wiB pd 1 7 = true ∧ pt.size ≤ 70008 ∧ (l.length : Int) < rm
          · have hpk : PkOk ⟨pf, pd, pt⟩ := pk_small hok.1 hok.2.1 hok.2.2.1
            have HSD := hideIt (send2_ok D (D + 1) D rm sent taken l row c f ⟨pf, pd, pt⟩ W3 K3.out.na K3.out.hZ K3.out.hn K3.out.hm (by omega) (by have := K3.out.hc; omega) (fun x => K3.out.ki.pgb (by omega) x) (by have := K3.out.hs; omega) hok.1 hok.2.1 hok.2.2.1 hok.2.2.2)
            unfold pkV at HSD
            dsimp only at HSD
            clear hok GW
            go_wp2_with fail
            refine HSD.out.mono ?_
            rintro e W4 ⟨rfl, ⟨row', hN, hx⟩, hO⟩
            dsimp only
            obtain ⟨t1, t2, t3, t4, t5⟩ := K3.out.turn hO hN hx
            have X4 := hideIt (box_stays K3.out.na X3.out hO)
            have hZ4 : D ≤ W4.heap.size := Nat.le_trans K3.out.hZ hO.size
            obtain ⟨ia, ic, w5, hrun, hna5, hri5, hro5, g1, g3, hb5, hz5⟩ := rowApp (w := w1) hN t1 t2 t3 K3.out.d3 t5 K3.out.hD hZ4 (by omega) ⟨pf, pd, pt⟩
            have HRUN := hideIt hrun
            have hl1 : (I ++ [(⟨pf, pd, pt⟩ : PkV)]).length = I.length + 1 := by simp
            have KT : Hid (KS w1 D (D + 1) D rm (t + 1) (I ++ [⟨pf, pd, pt⟩]) O (l ++ [⟨pf, pd, pt⟩]) (.slice ia (I.length + 1) ic) u8 row' (sent + 1) taken (c + 1) (updP f ⟨pf, pd, pt⟩ (pg f ⟨pf, pd, pt⟩ + 1)) w5) := ⟨hna5, hri5, hro5, g1, t4, g3, K3.out.ki.add hpk, hb5, by rw [hl1]; omega, by have := K3.out.hs; push_cast; omega, by have := K3.out.ht; push_cast; omega, by have := K3.out.hc; omega, K3.out.hD, by omega, K3.out.hn, K3.out.hm⟩
            clear hrun hna5 hri5 hro5 g1 g3 hb5 hz5 hl1 t1 t2 t3 t4 t5 hN hx hO K3 X3 HSD x0 x1 x2 x3 x4 xf xz hpk hki1 hIt1
            dsimp only at HRUN
            obtain ⟨⟨x0, x1, x2, x3, x4⟩, xf, xz⟩ := five5_at X4.out
            generalize hl5 : l ++ [(⟨pf, pd, pt⟩ : PkV)] = l5 at *
            generalize hI5 : I ++ [(⟨pf, pd, pt⟩ : PkV)] = I5 at *
            have hI6 : I5.length = I.length + 1 := by rw [← hI5]; simp
            clear hl5 hI5
            go_upto_region 24 with (at_builtin; refine Lib.wpList_append_run _ rfl _ _ _ _ rfl _ _ rfl rfl _ _ HRUN.out ?_)
            clear HRUN X4 x0 x1 x2 x3 x4 xf xz hZ4
            generalize updP f ⟨pf, pd, pt⟩ (pg f ⟨pf, pd, pt⟩ + 1) = f5 at *
            generalize (sent + 1) = s5 at *
            generalize (c + 1) = cc5 at *
            rw [← hI6] at KT ⊢
            clear hI6
            generalize (Value.slice ia I5.length ic) = iv5 at *
            generalize w5 = WT at *
            obtain ⟨iA, iC, rfl⟩ := own_len KT.out.ri
            obtain ⟨oA, oC, rfl⟩ := own_len KT.out.ro
            have hki := KT.out.ki.len
            have hIt := KT.out.hI
            have hl100 : l5.length ≤ 1000 := by omega
            have HAL := hideIt (all_is D (D + 1) D rm s5 taken l5 row' cc5 f5 WT KT.out.na (by omega))
            go_wp2_with fail
            refine HAL.out.mono ?_
            rintro e wl ⟨lv, rfl, hlo, hb⟩
            dsimp only
            have KL := hideIt (KT.out.keep hb)
            have GL : Hid (SGot 3 32 pkE wl lv l5) := own_sgot hlo (by omega)
            have GI : Hid (SGot 3 32 pkE wl (.slice iA I5.length iC) I5) := own_sgot KL.out.ri (by omega)
            have GO : Hid (SGot 3 32 pkE wl (.slice oA O.length oC) O) := own_sgot KL.out.ro (by omega)
            obtain ⟨lA, lC, rfl⟩ := own_len hlo
            clear hlo hb HAL KT
            have hsub : IntKind.i64.wrap ((I5.length : Int) - (O.length : Int)) = (l5.length : Int) := by rw [IntKind.wrap_i64]; omega
            have HCN := hideIt (fun x => KL.out.ki.cnt x)
            go_upto_region 28 with fail
            go_loopw [15] (fun u wr => ∃ k : Nat, u = .int .i64 k ∧ k ≤ l5.length ∧ Hid (Below wl.heap.size wl wr)) (fun u _ => l5.length - (RowKit.intOf u).toNat)
            case atStart => exact ⟨0, rfl, Nat.zero_le _, hideIt (Below.refl _ _)⟩
            case round =>
              obtain ⟨k, rfl, hk, HR⟩ := hrel
              by_cases hkl : k < l5.length
              · have hkI : (k : Int) < (l5.length : Int) := by omega
                have hk0 : (0 : Int) ≤ (k : Int) := by omega
                have hwk : IntKind.i64.wrap ((k : Int) + 1) = ((k + 1 : Nat) : Int) := by rw [IntKind.wrap_i64]; omega
                obtain ⟨-, a', c', e, hcap, hr⟩ := GL.out
                simp only [Value.slice.injEq, true_and] at e
                obtain ⟨rfl, rfl⟩ := e
                obtain ⟨g, gf, hlA, hgl, hcc⟩ := hr (by omega)
                have hcell : Hid (∀ W, Below wl.heap.size wl W → W.cell? ⟨g, gf + k * 3, none⟩ = some (.int .i64 (l5[k]).frm) ∧ W.cell? ⟨g, gf + k * 3 + 1, none⟩ = some (.int .i64 (l5[k]).dst) ∧ W.cell? ⟨g, gf + k * 3 + 2, none⟩ = some (.string (l5[k]).text) ∧ g < W.heap.size) := fun W hW => by
                  refine ⟨?_, ?_, ?_, Nat.lt_of_lt_of_le hgl hW.size⟩
                  · rw [hW.cell (p := ⟨g, gf + k * 3, none⟩) hgl, hcc (k * 3) (by omega)]
                    exact celC_get pkE_len l5 k hkl 0 (by omega)
                  · rw [hW.cell (p := ⟨g, gf + k * 3 + 1, none⟩) hgl, show gf + k * 3 + 1 = gf + (k * 3 + 1) by omega, hcc (k * 3 + 1) (by omega)]
                    exact celC_get pkE_len l5 k hkl 1 (by omega)
                  · rw [hW.cell (p := ⟨g, gf + k * 3 + 2, none⟩) hgl, show gf + k * 3 + 2 = gf + (k * 3 + 2) by omega, hcc (k * 3 + 2) (by omega)]
                    exact celC_get pkE_len l5 k hkl 2 (by omega)
                have hcnt := HCN.out l5[k]
                have hb1 := cnt_le l5[k] l5
                have hb2 := cnt_le l5[k] I5
                have hb3 := cnt_le l5[k] O
                have HC1 := hideIt (fun W (hW : Below wl.heap.size wl W) => count_is _ l5 l5[k] W (GL.out.keep hW))
                have HC2 := hideIt (fun W (hW : Below wl.heap.size wl W) => count_is _ I5 l5[k] W (GI.out.keep hW))
                have HC3 := hideIt (fun W (hW : Below wl.heap.size wl W) => count_is _ O l5[k] W (GO.out.keep hW))
                clear hcc hr hcap
                generalize l5[k] = y at *
                generalize cntP y l5 = n1 at *
                generalize cntP y I5 = n2 at *
                generalize cntP y O = n3 at *
                obtain ⟨yf, yd, yt⟩ := y
                unfold pkV at HC1 HC2 HC3
                dsimp only at hcell HC1 HC2 HC3
                have hcw : IntKind.i64.wrap ((n2 : Int) - (n3 : Int)) = (n1 : Int) := by rw [IntKind.wrap_i64]; omega
                clear hcnt hb1 hb2 hb3
                have HD1 : Hid (∀ W, Below wl.heap.size wl W → Calls Try.prog 32 #[.slice lA l5.length lC, .agg #[.int .i64 yf, .int .i64 yd, .string yt]] W fun e w' => e = .returned (.int .i64 (n1 : Int)) ∧ Hid (Below wl.heap.size wl w') ∧ (w'.cell? ⟨g, gf + k * 3, none⟩ = some (.int .i64 yf) ∧ w'.cell? ⟨g, gf + k * 3 + 1, none⟩ = some (.int .i64 yd) ∧ w'.cell? ⟨g, gf + k * 3 + 2, none⟩ = some (.string yt)) ∧ g < w'.heap.size) := fun W hW => (HC1.out W hW).mono (fun e w' hh => ⟨hh.1, below_via hW hh.2, ⟨(hcell.out _ (below_via hW hh.2)).1, (hcell.out _ (below_via hW hh.2)).2.1, (hcell.out _ (below_via hW hh.2)).2.2.1⟩, (hcell.out _ (below_via hW hh.2)).2.2.2⟩)
                have HD2 : Hid (∀ W, Below wl.heap.size wl W → Calls Try.prog 32 #[.slice iA I5.length iC, .agg #[.int .i64 yf, .int .i64 yd, .string yt]] W fun e w' => e = .returned (.int .i64 (n2 : Int)) ∧ Hid (Below wl.heap.size wl w') ∧ (w'.cell? ⟨g, gf + k * 3, none⟩ = some (.int .i64 yf) ∧ w'.cell? ⟨g, gf + k * 3 + 1, none⟩ = some (.int .i64 yd) ∧ w'.cell? ⟨g, gf + k * 3 + 2, none⟩ = some (.string yt)) ∧ g < w'.heap.size) := fun W hW => (HC2.out W hW).mono (fun e w' hh => ⟨hh.1, below_via hW hh.2, ⟨(hcell.out _ (below_via hW hh.2)).1, (hcell.out _ (below_via hW hh.2)).2.1, (hcell.out _ (below_via hW hh.2)).2.2.1⟩, (hcell.out _ (below_via hW hh.2)).2.2.2⟩)
                have HD3 : Hid (∀ W, Below wl.heap.size wl W → Calls Try.prog 32 #[.slice oA O.length oC, .agg #[.int .i64 yf, .int .i64 yd, .string yt]] W fun e w' => e = .returned (.int .i64 (n3 : Int)) ∧ Hid (Below wl.heap.size wl w') ∧ (w'.cell? ⟨g, gf + k * 3, none⟩ = some (.int .i64 yf) ∧ w'.cell? ⟨g, gf + k * 3 + 1, none⟩ = some (.int .i64 yd) ∧ w'.cell? ⟨g, gf + k * 3 + 2, none⟩ = some (.string yt)) ∧ g < w'.heap.size) := fun W hW => (HC3.out W hW).mono (fun e w' hh => ⟨hh.1, below_via hW hh.2, ⟨(hcell.out _ (below_via hW hh.2)).1, (hcell.out _ (below_via hW hh.2)).2.1, (hcell.out _ (below_via hW hh.2)).2.2.1⟩, (hcell.out _ (below_via hW hh.2)).2.2.2⟩)
                obtain ⟨e0, e1, e2, eg⟩ := hcell.out _ HR.out
                clear HC1 HC2 HC3 GL GI GO hcell
                subst hlA
                go_upto_region 30 with fail
                go_cut [138] from 119 to 138 (fun u wx => u = .bool false ∧ Hid (Below wl.heap.size wl wx))
                case first =>
                  go_region_held3 (fun W => W.cell? ⟨g, gf + k * 3, none⟩ = some (.int .i64 yf) ∧ W.cell? ⟨g, gf + k * 3 + 1, none⟩ = some (.int .i64 yd) ∧ W.cell? ⟨g, gf + k * 3 + 2, none⟩ = some (.string yt)) (go_keep) (first | (go_at_call 32; refine (HD1.out _ (by first | exact HR.out | exact HR.out.drew | exact HWB.out | exact HWC.out)).mono ?_; rintro e wA ⟨rfl, HWA, ⟨e0A, e1A, e2A⟩, egA⟩; clear HD1) | (go_at_call 32; refine (HD2.out _ (by first | exact HR.out | exact HR.out.drew | exact HWA.out | exact HWC.out)).mono ?_; rintro e wB ⟨rfl, HWB, ⟨e0B, e1B, e2B⟩, egB⟩; clear HD2) | (go_at_call 32; refine (HD3.out _ (by first | exact HR.out | exact HR.out.drew | exact HWA.out | exact HWB.out)).mono ?_; rintro e wC ⟨rfl, HWC, ⟨e0C, e1C, e2C⟩, egC⟩; clear HD3))
                  all_goals go_wp2_with fail
                  all_goals go_meet
                  all_goals first | exact ⟨by simp, HWA⟩ | exact ⟨by simp, HWB⟩ | exact ⟨by simp, HWC⟩
                case rest =>
                obtain ⟨rfl, HRN⟩ := hcut
                go_wp2
                go_roundw
                case rel => exact ⟨k + 1, by go_num, by omega, HRN⟩
                case measure => simp [RowKit.intOf]; omega
              · have hkI : ¬ (k : Int) < (l5.length : Int) := by omega
                have KE := hideIt (KL.out.keep HR.out)
                clear KL HR GL GI GO HCN
                have KN := KE
                clear KE
                go_wp2
                go_roundw
                case rel => exact ⟨t + 1, _, _, _, _, _, _, _, _, by go_num, by omega, by omega, KN⟩
                case measure => simp [RowKit.intOf]; omega
          · have HSD := hideIt (send_no D (D + 1) D rm sent taken l row c f ⟨pf, pd, pt⟩ W3 K3.out.na hok)
            have hne := sndE_ne ⟨pf, pd, pt⟩
            unfold pkV at HSD
            dsimp only at HSD
            generalize sndE ⟨pf, pd, pt⟩ = er at *
            have hneq : (er == 0) = false := by simpa using hne
            clear hok GW hne
            go_wp2_with fail
            refine HSD.out.mono ?_
            rintro e WT ⟨rfl, hb⟩
            dsimp only
            have KT := hideIt (K3.out.keep hb).up
            clear hb K3 X3 HSD x0 x1 x2 x3 x4 xf xz hki1 hIt1
            go_upto_region 24 with fail
            obtain ⟨iA, iC, rfl⟩ := own_len KT.out.ri
            obtain ⟨oA, oC, rfl⟩ := own_len KT.out.ro
            have hki := KT.out.ki.len
            have hIt := KT.out.hI
            have hl100 : l.length ≤ 1000 := by omega
            have HAL := hideIt (all_is D (D + 1) D rm sent taken l row c f WT KT.out.na (by omega))
            go_wp2_with fail
            refine HAL.out.mono ?_
            rintro e wl ⟨lv, rfl, hlo, hb⟩
            dsimp only
            have KL := hideIt (KT.out.keep hb)
            have GL : Hid (SGot 3 32 pkE wl lv l) := own_sgot hlo (by omega)
            have GI : Hid (SGot 3 32 pkE wl (.slice iA I.length iC) I) := own_sgot KL.out.ri (by omega)
            have GO : Hid (SGot 3 32 pkE wl (.slice oA O.length oC) O) := own_sgot KL.out.ro (by omega)
            obtain ⟨lA, lC, rfl⟩ := own_len hlo
            clear hlo hb HAL KT
            have hsub : IntKind.i64.wrap ((I.length : Int) - (O.length : Int)) = (l.length : Int) := by rw [IntKind.wrap_i64]; omega
            have HCN := hideIt (fun x => KL.out.ki.cnt x)
            go_upto_region 28 with fail
            go_loopw [15] (fun u wr => ∃ k : Nat, u = .int .i64 k ∧ k ≤ l.length ∧ Hid (Below wl.heap.size wl wr)) (fun u _ => l.length - (RowKit.intOf u).toNat)
            case atStart => exact ⟨0, rfl, Nat.zero_le _, hideIt (Below.refl _ _)⟩
            case round =>
              obtain ⟨k, rfl, hk, HR⟩ := hrel
              by_cases hkl : k < l.length
              · have hkI : (k : Int) < (l.length : Int) := by omega
                have hk0 : (0 : Int) ≤ (k : Int) := by omega
                have hwk : IntKind.i64.wrap ((k : Int) + 1) = ((k + 1 : Nat) : Int) := by rw [IntKind.wrap_i64]; omega
                obtain ⟨-, a', c', e, hcap, hr⟩ := GL.out
                simp only [Value.slice.injEq, true_and] at e
                obtain ⟨rfl, rfl⟩ := e
                obtain ⟨g, gf, hlA, hgl, hcc⟩ := hr (by omega)
                have hcell : Hid (∀ W, Below wl.heap.size wl W → W.cell? ⟨g, gf + k * 3, none⟩ = some (.int .i64 (l[k]).frm) ∧ W.cell? ⟨g, gf + k * 3 + 1, none⟩ = some (.int .i64 (l[k]).dst) ∧ W.cell? ⟨g, gf + k * 3 + 2, none⟩ = some (.string (l[k]).text) ∧ g < W.heap.size) := fun W hW => by
                  refine ⟨?_, ?_, ?_, Nat.lt_of_lt_of_le hgl hW.size⟩
                  · rw [hW.cell (p := ⟨g, gf + k * 3, none⟩) hgl, hcc (k * 3) (by omega)]
                    exact celC_get pkE_len l k hkl 0 (by omega)
                  · rw [hW.cell (p := ⟨g, gf + k * 3 + 1, none⟩) hgl, show gf + k * 3 + 1 = gf + (k * 3 + 1) by omega, hcc (k * 3 + 1) (by omega)]
                    exact celC_get pkE_len l k hkl 1 (by omega)
                  · rw [hW.cell (p := ⟨g, gf + k * 3 + 2, none⟩) hgl, show gf + k * 3 + 2 = gf + (k * 3 + 2) by omega, hcc (k * 3 + 2) (by omega)]
                    exact celC_get pkE_len l k hkl 2 (by omega)
                have hcnt := HCN.out l[k]
                have hb1 := cnt_le l[k] l
                have hb2 := cnt_le l[k] I
                have hb3 := cnt_le l[k] O
                have HC1 := hideIt (fun W (hW : Below wl.heap.size wl W) => count_is _ l l[k] W (GL.out.keep hW))
                have HC2 := hideIt (fun W (hW : Below wl.heap.size wl W) => count_is _ I l[k] W (GI.out.keep hW))
                have HC3 := hideIt (fun W (hW : Below wl.heap.size wl W) => count_is _ O l[k] W (GO.out.keep hW))
                clear hcc hr hcap
                generalize l[k] = y at *
                generalize cntP y l = n1 at *
                generalize cntP y I = n2 at *
                generalize cntP y O = n3 at *
                obtain ⟨yf, yd, yt⟩ := y
                unfold pkV at HC1 HC2 HC3
                dsimp only at hcell HC1 HC2 HC3
                have hcw : IntKind.i64.wrap ((n2 : Int) - (n3 : Int)) = (n1 : Int) := by rw [IntKind.wrap_i64]; omega
                clear hcnt hb1 hb2 hb3
                have HD1 : Hid (∀ W, Below wl.heap.size wl W → Calls Try.prog 32 #[.slice lA l.length lC, .agg #[.int .i64 yf, .int .i64 yd, .string yt]] W fun e w' => e = .returned (.int .i64 (n1 : Int)) ∧ Hid (Below wl.heap.size wl w') ∧ (w'.cell? ⟨g, gf + k * 3, none⟩ = some (.int .i64 yf) ∧ w'.cell? ⟨g, gf + k * 3 + 1, none⟩ = some (.int .i64 yd) ∧ w'.cell? ⟨g, gf + k * 3 + 2, none⟩ = some (.string yt)) ∧ g < w'.heap.size) := fun W hW => (HC1.out W hW).mono (fun e w' hh => ⟨hh.1, below_via hW hh.2, ⟨(hcell.out _ (below_via hW hh.2)).1, (hcell.out _ (below_via hW hh.2)).2.1, (hcell.out _ (below_via hW hh.2)).2.2.1⟩, (hcell.out _ (below_via hW hh.2)).2.2.2⟩)
                have HD2 : Hid (∀ W, Below wl.heap.size wl W → Calls Try.prog 32 #[.slice iA I.length iC, .agg #[.int .i64 yf, .int .i64 yd, .string yt]] W fun e w' => e = .returned (.int .i64 (n2 : Int)) ∧ Hid (Below wl.heap.size wl w') ∧ (w'.cell? ⟨g, gf + k * 3, none⟩ = some (.int .i64 yf) ∧ w'.cell? ⟨g, gf + k * 3 + 1, none⟩ = some (.int .i64 yd) ∧ w'.cell? ⟨g, gf + k * 3 + 2, none⟩ = some (.string yt)) ∧ g < w'.heap.size) := fun W hW => (HC2.out W hW).mono (fun e w' hh => ⟨hh.1, below_via hW hh.2, ⟨(hcell.out _ (below_via hW hh.2)).1, (hcell.out _ (below_via hW hh.2)).2.1, (hcell.out _ (below_via hW hh.2)).2.2.1⟩, (hcell.out _ (below_via hW hh.2)).2.2.2⟩)
                have HD3 : Hid (∀ W, Below wl.heap.size wl W → Calls Try.prog 32 #[.slice oA O.length oC, .agg #[.int .i64 yf, .int .i64 yd, .string yt]] W fun e w' => e = .returned (.int .i64 (n3 : Int)) ∧ Hid (Below wl.heap.size wl w') ∧ (w'.cell? ⟨g, gf + k * 3, none⟩ = some (.int .i64 yf) ∧ w'.cell? ⟨g, gf + k * 3 + 1, none⟩ = some (.int .i64 yd) ∧ w'.cell? ⟨g, gf + k * 3 + 2, none⟩ = some (.string yt)) ∧ g < w'.heap.size) := fun W hW => (HC3.out W hW).mono (fun e w' hh => ⟨hh.1, below_via hW hh.2, ⟨(hcell.out _ (below_via hW hh.2)).1, (hcell.out _ (below_via hW hh.2)).2.1, (hcell.out _ (below_via hW hh.2)).2.2.1⟩, (hcell.out _ (below_via hW hh.2)).2.2.2⟩)
                obtain ⟨e0, e1, e2, eg⟩ := hcell.out _ HR.out
                clear HC1 HC2 HC3 GL GI GO hcell
                subst hlA
                go_upto_region 30 with fail
                go_cut [138] from 119 to 138 (fun u wx => u = .bool false ∧ Hid (Below wl.heap.size wl wx))
                case first =>
                  go_region_held3 (fun W => W.cell? ⟨g, gf + k * 3, none⟩ = some (.int .i64 yf) ∧ W.cell? ⟨g, gf + k * 3 + 1, none⟩ = some (.int .i64 yd) ∧ W.cell? ⟨g, gf + k * 3 + 2, none⟩ = some (.string yt)) (go_keep) (first | (go_at_call 32; refine (HD1.out _ (by first | exact HR.out | exact HR.out.drew | exact HWB.out | exact HWC.out)).mono ?_; rintro e wA ⟨rfl, HWA, ⟨e0A, e1A, e2A⟩, egA⟩; clear HD1) | (go_at_call 32; refine (HD2.out _ (by first | exact HR.out | exact HR.out.drew | exact HWA.out | exact HWC.out)).mono ?_; rintro e wB ⟨rfl, HWB, ⟨e0B, e1B, e2B⟩, egB⟩; clear HD2) | (go_at_call 32; refine (HD3.out _ (by first | exact HR.out | exact HR.out.drew | exact HWA.out | exact HWB.out)).mono ?_; rintro e wC ⟨rfl, HWC, ⟨e0C, e1C, e2C⟩, egC⟩; clear HD3))
                  all_goals go_wp2_with fail
                  all_goals go_meet
                  all_goals first | exact ⟨by simp, HWA⟩ | exact ⟨by simp, HWB⟩ | exact ⟨by simp, HWC⟩
                case rest =>
                obtain ⟨rfl, HRN⟩ := hcut
                go_wp2
                go_roundw
                case rel => exact ⟨k + 1, by go_num, by omega, HRN⟩
                case measure => simp [RowKit.intOf]; omega
              · have hkI : ¬ (k : Int) < (l.length : Int) := by omega
                have KE := hideIt (KL.out.keep HR.out)
                clear KL HR GL GI GO HCN
                have KN := KE
                clear KE
                go_wp2
                go_roundw
                case rel => exact ⟨t + 1, _, _, _, _, _, _, _, _, by go_num, by omega, by omega, KN⟩
                case measure => simp [RowKit.intOf]; omega
        · have q0z : (oa == 0) = false := by simpa using a0
          by_cases a1 : oa = 1
          · subst a1
            by_cases hok : wiB on 0 ((l.length : Int) - 1) = true
            · obtain ⟨i, hi, hil⟩ : ∃ i : Nat, on = i ∧ i < l.length := by
                have hw1 : 0 ≤ on ∧ on ≤ (l.length : Int) - 1 := by unfold wiB at hok; simpa using hok
                exact ⟨on.toNat, by omega, by omega⟩
              subst hi
              obtain ⟨p, hp⟩ : ∃ p, l[i]? = some p := ⟨_, List.getElem?_eq_getElem hil⟩
              have hpk : PkOk p := K3.out.ki.ok p (List.mem_of_getElem? hp)
              have HTA := hideIt (take2_ok D (D + 1) D rm sent taken l row c f i W3 K3.out.na K3.out.hZ K3.out.hn K3.out.hm (by omega) (by have := K3.out.hc; omega) (fun x => K3.out.ki.pgb (by omega) x) (by have := K3.out.ht; omega) p hp hpk)
              unfold pkV at HTA
              clear hok GW
              go_wp2_with fail
              refine HTA.out.mono ?_
              rintro e W4 ⟨rfl, ⟨row', hN, hx⟩, hO⟩
              dsimp only
              obtain ⟨t1, t2, t3, t4, t5⟩ := K3.out.turn hO hN (.inl hx)
              have hb6 := below1 W4 (.cells #[.int .i64 p.frm, .int .i64 p.dst, .string p.text] 56)
              have hN6 := hN.keep hb6
              have hZ4 : D ≤ (W4.alloc (.cells #[.int .i64 p.frm, .int .i64 p.dst, .string p.text] 56)).heap.size := Nat.le_trans (Nat.le_trans K3.out.hZ hO.size) hb6.size
              have X6 := hideIt (heap_alloc_new W4 (.cells #[.int .i64 p.frm, .int .i64 p.dst, .string p.text] 56))
              have d3' : ∀ k, u8.ownBlock = some k → u7.ownBlock ≠ some k := fun k e e2 => K3.out.d3 k e2 e
              obtain ⟨oa5, oc5, w5, hrun, hna5, hro5, hri5, g1, g3, hb5, hz5⟩ := rowApp (w := w1) hN6 (own_keep t2 hb6) (own_keep t1 hb6) t4 d3' (below_via t5 hb6) K3.out.hD hZ4 (by have := K3.out.ki.len; omega) p
              have HRUN := hideIt hrun
              have KT : Hid (KS w1 D (D + 1) D rm (t + 1) I (O ++ [p]) (l.take i ++ l.drop (i + 1)) u7 (.slice oa5 (O.length + 1) oc5) row' sent (taken + 1) (c + 1) (tkP f p) w5) := ⟨hna5, hri5, hro5, t3, g1, fun k e e2 => g3 k e2 e, K3.out.ki.take hp, hb5, by have := K3.out.hI; omega, by have := K3.out.hs; push_cast; omega, by have := K3.out.ht; push_cast; omega, by have := K3.out.hc; omega, K3.out.hD, by omega, K3.out.hn, K3.out.hm⟩
              clear hrun hna5 hri5 hro5 g1 g3 hb5 hz5 t1 t2 t3 t4 t5 hN hx hO K3 X3 HTA x0 x1 x2 x3 x4 xf xz hpk hki1 hIt1 hb6 hN6 hZ4 d3' hp hil
              go_upto_region 17 with fail
              generalize W4.alloc (.cells #[.int .i64 p.frm, .int .i64 p.dst, .string p.text] 56) = W6 at *
              generalize W4.heap.size = k6 at *
              obtain ⟨x0, x1, x2, xf, xz⟩ := three_at X6.out
              generalize hl5 : (l.take i ++ l.drop (i + 1)) = l5 at *
              generalize hI5 : O ++ [p] = O5 at *
              have hI6 : O5.length = O.length + 1 := by rw [← hI5]; simp
              clear hl5 hI5
              go_upto_region 24 with (at_builtin; refine Lib.wpList_append_run _ rfl _ _ _ _ rfl _ _ rfl rfl _ _ HRUN.out ?_)
              clear HRUN X6 x0 x1 x2 xf xz
              generalize tkP f p = f5 at *
              generalize (taken + 1) = s5 at *
              generalize (c + 1) = cc5 at *
              rw [← hI6] at KT ⊢
              clear hI6
              generalize (Value.slice oa5 O5.length oc5) = ov5 at *
              generalize w5 = WT at *
              obtain ⟨iA, iC, rfl⟩ := own_len KT.out.ri
              obtain ⟨oA, oC, rfl⟩ := own_len KT.out.ro
              have hki := KT.out.ki.len
              have hIt := KT.out.hI
              have hl100 : l5.length ≤ 1000 := by omega
              have HAL := hideIt (all_is D (D + 1) D rm sent s5 l5 row' cc5 f5 WT KT.out.na (by omega))
              go_wp2_with fail
              refine HAL.out.mono ?_
              rintro e wl ⟨lv, rfl, hlo, hb⟩
              dsimp only
              have KL := hideIt (KT.out.keep hb)
              have GL : Hid (SGot 3 32 pkE wl lv l5) := own_sgot hlo (by omega)
              have GI : Hid (SGot 3 32 pkE wl (.slice iA I.length iC) I) := own_sgot KL.out.ri (by omega)
              have GO : Hid (SGot 3 32 pkE wl (.slice oA O5.length oC) O5) := own_sgot KL.out.ro (by omega)
              obtain ⟨lA, lC, rfl⟩ := own_len hlo
              clear hlo hb HAL KT
              have hsub : IntKind.i64.wrap ((I.length : Int) - (O5.length : Int)) = (l5.length : Int) := by rw [IntKind.wrap_i64]; omega
              have HCN := hideIt (fun x => KL.out.ki.cnt x)
              go_upto_region 28 with fail
              go_loopw [15] (fun u wr => ∃ k : Nat, u = .int .i64 k ∧ k ≤ l5.length ∧ Hid (Below wl.heap.size wl wr)) (fun u _ => l5.length - (RowKit.intOf u).toNat)
              case atStart => exact ⟨0, rfl, Nat.zero_le _, hideIt (Below.refl _ _)⟩
              case round =>
                obtain ⟨k, rfl, hk, HR⟩ := hrel
                by_cases hkl : k < l5.length
                · have hkI : (k : Int) < (l5.length : Int) := by omega
                  have hk0 : (0 : Int) ≤ (k : Int) := by omega
                  have hwk : IntKind.i64.wrap ((k : Int) + 1) = ((k + 1 : Nat) : Int) := by rw [IntKind.wrap_i64]; omega
                  obtain ⟨-, a', c', e, hcap, hr⟩ := GL.out
                  simp only [Value.slice.injEq, true_and] at e
                  obtain ⟨rfl, rfl⟩ := e
                  obtain ⟨g, gf, hlA, hgl, hcc⟩ := hr (by omega)
                  have hcell : Hid (∀ W, Below wl.heap.size wl W → W.cell? ⟨g, gf + k * 3, none⟩ = some (.int .i64 (l5[k]).frm) ∧ W.cell? ⟨g, gf + k * 3 + 1, none⟩ = some (.int .i64 (l5[k]).dst) ∧ W.cell? ⟨g, gf + k * 3 + 2, none⟩ = some (.string (l5[k]).text) ∧ g < W.heap.size) := fun W hW => by
                    refine ⟨?_, ?_, ?_, Nat.lt_of_lt_of_le hgl hW.size⟩
                    · rw [hW.cell (p := ⟨g, gf + k * 3, none⟩) hgl, hcc (k * 3) (by omega)]
                      exact celC_get pkE_len l5 k hkl 0 (by omega)
                    · rw [hW.cell (p := ⟨g, gf + k * 3 + 1, none⟩) hgl, show gf + k * 3 + 1 = gf + (k * 3 + 1) by omega, hcc (k * 3 + 1) (by omega)]
                      exact celC_get pkE_len l5 k hkl 1 (by omega)
                    · rw [hW.cell (p := ⟨g, gf + k * 3 + 2, none⟩) hgl, show gf + k * 3 + 2 = gf + (k * 3 + 2) by omega, hcc (k * 3 + 2) (by omega)]
                      exact celC_get pkE_len l5 k hkl 2 (by omega)
                  have hcnt := HCN.out l5[k]
                  have hb1 := cnt_le l5[k] l5
                  have hb2 := cnt_le l5[k] I
                  have hb3 := cnt_le l5[k] O5
                  have HC1 := hideIt (fun W (hW : Below wl.heap.size wl W) => count_is _ l5 l5[k] W (GL.out.keep hW))
                  have HC2 := hideIt (fun W (hW : Below wl.heap.size wl W) => count_is _ I l5[k] W (GI.out.keep hW))
                  have HC3 := hideIt (fun W (hW : Below wl.heap.size wl W) => count_is _ O5 l5[k] W (GO.out.keep hW))
                  clear hcc hr hcap
                  generalize l5[k] = y at *
                  generalize cntP y l5 = n1 at *
                  generalize cntP y I = n2 at *
                  generalize cntP y O5 = n3 at *
                  obtain ⟨yf, yd, yt⟩ := y
                  unfold pkV at HC1 HC2 HC3
                  dsimp only at hcell HC1 HC2 HC3
                  have hcw : IntKind.i64.wrap ((n2 : Int) - (n3 : Int)) = (n1 : Int) := by rw [IntKind.wrap_i64]; omega
                  clear hcnt hb1 hb2 hb3
                  have HD1 : Hid (∀ W, Below wl.heap.size wl W → Calls Try.prog 32 #[.slice lA l5.length lC, .agg #[.int .i64 yf, .int .i64 yd, .string yt]] W fun e w' => e = .returned (.int .i64 (n1 : Int)) ∧ Hid (Below wl.heap.size wl w') ∧ (w'.cell? ⟨g, gf + k * 3, none⟩ = some (.int .i64 yf) ∧ w'.cell? ⟨g, gf + k * 3 + 1, none⟩ = some (.int .i64 yd) ∧ w'.cell? ⟨g, gf + k * 3 + 2, none⟩ = some (.string yt)) ∧ g < w'.heap.size) := fun W hW => (HC1.out W hW).mono (fun e w' hh => ⟨hh.1, below_via hW hh.2, ⟨(hcell.out _ (below_via hW hh.2)).1, (hcell.out _ (below_via hW hh.2)).2.1, (hcell.out _ (below_via hW hh.2)).2.2.1⟩, (hcell.out _ (below_via hW hh.2)).2.2.2⟩)
                  have HD2 : Hid (∀ W, Below wl.heap.size wl W → Calls Try.prog 32 #[.slice iA I.length iC, .agg #[.int .i64 yf, .int .i64 yd, .string yt]] W fun e w' => e = .returned (.int .i64 (n2 : Int)) ∧ Hid (Below wl.heap.size wl w') ∧ (w'.cell? ⟨g, gf + k * 3, none⟩ = some (.int .i64 yf) ∧ w'.cell? ⟨g, gf + k * 3 + 1, none⟩ = some (.int .i64 yd) ∧ w'.cell? ⟨g, gf + k * 3 + 2, none⟩ = some (.string yt)) ∧ g < w'.heap.size) := fun W hW => (HC2.out W hW).mono (fun e w' hh => ⟨hh.1, below_via hW hh.2, ⟨(hcell.out _ (below_via hW hh.2)).1, (hcell.out _ (below_via hW hh.2)).2.1, (hcell.out _ (below_via hW hh.2)).2.2.1⟩, (hcell.out _ (below_via hW hh.2)).2.2.2⟩)
                  have HD3 : Hid (∀ W, Below wl.heap.size wl W → Calls Try.prog 32 #[.slice oA O5.length oC, .agg #[.int .i64 yf, .int .i64 yd, .string yt]] W fun e w' => e = .returned (.int .i64 (n3 : Int)) ∧ Hid (Below wl.heap.size wl w') ∧ (w'.cell? ⟨g, gf + k * 3, none⟩ = some (.int .i64 yf) ∧ w'.cell? ⟨g, gf + k * 3 + 1, none⟩ = some (.int .i64 yd) ∧ w'.cell? ⟨g, gf + k * 3 + 2, none⟩ = some (.string yt)) ∧ g < w'.heap.size) := fun W hW => (HC3.out W hW).mono (fun e w' hh => ⟨hh.1, below_via hW hh.2, ⟨(hcell.out _ (below_via hW hh.2)).1, (hcell.out _ (below_via hW hh.2)).2.1, (hcell.out _ (below_via hW hh.2)).2.2.1⟩, (hcell.out _ (below_via hW hh.2)).2.2.2⟩)
                  obtain ⟨e0, e1, e2, eg⟩ := hcell.out _ HR.out
                  clear HC1 HC2 HC3 GL GI GO hcell
                  subst hlA
                  go_upto_region 30 with fail
                  go_cut [138] from 119 to 138 (fun u wx => u = .bool false ∧ Hid (Below wl.heap.size wl wx))
                  case first =>
                    go_region_held3 (fun W => W.cell? ⟨g, gf + k * 3, none⟩ = some (.int .i64 yf) ∧ W.cell? ⟨g, gf + k * 3 + 1, none⟩ = some (.int .i64 yd) ∧ W.cell? ⟨g, gf + k * 3 + 2, none⟩ = some (.string yt)) (go_keep) (first | (go_at_call 32; refine (HD1.out _ (by first | exact HR.out | exact HR.out.drew | exact HWB.out | exact HWC.out)).mono ?_; rintro e wA ⟨rfl, HWA, ⟨e0A, e1A, e2A⟩, egA⟩; clear HD1) | (go_at_call 32; refine (HD2.out _ (by first | exact HR.out | exact HR.out.drew | exact HWA.out | exact HWC.out)).mono ?_; rintro e wB ⟨rfl, HWB, ⟨e0B, e1B, e2B⟩, egB⟩; clear HD2) | (go_at_call 32; refine (HD3.out _ (by first | exact HR.out | exact HR.out.drew | exact HWA.out | exact HWB.out)).mono ?_; rintro e wC ⟨rfl, HWC, ⟨e0C, e1C, e2C⟩, egC⟩; clear HD3))
                    all_goals go_wp2_with fail
                    all_goals go_meet
                    all_goals first | exact ⟨by simp, HWA⟩ | exact ⟨by simp, HWB⟩ | exact ⟨by simp, HWC⟩
                  case rest =>
                  obtain ⟨rfl, HRN⟩ := hcut
                  go_wp2
                  go_roundw
                  case rel => exact ⟨k + 1, by go_num, by omega, HRN⟩
                  case measure => simp [RowKit.intOf]; omega
                · have hkI : ¬ (k : Int) < (l5.length : Int) := by omega
                  have KE := hideIt (KL.out.keep HR.out)
                  clear KL HR GL GI GO HCN
                  have KN := KE
                  clear KE
                  go_wp2
                  go_roundw
                  case rel => exact ⟨t + 1, _, _, _, _, _, _, _, _, by go_num, by omega, by omega, KN⟩
                  case measure => simp [RowKit.intOf]; omega
            · have hno : wiB on 0 ((l.length : Int) - 1) = false := by simpa using hok
              have HTA := hideIt (take_no D (D + 1) D rm sent taken l row c f on W3 K3.out.na (by omega) hno)
              clear hok GW hno
              go_wp2_with fail
              refine HTA.out.mono ?_
              rintro e W4 ⟨rfl, hb⟩
              dsimp only
              have KT := hideIt (K3.out.keep (below_via hb (below1 W4 (.cells #[.int .i64 0, .int .i64 0, .string ⟨#[]⟩] 56)))).up
              clear hb K3 X3 HTA x0 x1 x2 x3 x4 xf xz hki1 hIt1
              go_upto_region 24 with fail
              generalize W4.alloc (.cells #[.int .i64 0, .int .i64 0, .string ⟨#[]⟩] 56) = WT at *
              obtain ⟨iA, iC, rfl⟩ := own_len KT.out.ri
              obtain ⟨oA, oC, rfl⟩ := own_len KT.out.ro
              have hki := KT.out.ki.len
              have hIt := KT.out.hI
              have hl100 : l.length ≤ 1000 := by omega
              have HAL := hideIt (all_is D (D + 1) D rm sent taken l row c f WT KT.out.na (by omega))
              go_wp2_with fail
              refine HAL.out.mono ?_
              rintro e wl ⟨lv, rfl, hlo, hb⟩
              dsimp only
              have KL := hideIt (KT.out.keep hb)
              have GL : Hid (SGot 3 32 pkE wl lv l) := own_sgot hlo (by omega)
              have GI : Hid (SGot 3 32 pkE wl (.slice iA I.length iC) I) := own_sgot KL.out.ri (by omega)
              have GO : Hid (SGot 3 32 pkE wl (.slice oA O.length oC) O) := own_sgot KL.out.ro (by omega)
              obtain ⟨lA, lC, rfl⟩ := own_len hlo
              clear hlo hb HAL KT
              have hsub : IntKind.i64.wrap ((I.length : Int) - (O.length : Int)) = (l.length : Int) := by rw [IntKind.wrap_i64]; omega
              have HCN := hideIt (fun x => KL.out.ki.cnt x)
              go_upto_region 28 with fail
              go_loopw [15] (fun u wr => ∃ k : Nat, u = .int .i64 k ∧ k ≤ l.length ∧ Hid (Below wl.heap.size wl wr)) (fun u _ => l.length - (RowKit.intOf u).toNat)
              case atStart => exact ⟨0, rfl, Nat.zero_le _, hideIt (Below.refl _ _)⟩
              case round =>
                obtain ⟨k, rfl, hk, HR⟩ := hrel
                by_cases hkl : k < l.length
                · have hkI : (k : Int) < (l.length : Int) := by omega
                  have hk0 : (0 : Int) ≤ (k : Int) := by omega
                  have hwk : IntKind.i64.wrap ((k : Int) + 1) = ((k + 1 : Nat) : Int) := by rw [IntKind.wrap_i64]; omega
                  obtain ⟨-, a', c', e, hcap, hr⟩ := GL.out
                  simp only [Value.slice.injEq, true_and] at e
                  obtain ⟨rfl, rfl⟩ := e
                  obtain ⟨g, gf, hlA, hgl, hcc⟩ := hr (by omega)
                  have hcell : Hid (∀ W, Below wl.heap.size wl W → W.cell? ⟨g, gf + k * 3, none⟩ = some (.int .i64 (l[k]).frm) ∧ W.cell? ⟨g, gf + k * 3 + 1, none⟩ = some (.int .i64 (l[k]).dst) ∧ W.cell? ⟨g, gf + k * 3 + 2, none⟩ = some (.string (l[k]).text) ∧ g < W.heap.size) := fun W hW => by
                    refine ⟨?_, ?_, ?_, Nat.lt_of_lt_of_le hgl hW.size⟩
                    · rw [hW.cell (p := ⟨g, gf + k * 3, none⟩) hgl, hcc (k * 3) (by omega)]
                      exact celC_get pkE_len l k hkl 0 (by omega)
                    · rw [hW.cell (p := ⟨g, gf + k * 3 + 1, none⟩) hgl, show gf + k * 3 + 1 = gf + (k * 3 + 1) by omega, hcc (k * 3 + 1) (by omega)]
                      exact celC_get pkE_len l k hkl 1 (by omega)
                    · rw [hW.cell (p := ⟨g, gf + k * 3 + 2, none⟩) hgl, show gf + k * 3 + 2 = gf + (k * 3 + 2) by omega, hcc (k * 3 + 2) (by omega)]
                      exact celC_get pkE_len l k hkl 2 (by omega)
                  have hcnt := HCN.out l[k]
                  have hb1 := cnt_le l[k] l
                  have hb2 := cnt_le l[k] I
                  have hb3 := cnt_le l[k] O
                  have HC1 := hideIt (fun W (hW : Below wl.heap.size wl W) => count_is _ l l[k] W (GL.out.keep hW))
                  have HC2 := hideIt (fun W (hW : Below wl.heap.size wl W) => count_is _ I l[k] W (GI.out.keep hW))
                  have HC3 := hideIt (fun W (hW : Below wl.heap.size wl W) => count_is _ O l[k] W (GO.out.keep hW))
                  clear hcc hr hcap
                  generalize l[k] = y at *
                  generalize cntP y l = n1 at *
                  generalize cntP y I = n2 at *
                  generalize cntP y O = n3 at *
                  obtain ⟨yf, yd, yt⟩ := y
                  unfold pkV at HC1 HC2 HC3
                  dsimp only at hcell HC1 HC2 HC3
                  have hcw : IntKind.i64.wrap ((n2 : Int) - (n3 : Int)) = (n1 : Int) := by rw [IntKind.wrap_i64]; omega
                  clear hcnt hb1 hb2 hb3
                  have HD1 : Hid (∀ W, Below wl.heap.size wl W → Calls Try.prog 32 #[.slice lA l.length lC, .agg #[.int .i64 yf, .int .i64 yd, .string yt]] W fun e w' => e = .returned (.int .i64 (n1 : Int)) ∧ Hid (Below wl.heap.size wl w') ∧ (w'.cell? ⟨g, gf + k * 3, none⟩ = some (.int .i64 yf) ∧ w'.cell? ⟨g, gf + k * 3 + 1, none⟩ = some (.int .i64 yd) ∧ w'.cell? ⟨g, gf + k * 3 + 2, none⟩ = some (.string yt)) ∧ g < w'.heap.size) := fun W hW => (HC1.out W hW).mono (fun e w' hh => ⟨hh.1, below_via hW hh.2, ⟨(hcell.out _ (below_via hW hh.2)).1, (hcell.out _ (below_via hW hh.2)).2.1, (hcell.out _ (below_via hW hh.2)).2.2.1⟩, (hcell.out _ (below_via hW hh.2)).2.2.2⟩)
                  have HD2 : Hid (∀ W, Below wl.heap.size wl W → Calls Try.prog 32 #[.slice iA I.length iC, .agg #[.int .i64 yf, .int .i64 yd, .string yt]] W fun e w' => e = .returned (.int .i64 (n2 : Int)) ∧ Hid (Below wl.heap.size wl w') ∧ (w'.cell? ⟨g, gf + k * 3, none⟩ = some (.int .i64 yf) ∧ w'.cell? ⟨g, gf + k * 3 + 1, none⟩ = some (.int .i64 yd) ∧ w'.cell? ⟨g, gf + k * 3 + 2, none⟩ = some (.string yt)) ∧ g < w'.heap.size) := fun W hW => (HC2.out W hW).mono (fun e w' hh => ⟨hh.1, below_via hW hh.2, ⟨(hcell.out _ (below_via hW hh.2)).1, (hcell.out _ (below_via hW hh.2)).2.1, (hcell.out _ (below_via hW hh.2)).2.2.1⟩, (hcell.out _ (below_via hW hh.2)).2.2.2⟩)
                  have HD3 : Hid (∀ W, Below wl.heap.size wl W → Calls Try.prog 32 #[.slice oA O.length oC, .agg #[.int .i64 yf, .int .i64 yd, .string yt]] W fun e w' => e = .returned (.int .i64 (n3 : Int)) ∧ Hid (Below wl.heap.size wl w') ∧ (w'.cell? ⟨g, gf + k * 3, none⟩ = some (.int .i64 yf) ∧ w'.cell? ⟨g, gf + k * 3 + 1, none⟩ = some (.int .i64 yd) ∧ w'.cell? ⟨g, gf + k * 3 + 2, none⟩ = some (.string yt)) ∧ g < w'.heap.size) := fun W hW => (HC3.out W hW).mono (fun e w' hh => ⟨hh.1, below_via hW hh.2, ⟨(hcell.out _ (below_via hW hh.2)).1, (hcell.out _ (below_via hW hh.2)).2.1, (hcell.out _ (below_via hW hh.2)).2.2.1⟩, (hcell.out _ (below_via hW hh.2)).2.2.2⟩)
                  obtain ⟨e0, e1, e2, eg⟩ := hcell.out _ HR.out
                  clear HC1 HC2 HC3 GL GI GO hcell
                  subst hlA
                  go_upto_region 30 with fail
                  go_cut [138] from 119 to 138 (fun u wx => u = .bool false ∧ Hid (Below wl.heap.size wl wx))
                  case first =>
                    go_region_held3 (fun W => W.cell? ⟨g, gf + k * 3, none⟩ = some (.int .i64 yf) ∧ W.cell? ⟨g, gf + k * 3 + 1, none⟩ = some (.int .i64 yd) ∧ W.cell? ⟨g, gf + k * 3 + 2, none⟩ = some (.string yt)) (go_keep) (first | (go_at_call 32; refine (HD1.out _ (by first | exact HR.out | exact HR.out.drew | exact HWB.out | exact HWC.out)).mono ?_; rintro e wA ⟨rfl, HWA, ⟨e0A, e1A, e2A⟩, egA⟩; clear HD1) | (go_at_call 32; refine (HD2.out _ (by first | exact HR.out | exact HR.out.drew | exact HWA.out | exact HWC.out)).mono ?_; rintro e wB ⟨rfl, HWB, ⟨e0B, e1B, e2B⟩, egB⟩; clear HD2) | (go_at_call 32; refine (HD3.out _ (by first | exact HR.out | exact HR.out.drew | exact HWA.out | exact HWB.out)).mono ?_; rintro e wC ⟨rfl, HWC, ⟨e0C, e1C, e2C⟩, egC⟩; clear HD3))
                    all_goals go_wp2_with fail
                    all_goals go_meet
                    all_goals first | exact ⟨by simp, HWA⟩ | exact ⟨by simp, HWB⟩ | exact ⟨by simp, HWC⟩
                  case rest =>
                  obtain ⟨rfl, HRN⟩ := hcut
                  go_wp2
                  go_roundw
                  case rel => exact ⟨k + 1, by go_num, by omega, HRN⟩
                  case measure => simp [RowKit.intOf]; omega
                · have hkI : ¬ (k : Int) < (l.length : Int) := by omega
                  have KE := hideIt (KL.out.keep HR.out)
                  clear KL HR GL GI GO HCN
                  have KN := KE
                  clear KE
                  go_wp2
                  go_roundw
                  case rel => exact ⟨t + 1, _, _, _, _, _, _, _, _, by go_num, by omega, by omega, KN⟩
                  case measure => simp [RowKit.intOf]; omega
          · have q1y : (oa == 1) = false := by simpa using a1
            by_cases a2 : oa = 2
            · subst a2
              have q1z : ((2 : Int) == 1) = false := rfl
              by_cases hok : wiB on 0 ((l.length : Int) - 1) = true ∧ (l.length : Int) < rm
              · obtain ⟨i, hi, hil⟩ : ∃ i : Nat, on = i ∧ i < l.length := by
                  have hw1 : 0 ≤ on ∧ on ≤ (l.length : Int) - 1 := by have := hok.1; unfold wiB at this; simpa using this
                  exact ⟨on.toNat, by omega, by omega⟩
                subst hi
                obtain ⟨p, hp⟩ : ∃ p, l[i] = p := ⟨_, rfl⟩
                have hpk : PkOk p := K3.out.ki.ok p (by rw [← hp]; exact List.getElem_mem hil)
                have HTA := hideIt (double2_ok D (D + 1) D rm sent taken l row c f i W3 K3.out.na K3.out.hZ K3.out.hn K3.out.hm (by omega) (by have := K3.out.hc; omega) (fun x => K3.out.ki.pgb (by omega) x) hil (by rw [hp]; exact hpk) hok.2)
                rw [hp] at HTA
                clear hok GW
                go_wp2_with fail
                refine HTA.out.mono ?_
                rintro e W4 ⟨rfl, ⟨row', hN, hx⟩, hO⟩
                dsimp only
                obtain ⟨t1, t2, t3, t4, t5⟩ := K3.out.turn hO hN hx
                have X4 := hideIt (box_stays K3.out.na X3.out hO)
                have hZ4 : D ≤ W4.heap.size := Nat.le_trans K3.out.hZ hO.size
                have hG4 : SGot 3 32 pkE W4 (.slice wA l.length wC) l := own_sgot (row_stays K3.out.na HWO.out HWD.out hO) (by omega)
                obtain ⟨ia, ic, w5, hrun, hna5, hri5, hro5, g1, g3, hb5, hz5⟩ := rowApp (w := w1) hN t1 t2 t3 K3.out.d3 t5 K3.out.hD hZ4 (by omega) p
                have HRUN := hideIt hrun
                have hl1 : (I ++ [p]).length = I.length + 1 := by simp
                have KT : Hid (KS w1 D (D + 1) D rm (t + 1) (I ++ [p]) O (l ++ [p]) (.slice ia (I.length + 1) ic) u8 row' sent taken (c + 1) (updP f p (pg f p + 1)) w5) := ⟨hna5, hri5, hro5, g1, t4, g3, K3.out.ki.add hpk, hb5, by rw [hl1]; omega, by have := K3.out.hs; push_cast; omega, by have := K3.out.ht; push_cast; omega, by have := K3.out.hc; omega, K3.out.hD, by omega, K3.out.hn, K3.out.hm⟩
                obtain ⟨-, a', c', e, hcap, hrr⟩ := hG4
                simp only [Value.slice.injEq, true_and] at e
                obtain ⟨rfl, rfl⟩ := e
                obtain ⟨g, gf, hwA, hgl, hcc⟩ := hrr (by omega)
                have y0 : W4.cell? ⟨g, gf + i * 3, none⟩ = some (.int .i64 p.frm) := by
                  rw [hcc (i * 3) (by omega), ← hp]
                  exact celC_get pkE_len l i hil 0 (by omega)
                have y1 : W4.cell? ⟨g, gf + i * 3 + 1, none⟩ = some (.int .i64 p.dst) := by
                  rw [show gf + i * 3 + 1 = gf + (i * 3 + 1) by omega, hcc (i * 3 + 1) (by omega), ← hp]
                  exact celC_get pkE_len l i hil 1 (by omega)
                have y2 : W4.cell? ⟨g, gf + i * 3 + 2, none⟩ = some (.string p.text) := by
                  rw [show gf + i * 3 + 2 = gf + (i * 3 + 2) by omega, hcc (i * 3 + 2) (by omega), ← hp]
                  exact celC_get pkE_len l i hil 2 (by omega)
                clear hrun hna5 hri5 hro5 g1 g3 hb5 hz5 hl1 t1 t2 t3 t4 t5 hN hx hO K3 X3 HTA x0 x1 x2 x3 x4 xf xz hpk hki1 hIt1 hcap hrr hcc hp
                subst hwA
                have hiI : (i : Int) < (l.length : Int) := by omega
                have hi0 : (0 : Int) ≤ (i : Int) := by omega
                have hid : decide ((l.length : Int) ≤ (i : Int)) = false := decide_eq_false (by omega)
                have hin : ¬ (i : Int) < 0 := by omega
                obtain ⟨⟨x0, x1, x2, x3, x4⟩, xf, xz⟩ := five5_at X4.out
                generalize hl5 : l ++ [p] = l5 at *
                generalize hI5 : I ++ [p] = I5 at *
                have hI6 : I5.length = I.length + 1 := by rw [← hI5]; simp
                clear hl5 hI5
                go_upto_region 24 with (at_builtin; refine Lib.wpList_append_run _ rfl _ _ _ _ rfl _ _ rfl rfl _ _ HRUN.out ?_)
                clear HRUN X4 x0 x1 x2 x3 x4 xf xz hZ4 y0 y1 y2 hgl hiI hi0 hid hin
                generalize updP f p (pg f p + 1) = f5 at *
                generalize (c + 1) = cc5 at *
                rw [← hI6] at KT ⊢
                clear hI6
                generalize (Value.slice ia I5.length ic) = iv5 at *
                generalize w5 = WT at *
                obtain ⟨iA, iC, rfl⟩ := own_len KT.out.ri
                obtain ⟨oA, oC, rfl⟩ := own_len KT.out.ro
                have hki := KT.out.ki.len
                have hIt := KT.out.hI
                have hl100 : l5.length ≤ 1000 := by omega
                have HAL := hideIt (all_is D (D + 1) D rm sent taken l5 row' cc5 f5 WT KT.out.na (by omega))
                go_wp2_with fail
                refine HAL.out.mono ?_
                rintro e wl ⟨lv, rfl, hlo, hb⟩
                dsimp only
                have KL := hideIt (KT.out.keep hb)
                have GL : Hid (SGot 3 32 pkE wl lv l5) := own_sgot hlo (by omega)
                have GI : Hid (SGot 3 32 pkE wl (.slice iA I5.length iC) I5) := own_sgot KL.out.ri (by omega)
                have GO : Hid (SGot 3 32 pkE wl (.slice oA O.length oC) O) := own_sgot KL.out.ro (by omega)
                obtain ⟨lA, lC, rfl⟩ := own_len hlo
                clear hlo hb HAL KT
                have hsub : IntKind.i64.wrap ((I5.length : Int) - (O.length : Int)) = (l5.length : Int) := by rw [IntKind.wrap_i64]; omega
                have HCN := hideIt (fun x => KL.out.ki.cnt x)
                go_upto_region 28 with fail
                go_loopw [15] (fun u wr => ∃ k : Nat, u = .int .i64 k ∧ k ≤ l5.length ∧ Hid (Below wl.heap.size wl wr)) (fun u _ => l5.length - (RowKit.intOf u).toNat)
                case atStart => exact ⟨0, rfl, Nat.zero_le _, hideIt (Below.refl _ _)⟩
                case round =>
                  obtain ⟨k, rfl, hk, HR⟩ := hrel
                  by_cases hkl : k < l5.length
                  · have hkI : (k : Int) < (l5.length : Int) := by omega
                    have hk0 : (0 : Int) ≤ (k : Int) := by omega
                    have hwk : IntKind.i64.wrap ((k : Int) + 1) = ((k + 1 : Nat) : Int) := by rw [IntKind.wrap_i64]; omega
                    obtain ⟨-, a', c', e, hcap, hr⟩ := GL.out
                    simp only [Value.slice.injEq, true_and] at e
                    obtain ⟨rfl, rfl⟩ := e
                    obtain ⟨g, gf, hlA, hgl, hcc⟩ := hr (by omega)
                    have hcell : Hid (∀ W, Below wl.heap.size wl W → W.cell? ⟨g, gf + k * 3, none⟩ = some (.int .i64 (l5[k]).frm) ∧ W.cell? ⟨g, gf + k * 3 + 1, none⟩ = some (.int .i64 (l5[k]).dst) ∧ W.cell? ⟨g, gf + k * 3 + 2, none⟩ = some (.string (l5[k]).text) ∧ g < W.heap.size) := fun W hW => by
                      refine ⟨?_, ?_, ?_, Nat.lt_of_lt_of_le hgl hW.size⟩
                      · rw [hW.cell (p := ⟨g, gf + k * 3, none⟩) hgl, hcc (k * 3) (by omega)]
                        exact celC_get pkE_len l5 k hkl 0 (by omega)
                      · rw [hW.cell (p := ⟨g, gf + k * 3 + 1, none⟩) hgl, show gf + k * 3 + 1 = gf + (k * 3 + 1) by omega, hcc (k * 3 + 1) (by omega)]
                        exact celC_get pkE_len l5 k hkl 1 (by omega)
                      · rw [hW.cell (p := ⟨g, gf + k * 3 + 2, none⟩) hgl, show gf + k * 3 + 2 = gf + (k * 3 + 2) by omega, hcc (k * 3 + 2) (by omega)]
                        exact celC_get pkE_len l5 k hkl 2 (by omega)
                    have hcnt := HCN.out l5[k]
                    have hb1 := cnt_le l5[k] l5
                    have hb2 := cnt_le l5[k] I5
                    have hb3 := cnt_le l5[k] O
                    have HC1 := hideIt (fun W (hW : Below wl.heap.size wl W) => count_is _ l5 l5[k] W (GL.out.keep hW))
                    have HC2 := hideIt (fun W (hW : Below wl.heap.size wl W) => count_is _ I5 l5[k] W (GI.out.keep hW))
                    have HC3 := hideIt (fun W (hW : Below wl.heap.size wl W) => count_is _ O l5[k] W (GO.out.keep hW))
                    clear hcc hr hcap
                    generalize l5[k] = y at *
                    generalize cntP y l5 = n1 at *
                    generalize cntP y I5 = n2 at *
                    generalize cntP y O = n3 at *
                    obtain ⟨yf, yd, yt⟩ := y
                    unfold pkV at HC1 HC2 HC3
                    dsimp only at hcell HC1 HC2 HC3
                    have hcw : IntKind.i64.wrap ((n2 : Int) - (n3 : Int)) = (n1 : Int) := by rw [IntKind.wrap_i64]; omega
                    clear hcnt hb1 hb2 hb3
                    have HD1 : Hid (∀ W, Below wl.heap.size wl W → Calls Try.prog 32 #[.slice lA l5.length lC, .agg #[.int .i64 yf, .int .i64 yd, .string yt]] W fun e w' => e = .returned (.int .i64 (n1 : Int)) ∧ Hid (Below wl.heap.size wl w') ∧ (w'.cell? ⟨g, gf + k * 3, none⟩ = some (.int .i64 yf) ∧ w'.cell? ⟨g, gf + k * 3 + 1, none⟩ = some (.int .i64 yd) ∧ w'.cell? ⟨g, gf + k * 3 + 2, none⟩ = some (.string yt)) ∧ g < w'.heap.size) := fun W hW => (HC1.out W hW).mono (fun e w' hh => ⟨hh.1, below_via hW hh.2, ⟨(hcell.out _ (below_via hW hh.2)).1, (hcell.out _ (below_via hW hh.2)).2.1, (hcell.out _ (below_via hW hh.2)).2.2.1⟩, (hcell.out _ (below_via hW hh.2)).2.2.2⟩)
                    have HD2 : Hid (∀ W, Below wl.heap.size wl W → Calls Try.prog 32 #[.slice iA I5.length iC, .agg #[.int .i64 yf, .int .i64 yd, .string yt]] W fun e w' => e = .returned (.int .i64 (n2 : Int)) ∧ Hid (Below wl.heap.size wl w') ∧ (w'.cell? ⟨g, gf + k * 3, none⟩ = some (.int .i64 yf) ∧ w'.cell? ⟨g, gf + k * 3 + 1, none⟩ = some (.int .i64 yd) ∧ w'.cell? ⟨g, gf + k * 3 + 2, none⟩ = some (.string yt)) ∧ g < w'.heap.size) := fun W hW => (HC2.out W hW).mono (fun e w' hh => ⟨hh.1, below_via hW hh.2, ⟨(hcell.out _ (below_via hW hh.2)).1, (hcell.out _ (below_via hW hh.2)).2.1, (hcell.out _ (below_via hW hh.2)).2.2.1⟩, (hcell.out _ (below_via hW hh.2)).2.2.2⟩)
                    have HD3 : Hid (∀ W, Below wl.heap.size wl W → Calls Try.prog 32 #[.slice oA O.length oC, .agg #[.int .i64 yf, .int .i64 yd, .string yt]] W fun e w' => e = .returned (.int .i64 (n3 : Int)) ∧ Hid (Below wl.heap.size wl w') ∧ (w'.cell? ⟨g, gf + k * 3, none⟩ = some (.int .i64 yf) ∧ w'.cell? ⟨g, gf + k * 3 + 1, none⟩ = some (.int .i64 yd) ∧ w'.cell? ⟨g, gf + k * 3 + 2, none⟩ = some (.string yt)) ∧ g < w'.heap.size) := fun W hW => (HC3.out W hW).mono (fun e w' hh => ⟨hh.1, below_via hW hh.2, ⟨(hcell.out _ (below_via hW hh.2)).1, (hcell.out _ (below_via hW hh.2)).2.1, (hcell.out _ (below_via hW hh.2)).2.2.1⟩, (hcell.out _ (below_via hW hh.2)).2.2.2⟩)
                    obtain ⟨e0, e1, e2, eg⟩ := hcell.out _ HR.out
                    clear HC1 HC2 HC3 GL GI GO hcell
                    subst hlA
                    go_upto_region 30 with fail
                    go_cut [138] from 119 to 138 (fun u wx => u = .bool false ∧ Hid (Below wl.heap.size wl wx))
                    case first =>
                      go_region_held3 (fun W => W.cell? ⟨g, gf + k * 3, none⟩ = some (.int .i64 yf) ∧ W.cell? ⟨g, gf + k * 3 + 1, none⟩ = some (.int .i64 yd) ∧ W.cell? ⟨g, gf + k * 3 + 2, none⟩ = some (.string yt)) (go_keep) (first | (go_at_call 32; refine (HD1.out _ (by first | exact HR.out | exact HR.out.drew | exact HWB.out | exact HWC.out)).mono ?_; rintro e wA ⟨rfl, HWA, ⟨e0A, e1A, e2A⟩, egA⟩; clear HD1) | (go_at_call 32; refine (HD2.out _ (by first | exact HR.out | exact HR.out.drew | exact HWA.out | exact HWC.out)).mono ?_; rintro e wB ⟨rfl, HWB, ⟨e0B, e1B, e2B⟩, egB⟩; clear HD2) | (go_at_call 32; refine (HD3.out _ (by first | exact HR.out | exact HR.out.drew | exact HWA.out | exact HWB.out)).mono ?_; rintro e wC ⟨rfl, HWC, ⟨e0C, e1C, e2C⟩, egC⟩; clear HD3))
                      all_goals go_wp2_with fail
                      all_goals go_meet
                      all_goals first | exact ⟨by simp, HWA⟩ | exact ⟨by simp, HWB⟩ | exact ⟨by simp, HWC⟩
                    case rest =>
                    obtain ⟨rfl, HRN⟩ := hcut
                    go_wp2
                    go_roundw
                    case rel => exact ⟨k + 1, by go_num, by omega, HRN⟩
                    case measure => simp [RowKit.intOf]; omega
                  · have hkI : ¬ (k : Int) < (l5.length : Int) := by omega
                    have KE := hideIt (KL.out.keep HR.out)
                    clear KL HR GL GI GO HCN
                    have KN := KE
                    clear KE
                    go_wp2
                    go_roundw
                    case rel => exact ⟨t + 1, _, _, _, _, _, _, _, _, by go_num, by omega, by omega, KN⟩
                    case measure => simp [RowKit.intOf]; omega
              · have HTA := hideIt (double_no D (D + 1) D rm sent taken l row c f on W3 K3.out.na (by omega) hok)
                obtain ⟨er, her, hne⟩ : ∃ er : Int, (if wiB on 0 ((l.length : Int) - 1) = true then (50 : Int) else 51) = er ∧ er ≠ 0 := ⟨_, rfl, by split <;> omega⟩
                rw [her] at HTA
                have hneq : (er == 0) = false := by simpa using hne
                clear hok GW her hne
                go_wp2_with fail
                refine HTA.out.mono ?_
                rintro e WT ⟨rfl, hb⟩
                dsimp only
                have KT := hideIt (K3.out.keep hb).up
                clear hb K3 X3 HTA x0 x1 x2 x3 x4 xf xz hki1 hIt1
                go_upto_region 24 with fail
                obtain ⟨iA, iC, rfl⟩ := own_len KT.out.ri
                obtain ⟨oA, oC, rfl⟩ := own_len KT.out.ro
                have hki := KT.out.ki.len
                have hIt := KT.out.hI
                have hl100 : l.length ≤ 1000 := by omega
                have HAL := hideIt (all_is D (D + 1) D rm sent taken l row c f WT KT.out.na (by omega))
                go_wp2_with fail
                refine HAL.out.mono ?_
                rintro e wl ⟨lv, rfl, hlo, hb⟩
                dsimp only
                have KL := hideIt (KT.out.keep hb)
                have GL : Hid (SGot 3 32 pkE wl lv l) := own_sgot hlo (by omega)
                have GI : Hid (SGot 3 32 pkE wl (.slice iA I.length iC) I) := own_sgot KL.out.ri (by omega)
                have GO : Hid (SGot 3 32 pkE wl (.slice oA O.length oC) O) := own_sgot KL.out.ro (by omega)
                obtain ⟨lA, lC, rfl⟩ := own_len hlo
                clear hlo hb HAL KT
                have hsub : IntKind.i64.wrap ((I.length : Int) - (O.length : Int)) = (l.length : Int) := by rw [IntKind.wrap_i64]; omega
                have HCN := hideIt (fun x => KL.out.ki.cnt x)
                go_upto_region 28 with fail
                go_loopw [15] (fun u wr => ∃ k : Nat, u = .int .i64 k ∧ k ≤ l.length ∧ Hid (Below wl.heap.size wl wr)) (fun u _ => l.length - (RowKit.intOf u).toNat)
                case atStart => exact ⟨0, rfl, Nat.zero_le _, hideIt (Below.refl _ _)⟩
                case round =>
                  obtain ⟨k, rfl, hk, HR⟩ := hrel
                  by_cases hkl : k < l.length
                  · have hkI : (k : Int) < (l.length : Int) := by omega
                    have hk0 : (0 : Int) ≤ (k : Int) := by omega
                    have hwk : IntKind.i64.wrap ((k : Int) + 1) = ((k + 1 : Nat) : Int) := by rw [IntKind.wrap_i64]; omega
                    obtain ⟨-, a', c', e, hcap, hr⟩ := GL.out
                    simp only [Value.slice.injEq, true_and] at e
                    obtain ⟨rfl, rfl⟩ := e
                    obtain ⟨g, gf, hlA, hgl, hcc⟩ := hr (by omega)
                    have hcell : Hid (∀ W, Below wl.heap.size wl W → W.cell? ⟨g, gf + k * 3, none⟩ = some (.int .i64 (l[k]).frm) ∧ W.cell? ⟨g, gf + k * 3 + 1, none⟩ = some (.int .i64 (l[k]).dst) ∧ W.cell? ⟨g, gf + k * 3 + 2, none⟩ = some (.string (l[k]).text) ∧ g < W.heap.size) := fun W hW => by
                      refine ⟨?_, ?_, ?_, Nat.lt_of_lt_of_le hgl hW.size⟩
                      · rw [hW.cell (p := ⟨g, gf + k * 3, none⟩) hgl, hcc (k * 3) (by omega)]
                        exact celC_get pkE_len l k hkl 0 (by omega)
                      · rw [hW.cell (p := ⟨g, gf + k * 3 + 1, none⟩) hgl, show gf + k * 3 + 1 = gf + (k * 3 + 1) by omega, hcc (k * 3 + 1) (by omega)]
                        exact celC_get pkE_len l k hkl 1 (by omega)
                      · rw [hW.cell (p := ⟨g, gf + k * 3 + 2, none⟩) hgl, show gf + k * 3 + 2 = gf + (k * 3 + 2) by omega, hcc (k * 3 + 2) (by omega)]
                        exact celC_get pkE_len l k hkl 2 (by omega)
                    have hcnt := HCN.out l[k]
                    have hb1 := cnt_le l[k] l
                    have hb2 := cnt_le l[k] I
                    have hb3 := cnt_le l[k] O
                    have HC1 := hideIt (fun W (hW : Below wl.heap.size wl W) => count_is _ l l[k] W (GL.out.keep hW))
                    have HC2 := hideIt (fun W (hW : Below wl.heap.size wl W) => count_is _ I l[k] W (GI.out.keep hW))
                    have HC3 := hideIt (fun W (hW : Below wl.heap.size wl W) => count_is _ O l[k] W (GO.out.keep hW))
                    clear hcc hr hcap
                    generalize l[k] = y at *
                    generalize cntP y l = n1 at *
                    generalize cntP y I = n2 at *
                    generalize cntP y O = n3 at *
                    obtain ⟨yf, yd, yt⟩ := y
                    unfold pkV at HC1 HC2 HC3
                    dsimp only at hcell HC1 HC2 HC3
                    have hcw : IntKind.i64.wrap ((n2 : Int) - (n3 : Int)) = (n1 : Int) := by rw [IntKind.wrap_i64]; omega
                    clear hcnt hb1 hb2 hb3
                    have HD1 : Hid (∀ W, Below wl.heap.size wl W → Calls Try.prog 32 #[.slice lA l.length lC, .agg #[.int .i64 yf, .int .i64 yd, .string yt]] W fun e w' => e = .returned (.int .i64 (n1 : Int)) ∧ Hid (Below wl.heap.size wl w') ∧ (w'.cell? ⟨g, gf + k * 3, none⟩ = some (.int .i64 yf) ∧ w'.cell? ⟨g, gf + k * 3 + 1, none⟩ = some (.int .i64 yd) ∧ w'.cell? ⟨g, gf + k * 3 + 2, none⟩ = some (.string yt)) ∧ g < w'.heap.size) := fun W hW => (HC1.out W hW).mono (fun e w' hh => ⟨hh.1, below_via hW hh.2, ⟨(hcell.out _ (below_via hW hh.2)).1, (hcell.out _ (below_via hW hh.2)).2.1, (hcell.out _ (below_via hW hh.2)).2.2.1⟩, (hcell.out _ (below_via hW hh.2)).2.2.2⟩)
                    have HD2 : Hid (∀ W, Below wl.heap.size wl W → Calls Try.prog 32 #[.slice iA I.length iC, .agg #[.int .i64 yf, .int .i64 yd, .string yt]] W fun e w' => e = .returned (.int .i64 (n2 : Int)) ∧ Hid (Below wl.heap.size wl w') ∧ (w'.cell? ⟨g, gf + k * 3, none⟩ = some (.int .i64 yf) ∧ w'.cell? ⟨g, gf + k * 3 + 1, none⟩ = some (.int .i64 yd) ∧ w'.cell? ⟨g, gf + k * 3 + 2, none⟩ = some (.string yt)) ∧ g < w'.heap.size) := fun W hW => (HC2.out W hW).mono (fun e w' hh => ⟨hh.1, below_via hW hh.2, ⟨(hcell.out _ (below_via hW hh.2)).1, (hcell.out _ (below_via hW hh.2)).2.1, (hcell.out _ (below_via hW hh.2)).2.2.1⟩, (hcell.out _ (below_via hW hh.2)).2.2.2⟩)
                    have HD3 : Hid (∀ W, Below wl.heap.size wl W → Calls Try.prog 32 #[.slice oA O.length oC, .agg #[.int .i64 yf, .int .i64 yd, .string yt]] W fun e w' => e = .returned (.int .i64 (n3 : Int)) ∧ Hid (Below wl.heap.size wl w') ∧ (w'.cell? ⟨g, gf + k * 3, none⟩ = some (.int .i64 yf) ∧ w'.cell? ⟨g, gf + k * 3 + 1, none⟩ = some (.int .i64 yd) ∧ w'.cell? ⟨g, gf + k * 3 + 2, none⟩ = some (.string yt)) ∧ g < w'.heap.size) := fun W hW => (HC3.out W hW).mono (fun e w' hh => ⟨hh.1, below_via hW hh.2, ⟨(hcell.out _ (below_via hW hh.2)).1, (hcell.out _ (below_via hW hh.2)).2.1, (hcell.out _ (below_via hW hh.2)).2.2.1⟩, (hcell.out _ (below_via hW hh.2)).2.2.2⟩)
                    obtain ⟨e0, e1, e2, eg⟩ := hcell.out _ HR.out
                    clear HC1 HC2 HC3 GL GI GO hcell
                    subst hlA
                    go_upto_region 30 with fail
                    go_cut [138] from 119 to 138 (fun u wx => u = .bool false ∧ Hid (Below wl.heap.size wl wx))
                    case first =>
                      go_region_held3 (fun W => W.cell? ⟨g, gf + k * 3, none⟩ = some (.int .i64 yf) ∧ W.cell? ⟨g, gf + k * 3 + 1, none⟩ = some (.int .i64 yd) ∧ W.cell? ⟨g, gf + k * 3 + 2, none⟩ = some (.string yt)) (go_keep) (first | (go_at_call 32; refine (HD1.out _ (by first | exact HR.out | exact HR.out.drew | exact HWB.out | exact HWC.out)).mono ?_; rintro e wA ⟨rfl, HWA, ⟨e0A, e1A, e2A⟩, egA⟩; clear HD1) | (go_at_call 32; refine (HD2.out _ (by first | exact HR.out | exact HR.out.drew | exact HWA.out | exact HWC.out)).mono ?_; rintro e wB ⟨rfl, HWB, ⟨e0B, e1B, e2B⟩, egB⟩; clear HD2) | (go_at_call 32; refine (HD3.out _ (by first | exact HR.out | exact HR.out.drew | exact HWA.out | exact HWB.out)).mono ?_; rintro e wC ⟨rfl, HWC, ⟨e0C, e1C, e2C⟩, egC⟩; clear HD3))
                      all_goals go_wp2_with fail
                      all_goals go_meet
                      all_goals first | exact ⟨by simp, HWA⟩ | exact ⟨by simp, HWB⟩ | exact ⟨by simp, HWC⟩
                    case rest =>
                    obtain ⟨rfl, HRN⟩ := hcut
                    go_wp2
                    go_roundw
                    case rel => exact ⟨k + 1, by go_num, by omega, HRN⟩
                    case measure => simp [RowKit.intOf]; omega
                  · have hkI : ¬ (k : Int) < (l.length : Int) := by omega
                    have KE := hideIt (KL.out.keep HR.out)
                    clear KL HR GL GI GO HCN
                    have KN := KE
                    clear KE
                    go_wp2
                    go_roundw
                    case rel => exact ⟨t + 1, _, _, _, _, _, _, _, _, by go_num, by omega, by omega, KN⟩
                    case measure => simp [RowKit.intOf]; omega
            · have q0 : (oa == 0) = false := by simpa using a0
              have q1 : (oa == 1) = false := by simpa using a1
              have q2 : (oa == 2) = false := by simpa using a2
              go_upto_region 24 with fail
              clear x0 x1 x2 x3 x4 xf xz X3 GW
              have KT := hideIt K3.out.up
              clear K3
              generalize W3 = WT at *
              obtain ⟨iA, iC, rfl⟩ := own_len KT.out.ri
              obtain ⟨oA, oC, rfl⟩ := own_len KT.out.ro
              have hki := KT.out.ki.len
              have hIt := KT.out.hI
              have hl100 : l.length ≤ 1000 := by omega
              have HAL := hideIt (all_is D (D + 1) D rm sent taken l row c f WT KT.out.na (by omega))
              go_wp2_with fail
              refine HAL.out.mono ?_
              rintro e wl ⟨lv, rfl, hlo, hb⟩
              dsimp only
              have KL := hideIt (KT.out.keep hb)
              have GL : Hid (SGot 3 32 pkE wl lv l) := own_sgot hlo (by omega)
              have GI : Hid (SGot 3 32 pkE wl (.slice iA I.length iC) I) := own_sgot KL.out.ri (by omega)
              have GO : Hid (SGot 3 32 pkE wl (.slice oA O.length oC) O) := own_sgot KL.out.ro (by omega)
              obtain ⟨lA, lC, rfl⟩ := own_len hlo
              clear hlo hb HAL KT
              have hsub : IntKind.i64.wrap ((I.length : Int) - (O.length : Int)) = (l.length : Int) := by rw [IntKind.wrap_i64]; omega
              have HCN := hideIt (fun x => KL.out.ki.cnt x)
              go_upto_region 28 with fail
              go_loopw [15] (fun u wr => ∃ k : Nat, u = .int .i64 k ∧ k ≤ l.length ∧ Hid (Below wl.heap.size wl wr)) (fun u _ => l.length - (RowKit.intOf u).toNat)
              case atStart => exact ⟨0, rfl, Nat.zero_le _, hideIt (Below.refl _ _)⟩
              case round =>
                obtain ⟨k, rfl, hk, HR⟩ := hrel
                by_cases hkl : k < l.length
                · have hkI : (k : Int) < (l.length : Int) := by omega
                  have hk0 : (0 : Int) ≤ (k : Int) := by omega
                  have hwk : IntKind.i64.wrap ((k : Int) + 1) = ((k + 1 : Nat) : Int) := by rw [IntKind.wrap_i64]; omega
                  obtain ⟨-, a', c', e, hcap, hr⟩ := GL.out
                  simp only [Value.slice.injEq, true_and] at e
                  obtain ⟨rfl, rfl⟩ := e
                  obtain ⟨g, gf, hlA, hgl, hcc⟩ := hr (by omega)
                  have hcell : Hid (∀ W, Below wl.heap.size wl W → W.cell? ⟨g, gf + k * 3, none⟩ = some (.int .i64 (l[k]).frm) ∧ W.cell? ⟨g, gf + k * 3 + 1, none⟩ = some (.int .i64 (l[k]).dst) ∧ W.cell? ⟨g, gf + k * 3 + 2, none⟩ = some (.string (l[k]).text) ∧ g < W.heap.size) := fun W hW => by
                    refine ⟨?_, ?_, ?_, Nat.lt_of_lt_of_le hgl hW.size⟩
                    · rw [hW.cell (p := ⟨g, gf + k * 3, none⟩) hgl, hcc (k * 3) (by omega)]
                      exact celC_get pkE_len l k hkl 0 (by omega)
                    · rw [hW.cell (p := ⟨g, gf + k * 3 + 1, none⟩) hgl, show gf + k * 3 + 1 = gf + (k * 3 + 1) by omega, hcc (k * 3 + 1) (by omega)]
                      exact celC_get pkE_len l k hkl 1 (by omega)
                    · rw [hW.cell (p := ⟨g, gf + k * 3 + 2, none⟩) hgl, show gf + k * 3 + 2 = gf + (k * 3 + 2) by omega, hcc (k * 3 + 2) (by omega)]
                      exact celC_get pkE_len l k hkl 2 (by omega)
                  have hcnt := HCN.out l[k]
                  have hb1 := cnt_le l[k] l
                  have hb2 := cnt_le l[k] I
                  have hb3 := cnt_le l[k] O
                  have HC1 := hideIt (fun W (hW : Below wl.heap.size wl W) => count_is _ l l[k] W (GL.out.keep hW))
                  have HC2 := hideIt (fun W (hW : Below wl.heap.size wl W) => count_is _ I l[k] W (GI.out.keep hW))
                  have HC3 := hideIt (fun W (hW : Below wl.heap.size wl W) => count_is _ O l[k] W (GO.out.keep hW))
                  clear hcc hr hcap
                  generalize l[k] = y at *
                  generalize cntP y l = n1 at *
                  generalize cntP y I = n2 at *
                  generalize cntP y O = n3 at *
                  obtain ⟨yf, yd, yt⟩ := y
                  unfold pkV at HC1 HC2 HC3
                  dsimp only at hcell HC1 HC2 HC3
                  have hcw : IntKind.i64.wrap ((n2 : Int) - (n3 : Int)) = (n1 : Int) := by rw [IntKind.wrap_i64]; omega
                  clear hcnt hb1 hb2 hb3
                  have HD1 : Hid (∀ W, Below wl.heap.size wl W → Calls Try.prog 32 #[.slice lA l.length lC, .agg #[.int .i64 yf, .int .i64 yd, .string yt]] W fun e w' => e = .returned (.int .i64 (n1 : Int)) ∧ Hid (Below wl.heap.size wl w') ∧ (w'.cell? ⟨g, gf + k * 3, none⟩ = some (.int .i64 yf) ∧ w'.cell? ⟨g, gf + k * 3 + 1, none⟩ = some (.int .i64 yd) ∧ w'.cell? ⟨g, gf + k * 3 + 2, none⟩ = some (.string yt)) ∧ g < w'.heap.size) := fun W hW => (HC1.out W hW).mono (fun e w' hh => ⟨hh.1, below_via hW hh.2, ⟨(hcell.out _ (below_via hW hh.2)).1, (hcell.out _ (below_via hW hh.2)).2.1, (hcell.out _ (below_via hW hh.2)).2.2.1⟩, (hcell.out _ (below_via hW hh.2)).2.2.2⟩)
                  have HD2 : Hid (∀ W, Below wl.heap.size wl W → Calls Try.prog 32 #[.slice iA I.length iC, .agg #[.int .i64 yf, .int .i64 yd, .string yt]] W fun e w' => e = .returned (.int .i64 (n2 : Int)) ∧ Hid (Below wl.heap.size wl w') ∧ (w'.cell? ⟨g, gf + k * 3, none⟩ = some (.int .i64 yf) ∧ w'.cell? ⟨g, gf + k * 3 + 1, none⟩ = some (.int .i64 yd) ∧ w'.cell? ⟨g, gf + k * 3 + 2, none⟩ = some (.string yt)) ∧ g < w'.heap.size) := fun W hW => (HC2.out W hW).mono (fun e w' hh => ⟨hh.1, below_via hW hh.2, ⟨(hcell.out _ (below_via hW hh.2)).1, (hcell.out _ (below_via hW hh.2)).2.1, (hcell.out _ (below_via hW hh.2)).2.2.1⟩, (hcell.out _ (below_via hW hh.2)).2.2.2⟩)
                  have HD3 : Hid (∀ W, Below wl.heap.size wl W → Calls Try.prog 32 #[.slice oA O.length oC, .agg #[.int .i64 yf, .int .i64 yd, .string yt]] W fun e w' => e = .returned (.int .i64 (n3 : Int)) ∧ Hid (Below wl.heap.size wl w') ∧ (w'.cell? ⟨g, gf + k * 3, none⟩ = some (.int .i64 yf) ∧ w'.cell? ⟨g, gf + k * 3 + 1, none⟩ = some (.int .i64 yd) ∧ w'.cell? ⟨g, gf + k * 3 + 2, none⟩ = some (.string yt)) ∧ g < w'.heap.size) := fun W hW => (HC3.out W hW).mono (fun e w' hh => ⟨hh.1, below_via hW hh.2, ⟨(hcell.out _ (below_via hW hh.2)).1, (hcell.out _ (below_via hW hh.2)).2.1, (hcell.out _ (below_via hW hh.2)).2.2.1⟩, (hcell.out _ (below_via hW hh.2)).2.2.2⟩)
                  obtain ⟨e0, e1, e2, eg⟩ := hcell.out _ HR.out
                  clear HC1 HC2 HC3 GL GI GO hcell
                  subst hlA
                  go_upto_region 30 with fail
                  go_cut [138] from 119 to 138 (fun u wx => u = .bool false ∧ Hid (Below wl.heap.size wl wx))
                  case first =>
                    go_region_held3 (fun W => W.cell? ⟨g, gf + k * 3, none⟩ = some (.int .i64 yf) ∧ W.cell? ⟨g, gf + k * 3 + 1, none⟩ = some (.int .i64 yd) ∧ W.cell? ⟨g, gf + k * 3 + 2, none⟩ = some (.string yt)) (go_keep) (first | (go_at_call 32; refine (HD1.out _ (by first | exact HR.out | exact HR.out.drew | exact HWB.out | exact HWC.out)).mono ?_; rintro e wA ⟨rfl, HWA, ⟨e0A, e1A, e2A⟩, egA⟩; clear HD1) | (go_at_call 32; refine (HD2.out _ (by first | exact HR.out | exact HR.out.drew | exact HWA.out | exact HWC.out)).mono ?_; rintro e wB ⟨rfl, HWB, ⟨e0B, e1B, e2B⟩, egB⟩; clear HD2) | (go_at_call 32; refine (HD3.out _ (by first | exact HR.out | exact HR.out.drew | exact HWA.out | exact HWB.out)).mono ?_; rintro e wC ⟨rfl, HWC, ⟨e0C, e1C, e2C⟩, egC⟩; clear HD3))
                    all_goals go_wp2_with fail
                    all_goals go_meet
                    all_goals first | exact ⟨by simp, HWA⟩ | exact ⟨by simp, HWB⟩ | exact ⟨by simp, HWC⟩
                  case rest =>
                  obtain ⟨rfl, HRN⟩ := hcut
                  go_wp2
                  go_roundw
                  case rel => exact ⟨k + 1, by go_num, by omega, HRN⟩
                  case measure => simp [RowKit.intOf]; omega
                · have hkI : ¬ (k : Int) < (l.length : Int) := by omega
                  have KE := hideIt (KL.out.keep HR.out)
                  clear KL HR GL GI GO HCN
                  have KN := KE
                  clear KE
                  go_wp2
                  go_roundw
                  case rel => exact ⟨t + 1, _, _, _, _, _, _, _, _, by go_num, by omega, by omega, KN⟩
                  case measure => simp [RowKit.intOf]; omega
      · have hltI : (t : Int) < (ops.length : Int) := by omega
        have hlt80 : ¬ (t : Int) < 80 := by omega
        have B9 := hideIt HK.out.bel
        clear HK HOP
        go_wp2
        go_ret
        exact ⟨rfl, B9.out⟩
    · have hltI : ¬ (t : Int) < (ops.length : Int) := by omega
      have B9 := hideIt HK.out.bel
      clear HK HOP
      go_wp2
      go_ret
      exact ⟨rfl, B9.out⟩
end Go.Proofs.Ytagfolckodpioaa.K2
