/- CoordFirm: walked. -/
import Derived.Test.YtilinemcmgjiiaaDoorCoA
import Derived.Deep.CutRange
import Derived.Deep.RegionHeld3
namespace Go.Proofs.YtilinemcmgjiiaaDoor
open Go.RowKit
set_option linter.all false
set_option maxHeartbeats 16000000 in
set_option maxRecDepth 100000 in
theorem firm_walk (g : Int) (v : Value) (ls : List StpX) (w : World) (hh : Forms w ∧ Stps w v ls) : Calls Tryd.prog 3 #[.int .i64 g, v] w fun e w' => e = .returned (.bool true) ∧ Below w.heap.size w w' := by
  obtain ⟨hF, hG⟩ := hh
  have HLI := hideIt (fun W (hW : Below w.heap.size w W) => live_is W (hF.keep hW))
  have HNE := hideIt (fun W => newC_is g W)
  have HFE := hideIt (fun W (hW : Below w.heap.size w W) => fewS_is v ls W (hG.keep hW))
  have HFO := hideIt (fun W (hW : Below w.heap.size w W) => hF.keep hW)
  have HGO := hideIt hG
  cases hw : wiB g 0 3
  · rw [hw] at HNE
    rw [if_neg (by decide)] at HNE
    clear hF hG hw
    go_enter Tryd.func3, Tryd.ntmps3
    go_wp2_with fail
    refine (HNE.out _).mono ?_
    rintro e w1 ⟨rfl, hb⟩
    dsimp only
    have B1 := hideIt (below_via hb (below1 w1 (.cells #[.int .i64 0, .slice none 0 0] 25)))
    clear hb
    go_wp2_with fail
    refine (HLI.out _ B1.out).mono ?_
    rintro e w2 ⟨rfl, hb⟩
    dsimp only
    have B2 := hideIt (below_via B1.out hb)
    clear hb
    go_wp2
    go_ret
    exact ⟨rfl, B2.out⟩
  · rw [hw] at HNE
    rw [if_pos rfl] at HNE
    clear hF hG hw
    go_enter Tryd.func3, Tryd.ntmps3
    go_wp2_with fail
    refine (HNE.out _).mono ?_
    rintro e w1 ⟨rfl, hb⟩
    dsimp only
    have hbA := below1 w1 (.cells #[.int .i64 g, .slice none 0 0] 25)
    have B1 := hideIt (below_via hb hbA)
    have F0 : Hid (CoF w w1.heap.size g 0 (w1.alloc (.cells #[.int .i64 g, .slice none 0 0] 25))) := ⟨⟨none, 0, [], ⟨heap_alloc_new w1 _, TrsOwn.nil _ _⟩, List.Pairwise.nil, SzL.nil⟩, B1.out⟩
    have hk : w.heap.size ≤ w1.heap.size := hb.size
    clear hb hbA HNE
    go_upto_region 4 with fail
    generalize w1.alloc (.cells #[.int .i64 g, .slice none 0 0] 25) = W1 at *
    generalize w1.heap.size = k at *
    go_wp2_with fail
    refine (HFE.out _ B1.out).mono ?_
    rintro e wq ⟨⟨v2, rfl, hv2⟩, e2⟩
    obtain rfl := e2.symm
    dsimp only
    have HG2 := hideIt (hv2 w HGO.out)
    have hl40 : (ls.take 40).length ≤ 40 := by rw [List.length_take]; omega
    clear hv2 HFE HGO
    generalize ls.take 40 = l at *
    obtain ⟨sa, sc, rfl, h8, hr⟩ := HG2.out.cells
    have HS := hideIt hr
    clear hr
    go_upto_region 6 with fail
    go_loopw [7] (fun x wr => ∃ i : Nat, x = .int .i64 i ∧ i ≤ l.length ∧ Hid (CoF w k g i wr)) (fun x _ => l.length - (intOf x).toNat)
    case atStart => exact ⟨0, rfl, Nat.zero_le _, F0.out⟩
    case round =>
      clear F0 B1
      obtain ⟨i, rfl, hi, HR⟩ := hrel
      by_cases hlt : i < l.length
      · have hltI : (i : Int) < (l.length : Int) := by omega
        have hi0 : (0 : Int) ≤ (i : Int) := by omega
        have hwi : IntKind.i64.wrap ((i : Int) + 1) = ((i + 1 : Nat) : Int) := by rw [IntKind.wrap_i64]; omega
        obtain ⟨a, c, ys, hco, hnm, hsz⟩ := HR.out.co
        have CO := hideIt hco
        have NM := hideIt hnm
        have BL := hideIt HR.out.bel
        obtain ⟨sb, so, hva, hgl, hq⟩ := HS.out i hlt
        subst hva
        obtain ⟨s, hse⟩ : ∃ s, s = l[i] := ⟨_, rfl⟩
        have SM := hideIt (HG2.out.sml _ (List.getElem_mem hlt))
        have SA := hideIt (HG2.out.at_ _ (List.getElem_mem hlt))
        rw [← hse] at SM SA hq
        have room := hsz.room (by omega) SM.out
        have HSTEP := hideIt (fun W (hW : Below wr.heap.size wr W) => step_is g a c ys s W (hco.own.keep hW).at_ (SA.out.keep (below_via BL.out hW)) (HFO.out _ (below_via BL.out hW)) (by have := room.1; rwa [List.length_map] at this) room.2.1)
        have SZ := hideIt hsz
        have HBad := hideIt (fun h => stp_bad (g := g) (l := ys.map TraX.v) (s := s) h)
        have HChg := hideIt (fun h => stp_chg (g := g) (l := ys.map TraX.v) (s := s) h)
        have HSz := hideIt (fun h => sz_step (g := g) (s := s) hsz SM.out h)
        unfold HeaBack at HSTEP
        have HLS : Hid ((Tryd.prog.info? 49).map (·.size) = some (stpE s).length) := by
          show _ = _
          rw [stpK]
          kernel_rfl
        have hrg : wr.rangeAt sb (so + i * 40) (stpE s) := fun j v hv => (BL.out.cell (p := ⟨sb, so + i * 40 + j, none⟩) hgl).trans (hq j v hv)
        have hsb : sb < wr.heap.size := Nat.lt_of_lt_of_le hgl BL.out.size
        obtain ⟨⟨q0, q1⟩, qf, qz⟩ := at2 hco.box
        clear hq hgl hco hnm hsz room HR
        generalize stpE s = LS at *
        generalize stpR g (ys.map TraX.v) s = R at *
        obtain ⟨g2, d, mk, er⟩ := R
        dsimp only at *
        go_upto_region 8 with fail
        go_cut [8, 9, 10] from 26 to 122 (fun x8 x9 x10 wx => ∃ k8 ma mc, x8 = .pointer (some ⟨k8, 0, none⟩) ∧ x9 = .slice ma mk.length mc ∧ x10 = .int .i64 er ∧ Hid (RS w wr k8 g2 d ma mc mk wx))
        case first =>
          refine wp_region_held_drew (S := fun W => W.cell? ⟨k, 0, none⟩ = some (.int .i64 g) ∧ W.cell? ⟨k, 1, none⟩ = some (.slice a ys.length c) ∧ W.rangeAt sb (so + i * 40) LS) (by kernel_rfl) ⟨by simpa using q0, by simpa using q1, by simpa using hrg⟩ (fun hHeld => ?_)
          have BD := hideIt ((Below.refl wr.heap.size wr).drew)
          generalize wr.drew = WD at *
          refine wpAnyH_take (i := 0) (oi := ⟨some 33, _, _, _, _, _⟩) (v := ?_) rfl (by kernel_rfl) (by kernel_rfl) (by kernel_rfl) (fun _ _ _ h => h) (Or.inl ⟨by rfl, ?_⟩) (by assumption) ?_
          rotate_left
          · intro w5 hSw
            (try dsimp only at hSw)
            go_simp
            (try with_reducible rfl)
          try simp only [Act.put, List.setIfInBounds_toArray, List.set_cons_zero, List.set_cons_succ]
          refine wpAnyH_take (i := 1) (oi := ⟨some 34, _, _, _, _, _⟩) (v := ?_) rfl (by kernel_rfl) (by kernel_rfl) (by kernel_rfl) (fun _ _ _ h => h) (Or.inl ⟨by rfl, ?_⟩) (by assumption) ?_
          rotate_left
          · intro w5 hSw
            (try dsimp only at hSw)
            go_simp
            (try with_reducible rfl)
          try simp only [Act.put, List.setIfInBounds_toArray, List.set_cons_zero, List.set_cons_succ]
          refine wpAnyH_take (i := 2) (oi := ⟨some 35, _, _, _, _, _⟩) (v := ?_) rfl (by kernel_rfl) (by kernel_rfl) (by kernel_rfl) (fun _ _ _ h => h) (Or.inl ⟨by rfl, ?_⟩) (by assumption) ?_
          rotate_left
          · intro w5 hSw
            (try dsimp only at hSw)
            go_simp
            (try with_reducible rfl)
          try simp only [Act.put, List.setIfInBounds_toArray, List.set_cons_zero, List.set_cons_succ]
          refine wpAnyH_take (i := 3) (oi := ⟨some 36, _, _, _, _, _⟩) (v := ?_) rfl (by kernel_rfl) (by kernel_rfl) (by kernel_rfl) (fun _ _ _ h => h) (Or.inl ⟨by rfl, ?_⟩) (by assumption) ?_
          rotate_left
          · intro w5 hSw
            (try dsimp only at hSw)
            go_simp
            (try with_reducible rfl)
          try simp only [Act.put, List.setIfInBounds_toArray, List.set_cons_zero, List.set_cons_succ]
          refine wpAnyH_take (i := 4) (oi := ⟨some 37, _, _, _, _, _⟩) (v := .agg LS.toArray) rfl (by kernel_rfl) (by kernel_rfl) (by kernel_rfl) (fun _ _ _ h => h) (yieldsIf_load_mid (by rfl) _ _ rfl sb (so + i * 40) rfl LS _ (fun W h => h.2.2) Tryd.underlying49 rfl HLS.out) (by assumption) ?_
          try simp only [Act.put, List.setIfInBounds_toArray, List.set_cons_zero, List.set_cons_succ]
          refine wpAnyH_ready (rs := [5, 10]) (by kernel_rfl) (by simp) ?_
          refine AllReadyH.cons (o := ⟨some 38, _, _, _, _, _⟩) rfl (fun Kx hK => ?_) (AllReadyH.cons (o := ⟨some 8, _, _, _, _, _⟩) rfl (fun Kx hK => ?_) AllReadyH.nil)
          · go_simp
            go_at_call 10
            refine (HSTEP.out _ BD.out).mono ?_
            rintro e w1 ⟨a2, c2, ys2, ma, mc, rfl, hy2, ho2, hm2, hb⟩
            have B1 := hideIt (below_via BD.out hb)
            have HY2 := hideIt hy2
            have HO2 := hideIt ho2
            have HM2 := hideIt hm2
            have hS1 : w1.cell? ⟨k, 0, none⟩ = some (.int .i64 g) ∧ w1.cell? ⟨k, 1, none⟩ = some (.slice a ys.length c) ∧ w1.rangeAt sb (so + i * 40) LS := ⟨(hb.cell (p := ⟨k, 0, none⟩) (World.block_lt_of_cell? _ _ hHeld.1)).trans hHeld.1, (hb.cell (p := ⟨k, 1, none⟩) (World.block_lt_of_cell? _ _ hHeld.2.1)).trans hHeld.2.1, fun j v hv => (hb.cell (p := ⟨sb, so + i * 40 + j, none⟩) (World.block_lt_of_cell? _ _ (hHeld.2.2 j v hv))).trans (hHeld.2.2 j v hv)⟩
            refine hK.out _ _ hS1 (fun hHeld => ?_)
            clear hK Kx hy2 ho2 hm2
            try simp only [Act.put, List.setIfInBounds_toArray, List.set_cons_zero, List.set_cons_succ]
            refine wpAnyH_take (i := 6) (oi := ⟨some 32, _, _, _, _, _⟩) (v := ?_) rfl (by kernel_rfl) (by kernel_rfl) (by kernel_rfl) (fun _ _ _ h => h) (Or.inl ⟨by rfl, ?_⟩) (by assumption) ?_
            rotate_left
            · intro w5 hSw
              (try dsimp only at hSw)
              go_simp
              (try with_reducible rfl)
            try simp only [Act.put, List.setIfInBounds_toArray, List.set_cons_zero, List.set_cons_succ]
            refine wpAnyH_take (i := 7) (oi := ⟨some 39, _, _, _, _, _⟩) (v := ?_) rfl (by kernel_rfl) (by kernel_rfl) (by kernel_rfl) (fun _ _ _ h => h) (Or.inl ⟨by rfl, ?_⟩) (by assumption) ?_
            rotate_left
            · intro w5 hSw
              (try dsimp only at hSw)
              go_simp
              (try with_reducible rfl)
            try simp only [Act.put, List.setIfInBounds_toArray, List.set_cons_zero, List.set_cons_succ]
            refine wpAnyH_take (i := 8) (oi := ⟨some 40, _, _, _, _, _⟩) (v := ?_) rfl (by kernel_rfl) (by kernel_rfl) (by kernel_rfl) (fun _ _ _ h => h) (Or.inl ⟨by rfl, ?_⟩) (by assumption) ?_
            rotate_left
            · intro w5 hSw
              (try dsimp only at hSw)
              go_simp
              (try with_reducible rfl)
            try simp only [Act.put, List.setIfInBounds_toArray, List.set_cons_zero, List.set_cons_succ]
            refine wpAnyH_take (i := 9) (oi := ⟨some 41, _, _, _, _, _⟩) (v := ?_) rfl (by kernel_rfl) (by kernel_rfl) (by kernel_rfl) (fun _ _ _ h => h) (Or.inl ⟨by rfl, ?_⟩) (by assumption) ?_
            rotate_left
            · intro w5 hSw
              (try dsimp only at hSw)
              go_simp
              (try with_reducible rfl)
            try simp only [Act.put, List.setIfInBounds_toArray, List.set_cons_zero, List.set_cons_succ]
            refine wpAnyH_ready (rs := [10]) (by kernel_rfl) (by simp) ?_
            refine (AllReadyH.cons (o := ⟨some 8, _, _, _, _, _⟩) rfl (fun Kx hK => ?_) AllReadyH.nil)
            go_simp
            refine hK.out _ _ ⟨by rw [World.cell?_alloc_some _ _ _ (by rw [hS1.1]; rfl)]; exact hS1.1, by rw [World.cell?_alloc_some _ _ _ (by rw [hS1.2.1]; rfl)]; exact hS1.2.1, World.rangeAt_alloc hS1.2.2 _⟩ (fun hHeld => ?_)
            clear hK Kx
            try simp only [Act.put, List.setIfInBounds_toArray, List.set_cons_zero, List.set_cons_succ]
            have RR := hideIt (rs_new (g := g2) (w := w) (wr := wr) (Nat.le_trans BL.out.size BD.out.size) HY2.out HO2.out HM2.out B1.out)
            refine wpAnyH_ready (rs := [11]) (by kernel_rfl) (by simp) ?_
            refine (AllReadyH.cons (o := ⟨none, _, _, _, _, _⟩) rfl (fun Kx hK => ?_) AllReadyH.nil)
            go_simp
            refine hK.out _ _ ⟨by rw [World.cell?_alloc_some _ _ _ (by rw [hS1.1]; rfl)]; exact hS1.1, by rw [World.cell?_alloc_some _ _ _ (by rw [hS1.2.1]; rfl)]; exact hS1.2.1, World.rangeAt_alloc hS1.2.2 _⟩ (fun hHeld => ?_)
            clear hK Kx
            try simp only [Act.put, List.setIfInBounds_toArray, List.set_cons_zero, List.set_cons_succ]
            refine wpAnyH_take (i := 12) (oi := ⟨some 9, _, _, _, _, _⟩) (v := ?_) rfl (by kernel_rfl) (by kernel_rfl) (by kernel_rfl) (fun _ _ _ h => h) (Or.inl ⟨by rfl, ?_⟩) (by assumption) ?_
            rotate_left
            · intro w5 hSw
              (try dsimp only at hSw)
              go_simp
              (try with_reducible rfl)
            try simp only [Act.put, List.setIfInBounds_toArray, List.set_cons_zero, List.set_cons_succ]
            refine wpAnyH_take (i := 13) (oi := ⟨some 10, _, _, _, _, _⟩) (v := ?_) rfl (by kernel_rfl) (by kernel_rfl) (by kernel_rfl) (fun _ _ _ h => h) (Or.inl ⟨by rfl, ?_⟩) (by assumption) ?_
            rotate_left
            · intro w5 hSw
              (try dsimp only at hSw)
              go_simp
              (try with_reducible rfl)
            try simp only [Act.put, List.setIfInBounds_toArray, List.set_cons_zero, List.set_cons_succ]
            refine wpAnyH_done (by kernel_rfl) ?_ _
            go_wp2_with fail
            go_meet
            case rel => exact ⟨_, _, _, rfl, rfl, rfl, RR.out⟩
          · go_simp
            have hS2 : (WD.alloc (.cells #[.int .i64 0, .slice none 0 0] 25)).cell? ⟨k, 0, none⟩ = some (.int .i64 g) ∧ (WD.alloc (.cells #[.int .i64 0, .slice none 0 0] 25)).cell? ⟨k, 1, none⟩ = some (.slice a ys.length c) ∧ (WD.alloc (.cells #[.int .i64 0, .slice none 0 0] 25)).rangeAt sb (so + i * 40) LS := ⟨by rw [World.cell?_alloc_some _ _ _ (by rw [hHeld.1]; rfl)]; exact hHeld.1, by rw [World.cell?_alloc_some _ _ _ (by rw [hHeld.2.1]; rfl)]; exact hHeld.2.1, World.rangeAt_alloc hHeld.2.2 _⟩
            have hkD : k < WD.heap.size := World.block_lt_of_cell? _ _ hHeld.1
            have hsD : sb < WD.heap.size := Nat.lt_of_lt_of_le hsb BD.out.size
            have XN := hideIt (heap_alloc_new WD (.cells #[.int .i64 0, .slice none 0 0] 25))
            have BA := hideIt (below_via BD.out (below1 WD (.cells #[.int .i64 0, .slice none 0 0] 25)))
            refine hK.out _ _ hS2 (fun hHeld => ?_)
            clear hK Kx
            try simp only [Act.put, List.setIfInBounds_toArray, List.set_cons_zero, List.set_cons_succ]
            generalize WD.alloc (.cells #[.int .i64 0, .slice none 0 0] 25) = WA at *
            have hw8 : wr.heap.size ≤ WD.heap.size := BD.out.size
            generalize WD.heap.size = k8 at *
            refine wpAnyH_ready (rs := [5]) (by kernel_rfl) (by simp) ?_
            refine (AllReadyH.cons (o := ⟨some 38, _, _, _, _, _⟩) rfl (fun Kx hK => ?_) AllReadyH.nil)
            go_simp
            go_at_call 10
            refine (HSTEP.out _ BA.out).mono ?_
            rintro e w1 ⟨a2, c2, ys2, ma, mc, rfl, hy2, ho2, hm2, hb⟩
            have hS1 : w1.cell? ⟨k, 0, none⟩ = some (.int .i64 g) ∧ w1.cell? ⟨k, 1, none⟩ = some (.slice a ys.length c) ∧ w1.rangeAt sb (so + i * 40) LS := ⟨(hb.cell (p := ⟨k, 0, none⟩) (World.block_lt_of_cell? _ _ hS2.1)).trans hS2.1, (hb.cell (p := ⟨k, 1, none⟩) (World.block_lt_of_cell? _ _ hS2.2.1)).trans hS2.2.1, fun j v hv => (hb.cell (p := ⟨sb, so + i * 40 + j, none⟩) (World.block_lt_of_cell? _ _ (hS2.2.2 j v hv))).trans (hS2.2.2 j v hv)⟩
            have RR := hideIt (rs_set (g := g2) (w := w) (wr := wr) (blkK XN.out hb) hw8 (Nat.le_trans BL.out.size BA.out.size) hy2 ho2 hm2 (below_via BA.out hb))
            obtain ⟨⟨n0, n1⟩, nf, nz⟩ := at2 (blkK XN.out hb)
            refine hK.out _ _ hS1 (fun hHeld => ?_)
            clear hK Kx hy2 ho2 hm2 hb
            try simp only [Act.put, List.setIfInBounds_toArray, List.set_cons_zero, List.set_cons_succ]
            refine wpAnyH_take (i := 6) (oi := ⟨some 32, _, _, _, _, _⟩) (v := ?_) rfl (by kernel_rfl) (by kernel_rfl) (by kernel_rfl) (fun _ _ _ h => h) (Or.inl ⟨by rfl, ?_⟩) (by assumption) ?_
            rotate_left
            · intro w5 hSw
              (try dsimp only at hSw)
              go_simp
              (try with_reducible rfl)
            try simp only [Act.put, List.setIfInBounds_toArray, List.set_cons_zero, List.set_cons_succ]
            refine wpAnyH_take (i := 7) (oi := ⟨some 39, _, _, _, _, _⟩) (v := ?_) rfl (by kernel_rfl) (by kernel_rfl) (by kernel_rfl) (fun _ _ _ h => h) (Or.inl ⟨by rfl, ?_⟩) (by assumption) ?_
            rotate_left
            · intro w5 hSw
              (try dsimp only at hSw)
              go_simp
              (try with_reducible rfl)
            try simp only [Act.put, List.setIfInBounds_toArray, List.set_cons_zero, List.set_cons_succ]
            refine wpAnyH_take (i := 8) (oi := ⟨some 40, _, _, _, _, _⟩) (v := ?_) rfl (by kernel_rfl) (by kernel_rfl) (by kernel_rfl) (fun _ _ _ h => h) (Or.inl ⟨by rfl, ?_⟩) (by assumption) ?_
            rotate_left
            · intro w5 hSw
              (try dsimp only at hSw)
              go_simp
              (try with_reducible rfl)
            try simp only [Act.put, List.setIfInBounds_toArray, List.set_cons_zero, List.set_cons_succ]
            refine wpAnyH_take (i := 9) (oi := ⟨some 41, _, _, _, _, _⟩) (v := ?_) rfl (by kernel_rfl) (by kernel_rfl) (by kernel_rfl) (fun _ _ _ h => h) (Or.inl ⟨by rfl, ?_⟩) (by assumption) ?_
            rotate_left
            · intro w5 hSw
              (try dsimp only at hSw)
              go_simp
              (try with_reducible rfl)
            try simp only [Act.put, List.setIfInBounds_toArray, List.set_cons_zero, List.set_cons_succ]
            refine wpAnyH_ready (rs := [11]) (by kernel_rfl) (by simp) ?_
            refine (AllReadyH.cons (o := ⟨none, _, _, _, _, _⟩) rfl (fun Kx hK => ?_) AllReadyH.nil)
            go_simp
            refine hK.out _ _ ⟨by rw [World.cell?_setCell_far _ _ _ _ (by show k8 ≠ k; omega), World.cell?_setCell_far _ _ _ _ (by show k8 ≠ k; omega)]; exact hS1.1, by rw [World.cell?_setCell_far _ _ _ _ (by show k8 ≠ k; omega), World.cell?_setCell_far _ _ _ _ (by show k8 ≠ k; omega)]; exact hS1.2.1, fun j v hv => by rw [World.cell?_setCell_far _ _ _ _ (by show k8 ≠ sb; omega), World.cell?_setCell_far _ _ _ _ (by show k8 ≠ sb; omega)]; exact hS1.2.2 j v hv⟩ (fun hHeld => ?_)
            clear hK Kx
            try simp only [Act.put, List.setIfInBounds_toArray, List.set_cons_zero, List.set_cons_succ]
            refine wpAnyH_take (i := 12) (oi := ⟨some 9, _, _, _, _, _⟩) (v := ?_) rfl (by kernel_rfl) (by kernel_rfl) (by kernel_rfl) (fun _ _ _ h => h) (Or.inl ⟨by rfl, ?_⟩) (by assumption) ?_
            rotate_left
            · intro w5 hSw
              (try dsimp only at hSw)
              go_simp
              (try with_reducible rfl)
            try simp only [Act.put, List.setIfInBounds_toArray, List.set_cons_zero, List.set_cons_succ]
            refine wpAnyH_take (i := 13) (oi := ⟨some 10, _, _, _, _, _⟩) (v := ?_) rfl (by kernel_rfl) (by kernel_rfl) (by kernel_rfl) (fun _ _ _ h => h) (Or.inl ⟨by rfl, ?_⟩) (by assumption) ?_
            rotate_left
            · intro w5 hSw
              (try dsimp only at hSw)
              go_simp
              (try with_reducible rfl)
            try simp only [Act.put, List.setIfInBounds_toArray, List.set_cons_zero, List.set_cons_succ]
            refine wpAnyH_done (by kernel_rfl) ?_ _
            go_wp2_with fail
            go_meet
            case rel => exact ⟨_, _, _, rfl, rfl, rfl, RR.out⟩
        case rest =>
          obtain ⟨k8, ma, mc, rfl, rfl, rfl, HRS⟩ := hcut
          clear q0 q1 qf qz hrg hsb HSTEP HLS
          by_cases he : er = 0
          · subst he
            have HCh := hideIt (HChg.out rfl).2
            have hg2 := (HChg.out rfl).1
            have SZ2 := hideIt (HSz.out rfl)
            subst hg2
            clear HChg HBad HSz
            obtain ⟨a2, c2, zs, hco2, hzs⟩ := HRS.out.co
            have COX := hideIt (CO.out.keep HRS.out.bel)
            have CO2 := hideIt hco2
            have HZS := hideIt hzs
            have BX := hideIt (below_via BL.out HRS.out.bel)
            have hlt8 := HRS.out.lt
            have hi41 : i + 1 ≤ 40 := by omega
            have hys : ys.length ≤ 40 := by have := SZ.out.1; rw [List.length_map] at this; omega
            have hkr : k < wr.heap.size := (Array.getElem?_eq_some_iff.1 CO.out.box).1
            have HFirm := hideIt (fun t ht h1 => firm_step (t := t) NM.out HCh.out ht h1)
            have NM2 := hideIt (chg_nm NM.out HCh.out)
            clear hco2 hzs HRS CO BL
            go_upto_region 11 with fail
            go_loopw [11] (fun x wy => ∃ t : Nat, x = .int .i64 t ∧ t ≤ ys.length ∧ Hid (Below wc.heap.size wc wy)) (fun x _ => ys.length - (intOf x).toNat)
            case atStart => exact ⟨0, rfl, Nat.zero_le _, Below.refl _ _⟩
            case round =>
              obtain ⟨t, rfl, ht, HBy⟩ := hrel
              obtain ⟨⟨q0, q1⟩, qf, qz⟩ := at2 (COX.out.keep HBy.out).box
              by_cases hlt2 : t < ys.length
              · have hltJ : (t : Int) < (ys.length : Int) := by omega
                have ht0 : (0 : Int) ≤ (t : Int) := by omega
                have hwt : IntKind.i64.wrap ((t : Int) + 1) = ((t + 1 : Nat) : Int) := by rw [IntKind.wrap_i64]; omega
                have HC : Hid (∀ W, Below wc.heap.size wc W → ∃ yb yo, a = some ⟨yb, yo, none⟩ ∧ W.cell? ⟨k, 0, none⟩ = some (.int .i64 g2) ∧ W.cell? ⟨k, 1, none⟩ = some (.slice a ys.length c) ∧ W.cell? ⟨k8, 0, none⟩ = some (.int .i64 g2) ∧ W.cell? ⟨k8, 1, none⟩ = some (.slice a2 zs.length c2) ∧ W.cell? ⟨yb, yo + t * 21, none⟩ = some (.int .i64 ys[t].c) ∧ W.cell? ⟨yb, yo + t * 21 + 1, none⟩ = some (.int .i64 ys[t].q) ∧ W.cell? ⟨yb, yo + t * 21 + 14, none⟩ = some (.int .i64 ys[t].st) ∧ k < W.heap.size ∧ k8 < W.heap.size ∧ yb < W.heap.size) := fun W hW => by
                  obtain ⟨⟨x0, x1⟩, -, xz⟩ := at2 (COX.out.keep hW).box
                  obtain ⟨⟨z0, z1⟩, -, zz⟩ := at2 (CO2.out.keep hW).box
                  obtain ⟨a', c', e, -, hr⟩ := (COX.out.keep hW).own.at_.cells
                  simp only [Value.slice.injEq, true_and] at e
                  obtain ⟨rfl, rfl⟩ := e
                  obtain ⟨yb, yo, e1, hl, hc⟩ := hr t hlt2
                  exact ⟨yb, yo, e1, x0, x1, z0, z1, hc 0 _ rfl, hc 1 _ rfl, hc 14 _ rfl, xz, zz, hl⟩
                obtain ⟨yb, yo, hae, -⟩ := HC.out wc (Below.refl _ _)
                subst hae
                have HC2 : Hid (∀ W, Below wc.heap.size wc W → W.cell? ⟨k, 0, none⟩ = some (.int .i64 g2) ∧ W.cell? ⟨k, 1, none⟩ = some (.slice (some ⟨yb, yo, none⟩) ys.length c) ∧ W.cell? ⟨k8, 0, none⟩ = some (.int .i64 g2) ∧ W.cell? ⟨k8, 1, none⟩ = some (.slice a2 zs.length c2) ∧ W.cell? ⟨yb, yo + t * 21, none⟩ = some (.int .i64 ys[t].c) ∧ W.cell? ⟨yb, yo + t * 21 + 1, none⟩ = some (.int .i64 ys[t].q) ∧ W.cell? ⟨yb, yo + t * 21 + 14, none⟩ = some (.int .i64 ys[t].st) ∧ k < W.heap.size ∧ k8 < W.heap.size ∧ yb < W.heap.size) := fun W hW => by
                  obtain ⟨yb', yo', e, rest⟩ := HC.out W hW
                  simp only [Option.some.injEq, Addr.mk.injEq, and_true] at e
                  obtain ⟨rfl, rfl⟩ := e
                  exact rest
                clear HC
                have HC := HC2
                clear HC2
                have HFD := hideIt (fun W (hW : Below wc.heap.size wc W) => findL_is g2 a2 c2 zs ys[t].c ys[t].q W (CO2.out.keep hW).own.at_)
                rw [stL_v, HZS.out] at HFD
                have HF2 := hideIt (fun (h1 : ys[t].v.st ≠ 1) => HFirm.out ys[t].v (List.mem_map_of_mem (List.getElem_mem hlt2)) h1)
                have e1 : ys[t].v.c = ys[t].c := rfl
                have e2 : ys[t].v.q = ys[t].q := rfl
                have e3 : ys[t].v.st = ys[t].st := rfl
                rw [e1, e2, e3] at HF2
                clear e1 e2 e3
                generalize ys[t].c = y1 at *
                generalize ys[t].q = y2 at *
                generalize ys[t].st = y3 at *
                generalize stV d y1 y2 = now at *
                go_upto_region 13 with fail
                clear q0 q1 qf qz
                refine wp_region_held_drew (S := fun W => Below wc.heap.size wc W) (by kernel_rfl) HBy.out.drew (fun hHeld => ?_)
                generalize wr.drew = WD at *
                refine wpAnyH_take (i := 0) (oi := ⟨some 51, _, _, _, _, _⟩) (v := ?_) rfl (by kernel_rfl) (by kernel_rfl) (by kernel_rfl) (fun _ _ _ h => h) (Or.inl ⟨by rfl, ?_⟩) (by assumption) ?_
                rotate_left
                · intro w5 hSw
                  obtain ⟨x0, x1, x2, x3, x4, x5, x6, x7, x8, x9⟩ := HC.out w5 hSw
                  go_simp
                  (try with_reducible rfl)
                try simp only [Act.put, List.setIfInBounds_toArray, List.set_cons_zero, List.set_cons_succ]
                refine wpAnyH_take (i := 1) (oi := ⟨some 52, _, _, _, _, _⟩) (v := ?_) rfl (by kernel_rfl) (by kernel_rfl) (by kernel_rfl) (fun _ _ _ h => h) (Or.inl ⟨by rfl, ?_⟩) (by assumption) ?_
                rotate_left
                · intro w5 hSw
                  obtain ⟨x0, x1, x2, x3, x4, x5, x6, x7, x8, x9⟩ := HC.out w5 hSw
                  go_simp
                  (try with_reducible rfl)
                try simp only [Act.put, List.setIfInBounds_toArray, List.set_cons_zero, List.set_cons_succ]
                refine wpAnyH_take (i := 2) (oi := ⟨some 53, _, _, _, _, _⟩) (v := ?_) rfl (by kernel_rfl) (by kernel_rfl) (by kernel_rfl) (fun _ _ _ h => h) (Or.inl ⟨by rfl, ?_⟩) (by assumption) ?_
                rotate_left
                · intro w5 hSw
                  obtain ⟨x0, x1, x2, x3, x4, x5, x6, x7, x8, x9⟩ := HC.out w5 hSw
                  go_simp
                  (try with_reducible rfl)
                try simp only [Act.put, List.setIfInBounds_toArray, List.set_cons_zero, List.set_cons_succ]
                refine wpAnyH_take (i := 3) (oi := ⟨some 54, _, _, _, _, _⟩) (v := ?_) rfl (by kernel_rfl) (by kernel_rfl) (by kernel_rfl) (fun _ _ _ h => h) (Or.inl ⟨by rfl, ?_⟩) (by assumption) ?_
                rotate_left
                · intro w5 hSw
                  obtain ⟨x0, x1, x2, x3, x4, x5, x6, x7, x8, x9⟩ := HC.out w5 hSw
                  go_simp
                  (try with_reducible rfl)
                try simp only [Act.put, List.setIfInBounds_toArray, List.set_cons_zero, List.set_cons_succ]
                refine wpAnyH_take (i := 4) (oi := ⟨some 55, _, _, _, _, _⟩) (v := ?_) rfl (by kernel_rfl) (by kernel_rfl) (by kernel_rfl) (fun _ _ _ h => h) (Or.inl ⟨by rfl, ?_⟩) (by assumption) ?_
                rotate_left
                · intro w5 hSw
                  obtain ⟨x0, x1, x2, x3, x4, x5, x6, x7, x8, x9⟩ := HC.out w5 hSw
                  go_simp
                  (try with_reducible rfl)
                try simp only [Act.put, List.setIfInBounds_toArray, List.set_cons_zero, List.set_cons_succ]
                refine wpAnyH_take (i := 5) (oi := ⟨some 56, _, _, _, _, _⟩) (v := ?_) rfl (by kernel_rfl) (by kernel_rfl) (by kernel_rfl) (fun _ _ _ h => h) (Or.inl ⟨by rfl, ?_⟩) (by assumption) ?_
                rotate_left
                · intro w5 hSw
                  obtain ⟨x0, x1, x2, x3, x4, x5, x6, x7, x8, x9⟩ := HC.out w5 hSw
                  go_simp
                  (try with_reducible rfl)
                try simp only [Act.put, List.setIfInBounds_toArray, List.set_cons_zero, List.set_cons_succ]
                refine wpAnyH_take (i := 6) (oi := ⟨some 57, _, _, _, _, _⟩) (v := ?_) rfl (by kernel_rfl) (by kernel_rfl) (by kernel_rfl) (fun _ _ _ h => h) (Or.inl ⟨by rfl, ?_⟩) (by assumption) ?_
                rotate_left
                · intro w5 hSw
                  obtain ⟨x0, x1, x2, x3, x4, x5, x6, x7, x8, x9⟩ := HC.out w5 hSw
                  go_simp
                  (try with_reducible rfl)
                try simp only [Act.put, List.setIfInBounds_toArray, List.set_cons_zero, List.set_cons_succ]
                refine wpAnyH_ready (rs := [7]) (by kernel_rfl) (by simp) ?_
                refine (AllReadyH.cons (o := ⟨some 58, _, _, _, _, _⟩) rfl (fun Kx hK => ?_) AllReadyH.nil)
                go_simp
                go_at_call 11
                refine (HFD.out _ hHeld).mono ?_
                rintro e w5 ⟨rfl, hb⟩
                have hB5 := below_via hHeld hb
                refine hK.out _ _ hB5 (fun hHeld => ?_)
                clear hK Kx hb
                try simp only [Act.put, List.setIfInBounds_toArray, List.set_cons_zero, List.set_cons_succ]
                refine wpAnyH_take (i := 8) (oi := ⟨some 12, _, _, _, _, _⟩) (v := ?_) rfl (by kernel_rfl) (by kernel_rfl) (by kernel_rfl) (fun _ _ _ h => h) (Or.inl ⟨by rfl, ?_⟩) (by assumption) ?_
                rotate_left
                · intro w5 hSw
                  obtain ⟨x0, x1, x2, x3, x4, x5, x6, x7, x8, x9⟩ := HC.out w5 hSw
                  go_simp
                  (try with_reducible rfl)
                try simp only [Act.put, List.setIfInBounds_toArray, List.set_cons_zero, List.set_cons_succ]
                refine wpAnyH_done (by kernel_rfl) ?_ _
                obtain ⟨x0, x1, x2, x3, x4, x5, x6, x7, x8, x9⟩ := HC.out w5 hB5
                have HB5 := hideIt hB5
                (repeat clear hHeld)
                clear HC HFD hB5 HBy
                by_cases hs1 : y3 = 1
                · subst hs1
                  clear HF2
                  go_wp2
                  go_roundw
                  case rel => exact ⟨t + 1, by go_num, by omega, HB5.out⟩
                  case measure => simp [intOf]; omega
                · have HN := hideIt (HF2.out hs1)
                  have s1 : (y3 == 1) = false := by simpa using hs1
                  have s2 : (y3 != 1) = true := by simpa using hs1
                  by_cases hn0 : now = 0
                  · subst hn0
                    clear HF2 HN hs1
                    go_wp2
                    go_roundw
                    case rel => exact ⟨t + 1, by go_num, by omega, HB5.out⟩
                    case measure => simp [intOf]; omega
                  · obtain rfl : now = y3 := HN.out.resolve_left hn0
                    have s3 : (now == 0) = false := by simpa using hn0
                    have s4 : (now != 0) = true := by simpa using hn0
                    clear HF2 HN hs1 hn0
                    go_wp2
                    go_roundw
                    case rel => exact ⟨t + 1, by go_num, by omega, HB5.out⟩
                    case measure => simp [intOf]; omega
              · have hltJ : ¬ (t : Int) < (ys.length : Int) := by omega
                clear HFirm
                have HOU := hideIt (fun W (hW : Below wc.heap.size wc W) => out_is g2 a2 c2 zs W (CO2.out.keep hW).own.at_ (by rw [HZS.out]; exact ((SZ2.out.room (s := s) hi41 SM.out).2.2)))
                rw [HZS.out] at HOU
                unfold OutBack at HOU
                obtain ⟨⟨z0, z1⟩, zf, zz⟩ := at2 (CO2.out.keep HBy.out).box
                go_wp2_with fail
                refine (HOU.out _ HBy.out).mono ?_
                rintro e w5 ⟨oa, oc, os, rfl, hos, hor, ho8, hb⟩
                dsimp only
                have HB5 := hideIt (below_via HBy.out hb)
                have OR := hideIt (own_sgot (bytes := 240) hor ho8)
                have HOS := hideIt hos
                have HOut := hideIt (fun o ho => out_mem (l := d) (o := o) ho)
                have hon : os.length ≤ 200 := by
                  have h1 := congrArg List.length hos
                  rw [List.length_map] at h1
                  have h2 := outL_len d
                  have h3 := cnt_five (fun t ht => (SZ2.out.2 t ht).1)
                  have h4 := SZ2.out.1
                  omega
                clear hos hor ho8 hb HOU HBy z0 z1 zf zz q0 q1 qf qz
                go_upto_region 18 with fail
                go_loopw [14] (fun x wy => ∃ t : Nat, x = .int .i64 t ∧ t ≤ os.length ∧ Hid (Below w5.heap.size w5 wy)) (fun x _ => os.length - (intOf x).toNat)
                case atStart => exact ⟨0, rfl, Nat.zero_le _, Below.refl _ _⟩
                case round =>
                  obtain ⟨t2, rfl, ht2, HBz⟩ := hrel
                  by_cases hlt3 : t2 < os.length
                  · have hltK : (t2 : Int) < (os.length : Int) := by omega
                    have ht20 : (0 : Int) ≤ (t2 : Int) := by omega
                    have hwt2 : IntKind.i64.wrap ((t2 : Int) + 1) = ((t2 + 1 : Nat) : Int) := by rw [IntKind.wrap_i64]; omega
                    obtain ⟨-, oa', oc', e, -, hr⟩ := OR.out
                    simp only [Value.slice.injEq, true_and] at e
                    obtain ⟨rfl, rfl⟩ := e
                    obtain ⟨ob, oo, rfl, hol, hoc⟩ := hr (by omega)
                    have ocl : ∀ j v, (mesE os[t2])[j]? = some v → w5.cell? ⟨ob, oo + t2 * 24 + j, none⟩ = some v := fun j v hv => by
                      have hj : j < 24 := by
                        have := (List.getElem?_eq_some_iff.1 hv).1
                        rwa [mesK] at this
                      rw [Nat.add_assoc, hoc (t2 * 24 + j) (by omega), celC_get mesK os t2 hlt3 j hj, hv]
                    have HC : Hid (∀ W, Below w5.heap.size w5 W → W.cell? ⟨k8, 0, none⟩ = some (.int .i64 g2) ∧ W.cell? ⟨k8, 1, none⟩ = some (.slice a2 zs.length c2) ∧ W.cell? ⟨ob, oo + t2 * 24, none⟩ = some (.int .i64 os[t2].kind) ∧ W.cell? ⟨ob, oo + t2 * 24 + 3, none⟩ = some (.int .i64 os[t2].c) ∧ W.cell? ⟨ob, oo + t2 * 24 + 4, none⟩ = some (.int .i64 os[t2].q) ∧ W.cell? ⟨ob, oo + t2 * 24 + 18, none⟩ = some (.bool os[t2].yes) ∧ k8 < W.heap.size ∧ ob < W.heap.size) := fun W hW => by
                      obtain ⟨⟨z0, z1⟩, -, zz⟩ := at2 (CO2.out.keep (below_via HB5.out hW)).box
                      exact ⟨z0, z1, (hW.cell (p := ⟨ob, _, none⟩) hol).trans (ocl 0 _ rfl), (hW.cell (p := ⟨ob, _, none⟩) hol).trans (ocl 3 _ rfl), (hW.cell (p := ⟨ob, _, none⟩) hol).trans (ocl 4 _ rfl), (hW.cell (p := ⟨ob, _, none⟩) hol).trans (ocl 18 _ rfl), zz, Nat.lt_of_lt_of_le hol hW.size⟩
                    have HFD := hideIt (fun W (hW : Below w5.heap.size w5 W) => findL_is g2 a2 c2 zs os[t2].c os[t2].q W (CO2.out.keep (below_via HB5.out hW)).own.at_)
                    rw [stL_v, HZS.out] at HFD
                    have HM := hideIt (HOut.out (mkey os[t2]) (by rw [← HOS.out]; exact List.mem_map_of_mem (List.getElem_mem hlt3)))
                    have hm0 : (stV d os[t2].c os[t2].q = 1 ∧ os[t2].kind = 2) ∨ (stV d os[t2].c os[t2].q ≠ 1 ∧ os[t2].kind = 4 ∧ os[t2].yes = (stV d os[t2].c os[t2].q == 2)) := by
                      obtain ⟨t, ht, e1, e2, h⟩ := HM.out
                      have e3 : stV d os[t2].c os[t2].q = t.st := st_of NM2.out ht e1.symm e2.symm
                      rw [e3]
                      exact h
                    have HM0 := hideIt hm0
                    clear hm0 HM ocl hr hoc
                    generalize os[t2].c = o1 at *
                    generalize os[t2].q = o2 at *
                    generalize os[t2].kind = ok at *
                    generalize os[t2].yes = oy at *
                    generalize stV d o1 o2 = now at *
                    obtain ⟨-, -, -, -, -, -, -, hobr⟩ := HC.out wr HBz.out
                    go_upto_region 20 with fail
                    clear hobr
                    refine wp_region_held_drew (S := fun W => Below w5.heap.size w5 W) (by kernel_rfl) HBz.out.drew (fun hHeld => ?_)
                    generalize wr.drew = WD at *
                    refine wpAnyH_take (i := 0) (oi := ⟨some 88, _, _, _, _, _⟩) (v := ?_) rfl (by kernel_rfl) (by kernel_rfl) (by kernel_rfl) (fun _ _ _ h => h) (Or.inl ⟨by rfl, ?_⟩) (by assumption) ?_
                    rotate_left
                    · intro w5 hSw
                      obtain ⟨x0, x1, x2, x3, x4, x5, x6, x7⟩ := HC.out w5 hSw
                      go_simp
                      (try with_reducible rfl)
                    try simp only [Act.put, List.setIfInBounds_toArray, List.set_cons_zero, List.set_cons_succ]
                    refine wpAnyH_take (i := 1) (oi := ⟨some 89, _, _, _, _, _⟩) (v := ?_) rfl (by kernel_rfl) (by kernel_rfl) (by kernel_rfl) (fun _ _ _ h => h) (Or.inl ⟨by rfl, ?_⟩) (by assumption) ?_
                    rotate_left
                    · intro w5 hSw
                      obtain ⟨x0, x1, x2, x3, x4, x5, x6, x7⟩ := HC.out w5 hSw
                      go_simp
                      (try with_reducible rfl)
                    try simp only [Act.put, List.setIfInBounds_toArray, List.set_cons_zero, List.set_cons_succ]
                    refine wpAnyH_take (i := 2) (oi := ⟨some 90, _, _, _, _, _⟩) (v := ?_) rfl (by kernel_rfl) (by kernel_rfl) (by kernel_rfl) (fun _ _ _ h => h) (Or.inl ⟨by rfl, ?_⟩) (by assumption) ?_
                    rotate_left
                    · intro w5 hSw
                      obtain ⟨x0, x1, x2, x3, x4, x5, x6, x7⟩ := HC.out w5 hSw
                      go_simp
                      (try with_reducible rfl)
                    try simp only [Act.put, List.setIfInBounds_toArray, List.set_cons_zero, List.set_cons_succ]
                    refine wpAnyH_take (i := 3) (oi := ⟨some 91, _, _, _, _, _⟩) (v := ?_) rfl (by kernel_rfl) (by kernel_rfl) (by kernel_rfl) (fun _ _ _ h => h) (Or.inl ⟨by rfl, ?_⟩) (by assumption) ?_
                    rotate_left
                    · intro w5 hSw
                      obtain ⟨x0, x1, x2, x3, x4, x5, x6, x7⟩ := HC.out w5 hSw
                      go_simp
                      (try with_reducible rfl)
                    try simp only [Act.put, List.setIfInBounds_toArray, List.set_cons_zero, List.set_cons_succ]
                    refine wpAnyH_take (i := 4) (oi := ⟨some 92, _, _, _, _, _⟩) (v := ?_) rfl (by kernel_rfl) (by kernel_rfl) (by kernel_rfl) (fun _ _ _ h => h) (Or.inl ⟨by rfl, ?_⟩) (by assumption) ?_
                    rotate_left
                    · intro w5 hSw
                      obtain ⟨x0, x1, x2, x3, x4, x5, x6, x7⟩ := HC.out w5 hSw
                      go_simp
                      (try with_reducible rfl)
                    try simp only [Act.put, List.setIfInBounds_toArray, List.set_cons_zero, List.set_cons_succ]
                    refine wpAnyH_take (i := 5) (oi := ⟨some 93, _, _, _, _, _⟩) (v := ?_) rfl (by kernel_rfl) (by kernel_rfl) (by kernel_rfl) (fun _ _ _ h => h) (Or.inl ⟨by rfl, ?_⟩) (by assumption) ?_
                    rotate_left
                    · intro w5 hSw
                      obtain ⟨x0, x1, x2, x3, x4, x5, x6, x7⟩ := HC.out w5 hSw
                      go_simp
                      (try with_reducible rfl)
                    try simp only [Act.put, List.setIfInBounds_toArray, List.set_cons_zero, List.set_cons_succ]
                    refine wpAnyH_ready (rs := [6]) (by kernel_rfl) (by simp) ?_
                    refine (AllReadyH.cons (o := ⟨some 94, _, _, _, _, _⟩) rfl (fun Kx hK => ?_) AllReadyH.nil)
                    go_simp
                    go_at_call 11
                    refine (HFD.out _ hHeld).mono ?_
                    rintro e w6 ⟨rfl, hb⟩
                    have hB6 := below_via hHeld hb
                    refine hK.out _ _ hB6 (fun hHeld => ?_)
                    clear hK Kx hb
                    try simp only [Act.put, List.setIfInBounds_toArray, List.set_cons_zero, List.set_cons_succ]
                    refine wpAnyH_take (i := 7) (oi := ⟨some 15, _, _, _, _, _⟩) (v := ?_) rfl (by kernel_rfl) (by kernel_rfl) (by kernel_rfl) (fun _ _ _ h => h) (Or.inl ⟨by rfl, ?_⟩) (by assumption) ?_
                    rotate_left
                    · intro w5 hSw
                      obtain ⟨x0, x1, x2, x3, x4, x5, x6, x7⟩ := HC.out w5 hSw
                      go_simp
                      (try with_reducible rfl)
                    try simp only [Act.put, List.setIfInBounds_toArray, List.set_cons_zero, List.set_cons_succ]
                    refine wpAnyH_done (by kernel_rfl) ?_ _
                    obtain ⟨x0, x1, x2, x3, x4, x5, x6, x7⟩ := HC.out w6 hB6
                    have HB6 := hideIt hB6
                    (repeat clear hHeld)
                    clear HC HFD hB6 HBz
                    by_cases hn1 : now = 1
                    · have h2 : ok = 2 := by rcases HM0.out with h | h; exact h.2; exact absurd hn1 h.1
                      subst hn1 h2
                      clear HM0
                      go_wp2
                      go_roundw
                      case rel => exact ⟨t2 + 1, by go_num, by omega, HB6.out⟩
                      case measure => simp [intOf]; omega
                    · have h2 : ok = 4 ∧ oy = (now == 2) := by rcases HM0.out with h | h; exact absurd h.1 hn1; exact h.2
                      obtain ⟨rfl, rfl⟩ := h2
                      have s1 : (now == 1) = false := by simpa using hn1
                      clear HM0 hn1
                      cases hn2 : (now == 2)
                      · rw [hn2] at x5
                        go_wp2
                        go_roundw
                        case rel => exact ⟨t2 + 1, by go_num, by omega, HB6.out⟩
                        case measure => simp [intOf]; omega
                      · rw [hn2] at x5
                        go_wp2
                        go_roundw
                        case rel => exact ⟨t2 + 1, by go_num, by omega, HB6.out⟩
                        case measure => simp [intOf]; omega
                  · have hltK : ¬ (t2 : Int) < (os.length : Int) := by omega
                    have HBF := hideIt (below_via HB5.out HBz.out)
                    have CX := hideIt (COX.out.keep HBF.out)
                    have CY := hideIt (CO2.out.keep HBF.out)
                    have FN : Hid (CoF w k g2 (i + 1) ((wr.setCell ⟨k, 0, none⟩ (.int .i64 g2)).setCell ⟨k, 1, none⟩ (.slice a2 zs.length c2))) := ⟨⟨a2, c2, zs, CX.out.put CY.out, by rw [HZS.out]; exact NM2.out, by rw [HZS.out]; exact SZ2.out⟩, belowSet _ (belowSet _ (below_via BX.out HBF.out) hk) hk⟩
                    obtain ⟨⟨q0, q1⟩, qf, qz⟩ := at2 CX.out.box
                    obtain ⟨⟨z0, z1⟩, zf, zz⟩ := at2 CY.out.box
                    clear HBF CX CY OR HOS HOut CO2 COX NM NM2 SZ SZ2 HZS BX HCh
                    go_wp2
                    go_roundw
                    case rel => exact ⟨i + 1, by go_num, by omega, FN.out⟩
                    case measure => simp [intOf]; omega
          · have he2 : (er == 0) = false := by simpa using he
            have he3 : (er != 0) = true := by simpa using he
            have FN : Hid (CoF w k g (i + 1) wc) := ⟨⟨a, c, ys, CO.out.keep HRS.out.bel, NM.out, SZ.out.more⟩, below_via BL.out HRS.out.bel⟩
            clear HChg HBad HSz CO NM SZ HRS BL
            go_wp2
            go_roundw
            case rel => exact ⟨i + 1, by go_num, by omega, FN.out⟩
            case measure => simp [intOf]; omega
      · have hltI : ¬ (i : Int) < (l.length : Int) := by omega
        have B2 := hideIt HR.out.bel
        clear HR
        go_wp2_with fail
        refine (HLI.out _ B2.out).mono ?_
        rintro e w2 ⟨rfl, hb⟩
        dsimp only
        have B3 := hideIt (below_via B2.out hb)
        clear hb
        go_wp2
        go_ret
        exact ⟨rfl, B3.out⟩
end Go.Proofs.YtilinemcmgjiiaaDoor
