/- CoordMarks: walked. -/
import Derived.Test.YtilinemcmgjiiaaDoorCoA
import Derived.Deep.CutRange
import Derived.Deep.RegionHeld3
namespace Go.Proofs.YtilinemcmgjiiaaDoor
open Go.RowKit
set_option linter.all false
theorem neqMark (a b : Int) (w : World) : (binOp .neq 57 (.agg #[.int .i64 a, .int .i64 b, .bool true]) (.agg #[.int .i64 a, .int .i64 b, .bool true])).run Tryd.prog w = .ok (.bool false) w := by
  simp [go_sem]
set_option maxHeartbeats 16000000 in
set_option maxRecDepth 100000 in
theorem marks_walk (g : Int) (v : Value) (ls : List StpX) (w : World) (hh : Forms w ∧ Stps w v ls) : Calls Tryd.prog 4 #[.int .i64 g, v] w fun e w' => e = .returned (.bool true) ∧ Below w.heap.size w w' := by
  obtain ⟨hF, hG⟩ := hh
  have HLI := hideIt (fun W (hW : Below w.heap.size w W) => live_is W (hF.keep hW))
  have HNE := hideIt (fun W => newC_is g W)
  have HFE := hideIt (fun W (hW : Below w.heap.size w W) => fewS_is v ls W (hG.keep hW))
  have HFO := hideIt (fun W (hW : Below w.heap.size w W) => hF.keep hW)
  have HGO := hideIt hG
  cases hw : wiB g 0 3
  · rw [hw] at HNE
    rw [if_neg (by decide)] at HNE
    clear hF hG hw
    go_enter Tryd.func4, Tryd.ntmps4
    go_wp2_with fail
    refine (HNE.out _).mono ?_
    rintro e w1 ⟨rfl, hb⟩
    dsimp only
    have B1 := hideIt (below_via hb (below1 w1 (.cells #[.int .i64 0, .slice none 0 0] 25)))
    clear hb
    go_wp2_with fail
    refine (HLI.out _ B1.out).mono ?_
    rintro e w2 ⟨rfl, hb⟩
    dsimp only
    have B2 := hideIt (below_via B1.out hb)
    clear hb
    go_wp2
    go_ret
    exact ⟨rfl, B2.out⟩
  · rw [hw] at HNE
    rw [if_pos rfl] at HNE
    clear hF hG hw
    go_enter Tryd.func4, Tryd.ntmps4
    go_wp2_with fail
    refine (HNE.out _).mono ?_
    rintro e w1 ⟨rfl, hb⟩
    dsimp only
    have hbA := below1 w1 (.cells #[.int .i64 g, .slice none 0 0] 25)
    have B1 := hideIt (below_via hb hbA)
    have F0 : Hid (CoF w w1.heap.size g 0 (w1.alloc (.cells #[.int .i64 g, .slice none 0 0] 25))) := ⟨⟨none, 0, [], ⟨heap_alloc_new w1 _, TrsOwn.nil _ _⟩, List.Pairwise.nil, SzL.nil⟩, B1.out⟩
    have hk : w.heap.size ≤ w1.heap.size := hb.size
    clear hb hbA HNE
    go_upto_region 4 with fail
    generalize w1.alloc (.cells #[.int .i64 g, .slice none 0 0] 25) = W1 at *
    generalize w1.heap.size = k at *
    go_wp2_with fail
    refine (HFE.out _ B1.out).mono ?_
    rintro e wq ⟨⟨v2, rfl, hv2⟩, e2⟩
    obtain rfl := e2.symm
    dsimp only
    have HG2 := hideIt (hv2 w HGO.out)
    have hl40 : (ls.take 40).length ≤ 40 := by rw [List.length_take]; omega
    clear hv2 HFE HGO
    generalize ls.take 40 = l at *
    obtain ⟨sa, sc, rfl, h8, hr⟩ := HG2.out.cells
    have HS := hideIt hr
    clear hr
    go_upto_region 6 with fail
    go_loopw [7] (fun x wr => ∃ i : Nat, x = .int .i64 i ∧ i ≤ l.length ∧ Hid (CoF w k g i wr)) (fun x _ => l.length - (intOf x).toNat)
    case atStart => exact ⟨0, rfl, Nat.zero_le _, F0.out⟩
    case round =>
      clear F0 B1
      obtain ⟨i, rfl, hi, HR⟩ := hrel
      by_cases hlt : i < l.length
      · have hltI : (i : Int) < (l.length : Int) := by omega
        have hi0 : (0 : Int) ≤ (i : Int) := by omega
        have hwi : IntKind.i64.wrap ((i : Int) + 1) = ((i + 1 : Nat) : Int) := by rw [IntKind.wrap_i64]; omega
        obtain ⟨a, c, ys, hco, hnm, hsz⟩ := HR.out.co
        have CO := hideIt hco
        have NM := hideIt hnm
        have BL := hideIt HR.out.bel
        obtain ⟨sb, so, hva, hgl, hq⟩ := HS.out i hlt
        subst hva
        obtain ⟨s, hse⟩ : ∃ s, s = l[i] := ⟨_, rfl⟩
        have SM := hideIt (HG2.out.sml _ (List.getElem_mem hlt))
        have SA := hideIt (HG2.out.at_ _ (List.getElem_mem hlt))
        rw [← hse] at SM SA hq
        have room := hsz.room (by omega) SM.out
        have HSTEP := hideIt (fun W (hW : Below wr.heap.size wr W) => step_is g a c ys s W (hco.own.keep hW).at_ (SA.out.keep (below_via BL.out hW)) (HFO.out _ (below_via BL.out hW)) (by have := room.1; rwa [List.length_map] at this) room.2.1)
        have SZ := hideIt hsz
        have HBad := hideIt (fun h => stp_bad (g := g) (l := ys.map TraX.v) (s := s) h)
        have HChg := hideIt (fun h => stp_chg (g := g) (l := ys.map TraX.v) (s := s) h)
        have HSz := hideIt (fun h => sz_step (g := g) (s := s) hsz SM.out h)
        unfold HeaBack at HSTEP
        have HLS : Hid ((Tryd.prog.info? 49).map (·.size) = some (stpE s).length) := by
          show _ = _
          rw [stpK]
          kernel_rfl
        have hrg : wr.rangeAt sb (so + i * 40) (stpE s) := fun j v hv => (BL.out.cell (p := ⟨sb, so + i * 40 + j, none⟩) hgl).trans (hq j v hv)
        have hsb : sb < wr.heap.size := Nat.lt_of_lt_of_le hgl BL.out.size
        obtain ⟨⟨q0, q1⟩, qf, qz⟩ := at2 hco.box
        clear hq hgl hco hnm hsz room HR
        generalize stpE s = LS at *
        generalize stpR g (ys.map TraX.v) s = R at *
        obtain ⟨g2, d, mk, er⟩ := R
        dsimp only at *
        go_upto_region 8 with fail
        go_cut [8, 9, 10] from 23 to 91 (fun x8 x9 x10 wx => ∃ k8 ma mc, x8 = .pointer (some ⟨k8, 0, none⟩) ∧ x9 = .slice ma mk.length mc ∧ x10 = .int .i64 er ∧ Hid (RS w wr k8 g2 d ma mc mk wx))
        case first =>
          refine wp_region_held_drew (S := fun W => W.cell? ⟨k, 0, none⟩ = some (.int .i64 g) ∧ W.cell? ⟨k, 1, none⟩ = some (.slice a ys.length c) ∧ W.rangeAt sb (so + i * 40) LS) (by kernel_rfl) ⟨by simpa using q0, by simpa using q1, by simpa using hrg⟩ (fun hHeld => ?_)
          have BD := hideIt ((Below.refl wr.heap.size wr).drew)
          generalize wr.drew = WD at *
          refine wpAnyH_take (i := 0) (oi := ⟨some 30, _, _, _, _, _⟩) (v := ?_) rfl (by kernel_rfl) (by kernel_rfl) (by kernel_rfl) (fun _ _ _ h => h) (Or.inl ⟨by rfl, ?_⟩) (by assumption) ?_
          rotate_left
          · intro w5 hSw
            (try dsimp only at hSw)
            go_simp
            (try with_reducible rfl)
          try simp only [Act.put, List.setIfInBounds_toArray, List.set_cons_zero, List.set_cons_succ]
          refine wpAnyH_take (i := 1) (oi := ⟨some 31, _, _, _, _, _⟩) (v := ?_) rfl (by kernel_rfl) (by kernel_rfl) (by kernel_rfl) (fun _ _ _ h => h) (Or.inl ⟨by rfl, ?_⟩) (by assumption) ?_
          rotate_left
          · intro w5 hSw
            (try dsimp only at hSw)
            go_simp
            (try with_reducible rfl)
          try simp only [Act.put, List.setIfInBounds_toArray, List.set_cons_zero, List.set_cons_succ]
          refine wpAnyH_take (i := 2) (oi := ⟨some 32, _, _, _, _, _⟩) (v := ?_) rfl (by kernel_rfl) (by kernel_rfl) (by kernel_rfl) (fun _ _ _ h => h) (Or.inl ⟨by rfl, ?_⟩) (by assumption) ?_
          rotate_left
          · intro w5 hSw
            (try dsimp only at hSw)
            go_simp
            (try with_reducible rfl)
          try simp only [Act.put, List.setIfInBounds_toArray, List.set_cons_zero, List.set_cons_succ]
          refine wpAnyH_take (i := 3) (oi := ⟨some 33, _, _, _, _, _⟩) (v := ?_) rfl (by kernel_rfl) (by kernel_rfl) (by kernel_rfl) (fun _ _ _ h => h) (Or.inl ⟨by rfl, ?_⟩) (by assumption) ?_
          rotate_left
          · intro w5 hSw
            (try dsimp only at hSw)
            go_simp
            (try with_reducible rfl)
          try simp only [Act.put, List.setIfInBounds_toArray, List.set_cons_zero, List.set_cons_succ]
          refine wpAnyH_take (i := 4) (oi := ⟨some 34, _, _, _, _, _⟩) (v := .agg LS.toArray) rfl (by kernel_rfl) (by kernel_rfl) (by kernel_rfl) (fun _ _ _ h => h) (yieldsIf_load_mid (by rfl) _ _ rfl sb (so + i * 40) rfl LS _ (fun W h => h.2.2) Tryd.underlying49 rfl HLS.out) (by assumption) ?_
          try simp only [Act.put, List.setIfInBounds_toArray, List.set_cons_zero, List.set_cons_succ]
          refine wpAnyH_ready (rs := [5, 10]) (by kernel_rfl) (by simp) ?_
          refine AllReadyH.cons (o := ⟨some 35, _, _, _, _, _⟩) rfl (fun Kx hK => ?_) (AllReadyH.cons (o := ⟨some 8, _, _, _, _, _⟩) rfl (fun Kx hK => ?_) AllReadyH.nil)
          · go_simp
            go_at_call 10
            refine (HSTEP.out _ BD.out).mono ?_
            rintro e w1 ⟨a2, c2, ys2, ma, mc, rfl, hy2, ho2, hm2, hb⟩
            have B1 := hideIt (below_via BD.out hb)
            have HY2 := hideIt hy2
            have HO2 := hideIt ho2
            have HM2 := hideIt hm2
            have hS1 : w1.cell? ⟨k, 0, none⟩ = some (.int .i64 g) ∧ w1.cell? ⟨k, 1, none⟩ = some (.slice a ys.length c) ∧ w1.rangeAt sb (so + i * 40) LS := ⟨(hb.cell (p := ⟨k, 0, none⟩) (World.block_lt_of_cell? _ _ hHeld.1)).trans hHeld.1, (hb.cell (p := ⟨k, 1, none⟩) (World.block_lt_of_cell? _ _ hHeld.2.1)).trans hHeld.2.1, fun j v hv => (hb.cell (p := ⟨sb, so + i * 40 + j, none⟩) (World.block_lt_of_cell? _ _ (hHeld.2.2 j v hv))).trans (hHeld.2.2 j v hv)⟩
            refine hK.out _ _ hS1 (fun hHeld => ?_)
            clear hK Kx hy2 ho2 hm2
            try simp only [Act.put, List.setIfInBounds_toArray, List.set_cons_zero, List.set_cons_succ]
            refine wpAnyH_take (i := 6) (oi := ⟨some 29, _, _, _, _, _⟩) (v := ?_) rfl (by kernel_rfl) (by kernel_rfl) (by kernel_rfl) (fun _ _ _ h => h) (Or.inl ⟨by rfl, ?_⟩) (by assumption) ?_
            rotate_left
            · intro w5 hSw
              (try dsimp only at hSw)
              go_simp
              (try with_reducible rfl)
            try simp only [Act.put, List.setIfInBounds_toArray, List.set_cons_zero, List.set_cons_succ]
            refine wpAnyH_take (i := 7) (oi := ⟨some 36, _, _, _, _, _⟩) (v := ?_) rfl (by kernel_rfl) (by kernel_rfl) (by kernel_rfl) (fun _ _ _ h => h) (Or.inl ⟨by rfl, ?_⟩) (by assumption) ?_
            rotate_left
            · intro w5 hSw
              (try dsimp only at hSw)
              go_simp
              (try with_reducible rfl)
            try simp only [Act.put, List.setIfInBounds_toArray, List.set_cons_zero, List.set_cons_succ]
            refine wpAnyH_take (i := 8) (oi := ⟨some 37, _, _, _, _, _⟩) (v := ?_) rfl (by kernel_rfl) (by kernel_rfl) (by kernel_rfl) (fun _ _ _ h => h) (Or.inl ⟨by rfl, ?_⟩) (by assumption) ?_
            rotate_left
            · intro w5 hSw
              (try dsimp only at hSw)
              go_simp
              (try with_reducible rfl)
            try simp only [Act.put, List.setIfInBounds_toArray, List.set_cons_zero, List.set_cons_succ]
            refine wpAnyH_take (i := 9) (oi := ⟨some 38, _, _, _, _, _⟩) (v := ?_) rfl (by kernel_rfl) (by kernel_rfl) (by kernel_rfl) (fun _ _ _ h => h) (Or.inl ⟨by rfl, ?_⟩) (by assumption) ?_
            rotate_left
            · intro w5 hSw
              (try dsimp only at hSw)
              go_simp
              (try with_reducible rfl)
            try simp only [Act.put, List.setIfInBounds_toArray, List.set_cons_zero, List.set_cons_succ]
            refine wpAnyH_ready (rs := [10]) (by kernel_rfl) (by simp) ?_
            refine (AllReadyH.cons (o := ⟨some 8, _, _, _, _, _⟩) rfl (fun Kx hK => ?_) AllReadyH.nil)
            go_simp
            refine hK.out _ _ ⟨by rw [World.cell?_alloc_some _ _ _ (by rw [hS1.1]; rfl)]; exact hS1.1, by rw [World.cell?_alloc_some _ _ _ (by rw [hS1.2.1]; rfl)]; exact hS1.2.1, World.rangeAt_alloc hS1.2.2 _⟩ (fun hHeld => ?_)
            clear hK Kx
            try simp only [Act.put, List.setIfInBounds_toArray, List.set_cons_zero, List.set_cons_succ]
            have RR := hideIt (rs_new (g := g2) (w := w) (wr := wr) (Nat.le_trans BL.out.size BD.out.size) HY2.out HO2.out HM2.out B1.out)
            refine wpAnyH_ready (rs := [11]) (by kernel_rfl) (by simp) ?_
            refine (AllReadyH.cons (o := ⟨none, _, _, _, _, _⟩) rfl (fun Kx hK => ?_) AllReadyH.nil)
            go_simp
            refine hK.out _ _ ⟨by rw [World.cell?_alloc_some _ _ _ (by rw [hS1.1]; rfl)]; exact hS1.1, by rw [World.cell?_alloc_some _ _ _ (by rw [hS1.2.1]; rfl)]; exact hS1.2.1, World.rangeAt_alloc hS1.2.2 _⟩ (fun hHeld => ?_)
            clear hK Kx
            try simp only [Act.put, List.setIfInBounds_toArray, List.set_cons_zero, List.set_cons_succ]
            refine wpAnyH_take (i := 12) (oi := ⟨some 9, _, _, _, _, _⟩) (v := ?_) rfl (by kernel_rfl) (by kernel_rfl) (by kernel_rfl) (fun _ _ _ h => h) (Or.inl ⟨by rfl, ?_⟩) (by assumption) ?_
            rotate_left
            · intro w5 hSw
              (try dsimp only at hSw)
              go_simp
              (try with_reducible rfl)
            try simp only [Act.put, List.setIfInBounds_toArray, List.set_cons_zero, List.set_cons_succ]
            refine wpAnyH_take (i := 13) (oi := ⟨some 10, _, _, _, _, _⟩) (v := ?_) rfl (by kernel_rfl) (by kernel_rfl) (by kernel_rfl) (fun _ _ _ h => h) (Or.inl ⟨by rfl, ?_⟩) (by assumption) ?_
            rotate_left
            · intro w5 hSw
              (try dsimp only at hSw)
              go_simp
              (try with_reducible rfl)
            try simp only [Act.put, List.setIfInBounds_toArray, List.set_cons_zero, List.set_cons_succ]
            refine wpAnyH_done (by kernel_rfl) ?_ _
            go_wp2_with fail
            go_meet
            case rel => exact ⟨_, _, _, rfl, rfl, rfl, RR.out⟩
          · go_simp
            have hS2 : (WD.alloc (.cells #[.int .i64 0, .slice none 0 0] 25)).cell? ⟨k, 0, none⟩ = some (.int .i64 g) ∧ (WD.alloc (.cells #[.int .i64 0, .slice none 0 0] 25)).cell? ⟨k, 1, none⟩ = some (.slice a ys.length c) ∧ (WD.alloc (.cells #[.int .i64 0, .slice none 0 0] 25)).rangeAt sb (so + i * 40) LS := ⟨by rw [World.cell?_alloc_some _ _ _ (by rw [hHeld.1]; rfl)]; exact hHeld.1, by rw [World.cell?_alloc_some _ _ _ (by rw [hHeld.2.1]; rfl)]; exact hHeld.2.1, World.rangeAt_alloc hHeld.2.2 _⟩
            have hkD : k < WD.heap.size := World.block_lt_of_cell? _ _ hHeld.1
            have hsD : sb < WD.heap.size := Nat.lt_of_lt_of_le hsb BD.out.size
            have XN := hideIt (heap_alloc_new WD (.cells #[.int .i64 0, .slice none 0 0] 25))
            have BA := hideIt (below_via BD.out (below1 WD (.cells #[.int .i64 0, .slice none 0 0] 25)))
            refine hK.out _ _ hS2 (fun hHeld => ?_)
            clear hK Kx
            try simp only [Act.put, List.setIfInBounds_toArray, List.set_cons_zero, List.set_cons_succ]
            generalize WD.alloc (.cells #[.int .i64 0, .slice none 0 0] 25) = WA at *
            have hw8 : wr.heap.size ≤ WD.heap.size := BD.out.size
            generalize WD.heap.size = k8 at *
            refine wpAnyH_ready (rs := [5]) (by kernel_rfl) (by simp) ?_
            refine (AllReadyH.cons (o := ⟨some 35, _, _, _, _, _⟩) rfl (fun Kx hK => ?_) AllReadyH.nil)
            go_simp
            go_at_call 10
            refine (HSTEP.out _ BA.out).mono ?_
            rintro e w1 ⟨a2, c2, ys2, ma, mc, rfl, hy2, ho2, hm2, hb⟩
            have hS1 : w1.cell? ⟨k, 0, none⟩ = some (.int .i64 g) ∧ w1.cell? ⟨k, 1, none⟩ = some (.slice a ys.length c) ∧ w1.rangeAt sb (so + i * 40) LS := ⟨(hb.cell (p := ⟨k, 0, none⟩) (World.block_lt_of_cell? _ _ hS2.1)).trans hS2.1, (hb.cell (p := ⟨k, 1, none⟩) (World.block_lt_of_cell? _ _ hS2.2.1)).trans hS2.2.1, fun j v hv => (hb.cell (p := ⟨sb, so + i * 40 + j, none⟩) (World.block_lt_of_cell? _ _ (hS2.2.2 j v hv))).trans (hS2.2.2 j v hv)⟩
            have RR := hideIt (rs_set (g := g2) (w := w) (wr := wr) (blkK XN.out hb) hw8 (Nat.le_trans BL.out.size BA.out.size) hy2 ho2 hm2 (below_via BA.out hb))
            obtain ⟨⟨n0, n1⟩, nf, nz⟩ := at2 (blkK XN.out hb)
            refine hK.out _ _ hS1 (fun hHeld => ?_)
            clear hK Kx hy2 ho2 hm2 hb
            try simp only [Act.put, List.setIfInBounds_toArray, List.set_cons_zero, List.set_cons_succ]
            refine wpAnyH_take (i := 6) (oi := ⟨some 29, _, _, _, _, _⟩) (v := ?_) rfl (by kernel_rfl) (by kernel_rfl) (by kernel_rfl) (fun _ _ _ h => h) (Or.inl ⟨by rfl, ?_⟩) (by assumption) ?_
            rotate_left
            · intro w5 hSw
              (try dsimp only at hSw)
              go_simp
              (try with_reducible rfl)
            try simp only [Act.put, List.setIfInBounds_toArray, List.set_cons_zero, List.set_cons_succ]
            refine wpAnyH_take (i := 7) (oi := ⟨some 36, _, _, _, _, _⟩) (v := ?_) rfl (by kernel_rfl) (by kernel_rfl) (by kernel_rfl) (fun _ _ _ h => h) (Or.inl ⟨by rfl, ?_⟩) (by assumption) ?_
            rotate_left
            · intro w5 hSw
              (try dsimp only at hSw)
              go_simp
              (try with_reducible rfl)
            try simp only [Act.put, List.setIfInBounds_toArray, List.set_cons_zero, List.set_cons_succ]
            refine wpAnyH_take (i := 8) (oi := ⟨some 37, _, _, _, _, _⟩) (v := ?_) rfl (by kernel_rfl) (by kernel_rfl) (by kernel_rfl) (fun _ _ _ h => h) (Or.inl ⟨by rfl, ?_⟩) (by assumption) ?_
            rotate_left
            · intro w5 hSw
              (try dsimp only at hSw)
              go_simp
              (try with_reducible rfl)
            try simp only [Act.put, List.setIfInBounds_toArray, List.set_cons_zero, List.set_cons_succ]
            refine wpAnyH_take (i := 9) (oi := ⟨some 38, _, _, _, _, _⟩) (v := ?_) rfl (by kernel_rfl) (by kernel_rfl) (by kernel_rfl) (fun _ _ _ h => h) (Or.inl ⟨by rfl, ?_⟩) (by assumption) ?_
            rotate_left
            · intro w5 hSw
              (try dsimp only at hSw)
              go_simp
              (try with_reducible rfl)
            try simp only [Act.put, List.setIfInBounds_toArray, List.set_cons_zero, List.set_cons_succ]
            refine wpAnyH_ready (rs := [11]) (by kernel_rfl) (by simp) ?_
            refine (AllReadyH.cons (o := ⟨none, _, _, _, _, _⟩) rfl (fun Kx hK => ?_) AllReadyH.nil)
            go_simp
            refine hK.out _ _ ⟨by rw [World.cell?_setCell_far _ _ _ _ (by show k8 ≠ k; omega), World.cell?_setCell_far _ _ _ _ (by show k8 ≠ k; omega)]; exact hS1.1, by rw [World.cell?_setCell_far _ _ _ _ (by show k8 ≠ k; omega), World.cell?_setCell_far _ _ _ _ (by show k8 ≠ k; omega)]; exact hS1.2.1, fun j v hv => by rw [World.cell?_setCell_far _ _ _ _ (by show k8 ≠ sb; omega), World.cell?_setCell_far _ _ _ _ (by show k8 ≠ sb; omega)]; exact hS1.2.2 j v hv⟩ (fun hHeld => ?_)
            clear hK Kx
            try simp only [Act.put, List.setIfInBounds_toArray, List.set_cons_zero, List.set_cons_succ]
            refine wpAnyH_take (i := 12) (oi := ⟨some 9, _, _, _, _, _⟩) (v := ?_) rfl (by kernel_rfl) (by kernel_rfl) (by kernel_rfl) (fun _ _ _ h => h) (Or.inl ⟨by rfl, ?_⟩) (by assumption) ?_
            rotate_left
            · intro w5 hSw
              (try dsimp only at hSw)
              go_simp
              (try with_reducible rfl)
            try simp only [Act.put, List.setIfInBounds_toArray, List.set_cons_zero, List.set_cons_succ]
            refine wpAnyH_take (i := 13) (oi := ⟨some 10, _, _, _, _, _⟩) (v := ?_) rfl (by kernel_rfl) (by kernel_rfl) (by kernel_rfl) (fun _ _ _ h => h) (Or.inl ⟨by rfl, ?_⟩) (by assumption) ?_
            rotate_left
            · intro w5 hSw
              (try dsimp only at hSw)
              go_simp
              (try with_reducible rfl)
            try simp only [Act.put, List.setIfInBounds_toArray, List.set_cons_zero, List.set_cons_succ]
            refine wpAnyH_done (by kernel_rfl) ?_ _
            go_wp2_with fail
            go_meet
            case rel => exact ⟨_, _, _, rfl, rfl, rfl, RR.out⟩
        case rest =>
          obtain ⟨k8, ma, mc, rfl, rfl, rfl, HRS⟩ := hcut
          clear q0 q1 qf qz hrg hsb HSTEP HLS
          by_cases he : er = 0
          · subst he
            have HCh := hideIt (HChg.out rfl).2
            have hg2 := (HChg.out rfl).1
            have SZ2 := hideIt (HSz.out rfl)
            subst hg2
            clear HChg HBad HSz
            obtain ⟨a2, c2, zs, hco2, hzs⟩ := HRS.out.co
            have COX := hideIt (CO.out.keep HRS.out.bel)
            have CO2 := hideIt hco2
            have HZS := hideIt hzs
            have BX := hideIt (below_via BL.out HRS.out.bel)
            have hlt8 := HRS.out.lt
            have hkr : k < wr.heap.size := (Array.getElem?_eq_some_iff.1 CO.out.box).1
            have hi41 : i + 1 ≤ 40 := by omega
            have hzl : zs.length ≤ 40 := by have := SZ2.out.1; rw [← hzs, List.length_map] at this; omega
            have MS := hideIt (marks_step NM.out HCh.out)
            have NM2 := hideIt (chg_nm NM.out HCh.out)
            have MR := hideIt (own_sgot (bytes := 24) HRS.out.mo (by
              have h1 := MS.out.1
              have h2 : (d.filter (comB (ys.map TraX.v))).length ≤ d.length := List.length_filter_le _ _
              have h3 := SZ2.out.1
              omega))
            clear hco2 hzs HRS CO BL
            have HCnt : Hid (∀ t (h : t < zs.length), ((d.take (t + 1)).filter (comB (ys.map TraX.v))).length = ((d.take t).filter (comB (ys.map TraX.v))).length + (if comB (ys.map TraX.v) zs[t].v = true then 1 else 0)) := fun t h => by
              have hd : t < d.length := by rw [← HZS.out, List.length_map]; exact h
              have e : d[t] = zs[t].v := by have : d[t]? = (zs.map TraX.v)[t]? := by rw [HZS.out]
                                            rw [List.getElem?_eq_getElem hd, List.getElem?_map, List.getElem?_eq_getElem h] at this
                                            exact Option.some.inj this
              rw [← List.take_append_getElem hd, List.filter_append, List.length_append, e, List.filter_cons, List.filter_nil]
              split <;> rfl
            have HAll : Hid (((d.take zs.length).filter (comB (ys.map TraX.v))).length = mk.length) := by
              show _ = _
              have e : d.length = zs.length := by rw [← HZS.out, List.length_map]
              rw [List.take_of_length_le (by omega)]
              exact MS.out.1
            have hcl : Hid (∀ t, ((d.take t).filter (comB (ys.map TraX.v))).length ≤ 40) := fun t => by
              have h1 : ((d.take t).filter (comB (ys.map TraX.v))).length ≤ (d.take t).length := List.length_filter_le _ _
              have h2 : (d.take t).length ≤ d.length := by rw [List.length_take]; omega
              have h3 := SZ2.out.1
              show _ ≤ _
              omega
            go_upto_region 14 with fail
            go_loopw [12, 11] (fun x y wy => ∃ t n : Nat, x = .int .i64 t ∧ y = .int .i64 n ∧ t ≤ zs.length ∧ Hid (n = ((d.take t).filter (comB (ys.map TraX.v))).length ∧ Below wc.heap.size wc wy)) (fun x _ _ => zs.length - (intOf x).toNat)
            case atStart => exact ⟨0, 0, rfl, rfl, Nat.zero_le _, ⟨rfl, Below.refl _ _⟩⟩
            case round =>
              obtain ⟨t, n, rfl, rfl, ht, HBn⟩ := hrel
              have HBy := hideIt HBn.out.2
              have HNC := hideIt HBn.out.1
              have hn40 : n ≤ 40 := by rw [HNC.out]; exact hcl.out t
              clear HBn
              obtain ⟨⟨z0, z1⟩, zf, zz⟩ := at2 (CO2.out.keep HBy.out).box
              by_cases hlt2 : t < zs.length
              · have hltJ : (t : Int) < (zs.length : Int) := by omega
                have ht0 : (0 : Int) ≤ (t : Int) := by omega
                have hwt : IntKind.i64.wrap ((t : Int) + 1) = ((t + 1 : Nat) : Int) := by rw [IntKind.wrap_i64]; omega
                have hwn : IntKind.i64.wrap ((n : Int) + 1) = ((n + 1 : Nat) : Int) := by rw [IntKind.wrap_i64]; omega
                obtain ⟨a', c', e, -, hr⟩ := CO2.out.own.at_.cells
                simp only [Value.slice.injEq, true_and] at e
                obtain ⟨rfl, rfl⟩ := e
                obtain ⟨yb, yo, hae, hyl, hyc⟩ := hr t hlt2
                clear hr
                subst hae
                have HC : Hid (∀ W, Below wc.heap.size wc W → W.cell? ⟨k, 0, none⟩ = some (.int .i64 g2) ∧ W.cell? ⟨k, 1, none⟩ = some (.slice a ys.length c) ∧ W.cell? ⟨k8, 0, none⟩ = some (.int .i64 g2) ∧ W.cell? ⟨k8, 1, none⟩ = some (.slice (some ⟨yb, yo, none⟩) zs.length c2) ∧ W.cell? ⟨yb, yo + t * 21, none⟩ = some (.int .i64 zs[t].c) ∧ W.cell? ⟨yb, yo + t * 21 + 1, none⟩ = some (.int .i64 zs[t].q) ∧ W.cell? ⟨yb, yo + t * 21 + 14, none⟩ = some (.int .i64 zs[t].st) ∧ k < W.heap.size ∧ k8 < W.heap.size ∧ yb < W.heap.size) := fun W hW => by
                  obtain ⟨⟨x0, x1⟩, -, xz⟩ := at2 (COX.out.keep hW).box
                  obtain ⟨⟨z0, z1⟩, -, zz⟩ := at2 (CO2.out.keep hW).box
                  exact ⟨x0, x1, z0, z1, (hW.cell (p := ⟨yb, _, none⟩) hyl).trans (hyc 0 _ rfl), (hW.cell (p := ⟨yb, _, none⟩) hyl).trans (hyc 1 _ rfl), (hW.cell (p := ⟨yb, _, none⟩) hyl).trans (hyc 14 _ rfl), xz, zz, Nat.lt_of_lt_of_le hyl hW.size⟩
                have HFD := hideIt (fun W (hW : Below wc.heap.size wc W) => findL_is g2 a c ys zs[t].c zs[t].q W (COX.out.keep hW).own.at_)
                rw [stL_v] at HFD
                have HCT := hideIt (HCnt.out t hlt2)
                have HMK := hideIt (MS.out.2 zs[t].v (by rw [← HZS.out]; exact List.mem_map_of_mem (List.getElem_mem hlt2)))
                have ecm : comB (ys.map TraX.v) zs[t].v = (zs[t].st == 2 && stV (ys.map TraX.v) zs[t].c zs[t].q == 1) := rfl
                rw [ecm] at HCT HMK
                have e1 : zs[t].v.c = zs[t].c := rfl
                have e2 : zs[t].v.q = zs[t].q := rfl
                rw [e1, e2] at HMK
                clear hyc ecm e1 e2
                generalize zs[t].c = y1 at *
                generalize zs[t].q = y2 at *
                generalize zs[t].st = y3 at *
                generalize stV (ys.map TraX.v) y1 y2 = now at *
                go_upto_region 16 with fail
                clear z0 z1 zf zz
                refine wp_region_held_drew (S := fun W => Below wc.heap.size wc W) (by kernel_rfl) HBy.out.drew (fun hHeld => ?_)
                generalize wr.drew = WD at *
                refine wpAnyH_take (i := 0) (oi := ⟨some 51, _, _, _, _, _⟩) (v := ?_) rfl (by kernel_rfl) (by kernel_rfl) (by kernel_rfl) (fun _ _ _ h => h) (Or.inl ⟨by rfl, ?_⟩) (by assumption) ?_
                rotate_left
                · intro w5 hSw
                  obtain ⟨x0, x1, x2, x3, x4, x5, x6, x7, x8, x9⟩ := HC.out w5 hSw
                  go_simp
                  (try with_reducible rfl)
                try simp only [Act.put, List.setIfInBounds_toArray, List.set_cons_zero, List.set_cons_succ]
                refine wpAnyH_take (i := 1) (oi := ⟨some 52, _, _, _, _, _⟩) (v := ?_) rfl (by kernel_rfl) (by kernel_rfl) (by kernel_rfl) (fun _ _ _ h => h) (Or.inl ⟨by rfl, ?_⟩) (by assumption) ?_
                rotate_left
                · intro w5 hSw
                  obtain ⟨x0, x1, x2, x3, x4, x5, x6, x7, x8, x9⟩ := HC.out w5 hSw
                  go_simp
                  (try with_reducible rfl)
                try simp only [Act.put, List.setIfInBounds_toArray, List.set_cons_zero, List.set_cons_succ]
                refine wpAnyH_take (i := 2) (oi := ⟨some 53, _, _, _, _, _⟩) (v := ?_) rfl (by kernel_rfl) (by kernel_rfl) (by kernel_rfl) (fun _ _ _ h => h) (Or.inl ⟨by rfl, ?_⟩) (by assumption) ?_
                rotate_left
                · intro w5 hSw
                  obtain ⟨x0, x1, x2, x3, x4, x5, x6, x7, x8, x9⟩ := HC.out w5 hSw
                  go_simp
                  (try with_reducible rfl)
                try simp only [Act.put, List.setIfInBounds_toArray, List.set_cons_zero, List.set_cons_succ]
                refine wpAnyH_take (i := 3) (oi := ⟨some 54, _, _, _, _, _⟩) (v := ?_) rfl (by kernel_rfl) (by kernel_rfl) (by kernel_rfl) (fun _ _ _ h => h) (Or.inl ⟨by rfl, ?_⟩) (by assumption) ?_
                rotate_left
                · intro w5 hSw
                  obtain ⟨x0, x1, x2, x3, x4, x5, x6, x7, x8, x9⟩ := HC.out w5 hSw
                  go_simp
                  (try with_reducible rfl)
                try simp only [Act.put, List.setIfInBounds_toArray, List.set_cons_zero, List.set_cons_succ]
                refine wpAnyH_take (i := 4) (oi := ⟨some 55, _, _, _, _, _⟩) (v := ?_) rfl (by kernel_rfl) (by kernel_rfl) (by kernel_rfl) (fun _ _ _ h => h) (Or.inl ⟨by rfl, ?_⟩) (by assumption) ?_
                rotate_left
                · intro w5 hSw
                  obtain ⟨x0, x1, x2, x3, x4, x5, x6, x7, x8, x9⟩ := HC.out w5 hSw
                  go_simp
                  (try with_reducible rfl)
                try simp only [Act.put, List.setIfInBounds_toArray, List.set_cons_zero, List.set_cons_succ]
                refine wpAnyH_take (i := 5) (oi := ⟨some 56, _, _, _, _, _⟩) (v := ?_) rfl (by kernel_rfl) (by kernel_rfl) (by kernel_rfl) (fun _ _ _ h => h) (Or.inl ⟨by rfl, ?_⟩) (by assumption) ?_
                rotate_left
                · intro w5 hSw
                  obtain ⟨x0, x1, x2, x3, x4, x5, x6, x7, x8, x9⟩ := HC.out w5 hSw
                  go_simp
                  (try with_reducible rfl)
                try simp only [Act.put, List.setIfInBounds_toArray, List.set_cons_zero, List.set_cons_succ]
                refine wpAnyH_take (i := 6) (oi := ⟨some 57, _, _, _, _, _⟩) (v := ?_) rfl (by kernel_rfl) (by kernel_rfl) (by kernel_rfl) (fun _ _ _ h => h) (Or.inl ⟨by rfl, ?_⟩) (by assumption) ?_
                rotate_left
                · intro w5 hSw
                  obtain ⟨x0, x1, x2, x3, x4, x5, x6, x7, x8, x9⟩ := HC.out w5 hSw
                  go_simp
                  (try with_reducible rfl)
                try simp only [Act.put, List.setIfInBounds_toArray, List.set_cons_zero, List.set_cons_succ]
                refine wpAnyH_take (i := 7) (oi := ⟨some 58, _, _, _, _, _⟩) (v := ?_) rfl (by kernel_rfl) (by kernel_rfl) (by kernel_rfl) (fun _ _ _ h => h) (Or.inl ⟨by rfl, ?_⟩) (by assumption) ?_
                rotate_left
                · intro w5 hSw
                  obtain ⟨x0, x1, x2, x3, x4, x5, x6, x7, x8, x9⟩ := HC.out w5 hSw
                  go_simp
                  (try with_reducible rfl)
                try simp only [Act.put, List.setIfInBounds_toArray, List.set_cons_zero, List.set_cons_succ]
                cases hy3 : (y3 == 2)
                · rw [hy3] at HCT
                  simp only [Bool.false_and, Bool.false_eq_true, if_false, Nat.add_zero] at HCT
                  refine wpAnyH_take (i := 8) (oi := ⟨some 59, _, _, _, _, _⟩) (v := undef) rfl (by kernel_rfl) (by kernel_rfl) (by kernel_rfl) (fun _ _ _ h => h) (Or.inr ⟨by rfl, rfl⟩) (by assumption) ?_
                  try simp only [Act.put, List.setIfInBounds_toArray, List.set_cons_zero, List.set_cons_succ]
                  refine wpAnyH_take (i := 9) (oi := ⟨some 60, _, _, _, _, _⟩) (v := undef) rfl (by kernel_rfl) (by kernel_rfl) (by kernel_rfl) (fun _ _ _ h => h) (Or.inr ⟨by rfl, rfl⟩) (by assumption) ?_
                  try simp only [Act.put, List.setIfInBounds_toArray, List.set_cons_zero, List.set_cons_succ]
                  refine wpAnyH_take (i := 10) (oi := ⟨some 61, _, _, _, _, _⟩) (v := undef) rfl (by kernel_rfl) (by kernel_rfl) (by kernel_rfl) (fun _ _ _ h => h) (Or.inr ⟨by rfl, rfl⟩) (by assumption) ?_
                  try simp only [Act.put, List.setIfInBounds_toArray, List.set_cons_zero, List.set_cons_succ]
                  refine wpAnyH_take (i := 11) (oi := ⟨some 62, _, _, _, _, _⟩) (v := undef) rfl (by kernel_rfl) (by kernel_rfl) (by kernel_rfl) (fun _ _ _ h => h) (Or.inr ⟨by rfl, rfl⟩) (by assumption) ?_
                  try simp only [Act.put, List.setIfInBounds_toArray, List.set_cons_zero, List.set_cons_succ]
                  refine wpAnyH_take (i := 12) (oi := ⟨some 63, _, _, _, _, _⟩) (v := undef) rfl (by kernel_rfl) (by kernel_rfl) (by kernel_rfl) (fun _ _ _ h => h) (Or.inr ⟨by rfl, rfl⟩) (by assumption) ?_
                  try simp only [Act.put, List.setIfInBounds_toArray, List.set_cons_zero, List.set_cons_succ]
                  refine wpAnyH_take (i := 13) (oi := ⟨some 64, _, _, _, _, _⟩) (v := undef) rfl (by kernel_rfl) (by kernel_rfl) (by kernel_rfl) (fun _ _ _ h => h) (Or.inr ⟨by rfl, rfl⟩) (by assumption) ?_
                  try simp only [Act.put, List.setIfInBounds_toArray, List.set_cons_zero, List.set_cons_succ]
                  refine wpAnyH_take (i := 14) (oi := ⟨some 65, _, _, _, _, _⟩) (v := undef) rfl (by kernel_rfl) (by kernel_rfl) (by kernel_rfl) (fun _ _ _ h => h) (Or.inr ⟨by rfl, rfl⟩) (by assumption) ?_
                  try simp only [Act.put, List.setIfInBounds_toArray, List.set_cons_zero, List.set_cons_succ]
                  refine wpAnyH_take (i := 15) (oi := ⟨some 66, _, _, _, _, _⟩) (v := undef) rfl (by kernel_rfl) (by kernel_rfl) (by kernel_rfl) (fun _ _ _ h => h) (Or.inr ⟨by rfl, rfl⟩) (by assumption) ?_
                  try simp only [Act.put, List.setIfInBounds_toArray, List.set_cons_zero, List.set_cons_succ]
                  refine wpAnyH_take (i := 16) (oi := ⟨some 67, _, _, _, _, _⟩) (v := undef) rfl (by kernel_rfl) (by kernel_rfl) (by kernel_rfl) (fun _ _ _ h => h) (Or.inr ⟨by rfl, rfl⟩) (by assumption) ?_
                  try simp only [Act.put, List.setIfInBounds_toArray, List.set_cons_zero, List.set_cons_succ]
                  refine wpAnyH_take (i := 17) (oi := ⟨some 68, _, _, _, _, _⟩) (v := ?_) rfl (by kernel_rfl) (by kernel_rfl) (by kernel_rfl) (fun _ _ _ h => h) (Or.inl ⟨by rfl, ?_⟩) (by assumption) ?_
                  rotate_left
                  · intro w5 hSw
                    obtain ⟨x0, x1, x2, x3, x4, x5, x6, x7, x8, x9⟩ := HC.out w5 hSw
                    go_simp
                    (try with_reducible rfl)
                  try simp only [Act.put, List.setIfInBounds_toArray, List.set_cons_zero, List.set_cons_succ]
                  refine wpAnyH_done (by kernel_rfl) ?_ _
                  have HB5 := hideIt hHeld
                  (repeat clear hHeld)
                  clear HC HFD HBy HMK
                  go_wp2
                  go_roundw
                  case rel => exact ⟨t + 1, n, by go_num, rfl, by omega, ⟨HNC.out.trans HCT.out.symm, HB5.out⟩⟩
                  case measure => simp [intOf]; omega
                · have hy32 : y3 = 2 := by simpa using hy3
                  subst hy32
                  rw [hy3] at HCT HMK
                  simp only [Bool.true_and] at HCT HMK
                  clear hy3
                  refine wpAnyH_take (i := 8) (oi := ⟨some 59, _, _, _, _, _⟩) (v := ?_) rfl (by kernel_rfl) (by kernel_rfl) (by kernel_rfl) (fun _ _ _ h => h) (Or.inl ⟨by rfl, ?_⟩) (by assumption) ?_
                  rotate_left
                  · intro w5 hSw
                    obtain ⟨x0, x1, x2, x3, x4, x5, x6, x7, x8, x9⟩ := HC.out w5 hSw
                    go_simp
                    (try with_reducible rfl)
                  try simp only [Act.put, List.setIfInBounds_toArray, List.set_cons_zero, List.set_cons_succ]
                  refine wpAnyH_take (i := 9) (oi := ⟨some 60, _, _, _, _, _⟩) (v := ?_) rfl (by kernel_rfl) (by kernel_rfl) (by kernel_rfl) (fun _ _ _ h => h) (Or.inl ⟨by rfl, ?_⟩) (by assumption) ?_
                  rotate_left
                  · intro w5 hSw
                    obtain ⟨x0, x1, x2, x3, x4, x5, x6, x7, x8, x9⟩ := HC.out w5 hSw
                    go_simp
                    (try with_reducible rfl)
                  try simp only [Act.put, List.setIfInBounds_toArray, List.set_cons_zero, List.set_cons_succ]
                  refine wpAnyH_take (i := 10) (oi := ⟨some 61, _, _, _, _, _⟩) (v := ?_) rfl (by kernel_rfl) (by kernel_rfl) (by kernel_rfl) (fun _ _ _ h => h) (Or.inl ⟨by rfl, ?_⟩) (by assumption) ?_
                  rotate_left
                  · intro w5 hSw
                    obtain ⟨x0, x1, x2, x3, x4, x5, x6, x7, x8, x9⟩ := HC.out w5 hSw
                    go_simp
                    (try with_reducible rfl)
                  try simp only [Act.put, List.setIfInBounds_toArray, List.set_cons_zero, List.set_cons_succ]
                  refine wpAnyH_take (i := 11) (oi := ⟨some 62, _, _, _, _, _⟩) (v := ?_) rfl (by kernel_rfl) (by kernel_rfl) (by kernel_rfl) (fun _ _ _ h => h) (Or.inl ⟨by rfl, ?_⟩) (by assumption) ?_
                  rotate_left
                  · intro w5 hSw
                    obtain ⟨x0, x1, x2, x3, x4, x5, x6, x7, x8, x9⟩ := HC.out w5 hSw
                    go_simp
                    (try with_reducible rfl)
                  try simp only [Act.put, List.setIfInBounds_toArray, List.set_cons_zero, List.set_cons_succ]
                  refine wpAnyH_take (i := 12) (oi := ⟨some 63, _, _, _, _, _⟩) (v := ?_) rfl (by kernel_rfl) (by kernel_rfl) (by kernel_rfl) (fun _ _ _ h => h) (Or.inl ⟨by rfl, ?_⟩) (by assumption) ?_
                  rotate_left
                  · intro w5 hSw
                    obtain ⟨x0, x1, x2, x3, x4, x5, x6, x7, x8, x9⟩ := HC.out w5 hSw
                    go_simp
                    (try with_reducible rfl)
                  try simp only [Act.put, List.setIfInBounds_toArray, List.set_cons_zero, List.set_cons_succ]
                  refine wpAnyH_take (i := 13) (oi := ⟨some 64, _, _, _, _, _⟩) (v := ?_) rfl (by kernel_rfl) (by kernel_rfl) (by kernel_rfl) (fun _ _ _ h => h) (Or.inl ⟨by rfl, ?_⟩) (by assumption) ?_
                  rotate_left
                  · intro w5 hSw
                    obtain ⟨x0, x1, x2, x3, x4, x5, x6, x7, x8, x9⟩ := HC.out w5 hSw
                    go_simp
                    (try with_reducible rfl)
                  try simp only [Act.put, List.setIfInBounds_toArray, List.set_cons_zero, List.set_cons_succ]
                  refine wpAnyH_take (i := 14) (oi := ⟨some 65, _, _, _, _, _⟩) (v := ?_) rfl (by kernel_rfl) (by kernel_rfl) (by kernel_rfl) (fun _ _ _ h => h) (Or.inl ⟨by rfl, ?_⟩) (by assumption) ?_
                  rotate_left
                  · intro w5 hSw
                    obtain ⟨x0, x1, x2, x3, x4, x5, x6, x7, x8, x9⟩ := HC.out w5 hSw
                    go_simp
                    (try with_reducible rfl)
                  try simp only [Act.put, List.setIfInBounds_toArray, List.set_cons_zero, List.set_cons_succ]
                  refine wpAnyH_ready (rs := [15]) (by kernel_rfl) (by simp) ?_
                  refine (AllReadyH.cons (o := ⟨some 66, _, _, _, _, _⟩) rfl (fun Kx hK => ?_) AllReadyH.nil)
                  go_simp
                  go_at_call 11
                  refine (HFD.out _ hHeld).mono ?_
                  rintro e w5 ⟨rfl, hb⟩
                  have hB5 := below_via hHeld hb
                  refine hK.out _ _ hB5 (fun hHeld => ?_)
                  clear hK Kx hb
                  try simp only [Act.put, List.setIfInBounds_toArray, List.set_cons_zero, List.set_cons_succ]
                  cases hn1 : (now == 1)
                  · rw [hn1] at HCT
                    simp only [Bool.false_eq_true, if_false, Nat.add_zero] at HCT
                    refine wpAnyH_take (i := 16) (oi := ⟨some 67, _, _, _, _, _⟩) (v := ?_) rfl (by kernel_rfl) (by kernel_rfl) (by kernel_rfl) (fun _ _ _ h => h) (Or.inl ⟨by rfl, ?_⟩) (by assumption) ?_
                    rotate_left
                    · intro w5 hSw
                      obtain ⟨x0, x1, x2, x3, x4, x5, x6, x7, x8, x9⟩ := HC.out w5 hSw
                      go_simp
                      (try with_reducible rfl)
                    try simp only [Act.put, List.setIfInBounds_toArray, List.set_cons_zero, List.set_cons_succ]
                    refine wpAnyH_take (i := 17) (oi := ⟨some 68, _, _, _, _, _⟩) (v := ?_) rfl (by kernel_rfl) (by kernel_rfl) (by kernel_rfl) (fun _ _ _ h => h) (Or.inl ⟨by rfl, ?_⟩) (by assumption) ?_
                    rotate_left
                    · intro w5 hSw
                      obtain ⟨x0, x1, x2, x3, x4, x5, x6, x7, x8, x9⟩ := HC.out w5 hSw
                      go_simp
                      (try with_reducible rfl)
                    try simp only [Act.put, List.setIfInBounds_toArray, List.set_cons_zero, List.set_cons_succ]
                    refine wpAnyH_done (by kernel_rfl) ?_ _
                    have HB5 := hideIt hB5
                    (repeat clear hHeld)
                    clear HC HFD HBy HMK hB5
                    go_wp2
                    go_roundw
                    case rel => exact ⟨t + 1, n, by go_num, rfl, by omega, ⟨HNC.out.trans HCT.out.symm, HB5.out⟩⟩
                    case measure => simp [intOf]; omega
                  · rw [hn1] at HCT HMK
                    simp only [if_true] at HCT
                    have hmk := HMK.out rfl
                    clear HMK
                    subst hmk
                    refine wpAnyH_take (i := 16) (oi := ⟨some 67, _, _, _, _, _⟩) (v := ?_) rfl (by kernel_rfl) (by kernel_rfl) (by kernel_rfl) (fun _ _ _ h => h) (Or.inl ⟨by rfl, ?_⟩) (by assumption) ?_
                    rotate_left
                    · intro w5 hSw
                      obtain ⟨x0, x1, x2, x3, x4, x5, x6, x7, x8, x9⟩ := HC.out w5 hSw
                      go_simp
                      (try with_reducible rfl)
                    try simp only [Act.put, List.setIfInBounds_toArray, List.set_cons_zero, List.set_cons_succ]
                    refine wpAnyH_take (i := 17) (oi := ⟨some 68, _, _, _, _, _⟩) (v := ?_) rfl (by kernel_rfl) (by kernel_rfl) (by kernel_rfl) (fun _ _ _ h => h) (Or.inl ⟨by rfl, ?_⟩) (by assumption) ?_
                    rotate_left
                    · intro w5 hSw
                      obtain ⟨x0, x1, x2, x3, x4, x5, x6, x7, x8, x9⟩ := HC.out w5 hSw
                      go_simp
                      (try with_reducible rfl)
                    try simp only [Act.put, List.setIfInBounds_toArray, List.set_cons_zero, List.set_cons_succ]
                    refine wpAnyH_done (by kernel_rfl) ?_ _
                    obtain ⟨-, ma', mc', e1, -, hmr⟩ := MR.out
                    simp only [Value.slice.injEq, List.length_cons, List.length_nil, Nat.zero_add, true_and] at e1
                    obtain ⟨rfl, rfl⟩ := e1
                    obtain ⟨mb, mo, rfl, hml, hmcell⟩ := hmr (by simp)
                    have m0 : w5.cell? ⟨mb, mo, none⟩ = some (.int .i64 y1) := (hB5.cell (p := ⟨mb, mo, none⟩) hml).trans (hmcell 0 (by simp))
                    have m1 : w5.cell? ⟨mb, mo + 1, none⟩ = some (.int .i64 y2) := (hB5.cell (p := ⟨mb, mo + 1, none⟩) hml).trans (hmcell 1 (by simp))
                    have m2 : w5.cell? ⟨mb, mo + 2, none⟩ = some (.bool true) := (hB5.cell (p := ⟨mb, mo + 2, none⟩) hml).trans (hmcell 2 (by simp))
                    have hml5 : mb < w5.heap.size := Nat.lt_of_lt_of_le hml hB5.size
                    obtain ⟨x0, x1, x2, x3, x4, x5, x6, x7, x8, x9⟩ := HC.out w5 hB5
                    have HB5 := hideIt hB5
                    (repeat clear hHeld)
                    clear HC HFD HBy hB5 hmr hmcell
                    have B9 := hideIt (fun m => below_drewN HB5.out m)
                    have hqq := fun W => neqMark y1 y2 W
                    go_upto_region 18 with fail
                    go_quiet (fail)
                    have B10 := hideIt (B9.out nq)
                    clear B9 HB5
                    go_wp2
                    go_roundw
                    case rel => exact ⟨t + 1, n + 1, by go_num, by go_num, by omega, ⟨by rw [HCT.out, ← HNC.out], B10.out⟩⟩
                    case measure => simp [intOf]; omega
              · have hltJ : ¬ (t : Int) < (zs.length : Int) := by omega
                have het : t = zs.length := by omega
                subst het
                obtain rfl : n = mk.length := HNC.out.trans HAll.out
                have CX := hideIt (COX.out.keep HBy.out)
                have CY := hideIt (CO2.out.keep HBy.out)
                have FN : Hid (CoF w k g2 (i + 1) ((wr.setCell ⟨k, 0, none⟩ (.int .i64 g2)).setCell ⟨k, 1, none⟩ (.slice a2 zs.length c2))) := ⟨⟨a2, c2, zs, CX.out.put CY.out, by rw [HZS.out]; exact NM2.out, by rw [HZS.out]; exact SZ2.out⟩, belowSet _ (belowSet _ (below_via BX.out HBy.out) hk) hk⟩
                obtain ⟨⟨q0, q1⟩, qf, qz⟩ := at2 CX.out.box
                clear CX CY CO2 COX NM NM2 SZ SZ2 HZS BX HCh HAll HCnt hcl MR MS HNC
                go_wp2
                go_roundw
                case rel => exact ⟨i + 1, by go_num, by omega, FN.out⟩
                case measure => simp [intOf]; omega
          · have he2 : (er == 0) = false := by simpa using he
            have he3 : (er != 0) = true := by simpa using he
            have hmk := HBad.out he
            subst hmk
            have FN : Hid (CoF w k g (i + 1) wc) := ⟨⟨a, c, ys, CO.out.keep HRS.out.bel, NM.out, SZ.out.more⟩, below_via BL.out HRS.out.bel⟩
            clear HChg HBad HSz CO NM SZ HRS BL
            go_wp2
            go_roundw
            case rel => exact ⟨i + 1, by go_num, by omega, FN.out⟩
            case measure => simp [intOf]; omega
      · have hltI : ¬ (i : Int) < (l.length : Int) := by omega
        have B2 := hideIt HR.out.bel
        clear HR
        go_wp2_with fail
        refine (HLI.out _ B2.out).mono ?_
        rintro e w2 ⟨rfl, hb⟩
        dsimp only
        have B3 := hideIt (below_via B2.out hb)
        clear hb
        go_wp2
        go_ret
        exact ⟨rfl, B3.out⟩
end Go.Proofs.YtilinemcmgjiiaaDoor
