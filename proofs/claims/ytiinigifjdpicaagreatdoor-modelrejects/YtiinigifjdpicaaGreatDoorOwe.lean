/- So much more is owed. -/
import Derived.Test.YtiinigifjdpicaaGreatDoorDeal
namespace Go.Proofs.YtiinigifjdpicaaGreatDoor
open Go.RowKit
set_option linter.all false
theorem celC_modify (l : List OweV) (i : Nat) (h : i < l.length) (n : Int) : (celC oweE l).set (i * 3 + 2) (.int .i64 (l[i].n + n)) = celC oweE (l.modify i (fun y => ⟨y.acc, y.asset, y.n + n⟩)) := by
  induction l generalizing i with
  | nil => simp at h
  | cons y l ih =>
    cases i with
    | zero =>
      rw [List.modify_zero_cons, celC_cons, celC_cons]
      rfl
    | succ i =>
      rw [List.modify_succ_cons, celC_cons, celC_cons, ← ih i (by simpa using h), List.set_append, if_neg (by rw [oweK]; omega), oweK, show (i + 1) * 3 + 2 - 3 = i * 3 + 2 by omega]
      rfl
/-- What the deal is when so much more is owed. -/
def dealO (L : LaneV) (acc asset n : Int) : LaneV := ⟨L.call, L.next, L.bids, L.asks, oweL acc asset n L.owed⟩
def DealBack (D B : Nat) (L : LaneV) (F : List FillV) (b a : Value) (w : World) : Ending → World → Prop := fun e w' => e = .returned (.tuple #[]) ∧ ∃ o f, Deal D B L F b a o f w' ∧ Tch D B w w'
set_option maxHeartbeats 16000000 in
set_option maxRecDepth 100000 in
theorem owe_is (D B : Nat) (L : LaneV) (F : List FillV) (b a o f : Value) (acc asset n : Int) (w : World) (h : Deal D B L F b a o f w) (hB : B ≤ w.heap.size) (hl : L.owed.length ≤ 100000) (hn : ∀ y ∈ L.owed, 0 ≤ y.n + n ∧ y.n + n ≤ 9000000000000000000) :
    Calls Tryz.prog 142 #[.pointer (some ⟨D, 0, none⟩), .int .i64 acc, .int .i64 asset, .int .i64 n] w fun e w' => e = .returned (.tuple #[]) ∧ ∃ o', Deal D B (dealO L acc asset n) F b a o' f w' ∧ Tch D B w w' := by
  have HB0 := hideIt (below2 w (.cells #[.int .i64 acc] 3) (.cells #[.int .i64 asset] 3))
  have HT := two_heap w (.cells #[.int .i64 acc] 3) (.cells #[.int .i64 asset] 3)
  have X0 := hideIt (h.keep HB0.out)
  have HIX := hideIt (indexW_is 172 #[.pointer (some ⟨w.heap.size, 0, none⟩), .pointer (some ⟨w.heap.size + 1, 0, none⟩)] eg66 o L.owed (oweP acc asset) _ (own_sgot (bytes := 24) X0.out.oo (by omega)) (pred66 (acc := acc) (asset := asset) (by rw [HT.2.2]; omega) (by rw [HT.2.2]; omega) (by rw [cell_at HT.1]; rfl) (by rw [cell_at HT.2.1]; rfl)))
  have HP := hideIt (And.intro HT.1 HT.2.1)
  have hDl := h.lt
  unfold dealO oweL
  unfold idxI at HIX
  cases hfi : L.owed.findIdx? (oweP acc asset) with
  | none =>
    rw [hfi] at HIX
    simp only at HIX ⊢
    obtain ⟨ga, gc, rfl⟩ := own_len h.oo
    have HTC := hideIt (Tch.ofBelow (D := D) (B := B) HB0.out)
    have HLA := hideIt (fun W (hW : Deal D B L F b a (.slice ga L.owed.length gc) f W) (hS : B ≤ W.heap.size) => laidW_is 99 #[] eg62 B (.slice ga L.owed.length gc) L.owed ⟨acc, asset, n⟩ owB W hW.oo hS (by omega) (fun W _ => cmp62))
    have HN2 : Hid (∀ W w' v', Deal D B L F b a (.slice ga L.owed.length gc) f W → w'.ownsRow B 61 3 v' (laidL owB ⟨acc, asset, n⟩ L.owed).length (celC oweE (laidL owB ⟨acc, asset, n⟩ L.owed)) → W.grownBy w' (Value.slice ga L.owed.length gc).ownBlock → Deal D B ⟨L.call, L.next, L.bids, L.asks, laidL owB ⟨acc, asset, n⟩ L.owed⟩ F b a v' f (w'.setCell ⟨D, 4, none⟩ v') ∧ Tch D B W (w'.setCell ⟨D, 4, none⟩ v')) := fun W w' v' hW ho hg => by
      have hbx := box_type hg hW.oo hW.box (by decide)
      exact ⟨⟨heap_set hbx 4 v', own_cell (own_type hg hW.oo hW.ob (by decide)) hbx (by decide), own_cell (own_type hg hW.oo hW.oa (by decide)) hbx (by decide), own_cell ho hbx (by decide), own_cell (own_type hg hW.oo hW.fl (by decide)) hbx (by decide), hW.sep⟩, (Tch.ofGrownW hg hW.oo).trans (Tch.ofSet _ _)⟩
    have HBX : Hid (∀ W w', Deal D B L F b a (.slice ga L.owed.length gc) f W → W.grownBy w' (Value.slice ga L.owed.length gc).ownBlock → w'.frozen? ⟨D, 4, none⟩ = false ∧ D < w'.heap.size ∧ w'.cell? ⟨D, 4, none⟩ = some (.slice ga L.owed.length gc)) := fun W w' hW hg => by
      have hbx := box_type hg hW.oo hW.box (by decide)
      exact ⟨free_at hbx 4, (Array.getElem?_eq_some_iff.1 hbx).1, by rw [cell_at hbx]; rfl⟩
    have HSZ := hideIt hB
    clear h hn hfi HT hB hl
    obtain ⟨cl, nx, bids, asks, owed⟩ := L
    simp only at *
    obtain ⟨c0, c1, c2, c3, c4, c5⟩ := X0.out.cells
    simp only at c0 c1 c2 c3 c4 c5
    clear c0 c1 c2 c3 c5
    go_enter Tryz.func142, Tryz.ntmps142
    go_upto_region 1 with fail
    go_wp2_with fail
    refine HIX.out.mono ?_
    rintro e w1 ⟨rfl, hb⟩
    dsimp only
    have X1 := hideIt (X0.out.keep hb)
    have T1 := hideIt (HTC.out.trans (Tch.ofBelow hb))
    have Z1 : Hid (B ≤ w1.heap.size) := Nat.le_trans HSZ.out (Nat.le_trans HB0.out.size hb.size)
    have e1 := (hb.block _ (Array.getElem?_eq_some_iff.1 HP.out.1).1).trans HP.out.1
    have e2 := (hb.block _ (Array.getElem?_eq_some_iff.1 HP.out.2).1).trans HP.out.2
    have d1 : w1.cell? ⟨w.heap.size, 0, none⟩ = some (.int .i64 acc) := by rw [cell_at e1]; rfl
    have d2 : w1.cell? ⟨w.heap.size + 1, 0, none⟩ = some (.int .i64 asset) := by rw [cell_at e2]; rfl
    clear hb X0 HTC HIX c4 HP HB0 e1 e2 HSZ
    obtain ⟨c0, c1, c2, c3, c4, c5⟩ := X1.out.cells
    try simp only at c4
    clear c0 c1 c2 c3 c5
    replace HLA := hideIt (HLA.out w1.drew (X1.out.keep (Below.refl _ w1).drew) Z1.out)
    unfold oweE at HLA
    replace HN2 := hideIt (HN2.out w1.drew · · (X1.out.keep (Below.refl _ w1).drew))
    replace HBX := hideIt (HBX.out w1.drew · (X1.out.keep (Below.refl _ w1).drew))
    have TD : Hid (Tch D B w w1.drew) := T1.out.drew
    clear X1 Z1 T1
    go_upto_region 4 with fail
    go_region_with (first | (refine HLA.out.mono ?_; rintro e w2 ⟨v2, rfl, ho2, hg2⟩; obtain ⟨va, vc, rfl⟩ := own_len ho2; have HH := hideIt (HN2.out _ _ ho2 hg2); obtain ⟨f1, f2, f3⟩ := HBX.out _ hg2; clear ho2 hg2))
    all_goals go_wp2
    all_goals exact bodyPost_end (v := .tuple #[]) (by simp [results, Tryz.results142, go_sem]) rfl ⟨rfl, _, HH.out.1, TD.out.trans HH.out.2⟩
  | some i =>
    rw [hfi] at HIX
    simp only at HIX ⊢
    have hil : i < L.owed.length := (List.findIdx?_eq_some_iff_getElem.1 hfi).1
    have hnn := hn _ (List.getElem_mem hil)
    have HCM := hideIt (celC_modify L.owed i hil n)
    obtain ⟨ga, gc, rfl⟩ := own_len h.oo
    obtain ⟨g, rfl⟩ : ∃ g, ga = some ⟨g, 0, none⟩ := by
      rcases h.oo.2 with ⟨_, h2⟩ | ⟨g, cap, cur, h1, _⟩
      · omega
      · simp only [Value.slice.injEq] at h1
        exact ⟨g, h1.1⟩
    obtain ⟨en, hen⟩ : ∃ en, en = L.owed[i].n := ⟨_, rfl⟩
    rw [← hen] at hnn HCM
    have HEN := hideIt hen
    have HIL := hideIt hil
    have hw : IntKind.i64.wrap (en + n) = en + n := by rw [IntKind.wrap_i64]; omega
    have hiI : (0 : Int) ≤ (i : Int) ∧ (i : Int) < (L.owed.length : Int) := by omega
    obtain ⟨hi0, hi1⟩ := hiI
    have HN2 : Hid (∀ W, Deal D B L F b a (.slice (some ⟨g, 0, none⟩) L.owed.length gc) f W → Deal D B ⟨L.call, L.next, L.bids, L.asks, L.owed.modify i (fun y => ⟨y.acc, y.asset, y.n + n⟩)⟩ F b a (.slice (some ⟨g, 0, none⟩) L.owed.length gc) f (W.setCell ⟨g, i * 3 + 2, none⟩ (.int .i64 (en + n))) ∧ Tch D B W (W.setCell ⟨g, i * 3 + 2, none⟩ (.int .i64 (en + n)))) := fun W hW => by
      obtain ⟨_, ⟨hv, _⟩ | ⟨g', cap, cur, hv, _, hg, _⟩⟩ := hW.oo
      · simp at hv
      · simp only [Value.slice.injEq, Option.some.injEq, Addr.mk.injEq, and_true, true_and] at hv
        obtain ⟨rfl, rfl⟩ := hv
        have hoo := own_at (j := i * 3 + 2) (u := .int .i64 (en + n)) hW.oo (by omega)
        rw [HCM.out] at hoo
        refine ⟨⟨?_, own_cell hW.ob hg (by decide), own_cell hW.oa hg (by decide), ?_, own_cell hW.fl hg (by decide), hW.sep⟩, Tch.ofGrownW grown_at hW.oo⟩
        · refine (heap_set_other _ _ _ _ _ (fun e => ?_)).trans hW.box
          have := hW.box
          rw [e, hg] at this
          simp at this
        · show World.ownsRow _ _ _ _ _ (L.owed.modify i _).length _
          rw [List.length_modify]
          exact hoo
    have HQ : Hid (∀ W, Deal D B L F b a (.slice (some ⟨g, 0, none⟩) L.owed.length gc) f W → W.cell? ⟨g, i * 3 + 2, none⟩ = some (.int .i64 en) ∧ W.frozen? ⟨g, i * 3 + 2, none⟩ = false ∧ g < W.heap.size) := fun W hW => by
      obtain ⟨_, ⟨hv, _⟩ | ⟨g', cap, cur, hv, _, hg, _⟩⟩ := hW.oo
      · simp at hv
      · have hc := hW.oo.cells (g := g) rfl (i * 3 + 2) (.int .i64 en) (by rw [celC_get oweK _ i HIL.out 2 (by omega), HEN.out]; rfl)
        simp only [Value.slice.injEq, Option.some.injEq, Addr.mk.injEq, and_true, true_and] at hv
        obtain ⟨rfl, rfl⟩ := hv
        rw [addN, Nat.zero_add] at hc
        exact ⟨hc, free_at hg _, (Array.getElem?_eq_some_iff.1 hg).1⟩
    have HTC := hideIt (Tch.ofBelow (D := D) (B := B) HB0.out)
    clear h hn hnn hfi HT hen HCM hB hl HEN HIL
    clear hil
    obtain ⟨cl, nx, bids, asks, owed⟩ := L
    simp only at *
    obtain ⟨c0, c1, c2, c3, c4, c5⟩ := X0.out.cells
    simp only at c0 c1 c2 c3 c4 c5
    clear c0 c1 c2 c3 c5
    go_enter Tryz.func142, Tryz.ntmps142
    go_upto_region 1 with fail
    go_wp2_with fail
    refine HIX.out.mono ?_
    rintro e w1 ⟨rfl, hb⟩
    dsimp only
    have X1 := hideIt (X0.out.keep hb)
    have T1 := hideIt (HTC.out.trans (Tch.ofBelow hb))
    clear hb X0 HTC HIX c4 HP HB0
    obtain ⟨q2, qf, qg⟩ := HQ.out _ X1.out
    have HR := hideIt (HN2.out _ X1.out)
    obtain ⟨c0, c1, c2, c3, c4, c5⟩ := X1.out.cells
    try simp only at c4
    clear c0 c1 c2 c3 c5 HQ HN2
    have hi2 : (0 : Int) ≤ (i : Int) := hi0
    go_wp2
    exact bodyPost_ret (v := .tuple #[]) (by simp [results, Tryz.results142, go_sem]) rfl ⟨rfl, _, HR.out.1, T1.out.trans HR.out.2⟩
end Go.Proofs.YtiinigifjdpicaaGreatDoor
