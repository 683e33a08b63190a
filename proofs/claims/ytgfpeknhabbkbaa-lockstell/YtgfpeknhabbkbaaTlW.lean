/- The statement on what is told, walked. -/
import Derived.Test.YtgfpeknhabbkbaaSpoil
import Derived.Test.YtgfpeknhabbkbaaRefWn
import Derived.Test.YtgfpeknhabbkbaaSdP
namespace Go.Proofs.Ytgfpeknhabbkbaa
open Go.RowKit
set_option linter.all false
theorem row_at3 {w : World} {B n : Nat} {v : Value} {xs : List Value} (ho : w.ownsRow B 44 4 v n xs) : ∃ a c, v = .slice a n c ∧ ∀ i, i < n → ∃ g off cur u, a = some ⟨g, off, none⟩ ∧ B ≤ g ∧ w.heap[g]? = some (.cells cur 44 (0, 0)) ∧ g < w.heap.size ∧ w.cell? ⟨g, off + i * 4 + 3, none⟩ = some u ∧ w.frozen? ⟨g, off + i * 4 + 3, none⟩ = false := by
  obtain ⟨h1, ⟨rfl, rfl⟩ | ⟨g, cap, cur, rfl, hb, hg, hnc, hcm, hs, ht⟩⟩ := ho
  · exact ⟨_, _, rfl, fun i hi => by omega⟩
  · refine ⟨_, _, rfl, fun i hi => ⟨g, 0, cur, cur[0 + i * 4 + 3]'(by omega), rfl, hb, hg, (Array.getElem?_eq_some_iff.1 hg).1, ?_, free_at hg _⟩⟩
    rw [cell_at hg, Array.getElem?_eq_getElem (by omega)]
set_option maxHeartbeats 8000000 in
set_option maxRecDepth 100000 in
theorem tell_walk (T : TabV) (h v : Value) (c q c2 q2 : Int) (w : World) (hT : Tab w T h v) : Calls Try.prog 6 #[.agg #[h, v], .agg #[.int .i64 c, .int .i64 q], .agg #[.int .i64 c2, .int .i64 q2]] w fun e w' => e = .returned (.bool true) ∧ Below w.heap.size w w' := by
  have X0 := hideIt (Bx.first w [.cells #[h, v] 24, .cells #[.int .i64 c, .int .i64 q] 28, .cells #[.int .i64 c2, .int .i64 q2] 28])
  simp only [List.foldl_cons, List.foldl_nil] at X0
  have H1 := hideIt (fun W (hW : Below w.heap.size w W) => rCopy_is T h v W (hT.keep hW))
  have H2 := hideIt (fun h' v' W (hT' : Tab W T h' v') => wounds_is T h' v' W hT')
  have H4 := hideIt (fun T' h' v' h2 v2 W (hT' : Tab W T' h' v') hT2 => same_is T' h' v' h2 v2 W hT' hT2)
  have H5 := hideIt (fun W => live_is W)
  have HT := hideIt (fun W (hW : Below w.heap.size w W) => hT.keep hW)
  have HL := hideIt (And.intro hT.held.1 hT.wait.1)
  have HN : Hid ((wnL T).length * 32 ≤ 140737488355328) := by
    show (wnL T).length * 32 ≤ _
    have := wn_len T
    have := hT.held.1
    omega
  obtain ⟨ha, hc, rfl⟩ := hT.held.slice
  obtain ⟨va, vc, rfl⟩ := hT.wait.slice
  clear hT
  unfold HolsBack at H2
  unfold CopyBack at H1
  go_enter Try.func6, Try.ntmps6
  go_wp2_with fail
  refine (H1.out _ X0.out.bel).mono ?_
  rintro e w1 ⟨h1, v1, rfl, ho, -, hb⟩
  dsimp only
  obtain ⟨ha1, hc1, rfl⟩ := own_len ho.oh
  obtain ⟨va1, vc1, rfl⟩ := own_len ho.ov
  have X1 := hideIt ((X0.out.keep hb).keep (below1 w1 (.cells #[.slice ha1 T.held.length hc1, .slice va1 T.wait.length vc1] 24)))
  have N1 := hideIt (heap_alloc_new w1 (.cells #[.slice ha1 T.held.length hc1, .slice va1 T.wait.length vc1] 24))
  have O1' := ho.keep (below1 w1 (.cells #[.slice ha1 T.held.length hc1, .slice va1 T.wait.length vc1] 24))
  have O1 : Hid (Tab (w1.alloc (.cells #[.slice ha1 T.held.length hc1, .slice va1 T.wait.length vc1] 24)) T (.slice ha1 T.held.length hc1) (.slice va1 T.wait.length vc1)) := ⟨own_sgot O1'.oh HL.out.1, own_sgot O1'.ov HL.out.2⟩
  clear ho hb H1 X0 O1'
  go_upto_region 2 with fail
  generalize w1.alloc (.cells #[.slice ha1 T.held.length hc1, .slice va1 T.wait.length vc1] 24) = W1 at *
  generalize w1.heap.size = K1 at *
  have HQ := hideIt (H2.out _ _ W1 O1.out)
  obtain ⟨p0, p1, -, -, pl⟩ := two_at N1.out
  clear H2
  go_wp2_with fail
  refine HQ.out.mono ?_
  rintro e w2 ⟨h2, rfl, ho, hb⟩
  dsimp only
  obtain ⟨ga, gc, rfl⟩ := own_len ho
  have O2 := hideIt ho
  have BB2 := hideIt hb
  have X2 := hideIt (X1.out.keep hb)
  have N2 := hideIt ((hb.block _ pl).trans N1.out)
  clear ho hb HQ p0 p1 pl
  go_upto_region 3 with fail
  obtain ⟨p0, p1, -, -, pl⟩ := two_at N2.out
  have a0 : w2.cell? ⟨w.heap.size, 0, none⟩ = some (.slice ha T.held.length hc) := X2.out.c 0 0 rfl rfl
  have a1 : w2.cell? ⟨w.heap.size, 1, none⟩ = some (.slice va T.wait.length vc) := X2.out.c 0 1 rfl rfl
  have b0 : w2.cell? ⟨w.heap.size + 1, 0, none⟩ = some (.int .i64 c) := X2.out.c 1 0 rfl rfl
  have b1 : w2.cell? ⟨w.heap.size + 1, 1, none⟩ = some (.int .i64 q) := X2.out.c 1 1 rfl rfl
  have t0 : w2.cell? ⟨w.heap.size + 1 + 1, 0, none⟩ = some (.int .i64 c2) := X2.out.c 2 0 rfl rfl
  have t1 : w2.cell? ⟨w.heap.size + 1 + 1, 1, none⟩ = some (.int .i64 q2) := X2.out.c 2 1 rfl rfl
  have hsz := X2.out.size
  simp only [List.length_cons, List.length_nil] at hsz
  have HS : Hid (∀ W, Below w2.heap.size w2 W → W.cell? ⟨K1, 0, none⟩ = some (.slice ha1 T.held.length hc1) ∧ W.cell? ⟨K1, 1, none⟩ = some (.slice va1 T.wait.length vc1) ∧ W.cell? ⟨w.heap.size, 0, none⟩ = some (.slice ha T.held.length hc) ∧ W.cell? ⟨w.heap.size, 1, none⟩ = some (.slice va T.wait.length vc) ∧ W.cell? ⟨w.heap.size + 1, 0, none⟩ = some (.int .i64 c) ∧ W.cell? ⟨w.heap.size + 1, 1, none⟩ = some (.int .i64 q) ∧ W.cell? ⟨w.heap.size + 1 + 1, 0, none⟩ = some (.int .i64 c2) ∧ W.cell? ⟨w.heap.size + 1 + 1, 1, none⟩ = some (.int .i64 q2)) := by
    intro W hW
    have l0 : w.heap.size < w2.heap.size := by omega
    have l1 : w.heap.size + 1 < w2.heap.size := by omega
    have l2 : w.heap.size + 1 + 1 < w2.heap.size := by omega
    exact ⟨(hW.cell (p := ⟨K1, 0, none⟩) pl).trans p0, (hW.cell (p := ⟨K1, 1, none⟩) pl).trans p1, (hW.cell (p := ⟨w.heap.size, 0, none⟩) l0).trans a0, (hW.cell (p := ⟨w.heap.size, 1, none⟩) l0).trans a1, (hW.cell (p := ⟨w.heap.size + 1, 0, none⟩) l1).trans b0, (hW.cell (p := ⟨w.heap.size + 1, 1, none⟩) l1).trans b1, (hW.cell (p := ⟨w.heap.size + 1 + 1, 0, none⟩) l2).trans t0, (hW.cell (p := ⟨w.heap.size + 1 + 1, 1, none⟩) l2).trans t1⟩
  have C1 := hideIt (fun W (hW : Below w2.heap.size w2 W) => check_is T _ _ W ((O1.out.keep BB2.out).keep hW))
  have C2 := hideIt (fun W (hW : Below w2.heap.size w2 W) => rCheck_is T _ _ W (HT.out W (below_via X2.out.bel hW)))
  have C3 := hideIt (fun W (hW : Below w2.heap.size w2 W) => rWounds_is T _ _ W (HT.out W (below_via X2.out.bel hW)))
  have C4 := hideIt (fun W (hW : Below w2.heap.size w2 W) v' h' => sameH_is _ v' (wnL T) W (own_sgot (bytes := 32) (own_keep O2.out hW) HN.out) h')
  have C5 := hideIt (fun W => older_is c q c2 q2 W)
  have C6 := hideIt (fun W => rOlder_is c q c2 q2 W)
  unfold HolsBack at C3
  generalize oldB (c, q) (c2, q2) = ob at *
  generalize chkI T = ck at *
  have hbb : (ob == ob) = true := by simp
  refine wp_region_held_drew (S := (fun W => W.cell? ⟨K1, 0, none⟩ = some (.slice ha1 T.held.length hc1) ∧ W.cell? ⟨K1, 1, none⟩ = some (.slice va1 T.wait.length vc1) ∧ W.cell? ⟨w.heap.size, 0, none⟩ = some (.slice ha T.held.length hc) ∧ W.cell? ⟨w.heap.size, 1, none⟩ = some (.slice va T.wait.length vc) ∧ W.cell? ⟨w.heap.size + 1, 0, none⟩ = some (.int .i64 c) ∧ W.cell? ⟨w.heap.size + 1, 1, none⟩ = some (.int .i64 q) ∧ W.cell? ⟨w.heap.size + 1 + 1, 0, none⟩ = some (.int .i64 c2) ∧ W.cell? ⟨w.heap.size + 1 + 1, 1, none⟩ = some (.int .i64 q2))) (by kernel_rfl) ⟨p0, p1, a0, a1, b0, b1, t0, t1⟩ (fun hHeld => ?_)
  have HI : Hid (Below w2.heap.size w2 w2.drew) := hideIt (Below.refl _ w2).drew
  refine wpAnyH_take (i := 0) (oi := ⟨some 15, _, _, _, _, _⟩) (v := ?_) rfl (by kernel_rfl) (by kernel_rfl) (by kernel_rfl) (fun _ _ _ h => h) (Or.inl ⟨by rfl, ?_⟩) (by assumption) ?_
  rotate_left
  · intro w5 hSw
    (try dsimp only at hSw)
    go_simp
    (try with_reducible rfl)
  try simp only [Act.put, List.setIfInBounds_toArray, List.set_cons_zero, List.set_cons_succ]
  refine wpAnyH_take (i := 2) (oi := ⟨some 17, _, _, _, _, _⟩) (v := ?_) rfl (by kernel_rfl) (by kernel_rfl) (by kernel_rfl) (fun _ _ _ h => h) (Or.inl ⟨by rfl, ?_⟩) (by assumption) ?_
  rotate_left
  · intro w5 hSw
    (try dsimp only at hSw)
    go_simp
    (try with_reducible rfl)
  try simp only [Act.put, List.setIfInBounds_toArray, List.set_cons_zero, List.set_cons_succ]
  refine wpAnyH_ready (rs := [1]) (by kernel_rfl) (by simp) ?_
  refine AllReadyH.cons (o := ⟨some 16, _, _, _, _, _⟩) rfl (fun K hK => ?_) AllReadyH.nil
  go_simp
  go_at_call 18
  refine (C1.out _ HI.out).mono ?_
  rintro e w9 ⟨rfl, hb⟩
  have HJ := hideIt (below_via HI.out hb)
  clear HI hb p0 p1 a0 a1 b0 b1 t0 t1
  have HI := HJ
  clear HJ
  obtain ⟨p0, p1, a0, a1, b0, b1, t0, t1⟩ := HS.out _ HI.out
  refine hK.out _ _ ⟨p0, p1, a0, a1, b0, b1, t0, t1⟩ (fun hHeld => ?_)
  clear hK K
  try simp only [Act.put, List.setIfInBounds_toArray, List.set_cons_zero, List.set_cons_succ]
  refine wpAnyH_ready (rs := [3]) (by kernel_rfl) (by simp) ?_
  refine AllReadyH.cons (o := ⟨some 18, _, _, _, _, _⟩) rfl (fun K hK => ?_) AllReadyH.nil
  go_simp
  go_at_call 19
  refine (C2.out _ HI.out).mono ?_
  rintro e w9 ⟨rfl, hb⟩
  have HJ := hideIt (below_via HI.out hb)
  clear HI hb p0 p1 a0 a1 b0 b1 t0 t1
  have HI := HJ
  clear HJ
  obtain ⟨p0, p1, a0, a1, b0, b1, t0, t1⟩ := HS.out _ HI.out
  refine hK.out _ _ ⟨p0, p1, a0, a1, b0, b1, t0, t1⟩ (fun hHeld => ?_)
  clear hK K
  try simp only [Act.put, List.setIfInBounds_toArray, List.set_cons_zero, List.set_cons_succ]
  refine wpAnyH_take (i := 4) (oi := ⟨some 19, _, _, _, _, _⟩) (v := ?_) rfl (by kernel_rfl) (by kernel_rfl) (by kernel_rfl) (fun _ _ _ h => h) (Or.inl ⟨by rfl, ?_⟩) (by assumption) ?_
  rotate_left
  · intro w5 hSw
    (try dsimp only at hSw)
    go_simp
    (try with_reducible rfl)
  try simp only [Act.put, List.setIfInBounds_toArray, List.set_cons_zero, List.set_cons_succ]
  refine wpAnyH_take (i := 5) (oi := ⟨some 20, _, _, _, _, _⟩) (v := ?_) rfl (by kernel_rfl) (by kernel_rfl) (by kernel_rfl) (fun _ _ _ h => h) (Or.inl ⟨by rfl, ?_⟩) (by assumption) ?_
  rotate_left
  · intro w5 hSw
    (try dsimp only at hSw)
    go_simp
    (try with_reducible rfl)
  try simp only [Act.put, List.setIfInBounds_toArray, List.set_cons_zero, List.set_cons_succ]
  refine wpAnyH_take (i := 6) (oi := ⟨some 21, _, _, _, _, _⟩) (v := ?_) rfl (by kernel_rfl) (by kernel_rfl) (by kernel_rfl) (fun _ _ _ h => h) (Or.inl ⟨by rfl, ?_⟩) (by assumption) ?_
  rotate_left
  · intro w5 hSw
    (try dsimp only at hSw)
    go_simp
    (try with_reducible rfl)
  try simp only [Act.put, List.setIfInBounds_toArray, List.set_cons_zero, List.set_cons_succ]
  refine wpAnyH_take (i := 7) (oi := ⟨some 22, _, _, _, _, _⟩) (v := ?_) rfl (by kernel_rfl) (by kernel_rfl) (by kernel_rfl) (fun _ _ _ h => h) (Or.inl ⟨by rfl, ?_⟩) (by assumption) ?_
  rotate_left
  · intro w5 hSw
    (try dsimp only at hSw)
    go_simp
    (try with_reducible rfl)
  try simp only [Act.put, List.setIfInBounds_toArray, List.set_cons_zero, List.set_cons_succ]
  refine wpAnyH_ready (rs := [8]) (by kernel_rfl) (by simp) ?_
  refine AllReadyH.cons (o := ⟨some 23, _, _, _, _, _⟩) rfl (fun K hK => ?_) AllReadyH.nil
  go_simp
  go_at_call 21
  refine (C3.out _ HI.out).mono ?_
  rintro e w9 ⟨h5, rfl, ho5, hb⟩
  have O5 := hideIt ho5
  obtain ⟨ga5, gc5, rfl⟩ := own_len ho5
  clear ho5
  have HJ := hideIt (below_via HI.out hb)
  clear HI hb p0 p1 a0 a1 b0 b1 t0 t1
  have HI := HJ
  clear HJ
  obtain ⟨p0, p1, a0, a1, b0, b1, t0, t1⟩ := HS.out _ HI.out
  refine hK.out _ _ ⟨p0, p1, a0, a1, b0, b1, t0, t1⟩ (fun hHeld => ?_)
  clear hK K
  try simp only [Act.put, List.setIfInBounds_toArray, List.set_cons_zero, List.set_cons_succ]
  refine wpAnyH_ready (rs := [9]) (by kernel_rfl) (by simp) ?_
  refine AllReadyH.cons (o := ⟨some 24, _, _, _, _, _⟩) rfl (fun K hK => ?_) AllReadyH.nil
  go_simp
  go_at_call 20
  refine (C4.out _ HI.out _ (own_sgot O5.out HN.out)).mono ?_
  rintro e w9 ⟨rfl, hb⟩
  clear O5
  have HJ := hideIt (below_via HI.out hb)
  clear HI hb p0 p1 a0 a1 b0 b1 t0 t1
  have HI := HJ
  clear HJ
  obtain ⟨p0, p1, a0, a1, b0, b1, t0, t1⟩ := HS.out _ HI.out
  refine hK.out _ _ ⟨p0, p1, a0, a1, b0, b1, t0, t1⟩ (fun hHeld => ?_)
  clear hK K
  try simp only [Act.put, List.setIfInBounds_toArray, List.set_cons_zero, List.set_cons_succ]
  refine wpAnyH_take (i := 10) (oi := ⟨some 25, _, _, _, _, _⟩) (v := ?_) rfl (by kernel_rfl) (by kernel_rfl) (by kernel_rfl) (fun _ _ _ h => h) (Or.inl ⟨by rfl, ?_⟩) (by assumption) ?_
  rotate_left
  · intro w5 hSw
    (try dsimp only at hSw)
    go_simp
    (try with_reducible rfl)
  try simp only [Act.put, List.setIfInBounds_toArray, List.set_cons_zero, List.set_cons_succ]
  refine wpAnyH_take (i := 11) (oi := ⟨some 26, _, _, _, _, _⟩) (v := ?_) rfl (by kernel_rfl) (by kernel_rfl) (by kernel_rfl) (fun _ _ _ h => h) (Or.inl ⟨by rfl, ?_⟩) (by assumption) ?_
  rotate_left
  · intro w5 hSw
    (try dsimp only at hSw)
    go_simp
    (try with_reducible rfl)
  try simp only [Act.put, List.setIfInBounds_toArray, List.set_cons_zero, List.set_cons_succ]
  refine wpAnyH_take (i := 12) (oi := ⟨some 27, _, _, _, _, _⟩) (v := ?_) rfl (by kernel_rfl) (by kernel_rfl) (by kernel_rfl) (fun _ _ _ h => h) (Or.inl ⟨by rfl, ?_⟩) (by assumption) ?_
  rotate_left
  · intro w5 hSw
    (try dsimp only at hSw)
    go_simp
    (try with_reducible rfl)
  try simp only [Act.put, List.setIfInBounds_toArray, List.set_cons_zero, List.set_cons_succ]
  refine wpAnyH_take (i := 13) (oi := ⟨some 28, _, _, _, _, _⟩) (v := ?_) rfl (by kernel_rfl) (by kernel_rfl) (by kernel_rfl) (fun _ _ _ h => h) (Or.inl ⟨by rfl, ?_⟩) (by assumption) ?_
  rotate_left
  · intro w5 hSw
    (try dsimp only at hSw)
    go_simp
    (try with_reducible rfl)
  try simp only [Act.put, List.setIfInBounds_toArray, List.set_cons_zero, List.set_cons_succ]
  refine wpAnyH_take (i := 15) (oi := ⟨some 30, _, _, _, _, _⟩) (v := ?_) rfl (by kernel_rfl) (by kernel_rfl) (by kernel_rfl) (fun _ _ _ h => h) (Or.inl ⟨by rfl, ?_⟩) (by assumption) ?_
  rotate_left
  · intro w5 hSw
    (try dsimp only at hSw)
    go_simp
    (try with_reducible rfl)
  try simp only [Act.put, List.setIfInBounds_toArray, List.set_cons_zero, List.set_cons_succ]
  refine wpAnyH_take (i := 16) (oi := ⟨some 31, _, _, _, _, _⟩) (v := ?_) rfl (by kernel_rfl) (by kernel_rfl) (by kernel_rfl) (fun _ _ _ h => h) (Or.inl ⟨by rfl, ?_⟩) (by assumption) ?_
  rotate_left
  · intro w5 hSw
    (try dsimp only at hSw)
    go_simp
    (try with_reducible rfl)
  try simp only [Act.put, List.setIfInBounds_toArray, List.set_cons_zero, List.set_cons_succ]
  refine wpAnyH_ready (rs := [14]) (by kernel_rfl) (by simp) ?_
  refine AllReadyH.cons (o := ⟨some 29, _, _, _, _, _⟩) rfl (fun K hK => ?_) AllReadyH.nil
  go_simp
  go_at_call 22
  refine (C5.out _).mono ?_
  rintro e w9 ⟨rfl, hb⟩
  have HJ := hideIt (below_via HI.out hb)
  clear HI hb p0 p1 a0 a1 b0 b1 t0 t1
  have HI := HJ
  clear HJ
  obtain ⟨p0, p1, a0, a1, b0, b1, t0, t1⟩ := HS.out _ HI.out
  refine hK.out _ _ ⟨p0, p1, a0, a1, b0, b1, t0, t1⟩ (fun hHeld => ?_)
  clear hK K
  try simp only [Act.put, List.setIfInBounds_toArray, List.set_cons_zero, List.set_cons_succ]
  refine wpAnyH_ready (rs := [17]) (by kernel_rfl) (by simp) ?_
  refine AllReadyH.cons (o := ⟨some 32, _, _, _, _, _⟩) rfl (fun K hK => ?_) AllReadyH.nil
  go_simp
  go_at_call 23
  refine (C6.out _).mono ?_
  rintro e w9 ⟨rfl, hb⟩
  have HJ := hideIt (below_via HI.out hb)
  clear HI hb p0 p1 a0 a1 b0 b1 t0 t1
  have HI := HJ
  clear HJ
  obtain ⟨p0, p1, a0, a1, b0, b1, t0, t1⟩ := HS.out _ HI.out
  refine hK.out _ _ ⟨p0, p1, a0, a1, b0, b1, t0, t1⟩ (fun hHeld => ?_)
  clear hK K
  try simp only [Act.put, List.setIfInBounds_toArray, List.set_cons_zero, List.set_cons_succ]
  refine wpAnyH_take (i := 18) (oi := ⟨some 33, _, _, _, _, _⟩) (v := ?_) rfl (by kernel_rfl) (by kernel_rfl) (by kernel_rfl) (fun _ _ _ h => h) (Or.inl ⟨by rfl, ?_⟩) (by assumption) ?_
  rotate_left
  · intro w5 hSw
    (try dsimp only at hSw)
    go_simp
    (try with_reducible rfl)
  try simp only [Act.put, List.setIfInBounds_toArray, List.set_cons_zero, List.set_cons_succ]
  refine wpAnyH_take (i := 19) (oi := ⟨some 34, _, _, _, _, _⟩) (v := ?_) rfl (by kernel_rfl) (by kernel_rfl) (by kernel_rfl) (fun _ _ _ h => h) (Or.inl ⟨by rfl, ?_⟩) (by assumption) ?_
  rotate_left
  · intro w5 hSw
    (try dsimp only at hSw)
    go_simp
    (try with_reducible rfl)
  try simp only [Act.put, List.setIfInBounds_toArray, List.set_cons_zero, List.set_cons_succ]
  refine wpAnyH_take (i := 20) (oi := ⟨some 9, _, _, _, _, _⟩) (v := ?_) rfl (by kernel_rfl) (by kernel_rfl) (by kernel_rfl) (fun _ _ _ h => h) (Or.inl ⟨by rfl, ?_⟩) (by assumption) ?_
  rotate_left
  · intro w5 hSw
    (try dsimp only at hSw)
    go_simp
    (try with_reducible rfl)
  try simp only [Act.put, List.setIfInBounds_toArray, List.set_cons_zero, List.set_cons_succ]
  refine wpAnyH_done (by kernel_rfl) ?_ _
  clear C1 C2 C3 C4 C5 C6 HS p0 p1 a0 a1 b0 b1 t0 t1 pl hbb
  have Z0 : Hid ((∃ xs, w9.ownsRow W1.heap.size 44 4 (.slice ga (wnL T).length gc) (wnL T).length xs) ∧ Below W1.heap.size W1 w9) := ⟨⟨_, own_keep O2.out HI.out⟩, below_via BB2.out HI.out⟩
  clear O2 HI X2 N2 BB2 hsz
  have hn := HN.out
  generalize (wnL T).length = n at *
  go_upto_region 5 with fail
  go_loopw [10] (fun v wr => ∃ t : Nat, v = .int .i64 t ∧ t ≤ n ∧ Hid ((∃ xs, wr.ownsRow W1.heap.size 44 4 (.slice ga n gc) n xs) ∧ Below W1.heap.size W1 wr)) (fun v _ => n - (intOf v).toNat)
  case atStart => exact ⟨0, rfl, Nat.zero_le _, Z0⟩
  case round =>
    clear Z0
    obtain ⟨t, rfl, ht, X⟩ := hrel
    by_cases hlt : t < n
    · have hltI : (t : Int) < (n : Int) := by omega
      have ht0 : (0 : Int) ≤ (t : Int) := by omega
      have hw : IntKind.i64.wrap ((t : Int) + 1) = ((t + 1 : Nat) : Int) := by rw [IntKind.wrap_i64]; omega
      obtain ⟨xs, hx⟩ := X.out.1
      obtain ⟨a', c', e, hr⟩ := row_at3 hx
      simp only [Value.slice.injEq, true_and] at e
      obtain ⟨rfl, rfl⟩ := e
      obtain ⟨g, off, cur, u, rfl, hBg, hg, hgl, hcu, hf⟩ := hr t hlt
      have Z : Hid ((∃ xs, (wr.setCell ⟨g, off + t * 4 + 3, none⟩ (.int .i64 (-1))).ownsRow W1.heap.size 44 4 (.slice (some ⟨g, off, none⟩) n gc) n xs) ∧ Below W1.heap.size W1 (wr.setCell ⟨g, off + t * 4 + 3, none⟩ (.int .i64 (-1)))) := ⟨row_set hx hg, belowSet _ X.out.2 hBg⟩
      clear hr hx hg X
      go_wp2
      go_roundw
      case rel => exact ⟨t + 1, by go_num, by omega, Z⟩
      case measure => simp [intOf]; omega
    · have hltI : ¬ (t : Int) < (n : Int) := by omega
      have X6 := hideIt (X1.out.keep X.out.2)
      have N6 := hideIt ((X.out.2.block _ (Array.getElem?_eq_some_iff.1 N1.out).1).trans N1.out)
      have HQ2 := hideIt (H4.out T _ _ _ _ wr (O1.out.keep X.out.2) (HT.out wr X6.out.bel))
      obtain ⟨p0, p1, -, -, -⟩ := two_at N6.out
      have a0 : wr.cell? ⟨w.heap.size, 0, none⟩ = some (.slice ha T.held.length hc) := X6.out.c 0 0 rfl rfl
      have a1 : wr.cell? ⟨w.heap.size, 1, none⟩ = some (.slice va T.wait.length vc) := X6.out.c 0 1 rfl rfl
      go_upto_region 8 with fail
      go_wp2_with fail
      refine HQ2.out.mono ?_
      rintro e w7 ⟨rfl, hb⟩
      dsimp only
      have B7 := hideIt (below_via X6.out.bel hb)
      clear hb HQ2 p0 p1 a0 a1
      go_wp2_with fail
      refine (H5.out _).mono ?_
      rintro e w8 ⟨rfl, hb⟩
      dsimp only
      have B8 := hideIt (below_via B7.out hb)
      clear hb
      go_wp2
      go_ret
      exact ⟨rfl, B8.out⟩
end Go.Proofs.Ytgfpeknhabbkbaa
