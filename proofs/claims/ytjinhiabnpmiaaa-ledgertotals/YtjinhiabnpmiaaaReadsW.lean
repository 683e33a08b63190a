/- The statements on reading and on totals, walked. -/
import Derived.Test.YtjinhiabnpmiaaaLive
import Derived.Test.YtjinhiabnpmiaaaRTotal
namespace Go.Proofs.Ytjinhiabnpmiaaa
open Go.RowKit
/-- Two boxes of the same account, and what stays. -/
structure Pair (w : World) (A : AccV) (k0 k1 : Nat) (g g' : Value) (wx : World) : Prop where
  e0 : Ent wx k0 A g
  e1 : Ent wx k1 A g'
  bel : Below w.heap.size w wx
theorem Pair.keep {w wx wy : World} {A : AccV} {k0 k1 : Nat} {g g' : Value} (h : Pair w A k0 k1 g g' wx) (hb : Below wx.heap.size wx wy) : Pair w A k0 k1 g g' wy := ⟨h.e0.keep hb, h.e1.keep hb, below_via h.bel hb⟩
theorem Pair.drew {w wx : World} {A : AccV} {k0 k1 : Nat} {g g' : Value} (h : Pair w A k0 k1 g g' wx) : Pair w A k0 k1 g g' wx.drew := h.keep (Below.refl _ wx).drew
theorem Pair.run {w : World} {A : AccV} {k0 k1 : Nat} {g g' : Value} {f : Nat} {args : Array Value} {r : Value} (h : ∀ wx, Pair w A k0 k1 g g' wx → Calls Try.prog f args wx fun e w' => e = .returned r ∧ Below wx.heap.size wx w') :
    ∀ wx, Pair w A k0 k1 g g' wx → Calls Try.prog f args wx fun e w' => e = .returned r ∧ Hid (Pair w A k0 k1 g g' w') ∧ w'.cell? ⟨k0, 0, none⟩ = some g ∧ w'.cell? ⟨k0, 1, none⟩ = some (.int .i64 A.ct) ∧ w'.cell? ⟨k1, 0, none⟩ = some g' ∧ w'.cell? ⟨k1, 1, none⟩ = some (.int .i64 A.ct) := fun wx hx => (h wx hx).mono fun _ _ ⟨he, hb⟩ => ⟨he, hx.keep hb, (hx.keep hb).e0.cells.1, (hx.keep hb).e0.cells.2, (hx.keep hb).e1.cells.1, (hx.keep hb).e1.cells.2⟩
set_option maxHeartbeats 8000000 in
set_option maxRecDepth 100000 in
theorem totals_walk (L : List AccV) (v : Value) (w : World) (h : LGot w v L) : Calls Try.prog 5 #[v] w fun e w' => e = .returned (.bool true) ∧ Below w.heap.size w w' := by
  have HL := hideIt (fun W => live_is W)
  have H1 := hideIt (total_is L v w h)
  have H2 := hideIt (fun W (hW : Below w.heap.size w W) => rTotal_is L v W (h.keep hW))
  have hlen : (totL L).1.length * 16 ≤ 140737488355328 := by
    unfold totL
    split
    · have := pre_len (fun k => sumA L k) 4
      simp only
      omega
    · simp
  unfold TotBack at H1 H2
  generalize totL L = X at *
  obtain ⟨D, err⟩ := X
  simp only at H1 H2 hlen
  have HLN := hideIt hlen
  have HS := hideIt (fun g k W hg hk => sameAm_is g k D W hg hk)
  have hee : (err == err) = true := by simp
  obtain ⟨_, a, c, rfl, _⟩ := h
  clear hlen
  go_enter Try.func5, Try.ntmps5
  go_wp2_with fail
  refine H1.out.mono ?_
  rintro e w1 ⟨gx, rfl, hm⟩
  dsimp only
  have M1 := hideIt hm
  clear hm H1
  go_wp2_with fail
  refine (H2.out _ M1.out.bel).mono ?_
  rintro e w2 ⟨gy, rfl, hm⟩
  dsimp only
  have M2 := hideIt hm
  have M3 := hideIt (own_keep M1.out.own hm.bel)
  have B2 := hideIt (below_via M1.out.bel hm.bel)
  clear hm H2 M1
  go_wp2_with fail
  refine (HS.out _ _ _ (own_agot M3.out HLN.out) (own_agot M2.out.own HLN.out)).mono ?_
  rintro e w3 ⟨rfl, hb⟩
  dsimp only
  have B3 := hideIt (below_via B2.out hb)
  clear hb HS M2 M3 B2
  go_wp2_with fail
  refine (HL.out _).mono ?_
  rintro e w4 ⟨rfl, hb⟩
  dsimp only
  have B4 := hideIt (below_via B3.out hb)
  clear hb
  go_wp2
  go_ret
  exact ⟨rfl, B4.out⟩
set_option maxHeartbeats 16000000 in
set_option maxRecDepth 100000 in
theorem reads_walk (A : AccV) (g : Value) (k : Int) (w : World) (h : AGot w g A.l) : Calls Try.prog 3 #[accV A g, .int .i64 k] w fun e w' => e = .returned (.bool true) ∧ Below w.heap.size w w' := by
  have E0 := hideIt (Ent.first h)
  have HC := hideIt (copy_is A g (w.alloc (.cells (accA A g) 24)) E0.out.got)
  have HLN := hideIt h.1
  have HC1 := hideIt (fun k1 g' => Pair.run (w := w) (A := A) (k0 := w.heap.size) (k1 := k1) (g := g) (g' := g') (fun wx hx => check_is A g' wx hx.e1.got))
  have HC2 := hideIt (fun k1 g' => Pair.run (w := w) (A := A) (k0 := w.heap.size) (k1 := k1) (g := g) (g' := g') (fun wx hx => rCheck_is A g wx hx.e0.got))
  have HB1 := hideIt (fun k1 g' => Pair.run (w := w) (A := A) (k0 := w.heap.size) (k1 := k1) (g := g) (g' := g') (fun wx hx => balance_is A g' k wx hx.e1.got))
  have HB2 := hideIt (fun k1 g' => Pair.run (w := w) (A := A) (k0 := w.heap.size) (k1 := k1) (g := g) (g' := g') (fun wx hx => rBalance_is A g k wx hx.e0.got))
  have HS := hideIt (fun k1 g' => Pair.run (w := w) (A := A) (k0 := w.heap.size) (k1 := k1) (g := g) (g' := g') (fun wx hx => same_is A g' g wx hx.e1.got hx.e0.got))
  have HLV := hideIt (fun k1 g' => Pair.run (w := w) (A := A) (k0 := w.heap.size) (k1 := k1) (g := g) (g' := g') (fun wx _ => live_is wx))
  unfold AccBack at HC
  obtain ⟨ga, gc, rfl⟩ := h.slice
  obtain ⟨l, ct⟩ := A
  unfold accV accA at *
  try simp only at HC HC1 HC2 HB1 HB2 HS HLV E0 HLN ⊢
  generalize chkI ⟨l, ct⟩ = C at *
  generalize balL l k = B at *
  clear h
  go_enter Try.func3, Try.ntmps3
  go_wp2_with fail
  refine HC.out.mono ?_
  rintro e w1 ⟨gx, rfl, ho, hbl⟩
  dsimp only
  obtain ⟨xa, xc, rfl⟩ := own_len ho
  have HB := below_via hbl (below1 w1 (.cells #[.slice xa l.length xc, .int .i64 ct] 24))
  have HI : Hid (Pair w ⟨l, ct⟩ w.heap.size w1.heap.size (.slice ga l.length gc) (.slice xa l.length xc) (w1.alloc (.cells #[.slice xa l.length xc, .int .i64 ct] 24)).drew) := Pair.drew ⟨E0.out.keep HB, Ent.new (A := ⟨l, ct⟩) ho HLN.out, below_via (below1 w _) HB⟩
  clear ho hbl HC HB E0
  go_upto_region 2 with fail
  replace HC1 := hideIt (HC1.out w1.heap.size (.slice xa l.length xc))
  replace HC2 := hideIt (HC2.out w1.heap.size (.slice xa l.length xc))
  replace HB1 := hideIt (HB1.out w1.heap.size (.slice xa l.length xc))
  replace HB2 := hideIt (HB2.out w1.heap.size (.slice xa l.length xc))
  replace HS := hideIt (HS.out w1.heap.size (.slice xa l.length xc))
  replace HLV := hideIt (HLV.out w1.heap.size (.slice xa l.length xc))
  try simp only at HC1 HC2 HB1 HB2 HS HLV
  refine wp_region_held_drew (S := fun w' => w'.cell? ⟨w.heap.size, 0, none⟩ = some (.slice ga l.length gc) ∧ w'.cell? ⟨w.heap.size, 1, none⟩ = some (.int .i64 ct) ∧ w'.cell? ⟨w1.heap.size, 0, none⟩ = some (.slice xa l.length xc) ∧ w'.cell? ⟨w1.heap.size, 1, none⟩ = some (.int .i64 ct)) (by kernel_rfl) ⟨HI.out.e0.cells.1, HI.out.e0.cells.2, HI.out.e1.cells.1, HI.out.e1.cells.2⟩ (fun hHeld => ?_)
  generalize (w1.alloc (.cells #[.slice xa l.length xc, .int .i64 ct] 24)).drew = w2 at *
  generalize w1.heap.size = k1 at *
  refine wpAnyH_take (i := 0) (oi := ⟨some 8, _, _, _, _, _⟩) (v := ?_) rfl (by kernel_rfl) (by kernel_rfl) (by kernel_rfl) (fun _ _ _ h => h) (Or.inl ⟨by rfl, ?_⟩) (by assumption) ?_
  rotate_left
  · intro w5 hSw
    (try dsimp only at hSw)
    go_simp
    (try with_reducible rfl)
  try simp only [Act.put, List.setIfInBounds_toArray, List.set_cons_zero, List.set_cons_succ]
  refine wpAnyH_take (i := 2) (oi := ⟨some 10, _, _, _, _, _⟩) (v := ?_) rfl (by kernel_rfl) (by kernel_rfl) (by kernel_rfl) (fun _ _ _ h => h) (Or.inl ⟨by rfl, ?_⟩) (by assumption) ?_
  rotate_left
  · intro w5 hSw
    (try dsimp only at hSw)
    go_simp
    (try with_reducible rfl)
  try simp only [Act.put, List.setIfInBounds_toArray, List.set_cons_zero, List.set_cons_succ]
  refine wpAnyH_ready (rs := [1]) (by kernel_rfl) (by simp) ?_
  refine AllReadyH.cons (o := ⟨some 9, _, _, _, _, _⟩) rfl (fun K hK => ?_) AllReadyH.nil
  go_simp
  go_at_call 10
  refine (HC1.out _ (by first | exact HI.out | exact HI.out.drew)).mono ?_
  clear HI
  rintro e w1 ⟨rfl, HI, j0, j1, j2, j3⟩
  refine hK.out _ _ ⟨j0, j1, j2, j3⟩ (fun hHeld => ?_)
  clear hK K
  try simp only [Act.put, List.setIfInBounds_toArray, List.set_cons_zero, List.set_cons_succ]
  refine wpAnyH_ready (rs := [3]) (by kernel_rfl) (by simp) ?_
  refine AllReadyH.cons (o := ⟨some 11, _, _, _, _, _⟩) rfl (fun K hK => ?_) AllReadyH.nil
  go_simp
  go_at_call 11
  refine (HC2.out _ (by first | exact HI.out | exact HI.out.drew)).mono ?_
  clear HI
  rintro e w1 ⟨rfl, HI, j0, j1, j2, j3⟩
  refine hK.out _ _ ⟨j0, j1, j2, j3⟩ (fun hHeld => ?_)
  clear hK K
  try simp only [Act.put, List.setIfInBounds_toArray, List.set_cons_zero, List.set_cons_succ]
  refine wpAnyH_take (i := 4) (oi := ⟨some 12, _, _, _, _, _⟩) (v := ?_) rfl (by kernel_rfl) (by kernel_rfl) (by kernel_rfl) (fun _ _ _ h => h) (Or.inl ⟨by rfl, ?_⟩) (by assumption) ?_
  rotate_left
  · intro w5 hSw
    (try dsimp only at hSw)
    go_simp
    (try with_reducible rfl)
  try simp only [Act.put, List.setIfInBounds_toArray, List.set_cons_zero, List.set_cons_succ]
  refine wpAnyH_take (i := 5) (oi := ⟨some 13, _, _, _, _, _⟩) (v := ?_) rfl (by kernel_rfl) (by kernel_rfl) (by kernel_rfl) (fun _ _ _ h => h) (Or.inl ⟨by rfl, ?_⟩) (by assumption) ?_
  rotate_left
  · intro w5 hSw
    (try dsimp only at hSw)
    go_simp
    (try with_reducible rfl)
  try simp only [Act.put, List.setIfInBounds_toArray, List.set_cons_zero, List.set_cons_succ]
  refine wpAnyH_take (i := 6) (oi := ⟨some 14, _, _, _, _, _⟩) (v := ?_) rfl (by kernel_rfl) (by kernel_rfl) (by kernel_rfl) (fun _ _ _ h => h) (Or.inl ⟨by rfl, ?_⟩) (by assumption) ?_
  rotate_left
  · intro w5 hSw
    (try dsimp only at hSw)
    go_simp
    (try with_reducible rfl)
  try simp only [Act.put, List.setIfInBounds_toArray, List.set_cons_zero, List.set_cons_succ]
  refine wpAnyH_take (i := 7) (oi := ⟨some 15, _, _, _, _, _⟩) (v := ?_) rfl (by kernel_rfl) (by kernel_rfl) (by kernel_rfl) (fun _ _ _ h => h) (Or.inl ⟨by rfl, ?_⟩) (by assumption) ?_
  rotate_left
  · intro w5 hSw
    (try dsimp only at hSw)
    go_simp
    (try with_reducible rfl)
  try simp only [Act.put, List.setIfInBounds_toArray, List.set_cons_zero, List.set_cons_succ]
  refine wpAnyH_take (i := 9) (oi := ⟨some 17, _, _, _, _, _⟩) (v := ?_) rfl (by kernel_rfl) (by kernel_rfl) (by kernel_rfl) (fun _ _ _ h => h) (Or.inl ⟨by rfl, ?_⟩) (by assumption) ?_
  rotate_left
  · intro w5 hSw
    (try dsimp only at hSw)
    go_simp
    (try with_reducible rfl)
  try simp only [Act.put, List.setIfInBounds_toArray, List.set_cons_zero, List.set_cons_succ]
  refine wpAnyH_take (i := 10) (oi := ⟨some 18, _, _, _, _, _⟩) (v := ?_) rfl (by kernel_rfl) (by kernel_rfl) (by kernel_rfl) (fun _ _ _ h => h) (Or.inl ⟨by rfl, ?_⟩) (by assumption) ?_
  rotate_left
  · intro w5 hSw
    (try dsimp only at hSw)
    go_simp
    (try with_reducible rfl)
  try simp only [Act.put, List.setIfInBounds_toArray, List.set_cons_zero, List.set_cons_succ]
  refine wpAnyH_ready (rs := [8]) (by kernel_rfl) (by simp) ?_
  refine AllReadyH.cons (o := ⟨some 16, _, _, _, _, _⟩) rfl (fun K hK => ?_) AllReadyH.nil
  go_simp
  go_at_call 12
  refine (HB1.out _ (by first | exact HI.out | exact HI.out.drew)).mono ?_
  clear HI
  rintro e w1 ⟨rfl, HI, j0, j1, j2, j3⟩
  refine hK.out _ _ ⟨j0, j1, j2, j3⟩ (fun hHeld => ?_)
  clear hK K
  try simp only [Act.put, List.setIfInBounds_toArray, List.set_cons_zero, List.set_cons_succ]
  refine wpAnyH_ready (rs := [11]) (by kernel_rfl) (by simp) ?_
  refine AllReadyH.cons (o := ⟨some 19, _, _, _, _, _⟩) rfl (fun K hK => ?_) AllReadyH.nil
  go_simp
  go_at_call 13
  refine (HB2.out _ (by first | exact HI.out | exact HI.out.drew)).mono ?_
  clear HI
  rintro e w1 ⟨rfl, HI, j0, j1, j2, j3⟩
  refine hK.out _ _ ⟨j0, j1, j2, j3⟩ (fun hHeld => ?_)
  clear hK K
  try simp only [Act.put, List.setIfInBounds_toArray, List.set_cons_zero, List.set_cons_succ]
  refine wpAnyH_take (i := 12) (oi := ⟨some 20, _, _, _, _, _⟩) (v := ?_) rfl (by kernel_rfl) (by kernel_rfl) (by kernel_rfl) (fun _ _ _ h => h) (Or.inl ⟨by rfl, ?_⟩) (by assumption) ?_
  rotate_left
  · intro w5 hSw
    (try dsimp only at hSw)
    go_simp
    (try with_reducible rfl)
  try simp only [Act.put, List.setIfInBounds_toArray, List.set_cons_zero, List.set_cons_succ]
  refine wpAnyH_take (i := 13) (oi := ⟨some 21, _, _, _, _, _⟩) (v := ?_) rfl (by kernel_rfl) (by kernel_rfl) (by kernel_rfl) (fun _ _ _ h => h) (Or.inl ⟨by rfl, ?_⟩) (by assumption) ?_
  rotate_left
  · intro w5 hSw
    (try dsimp only at hSw)
    go_simp
    (try with_reducible rfl)
  try simp only [Act.put, List.setIfInBounds_toArray, List.set_cons_zero, List.set_cons_succ]
  refine wpAnyH_take (i := 14) (oi := ⟨some 22, _, _, _, _, _⟩) (v := ?_) rfl (by kernel_rfl) (by kernel_rfl) (by kernel_rfl) (fun _ _ _ h => h) (Or.inl ⟨by rfl, ?_⟩) (by assumption) ?_
  rotate_left
  · intro w5 hSw
    (try dsimp only at hSw)
    go_simp
    (try with_reducible rfl)
  try simp only [Act.put, List.setIfInBounds_toArray, List.set_cons_zero, List.set_cons_succ]
  refine wpAnyH_take (i := 15) (oi := ⟨some 23, _, _, _, _, _⟩) (v := ?_) rfl (by kernel_rfl) (by kernel_rfl) (by kernel_rfl) (fun _ _ _ h => h) (Or.inl ⟨by rfl, ?_⟩) (by assumption) ?_
  rotate_left
  · intro w5 hSw
    (try dsimp only at hSw)
    go_simp
    (try with_reducible rfl)
  try simp only [Act.put, List.setIfInBounds_toArray, List.set_cons_zero, List.set_cons_succ]
  refine wpAnyH_take (i := 16) (oi := ⟨some 24, _, _, _, _, _⟩) (v := ?_) rfl (by kernel_rfl) (by kernel_rfl) (by kernel_rfl) (fun _ _ _ h => h) (Or.inl ⟨by rfl, ?_⟩) (by assumption) ?_
  rotate_left
  · intro w5 hSw
    (try dsimp only at hSw)
    go_simp
    (try with_reducible rfl)
  try simp only [Act.put, List.setIfInBounds_toArray, List.set_cons_zero, List.set_cons_succ]
  refine wpAnyH_ready (rs := [17]) (by kernel_rfl) (by simp) ?_
  refine AllReadyH.cons (o := ⟨some 25, _, _, _, _, _⟩) rfl (fun K hK => ?_) AllReadyH.nil
  go_simp
  go_at_call 14
  refine (HS.out _ (by first | exact HI.out | exact HI.out.drew)).mono ?_
  clear HI
  rintro e w1 ⟨rfl, HI, j0, j1, j2, j3⟩
  refine hK.out _ _ ⟨j0, j1, j2, j3⟩ (fun hHeld => ?_)
  clear hK K
  try simp only [Act.put, List.setIfInBounds_toArray, List.set_cons_zero, List.set_cons_succ]
  refine wpAnyH_take (i := 18) (oi := ⟨some 26, _, _, _, _, _⟩) (v := ?_) rfl (by kernel_rfl) (by kernel_rfl) (by kernel_rfl) (fun _ _ _ h => h) (Or.inl ⟨by rfl, ?_⟩) (by assumption) ?_
  rotate_left
  · intro w5 hSw
    (try dsimp only at hSw)
    go_simp
    (try with_reducible rfl)
  try simp only [Act.put, List.setIfInBounds_toArray, List.set_cons_zero, List.set_cons_succ]
  refine wpAnyH_take (i := 19) (oi := ⟨some 27, _, _, _, _, _⟩) (v := ?_) rfl (by kernel_rfl) (by kernel_rfl) (by kernel_rfl) (fun _ _ _ h => h) (Or.inl ⟨by rfl, ?_⟩) (by assumption) ?_
  rotate_left
  · intro w5 hSw
    (try dsimp only at hSw)
    go_simp
    (try with_reducible rfl)
  try simp only [Act.put, List.setIfInBounds_toArray, List.set_cons_zero, List.set_cons_succ]
  refine wpAnyH_ready (rs := [20]) (by kernel_rfl) (by simp) ?_
  refine AllReadyH.cons (o := ⟨some 28, _, _, _, _, _⟩) rfl (fun K hK => ?_) AllReadyH.nil
  go_simp
  go_at_call 15
  refine (HLV.out _ (by first | exact HI.out | exact HI.out.drew)).mono ?_
  clear HI
  rintro e w1 ⟨rfl, HI, j0, j1, j2, j3⟩
  refine hK.out _ _ ⟨j0, j1, j2, j3⟩ (fun hHeld => ?_)
  clear hK K
  try simp only [Act.put, List.setIfInBounds_toArray, List.set_cons_zero, List.set_cons_succ]
  refine wpAnyH_take (i := 21) (oi := ⟨some 29, _, _, _, _, _⟩) (v := ?_) rfl (by kernel_rfl) (by kernel_rfl) (by kernel_rfl) (fun _ _ _ h => h) (Or.inl ⟨by rfl, ?_⟩) (by assumption) ?_
  rotate_left
  · intro w5 hSw
    (try dsimp only at hSw)
    go_simp
    (try with_reducible rfl)
  try simp only [Act.put, List.setIfInBounds_toArray, List.set_cons_zero, List.set_cons_succ]
  refine wpAnyH_take (i := 22) (oi := ⟨some 4, _, _, _, _, _⟩) (v := ?_) rfl (by kernel_rfl) (by kernel_rfl) (by kernel_rfl) (fun _ _ _ h => h) (Or.inl ⟨by rfl, ?_⟩) (by assumption) ?_
  rotate_left
  · intro w5 hSw
    (try dsimp only at hSw)
    go_simp
    (try with_reducible rfl)
  try simp only [Act.put, List.setIfInBounds_toArray, List.set_cons_zero, List.set_cons_succ]
  refine wpAnyH_done (by kernel_rfl) ?_ _
  go_wp2
  go_ret
  exact ⟨rfl, HI.out.bel⟩
end Go.Proofs.Ytjinhiabnpmiaaa
