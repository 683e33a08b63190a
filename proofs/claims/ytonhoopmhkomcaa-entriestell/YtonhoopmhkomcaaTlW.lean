/- The statement on what a log tells, walked. -/
import Derived.Test.YtonhoopmhkomcaaKpW
import Derived.Test.YtonhoopmhkomcaaSp
import Derived.Test.YtonhoopmhkomcaaRFrom
namespace Go.Proofs.Ytonhoopmhkomcaa
open Go.RowKit
theorem LX.run {w : World} {k2 : Nat} {L X : LogV} {g gx : Value} {f : Nat} {args : Array Value} {r : Value} (h : ∀ wx, LX w k2 L X g gx wx → Calls Try.prog f args wx fun e w' => e = .returned r ∧ Below wx.heap.size wx w') :
    ∀ wx, LX w k2 L X g gx wx → Calls Try.prog f args wx fun e w' => e = .returned r ∧ Below wx.heap.size wx w' ∧ Hid (LX w k2 L X g gx w') ∧ w'.cell? ⟨w.heap.size, 0, none⟩ = some (.int .i64 L.bi) ∧ w'.cell? ⟨w.heap.size, 1, none⟩ = some (.int .i64 L.bt) ∧ w'.cell? ⟨w.heap.size, 2, none⟩ = some g ∧ w'.cell? ⟨w.heap.size, 3, none⟩ = some (.int .i64 L.cm) ∧ w'.cell? ⟨k2, 0, none⟩ = some (.int .i64 X.bi) ∧ w'.cell? ⟨k2, 1, none⟩ = some (.int .i64 X.bt) ∧ w'.cell? ⟨k2, 2, none⟩ = some gx ∧ w'.cell? ⟨k2, 3, none⟩ = some (.int .i64 X.cm) := fun wx hx => (h wx hx).mono fun _ _ ⟨he, hb⟩ => ⟨he, hb, hx.keep hb, (hx.keep hb).eight⟩
theorem from_len (L : LogV) (i m : Int) (h : L.l.length * 32 ≤ 140737488355328) : (fromL L i m).length * 32 ≤ 140737488355328 := by
  unfold fromL
  split
  · rw [List.length_take, List.length_drop]
    omega
  · simp
set_option maxHeartbeats 16000000 in
set_option maxRecDepth 100000 in
theorem tell_walk (L : LogV) (g : Value) (i m : Int) (w : World) (h : EGot w g L.l) (hi : i64B i) (hm : i64B m) : Calls Try.prog 3 #[logV L g, .int .i64 i, .int .i64 m] w fun e w' => e = .returned (.bool true) ∧ Below w.heap.size w w' := by
  have HL := hideIt (fun W => live8_is W)
  have E0 := hideIt (Ent.first h)
  have HCO := hideIt (copy_is L g (w.alloc (.cells (logA L g) 26)) E0.out.got)
  have HLN := hideIt h.1
  have HFL := hideIt (from_len L i m h.1)
  have KG := hideIt (fun ga gc (e : g = .slice ga L.l.length gc) => EGot.blk (w := w) (e ▸ h))
  have HTA := hideIt (fun W gx (hW : EGot W gx L.l) => termAt_is L gx i W hW)
  have HTB := hideIt (fun W gx (hW : EGot W gx L.l) => rTermAt_is L gx i W hW)
  have HFR := hideIt (fun W gx (hW : EGot W gx L.l) => from_is L gx i m W hW ⟨hi, hm⟩)
  have HS0 := hideIt (fun g k W hg hk => same_is L g k W hg hk)
  have HSE := hideIt (fun g k W hg hk => sameEnts_is g k (fromL L i m) W hg hk)
  have HK1 := hideIt (fun k1 g' => LX.run (w := w) (k2 := k1) (L := L) (X := L) (g := g) (gx := g') (fun wx hx => check_is L g' wx hx.e1.got))
  have HK2 := hideIt (fun k1 g' => LX.run (w := w) (k2 := k1) (L := L) (X := L) (g := g) (gx := g') (fun wx hx => rCheck_is L g wx hx.e0.got))
  have HK3 := hideIt (fun k1 g' => LX.run (w := w) (k2 := k1) (L := L) (X := L) (g := g) (gx := g') (fun wx hx => last_is L g' wx hx.e1.got))
  have HK4 := hideIt (fun k1 g' => LX.run (w := w) (k2 := k1) (L := L) (X := L) (g := g) (gx := g') (fun wx hx => rLast_is L g wx hx.e0.got))
  have HRF := hideIt (fun wx gx (hx : EGot wx gx L.l) => rFrom_is L gx i m wx hx)
  unfold LogBack at HCO
  unfold EntsBack at HFR HRF
  generalize fromL L i m = D at *
  generalize chkI L = ch at *
  generalize lastL L = la at *
  obtain ⟨la1, la2⟩ := la
  generalize termL L i = te at *
  obtain ⟨te1, te2⟩ := te
  simp only at HK3 HK4 HTA HTB
  have n1 := neq23r la1 la2
  obtain ⟨ga, gc, rfl⟩ := h.slice
  replace KG := hideIt (KG.out ga gc rfl)
  unfold logV logA at *
  obtain ⟨bi, bt, l, cm⟩ := L
  simp only at HCO HTA HTB HFR HRF HS0 HK1 HK2 HK3 HK4 E0 HLN KG ⊢
  have hch : (ch != ch) = false := by simp
  have hte : (te1 != te1) = false := by simp
  have htb : (te2 != te2) = false := by simp
  clear h hi hm
  go_enter Try.func3, Try.ntmps3
  go_wp2_with fail
  refine HCO.out.mono ?_
  rintro e w1 ⟨go, rfl, ho, hbl⟩
  dsimp only
  obtain ⟨oa, oc, rfl⟩ := own_len ho
  have C1 := hideIt (below_via hbl (below1 w1 (.cells #[.int .i64 bi, .int .i64 bt, .slice oa l.length oc, .int .i64 cm] 26)))
  have V1 : Hid (LX w w1.heap.size ⟨bi, bt, l, cm⟩ ⟨bi, bt, l, cm⟩ (.slice ga l.length gc) (.slice oa l.length oc) (w1.alloc (.cells #[.int .i64 bi, .int .i64 bt, .slice oa l.length oc, .int .i64 cm] 26))) := ⟨E0.out.keep C1.out, Ent.new (L := ⟨bi, bt, l, cm⟩) ho HLN.out, below_via (below1 w _) C1.out⟩
  clear ho hbl HCO C1 E0
  go_upto_region 2 with fail
  generalize w1.alloc (.cells #[.int .i64 bi, .int .i64 bt, .slice oa l.length oc, .int .i64 cm] 26) = w2 at *
  generalize w1.heap.size = k1 at *
  have KO := hideIt (EGot.blk V1.out.e1.got)
  try simp only at KO
  have KE := hideIt V1.out.e0.lt
  have KK := hideIt V1.out.e1.lt
  obtain ⟨c0, c1, c2, c3, d0, d1, d2, d3⟩ := V1.out.eight
  simp only at c0 c1 c2 c3 d0 d1 d2 d3
  go_wp2_with fail
  refine (HTA.out _ _ V1.out.e1.got).mono ?_
  rintro e w3 ⟨rfl, hbl⟩
  dsimp only
  have V3 := hideIt (V1.out.keep hbl)
  have Z3 := hideIt hbl.size
  clear hbl HTA c0 c1 c2 c3 d0 d1 d2 d3
  obtain ⟨c0, c1, c2, c3, d0, d1, d2, d3⟩ := V3.out.eight
  simp only at c0 c1 c2 c3 d0 d1 d2 d3
  go_wp2_with fail
  refine (HTB.out _ _ V3.out.e0.got).mono ?_
  rintro e w4 ⟨rfl, hbl⟩
  dsimp only
  have V4 := hideIt (V3.out.keep hbl)
  have Z4 := hideIt hbl.size
  clear hbl HTB c0 c1 c2 c3 d0 d1 d2 d3
  obtain ⟨c0, c1, c2, c3, d0, d1, d2, d3⟩ := V4.out.eight
  simp only at c0 c1 c2 c3 d0 d1 d2 d3
  go_wp2_with fail
  refine (HFR.out _ _ V4.out.e1.got).mono ?_
  rintro e w5 ⟨r, rfl, ho, hbl⟩
  dsimp only
  have V5 := hideIt (V4.out.keep hbl)
  have HO : Hid (w5.ownsRow w2.heap.size 40 3 r D.length (entC D)) := own_base ho (Nat.le_trans Z3.out Z4.out)
  clear ho hbl HFR c0 c1 c2 c3 d0 d1 d2 d3
  obtain ⟨ra, rc, rfl⟩ := own_len HO.out
  go_upto_region 5 with fail
  replace HO := hideIt (own_keep HO.out (Below.refl _ w5).drew)
  have HI := hideIt (V5.out.keep (Below.refl _ w5).drew)
  replace HK1 := hideIt (HK1.out k1 (.slice oa l.length oc))
  replace HK2 := hideIt (HK2.out k1 (.slice oa l.length oc))
  replace HK3 := hideIt (HK3.out k1 (.slice oa l.length oc))
  replace HK4 := hideIt (HK4.out k1 (.slice oa l.length oc))
  clear V1 V3 V4 V5 Z3 Z4
  refine wp_region_held_drew (S := fun w' => w'.cell? ⟨w.heap.size, 0, none⟩ = some (.int .i64 bi) ∧ w'.cell? ⟨w.heap.size, 1, none⟩ = some (.int .i64 bt) ∧ w'.cell? ⟨w.heap.size, 2, none⟩ = some (.slice ga l.length gc) ∧ w'.cell? ⟨w.heap.size, 3, none⟩ = some (.int .i64 cm) ∧ w'.cell? ⟨k1, 0, none⟩ = some (.int .i64 bi) ∧ w'.cell? ⟨k1, 1, none⟩ = some (.int .i64 bt) ∧ w'.cell? ⟨k1, 2, none⟩ = some (.slice oa l.length oc) ∧ w'.cell? ⟨k1, 3, none⟩ = some (.int .i64 cm)) (by kernel_rfl) HI.out.eight (fun hHeld => ?_)
  generalize w5.drew = w6 at *
  refine wpAnyH_take (i := 0) (oi := ⟨some 31, _, _, _, _, _⟩) (v := ?_) rfl (by kernel_rfl) (by kernel_rfl) (by kernel_rfl) (fun _ _ _ h => h) (Or.inl ⟨by rfl, ?_⟩) (by assumption) ?_
  rotate_left
  · intro w5 hSw
    (try dsimp only at hSw)
    go_simp
    (try with_reducible rfl)
  try simp only [Act.put, List.setIfInBounds_toArray, List.set_cons_zero, List.set_cons_succ]
  refine wpAnyH_take (i := 2) (oi := ⟨some 33, _, _, _, _, _⟩) (v := ?_) rfl (by kernel_rfl) (by kernel_rfl) (by kernel_rfl) (fun _ _ _ h => h) (Or.inl ⟨by rfl, ?_⟩) (by assumption) ?_
  rotate_left
  · intro w5 hSw
    (try dsimp only at hSw)
    go_simp
    (try with_reducible rfl)
  try simp only [Act.put, List.setIfInBounds_toArray, List.set_cons_zero, List.set_cons_succ]
  refine wpAnyH_ready (rs := [1]) (by kernel_rfl) (by simp) ?_
  refine AllReadyH.cons (o := ⟨some 32, _, _, _, _, _⟩) rfl (fun K hK => ?_) AllReadyH.nil
  go_simp
  go_at_call 13
  refine (HK1.out _ HI.out).mono ?_
  clear HI
  rintro x w1 ⟨rfl, hbl, HI, j0, j1, j2, j3, j4, j5, j6, j7⟩
  replace HO := hideIt (own_keep HO.out hbl)
  clear hbl
  refine hK.out _ _ ⟨j0, j1, j2, j3, j4, j5, j6, j7⟩ (fun hHeld => ?_)
  clear hK K
  try simp only [Act.put, List.setIfInBounds_toArray, List.set_cons_zero, List.set_cons_succ]
  refine wpAnyH_ready (rs := [3]) (by kernel_rfl) (by simp) ?_
  refine AllReadyH.cons (o := ⟨some 34, _, _, _, _, _⟩) rfl (fun K hK => ?_) AllReadyH.nil
  go_simp
  go_at_call 14
  refine (HK2.out _ HI.out).mono ?_
  clear HI
  rintro x w1 ⟨rfl, hbl, HI, j0, j1, j2, j3, j4, j5, j6, j7⟩
  replace HO := hideIt (own_keep HO.out hbl)
  clear hbl
  refine hK.out _ _ ⟨j0, j1, j2, j3, j4, j5, j6, j7⟩ (fun hHeld => ?_)
  clear hK K
  try simp only [Act.put, List.setIfInBounds_toArray, List.set_cons_zero, List.set_cons_succ]
  refine wpAnyH_take (i := 4) (oi := ⟨some 35, _, _, _, _, _⟩) (v := ?_) rfl (by kernel_rfl) (by kernel_rfl) (by kernel_rfl) (fun _ _ _ h => h) (Or.inl ⟨by rfl, ?_⟩) (by assumption) ?_
  rotate_left
  · intro w5 hSw
    (try dsimp only at hSw)
    go_simp
    (try with_reducible rfl)
  try simp only [Act.put, List.setIfInBounds_toArray, List.set_cons_zero, List.set_cons_succ]
  refine wpAnyH_take (i := 5) (oi := ⟨some 36, _, _, _, _, _⟩) (v := ?_) rfl (by kernel_rfl) (by kernel_rfl) (by kernel_rfl) (fun _ _ _ h => h) (Or.inl ⟨by rfl, ?_⟩) (by assumption) ?_
  rotate_left
  · intro w5 hSw
    (try dsimp only at hSw)
    go_simp
    (try with_reducible rfl)
  try simp only [Act.put, List.setIfInBounds_toArray, List.set_cons_zero, List.set_cons_succ]
  refine wpAnyH_take (i := 6) (oi := ⟨some 37, _, _, _, _, _⟩) (v := ?_) rfl (by kernel_rfl) (by kernel_rfl) (by kernel_rfl) (fun _ _ _ h => h) (Or.inl ⟨by rfl, ?_⟩) (by assumption) ?_
  rotate_left
  · intro w5 hSw
    (try dsimp only at hSw)
    go_simp
    (try with_reducible rfl)
  try simp only [Act.put, List.setIfInBounds_toArray, List.set_cons_zero, List.set_cons_succ]
  refine wpAnyH_take (i := 8) (oi := ⟨some 39, _, _, _, _, _⟩) (v := ?_) rfl (by kernel_rfl) (by kernel_rfl) (by kernel_rfl) (fun _ _ _ h => h) (Or.inl ⟨by rfl, ?_⟩) (by assumption) ?_
  rotate_left
  · intro w5 hSw
    (try dsimp only at hSw)
    go_simp
    (try with_reducible rfl)
  try simp only [Act.put, List.setIfInBounds_toArray, List.set_cons_zero, List.set_cons_succ]
  refine wpAnyH_ready (rs := [7]) (by kernel_rfl) (by simp) ?_
  refine AllReadyH.cons (o := ⟨some 38, _, _, _, _, _⟩) rfl (fun K hK => ?_) AllReadyH.nil
  go_simp
  go_at_call 15
  refine (HK3.out _ HI.out).mono ?_
  clear HI
  rintro x w1 ⟨rfl, hbl, HI, j0, j1, j2, j3, j4, j5, j6, j7⟩
  replace HO := hideIt (own_keep HO.out hbl)
  clear hbl
  refine hK.out _ _ ⟨j0, j1, j2, j3, j4, j5, j6, j7⟩ (fun hHeld => ?_)
  clear hK K
  try simp only [Act.put, List.setIfInBounds_toArray, List.set_cons_zero, List.set_cons_succ]
  refine wpAnyH_ready (rs := [9]) (by kernel_rfl) (by simp) ?_
  refine AllReadyH.cons (o := ⟨some 40, _, _, _, _, _⟩) rfl (fun K hK => ?_) AllReadyH.nil
  go_simp
  go_at_call 16
  refine (HK4.out _ HI.out).mono ?_
  clear HI
  rintro x w1 ⟨rfl, hbl, HI, j0, j1, j2, j3, j4, j5, j6, j7⟩
  replace HO := hideIt (own_keep HO.out hbl)
  clear hbl
  refine hK.out _ _ ⟨j0, j1, j2, j3, j4, j5, j6, j7⟩ (fun hHeld => ?_)
  clear hK K
  try simp only [Act.put, List.setIfInBounds_toArray, List.set_cons_zero, List.set_cons_succ]
  refine wpAnyH_take (i := 10) (oi := ⟨some 41, _, _, _, _, _⟩) (v := ?_) rfl (by kernel_rfl) (by kernel_rfl) (by kernel_rfl) (fun _ _ _ h => h) (Or.inl ⟨by rfl, ?_⟩) (by assumption) ?_
  rotate_left
  · intro w5 hSw
    (try dsimp only at hSw)
    go_simp
    (try with_reducible rfl)
  try simp only [Act.put, List.setIfInBounds_toArray, List.set_cons_zero, List.set_cons_succ]
  refine wpAnyH_take (i := 11) (oi := ⟨some 42, _, _, _, _, _⟩) (v := ?_) rfl (by kernel_rfl) (by kernel_rfl) (by kernel_rfl) (fun _ _ _ h => h) (Or.inl ⟨by rfl, ?_⟩) (by assumption) ?_
  rotate_left
  · intro w5 hSw
    (try dsimp only at hSw)
    go_simp
    (try with_reducible rfl)
  try simp only [Act.put, List.setIfInBounds_toArray, List.set_cons_zero, List.set_cons_succ]
  refine wpAnyH_take (i := 12) (oi := ⟨some 43, _, _, _, _, _⟩) (v := ?_) rfl (by kernel_rfl) (by kernel_rfl) (by kernel_rfl) (fun _ _ _ h => h) (Or.inl ⟨by rfl, ?_⟩) (by assumption) ?_
  rotate_left
  · intro w5 hSw
    (try dsimp only at hSw)
    go_simp
    (try with_reducible rfl)
  try simp only [Act.put, List.setIfInBounds_toArray, List.set_cons_zero, List.set_cons_succ]
  refine wpAnyH_take (i := 13) (oi := ⟨some 44, _, _, _, _, _⟩) (v := ?_) rfl (by kernel_rfl) (by kernel_rfl) (by kernel_rfl) (fun _ _ _ h => h) (Or.inl ⟨by rfl, ?_⟩) (by assumption) ?_
  rotate_left
  · intro w5 hSw
    (try dsimp only at hSw)
    go_simp
    (try with_reducible rfl)
  try simp only [Act.put, List.setIfInBounds_toArray, List.set_cons_zero, List.set_cons_succ]
  refine wpAnyH_take (i := 14) (oi := ⟨some 45, _, _, _, _, _⟩) (v := ?_) rfl (by kernel_rfl) (by kernel_rfl) (by kernel_rfl) (fun _ _ _ h => h) (Or.inl ⟨by rfl, ?_⟩) (by assumption) ?_
  rotate_left
  · intro w5 hSw
    (try dsimp only at hSw)
    go_simp
    (try with_reducible rfl)
  try simp only [Act.put, List.setIfInBounds_toArray, List.set_cons_zero, List.set_cons_succ]
  refine wpAnyH_take (i := 15) (oi := ⟨some 46, _, _, _, _, _⟩) (v := ?_) rfl (by kernel_rfl) (by kernel_rfl) (by kernel_rfl) (fun _ _ _ h => h) (Or.inl ⟨by rfl, ?_⟩) (by assumption) ?_
  rotate_left
  · intro w5 hSw
    (try dsimp only at hSw)
    go_simp
    (try with_reducible rfl)
  try simp only [Act.put, List.setIfInBounds_toArray, List.set_cons_zero, List.set_cons_succ]
  refine wpAnyH_take (i := 16) (oi := ⟨some 47, _, _, _, _, _⟩) (v := ?_) rfl (by kernel_rfl) (by kernel_rfl) (by kernel_rfl) (fun _ _ _ h => h) (Or.inl ⟨by rfl, ?_⟩) (by assumption) ?_
  rotate_left
  · intro w5 hSw
    (try dsimp only at hSw)
    go_simp
    (try with_reducible rfl)
  try simp only [Act.put, List.setIfInBounds_toArray, List.set_cons_zero, List.set_cons_succ]
  refine wpAnyH_take (i := 17) (oi := ⟨some 48, _, _, _, _, _⟩) (v := ?_) rfl (by kernel_rfl) (by kernel_rfl) (by kernel_rfl) (fun _ _ _ h => h) (Or.inl ⟨by rfl, ?_⟩) (by assumption) ?_
  rotate_left
  · intro w5 hSw
    (try dsimp only at hSw)
    go_simp
    (try with_reducible rfl)
  try simp only [Act.put, List.setIfInBounds_toArray, List.set_cons_zero, List.set_cons_succ]
  refine wpAnyH_take (i := 18) (oi := ⟨some 49, _, _, _, _, _⟩) (v := ?_) rfl (by kernel_rfl) (by kernel_rfl) (by kernel_rfl) (fun _ _ _ h => h) (Or.inl ⟨by rfl, ?_⟩) (by assumption) ?_
  rotate_left
  · intro w5 hSw
    (try dsimp only at hSw)
    go_simp
    (try with_reducible rfl)
  try simp only [Act.put, List.setIfInBounds_toArray, List.set_cons_zero, List.set_cons_succ]
  refine wpAnyH_take (i := 19) (oi := ⟨some 50, _, _, _, _, _⟩) (v := ?_) rfl (by kernel_rfl) (by kernel_rfl) (by kernel_rfl) (fun _ _ _ h => h) (Or.inl ⟨by rfl, ?_⟩) (by assumption) ?_
  rotate_left
  · intro w5 hSw
    (try dsimp only at hSw)
    go_simp
    (try with_reducible rfl)
  try simp only [Act.put, List.setIfInBounds_toArray, List.set_cons_zero, List.set_cons_succ]
  refine wpAnyH_take (i := 20) (oi := ⟨some 51, _, _, _, _, _⟩) (v := ?_) rfl (by kernel_rfl) (by kernel_rfl) (by kernel_rfl) (fun _ _ _ h => h) (Or.inl ⟨by rfl, ?_⟩) (by assumption) ?_
  rotate_left
  · intro w5 hSw
    (try dsimp only at hSw)
    go_simp
    (try with_reducible rfl)
  try simp only [Act.put, List.setIfInBounds_toArray, List.set_cons_zero, List.set_cons_succ]
  refine wpAnyH_take (i := 21) (oi := ⟨some 52, _, _, _, _, _⟩) (v := ?_) rfl (by kernel_rfl) (by kernel_rfl) (by kernel_rfl) (fun _ _ _ h => h) (Or.inl ⟨by rfl, ?_⟩) (by assumption) ?_
  rotate_left
  · intro w5 hSw
    (try dsimp only at hSw)
    go_simp
    (try with_reducible rfl)
  try simp only [Act.put, List.setIfInBounds_toArray, List.set_cons_zero, List.set_cons_succ]
  refine wpAnyH_take (i := 22) (oi := ⟨some 53, _, _, _, _, _⟩) (v := ?_) rfl (by kernel_rfl) (by kernel_rfl) (by kernel_rfl) (fun _ _ _ h => h) (Or.inl ⟨by rfl, ?_⟩) (by assumption) ?_
  rotate_left
  · intro w5 hSw
    (try dsimp only at hSw)
    go_simp
    (try with_reducible rfl)
  try simp only [Act.put, List.setIfInBounds_toArray, List.set_cons_zero, List.set_cons_succ]
  refine wpAnyH_take (i := 23) (oi := ⟨some 54, _, _, _, _, _⟩) (v := ?_) rfl (by kernel_rfl) (by kernel_rfl) (by kernel_rfl) (fun _ _ _ h => h) (Or.inl ⟨by rfl, ?_⟩) (by assumption) ?_
  rotate_left
  · intro w5 hSw
    (try dsimp only at hSw)
    go_simp
    (try with_reducible rfl)
  try simp only [Act.put, List.setIfInBounds_toArray, List.set_cons_zero, List.set_cons_succ]
  refine wpAnyH_take (i := 24) (oi := ⟨some 55, _, _, _, _, _⟩) (v := ?_) rfl (by kernel_rfl) (by kernel_rfl) (by kernel_rfl) (fun _ _ _ h => h) (Or.inl ⟨by rfl, ?_⟩) (by assumption) ?_
  rotate_left
  · intro w5 hSw
    (try dsimp only at hSw)
    go_simp
    (try with_reducible rfl)
  try simp only [Act.put, List.setIfInBounds_toArray, List.set_cons_zero, List.set_cons_succ]
  refine wpAnyH_take (i := 25) (oi := ⟨some 56, _, _, _, _, _⟩) (v := ?_) rfl (by kernel_rfl) (by kernel_rfl) (by kernel_rfl) (fun _ _ _ h => h) (Or.inl ⟨by rfl, ?_⟩) (by assumption) ?_
  rotate_left
  · intro w5 hSw
    (try dsimp only at hSw)
    go_simp
    (try with_reducible rfl)
  try simp only [Act.put, List.setIfInBounds_toArray, List.set_cons_zero, List.set_cons_succ]
  refine wpAnyH_take (i := 26) (oi := ⟨some 57, _, _, _, _, _⟩) (v := ?_) rfl (by kernel_rfl) (by kernel_rfl) (by kernel_rfl) (fun _ _ _ h => h) (Or.inl ⟨by rfl, ?_⟩) (by assumption) ?_
  rotate_left
  · intro w5 hSw
    (try dsimp only at hSw)
    go_simp
    (try with_reducible rfl)
  try simp only [Act.put, List.setIfInBounds_toArray, List.set_cons_zero, List.set_cons_succ]
  refine wpAnyH_ready (rs := [27]) (by kernel_rfl) (by simp) ?_
  refine AllReadyH.cons (o := ⟨some 58, _, _, _, _, _⟩) rfl (fun K hK => ?_) AllReadyH.nil
  go_simp
  go_at_call 18
  refine (HRF.out _ _ HI.out.e0.got).mono ?_
  rintro x w7 ⟨r2, rfl, ho2, hbl⟩
  replace HI := hideIt (HI.out.keep hbl)
  replace HO := hideIt (own_keep HO.out hbl)
  have O2 := hideIt ho2
  clear hbl ho2
  refine hK.out _ _ HI.out.eight (fun hHeld => ?_)
  clear hK K
  try simp only [Act.put, List.setIfInBounds_toArray, List.set_cons_zero, List.set_cons_succ]
  refine wpAnyH_ready (rs := [28]) (by kernel_rfl) (by simp) ?_
  refine AllReadyH.cons (o := ⟨some 59, _, _, _, _, _⟩) rfl (fun K hK => ?_) AllReadyH.nil
  go_simp
  go_at_call 17
  refine (HSE.out _ _ _ (own_egot HO.out HFL.out) (own_egot O2.out HFL.out)).mono ?_
  rintro x w8 ⟨rfl, hbl⟩
  replace HI := hideIt (HI.out.keep hbl)
  replace HO := hideIt (own_keep HO.out hbl)
  clear hbl O2
  refine hK.out _ _ HI.out.eight (fun hHeld => ?_)
  clear hK K
  try simp only [Act.put, List.setIfInBounds_toArray, List.set_cons_zero, List.set_cons_succ]
  refine wpAnyH_take (i := 29) (oi := ⟨some 60, _, _, _, _, _⟩) (v := ?_) rfl (by kernel_rfl) (by kernel_rfl) (by kernel_rfl) (fun _ _ _ h => h) (Or.inl ⟨by rfl, ?_⟩) (by assumption) ?_
  rotate_left
  · intro w5 hSw
    (try dsimp only at hSw)
    go_simp
    (try with_reducible rfl)
  try simp only [Act.put, List.setIfInBounds_toArray, List.set_cons_zero, List.set_cons_succ]
  refine wpAnyH_take (i := 30) (oi := ⟨some 61, _, _, _, _, _⟩) (v := ?_) rfl (by kernel_rfl) (by kernel_rfl) (by kernel_rfl) (fun _ _ _ h => h) (Or.inl ⟨by rfl, ?_⟩) (by assumption) ?_
  rotate_left
  · intro w5 hSw
    (try dsimp only at hSw)
    go_simp
    (try with_reducible rfl)
  try simp only [Act.put, List.setIfInBounds_toArray, List.set_cons_zero, List.set_cons_succ]
  refine wpAnyH_done (by kernel_rfl) ?_ _
  clear hHeld HK1 HK2 HK3 HK4 HRF HSE
  have HSP := hideIt (spoil_is _ D w2.heap.size w8 HO.out HFL.out)
  go_wp2_with fail
  refine HSP.out.mono ?_
  rintro e w9 ⟨rfl, hout⟩
  dsimp only
  have ke := KE.out
  have kk := KK.out
  have E9 : Hid (Ent w9 w.heap.size ⟨bi, bt, l, cm⟩ (.slice ga l.length gc)) := Ent.turn (L := ⟨bi, bt, l, cm⟩) HI.out.e0 hout (by omega) (fun hp b off e => by have := KG.out hp b off e; omega)
  have O9 : Hid (Ent w9 k1 ⟨bi, bt, l, cm⟩ (.slice oa l.length oc)) := Ent.turn (L := ⟨bi, bt, l, cm⟩) HI.out.e1 hout (by omega) (fun hp b off e => by have := KO.out hp b off e; omega)
  have B9 := hideIt (below_out HI.out.bel hout (fun k hk => by omega))
  clear hout HSP HO HI ke kk
  obtain ⟨c0, c1, c2, c3⟩ := E9.out.cells
  obtain ⟨d0, d1, d2, d3⟩ := O9.out.cells
  simp only at c0 c1 c2 c3 d0 d1 d2 d3
  go_wp2_with fail
  refine (HS0.out _ _ _ O9.out.got E9.out.got).mono ?_
  rintro e w10 ⟨rfl, hbl⟩
  dsimp only
  have B10 := hideIt (below_via B9.out hbl)
  clear hbl c0 c1 c2 c3 d0 d1 d2 d3
  go_wp2_with fail
  refine (HL.out _).mono ?_
  rintro e w11 ⟨rfl, hbl⟩
  dsimp only
  have HB := hideIt (below_via B10.out hbl)
  clear hbl
  go_wp2
  go_ret
  exact ⟨rfl, HB.out⟩
end Go.Proofs.Ytonhoopmhkomcaa
