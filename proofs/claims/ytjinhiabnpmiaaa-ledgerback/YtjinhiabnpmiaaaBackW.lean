/- The statement on giving and taking back, walked. -/
import Derived.Test.YtjinhiabnpmiaaaBackP
import Derived.Test.YtjinhiabnpmiaaaRefB
import Derived.Test.YtjinhiabnpmiaaaLive
namespace Go.Proofs.Ytjinhiabnpmiaaa
open Go.RowKit
/-- Three accounts in their boxes, and what stays. -/
structure Tri (w : World) (k0 k1 k2 : Nat) (A B C : AccV) (g0 g1 g2 : Value) (wx : World) : Prop where
  e0 : Ent wx k0 A g0
  e1 : Ent wx k1 B g1
  e2 : Ent wx k2 C g2
  bel : Below w.heap.size w wx
theorem Tri.keep {w wx wy : World} {k0 k1 k2 : Nat} {A B C : AccV} {g0 g1 g2 : Value} (h : Tri w k0 k1 k2 A B C g0 g1 g2 wx) (hb : Below wx.heap.size wx wy) : Tri w k0 k1 k2 A B C g0 g1 g2 wy := ⟨h.e0.keep hb, h.e1.keep hb, h.e2.keep hb, below_via h.bel hb⟩
theorem Tri.drew {w wx : World} {k0 k1 k2 : Nat} {A B C : AccV} {g0 g1 g2 : Value} (h : Tri w k0 k1 k2 A B C g0 g1 g2 wx) : Tri w k0 k1 k2 A B C g0 g1 g2 wx.drew := h.keep (Below.refl _ wx).drew
def SixC (k0 k1 k2 : Nat) (A B C : AccV) (g0 g1 g2 : Value) (w' : World) : Prop := w'.cell? ⟨k0, 0, none⟩ = some g0 ∧ w'.cell? ⟨k0, 1, none⟩ = some (.int .i64 A.ct) ∧ w'.cell? ⟨k1, 0, none⟩ = some g1 ∧ w'.cell? ⟨k1, 1, none⟩ = some (.int .i64 B.ct) ∧ w'.cell? ⟨k2, 0, none⟩ = some g2 ∧ w'.cell? ⟨k2, 1, none⟩ = some (.int .i64 C.ct)
theorem Tri.cells {w wx : World} {k0 k1 k2 : Nat} {A B C : AccV} {g0 g1 g2 : Value} (h : Tri w k0 k1 k2 A B C g0 g1 g2 wx) : SixC k0 k1 k2 A B C g0 g1 g2 wx := ⟨h.e0.cells.1, h.e0.cells.2, h.e1.cells.1, h.e1.cells.2, h.e2.cells.1, h.e2.cells.2⟩
theorem Tri.run {w : World} {k0 k1 k2 : Nat} {A B C : AccV} {g0 g1 g2 : Value} {f : Nat} {args : Array Value} {r : Value} (h : ∀ wx, Tri w k0 k1 k2 A B C g0 g1 g2 wx → Calls Try.prog f args wx fun e w' => e = .returned r ∧ Below wx.heap.size wx w') :
    ∀ wx, Tri w k0 k1 k2 A B C g0 g1 g2 wx → Calls Try.prog f args wx fun e w' => e = .returned r ∧ Hid (Tri w k0 k1 k2 A B C g0 g1 g2 w') ∧ SixC k0 k1 k2 A B C g0 g1 g2 w' := fun wx hx => (h wx hx).mono fun _ _ ⟨he, hb⟩ => ⟨he, hx.keep hb, (hx.keep hb).cells⟩
set_option maxHeartbeats 16000000 in
set_option maxRecDepth 100000 in
theorem back_walk (A : AccV) (g : Value) (a n : Int) (w : World) (h : AGot w g A.l) : Calls Try.prog 6 #[accV A g, .int .i64 a, .int .i64 n] w fun e w' => e = .returned (.bool true) ∧ Below w.heap.size w w' := by
  have HL := hideIt (fun W => live_is W)
  have E0 := hideIt (Ent.first h)
  have HT := hideIt (cred_deb (A := A) (a := a) (n := n))
  have HBL := hideIt (cred_bal (A := A) (a := a) (n := n))
  have HZ := hideIt (cred_zero (A := A) (a := a) (n := n))
  have HC1 := hideIt (fun W (hW : AGot W g A.l) => credit_is A g a n W hW)
  have LX := hideIt (cred_len A a n)
  have LY := hideIt (deb_len (credL A a n).1 a n)
  have HC2 := hideIt (fun W gx (hW : AGot W gx (credL A a n).1.l) => debit_is (credL A a n).1 gx a n W hW)
  generalize credL A a n = XX at *
  obtain ⟨X, x⟩ := XX
  simp only at HT HBL HZ HC1 HC2 LX LY
  generalize debL X a n = YY at *
  obtain ⟨Y, y⟩ := YY
  unfold AccErr at HC1 HC2
  simp only at HT HC1 HC2 LY
  obtain ⟨ga, gc, rfl⟩ := h.slice
  unfold accV accA at *
  obtain ⟨l, ct⟩ := A
  simp only at HC1 HC2 HT HBL E0 ⊢
  clear h
  by_cases hx : x = 0
  · subst hx
    have HB0 := hideIt (HBL.out rfl)
    rcases HT.out rfl with ⟨rfl, h9⟩ | ⟨rfl, rfl⟩
    · have H9 := hideIt h9
      clear HT HZ HBL HB0 h9
      go_enter Try.func6, Try.ntmps6
      go_wp2_with fail
      refine (HC1.out _ E0.out.got).mono ?_
      rintro e w1 ⟨gx, rfl, ho, hbl⟩
      dsimp only
      obtain ⟨xa, xc, rfl⟩ := own_len ho
      have C1 := hideIt (below_via hbl (below1 w1 (.cells #[.slice xa X.l.length xc, .int .i64 X.ct] 24)))
      have E1 := hideIt (E0.out.keep C1.out)
      have X1 := hideIt (Ent.new ho LX.out)
      have B1 := hideIt (below_via (below1 w _) C1.out)
      clear ho hbl HC1 C1
      go_upto_region 2 with fail
      unfold accA at X1
      generalize w1.alloc (.cells #[.slice xa X.l.length xc, .int .i64 X.ct] 24) = w2 at *
      generalize w1.heap.size = k1 at *
      obtain ⟨c0, c1⟩ := X1.out.cells
      go_wp2_with fail
      refine (HC2.out _ _ X1.out.got).mono ?_
      rintro e w3 ⟨gy, rfl, ho, hbl⟩
      dsimp only
      obtain ⟨ya, yc, rfl⟩ := own_len ho
      have C3 := hideIt (below_via hbl (below1 w3 (.cells #[.slice ya Y.l.length yc, .int .i64 Y.ct] 24)))
      have E3 := hideIt (E1.out.keep C3.out)
      have X3 := hideIt (X1.out.keep C3.out)
      have Y3 := hideIt (Ent.new ho LY.out)
      have B3 := hideIt (below_via B1.out C3.out)
      clear ho hbl HC2 C3 X1 E1 B1 c0 c1
      go_upto_region 5 with fail
      unfold accA at Y3
      generalize w3.alloc (.cells #[.slice ya Y.l.length yc, .int .i64 Y.ct] 24) = w4 at *
      generalize w3.heap.size = k3 at *
      obtain ⟨c0, c1⟩ := X3.out.cells
      rw [H9.out] at c1
      go_wp2_with fail
      refine (HL.out _).mono ?_
      rintro e w7 ⟨rfl, hbl⟩
      dsimp only
      have HB := hideIt (below_via B3.out hbl)
      clear hbl
      go_wp2
      go_ret
      exact ⟨rfl, HB.out⟩
    · clear HT HZ HBL
      go_enter Try.func6, Try.ntmps6
      go_wp2_with fail
      refine (HC1.out _ E0.out.got).mono ?_
      rintro e w1 ⟨gx, rfl, ho, hbl⟩
      dsimp only
      obtain ⟨xa, xc, rfl⟩ := own_len ho
      have C1 := hideIt (below_via hbl (below1 w1 (.cells #[.slice xa X.l.length xc, .int .i64 X.ct] 24)))
      have E1 := hideIt (E0.out.keep C1.out)
      have X1 := hideIt (Ent.new ho LX.out)
      have B1 := hideIt (below_via (below1 w _) C1.out)
      clear ho hbl HC1 C1
      go_upto_region 2 with fail
      unfold accA at X1
      generalize w1.alloc (.cells #[.slice xa X.l.length xc, .int .i64 X.ct] 24) = w2 at *
      generalize w1.heap.size = k1 at *
      obtain ⟨c0, c1⟩ := X1.out.cells
      try simp only at HC2 LY
      go_wp2_with fail
      refine (HC2.out _ _ X1.out.got).mono ?_
      rintro e w3 ⟨gy, rfl, ho, hbl⟩
      dsimp only
      obtain ⟨ya, yc, rfl⟩ := own_len ho
      have C3 := hideIt (below_via hbl (below1 w3 (.cells #[.slice ya l.length yc, .int .i64 (ct + 2)] 24)))
      have HI : Hid (Tri w w.heap.size k1 w3.heap.size ⟨l, ct⟩ X ⟨l, ct + 2⟩ (.slice ga l.length gc) (.slice xa X.l.length xc) (.slice ya l.length yc) (w3.alloc (.cells #[.slice ya l.length yc, .int .i64 (ct + 2)] 24)).drew) := Tri.drew ⟨E1.out.keep C3.out, X1.out.keep C3.out, Ent.new (A := ⟨l, ct + 2⟩) ho LY.out, below_via B1.out C3.out⟩
      clear ho hbl HC2 C3 X1 E1 B1 c0 c1
      have hwc : IntKind.i64.wrap (ct + 2) = ct + 2 := wrap_ok (by have := HB0.out; omega) (by have := HB0.out; omega)
      go_upto_region 7 with fail
      have HSA := hideIt (Tri.run (w := w) (k0 := w.heap.size) (k1 := k1) (k2 := w3.heap.size) (A := ⟨l, ct⟩) (B := X) (C := ⟨l, ct + 2⟩) (g0 := .slice ga l.length gc) (g1 := .slice xa X.l.length xc) (g2 := .slice ya l.length yc) (fun wx hx => sameAm_is _ _ l wx hx.e2.got hx.e0.got))
      have HB1 := hideIt (Tri.run (w := w) (k0 := w.heap.size) (k1 := k1) (k2 := w3.heap.size) (A := ⟨l, ct⟩) (B := X) (C := ⟨l, ct + 2⟩) (g0 := .slice ga l.length gc) (g1 := .slice xa X.l.length xc) (g2 := .slice ya l.length yc) (fun wx hx => balance_is X _ a wx hx.e1.got))
      have HB2 := hideIt (Tri.run (w := w) (k0 := w.heap.size) (k1 := k1) (k2 := w3.heap.size) (A := ⟨l, ct⟩) (B := X) (C := ⟨l, ct + 2⟩) (g0 := .slice ga l.length gc) (g1 := .slice xa X.l.length xc) (g2 := .slice ya l.length yc) (fun wx hx => balance_is ⟨l, ct⟩ _ a wx hx.e0.got))
      have HLV := hideIt (Tri.run (w := w) (k0 := w.heap.size) (k1 := k1) (k2 := w3.heap.size) (A := ⟨l, ct⟩) (B := X) (C := ⟨l, ct + 2⟩) (g0 := .slice ga l.length gc) (g1 := .slice xa X.l.length xc) (g2 := .slice ya l.length yc) (fun wx _ => live_is wx))
      unfold SixC at HSA HB1 HB2 HLV
      unfold accV accA at HB1 HB2
      simp only at HSA HB1 HB2 HLV
      obtain ⟨hb1, hb2, hb3, hb4⟩ := HB0.out
      rw [hb1] at HB1
      generalize balL l a = B at *
      have hwb : IntKind.i64.wrap (B + n) = B + n := wrap_ok (by omega) (by omega)
      clear hb1 HB0
      refine wp_region_held_drew (S := fun w' => w'.cell? ⟨w.heap.size, 0, none⟩ = some (.slice ga l.length gc) ∧ w'.cell? ⟨w.heap.size, 1, none⟩ = some (.int .i64 ct) ∧ w'.cell? ⟨k1, 0, none⟩ = some (.slice xa X.l.length xc) ∧ w'.cell? ⟨k1, 1, none⟩ = some (.int .i64 X.ct) ∧ w'.cell? ⟨w3.heap.size, 0, none⟩ = some (.slice ya l.length yc) ∧ w'.cell? ⟨w3.heap.size, 1, none⟩ = some (.int .i64 (ct + 2))) (by kernel_rfl) HI.out.cells (fun hHeld => ?_)
      generalize (w3.alloc (.cells #[.slice ya l.length yc, .int .i64 (ct + 2)] 24)).drew = w4 at *
      generalize w3.heap.size = k3 at *
      refine wpAnyH_take (i := 0) (oi := ⟨some 46, _, _, _, _, _⟩) (v := ?_) rfl (by kernel_rfl) (by kernel_rfl) (by kernel_rfl) (fun _ _ _ h => h) (Or.inl ⟨by rfl, ?_⟩) (by assumption) ?_
      rotate_left
      · intro w5 hSw
        (try dsimp only at hSw)
        go_simp
        (try with_reducible rfl)
      try simp only [Act.put, List.setIfInBounds_toArray, List.set_cons_zero, List.set_cons_succ]
      refine wpAnyH_take (i := 1) (oi := ⟨some 47, _, _, _, _, _⟩) (v := ?_) rfl (by kernel_rfl) (by kernel_rfl) (by kernel_rfl) (fun _ _ _ h => h) (Or.inl ⟨by rfl, ?_⟩) (by assumption) ?_
      rotate_left
      · intro w5 hSw
        (try dsimp only at hSw)
        go_simp
        (try with_reducible rfl)
      try simp only [Act.put, List.setIfInBounds_toArray, List.set_cons_zero, List.set_cons_succ]
      refine wpAnyH_take (i := 2) (oi := ⟨some 48, _, _, _, _, _⟩) (v := ?_) rfl (by kernel_rfl) (by kernel_rfl) (by kernel_rfl) (fun _ _ _ h => h) (Or.inl ⟨by rfl, ?_⟩) (by assumption) ?_
      rotate_left
      · intro w5 hSw
        (try dsimp only at hSw)
        go_simp
        (try with_reducible rfl)
      try simp only [Act.put, List.setIfInBounds_toArray, List.set_cons_zero, List.set_cons_succ]
      refine wpAnyH_take (i := 3) (oi := ⟨some 49, _, _, _, _, _⟩) (v := ?_) rfl (by kernel_rfl) (by kernel_rfl) (by kernel_rfl) (fun _ _ _ h => h) (Or.inl ⟨by rfl, ?_⟩) (by assumption) ?_
      rotate_left
      · intro w5 hSw
        (try dsimp only at hSw)
        go_simp
        (try with_reducible rfl)
      try simp only [Act.put, List.setIfInBounds_toArray, List.set_cons_zero, List.set_cons_succ]
      refine wpAnyH_ready (rs := [4]) (by kernel_rfl) (by simp) ?_
      refine AllReadyH.cons (o := ⟨some 50, _, _, _, _, _⟩) rfl (fun K hK => ?_) AllReadyH.nil
      go_simp
      go_at_call 22
      refine (HSA.out _ HI.out).mono ?_
      clear HI
      rintro e w1 ⟨rfl, HI, j0, j1, j2, j3, j4, j5⟩
      refine hK.out _ _ ⟨j0, j1, j2, j3, j4, j5⟩ (fun hHeld => ?_)
      clear hK K
      try simp only [Act.put, List.setIfInBounds_toArray, List.set_cons_zero, List.set_cons_succ]
      refine wpAnyH_take (i := 5) (oi := ⟨some 51, _, _, _, _, _⟩) (v := ?_) rfl (by kernel_rfl) (by kernel_rfl) (by kernel_rfl) (fun _ _ _ h => h) (Or.inl ⟨by rfl, ?_⟩) (by assumption) ?_
      rotate_left
      · intro w5 hSw
        (try dsimp only at hSw)
        go_simp
        (try with_reducible rfl)
      try simp only [Act.put, List.setIfInBounds_toArray, List.set_cons_zero, List.set_cons_succ]
      refine wpAnyH_take (i := 6) (oi := ⟨some 52, _, _, _, _, _⟩) (v := ?_) rfl (by kernel_rfl) (by kernel_rfl) (by kernel_rfl) (fun _ _ _ h => h) (Or.inl ⟨by rfl, ?_⟩) (by assumption) ?_
      rotate_left
      · intro w5 hSw
        (try dsimp only at hSw)
        go_simp
        (try with_reducible rfl)
      try simp only [Act.put, List.setIfInBounds_toArray, List.set_cons_zero, List.set_cons_succ]
      refine wpAnyH_take (i := 7) (oi := ⟨some 53, _, _, _, _, _⟩) (v := ?_) rfl (by kernel_rfl) (by kernel_rfl) (by kernel_rfl) (fun _ _ _ h => h) (Or.inl ⟨by rfl, ?_⟩) (by assumption) ?_
      rotate_left
      · intro w5 hSw
        (try dsimp only at hSw)
        go_simp
        (try with_reducible rfl)
      try simp only [Act.put, List.setIfInBounds_toArray, List.set_cons_zero, List.set_cons_succ]
      refine wpAnyH_take (i := 8) (oi := ⟨some 54, _, _, _, _, _⟩) (v := ?_) rfl (by kernel_rfl) (by kernel_rfl) (by kernel_rfl) (fun _ _ _ h => h) (Or.inl ⟨by rfl, ?_⟩) (by assumption) ?_
      rotate_left
      · intro w5 hSw
        (try dsimp only at hSw)
        go_simp
        (try with_reducible rfl)
      try simp only [Act.put, List.setIfInBounds_toArray, List.set_cons_zero, List.set_cons_succ]
      refine wpAnyH_take (i := 9) (oi := ⟨some 55, _, _, _, _, _⟩) (v := ?_) rfl (by kernel_rfl) (by kernel_rfl) (by kernel_rfl) (fun _ _ _ h => h) (Or.inl ⟨by rfl, ?_⟩) (by assumption) ?_
      rotate_left
      · intro w5 hSw
        (try dsimp only at hSw)
        go_simp
        (try with_reducible rfl)
      try simp only [Act.put, List.setIfInBounds_toArray, List.set_cons_zero, List.set_cons_succ]
      refine wpAnyH_take (i := 10) (oi := ⟨some 56, _, _, _, _, _⟩) (v := ?_) rfl (by kernel_rfl) (by kernel_rfl) (by kernel_rfl) (fun _ _ _ h => h) (Or.inl ⟨by rfl, ?_⟩) (by assumption) ?_
      rotate_left
      · intro w5 hSw
        (try dsimp only at hSw)
        go_simp
        (try with_reducible rfl)
      try simp only [Act.put, List.setIfInBounds_toArray, List.set_cons_zero, List.set_cons_succ]
      refine wpAnyH_take (i := 11) (oi := ⟨some 57, _, _, _, _, _⟩) (v := ?_) rfl (by kernel_rfl) (by kernel_rfl) (by kernel_rfl) (fun _ _ _ h => h) (Or.inl ⟨by rfl, ?_⟩) (by assumption) ?_
      rotate_left
      · intro w5 hSw
        (try dsimp only at hSw)
        go_simp
        (try with_reducible rfl)
      try simp only [Act.put, List.setIfInBounds_toArray, List.set_cons_zero, List.set_cons_succ]
      refine wpAnyH_take (i := 12) (oi := ⟨some 58, _, _, _, _, _⟩) (v := ?_) rfl (by kernel_rfl) (by kernel_rfl) (by kernel_rfl) (fun _ _ _ h => h) (Or.inl ⟨by rfl, ?_⟩) (by assumption) ?_
      rotate_left
      · intro w5 hSw
        (try dsimp only at hSw)
        go_simp
        (try with_reducible rfl)
      try simp only [Act.put, List.setIfInBounds_toArray, List.set_cons_zero, List.set_cons_succ]
      refine wpAnyH_take (i := 13) (oi := ⟨some 59, _, _, _, _, _⟩) (v := ?_) rfl (by kernel_rfl) (by kernel_rfl) (by kernel_rfl) (fun _ _ _ h => h) (Or.inl ⟨by rfl, ?_⟩) (by assumption) ?_
      rotate_left
      · intro w5 hSw
        (try dsimp only at hSw)
        go_simp
        (try with_reducible rfl)
      try simp only [Act.put, List.setIfInBounds_toArray, List.set_cons_zero, List.set_cons_succ]
      refine wpAnyH_take (i := 14) (oi := ⟨some 60, _, _, _, _, _⟩) (v := ?_) rfl (by kernel_rfl) (by kernel_rfl) (by kernel_rfl) (fun _ _ _ h => h) (Or.inl ⟨by rfl, ?_⟩) (by assumption) ?_
      rotate_left
      · intro w5 hSw
        (try dsimp only at hSw)
        go_simp
        (try with_reducible rfl)
      try simp only [Act.put, List.setIfInBounds_toArray, List.set_cons_zero, List.set_cons_succ]
      refine wpAnyH_take (i := 15) (oi := ⟨some 61, _, _, _, _, _⟩) (v := ?_) rfl (by kernel_rfl) (by kernel_rfl) (by kernel_rfl) (fun _ _ _ h => h) (Or.inl ⟨by rfl, ?_⟩) (by assumption) ?_
      rotate_left
      · intro w5 hSw
        (try dsimp only at hSw)
        go_simp
        (try with_reducible rfl)
      try simp only [Act.put, List.setIfInBounds_toArray, List.set_cons_zero, List.set_cons_succ]
      refine wpAnyH_take (i := 17) (oi := ⟨some 63, _, _, _, _, _⟩) (v := ?_) rfl (by kernel_rfl) (by kernel_rfl) (by kernel_rfl) (fun _ _ _ h => h) (Or.inl ⟨by rfl, ?_⟩) (by assumption) ?_
      rotate_left
      · intro w5 hSw
        (try dsimp only at hSw)
        go_simp
        (try with_reducible rfl)
      try simp only [Act.put, List.setIfInBounds_toArray, List.set_cons_zero, List.set_cons_succ]
      refine wpAnyH_take (i := 18) (oi := ⟨some 64, _, _, _, _, _⟩) (v := ?_) rfl (by kernel_rfl) (by kernel_rfl) (by kernel_rfl) (fun _ _ _ h => h) (Or.inl ⟨by rfl, ?_⟩) (by assumption) ?_
      rotate_left
      · intro w5 hSw
        (try dsimp only at hSw)
        go_simp
        (try with_reducible rfl)
      try simp only [Act.put, List.setIfInBounds_toArray, List.set_cons_zero, List.set_cons_succ]
      refine wpAnyH_take (i := 20) (oi := ⟨some 66, _, _, _, _, _⟩) (v := ?_) rfl (by kernel_rfl) (by kernel_rfl) (by kernel_rfl) (fun _ _ _ h => h) (Or.inl ⟨by rfl, ?_⟩) (by assumption) ?_
      rotate_left
      · intro w5 hSw
        (try dsimp only at hSw)
        go_simp
        (try with_reducible rfl)
      try simp only [Act.put, List.setIfInBounds_toArray, List.set_cons_zero, List.set_cons_succ]
      refine wpAnyH_ready (rs := [16]) (by kernel_rfl) (by simp) ?_
      refine AllReadyH.cons (o := ⟨some 62, _, _, _, _, _⟩) rfl (fun K hK => ?_) AllReadyH.nil
      go_simp
      go_at_call 12
      refine (HB1.out _ HI.out).mono ?_
      clear HI
      rintro e w1 ⟨rfl, HI, j0, j1, j2, j3, j4, j5⟩
      refine hK.out _ _ ⟨j0, j1, j2, j3, j4, j5⟩ (fun hHeld => ?_)
      clear hK K
      try simp only [Act.put, List.setIfInBounds_toArray, List.set_cons_zero, List.set_cons_succ]
      refine wpAnyH_ready (rs := [19]) (by kernel_rfl) (by simp) ?_
      refine AllReadyH.cons (o := ⟨some 65, _, _, _, _, _⟩) rfl (fun K hK => ?_) AllReadyH.nil
      go_simp
      go_at_call 12
      refine (HB2.out _ HI.out).mono ?_
      clear HI
      rintro e w1 ⟨rfl, HI, j0, j1, j2, j3, j4, j5⟩
      refine hK.out _ _ ⟨j0, j1, j2, j3, j4, j5⟩ (fun hHeld => ?_)
      clear hK K
      try simp only [Act.put, List.setIfInBounds_toArray, List.set_cons_zero, List.set_cons_succ]
      refine wpAnyH_take (i := 21) (oi := ⟨some 67, _, _, _, _, _⟩) (v := ?_) rfl (by kernel_rfl) (by kernel_rfl) (by kernel_rfl) (fun _ _ _ h => h) (Or.inl ⟨by rfl, ?_⟩) (by assumption) ?_
      rotate_left
      · intro w5 hSw
        (try dsimp only at hSw)
        go_simp
        (try with_reducible rfl)
      try simp only [Act.put, List.setIfInBounds_toArray, List.set_cons_zero, List.set_cons_succ]
      refine wpAnyH_take (i := 22) (oi := ⟨some 68, _, _, _, _, _⟩) (v := ?_) rfl (by kernel_rfl) (by kernel_rfl) (by kernel_rfl) (fun _ _ _ h => h) (Or.inl ⟨by rfl, ?_⟩) (by assumption) ?_
      rotate_left
      · intro w5 hSw
        (try dsimp only at hSw)
        go_simp
        (try with_reducible rfl)
      try simp only [Act.put, List.setIfInBounds_toArray, List.set_cons_zero, List.set_cons_succ]
      refine wpAnyH_take (i := 23) (oi := ⟨some 69, _, _, _, _, _⟩) (v := ?_) rfl (by kernel_rfl) (by kernel_rfl) (by kernel_rfl) (fun _ _ _ h => h) (Or.inl ⟨by rfl, ?_⟩) (by assumption) ?_
      rotate_left
      · intro w5 hSw
        (try dsimp only at hSw)
        go_simp
        (try with_reducible rfl)
      try simp only [Act.put, List.setIfInBounds_toArray, List.set_cons_zero, List.set_cons_succ]
      refine wpAnyH_take (i := 24) (oi := ⟨some 70, _, _, _, _, _⟩) (v := ?_) rfl (by kernel_rfl) (by kernel_rfl) (by kernel_rfl) (fun _ _ _ h => h) (Or.inl ⟨by rfl, ?_⟩) (by assumption) ?_
      rotate_left
      · intro w5 hSw
        (try dsimp only at hSw)
        go_simp
        (try with_reducible rfl)
      try simp only [Act.put, List.setIfInBounds_toArray, List.set_cons_zero, List.set_cons_succ]
      refine wpAnyH_ready (rs := [25]) (by kernel_rfl) (by simp) ?_
      refine AllReadyH.cons (o := ⟨some 71, _, _, _, _, _⟩) rfl (fun K hK => ?_) AllReadyH.nil
      go_simp
      go_at_call 15
      refine (HLV.out _ HI.out).mono ?_
      clear HI
      rintro e w1 ⟨rfl, HI, j0, j1, j2, j3, j4, j5⟩
      refine hK.out _ _ ⟨j0, j1, j2, j3, j4, j5⟩ (fun hHeld => ?_)
      clear hK K
      try simp only [Act.put, List.setIfInBounds_toArray, List.set_cons_zero, List.set_cons_succ]
      refine wpAnyH_take (i := 26) (oi := ⟨some 72, _, _, _, _, _⟩) (v := ?_) rfl (by kernel_rfl) (by kernel_rfl) (by kernel_rfl) (fun _ _ _ h => h) (Or.inl ⟨by rfl, ?_⟩) (by assumption) ?_
      rotate_left
      · intro w5 hSw
        (try dsimp only at hSw)
        go_simp
        (try with_reducible rfl)
      try simp only [Act.put, List.setIfInBounds_toArray, List.set_cons_zero, List.set_cons_succ]
      refine wpAnyH_take (i := 27) (oi := ⟨some 6, _, _, _, _, _⟩) (v := ?_) rfl (by kernel_rfl) (by kernel_rfl) (by kernel_rfl) (fun _ _ _ h => h) (Or.inl ⟨by rfl, ?_⟩) (by assumption) ?_
      rotate_left
      · intro w5 hSw
        (try dsimp only at hSw)
        go_simp
        (try with_reducible rfl)
      try simp only [Act.put, List.setIfInBounds_toArray, List.set_cons_zero, List.set_cons_succ]
      refine wpAnyH_done (by kernel_rfl) ?_ _
      go_wp2
      go_ret
      exact ⟨rfl, HI.out.bel⟩
  · have hxb : (x != 0) = true := by simp [hx]
    have hl0 : X.l.length = 0 := by rw [HZ.out hx]; rfl
    clear HT HC2 HBL HZ hx LY
    simp only [hl0] at HC1
    go_enter Try.func6, Try.ntmps6
    go_wp2_with fail
    refine (HC1.out _ E0.out.got).mono ?_
    rintro e w1 ⟨gx, rfl, ho, hbl⟩
    dsimp only
    obtain ⟨xa, xc, rfl⟩ := own_len ho
    have B1 := hideIt (below_via (below1 w _) (below_via hbl (below1 w1 (.cells #[.slice xa 0 xc, .int .i64 X.ct] 24))))
    have X1 := hideIt (heap_alloc_new w1 (.cells #[.slice xa 0 xc, .int .i64 X.ct] 24))
    clear ho hbl HC1 E0 hl0
    go_upto_region 2 with fail
    generalize w1.alloc (.cells #[.slice xa 0 xc, .int .i64 X.ct] 24) = w2 at *
    generalize w1.heap.size = k1 at *
    have c0 : w2.cell? ⟨k1, 0, none⟩ = some (.slice xa 0 xc) := by rw [cell_at X1.out]; rfl
    clear X1
    go_wp2_with fail
    refine (HL.out _).mono ?_
    rintro e w7 ⟨rfl, hbl⟩
    dsimp only
    have HB := hideIt (below_via B1.out hbl)
    clear hbl
    go_wp2
    go_ret
    exact ⟨rfl, HB.out⟩
end Go.Proofs.Ytjinhiabnpmiaaa
