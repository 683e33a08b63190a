/- The statement on what goes from one account to another, walked. -/
import Derived.Test.YtjinhiabnpmiaaaBackP
import Derived.Deep.CutRange
import Derived.Test.YtjinhiabnpmiaaaTotal
import Derived.Test.YtjinhiabnpmiaaaLive
namespace Go.Proofs.Ytjinhiabnpmiaaa
open Go.RowKit
theorem tot_two {A B : AccV} (hA : accB A = true) (hB : accB B = true) : totL [A, B] = (pre (fun k => balL A.l k + balL B.l k) 4, 0) := by
  unfold totL
  rw [if_pos ⟨by simp, by simp [hA, hB]⟩]
  simp only [Prod.mk.injEq, and_true]
  exact pre_congr 4 fun k _ => by simp [sumA]
/-- What goes from one account to another changes nothing of what both have. -/
theorem keeps_tot {A B : AccV} {a n : Int} (h : (debL A a n).2 = 0) (k : (credL B a n).2 = 0) : ∃ D, D.length * 16 ≤ 140737488355328 ∧ totL [A, B] = (D, 0) ∧ totL [(debL A a n).1, (credL B a n).1] = (D, 0) := by
  obtain ⟨hr, hb, hc, e⟩ := deb_ok h
  obtain ⟨kr, kb, kc, f⟩ := cred_ok k
  obtain ⟨hA, ha, hn⟩ := refI_in hr
  obtain ⟨hB, _, _⟩ := refI_in kr
  obtain ⟨hA1, hA2, hA3⟩ := accB_in hA
  obtain ⟨hB1, hB2, hB3⟩ := accB_in hB
  have a0 := bal_in A.l _ a hA1
  have b0 := bal_in B.l _ a hB1
  have hM : 0 ≤ balL A.l a + -n ∧ balL A.l a + -n ≤ 9007199254740992 := by omega
  have kM : 0 ≤ balL B.l a + n ∧ balL B.l a + n ≤ 9007199254740992 := by omega
  refine ⟨pre (fun k => balL A.l k + balL B.l k) 4, ?_, tot_two hA hB, ?_⟩
  · have := pre_len (fun k : Nat => balL A.l k + balL B.l k) 4
    omega
  · rw [e, f, tot_two (accB_mk (more_ok hA1 hM) (by simp only; omega)) (accB_mk (more_ok hB1 kM) (by simp only; omega))]
    simp only [Prod.mk.injEq, and_true]
    refine pre_congr 4 fun k hk => ?_
    rw [more_bal hA1 hM k hk, more_bal hB1 kM k hk]
    unfold moreS
    split <;> omega
/-- Two accounts in their boxes, and what stays. -/
structure Duet (w : World) (k0 k1 : Nat) (A B : AccV) (g0 g1 : Value) (wx : World) : Prop where
  e0 : Ent wx k0 A g0
  e1 : Ent wx k1 B g1
  bel : Below w.heap.size w wx
theorem Duet.keep {w wx wy : World} {k0 k1 : Nat} {A B : AccV} {g0 g1 : Value} (h : Duet w k0 k1 A B g0 g1 wx) (hb : Below wx.heap.size wx wy) : Duet w k0 k1 A B g0 g1 wy := ⟨h.e0.keep hb, h.e1.keep hb, below_via h.bel hb⟩
theorem duet1 {w : World} {A B : AccV} {g k : Value} (o : Obj) (h : AGot w g A.l) (hk : AGot w k B.l) : Duet w (w.heap.size + 1) (w.heap.size + 1 + 1) A B g k (((w.alloc o).alloc (.cells (accA A g) 24)).alloc (.cells (accA B k) 24)).drew := by
  have hH := three_heap w o (.cells (accA A g) 24) (.cells (accA B k) 24)
  have hB := below3 w o (.cells (accA A g) 24) (.cells (accA B k) 24)
  exact ⟨⟨hH.2.1, (h.keep hB).keep (Below.refl _ _).drew⟩, ⟨hH.2.2.1, (hk.keep hB).keep (Below.refl _ _).drew⟩, hB.drew⟩
theorem duet2 {w : World} {A B : AccV} {g k : Value} (o : Obj) (h : AGot w g A.l) (hk : AGot w k B.l) : Duet w (w.heap.size + 1 + 1) (w.heap.size + 1) A B g k (((w.alloc o).alloc (.cells (accA B k) 24)).alloc (.cells (accA A g) 24)).drew :=
  have h := duet1 o hk h
  ⟨h.e1, h.e0, h.bel⟩
/-- Two accounts side by side. -/
theorem two_got {w wx : World} {k0 k1 : Nat} {A B : AccV} {g0 g1 : Value} (h : Duet w k0 k1 A B g0 g1 wx) : LGot (wx.alloc (.cells #[g0, .int .i64 A.ct, g1, .int .i64 B.ct] 24)) (.slice (some ⟨wx.heap.size, 0, none⟩) 2 2) [A, B] := by
  have hb := below1 wx (.cells #[g0, .int .i64 A.ct, g1, .int .i64 B.ct] 24)
  have hn := heap_alloc_new wx (.cells #[g0, .int .i64 A.ct, g1, .int .i64 B.ct] 24)
  refine ⟨by simp, _, 2, rfl, fun i hi => ?_⟩
  have hi2 : i < 2 := by simpa using hi
  rcases (by omega : i = 0 ∨ i = 1) with rfl | rfl
  · exact ⟨_, 0, g0, rfl, by simp, by rw [cell_at hn]; rfl, by rw [cell_at hn]; rfl, h.e0.got.keep hb⟩
  · exact ⟨_, 0, g1, rfl, by simp, by rw [cell_at hn]; rfl, by rw [cell_at hn]; rfl, h.e1.got.keep hb⟩
set_option maxHeartbeats 16000000 in
set_option maxRecDepth 100000 in
theorem keeps_walk (A B : AccV) (g k : Value) (a n : Int) (w : World) (h : AGot w g A.l) (hk : AGot w k B.l) : Calls Try.prog 7 #[.agg #[g, .int .i64 A.ct, k, .int .i64 B.ct, .int .i64 a, .int .i64 n]] w fun e w' => e = .returned (.bool true) ∧ Below w.heap.size w w' := by
  have HL := hideIt (fun W => live_is W)
  have HT := hideIt (keeps_tot (A := A) (B := B) (a := a) (n := n))
  have HD := hideIt (fun W (hW : AGot W g A.l) => debit_is A g a n W hW)
  have HC := hideIt (fun W (hW : AGot W k B.l) => credit_is B k a n W hW)
  have LP := hideIt (deb_len A a n)
  have LQ := hideIt (cred_len B a n)
  have X1 := hideIt (duet1 (w := w) (A := A) (B := B) (.cells #[g, .int .i64 A.ct, k, .int .i64 B.ct, .int .i64 a, .int .i64 n] 43) h hk)
  have X2 := hideIt (duet2 (w := w) (A := A) (B := B) (.cells #[g, .int .i64 A.ct, k, .int .i64 B.ct, .int .i64 a, .int .i64 n] 43) h hk)
  generalize debL A a n = PP at *
  obtain ⟨P, p⟩ := PP
  generalize credL B a n = QQ at *
  obtain ⟨Q, q⟩ := QQ
  unfold AccErr at HD HC
  unfold accV accA at *
  obtain ⟨ga, gc, rfl⟩ := h.slice
  obtain ⟨ka, kc, rfl⟩ := hk.slice
  obtain ⟨l, ct⟩ := A
  obtain ⟨m, cu⟩ := B
  simp only at h hk HT HD HC LP LQ X1 X2 ⊢
  clear h hk
  go_enter Try.func7, Try.ntmps7
  go_upto_region 1 with fail
  go_cut [3, 4, 5, 6] from 15 to 22 (fun x y z u wx => ∃ k0 k1, x = .pointer (some ⟨k0, 0, none⟩) ∧ y = .pointer (some ⟨k1, 0, none⟩) ∧ z = .int .i64 a ∧ u = .int .i64 n ∧ Hid (Duet w k0 k1 ⟨l, ct⟩ ⟨m, cu⟩ (.slice ga l.length gc) (.slice ka m.length kc) wx))
  case first =>
    go_region
    all_goals go_wp2_with fail
    all_goals go_meet
    · exact ⟨_, _, rfl, rfl, rfl, rfl, X1⟩
    · exact ⟨_, _, rfl, rfl, rfl, rfl, X2⟩
  case rest =>
    obtain ⟨k0, kb, rfl, rfl, rfl, rfl, HX⟩ := hcut
    clear X1 X2
    obtain ⟨c0, c1⟩ := HX.out.e0.cells
    obtain ⟨d0, d1⟩ := HX.out.e1.cells
    simp only at c0 c1 d0 d1
    go_wp2_with fail
    refine (HD.out _ HX.out.e0.got).mono ?_
    rintro e w1 ⟨gx, rfl, ho, hbl⟩
    dsimp only
    obtain ⟨xa, xc, rfl⟩ := own_len ho
    have C1 := hideIt (below_via hbl (below1 w1 (.cells #[.slice xa P.l.length xc, .int .i64 P.ct] 24)))
    have HX1 := hideIt (HX.out.keep C1.out)
    have P1 := hideIt (Ent.new ho LP.out)
    clear ho hbl HD C1 HX c0 c1 d0 d1
    go_upto_region 3 with fail
    unfold accA at P1
    generalize w1.alloc (.cells #[.slice xa P.l.length xc, .int .i64 P.ct] 24) = w2 at *
    generalize w1.heap.size = k1 at *
    obtain ⟨c0, c1⟩ := HX1.out.e1.cells
    simp only at c0 c1
    go_wp2_with fail
    refine (HC.out _ HX1.out.e1.got).mono ?_
    rintro e w3 ⟨gy, rfl, ho, hbl⟩
    dsimp only
    obtain ⟨ya, yc, rfl⟩ := own_len ho
    have C3 := hideIt (below_via hbl (below1 w3 (.cells #[.slice ya Q.l.length yc, .int .i64 Q.ct] 24)))
    have HX3 := hideIt (HX1.out.keep C3.out)
    have D3 : Hid (Duet w k1 w3.heap.size P Q (.slice xa P.l.length xc) (.slice ya Q.l.length yc) (w3.alloc (.cells #[.slice ya Q.l.length yc, .int .i64 Q.ct] 24))) := ⟨P1.out.keep C3.out, Ent.new ho LQ.out, HX3.out.bel⟩
    clear ho hbl HC C3 HX1 P1 c0 c1
    go_upto_region 4 with fail
    generalize w3.alloc (.cells #[.slice ya Q.l.length yc, .int .i64 Q.ct] 24) = w4 at *
    generalize w3.heap.size = k3 at *
    have B4 := hideIt HX3.out.bel
    by_cases hp : p = 0
    · subst hp
      by_cases hq : q = 0
      · subst hq
        obtain ⟨D, hD, e1, e2⟩ := HT.out rfl rfl
        have HLN := hideIt hD
        have HS := hideIt (fun g k W hg hk => sameAm_is g k D W hg hk)
        have HT1 := hideIt (total_is [⟨l, ct⟩, ⟨m, cu⟩] _ _ (two_got HX3.out))
        have HT2 := hideIt (fun wx hx => total_is [P, Q] _ _ (two_got (wx := wx) (D3.out.keep hx)))
        rw [e1] at HT1
        rw [e2] at HT2
        unfold TotBack at HT1 HT2
        simp only at HT1 HT2
        clear e1 e2 hD HT
        obtain ⟨c0, c1⟩ := HX3.out.e0.cells
        obtain ⟨d0, d1⟩ := HX3.out.e1.cells
        simp only at c0 c1 d0 d1
        have HZ1 := hideIt (below1 w4 (.cells #[.slice ga l.length gc, .int .i64 ct, .slice ka m.length kc, .int .i64 cu] 24))
        go_wp2_with fail
        refine HT1.out.mono ?_
        rintro e w5 ⟨r1, rfl, hm⟩
        dsimp only
        have M1 := hideIt hm
        have Z5 := hideIt (below_via HZ1.out hm.bel)
        clear hm HT1 c0 c1 d0 d1
        have D5 := hideIt (D3.out.keep Z5.out)
        obtain ⟨c0, c1⟩ := D5.out.e0.cells
        obtain ⟨d0, d1⟩ := D5.out.e1.cells
        have HZ2 := hideIt (below1 w5 (.cells #[.slice xa P.l.length xc, .int .i64 P.ct, .slice ya Q.l.length yc, .int .i64 Q.ct] 24))
        go_wp2_with fail
        refine (HT2.out _ Z5.out).mono ?_
        rintro e w6 ⟨r2, rfl, hm⟩
        dsimp only
        have M2 := hideIt hm
        have Z6 := hideIt (below_via HZ2.out hm.bel)
        have M3 := hideIt (own_keep M1.out.own Z6.out)
        have B6 := hideIt (below_via B4.out (below_via Z5.out Z6.out))
        clear hm HT2 c0 c1 d0 d1 M1 Z5 Z6 HZ1 HZ2 D3 D5 HX3
        go_wp2_with fail
        refine (HS.out _ _ _ (own_agot M3.out HLN.out) (own_agot M2.out.own HLN.out)).mono ?_
        rintro e w8 ⟨rfl, hb⟩
        dsimp only
        have B8 := hideIt (below_via B6.out hb)
        clear hb HS M2 M3 B6
        go_wp2_with fail
        refine (HL.out _).mono ?_
        rintro e w7 ⟨rfl, hbl⟩
        dsimp only
        have HB := hideIt (below_via B8.out hbl)
        clear hbl
        go_wp2
        go_ret
        exact ⟨rfl, HB.out⟩
      · have hqb : (q != 0) = true := by simp [hq]
        clear HT hq HX3 D3
        go_wp2_with fail
        refine (HL.out _).mono ?_
        rintro e w7 ⟨rfl, hbl⟩
        dsimp only
        have HB := hideIt (below_via B4.out hbl)
        clear hbl
        go_wp2
        go_ret
        exact ⟨rfl, HB.out⟩
    · have hpb : (p != 0) = true := by simp [hp]
      clear HT hp HX3 D3
      go_wp2_with fail
      refine (HL.out _).mono ?_
      rintro e w7 ⟨rfl, hbl⟩
      dsimp only
      have HB := hideIt (below_via B4.out hbl)
      clear hbl
      go_wp2
      go_ret
      exact ⟨rfl, HB.out⟩
end Go.Proofs.Ytjinhiabnpmiaaa
