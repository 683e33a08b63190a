/- The statement on what comes in of two unlike assets, walked. -/
import Derived.Test.YtjinhiabnpmiaaaBackP
import Derived.Test.YtjinhiabnpmiaaaRefB
import Derived.Test.YtjinhiabnpmiaaaLive
namespace Go.Proofs.Ytjinhiabnpmiaaa
open Go.RowKit
/-- A credit that may be, and what it is. -/
theorem cred_mk {A : AccV} {a n : Int} (h : refI A a n = 0) (hb : balL A.l a + n ≤ 9007199254740992) : credL A a n = if A.ct = 1000000000 then (zA, 122) else (⟨pre (moreS A.l a n) 4, A.ct + 1⟩, 0) := by
  unfold credL
  rw [if_pos h]
  by_cases c : A.ct = 1000000000
  · rw [if_pos (.inr c), if_pos c]
  · rw [if_neg (by omega), if_neg c]
/-- What comes in of two unlike assets may come in either order. -/
theorem cred_apart {A : AccV} {a b n m : Int} (h : (credL A a n).2 = 0) (k : (credL A b m).2 = 0) (hab : a ≠ b) : credL (credL A a n).1 b m = credL (credL A b m).1 a n ∧ ((credL (credL A a n).1 b m).2 = 0 ∨ (credL (credL A a n).1 b m).2 = 122) := by
  obtain ⟨hr, hb, hc, e⟩ := cred_ok h
  obtain ⟨kr, kb, kc, f⟩ := cred_ok k
  obtain ⟨hA, ha, hn⟩ := refI_in hr
  obtain ⟨_, hb', hm⟩ := refI_in kr
  obtain ⟨hA1, hA2, hA3⟩ := accB_in hA
  have a0 := bal_in A.l _ a hA1
  have b0 := bal_in A.l _ b hA1
  have hM : 0 ≤ balL A.l a + n ∧ balL A.l a + n ≤ 9007199254740992 := by omega
  have kM : 0 ≤ balL A.l b + m ∧ balL A.l b + m ≤ 9007199254740992 := by omega
  rw [e, f]
  simp only
  have ab := more_at hA1 hM b hb'
  have ba := more_at hA1 kM a ha
  rw [if_neg (fun e => hab e.symm)] at ab
  rw [if_neg hab] at ba
  rw [cred_mk (refI_mk (accB_mk (more_ok hA1 hM) (by simp only; omega)) hb' hm) (by simp only; rw [ab]; omega), cred_mk (refI_mk (accB_mk (more_ok hA1 kM) (by simp only; omega)) ha hn) (by simp only; rw [ba]; omega)]
  simp only
  have e2 : pre (moreS (pre (moreS A.l a n) 4) b m) 4 = pre (moreS (pre (moreS A.l b m) 4) a n) 4 := pre_congr 4 fun k hk => by
    have x1 := more_bal hA1 hM k hk
    have x2 := more_bal hA1 kM k hk
    show balL (pre (moreS A.l a n) 4) k + _ = balL (pre (moreS A.l b m) 4) k + _
    rw [x1, x2]
    unfold moreS
    omega
  rw [e2]
  refine ⟨rfl, ?_⟩
  split
  · exact .inr rfl
  · exact .inl rfl
/-- The argument's box, and accounts in boxes. -/
structure Arg (w : World) (A : AccV) (g : Value) (a0 a1 n0 n1 : Int) (wx : World) : Prop where
  box : wx.heap[w.heap.size]? = some (.cells #[g, .int .i64 A.ct, .int .i64 a0, .int .i64 a1, .int .i64 n0, .int .i64 n1] 47 (0, 0))
  got : AGot wx g A.l
  bel : Below w.heap.size w wx
theorem Arg.keep {w wx wy : World} {A : AccV} {g : Value} {a0 a1 n0 n1 : Int} (h : Arg w A g a0 a1 n0 n1 wx) (hb : Below wx.heap.size wx wy) : Arg w A g a0 a1 n0 n1 wy :=
  ⟨(hb.block _ (Array.getElem?_eq_some_iff.1 h.box).1).trans h.box, h.got.keep hb, below_via h.bel hb⟩
theorem Arg.cells {w wx : World} {A : AccV} {g : Value} {a0 a1 n0 n1 : Int} (h : Arg w A g a0 a1 n0 n1 wx) : wx.cell? ⟨w.heap.size, 0, none⟩ = some g ∧ wx.cell? ⟨w.heap.size, 1, none⟩ = some (.int .i64 A.ct) ∧ wx.cell? ⟨w.heap.size, 2, none⟩ = some (.int .i64 a0) ∧ wx.cell? ⟨w.heap.size, 3, none⟩ = some (.int .i64 a1) ∧ wx.cell? ⟨w.heap.size, 4, none⟩ = some (.int .i64 n0) ∧ wx.cell? ⟨w.heap.size, 5, none⟩ = some (.int .i64 n1) :=
  ⟨by rw [cell_at h.box]; rfl, by rw [cell_at h.box]; rfl, by rw [cell_at h.box]; rfl, by rw [cell_at h.box]; rfl, by rw [cell_at h.box]; rfl, by rw [cell_at h.box]; rfl⟩
theorem Arg.first {w : World} {A : AccV} {g : Value} (a0 a1 n0 n1 : Int) (h : AGot w g A.l) : Arg w A g a0 a1 n0 n1 (w.alloc (.cells #[g, .int .i64 A.ct, .int .i64 a0, .int .i64 a1, .int .i64 n0, .int .i64 n1] 47)) := ⟨heap_alloc_new w _, h.keep (below1 w _), below1 w _⟩
set_option maxHeartbeats 16000000 in
set_option maxRecDepth 100000 in
theorem apart_walk (A : AccV) (g : Value) (a0 a1 n0 n1 : Int) (w : World) (h : AGot w g A.l) : Calls Try.prog 8 #[.agg #[g, .int .i64 A.ct, .int .i64 a0, .int .i64 a1, .int .i64 n0, .int .i64 n1]] w fun e w' => e = .returned (.bool true) ∧ Below w.heap.size w w' := by
  have HL := hideIt (fun W => live_is W)
  have G0 := hideIt (Arg.first a0 a1 n0 n1 h)
  have HT := hideIt (cred_apart (A := A) (a := a0) (b := a1) (n := n0) (m := n1))
  have HC1 := hideIt (fun W (hW : AGot W g A.l) => credit_is A g a0 n0 W hW)
  have HC2 := hideIt (fun W (hW : AGot W g A.l) => credit_is A g a1 n1 W hW)
  have HC3 := hideIt (fun W gx (hW : AGot W gx (credL A a0 n0).1.l) => credit_is (credL A a0 n0).1 gx a1 n1 W hW)
  have HC4 := hideIt (fun W gx (hW : AGot W gx (credL A a1 n1).1.l) => credit_is (credL A a1 n1).1 gx a0 n0 W hW)
  have LX := hideIt (cred_len A a0 n0)
  have LY := hideIt (cred_len A a1 n1)
  have LZ := hideIt (cred_len (credL A a0 n0).1 a1 n1)
  generalize credL A a0 n0 = XX at *
  obtain ⟨X, x⟩ := XX
  generalize credL A a1 n1 = YY at *
  obtain ⟨Y, y⟩ := YY
  simp only at HT HC1 HC2 HC3 HC4 LX LY LZ
  generalize credL X a1 n1 = ZZ at *
  obtain ⟨Z, z⟩ := ZZ
  unfold AccErr at HC1 HC2 HC3 HC4
  unfold accV accA at *
  obtain ⟨ga, gc, rfl⟩ := h.slice
  obtain ⟨l, ct⟩ := A
  simp only at HC1 HC2 HC3 LZ HT G0 ⊢
  clear h
  by_cases hx : x = 0
  · subst hx
    by_cases hy : y = 0
    · subst hy
      by_cases hab : a0 = a1
      · subst hab
        clear HT HC3 HC4
        go_enter Try.func8, Try.ntmps8
        go_wp2_with fail
        refine (HC1.out _ G0.out.got).mono ?_
        rintro e w1 ⟨gx, rfl, ho, hbl⟩
        dsimp only
        obtain ⟨xa, xc, rfl⟩ := own_len ho
        have C1 := hideIt (below_via hbl (below1 w1 (.cells #[.slice xa X.l.length xc, .int .i64 X.ct] 24)))
        have G1 := hideIt (G0.out.keep C1.out)
        have X1 := hideIt (Ent.new ho LX.out)
        clear ho hbl HC1 C1 G0
        go_upto_region 2 with fail
        unfold accA at X1
        generalize w1.alloc (.cells #[.slice xa X.l.length xc, .int .i64 X.ct] 24) = w2 at *
        generalize w1.heap.size = k1 at *
        obtain ⟨c0, c1, c2, c3, c4, c5⟩ := G1.out.cells
        simp only at c0 c1 c2 c3 c4 c5
        go_wp2_with fail
        refine (HC2.out _ G1.out.got).mono ?_
        rintro e w3 ⟨gy, rfl, ho, hbl⟩
        dsimp only
        obtain ⟨ya, yc, rfl⟩ := own_len ho
        have C3 := hideIt (below_via hbl (below1 w3 (.cells #[.slice ya Y.l.length yc, .int .i64 Y.ct] 24)))
        have G3 := hideIt (G1.out.keep C3.out)
        have X3 := hideIt (X1.out.keep C3.out)
        have Y3 := hideIt (Ent.new ho LY.out)
        clear ho hbl HC2 C3 G1 X1 c0 c1 c2 c3 c4 c5
        go_upto_region 3 with fail
        unfold accA at Y3
        generalize w3.alloc (.cells #[.slice ya Y.l.length yc, .int .i64 Y.ct] 24) = w4 at *
        generalize w3.heap.size = k3 at *
        obtain ⟨c0, c1, c2, c3, c4, c5⟩ := G3.out.cells
        simp only at c0 c1 c2 c3 c4 c5
        go_wp2_with fail
        refine (HL.out _).mono ?_
        rintro e w7 ⟨rfl, hbl⟩
        dsimp only
        have HB := hideIt (below_via G3.out.bel hbl)
        clear hbl
        go_wp2
        go_ret
        exact ⟨rfl, HB.out⟩
      · have hne : (a0 == a1) = false := by simp [hab]
        obtain ⟨e, hz⟩ := HT.out rfl rfl hab
        rw [← e] at HC4
        simp only at HC4
        have HS := hideIt (fun g k W hg hk => same_is Z g k W hg hk)
        unfold accV accA at HS
        have hzz : (z == z) = true := by simp
        clear HT e hab
        rcases hz with rfl | rfl
        · go_enter Try.func8, Try.ntmps8
          go_wp2_with fail
          refine (HC1.out _ G0.out.got).mono ?_
          rintro e w1 ⟨gx, rfl, ho, hbl⟩
          dsimp only
          obtain ⟨xa, xc, rfl⟩ := own_len ho
          have C1 := hideIt (below_via hbl (below1 w1 (.cells #[.slice xa X.l.length xc, .int .i64 X.ct] 24)))
          have G1 := hideIt (G0.out.keep C1.out)
          have X1 := hideIt (Ent.new ho LX.out)
          clear ho hbl HC1 C1 G0
          go_upto_region 2 with fail
          unfold accA at X1
          generalize w1.alloc (.cells #[.slice xa X.l.length xc, .int .i64 X.ct] 24) = w2 at *
          generalize w1.heap.size = k1 at *
          obtain ⟨c0, c1, c2, c3, c4, c5⟩ := G1.out.cells
          simp only at c0 c1 c2 c3 c4 c5
          go_wp2_with fail
          refine (HC2.out _ G1.out.got).mono ?_
          rintro e w3 ⟨gy, rfl, ho, hbl⟩
          dsimp only
          obtain ⟨ya, yc, rfl⟩ := own_len ho
          have C3 := hideIt (below_via hbl (below1 w3 (.cells #[.slice ya Y.l.length yc, .int .i64 Y.ct] 24)))
          have G3 := hideIt (G1.out.keep C3.out)
          have X3 := hideIt (X1.out.keep C3.out)
          have Y3 := hideIt (Ent.new ho LY.out)
          clear ho hbl HC2 C3 G1 X1 c0 c1 c2 c3 c4 c5
          go_upto_region 3 with fail
          unfold accA at Y3
          generalize w3.alloc (.cells #[.slice ya Y.l.length yc, .int .i64 Y.ct] 24) = w4 at *
          generalize w3.heap.size = k3 at *
          obtain ⟨c0, c1, c2, c3, c4, c5⟩ := G3.out.cells
          simp only at c0 c1 c2 c3 c4 c5
          obtain ⟨d0, d1⟩ := X3.out.cells
          go_wp2_with fail
          refine (HC3.out _ _ X3.out.got).mono ?_
          rintro e w5 ⟨gz, rfl, ho, hbl⟩
          dsimp only
          obtain ⟨za, zc, rfl⟩ := own_len ho
          have C5 := hideIt (below_via hbl (below1 w5 (.cells #[.slice za Z.l.length zc, .int .i64 Z.ct] 24)))
          have G5 := hideIt (G3.out.keep C5.out)
          have Y5 := hideIt (Y3.out.keep C5.out)
          have Z5 := hideIt (Ent.new ho LZ.out)
          clear ho hbl HC3 C5 G3 X3 Y3 c0 c1 c2 c3 c4 c5 d0 d1
          go_upto_region 6 with fail
          unfold accA at Z5
          generalize w5.alloc (.cells #[.slice za Z.l.length zc, .int .i64 Z.ct] 24) = w6 at *
          generalize w5.heap.size = k5 at *
          obtain ⟨c0, c1, c2, c3, c4, c5⟩ := G5.out.cells
          obtain ⟨d0, d1⟩ := Y5.out.cells
          simp only at c0 c1 c2 c3 c4 c5 d0 d1
          go_wp2_with fail
          refine (HC4.out _ _ Y5.out.got).mono ?_
          rintro e w8 ⟨gu, rfl, ho, hbl⟩
          dsimp only
          obtain ⟨ua, uc, rfl⟩ := own_len ho
          have C8 := hideIt (below_via hbl (below1 w8 (.cells #[.slice ua Z.l.length uc, .int .i64 Z.ct] 24)))
          have G8 := hideIt (G5.out.keep C8.out)
          have Z8 := hideIt (Z5.out.keep C8.out)
          have U8 := hideIt (Ent.new ho LZ.out)
          clear ho hbl HC4 C8 G5 Y5 Z5 c0 c1 c2 c3 c4 c5 d0 d1
          go_upto_region 7 with fail
          unfold accA at U8
          generalize w8.alloc (.cells #[.slice ua Z.l.length uc, .int .i64 Z.ct] 24) = w9 at *
          generalize w8.heap.size = k8 at *
          obtain ⟨c0, c1⟩ := Z8.out.cells
          obtain ⟨d0, d1⟩ := U8.out.cells
          go_wp2_with fail
          refine (HS.out _ _ _ Z8.out.got U8.out.got).mono ?_
          rintro e w10 ⟨rfl, hbl⟩
          dsimp only
          have G10 := hideIt (G8.out.keep hbl)
          clear hbl c0 c1 d0 d1
          go_wp2_with fail
          refine (HL.out _).mono ?_
          rintro e w7 ⟨rfl, hbl⟩
          dsimp only
          have HB := hideIt (below_via G10.out.bel hbl)
          clear hbl
          go_wp2
          go_ret
          exact ⟨rfl, HB.out⟩
        · go_enter Try.func8, Try.ntmps8
          go_wp2_with fail
          refine (HC1.out _ G0.out.got).mono ?_
          rintro e w1 ⟨gx, rfl, ho, hbl⟩
          dsimp only
          obtain ⟨xa, xc, rfl⟩ := own_len ho
          have C1 := hideIt (below_via hbl (below1 w1 (.cells #[.slice xa X.l.length xc, .int .i64 X.ct] 24)))
          have G1 := hideIt (G0.out.keep C1.out)
          have X1 := hideIt (Ent.new ho LX.out)
          clear ho hbl HC1 C1 G0
          go_upto_region 2 with fail
          unfold accA at X1
          generalize w1.alloc (.cells #[.slice xa X.l.length xc, .int .i64 X.ct] 24) = w2 at *
          generalize w1.heap.size = k1 at *
          obtain ⟨c0, c1, c2, c3, c4, c5⟩ := G1.out.cells
          simp only at c0 c1 c2 c3 c4 c5
          go_wp2_with fail
          refine (HC2.out _ G1.out.got).mono ?_
          rintro e w3 ⟨gy, rfl, ho, hbl⟩
          dsimp only
          obtain ⟨ya, yc, rfl⟩ := own_len ho
          have C3 := hideIt (below_via hbl (below1 w3 (.cells #[.slice ya Y.l.length yc, .int .i64 Y.ct] 24)))
          have G3 := hideIt (G1.out.keep C3.out)
          have X3 := hideIt (X1.out.keep C3.out)
          have Y3 := hideIt (Ent.new ho LY.out)
          clear ho hbl HC2 C3 G1 X1 c0 c1 c2 c3 c4 c5
          go_upto_region 3 with fail
          unfold accA at Y3
          generalize w3.alloc (.cells #[.slice ya Y.l.length yc, .int .i64 Y.ct] 24) = w4 at *
          generalize w3.heap.size = k3 at *
          obtain ⟨c0, c1, c2, c3, c4, c5⟩ := G3.out.cells
          simp only at c0 c1 c2 c3 c4 c5
          obtain ⟨d0, d1⟩ := X3.out.cells
          go_wp2_with fail
          refine (HC3.out _ _ X3.out.got).mono ?_
          rintro e w5 ⟨gz, rfl, ho, hbl⟩
          dsimp only
          obtain ⟨za, zc, rfl⟩ := own_len ho
          have C5 := hideIt (below_via hbl (below1 w5 (.cells #[.slice za Z.l.length zc, .int .i64 Z.ct] 24)))
          have G5 := hideIt (G3.out.keep C5.out)
          have Y5 := hideIt (Y3.out.keep C5.out)
          have Z5 := hideIt (Ent.new ho LZ.out)
          clear ho hbl HC3 C5 G3 X3 Y3 c0 c1 c2 c3 c4 c5 d0 d1
          go_upto_region 6 with fail
          unfold accA at Z5
          generalize w5.alloc (.cells #[.slice za Z.l.length zc, .int .i64 Z.ct] 24) = w6 at *
          generalize w5.heap.size = k5 at *
          obtain ⟨c0, c1, c2, c3, c4, c5⟩ := G5.out.cells
          obtain ⟨d0, d1⟩ := Y5.out.cells
          simp only at c0 c1 c2 c3 c4 c5 d0 d1
          go_wp2_with fail
          refine (HC4.out _ _ Y5.out.got).mono ?_
          rintro e w8 ⟨gu, rfl, ho, hbl⟩
          dsimp only
          obtain ⟨ua, uc, rfl⟩ := own_len ho
          have C8 := hideIt (below_via hbl (below1 w8 (.cells #[.slice ua Z.l.length uc, .int .i64 Z.ct] 24)))
          have G8 := hideIt (G5.out.keep C8.out)
          have Z8 := hideIt (Z5.out.keep C8.out)
          have U8 := hideIt (Ent.new ho LZ.out)
          clear ho hbl HC4 C8 G5 Y5 Z5 c0 c1 c2 c3 c4 c5 d0 d1
          go_upto_region 7 with fail
          unfold accA at U8
          generalize w8.alloc (.cells #[.slice ua Z.l.length uc, .int .i64 Z.ct] 24) = w9 at *
          generalize w8.heap.size = k8 at *
          obtain ⟨c0, c1⟩ := Z8.out.cells
          obtain ⟨d0, d1⟩ := U8.out.cells
          go_wp2_with fail
          refine (HS.out _ _ _ Z8.out.got U8.out.got).mono ?_
          rintro e w10 ⟨rfl, hbl⟩
          dsimp only
          have G10 := hideIt (G8.out.keep hbl)
          clear hbl c0 c1 d0 d1
          go_wp2_with fail
          refine (HL.out _).mono ?_
          rintro e w7 ⟨rfl, hbl⟩
          dsimp only
          have HB := hideIt (below_via G10.out.bel hbl)
          clear hbl
          go_wp2
          go_ret
          exact ⟨rfl, HB.out⟩
    · have hyb : (y != 0) = true := by simp [hy]
      clear HT HC3 HC4 hy
      go_enter Try.func8, Try.ntmps8
      go_wp2_with fail
      refine (HC1.out _ G0.out.got).mono ?_
      rintro e w1 ⟨gx, rfl, ho, hbl⟩
      dsimp only
      obtain ⟨xa, xc, rfl⟩ := own_len ho
      have C1 := hideIt (below_via hbl (below1 w1 (.cells #[.slice xa X.l.length xc, .int .i64 X.ct] 24)))
      have G1 := hideIt (G0.out.keep C1.out)
      have X1 := hideIt (Ent.new ho LX.out)
      clear ho hbl HC1 C1 G0
      go_upto_region 2 with fail
      unfold accA at X1
      generalize w1.alloc (.cells #[.slice xa X.l.length xc, .int .i64 X.ct] 24) = w2 at *
      generalize w1.heap.size = k1 at *
      obtain ⟨c0, c1, c2, c3, c4, c5⟩ := G1.out.cells
      simp only at c0 c1 c2 c3 c4 c5
      go_wp2_with fail
      refine (HC2.out _ G1.out.got).mono ?_
      rintro e w3 ⟨gy, rfl, ho, hbl⟩
      dsimp only
      obtain ⟨ya, yc, rfl⟩ := own_len ho
      have C3 := hideIt (below_via hbl (below1 w3 (.cells #[.slice ya Y.l.length yc, .int .i64 Y.ct] 24)))
      have G3 := hideIt (G1.out.keep C3.out)
      have X3 := hideIt (X1.out.keep C3.out)
      have Y3 := hideIt (Ent.new ho LY.out)
      clear ho hbl HC2 C3 G1 X1 c0 c1 c2 c3 c4 c5
      go_upto_region 3 with fail
      unfold accA at Y3
      generalize w3.alloc (.cells #[.slice ya Y.l.length yc, .int .i64 Y.ct] 24) = w4 at *
      generalize w3.heap.size = k3 at *
      obtain ⟨c0, c1, c2, c3, c4, c5⟩ := G3.out.cells
      simp only at c0 c1 c2 c3 c4 c5
      go_wp2_with fail
      refine (HL.out _).mono ?_
      rintro e w7 ⟨rfl, hbl⟩
      dsimp only
      have HB := hideIt (below_via G3.out.bel hbl)
      clear hbl
      go_wp2
      go_ret
      exact ⟨rfl, HB.out⟩
  · have hxb : (x != 0) = true := by simp [hx]
    clear HT HC3 HC4 hx
    go_enter Try.func8, Try.ntmps8
    go_wp2_with fail
    refine (HC1.out _ G0.out.got).mono ?_
    rintro e w1 ⟨gx, rfl, ho, hbl⟩
    dsimp only
    obtain ⟨xa, xc, rfl⟩ := own_len ho
    have C1 := hideIt (below_via hbl (below1 w1 (.cells #[.slice xa X.l.length xc, .int .i64 X.ct] 24)))
    have G1 := hideIt (G0.out.keep C1.out)
    have X1 := hideIt (Ent.new ho LX.out)
    clear ho hbl HC1 C1 G0
    go_upto_region 2 with fail
    unfold accA at X1
    generalize w1.alloc (.cells #[.slice xa X.l.length xc, .int .i64 X.ct] 24) = w2 at *
    generalize w1.heap.size = k1 at *
    obtain ⟨c0, c1, c2, c3, c4, c5⟩ := G1.out.cells
    simp only at c0 c1 c2 c3 c4 c5
    go_wp2_with fail
    refine (HC2.out _ G1.out.got).mono ?_
    rintro e w3 ⟨gy, rfl, ho, hbl⟩
    dsimp only
    obtain ⟨ya, yc, rfl⟩ := own_len ho
    have C3 := hideIt (below_via hbl (below1 w3 (.cells #[.slice ya Y.l.length yc, .int .i64 Y.ct] 24)))
    have G3 := hideIt (G1.out.keep C3.out)
    have X3 := hideIt (X1.out.keep C3.out)
    have Y3 := hideIt (Ent.new ho LY.out)
    clear ho hbl HC2 C3 G1 X1 c0 c1 c2 c3 c4 c5
    go_upto_region 3 with fail
    unfold accA at Y3
    generalize w3.alloc (.cells #[.slice ya Y.l.length yc, .int .i64 Y.ct] 24) = w4 at *
    generalize w3.heap.size = k3 at *
    obtain ⟨c0, c1, c2, c3, c4, c5⟩ := G3.out.cells
    simp only at c0 c1 c2 c3 c4 c5
    go_wp2_with fail
    refine (HL.out _).mono ?_
    rintro e w7 ⟨rfl, hbl⟩
    dsimp only
    have HB := hideIt (below_via G3.out.bel hbl)
    clear hbl
    go_wp2
    go_ret
    exact ⟨rfl, HB.out⟩
end Go.Proofs.Ytjinhiabnpmiaaa
