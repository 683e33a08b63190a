/- The statement on what comes in in two parts, walked. -/
import Derived.Test.YtjinhiabnpmiaabBackP
import Derived.Test.YtjinhiabnpmiaabLive
namespace Go.Proofs.Ytjinhiabnpmiaab
open Go.RowKit
/-- What comes in in two parts comes to what it is as a whole, but that it is two entries. -/
theorem cred_parts {A : AccV} {a n : Int} (h : (credL A a n).2 = 0) (k : (credL A a 1).2 = 0) (u : (credL (credL A a 1).1 a (n - 1)).2 = 0) : (credL (credL A a 1).1 a (n - 1)).1 = ⟨(credL A a n).1.l, (credL A a n).1.ct + 1⟩ ∧ 0 ≤ (credL A a n).1.ct ∧ (credL A a n).1.ct ≤ 1000000001 := by
  obtain ⟨hr, hb, hc, e⟩ := cred_ok h
  obtain ⟨kr, kb, kc, f⟩ := cred_ok k
  obtain ⟨ur, ub, uc, v⟩ := cred_ok u
  obtain ⟨hA, ha, hn⟩ := refI_in hr
  obtain ⟨hA1, hA2, hA3⟩ := accB_in hA
  have a0 := bal_in A.l _ a hA1
  have kM : 0 ≤ balL A.l a + 1 ∧ balL A.l a + 1 ≤ 9007199254740992 := by omega
  rw [v, e, f]
  simp only [AccV.mk.injEq]
  refine ⟨⟨pre_congr 4 fun k hk => ?_, trivial⟩, by omega, by omega⟩
  show balL (pre (moreS A.l a 1) 4) k + _ = _
  rw [more_bal hA1 kM k hk]
  unfold moreS
  split <;> omega
set_option maxHeartbeats 16000000 in
set_option maxRecDepth 100000 in
theorem parts_walk (A : AccV) (g : Value) (a n : Int) (w : World) (h : AGot w g A.l) : Calls Try.prog 3 #[accV A g, .int .i64 a, .int .i64 n] w fun e w' => e = .returned (.bool true) ∧ Below w.heap.size w w' := by
  have HL := hideIt (fun W => live_is W)
  have E0 := hideIt (Ent.first h)
  have HT := hideIt (cred_parts (A := A) (a := a) (n := n))
  have HC1 := hideIt (fun W (hW : AGot W g A.l) => credit_is A g a n W hW)
  have HC2 := hideIt (fun W (hW : AGot W g A.l) => credit_is A g a 1 W hW)
  have HC3 := hideIt (fun W gx (hW : AGot W gx (credL A a 1).1.l) => credit_is (credL A a 1).1 gx a (n - 1) W hW)
  have LX := hideIt (cred_len A a n)
  have LY := hideIt (cred_len A a 1)
  have LZ := hideIt (cred_len (credL A a 1).1 a (n - 1))
  generalize credL A a n = XX at *
  obtain ⟨X, x⟩ := XX
  generalize credL A a 1 = YY at *
  obtain ⟨Y, y⟩ := YY
  simp only at HT HC3 LX LY LZ
  generalize credL Y a (n - 1) = ZZ at *
  obtain ⟨Z, z⟩ := ZZ
  unfold AccErr at HC1 HC2 HC3
  unfold accV accA at *
  have B0 := hideIt (below1 w (.cells #[g, .int .i64 A.ct] 24))
  obtain ⟨ga, gc, rfl⟩ := h.slice
  obtain ⟨l, ct⟩ := A
  simp only at HC1 HC2 HC3 LZ HT E0 B0 ⊢
  clear h
  by_cases hn1 : n < 2
  · clear HT HC1 HC2 HC3
    go_enter Try.func3, Try.ntmps3
    go_wp2_with fail
    refine (HL.out _).mono ?_
    rintro e w7 ⟨rfl, hbl⟩
    dsimp only
    have HB := hideIt (below_via B0.out hbl)
    clear hbl
    go_wp2
    go_ret
    exact ⟨rfl, HB.out⟩
  · have hn1I : 2 ≤ n := by omega
    by_cases hn2 : 1000000000 < n
    · clear HT HC1 HC2 HC3
      go_enter Try.func3, Try.ntmps3
      go_wp2_with fail
      refine (HL.out _).mono ?_
      rintro e w7 ⟨rfl, hbl⟩
      dsimp only
      have HB := hideIt (below_via B0.out hbl)
      clear hbl
      go_wp2
      go_ret
      exact ⟨rfl, HB.out⟩
    · have hn2I : n ≤ 1000000000 := by omega
      by_cases hx : x = 0
      · subst hx
        by_cases hy : y = 0
        · subst hy
          by_cases hz : z = 0
          · subst hz
            obtain ⟨rfl, z1, z2⟩ := HT.out rfl rfl rfl
            have HS := hideIt (fun g k W hg hk => sameAm_is g k X.l W hg hk)
            simp only at HC3 LZ z1 z2
            clear HT
            have hwc : IntKind.i64.wrap (X.ct + 1) = X.ct + 1 := wrap_ok (by omega) (by omega)
            go_enter Try.func3, Try.ntmps3
            go_wp2_with fail
            refine (HC1.out _ E0.out.got).mono ?_
            rintro e w1 ⟨gx, rfl, ho, hbl⟩
            dsimp only
            obtain ⟨xa, xc, rfl⟩ := own_len ho
            have C1 := hideIt (below_via hbl (below1 w1 (.cells #[.slice xa X.l.length xc, .int .i64 X.ct] 24)))
            have E1 := hideIt (E0.out.keep C1.out)
            have X1 := hideIt (Ent.new ho LX.out)
            have B1 := hideIt (below_via (below1 w _) C1.out)
            clear ho hbl HC1 C1 E0
            go_upto_region 4 with fail
            unfold accA at X1
            generalize w1.alloc (.cells #[.slice xa X.l.length xc, .int .i64 X.ct] 24) = w2 at *
            generalize w1.heap.size = k1 at *
            obtain ⟨c0, c1⟩ := E1.out.cells
            simp only at c0 c1
            go_wp2_with fail
            refine (HC2.out _ E1.out.got).mono ?_
            rintro e w3 ⟨gy, rfl, ho, hbl⟩
            dsimp only
            obtain ⟨ya, yc, rfl⟩ := own_len ho
            have C3 := hideIt (below_via hbl (below1 w3 (.cells #[.slice ya Y.l.length yc, .int .i64 Y.ct] 24)))
            have X3 := hideIt (X1.out.keep C3.out)
            have Y3 := hideIt (Ent.new ho LY.out)
            have B3 := hideIt (below_via B1.out C3.out)
            clear ho hbl HC2 C3 E1 X1 B1 c0 c1
            go_upto_region 5 with fail
            unfold accA at Y3
            generalize w3.alloc (.cells #[.slice ya Y.l.length yc, .int .i64 Y.ct] 24) = w4 at *
            generalize w3.heap.size = k3 at *
            obtain ⟨c0, c1⟩ := Y3.out.cells
            go_wp2_with fail
            refine (HC3.out _ _ Y3.out.got).mono ?_
            rintro e w5 ⟨gz, rfl, ho, hbl⟩
            dsimp only
            obtain ⟨za, zc, rfl⟩ := own_len ho
            have C5 := hideIt (below_via hbl (below1 w5 (.cells #[.slice za X.l.length zc, .int .i64 (X.ct + 1)] 24)))
            have X5 := hideIt (X3.out.keep C5.out)
            have Z5 := hideIt (Ent.new (A := ⟨X.l, X.ct + 1⟩) ho LZ.out)
            have B5 := hideIt (below_via B3.out C5.out)
            clear ho hbl HC3 C5 Y3 X3 B3 c0 c1
            go_upto_region 6 with fail
            unfold accA at Z5
            generalize w5.alloc (.cells #[.slice za X.l.length zc, .int .i64 (X.ct + 1)] 24) = w6 at *
            generalize w5.heap.size = k5 at *
            obtain ⟨c0, c1⟩ := X5.out.cells
            obtain ⟨d0, d1⟩ := Z5.out.cells
            simp only at d0 d1
            go_wp2_with fail
            refine (HS.out _ _ _ X5.out.got Z5.out.got).mono ?_
            rintro e w8 ⟨rfl, hbl⟩
            dsimp only
            have X8 := hideIt (X5.out.keep hbl)
            have Z8 := hideIt (Z5.out.keep hbl)
            have B8 := hideIt (below_via B5.out hbl)
            clear hbl X5 Z5 B5 c0 c1 d0 d1
            obtain ⟨c0, c1⟩ := X8.out.cells
            obtain ⟨d0, d1⟩ := Z8.out.cells
            simp only at d0 d1
            go_wp2_with fail
            refine (HL.out _).mono ?_
            rintro e w7 ⟨rfl, hbl⟩
            dsimp only
            have HB := hideIt (below_via B8.out hbl)
            clear hbl
            go_wp2
            go_ret
            exact ⟨rfl, HB.out⟩
          · have hzb : (z != 0) = true := by simp [hz]
            clear HT hz
            go_enter Try.func3, Try.ntmps3
            go_wp2_with fail
            refine (HC1.out _ E0.out.got).mono ?_
            rintro e w1 ⟨gx, rfl, ho, hbl⟩
            dsimp only
            obtain ⟨xa, xc, rfl⟩ := own_len ho
            have C1 := hideIt (below_via hbl (below1 w1 (.cells #[.slice xa X.l.length xc, .int .i64 X.ct] 24)))
            have E1 := hideIt (E0.out.keep C1.out)
            have X1 := hideIt (Ent.new ho LX.out)
            have B1 := hideIt (below_via (below1 w _) C1.out)
            clear ho hbl HC1 C1 E0
            go_upto_region 4 with fail
            unfold accA at X1
            generalize w1.alloc (.cells #[.slice xa X.l.length xc, .int .i64 X.ct] 24) = w2 at *
            generalize w1.heap.size = k1 at *
            obtain ⟨c0, c1⟩ := E1.out.cells
            simp only at c0 c1
            go_wp2_with fail
            refine (HC2.out _ E1.out.got).mono ?_
            rintro e w3 ⟨gy, rfl, ho, hbl⟩
            dsimp only
            obtain ⟨ya, yc, rfl⟩ := own_len ho
            have C3 := hideIt (below_via hbl (below1 w3 (.cells #[.slice ya Y.l.length yc, .int .i64 Y.ct] 24)))
            have X3 := hideIt (X1.out.keep C3.out)
            have Y3 := hideIt (Ent.new ho LY.out)
            have B3 := hideIt (below_via B1.out C3.out)
            clear ho hbl HC2 C3 E1 X1 B1 c0 c1
            go_upto_region 5 with fail
            unfold accA at Y3
            generalize w3.alloc (.cells #[.slice ya Y.l.length yc, .int .i64 Y.ct] 24) = w4 at *
            generalize w3.heap.size = k3 at *
            obtain ⟨c0, c1⟩ := Y3.out.cells
            go_wp2_with fail
            refine (HC3.out _ _ Y3.out.got).mono ?_
            rintro e w5 ⟨gz, rfl, ho, hbl⟩
            dsimp only
            obtain ⟨za, zc, rfl⟩ := own_len ho
            have C5 := hideIt (below_via hbl (below1 w5 (.cells #[.slice za Z.l.length zc, .int .i64 Z.ct] 24)))
            have X5 := hideIt (X3.out.keep C5.out)
            have Z5 := hideIt (Ent.new (A := Z) ho LZ.out)
            have B5 := hideIt (below_via B3.out C5.out)
            clear ho hbl HC3 C5 Y3 X3 B3 c0 c1
            go_upto_region 6 with fail
            unfold accA at Z5
            generalize w5.alloc (.cells #[.slice za Z.l.length zc, .int .i64 Z.ct] 24) = w6 at *
            generalize w5.heap.size = k5 at *
            go_wp2_with fail
            refine (HL.out _).mono ?_
            rintro e w7 ⟨rfl, hbl⟩
            dsimp only
            have HB := hideIt (below_via B5.out hbl)
            clear hbl
            go_wp2
            go_ret
            exact ⟨rfl, HB.out⟩
        · have hyb : (y != 0) = true := by simp [hy]
          clear HT hy
          go_enter Try.func3, Try.ntmps3
          go_wp2_with fail
          refine (HC1.out _ E0.out.got).mono ?_
          rintro e w1 ⟨gx, rfl, ho, hbl⟩
          dsimp only
          obtain ⟨xa, xc, rfl⟩ := own_len ho
          have C1 := hideIt (below_via hbl (below1 w1 (.cells #[.slice xa X.l.length xc, .int .i64 X.ct] 24)))
          have E1 := hideIt (E0.out.keep C1.out)
          have X1 := hideIt (Ent.new ho LX.out)
          have B1 := hideIt (below_via (below1 w _) C1.out)
          clear ho hbl HC1 C1 E0
          go_upto_region 4 with fail
          unfold accA at X1
          generalize w1.alloc (.cells #[.slice xa X.l.length xc, .int .i64 X.ct] 24) = w2 at *
          generalize w1.heap.size = k1 at *
          obtain ⟨c0, c1⟩ := E1.out.cells
          simp only at c0 c1
          go_wp2_with fail
          refine (HC2.out _ E1.out.got).mono ?_
          rintro e w3 ⟨gy, rfl, ho, hbl⟩
          dsimp only
          obtain ⟨ya, yc, rfl⟩ := own_len ho
          have C3 := hideIt (below_via hbl (below1 w3 (.cells #[.slice ya Y.l.length yc, .int .i64 Y.ct] 24)))
          have X3 := hideIt (X1.out.keep C3.out)
          have Y3 := hideIt (Ent.new ho LY.out)
          have B3 := hideIt (below_via B1.out C3.out)
          clear ho hbl HC2 C3 E1 X1 B1 c0 c1
          go_upto_region 5 with fail
          unfold accA at Y3
          generalize w3.alloc (.cells #[.slice ya Y.l.length yc, .int .i64 Y.ct] 24) = w4 at *
          generalize w3.heap.size = k3 at *
          obtain ⟨c0, c1⟩ := Y3.out.cells
          go_wp2_with fail
          refine (HC3.out _ _ Y3.out.got).mono ?_
          rintro e w5 ⟨gz, rfl, ho, hbl⟩
          dsimp only
          obtain ⟨za, zc, rfl⟩ := own_len ho
          have C5 := hideIt (below_via hbl (below1 w5 (.cells #[.slice za Z.l.length zc, .int .i64 Z.ct] 24)))
          have X5 := hideIt (X3.out.keep C5.out)
          have Z5 := hideIt (Ent.new (A := Z) ho LZ.out)
          have B5 := hideIt (below_via B3.out C5.out)
          clear ho hbl HC3 C5 Y3 X3 B3 c0 c1
          go_upto_region 6 with fail
          unfold accA at Z5
          generalize w5.alloc (.cells #[.slice za Z.l.length zc, .int .i64 Z.ct] 24) = w6 at *
          generalize w5.heap.size = k5 at *
          go_wp2_with fail
          refine (HL.out _).mono ?_
          rintro e w7 ⟨rfl, hbl⟩
          dsimp only
          have HB := hideIt (below_via B5.out hbl)
          clear hbl
          go_wp2
          go_ret
          exact ⟨rfl, HB.out⟩
      · have hxb : (x != 0) = true := by simp [hx]
        clear HT hx
        go_enter Try.func3, Try.ntmps3
        go_wp2_with fail
        refine (HC1.out _ E0.out.got).mono ?_
        rintro e w1 ⟨gx, rfl, ho, hbl⟩
        dsimp only
        obtain ⟨xa, xc, rfl⟩ := own_len ho
        have C1 := hideIt (below_via hbl (below1 w1 (.cells #[.slice xa X.l.length xc, .int .i64 X.ct] 24)))
        have E1 := hideIt (E0.out.keep C1.out)
        have X1 := hideIt (Ent.new ho LX.out)
        have B1 := hideIt (below_via (below1 w _) C1.out)
        clear ho hbl HC1 C1 E0
        go_upto_region 4 with fail
        unfold accA at X1
        generalize w1.alloc (.cells #[.slice xa X.l.length xc, .int .i64 X.ct] 24) = w2 at *
        generalize w1.heap.size = k1 at *
        obtain ⟨c0, c1⟩ := E1.out.cells
        simp only at c0 c1
        go_wp2_with fail
        refine (HC2.out _ E1.out.got).mono ?_
        rintro e w3 ⟨gy, rfl, ho, hbl⟩
        dsimp only
        obtain ⟨ya, yc, rfl⟩ := own_len ho
        have C3 := hideIt (below_via hbl (below1 w3 (.cells #[.slice ya Y.l.length yc, .int .i64 Y.ct] 24)))
        have X3 := hideIt (X1.out.keep C3.out)
        have Y3 := hideIt (Ent.new ho LY.out)
        have B3 := hideIt (below_via B1.out C3.out)
        clear ho hbl HC2 C3 E1 X1 B1 c0 c1
        go_upto_region 5 with fail
        unfold accA at Y3
        generalize w3.alloc (.cells #[.slice ya Y.l.length yc, .int .i64 Y.ct] 24) = w4 at *
        generalize w3.heap.size = k3 at *
        obtain ⟨c0, c1⟩ := Y3.out.cells
        go_wp2_with fail
        refine (HC3.out _ _ Y3.out.got).mono ?_
        rintro e w5 ⟨gz, rfl, ho, hbl⟩
        dsimp only
        obtain ⟨za, zc, rfl⟩ := own_len ho
        have C5 := hideIt (below_via hbl (below1 w5 (.cells #[.slice za Z.l.length zc, .int .i64 Z.ct] 24)))
        have X5 := hideIt (X3.out.keep C5.out)
        have Z5 := hideIt (Ent.new (A := Z) ho LZ.out)
        have B5 := hideIt (below_via B3.out C5.out)
        clear ho hbl HC3 C5 Y3 X3 B3 c0 c1
        go_upto_region 6 with fail
        unfold accA at Z5
        generalize w5.alloc (.cells #[.slice za Z.l.length zc, .int .i64 Z.ct] 24) = w6 at *
        generalize w5.heap.size = k5 at *
        go_wp2_with fail
        refine (HL.out _).mono ?_
        rintro e w7 ⟨rfl, hbl⟩
        dsimp only
        have HB := hideIt (below_via B5.out hbl)
        clear hbl
        go_wp2
        go_ret
        exact ⟨rfl, HB.out⟩
end Go.Proofs.Ytjinhiabnpmiaab
