/- The statement on compacting twice, walked. -/
import Derived.Test.YtofbikalfpmdpabTwiceP
import Derived.Test.YtofbikalfpmdpabLive
namespace Go.Proofs.Ytofbikalfpmdpab
open Go.RowKit
set_option maxHeartbeats 16000000 in
set_option maxRecDepth 100000 in
theorem twice_walk (L : LogV) (g : Value) (i j : Int) (w : World) (h : EGot w g L.l) : Calls Try.prog 7 #[logV L g, .int .i64 i, .int .i64 j] w fun e w' => e = .returned (.bool true) ∧ Below w.heap.size w w' := by
  have HL := hideIt (fun W => live_is W)
  have E0 := hideIt (Ent.first h)
  have HT := hideIt (comp_twice (L := L) i j)
  have HC1 := hideIt (fun W (hW : EGot W g L.l) => compact_is L g i W hW)
  have HC3 := hideIt (fun W (hW : EGot W g L.l) => compact_is L g j W hW)
  have l1 := comp_len (L := L) i
  have l2 := comp_len (L := L) j
  have l3 := comp_len (L := (compL L i).1) j
  have h8 := h.1
  obtain ⟨⟨X, x⟩, eX⟩ : ∃ X, compL L i = X := ⟨_, rfl⟩
  obtain ⟨⟨Z, z⟩, eZ⟩ : ∃ Z, compL L j = Z := ⟨_, rfl⟩
  rw [eX] at HC1 HT l1 l3
  rw [eZ] at HC3 HT l2
  simp only at HT l1 l2 l3
  have HC2 := hideIt (fun W gx (hW : EGot W gx X.l) => compact_is X gx j W hW)
  obtain ⟨⟨Y, y⟩, eY⟩ : ∃ Y, compL X j = Y := ⟨_, rfl⟩
  rw [eY] at HC2 HT l3
  simp only at HT l3
  have LX : Hid (X.l.length * 32 ≤ 140737488355328) := by
    show _ ≤ _
    omega
  have LY : Hid (Y.l.length * 32 ≤ 140737488355328) := by
    show _ ≤ _
    omega
  have LZ : Hid (Z.l.length * 32 ≤ 140737488355328) := by
    show _ ≤ _
    omega
  obtain ⟨a, c, rfl⟩ := h.slice
  unfold LogErr at HC1 HC2 HC3
  unfold logV logA at *
  obtain ⟨bi, bt, l, cm⟩ := L
  simp only at HC1 HC2 HC3 E0 ⊢
  clear h eX eY eZ l1 l2 l3 h8
  by_cases hx : x = 0
  · subst hx
    obtain ⟨t1, t2⟩ := HT.out rfl
    by_cases hy : y = 0
    · subst hy
      obtain ⟨rfl, hz⟩ := t1 rfl
      subst hz
      clear t1 t2 HT
      have HS := hideIt (fun gy gz W hy hz => same_is Y gy gz W hy hz)
      unfold logV logA at HS
      go_enter Try.func7, Try.ntmps7
      go_wp2_with fail
      refine (HC1.out _ E0.out.got).mono ?_
      rintro e w1 ⟨gx, rfl, ho, hbl⟩
      dsimp only
      obtain ⟨xa, xc, rfl⟩ := own_len ho
      have C1 := hideIt (below_via hbl (below1 w1 (.cells #[.int .i64 X.bi, .int .i64 X.bt, .slice xa X.l.length xc, .int .i64 X.cm] 26)))
      have E1 := hideIt (E0.out.keep C1.out)
      have X1 := hideIt (Ent.new ho LX.out)
      have B1 := hideIt (below_via (below1 w _) C1.out)
      clear ho hbl HC1 C1
      go_upto_region 2 with fail
      unfold logA at X1
      generalize w1.alloc (.cells #[.int .i64 X.bi, .int .i64 X.bt, .slice xa X.l.length xc, .int .i64 X.cm] 26) = w2 at *
      generalize w1.heap.size = k1 at *
      obtain ⟨c0, c1, c2, c3⟩ := X1.out.cells
      go_wp2_with fail
      refine (HC2.out _ _ X1.out.got).mono ?_
      rintro e w3 ⟨gy, rfl, ho, hbl⟩
      dsimp only
      obtain ⟨ya, yc, rfl⟩ := own_len ho
      have C3 := hideIt (below_via hbl (below1 w3 (.cells #[.int .i64 Y.bi, .int .i64 Y.bt, .slice ya Y.l.length yc, .int .i64 Y.cm] 26)))
      have E3 := hideIt (E1.out.keep C3.out)
      have Y3 := hideIt (Ent.new ho LY.out)
      have B3 := hideIt (below_via B1.out C3.out)
      clear ho hbl HC2 C3 X1 E1 B1 c0 c1 c2 c3
      go_upto_region 5 with fail
      unfold logA at Y3
      generalize w3.alloc (.cells #[.int .i64 Y.bi, .int .i64 Y.bt, .slice ya Y.l.length yc, .int .i64 Y.cm] 26) = w4 at *
      generalize w3.heap.size = k3 at *
      obtain ⟨c0, c1, c2, c3⟩ := E3.out.cells
      go_wp2_with fail
      refine (HC3.out _ E3.out.got).mono ?_
      rintro e w5 ⟨gz, rfl, ho, hbl⟩
      dsimp only
      obtain ⟨za, zc, rfl⟩ := own_len ho
      have C5 := hideIt (below_via hbl (below1 w5 (.cells #[.int .i64 Y.bi, .int .i64 Y.bt, .slice za Y.l.length zc, .int .i64 Y.cm] 26)))
      have Y5 := hideIt (Y3.out.keep C5.out)
      have Z5 := hideIt (Ent.new ho LZ.out)
      have B5 := hideIt (below_via B3.out C5.out)
      clear ho hbl HC3 C5 E3 Y3 B3 c0 c1 c2 c3
      go_upto_region 6 with fail
      unfold logA at Z5
      generalize w5.alloc (.cells #[.int .i64 Y.bi, .int .i64 Y.bt, .slice za Y.l.length zc, .int .i64 Y.cm] 26) = w6 at *
      generalize w5.heap.size = k5 at *
      obtain ⟨c0, c1, c2, c3⟩ := Y5.out.cells
      obtain ⟨d0, d1, d2, d3⟩ := Z5.out.cells
      go_wp2_with fail
      refine (HS.out _ _ _ Y5.out.got Z5.out.got).mono ?_
      rintro e w8 ⟨rfl, hbl⟩
      dsimp only
      have B8 := hideIt (below_via B5.out hbl)
      clear hbl c0 c1 c2 c3 d0 d1 d2 d3
      go_wp2_with fail
      refine (HL.out _).mono ?_
      rintro e w7 ⟨rfl, hbl⟩
      dsimp only
      have HB := hideIt (below_via B8.out hbl)
      clear hbl
      go_wp2
      go_ret
      exact ⟨rfl, HB.out⟩
    · have hyb : (y != 0) = true := by simp [hy]
      obtain ⟨rfl, hor⟩ := t2 hy
      clear t1 t2 HT hy hyb
      by_cases hji : j ≤ i
      · clear hor
        go_enter Try.func7, Try.ntmps7
        go_wp2_with fail
        refine (HC1.out _ E0.out.got).mono ?_
        rintro e w1 ⟨gx, rfl, ho, hbl⟩
        dsimp only
        obtain ⟨xa, xc, rfl⟩ := own_len ho
        have C1 := hideIt (below_via hbl (below1 w1 (.cells #[.int .i64 X.bi, .int .i64 X.bt, .slice xa X.l.length xc, .int .i64 X.cm] 26)))
        have E1 := hideIt (E0.out.keep C1.out)
        have X1 := hideIt (Ent.new ho LX.out)
        have B1 := hideIt (below_via (below1 w _) C1.out)
        clear ho hbl HC1 C1
        go_upto_region 2 with fail
        unfold logA at X1
        generalize w1.alloc (.cells #[.int .i64 X.bi, .int .i64 X.bt, .slice xa X.l.length xc, .int .i64 X.cm] 26) = w2 at *
        generalize w1.heap.size = k1 at *
        obtain ⟨c0, c1, c2, c3⟩ := X1.out.cells
        go_wp2_with fail
        refine (HC2.out _ _ X1.out.got).mono ?_
        rintro e w3 ⟨gy, rfl, ho, hbl⟩
        dsimp only
        obtain ⟨ya, yc, rfl⟩ := own_len ho
        have C3 := hideIt (below_via hbl (below1 w3 (.cells #[.int .i64 Y.bi, .int .i64 Y.bt, .slice ya Y.l.length yc, .int .i64 Y.cm] 26)))
        have E3 := hideIt (E1.out.keep C3.out)
        have Y3 := hideIt (Ent.new ho LY.out)
        have B3 := hideIt (below_via B1.out C3.out)
        clear ho hbl HC2 C3 X1 E1 B1 c0 c1 c2 c3
        go_upto_region 5 with fail
        unfold logA at Y3
        generalize w3.alloc (.cells #[.int .i64 Y.bi, .int .i64 Y.bt, .slice ya Y.l.length yc, .int .i64 Y.cm] 26) = w4 at *
        generalize w3.heap.size = k3 at *
        obtain ⟨c0, c1, c2, c3⟩ := E3.out.cells
        go_wp2_with fail
        refine (HC3.out _ E3.out.got).mono ?_
        rintro e w5 ⟨gz, rfl, ho, hbl⟩
        dsimp only
        obtain ⟨za, zc, rfl⟩ := own_len ho
        have C5 := hideIt (below_via hbl (below1 w5 (.cells #[.int .i64 Z.bi, .int .i64 Z.bt, .slice za Z.l.length zc, .int .i64 Z.cm] 26)))
        have Y5 := hideIt (Y3.out.keep C5.out)
        have Z5 := hideIt (Ent.new ho LZ.out)
        have B5 := hideIt (below_via B3.out C5.out)
        clear ho hbl HC3 C5 E3 Y3 B3 c0 c1 c2 c3
        go_upto_region 6 with fail
        unfold logA at Z5
        generalize w5.alloc (.cells #[.int .i64 Z.bi, .int .i64 Z.bt, .slice za Z.l.length zc, .int .i64 Z.cm] 26) = w6 at *
        generalize w5.heap.size = k5 at *
        go_wp2_with fail
        refine (HL.out _).mono ?_
        rintro e w7 ⟨rfl, hbl⟩
        dsimp only
        have HB := hideIt (below_via B5.out hbl)
        clear hbl
        go_wp2
        go_ret
        exact ⟨rfl, HB.out⟩
      · have hz : z ≠ 0 := hor.resolve_left hji
        have hzb : (z != 0) = true := by simp [hz]
        clear hor hz
        go_enter Try.func7, Try.ntmps7
        go_wp2_with fail
        refine (HC1.out _ E0.out.got).mono ?_
        rintro e w1 ⟨gx, rfl, ho, hbl⟩
        dsimp only
        obtain ⟨xa, xc, rfl⟩ := own_len ho
        have C1 := hideIt (below_via hbl (below1 w1 (.cells #[.int .i64 X.bi, .int .i64 X.bt, .slice xa X.l.length xc, .int .i64 X.cm] 26)))
        have E1 := hideIt (E0.out.keep C1.out)
        have X1 := hideIt (Ent.new ho LX.out)
        have B1 := hideIt (below_via (below1 w _) C1.out)
        clear ho hbl HC1 C1
        go_upto_region 2 with fail
        unfold logA at X1
        generalize w1.alloc (.cells #[.int .i64 X.bi, .int .i64 X.bt, .slice xa X.l.length xc, .int .i64 X.cm] 26) = w2 at *
        generalize w1.heap.size = k1 at *
        obtain ⟨c0, c1, c2, c3⟩ := X1.out.cells
        go_wp2_with fail
        refine (HC2.out _ _ X1.out.got).mono ?_
        rintro e w3 ⟨gy, rfl, ho, hbl⟩
        dsimp only
        obtain ⟨ya, yc, rfl⟩ := own_len ho
        have C3 := hideIt (below_via hbl (below1 w3 (.cells #[.int .i64 Y.bi, .int .i64 Y.bt, .slice ya Y.l.length yc, .int .i64 Y.cm] 26)))
        have E3 := hideIt (E1.out.keep C3.out)
        have Y3 := hideIt (Ent.new ho LY.out)
        have B3 := hideIt (below_via B1.out C3.out)
        clear ho hbl HC2 C3 X1 E1 B1 c0 c1 c2 c3
        go_upto_region 5 with fail
        unfold logA at Y3
        generalize w3.alloc (.cells #[.int .i64 Y.bi, .int .i64 Y.bt, .slice ya Y.l.length yc, .int .i64 Y.cm] 26) = w4 at *
        generalize w3.heap.size = k3 at *
        obtain ⟨c0, c1, c2, c3⟩ := E3.out.cells
        go_wp2_with fail
        refine (HC3.out _ E3.out.got).mono ?_
        rintro e w5 ⟨gz, rfl, ho, hbl⟩
        dsimp only
        obtain ⟨za, zc, rfl⟩ := own_len ho
        have C5 := hideIt (below_via hbl (below1 w5 (.cells #[.int .i64 Z.bi, .int .i64 Z.bt, .slice za Z.l.length zc, .int .i64 Z.cm] 26)))
        have Y5 := hideIt (Y3.out.keep C5.out)
        have Z5 := hideIt (Ent.new ho LZ.out)
        have B5 := hideIt (below_via B3.out C5.out)
        clear ho hbl HC3 C5 E3 Y3 B3 c0 c1 c2 c3
        go_upto_region 6 with fail
        unfold logA at Z5
        generalize w5.alloc (.cells #[.int .i64 Z.bi, .int .i64 Z.bt, .slice za Z.l.length zc, .int .i64 Z.cm] 26) = w6 at *
        generalize w5.heap.size = k5 at *
        go_wp2_with fail
        refine (HL.out _).mono ?_
        rintro e w7 ⟨rfl, hbl⟩
        dsimp only
        have HB := hideIt (below_via B5.out hbl)
        clear hbl
        go_wp2
        go_ret
        exact ⟨rfl, HB.out⟩
  · have hxb : (x != 0) = true := by simp [hx]
    clear HT HC2 HC3
    go_enter Try.func7, Try.ntmps7
    go_wp2_with fail
    refine (HC1.out _ E0.out.got).mono ?_
    rintro e w1 ⟨gx, rfl, ho, hbl⟩
    dsimp only
    obtain ⟨xa, xc, rfl⟩ := own_len ho
    have C1 := hideIt (below_via hbl (below1 w1 (.cells #[.int .i64 X.bi, .int .i64 X.bt, .slice xa X.l.length xc, .int .i64 X.cm] 26)))
    have E1 := hideIt (E0.out.keep C1.out)
    have X1 := hideIt (Ent.new ho LX.out)
    have B1 := hideIt (below_via (below1 w _) C1.out)
    clear ho hbl HC1 C1
    go_upto_region 2 with fail
    unfold logA at X1
    generalize w1.alloc (.cells #[.int .i64 X.bi, .int .i64 X.bt, .slice xa X.l.length xc, .int .i64 X.cm] 26) = w2 at *
    generalize w1.heap.size = k1 at *
    go_wp2_with fail
    refine (HL.out _).mono ?_
    rintro e w7 ⟨rfl, hbl⟩
    dsimp only
    have HB := hideIt (below_via B1.out hbl)
    clear hbl
    go_wp2
    go_ret
    exact ⟨rfl, HB.out⟩
end Go.Proofs.Ytofbikalfpmdpab
