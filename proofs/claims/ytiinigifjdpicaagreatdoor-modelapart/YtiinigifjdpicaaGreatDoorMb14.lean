/- Texts of my own, laid together. -/
import Derived.Test.YtiinigifjdpicaaGreatDoorMb13
namespace Go.Proofs.YtiinigifjdpicaaGreatDoor
open Go.RowKit
set_option linter.all false
set_option maxRecDepth 100000 in
set_option maxHeartbeats 16000000 in
theorem doAcc1 (w : World) (K i : Nat) (X : WkX) (wx : World) (h : WK w K X wx) (hi : i < X.A.length) (hk : X.r.kind = 1) : Calls Tryz.prog 51 #[.pointer (some ⟨K, 0, none⟩), .pointer (some ⟨X.ga, i * 2, none⟩)] wx (WkB w K X ({X.st with a := X.st.a.set i (Lg.credL (accD X.st i) X.r.asset X.r.n).1}, (Lg.credL (accD X.st i) X.r.asset X.r.n).2)) := by
 rw [accD_at hi];have HX := hideIt h;obtain ⟨⟨-, -, d2, -, -, d5, -, -, d8, -, -, -, -, -, -, -, -, -, -, -, -⟩, df, dz⟩ := at21 h.box;rw [hk] at d2;clear h
 go_enter Tryz.func51, Tryz.ntmps51
 go_upto_region 1 with fail
 go_quiet (fail)
 have HX1 := hideIt (HX.out.drewN nq);clear HX d2 d5 d8 df dz;generalize wx.drewN nq = W1 at *;obtain ⟨⟨-, -, d2, -, -, d5, -, -, d8, -, -, -, -, -, -, -, -, -, -, -, -⟩, df, dz⟩ := at21 HX1.out.box;rw [hk] at d2;obtain ⟨⟨c0, c1⟩, cf, cz, hat⟩ := HX1.out.acc hi;have HC := hideIt (fun W (hW : Below W1.heap.size W1 W) => credX (X.A[i]).v.l (X.A[i]).v.ct (X.A[i]).fa (X.A[i]).fc X.r.asset X.r.n W (SGot.keep hat hW));have HC := hideIt (HC.out W1 (Below.refl _ _));unfold CrB at HC
 go_wp2_with fail
 refine HC.out.mono ?_;rintro e w2 ⟨f, c, rfl, ho⟩;dsimp only;have HX2 := hideIt (HX1.out.keep ho.out.2);have hB := HX1.out.bel.size;obtain ⟨⟨e0, e1⟩, ef, ez, -⟩ := HX2.out.acc hi;have HP := hideIt (HX2.out.putA hi ⟨(Lg.credL (X.A[i]).v X.r.asset X.r.n).1, f, c⟩ (ho.out.1.base hB));clear ho HX1 HX2 c0 c1 cf cz hat HC;go_wp2;go_ret
 exact ⟨{X with A := X.A.set i ⟨(Lg.credL (X.A[i]).v X.r.asset X.r.n).1, f, c⟩}, rfl, st_setA, rfl, by simp, rfl, HP.out⟩
set_option maxRecDepth 100000 in
set_option maxHeartbeats 16000000 in
theorem doAcc2 (w : World) (K i : Nat) (X : WkX) (wx : World) (h : WK w K X wx) (hi : i < X.A.length) (hk : X.r.kind = 2) : Calls Tryz.prog 51 #[.pointer (some ⟨K, 0, none⟩), .pointer (some ⟨X.ga, i * 2, none⟩)] wx (WkB w K X ({X.st with a := X.st.a.set i (Lg.debL (accD X.st i) X.r.asset X.r.n).1}, (Lg.debL (accD X.st i) X.r.asset X.r.n).2)) := by
 rw [accD_at hi];have HX := hideIt h;obtain ⟨⟨-, -, d2, -, -, d5, -, -, d8, -, -, -, -, -, -, -, -, -, -, -, -⟩, df, dz⟩ := at21 h.box;rw [hk] at d2;clear h
 go_enter Tryz.func51, Tryz.ntmps51
 go_upto_region 1 with fail
 go_quiet (fail)
 have HX1 := hideIt (HX.out.drewN nq);clear HX d2 d5 d8 df dz;generalize wx.drewN nq = W1 at *;obtain ⟨⟨-, -, d2, -, -, d5, -, -, d8, -, -, -, -, -, -, -, -, -, -, -, -⟩, df, dz⟩ := at21 HX1.out.box;rw [hk] at d2;obtain ⟨⟨c0, c1⟩, cf, cz, hat⟩ := HX1.out.acc hi;have HC := hideIt (fun W (hW : Below W1.heap.size W1 W) => debX (X.A[i]).v.l (X.A[i]).v.ct (X.A[i]).fa (X.A[i]).fc X.r.asset X.r.n W (SGot.keep hat hW));have HC := hideIt (HC.out W1 (Below.refl _ _));unfold CrB at HC
 go_wp2_with fail
 refine HC.out.mono ?_;rintro e w2 ⟨f, c, rfl, ho⟩;dsimp only;have HX2 := hideIt (HX1.out.keep ho.out.2);have hB := HX1.out.bel.size;obtain ⟨⟨e0, e1⟩, ef, ez, -⟩ := HX2.out.acc hi;have HP := hideIt (HX2.out.putA hi ⟨(Lg.debL (X.A[i]).v X.r.asset X.r.n).1, f, c⟩ (ho.out.1.base hB));clear ho HX1 HX2 c0 c1 cf cz hat HC;go_wp2;go_ret
 exact ⟨{X with A := X.A.set i ⟨(Lg.debL (X.A[i]).v X.r.asset X.r.n).1, f, c⟩}, rfl, st_setA, rfl, by simp, rfl, HP.out⟩
set_option maxRecDepth 100000 in
set_option maxHeartbeats 16000000 in
theorem doAcc3 (w : World) (K i : Nat) (X : WkX) (wx : World) (h : WK w K X wx) (hi : i < X.A.length) (hk : X.r.kind = 3) (hp : X.r.side = 1 → 0 ≤ X.r.price ∧ X.r.price ≤ 1000000 ∧ 0 ≤ X.r.n ∧ X.r.n ≤ 1000000) : Calls Tryz.prog 51 #[.pointer (some ⟨K, 0, none⟩), .pointer (some ⟨X.ga, i * 2, none⟩)] wx (WkB w K X ({X.st with a := X.st.a.set i (Lg.debL (accD X.st i) (brA_ X.r) (brN_ X.r)).1}, (Lg.debL (accD X.st i) (brA_ X.r) (brN_ X.r)).2)) := by
 rw [accD_at hi];have HX := hideIt h;obtain ⟨⟨-, -, d2, -, -, d5, -, -, d8, -, -, -, -, -, -, -, -, -, -, -, -⟩, df, dz⟩ := at21 h.box;rw [hk] at d2;clear h
 go_enter Tryz.func51, Tryz.ntmps51
 go_upto_region 1 with fail
 go_quiet (fail)
 have HX1 := hideIt (HX.out.drewN nq);clear HX d2 d5 d8 df dz;generalize wx.drewN nq = W1 at *;obtain ⟨⟨-, -, d2, -, -, d5, -, -, d8, -, -, -, -, -, -, -, -, -, -, -, -⟩, df, dz⟩ := at21 HX1.out.box;rw [hk] at d2;obtain ⟨⟨c0, c1⟩, cf, cz, hat⟩ := HX1.out.acc hi;have HBR := hideIt (brought_is X.r W1 hp);unfold Se.reqC at HBR;rw [hk] at HBR;obtain ⟨⟨-, -, -, g3, g4, g5, g6, g7, g8, g9, g10, g11, g12, -, -, -, -, -, -, -, -⟩, -, -⟩ := at21 HX1.out.box;have HAT := hideIt hat
 go_wp2_with fail
 refine HBR.out.mono ?_;rintro e w4 ⟨rfl, hb4⟩;dsimp only;have hat := SGot.keep HAT.out hb4;have HX1 := hideIt (HX1.out.keep hb4);clear c0 c1 cf cz HAT g3 g4 g5 g6 g7 g8 g9 g10 g11 g12 d2 d5 d8 df dz HBR;obtain ⟨⟨c0, c1⟩, cf, cz, -⟩ := HX1.out.acc hi;clear hb4;have HC := hideIt (fun W (hW : Below w4.heap.size w4 W) => debX (X.A[i]).v.l (X.A[i]).v.ct (X.A[i]).fa (X.A[i]).fc (brA_ X.r) (brN_ X.r) W (SGot.keep hat hW));have HC := hideIt (HC.out w4 (Below.refl _ _));unfold CrB at HC
 go_wp2_with fail
 refine HC.out.mono ?_;rintro e w2 ⟨f, c, rfl, ho⟩;dsimp only;have HX2 := hideIt (HX1.out.keep ho.out.2);have hB := HX1.out.bel.size;obtain ⟨⟨e0, e1⟩, ef, ez, -⟩ := HX2.out.acc hi;have HP := hideIt (HX2.out.putA hi ⟨(Lg.debL (X.A[i]).v (brA_ X.r) (brN_ X.r)).1, f, c⟩ (ho.out.1.base hB));clear ho HX1 HX2 c0 c1 cf cz hat HC;go_wp2;go_ret
 exact ⟨{X with A := X.A.set i ⟨(Lg.debL (X.A[i]).v (brA_ X.r) (brN_ X.r)).1, f, c⟩}, rfl, st_setA, rfl, by simp, rfl, HP.out⟩
set_option maxRecDepth 100000 in
set_option maxHeartbeats 16000000 in
theorem doAcc7 (w : World) (K i : Nat) (X : WkX) (wx : World) (h : WK w K X wx) (hi : i < X.A.length) (hk : X.r.kind = 7) : Calls Tryz.prog 51 #[.pointer (some ⟨K, 0, none⟩), .pointer (some ⟨X.ga, i * 2, none⟩)] wx (WkB w K X (payZ i X.st)) := by
 have HX := hideIt h;obtain ⟨⟨-, -, d2, -, -, d5, -, -, d8, -, -, -, -, -, -, -, -, -, -, -, -⟩, df, dz⟩ := at21 h.box;rw [hk] at d2;clear h
 go_enter Tryz.func51, Tryz.ntmps51
 go_upto_region 1 with fail
 go_quiet (fail)
 have HX1 := hideIt (HX.out.drewN nq);clear HX d2 d5 d8 df dz;generalize wx.drewN nq = W1 at *;obtain ⟨⟨-, -, d2, -, -, d5, -, -, d8, -, -, -, -, -, -, -, -, -, -, -, -⟩, df, dz⟩ := at21 HX1.out.box;rw [hk] at d2;obtain ⟨⟨c0, c1⟩, cf, cz, hat⟩ := HX1.out.acc hi;have HC := hideIt (pay_is w K i X W1 HX1.out hi);clear c0 c1 cf cz hat;unfold WkB at HC
 go_wp2_with fail
 refine HC.out.mono ?_;rintro e w2 ⟨X2, rfl, q1, q2, q3, q4, hx⟩;dsimp only;have HQ := hideIt (And.intro q1 (And.intro q2 (And.intro q3 (And.intro q4 hx))));clear HC HX1 q1 q2 q3 q4 hx;go_wp2;go_ret
 exact ⟨X2, rfl, HQ.out⟩
set_option maxRecDepth 100000 in
set_option maxHeartbeats 16000000 in
theorem doAcc8 (w : World) (K i : Nat) (X : WkX) (wx : World) (h : WK w K X wx) (hi : i < X.A.length) (hk : X.r.kind = 8) : Calls Tryz.prog 51 #[.pointer (some ⟨K, 0, none⟩), .pointer (some ⟨X.ga, i * 2, none⟩)] wx (WkB w K X ({X.st with am := (accD X.st i).l}, 0)) := by
 rw [accD_at hi];have HX := hideIt h;obtain ⟨⟨-, -, d2, -, -, d5, -, -, d8, -, -, -, -, -, -, -, -, -, -, -, -⟩, df, dz⟩ := at21 h.box;rw [hk] at d2;clear h
 go_enter Tryz.func51, Tryz.ntmps51
 go_upto_region 1 with fail
 go_quiet (fail)
 have HX1 := hideIt (HX.out.drewN nq);clear HX d2 d5 d8 df dz;generalize wx.drewN nq = W1 at *;obtain ⟨⟨-, -, d2, -, -, d5, -, -, d8, -, -, -, -, -, -, -, -, -, -, -, -⟩, df, dz⟩ := at21 HX1.out.box;rw [hk] at d2;obtain ⟨⟨c0, c1⟩, cf, cz, hat⟩ := HX1.out.acc hi;have HC := hideIt (cloneA_is _ _ W1 hat);have hsz := hat.1;clear hat
 go_wp2_with fail
 refine HC.out.mono ?_;rintro e w2 ⟨f, c, rfl, ho, hb⟩;dsimp only;have HX2 := hideIt (HX1.out.keep hb);have HP := hideIt (HX2.out.setAm f c (X.A[i]).v.l (own_base ho HX1.out.bel.size) hsz);clear HC HX1 ho hb c0 c1 cf cz d2 d5 d8 df dz;obtain ⟨⟨-, -, -, -, -, -, -, -, -, -, -, -, -, -, -, -, -, -, -, d19, -⟩, df, dz⟩ := at21 HX2.out.box;clear HX2;go_wp2;go_ret
 exact ⟨{X with fm := f, cm := c, am := (X.A[i]).v.l}, rfl, rfl, rfl, rfl, rfl, HP.out⟩
set_option maxRecDepth 100000 in
set_option maxHeartbeats 16000000 in
theorem doAccO (w : World) (K i : Nat) (X : WkX) (wx : World) (h : WK w K X wx) (hi : i < X.A.length) (h1 : X.r.kind ≠ 1) (h2 : X.r.kind ≠ 2) (h3 : X.r.kind ≠ 3) (h7 : X.r.kind ≠ 7) (h8 : X.r.kind ≠ 8) : Calls Tryz.prog 51 #[.pointer (some ⟨K, 0, none⟩), .pointer (some ⟨X.ga, i * 2, none⟩)] wx (WkB w K X (X.st, 0)) := by
 have b1 : (X.r.kind == 1) = false := beq_eq_false_iff_ne.2 h1;have b2 : (X.r.kind == 2) = false := beq_eq_false_iff_ne.2 h2;have b3 : (X.r.kind == 3) = false := beq_eq_false_iff_ne.2 h3;have b7 : (X.r.kind == 7) = false := beq_eq_false_iff_ne.2 h7;have b8 : (X.r.kind == 8) = false := beq_eq_false_iff_ne.2 h8;clear h1 h2 h3 h7 h8;have hk : X.r.kind = X.r.kind := rfl;have HX := hideIt h;obtain ⟨⟨-, -, d2, -, -, d5, -, -, d8, -, -, -, -, -, -, -, -, -, -, -, -⟩, df, dz⟩ := at21 h.box;rw [hk] at d2;clear h
 go_enter Tryz.func51, Tryz.ntmps51
 go_upto_region 1 with fail
 go_quiet (fail)
 have HX1 := hideIt (HX.out.drewN nq);clear HX d2 d5 d8 df dz;generalize wx.drewN nq = W1 at *;obtain ⟨⟨-, -, d2, -, -, d5, -, -, d8, -, -, -, -, -, -, -, -, -, -, -, -⟩, df, dz⟩ := at21 HX1.out.box;rw [hk] at d2;obtain ⟨⟨c0, c1⟩, cf, cz, hat⟩ := HX1.out.acc hi;clear c0 c1 cf cz hat;go_wp2;go_ret
 exact ⟨X, rfl, rfl, rfl, rfl, rfl, HX1.out⟩
theorem doAcc_is (w : World) (K i : Nat) (X : WkX) (wx : World) (h : WK w K X wx) (hi : i < X.A.length) (hf : Se.fitsB X.r = true) : Calls Tryz.prog 51 #[.pointer (some ⟨K, 0, none⟩), .pointer (some ⟨X.ga, i * 2, none⟩)] wx (WkB w K X (stAcc X.r i X.st)) := by
 unfold stAcc
 by_cases h1 : X.r.kind = 1
 ·rw [if_pos h1];exact doAcc1 w K i X wx h hi h1
 ·rw [if_neg h1]
  by_cases h3 : X.r.kind = 3
  ·rw [if_pos h3];exact doAcc3 w K i X wx h hi h3 (fun _ => by have := (Se.fitF3 h3).1 hf; omega)
  ·rw [if_neg h3]
   by_cases h2 : X.r.kind = 2
   ·rw [if_pos h2];exact doAcc2 w K i X wx h hi h2
   ·rw [if_neg h2]
    by_cases h7 : X.r.kind = 7
    ·rw [if_pos h7];exact doAcc7 w K i X wx h hi h7
    ·rw [if_neg h7]
     by_cases h8 : X.r.kind = 8
     ·rw [if_pos h8];exact doAcc8 w K i X wx h hi h8
     ·rw [if_neg h8];exact doAccO w K i X wx h hi h1 h2 h3 h7 h8
def toT (e : AmV) : AmtV := ⟨e.asset, e.n⟩
theorem am_cells (l : List AmV) : celC amtE (l.map toT) = celC amE l := by
 simp only [celC, List.map_map]
 rfl
theorem am_conv {w : World} {v : Value} {l : List AmV} (h : SGot 2 16 amE w v l) : Amts w v (l.map toT) := by
 unfold Amts SGot at *;rw [List.length_map, am_cells];exact h
theorem above_conv (l : List AmV) (m : Int) : aboveB Lg.AmtV.n (l.map toT) m = aboveB AmV.n l m := by
 unfold aboveB;rw [List.any_map]
 rfl
theorem WK.sh {w wx : World} {K t : Nat} {X : WkX} (h : WK w K X wx) (ht : t < 4) : wx.cell? ⟨K, 13 + t, none⟩ = some (.int .i64 (X.s t)) ∧ wx.frozen? ⟨K, 13 + t, none⟩ = false := by
 obtain ⟨⟨d0, d1, d2, d3, d4, d5, d6, d7, d8, d9, d10, d11, d12, d13, d14, d15, d16, d17, d18, d19, d20⟩, df, _⟩ := at21 h.box;refine ⟨?_, df _⟩
 rcases (by omega : t = 0 ∨ t = 1 ∨ t = 2 ∨ t = 3) with rfl | rfl | rfl | rfl
 ·exact d13
 ·exact d14
 ·exact d15
 ·exact d16
theorem tak_sml (L : LaneV) (acc : Int) (h : Sml L) : Sml (takR L acc).1 := by
 unfold takR
 split
 ·exact sml_zero
 ·split
  ·exact sml_zero
  ·exact ⟨h.1, h.2.1, Nat.le_trans (lefA_len _ _) h.2.2⟩
theorem tak_len (L : LaneV) (acc : Int) (h : Sml L) : (takR L acc).2.1.length ≤ 40 := by
 unfold takR
 split
 ·simp
 ·split
  ·simp
  ·exact Nat.le_trans (takA_len _ _) h.2.2
theorem lnb_of {M : LaneV} {W w' : World} {b a o : Value} (hs : Sml M) (hb : w'.ownsRow W.heap.size 115 4 b M.bids.length (celC ordE M.bids)) (ha : w'.ownsRow W.heap.size 115 4 a M.asks.length (celC ordE M.asks)) (ho : w'.ownsRow W.heap.size 61 3 o M.owed.length (celC oweE M.owed)) : ∃ b1 b2 a1 a2 o1 o2, b = .slice b1 M.bids.length b2 ∧ a = .slice a1 M.asks.length a2 ∧ o = .slice o1 M.owed.length o2 ∧ LanOwn W.heap.size w' ⟨M, b1, b2, a1, a2, o1, o2⟩ := by
 obtain ⟨b1, b2, rfl⟩ := own_len hb;obtain ⟨a1, a2, rfl⟩ := own_len ha;obtain ⟨o1, o2, rfl⟩ := own_len ho
 exact ⟨b1, b2, a1, a2, o1, o2, rfl, rfl, rfl, ⟨hb, ha, ho, by have := hs.1; simp only; omega, by have := hs.2.1; simp only; omega, by have := hs.2.2; simp only; omega⟩⟩
theorem takeX (L : LaneV) (acc : Int) (b a o : Value) (W : World) (hs : Sml L) (h : Lan W L b a o) : Calls Tryz.prog 126 #[.agg #[.bool L.call, .int .i64 L.next, b, a, o], .int .i64 acc] W fun e w' => ∃ b1 b2 a1 a2 o1 o2 u1 u2, e = .returned (.tuple #[.agg #[.bool (takR L acc).1.call, .int .i64 (takR L acc).1.next, .slice b1 (takR L acc).1.bids.length b2, .slice a1 (takR L acc).1.asks.length a2, .slice o1 (takR L acc).1.owed.length o2], .slice u1 (takR L acc).2.1.length u2, .int .i64 (takR L acc).2.2]) ∧ Hid (LanOwn W.heap.size w' ⟨(takR L acc).1, b1, b2, a1, a2, o1, o2⟩ ∧ w'.ownsRow W.heap.size 53 2 (.slice u1 (takR L acc).2.1.length u2) (takR L acc).2.1.length (celC amE (takR L acc).2.1) ∧ Below W.heap.size W w') := by
 refine (take_is L b a o acc W h).mono ?_;rintro e w' ⟨b', a', o', u', rfl, hb, ha, ho, hu, hB⟩;obtain ⟨b1, b2, a1, a2, o1, o2, rfl, rfl, rfl, hl⟩ := lnb_of (tak_sml L acc hs) hb ha ho;obtain ⟨u1, u2, rfl⟩ := own_len hu
 exact ⟨b1, b2, a1, a2, o1, o2, u1, u2, rfl, hideIt ⟨hl, hu, hB⟩⟩
def setZ (r : ReqV) (i : Nat) (q : Int) (S : StV) : StV × Int := if decide ((takR (lanD S i) r.acct).2.2 ≠ 0) || aboveB AmV.n (takR (lanD S i) r.acct).2.1 1125899906842624 then (S, 6) else ({S with l := S.l.set i (takR (lanD S i) r.acct).1, s := addT q (takR (lanD S i) r.acct).2.1 S.s}, 0)
theorem SGot.ams {w : World} {v : Value} {l : List AmV} (h : SGot 2 16 amE w v l) : ∃ a c, v = .slice a l.length c ∧ l.length * 16 ≤ 140737488355328 ∧ ∀ i (h : i < l.length), ∃ b off, a = some ⟨b, off, none⟩ ∧ b < w.heap.size ∧ w.cell? ⟨b, off + i * 2, none⟩ = some (.int .i64 (l[i]).asset) ∧ w.cell? ⟨b, off + i * 2 + 1, none⟩ = some (.int .i64 (l[i]).n) := by
 obtain ⟨h8, a, c, e, hc, hr⟩ := h;refine ⟨a, c, e, h8, fun i hi => ?_⟩;obtain ⟨b, off, ha, hb, hcell⟩ := hr (by omega);have g := celC_get amK l i hi
 exact ⟨b, off, ha, hb, (hcell (i * 2) (by omega)).trans (g 0 (by omega)), (hcell (i * 2 + 1) (by omega)).trans (g 1 (by omega))⟩
theorem addT_step (q : Int) {L : List AmV} {t : Nat} (s : Nat → Int) (h : t < L.length) : addT q (L.drop t) s = addT q (L.drop (t + 1)) (Lg.upS s (assQ q L[t]) (wr64 (s (assQ q L[t]) + (L[t]).n))) := by
 rw [List.drop_eq_getElem_cons h]
 rfl
set_option maxRecDepth 100000 in
set_option maxHeartbeats 16000000 in
theorem settle_is2 (w : World) (K i kq : Nat) (X : WkX) (wx : World) (h : WK w K X wx) (hi : i < X.L.length) (hs : Sml (X.L[i]).v) (hc : chkB (X.L[i]).v = true) (hq : 1 ≤ kq ∧ kq ≤ 3) : Calls Tryz.prog 83 #[.pointer (some ⟨K, 0, none⟩), .pointer (some ⟨X.gl, i * 5, none⟩), .int .i64 (kq : Int)] wx (WkB w K X (setZ X.r i kq X.st)) := by
 have HZ : Hid (setZ X.r i kq X.st = if decide ((takR (X.L[i]).v X.r.acct).2.2 ≠ 0) || aboveB AmV.n (takR (X.L[i]).v X.r.acct).2.1 1125899906842624 then (X.st, 6) else ({X.st with l := X.st.l.set i (takR (X.L[i]).v X.r.acct).1, s := addT kq (takR (X.L[i]).v X.r.acct).2.1 X.s}, 0)) := by
  show _ = _
  unfold setZ;rw [lanD_at hi]
  rfl
 generalize setZ X.r i kq X.st = Z at *;have HX := hideIt h;obtain ⟨⟨k0, k1, k2, k3, k4⟩, kf, kz, hat⟩ := h.lan hi;obtain ⟨⟨-, -, -, d3, -, -, -, -, -, -, -, -, -, -, -, -, -, -, -, -, -⟩, df, dz⟩ := at21 h.box;have hB0 := h.bel.size;have HC := hideIt (fun W (hW : Below wx.heap.size wx W) => takeX (X.L[i]).v X.r.acct _ _ _ W hs (Lan.keep hat hW));have hMem : ∀ e ∈ (takR (X.L[i]).v X.r.acct).2.1, (e.asset = 0 ∨ e.asset = 1) ∧ 1 ≤ e.n ∧ e.n ≤ 9007199254740992 := by
  intro e he;unfold takR at he
  split at he
  ·simp at he
  ·split at he
   ·simp at he
   ·exact tak_mem hc e he
 have HM := hideIt hMem;have htl := tak_len (X.L[i]).v X.r.acct hs;clear h hat hMem hc hs;have HLI : Hid (X.L[i] = X.L[i]) := rfl;generalize takR (X.L[i]).v X.r.acct = TR at *;obtain ⟨TM, TL, ter⟩ := TR;simp only at HC HM htl HZ;obtain ⟨acct, hacct⟩ : ∃ x, x = X.r.acct := ⟨_, rfl⟩;rw [← hacct] at d3 HC;clear hacct HLI;have HA : Hid (∀ W, Below wx.heap.size wx W → W.cell? ⟨X.gl, i * 5, none⟩ = some (.bool (X.L[i]).v.call) ∧ W.cell? ⟨X.gl, i * 5 + 1, none⟩ = some (.int .i64 (X.L[i]).v.next) ∧ W.cell? ⟨X.gl, i * 5 + 2, none⟩ = some (.slice (X.L[i]).ba (X.L[i]).v.bids.length (X.L[i]).bc) ∧ W.cell? ⟨X.gl, i * 5 + 3, none⟩ = some (.slice (X.L[i]).aa (X.L[i]).v.asks.length (X.L[i]).ac) ∧ W.cell? ⟨X.gl, i * 5 + 4, none⟩ = some (.slice (X.L[i]).oa (X.L[i]).v.owed.length (X.L[i]).oc) ∧ W.cell? ⟨K, 3, none⟩ = some (.int .i64 acct)) := fun W hW => ⟨(hW.cell (p := ⟨X.gl, i * 5, none⟩) kz).trans k0, (hW.cell (p := ⟨X.gl, i * 5 + 1, none⟩) kz).trans k1, (hW.cell (p := ⟨X.gl, i * 5 + 2, none⟩) kz).trans k2, (hW.cell (p := ⟨X.gl, i * 5 + 3, none⟩) kz).trans k3, (hW.cell (p := ⟨X.gl, i * 5 + 4, none⟩) kz).trans k4, (hW.cell (p := ⟨K, 3, none⟩) dz).trans d3⟩
 generalize (X.L[i]).v.call = l0 at *;generalize (X.L[i]).v.next = l1 at *;generalize (Value.slice (X.L[i]).ba (X.L[i]).v.bids.length (X.L[i]).bc) = l2 at *;generalize (Value.slice (X.L[i]).aa (X.L[i]).v.asks.length (X.L[i]).ac) = l3 at *;generalize (Value.slice (X.L[i]).oa (X.L[i]).v.owed.length (X.L[i]).oc) = l4 at *;have HCY : Hid (∀ W, Below wx.heap.size wx W → Calls Tryz.prog 126 #[.agg #[.bool l0, .int .i64 l1, l2, l3, l4], .int .i64 acct] W (fun e w' => ∃ b1 b2 c1 c2 o1 o2 u1 u2, e = .returned (.tuple #[.agg #[.bool TM.call, .int .i64 TM.next, .slice b1 TM.bids.length b2, .slice c1 TM.asks.length c2, .slice o1 TM.owed.length o2], .slice u1 TL.length u2, .int .i64 ter]) ∧ Hid (LanOwn wx.heap.size w' ⟨TM, b1, b2, c1, c2, o1, o2⟩ ∧ w'.ownsRow wx.heap.size 53 2 (.slice u1 TL.length u2) TL.length (celC amE TL) ∧ Below wx.heap.size wx w' ∧ Below W.heap.size W w') ∧ (w'.cell? ⟨X.gl, i * 5, none⟩ = some (.bool l0) ∧ w'.cell? ⟨X.gl, i * 5 + 1, none⟩ = some (.int .i64 l1) ∧ w'.cell? ⟨X.gl, i * 5 + 2, none⟩ = some l2 ∧ w'.cell? ⟨X.gl, i * 5 + 3, none⟩ = some l3 ∧ w'.cell? ⟨X.gl, i * 5 + 4, none⟩ = some l4 ∧ w'.cell? ⟨K, 3, none⟩ = some (.int .i64 acct)))) := by
  intro W hW;refine (HC.out W hW).mono ?_;rintro e w' ⟨b1, b2, c1, c2, o1, o2, u1, u2, rfl, ho⟩;have hB := below_via hW ho.out.2.2
  exact ⟨b1, b2, c1, c2, o1, o2, u1, u2, rfl, hideIt ⟨ho.out.1.base hW.size, own_base ho.out.2.1 hW.size, hB, ho.out.2.2⟩, HA.out w' hB⟩
 clear HC;have NA : ∀ x, (wx.alloc x).cell? ⟨X.gl, i * 5, none⟩ = some (.bool l0) ∧ (wx.alloc x).cell? ⟨X.gl, i * 5 + 1, none⟩ = some (.int .i64 l1) ∧ (wx.alloc x).cell? ⟨X.gl, i * 5 + 2, none⟩ = some l2 ∧ (wx.alloc x).cell? ⟨X.gl, i * 5 + 3, none⟩ = some l3 ∧ (wx.alloc x).cell? ⟨X.gl, i * 5 + 4, none⟩ = some l4 ∧ (wx.alloc x).cell? ⟨K, 3, none⟩ = some (.int .i64 acct) := fun x => HA.out _ (below1 wx x)
 have ZF : Hid (∀ w', Below (wx.alloc (.cells #[.bool false, .int .i64 0, .slice none 0 0, .slice none 0 0, .slice none 0 0] 59)).heap.size (wx.alloc (.cells #[.bool false, .int .i64 0, .slice none 0 0, .slice none 0 0, .slice none 0 0] 59)) w' → (w'.cell? ⟨wx.heap.size, 0, none⟩ = some (.bool false) ∧ w'.cell? ⟨wx.heap.size, 1, none⟩ = some (.int .i64 0) ∧ w'.cell? ⟨wx.heap.size, 2, none⟩ = some (.slice none 0 0) ∧ w'.cell? ⟨wx.heap.size, 3, none⟩ = some (.slice none 0 0) ∧ w'.cell? ⟨wx.heap.size, 4, none⟩ = some (.slice none 0 0)) ∧ (∀ j, w'.frozen? ⟨wx.heap.size, j, none⟩ = false) ∧ wx.heap.size < w'.heap.size) := by
  intro w' hb;exact at5 ((hb.block wx.heap.size (by simp)).trans (heap_alloc_new wx _))
 have y1 : wx.heap.size ≠ X.gl := by omega
 have y2 : wx.heap.size ≠ K := by omega
 have y3 : X.gl ≠ wx.heap.size := by omega
 have y4 : K ≠ wx.heap.size := by omega
 go_enter Tryz.func83, Tryz.ntmps83
 go_upto_region 1 with fail
 go_cut [7, 8, 9] from 13 to 25 (fun x y z wy => ∃ km b1 b2 c1 c2 o1 o2 u1 u2, x = .pointer (some ⟨km, 0, none⟩) ∧ y = .slice u1 TL.length u2 ∧ z = .int .i64 ter ∧ Hid (wy.heap[km]? = some (.cells #[.bool TM.call, .int .i64 TM.next, .slice b1 TM.bids.length b2, .slice c1 TM.asks.length c2, .slice o1 TM.owed.length o2] 59 (0, 0)) ∧ LanOwn wx.heap.size wy ⟨TM, b1, b2, c1, c2, o1, o2⟩ ∧ wy.ownsRow wx.heap.size 53 2 (.slice u1 TL.length u2) TL.length (celC amE TL) ∧ Below wx.heap.size wx wy))
 case first =>
  clear HA HX HM
  go_region_held3 (fun W => W.cell? ⟨X.gl, i * 5, none⟩ = some (.bool l0) ∧ W.cell? ⟨X.gl, i * 5 + 1, none⟩ = some (.int .i64 l1) ∧ W.cell? ⟨X.gl, i * 5 + 2, none⟩ = some l2 ∧ W.cell? ⟨X.gl, i * 5 + 3, none⟩ = some l3 ∧ W.cell? ⟨X.gl, i * 5 + 4, none⟩ = some l4 ∧ W.cell? ⟨K, 3, none⟩ = some (.int .i64 acct)) (go_keep) (first | (go_at_call 126; refine (HCY.out (wx.alloc (.cells #[.bool false, .int .i64 0, .slice none 0 0, .slice none 0 0, .slice none 0 0] 59)).drew (below1 _ _).drew).mono ?_; rintro e w5 ⟨b1, b2, c1, c2, o1, o2, u1, u2, rfl, HQ, ⟨i0, i1, i2, i3, i4, i5⟩⟩; obtain ⟨⟨m0, m1, m2, m3, m4⟩, mf, mz⟩ := ZF.out w5 (below_via (Below.refl _ _).drew HQ.out.2.2.2)) | (go_at_call 126; refine (HCY.out wx.drew (Below.refl _ _).drew).mono ?_; rintro e w5 ⟨b1, b2, c1, c2, o1, o2, u1, u2, rfl, HQ, ⟨i0, i1, i2, i3, i4, i5⟩⟩))
  all_goals go_wp2_with fail
  all_goals go_meet
  ·exact ⟨w5.heap.size, b1, b2, c1, c2, o1, o2, u1, u2, rfl, rfl, rfl, hideIt ⟨heap_alloc_new w5 _, HQ.out.1.keep (below1 w5 _), own_keep HQ.out.2.1 (below1 w5 _), below_via HQ.out.2.2.1 (below1 w5 _)⟩⟩
  ·have hz := (HQ.out.2.2.2.block wx.heap.size (show wx.heap.size < (wx.alloc (.cells #[.bool false, .int .i64 0, .slice none 0 0, .slice none 0 0, .slice none 0 0] 59)).heap.size by simp)).trans (heap_alloc_new wx _);have hp5 := puts5 w5 wx.heap.size 59 (.bool TM.call) (.int .i64 TM.next) (.slice b1 TM.bids.length b2) (.slice c1 TM.asks.length c2) (.slice o1 TM.owed.length o2) hz;have g1 := heap_set hz 0 (.bool TM.call);have g2 := heap_set g1 1 (.int .i64 TM.next);have g3 := heap_set g2 2 (.slice b1 TM.bids.length b2);have g4 := heap_set g3 3 (.slice c1 TM.asks.length c2)
   exact ⟨wx.heap.size, b1, b2, c1, c2, o1, o2, u1, u2, rfl, rfl, rfl, hideIt ⟨hp5.1, ((((HQ.out.1.set hz (by decide) (by decide)).set g1 (by decide) (by decide)).set g2 (by decide) (by decide)).set g3 (by decide) (by decide)).set g4 (by decide) (by decide), own_cell (own_cell (own_cell (own_cell (own_cell HQ.out.2.1 hz (by decide)) g1 (by decide)) g2 (by decide)) g3 (by decide)) g4 (by decide), belowSet _ (belowSet _ (belowSet _ (belowSet _ (belowSet _ HQ.out.2.2.1 (Nat.le_refl _)) (Nat.le_refl _)) (Nat.le_refl _)) (Nat.le_refl _)) (Nat.le_refl _)⟩⟩
 case rest =>
 obtain ⟨km, b1, b2, c1, c2, o1, o2, u1, u2, rfl, rfl, rfl, HQ⟩ := hcut;clear HCY NA ZF y1 y2 y3 y4 k0 k1 k2 k3 k4 kf kz d3 df dz HA;have HX5 := hideIt (HX.out.keep HQ.out.2.2.2);have HT := hideIt (own_base HQ.out.2.2.1 hB0);have HLN := hideIt (And.intro HQ.out.1 (HQ.out.2.1.base hB0));clear HQ HX
 by_cases her : ter = 0
 ·have herb : (ter == 0) = true := beq_iff_eq.2 her;have HAB := hideIt (hasAbove_is _ _ 1125899906842624 wc (am_conv (own_sgot HT.out (by omega))));rw [above_conv] at HAB;subst her;cases hab : aboveB AmV.n TL 1125899906842624
  ·rw [hab] at HAB;have HAB0 := hideIt hab;clear hab
   go_wp2_with fail
   refine HAB.out.mono ?_;rintro e w6 ⟨rfl, hb⟩;dsimp only;have HX6 := hideIt (HX5.out.keep hb);have HT6 := hideIt (own_keep HT.out hb);have HL6 := hideIt (And.intro (blkK HLN.out.1 hb) (HLN.out.2.keep hb));clear HX5 HT HLN hb HAB;obtain ⟨⟨a0, a1, a2, a3, a4⟩, af, az, -⟩ := HX6.out.lan hi;obtain ⟨⟨m0, m1, m2, m3, m4⟩, -, mz⟩ := at5 HL6.out.1;have HP := hideIt (HX6.out.putL hi ⟨TM, b1, b2, c1, c2, o1, o2⟩ HL6.out.2);obtain ⟨⟨cs, hg⟩, hgB⟩ := row_blk HX6.out.ln.row;have g1 := heap_set hg (i * 5) (.bool TM.call);have g2 := heap_set g1 (i * 5 + 1) (.int .i64 TM.next);have g3 := heap_set g2 (i * 5 + 2) (.slice b1 TM.bids.length b2);have g4 := heap_set g3 (i * 5 + 3) (.slice c1 TM.asks.length c2);have HT7 := hideIt (own_cell (j := i * 5 + 4) (u := .slice o1 TM.owed.length o2) (own_cell (j := i * 5 + 3) (u := .slice c1 TM.asks.length c2) (own_cell (j := i * 5 + 2) (u := .slice b1 TM.bids.length b2) (own_cell (j := i * 5 + 1) (u := .int .i64 TM.next) (own_cell (j := i * 5) (u := .bool TM.call) HT6.out hg (by decide)) g1 (by decide)) g2 (by decide)) g3 (by decide)) g4 (by decide));clear HX6 HL6 HT6 hg g1 g2 g3 g4 hgB
   go_upto_region 5 with fail
   clear a0 a1 a2 a3 a4 af az m0 m1 m2 m3 m4 mz;dsimp only at HP HT7;generalize (World.setCell _ ⟨X.gl, i * 5 + 4, none⟩ _) = W7 at *;have HLP : Hid (X.L.set i ⟨TM, b1, b2, c1, c2, o1, o2⟩ = X.L.set i ⟨TM, b1, b2, c1, c2, o1, o2⟩) := rfl;generalize hXl : X.L.set i ⟨TM, b1, b2, c1, c2, o1, o2⟩ = XL at *;have HXL := hideIt hXl;clear hXl HLP
   go_upto_region 6 with fail
   go_loopw [37] (fun v wr => ∃ (t : Nat) (s : Nat → Int), v = .int .i64 t ∧ t ≤ TL.length ∧ Hid (addT kq (TL.drop t) s = addT kq TL X.s ∧ WK w K {X with L := XL, s := s} wr ∧ wr.ownsRow w.heap.size 53 2 (.slice u1 TL.length u2) TL.length (celC amE TL))) (fun v _ => TL.length - (intOf v).toNat)
   case atStart => exact ⟨0, X.s, rfl, Nat.zero_le _, hideIt ⟨by rw [List.drop_zero], HP.out, HT7.out⟩⟩
   case round =>
    clear HP HT7;obtain ⟨t, s, rfl, ht, HR⟩ := hrel
    by_cases hlt : t < TL.length
    ·have hltI : (t : Int) < (TL.length : Int) := by omega
     have ht0 : (0 : Int) ≤ (t : Int) := by omega
     obtain ⟨ua, uc, hue, _, hcell⟩ := SGot.ams (own_sgot HR.out.2.2 (bytes := 16) (by omega));obtain ⟨b, off, rfl, hbl, q0, q1⟩ := hcell t hlt;simp only [Value.slice.injEq] at hue;obtain ⟨rfl, _, _⟩ := hue;have HSTEP := hideIt (addT_step kq s hlt);have hmem := HM.out TL[t] (List.getElem_mem hlt);have HRR := hideIt HR.out.2;have HRE := hideIt HR.out.1;clear HR hcell;generalize TL[t] = en at *;obtain ⟨ek, ex⟩ := en;simp only at q0 q1 HSTEP hmem;obtain ⟨hk01, hx1, hx2⟩ := hmem;have hgr := heap_alloc_new wr (.cells #[.int .i64 ek, .int .i64 ex] 53);have HXa := hideIt (HRR.out.1.keep (below1 wr (.cells #[.int .i64 ek, .int .i64 ex] 53)));have HTa := hideIt (own_keep HRR.out.2 (below1 wr (.cells #[.int .i64 ek, .int .i64 ex] 53)));have n0 : (wr.alloc (.cells #[.int .i64 ek, .int .i64 ex] 53)).cell? ⟨wr.heap.size, 0, none⟩ = some (.int .i64 ek) := (cell_at hgr 0).trans rfl;have n1 : (wr.alloc (.cells #[.int .i64 ek, .int .i64 ex] 53)).cell? ⟨wr.heap.size, 1, none⟩ = some (.int .i64 ex) := (cell_at hgr 1).trans rfl;have nz : wr.heap.size < (wr.alloc (.cells #[.int .i64 ek, .int .i64 ex] 53)).heap.size := by simp
     have nK : wr.heap.size ≠ K := by
      have := (Array.getElem?_eq_some_iff.1 HRR.out.1.box).1;omega
     clear hgr HRR
     go_upto_region 8 with fail
     clear q0 q1;generalize hKA : wr.heap.size = KA at *;have HKA := hideIt hKA;clear hKA;generalize wr.alloc (.cells #[.int .i64 ek, .int .i64 ex] 53) = W1 at *;have hKl := (Array.getElem?_eq_some_iff.1 HXa.out.box).1
     rcases hk01 with rfl | rfl
     ·have hsh := HXa.out.sh (t := 0) (by omega);obtain ⟨s0, f0⟩ := hsh;have HPUT := hideIt ((HXa.out.setS 0 (by omega) (wr64 (s 0 + ex))).keep (Below.refl _ _).drew);have HPT := hideIt (own_keep (own_cell (j := 13 + 0) (u := .int .i64 (wr64 (s 0 + ex))) HTa.out HXa.out.box (by decide)) (Below.refl _ _).drew);have HN : Hid (addT kq (TL.drop t) s = addT kq (TL.drop (t + 1)) (Lg.upS s 0 (wr64 (s 0 + ex)))) := HSTEP.out;clear HSTEP HXa HTa;simp only [Nat.add_zero] at s0 f0 HPUT HPT
      go_upto_region 11 with fail
      go_region
      go_wp2
      go_roundw
      case rel => exact ⟨t + 1, Lg.upS s 0 (wr64 (s 0 + ex)), by go_num, by omega, hideIt ⟨by rw [← HN.out]; exact HRE.out, HPUT.out, HPT.out⟩⟩
      case measure => simp [intOf]; omega
     ·have hsh := HXa.out.sh (t := kq) (by omega);obtain ⟨s0, f0⟩ := hsh;have HPUT := hideIt ((HXa.out.setS kq (by omega) (wr64 (s kq + ex))).keep (Below.refl _ _).drew);have HPT := hideIt (own_keep (own_cell (j := 13 + kq) (u := .int .i64 (wr64 (s kq + ex))) HTa.out HXa.out.box (by decide)) (Below.refl _ _).drew);have HN : Hid (addT kq (TL.drop t) s = addT kq (TL.drop (t + 1)) (Lg.upS s kq (wr64 (s kq + ex)))) := HSTEP.out;clear HSTEP HXa HTa;have hkqI : (kq : Int) < 4 := by omega
      have hkq0 : (0 : Int) ≤ (kq : Int) := by omega
      go_upto_region 11 with fail
      go_region
      go_wp2
      go_roundw
      case rel => exact ⟨t + 1, Lg.upS s kq (wr64 (s kq + ex)), by go_num, by omega, hideIt ⟨by rw [← HN.out]; exact HRE.out, HPUT.out, HPT.out⟩⟩
      case measure => simp [intOf]; omega
    ·have hltI : ¬ (t : Int) < (TL.length : Int) := by omega
     obtain rfl : t = TL.length := by omega
     have HE := hideIt HR.out.1;have HG := hideIt HR.out.2.1;clear HR;go_wp2;go_ret;have hE := HE.out;rw [List.drop_length] at hE;have hE2 : s = addT kq TL X.s := hE;subst hE2;rw [HZ.out, HAB0.out, if_neg (by simp)];refine ⟨{X with L := XL, s := addT kq TL X.s}, rfl, ?_, rfl, rfl, by rw [← HXL.out]; simp, HG.out⟩
     rw [← HXL.out];simp only [WkX.st, List.map_set]
  ·rw [hab] at HAB
   go_wp2_with fail
   refine HAB.out.mono ?_;rintro e w6 ⟨rfl, hb⟩;dsimp only;have HX6 := hideIt (HX5.out.keep hb);clear HX5 HT HLN hb HAB HM;go_wp2;go_ret;rw [HZ.out, hab, Bool.or_true, if_pos rfl]
   exact ⟨X, rfl, rfl, rfl, rfl, rfl, HX6.out⟩
 ·have herb : (ter == 0) = false := beq_eq_false_iff_ne.2 her;have hern : (ter != 0) = true := bne_iff_ne.2 her;have hd : decide (ter ≠ 0) = true := decide_eq_true her;have HD := hideIt hd;clear her hd HT HLN HM;go_wp2;go_ret;rw [HZ.out, HD.out, Bool.true_or, if_pos rfl]
  exact ⟨X, rfl, rfl, rfl, rfl, rfl, HX5.out⟩
theorem placeX (L : LaneV) (acc s p n : Int) (now : Bool) (b a o : Value) (W : World) (h : Lan W L b a o) : Calls Tryz.prog 79 #[.agg #[.bool L.call, .int .i64 L.next, b, a, o], .int .i64 acc, .int .i64 s, .int .i64 p, .int .i64 n, .bool now] W fun e w' => ∃ b1 b2 a1 a2 o1 o2 u1 u2, e = .returned (.tuple #[.agg #[.bool (placeL L acc s p n now).1.call, .int .i64 (placeL L acc s p n now).1.next, .slice b1 (placeL L acc s p n now).1.bids.length b2, .slice a1 (placeL L acc s p n now).1.asks.length a2, .slice o1 (placeL L acc s p n now).1.owed.length o2], .slice u1 (placeL L acc s p n now).2.1.length u2, .int .i64 (placeL L acc s p n now).2.2.1, .int .i64 (placeL L acc s p n now).2.2.2]) ∧ Hid (LanOwn W.heap.size w' ⟨(placeL L acc s p n now).1, b1, b2, a1, a2, o1, o2⟩ ∧ w'.ownsRow W.heap.size 106 4 (.slice u1 (placeL L acc s p n now).2.1.length u2) (placeL L acc s p n now).2.1.length (celC filE (placeL L acc s p n now).2.1) ∧ Below W.heap.size W w') := by
 refine (place_is L b a o acc s p n now W h).mono ?_;rintro e w' ⟨b', a', o', u', rfl, hb, ha, ho, hu, hB⟩;obtain ⟨b1, b2, a1, a2, o1, o2, rfl, rfl, rfl, hl⟩ := lnb_of (place_sml L acc s p n now) hb ha ho;obtain ⟨u1, u2, rfl⟩ := own_len hu
 exact ⟨b1, b2, a1, a2, o1, o2, u1, u2, rfl, hideIt ⟨hl, hu, hB⟩⟩
theorem cancelX (L : LaneV) (acc id : Int) (b a o : Value) (W : World) (h : Lan W L b a o) : Calls Tryz.prog 80 #[.agg #[.bool L.call, .int .i64 L.next, b, a, o], .int .i64 acc, .int .i64 id] W fun e w' => ∃ b1 b2 a1 a2 o1 o2, e = .returned (.tuple #[.agg #[.bool (canR L acc id).1.call, .int .i64 (canR L acc id).1.next, .slice b1 (canR L acc id).1.bids.length b2, .slice a1 (canR L acc id).1.asks.length a2, .slice o1 (canR L acc id).1.owed.length o2], .int .i64 (canR L acc id).2.1, .int .i64 (canR L acc id).2.2]) ∧ Hid (LanOwn W.heap.size w' ⟨(canR L acc id).1, b1, b2, a1, a2, o1, o2⟩ ∧ Below W.heap.size W w') := by
 refine (cancel_is L b a o acc id W h).mono ?_;rintro e w' ⟨b', a', o', rfl, hb, ha, ho, hB⟩;obtain ⟨b1, b2, a1, a2, o1, o2, rfl, rfl, rfl, hl⟩ := lnb_of (can_sml L acc id) hb ha ho
 exact ⟨b1, b2, a1, a2, o1, o2, rfl, hideIt ⟨hl, hB⟩⟩
theorem callX (L : LaneV) (b a o : Value) (W : World) (h : Lan W L b a o) : Calls Tryz.prog 81 #[.agg #[.bool L.call, .int .i64 L.next, b, a, o]] W fun e w' => ∃ b1 b2 a1 a2 o1 o2, e = .returned (.tuple #[.agg #[.bool (calR L).1.call, .int .i64 (calR L).1.next, .slice b1 (calR L).1.bids.length b2, .slice a1 (calR L).1.asks.length a2, .slice o1 (calR L).1.owed.length o2], .int .i64 (calR L).2]) ∧ Hid (LanOwn W.heap.size w' ⟨(calR L).1, b1, b2, a1, a2, o1, o2⟩ ∧ Below W.heap.size W w') := by
 refine (call_is L b a o W h).mono ?_;rintro e w' ⟨b', a', o', rfl, hb, ha, ho, hB⟩;obtain ⟨b1, b2, a1, a2, o1, o2, rfl, rfl, rfl, hl⟩ := lnb_of (cal_sml L) hb ha ho
 exact ⟨b1, b2, a1, a2, o1, o2, rfl, hideIt ⟨hl, hB⟩⟩
theorem uncrossX (L : LaneV) (b a o : Value) (W : World) (h : Lan W L b a o) : Calls Tryz.prog 82 #[.agg #[.bool L.call, .int .i64 L.next, b, a, o]] W fun e w' => ∃ b1 b2 a1 a2 o1 o2 u1 u2, e = .returned (.tuple #[.agg #[.bool (uncR L).1.call, .int .i64 (uncR L).1.next, .slice b1 (uncR L).1.bids.length b2, .slice a1 (uncR L).1.asks.length a2, .slice o1 (uncR L).1.owed.length o2], .slice u1 (uncR L).2.1.length u2, .int .i64 (uncR L).2.2]) ∧ Hid (LanOwn W.heap.size w' ⟨(uncR L).1, b1, b2, a1, a2, o1, o2⟩ ∧ w'.ownsRow W.heap.size 106 4 (.slice u1 (uncR L).2.1.length u2) (uncR L).2.1.length (celC filE (uncR L).2.1) ∧ Below W.heap.size W w') := by
 refine (uncross_is L b a o W h).mono ?_;rintro e w' ⟨b', a', o', u', rfl, hb, ha, ho, hu, hB⟩;obtain ⟨b1, b2, a1, a2, o1, o2, rfl, rfl, rfl, hl⟩ := lnb_of (unc_sml L) hb ha ho;obtain ⟨u1, u2, rfl⟩ := own_len hu
 exact ⟨b1, b2, a1, a2, o1, o2, u1, u2, rfl, hideIt ⟨hl, hu, hB⟩⟩
set_option maxRecDepth 100000 in
set_option maxHeartbeats 16000000 in
theorem doLnO (w : World) (K i q : Nat) (X : WkX) (wx : World) (h : WK w K X wx) (hi : i < X.L.length) (h3 : X.r.kind ≠ 3) (h4 : X.r.kind ≠ 4) (h5 : X.r.kind ≠ 5) (h6 : X.r.kind ≠ 6) (h7 : X.r.kind ≠ 7) : Calls Tryz.prog 52 #[.pointer (some ⟨K, 0, none⟩), .pointer (some ⟨X.gl, i * 5, none⟩), .int .i64 (q : Int)] wx (WkB w K X (X.st, 0)) := by
 have b1 : (X.r.kind == 3) = false := beq_eq_false_iff_ne.2 h3;have b2 : (X.r.kind == 4) = false := beq_eq_false_iff_ne.2 h4;have b3 : (X.r.kind == 5) = false := beq_eq_false_iff_ne.2 h5;have b7 : (X.r.kind == 6) = false := beq_eq_false_iff_ne.2 h6;have b8 : (X.r.kind == 7) = false := beq_eq_false_iff_ne.2 h7;clear h3 h4 h5 h6 h7;have HX := hideIt h;obtain ⟨⟨-, -, d2, d3, d4, d5, d6, d7, d8, d9, d10, d11, d12, -, -, -, -, -, -, -, -⟩, df, dz⟩ := at21 h.box;clear h
 go_enter Tryz.func52, Tryz.ntmps52
 go_upto_region 1 with fail
 go_cut [7, 8] from 9 to 12 (fun y x wy => x = .pointer (some ⟨wx.heap.size, 0, none⟩) ∧ y = .int .i64 0 ∧ Hid (wy.heap[wx.heap.size]? = some (.cells (Se.reqC X.r) 26 (0, 0)) ∧ Below wx.heap.size wx wy))
 case first =>
  clear HX
  go_region
  all_goals go_wp2_with fail
  all_goals go_meet
  exact ⟨rfl, rfl, hideIt ⟨heap_alloc_new wx _, (below1 wx _).drew⟩⟩
 case rest =>
 obtain ⟨rfl, rfl, HR⟩ := hcut;clear d2 d3 d4 d5 d6 d7 d8 d9 d10 d11 d12 df dz;have HX1 := hideIt (HX.out.keep HR.out.2);clear HX;have hKR : wx.heap.size ≠ K := by
  have := ty_ne HR.out.1 HX1.out.box (by decide);exact this
 have rz := (Array.getElem?_eq_some_iff.1 HR.out.1).1;have HRC : Hid (∀ W, Below wc.heap.size wc W → W.cell? ⟨wx.heap.size, 0, none⟩ = some (.int .i64 X.r.kind) ∧ W.cell? ⟨wx.heap.size, 1, none⟩ = some (.int .i64 X.r.acct) ∧ W.cell? ⟨wx.heap.size, 4, none⟩ = some (.int .i64 X.r.side) ∧ W.cell? ⟨wx.heap.size, 5, none⟩ = some (.int .i64 X.r.price) ∧ W.cell? ⟨wx.heap.size, 6, none⟩ = some (.int .i64 X.r.n) ∧ W.cell? ⟨wx.heap.size, 7, none⟩ = some (.bool X.r.now)) := fun W hW => ⟨(hW.cell (p := ⟨wx.heap.size, 0, none⟩) rz).trans ((cell_at HR.out.1 0).trans rfl), (hW.cell (p := ⟨wx.heap.size, 1, none⟩) rz).trans ((cell_at HR.out.1 1).trans rfl), (hW.cell (p := ⟨wx.heap.size, 4, none⟩) rz).trans ((cell_at HR.out.1 4).trans rfl), (hW.cell (p := ⟨wx.heap.size, 5, none⟩) rz).trans ((cell_at HR.out.1 5).trans rfl), (hW.cell (p := ⟨wx.heap.size, 6, none⟩) rz).trans ((cell_at HR.out.1 6).trans rfl), (hW.cell (p := ⟨wx.heap.size, 7, none⟩) rz).trans ((cell_at HR.out.1 7).trans rfl)⟩
 clear HR;generalize wx.heap.size = KR at *;obtain ⟨r0, -, -, -, -, -⟩ := HRC.out wc (Below.refl _ _);clear HRC;go_wp2;go_ret
 exact ⟨X, rfl, rfl, rfl, rfl, rfl, HX1.out⟩
set_option maxRecDepth 100000 in
set_option maxHeartbeats 16000000 in
theorem doLn5 (w : World) (K i q : Nat) (X : WkX) (wx : World) (h : WK w K X wx) (hi : i < X.L.length) (hk : X.r.kind = 5) : Calls Tryz.prog 52 #[.pointer (some ⟨K, 0, none⟩), .pointer (some ⟨X.gl, i * 5, none⟩), .int .i64 (q : Int)] wx (WkB w K X ({X.st with l := X.st.l.set i (calR (lanD X.st i)).1}, (calR (lanD X.st i)).2)) := by
 rw [lanD_at hi];have HKK := hideIt hk;clear hk;have HX := hideIt h;obtain ⟨⟨-, -, d2, d3, d4, d5, d6, d7, d8, d9, d10, d11, d12, -, -, -, -, -, -, -, -⟩, df, dz⟩ := at21 h.box;clear h
 go_enter Tryz.func52, Tryz.ntmps52
 go_upto_region 1 with fail
 go_cut [7, 8] from 9 to 12 (fun y x wy => x = .pointer (some ⟨wx.heap.size, 0, none⟩) ∧ y = .int .i64 0 ∧ Hid (wy.heap[wx.heap.size]? = some (.cells (Se.reqC X.r) 26 (0, 0)) ∧ Below wx.heap.size wx wy))
 case first =>
  clear HX
  go_region
  all_goals go_wp2_with fail
  all_goals go_meet
  exact ⟨rfl, rfl, hideIt ⟨heap_alloc_new wx _, (below1 wx _).drew⟩⟩
 case rest =>
 obtain ⟨rfl, rfl, HR⟩ := hcut;clear d2 d3 d4 d5 d6 d7 d8 d9 d10 d11 d12 df dz;have HX1 := hideIt (HX.out.keep HR.out.2);clear HX;have hKR : wx.heap.size ≠ K := by
  have := ty_ne HR.out.1 HX1.out.box (by decide);exact this
 have rz := (Array.getElem?_eq_some_iff.1 HR.out.1).1;have HRC : Hid (∀ W, Below wc.heap.size wc W → W.cell? ⟨wx.heap.size, 0, none⟩ = some (.int .i64 X.r.kind) ∧ W.cell? ⟨wx.heap.size, 1, none⟩ = some (.int .i64 X.r.acct) ∧ W.cell? ⟨wx.heap.size, 4, none⟩ = some (.int .i64 X.r.side) ∧ W.cell? ⟨wx.heap.size, 5, none⟩ = some (.int .i64 X.r.price) ∧ W.cell? ⟨wx.heap.size, 6, none⟩ = some (.int .i64 X.r.n) ∧ W.cell? ⟨wx.heap.size, 7, none⟩ = some (.bool X.r.now)) := fun W hW => ⟨(hW.cell (p := ⟨wx.heap.size, 0, none⟩) rz).trans ((cell_at HR.out.1 0).trans rfl), (hW.cell (p := ⟨wx.heap.size, 1, none⟩) rz).trans ((cell_at HR.out.1 1).trans rfl), (hW.cell (p := ⟨wx.heap.size, 4, none⟩) rz).trans ((cell_at HR.out.1 4).trans rfl), (hW.cell (p := ⟨wx.heap.size, 5, none⟩) rz).trans ((cell_at HR.out.1 5).trans rfl), (hW.cell (p := ⟨wx.heap.size, 6, none⟩) rz).trans ((cell_at HR.out.1 6).trans rfl), (hW.cell (p := ⟨wx.heap.size, 7, none⟩) rz).trans ((cell_at HR.out.1 7).trans rfl)⟩
 clear HR;generalize wx.heap.size = KR at *;obtain ⟨⟨a0, a1, a2, a3, a4⟩, af, az, hat⟩ := HX1.out.lan hi;have HAT := hideIt hat;clear hat;obtain ⟨r0, -, -, -, -, -⟩ := HRC.out wc (Below.refl _ _);rw [HKK.out] at r0;clear HKK;have HC := hideIt (callX (X.L[i]).v _ _ _ wc HAT.out);clear HRC HAT
 go_wp2_with fail
 refine HC.out.mono ?_;rintro e w2 ⟨b1, b2, c1, c2, o1, o2, rfl, ho⟩;dsimp only;have HX2 := hideIt (HX1.out.keep ho.out.2);obtain ⟨⟨e0, e1, e2, e3, e4⟩, ef, ez, -⟩ := HX2.out.lan hi;have HP := hideIt (HX2.out.putL hi ⟨(calR (X.L[i]).v).1, b1, b2, c1, c2, o1, o2⟩ (ho.out.1.base HX1.out.bel.size));clear ho HX1 HX2 HC a0 a1 a2 a3 a4 af az;go_wp2;go_ret
 exact ⟨{X with L := X.L.set i ⟨(calR (X.L[i]).v).1, b1, b2, c1, c2, o1, o2⟩}, rfl, st_setL, rfl, rfl, by simp, HP.out⟩
set_option maxRecDepth 100000 in
set_option maxHeartbeats 16000000 in
theorem doLn6 (w : World) (K i q : Nat) (X : WkX) (wx : World) (h : WK w K X wx) (hi : i < X.L.length) (hk : X.r.kind = 6) : Calls Tryz.prog 52 #[.pointer (some ⟨K, 0, none⟩), .pointer (some ⟨X.gl, i * 5, none⟩), .int .i64 (q : Int)] wx (WkB w K X ({X.st with l := X.st.l.set i (uncR (lanD X.st i)).1, fl := (uncR (lanD X.st i)).2.1}, (uncR (lanD X.st i)).2.2)) := by
 rw [lanD_at hi];have HKK := hideIt hk;clear hk;have HX := hideIt h;obtain ⟨⟨-, -, d2, d3, d4, d5, d6, d7, d8, d9, d10, d11, d12, -, -, -, -, -, -, -, -⟩, df, dz⟩ := at21 h.box;clear h
 go_enter Tryz.func52, Tryz.ntmps52
 go_upto_region 1 with fail
 go_cut [7, 8] from 9 to 12 (fun y x wy => x = .pointer (some ⟨wx.heap.size, 0, none⟩) ∧ y = .int .i64 0 ∧ Hid (wy.heap[wx.heap.size]? = some (.cells (Se.reqC X.r) 26 (0, 0)) ∧ Below wx.heap.size wx wy))
 case first =>
  clear HX
  go_region
  all_goals go_wp2_with fail
  all_goals go_meet
  exact ⟨rfl, rfl, hideIt ⟨heap_alloc_new wx _, (below1 wx _).drew⟩⟩
 case rest =>
 obtain ⟨rfl, rfl, HR⟩ := hcut;clear d2 d3 d4 d5 d6 d7 d8 d9 d10 d11 d12 df dz;have HX1 := hideIt (HX.out.keep HR.out.2);clear HX;have hKR : wx.heap.size ≠ K := by
  have := ty_ne HR.out.1 HX1.out.box (by decide);exact this
 have rz := (Array.getElem?_eq_some_iff.1 HR.out.1).1;have HRC : Hid (∀ W, Below wc.heap.size wc W → W.cell? ⟨wx.heap.size, 0, none⟩ = some (.int .i64 X.r.kind) ∧ W.cell? ⟨wx.heap.size, 1, none⟩ = some (.int .i64 X.r.acct) ∧ W.cell? ⟨wx.heap.size, 4, none⟩ = some (.int .i64 X.r.side) ∧ W.cell? ⟨wx.heap.size, 5, none⟩ = some (.int .i64 X.r.price) ∧ W.cell? ⟨wx.heap.size, 6, none⟩ = some (.int .i64 X.r.n) ∧ W.cell? ⟨wx.heap.size, 7, none⟩ = some (.bool X.r.now)) := fun W hW => ⟨(hW.cell (p := ⟨wx.heap.size, 0, none⟩) rz).trans ((cell_at HR.out.1 0).trans rfl), (hW.cell (p := ⟨wx.heap.size, 1, none⟩) rz).trans ((cell_at HR.out.1 1).trans rfl), (hW.cell (p := ⟨wx.heap.size, 4, none⟩) rz).trans ((cell_at HR.out.1 4).trans rfl), (hW.cell (p := ⟨wx.heap.size, 5, none⟩) rz).trans ((cell_at HR.out.1 5).trans rfl), (hW.cell (p := ⟨wx.heap.size, 6, none⟩) rz).trans ((cell_at HR.out.1 6).trans rfl), (hW.cell (p := ⟨wx.heap.size, 7, none⟩) rz).trans ((cell_at HR.out.1 7).trans rfl)⟩
 clear HR;generalize wx.heap.size = KR at *;obtain ⟨⟨a0, a1, a2, a3, a4⟩, af, az, hat⟩ := HX1.out.lan hi;have HAT := hideIt hat;clear hat;obtain ⟨r0, -, -, -, -, -⟩ := HRC.out wc (Below.refl _ _);rw [HKK.out] at r0;clear HKK;have HC := hideIt (uncrossX (X.L[i]).v _ _ _ wc HAT.out);have hfl := unc_fl (X.L[i]).v;clear HRC HAT
 go_wp2_with fail
 refine HC.out.mono ?_;rintro e w2 ⟨b1, b2, c1, c2, o1, o2, u1, u2, rfl, ho⟩;dsimp only;have HX2 := hideIt (HX1.out.keep ho.out.2.2);obtain ⟨⟨e0, e1, e2, e3, e4⟩, ef, ez, -⟩ := HX2.out.lan hi;have HP := hideIt (HX2.out.putL hi ⟨(uncR (X.L[i]).v).1, b1, b2, c1, c2, o1, o2⟩ (ho.out.1.base HX1.out.bel.size));obtain ⟨⟨-, -, -, -, -, -, -, -, -, -, -, -, -, -, -, -, -, -, -, -, d20⟩, df, dz⟩ := at21 HX2.out.box;have hne := ty_ne HX2.out.box (row_blk HX2.out.ln.row).1.choose_spec (by decide);have hne2 := hne.symm;have HFO := hideIt (own_base ho.out.2.1 HX1.out.bel.size);obtain ⟨⟨cs, hg⟩, hgB⟩ := row_blk HX2.out.ln.row;have g1 := heap_set hg (i * 5) (.bool (uncR (X.L[i]).v).1.call);have g2 := heap_set g1 (i * 5 + 1) (.int .i64 (uncR (X.L[i]).v).1.next);have g3 := heap_set g2 (i * 5 + 2) (.slice b1 (uncR (X.L[i]).v).1.bids.length b2);have g4 := heap_set g3 (i * 5 + 3) (.slice c1 (uncR (X.L[i]).v).1.asks.length c2);have HF7 := hideIt (own_cell (j := i * 5 + 4) (u := .slice o1 (uncR (X.L[i]).v).1.owed.length o2) (own_cell (j := i * 5 + 3) (u := .slice c1 (uncR (X.L[i]).v).1.asks.length c2) (own_cell (j := i * 5 + 2) (u := .slice b1 (uncR (X.L[i]).v).1.bids.length b2) (own_cell (j := i * 5 + 1) (u := .int .i64 (uncR (X.L[i]).v).1.next) (own_cell (j := i * 5) (u := .bool (uncR (X.L[i]).v).1.call) HFO.out hg (by decide)) g1 (by decide)) g2 (by decide)) g3 (by decide)) g4 (by decide));have HP2 := hideIt (HP.out.setFl u1 u2 (uncR (X.L[i]).v).2.1 HF7.out (by omega));clear ho HX1 HX2 HC a0 a1 a2 a3 a4 af az HFO hg g1 g2 g3 g4 hgB HP HF7 hfl;go_wp2;go_ret
 exact ⟨{X with L := X.L.set i ⟨(uncR (X.L[i]).v).1, b1, b2, c1, c2, o1, o2⟩, ff := u1, cf := u2, fl := (uncR (X.L[i]).v).2.1}, rfl, by simp only [WkX.st, List.map_set], rfl, rfl, by simp, HP2.out⟩
set_option maxRecDepth 100000 in
set_option maxHeartbeats 16000000 in
theorem doLn7 (w : World) (K i q : Nat) (X : WkX) (wx : World) (h : WK w K X wx) (hi : i < X.L.length) (hk : X.r.kind = 7) (hc : chkB (X.L[i]).v = true) (hq : 1 ≤ q ∧ q ≤ 3) : Calls Tryz.prog 52 #[.pointer (some ⟨K, 0, none⟩), .pointer (some ⟨X.gl, i * 5, none⟩), .int .i64 (q : Int)] wx (WkB w K X (setZ X.r i q X.st)) := by
 have HKK := hideIt hk;clear hk;have HX := hideIt h;obtain ⟨⟨-, -, d2, d3, d4, d5, d6, d7, d8, d9, d10, d11, d12, -, -, -, -, -, -, -, -⟩, df, dz⟩ := at21 h.box;clear h
 go_enter Tryz.func52, Tryz.ntmps52
 go_upto_region 1 with fail
 go_cut [7, 8] from 9 to 12 (fun y x wy => x = .pointer (some ⟨wx.heap.size, 0, none⟩) ∧ y = .int .i64 0 ∧ Hid (wy.heap[wx.heap.size]? = some (.cells (Se.reqC X.r) 26 (0, 0)) ∧ Below wx.heap.size wx wy))
 case first =>
  clear HX
  go_region
  all_goals go_wp2_with fail
  all_goals go_meet
  exact ⟨rfl, rfl, hideIt ⟨heap_alloc_new wx _, (below1 wx _).drew⟩⟩
 case rest =>
 obtain ⟨rfl, rfl, HR⟩ := hcut;clear d2 d3 d4 d5 d6 d7 d8 d9 d10 d11 d12 df dz;have HX1 := hideIt (HX.out.keep HR.out.2);clear HX;have hKR : wx.heap.size ≠ K := by
  have := ty_ne HR.out.1 HX1.out.box (by decide);exact this
 have rz := (Array.getElem?_eq_some_iff.1 HR.out.1).1;have HRC : Hid (∀ W, Below wc.heap.size wc W → W.cell? ⟨wx.heap.size, 0, none⟩ = some (.int .i64 X.r.kind) ∧ W.cell? ⟨wx.heap.size, 1, none⟩ = some (.int .i64 X.r.acct) ∧ W.cell? ⟨wx.heap.size, 4, none⟩ = some (.int .i64 X.r.side) ∧ W.cell? ⟨wx.heap.size, 5, none⟩ = some (.int .i64 X.r.price) ∧ W.cell? ⟨wx.heap.size, 6, none⟩ = some (.int .i64 X.r.n) ∧ W.cell? ⟨wx.heap.size, 7, none⟩ = some (.bool X.r.now)) := fun W hW => ⟨(hW.cell (p := ⟨wx.heap.size, 0, none⟩) rz).trans ((cell_at HR.out.1 0).trans rfl), (hW.cell (p := ⟨wx.heap.size, 1, none⟩) rz).trans ((cell_at HR.out.1 1).trans rfl), (hW.cell (p := ⟨wx.heap.size, 4, none⟩) rz).trans ((cell_at HR.out.1 4).trans rfl), (hW.cell (p := ⟨wx.heap.size, 5, none⟩) rz).trans ((cell_at HR.out.1 5).trans rfl), (hW.cell (p := ⟨wx.heap.size, 6, none⟩) rz).trans ((cell_at HR.out.1 6).trans rfl), (hW.cell (p := ⟨wx.heap.size, 7, none⟩) rz).trans ((cell_at HR.out.1 7).trans rfl)⟩
 clear HR;generalize wx.heap.size = KR at *;obtain ⟨r0, -, -, -, -, -⟩ := HRC.out wc (Below.refl _ _);rw [HKK.out] at r0;clear HKK;have HC := hideIt (settle_is2 w K i q X wc HX1.out hi (sml_chk hc) hc hq);clear HRC hc;unfold WkB at HC;generalize setZ X.r i q X.st = Z at *
 go_wp2_with fail
 refine HC.out.mono ?_;rintro e w2 ⟨X2, rfl, q1, q2, q3, q4, hx⟩;dsimp only;have HQ := hideIt (And.intro q1 (And.intro q2 (And.intro q3 (And.intro q4 hx))));clear HC HX1 q1 q2 q3 q4 hx;go_wp2;go_ret
 exact ⟨X2, rfl, HQ.out⟩
end Go.Proofs.YtiinigifjdpicaaGreatDoor
