/- Texts of my own, laid together. -/
import Derived.Test.YtiinigifjdpicaaGreatDoorPx06
import Derived.Test.YtiinigifjdpicaaGreatDoorPx05
namespace Go.Proofs.YtiinigifjdpicaaGreatDoor
open Go.RowKit
set_option linter.all false
def sideL (L : LaneV) (s : Int) : List OrdV := if s = 1 then L.bids else L.asks
def argB (acc s price n : Int) : Bool := wiB acc 1 8 && ((decide (s = 1) || decide (s = 2)) && (wiB price 1 1000000 && wiB n 1 1000000))
def refE (L : LaneV) (acc s price n : Int) (now : Bool) : Int :=
 if chkB L = false then 130 else if argB acc s price n = false then 1 else if (now && L.call) = true then 133 else if (sideL L s).length = 40 ∨ 1000000 < L.next then 131 else 0
set_option maxHeartbeats 16000000 in
set_option maxRecDepth 100000 in
theorem refused_is (L : LaneV) (b a o : Value) (acc s price n : Int) (now : Bool) (w : World) (h : Lan w L b a o) : Calls Tryz.prog 110 #[laneV L b a o, .int .i64 acc, .int .i64 s, .int .i64 price, .int .i64 n, .bool now] w fun e w' => e = .returned (.int .i64 (refE L acc s price n now)) ∧ Below w.heap.size w w' := by
 have X0 := hideIt (BoxL.first w L b a o);have HCK := hideIt (fun W (hW : Below w.heap.size w W) => check_is L b a o W (h.keep hW));have H1 := hideIt (fun W => isAccount_is acc W);have H2 := hideIt (fun W => isPrice_is price W);have H3 := hideIt (fun W => isSize_is n W);have HP1 := hideIt (fun W => sideOf_is w.heap.size 1 W);have HP2 := hideIt (fun W => sideOf_is w.heap.size 2 W);rw [show sideOff 1 = 2 from rfl] at HP1;rw [show sideOff 2 = 3 from rfl] at HP2;unfold refE chkI at *;obtain ⟨ba, bc, rfl⟩ := h.bids.slice;obtain ⟨aa, ac, rfl⟩ := h.asks.slice;obtain ⟨oa, oc, rfl⟩ := h.owed.slice;clear h;generalize chkB L = ck at *;unfold laneV laneA sideL at *;obtain ⟨cl, nx, bids, asks, owed⟩ := L;simp only at *;cases ck
 ·clear H1 H2 H3 HP1 HP2;simp only [Bool.false_eq_true, if_false] at HCK;rw [if_pos rfl]
  go_enter Tryz.func110, Tryz.ntmps110
  go_upto_region 1 with fail
  obtain ⟨c0, c1, c2, c3, c4⟩ := X0.out.cells;simp only at c0 c1 c2 c3 c4
  go_wp2_with fail
  refine (HCK.out _ X0.out.bel).mono ?_;rintro e w1 ⟨rfl, hb⟩;dsimp only;have X1 := hideIt (X0.out.keep hb);clear hb X0 c0 c1 c2 c3 c4;obtain ⟨c0, c1, c2, c3, c4⟩ := X1.out.cells;simp only at c0 c1 c2 c3 c4;go_wp2;go_ret
  exact ⟨rfl, X1.out.bel⟩
 ·simp only [if_true] at HCK;rw [if_neg (by simp)];unfold argB;cases h1 : wiB acc 1 8
  ·rw [h1] at H1;clear H2 H3 HP1 HP2;rw [if_pos (by simp)]
   go_enter Tryz.func110, Tryz.ntmps110
   go_upto_region 1 with fail
   obtain ⟨c0, c1, c2, c3, c4⟩ := X0.out.cells;simp only at c0 c1 c2 c3 c4
   go_wp2_with fail
   refine (HCK.out _ X0.out.bel).mono ?_;rintro e w1 ⟨rfl, hb⟩;dsimp only;have X1 := hideIt (X0.out.keep hb);clear hb X0 c0 c1 c2 c3 c4;obtain ⟨c0, c1, c2, c3, c4⟩ := X1.out.cells;simp only at c0 c1 c2 c3 c4
   go_wp2_with fail
   refine (H1.out _).mono ?_;rintro e w2 ⟨rfl, rfl⟩;dsimp only;go_wp2;go_ret
   exact ⟨rfl, X1.out.bel⟩
  ·rw [h1] at H1
   by_cases hs : s = 1 ∨ s = 2
   ·cases h2 : wiB price 1 1000000
    ·rw [h2] at H2;clear H3 HP1 HP2;rw [if_pos (by simp)]
     rcases hs with rfl | rfl
     ·go_enter Tryz.func110, Tryz.ntmps110
      go_upto_region 1 with fail
      obtain ⟨c0, c1, c2, c3, c4⟩ := X0.out.cells;simp only at c0 c1 c2 c3 c4
      go_wp2_with fail
      refine (HCK.out _ X0.out.bel).mono ?_;rintro e w1 ⟨rfl, hb⟩;dsimp only;have X1 := hideIt (X0.out.keep hb);clear hb X0 c0 c1 c2 c3 c4;obtain ⟨c0, c1, c2, c3, c4⟩ := X1.out.cells;simp only at c0 c1 c2 c3 c4
      go_wp2_with fail
      refine (H1.out _).mono ?_;rintro e w2 ⟨rfl, rfl⟩;dsimp only
      go_wp2_with fail
      refine (H2.out _).mono ?_;rintro e w2 ⟨rfl, rfl⟩;dsimp only;go_wp2;go_ret
      exact ⟨rfl, X1.out.bel⟩
     ·go_enter Tryz.func110, Tryz.ntmps110
      go_upto_region 1 with fail
      obtain ⟨c0, c1, c2, c3, c4⟩ := X0.out.cells;simp only at c0 c1 c2 c3 c4
      go_wp2_with fail
      refine (HCK.out _ X0.out.bel).mono ?_;rintro e w1 ⟨rfl, hb⟩;dsimp only;have X1 := hideIt (X0.out.keep hb);clear hb X0 c0 c1 c2 c3 c4;obtain ⟨c0, c1, c2, c3, c4⟩ := X1.out.cells;simp only at c0 c1 c2 c3 c4
      go_wp2_with fail
      refine (H1.out _).mono ?_;rintro e w2 ⟨rfl, rfl⟩;dsimp only
      go_wp2_with fail
      refine (H2.out _).mono ?_;rintro e w2 ⟨rfl, rfl⟩;dsimp only;go_wp2;go_ret
      exact ⟨rfl, X1.out.bel⟩
    ·rw [h2] at H2;cases h3 : wiB n 1 1000000
     ·rw [h3] at H3;clear HP1 HP2;rw [if_pos (by simp)]
      rcases hs with rfl | rfl
      ·go_enter Tryz.func110, Tryz.ntmps110
       go_upto_region 1 with fail
       obtain ⟨c0, c1, c2, c3, c4⟩ := X0.out.cells;simp only at c0 c1 c2 c3 c4
       go_wp2_with fail
       refine (HCK.out _ X0.out.bel).mono ?_;rintro e w1 ⟨rfl, hb⟩;dsimp only;have X1 := hideIt (X0.out.keep hb);clear hb X0 c0 c1 c2 c3 c4;obtain ⟨c0, c1, c2, c3, c4⟩ := X1.out.cells;simp only at c0 c1 c2 c3 c4
       go_wp2_with fail
       refine (H1.out _).mono ?_;rintro e w2 ⟨rfl, rfl⟩;dsimp only
       go_wp2_with fail
       refine (H2.out _).mono ?_;rintro e w2 ⟨rfl, rfl⟩;dsimp only
       go_wp2_with fail
       refine (H3.out _).mono ?_;rintro e w2 ⟨rfl, rfl⟩;dsimp only;go_wp2;go_ret
       exact ⟨rfl, X1.out.bel⟩
      ·go_enter Tryz.func110, Tryz.ntmps110
       go_upto_region 1 with fail
       obtain ⟨c0, c1, c2, c3, c4⟩ := X0.out.cells;simp only at c0 c1 c2 c3 c4
       go_wp2_with fail
       refine (HCK.out _ X0.out.bel).mono ?_;rintro e w1 ⟨rfl, hb⟩;dsimp only;have X1 := hideIt (X0.out.keep hb);clear hb X0 c0 c1 c2 c3 c4;obtain ⟨c0, c1, c2, c3, c4⟩ := X1.out.cells;simp only at c0 c1 c2 c3 c4
       go_wp2_with fail
       refine (H1.out _).mono ?_;rintro e w2 ⟨rfl, rfl⟩;dsimp only
       go_wp2_with fail
       refine (H2.out _).mono ?_;rintro e w2 ⟨rfl, rfl⟩;dsimp only
       go_wp2_with fail
       refine (H3.out _).mono ?_;rintro e w2 ⟨rfl, rfl⟩;dsimp only;go_wp2;go_ret
       exact ⟨rfl, X1.out.bel⟩
     ·rw [h3] at H3;rw [if_neg (by rcases hs with rfl | rfl <;> simp)]
      cases hnc : (now && cl)
      ·rw [if_neg (by simp)]
       rcases hs with rfl | rfl
       ·rw [show (if (1 : Int) = 1 then bids else asks) = bids from rfl]
        by_cases h4 : bids.length = 40
        ·have h4I : (bids.length : Int) = 40 := by omega
         rw [if_pos (Or.inl h4)];clear h4;cases now
         ·go_enter Tryz.func110, Tryz.ntmps110
          go_upto_region 1 with fail
          obtain ⟨c0, c1, c2, c3, c4⟩ := X0.out.cells;simp only at c0 c1 c2 c3 c4
          go_wp2_with fail
          refine (HCK.out _ X0.out.bel).mono ?_;rintro e w1 ⟨rfl, hb⟩;dsimp only;have X1 := hideIt (X0.out.keep hb);clear hb X0 c0 c1 c2 c3 c4;obtain ⟨c0, c1, c2, c3, c4⟩ := X1.out.cells;simp only at c0 c1 c2 c3 c4
          go_wp2_with fail
          refine (H1.out _).mono ?_;rintro e w2 ⟨rfl, rfl⟩;dsimp only
          go_wp2_with fail
          refine (H2.out _).mono ?_;rintro e w2 ⟨rfl, rfl⟩;dsimp only
          go_wp2_with fail
          refine (H3.out _).mono ?_;rintro e w2 ⟨rfl, rfl⟩;dsimp only
          go_wp2_with fail
          refine (HP1.out _).mono ?_;rintro e w2 ⟨rfl, rfl⟩;dsimp only;go_wp2;go_ret
          exact ⟨rfl, X1.out.bel⟩
         ·simp only [Bool.true_and] at hnc;subst hnc
          go_enter Tryz.func110, Tryz.ntmps110
          go_upto_region 1 with fail
          obtain ⟨c0, c1, c2, c3, c4⟩ := X0.out.cells;simp only at c0 c1 c2 c3 c4
          go_wp2_with fail
          refine (HCK.out _ X0.out.bel).mono ?_;rintro e w1 ⟨rfl, hb⟩;dsimp only;have X1 := hideIt (X0.out.keep hb);clear hb X0 c0 c1 c2 c3 c4;obtain ⟨c0, c1, c2, c3, c4⟩ := X1.out.cells;simp only at c0 c1 c2 c3 c4
          go_wp2_with fail
          refine (H1.out _).mono ?_;rintro e w2 ⟨rfl, rfl⟩;dsimp only
          go_wp2_with fail
          refine (H2.out _).mono ?_;rintro e w2 ⟨rfl, rfl⟩;dsimp only
          go_wp2_with fail
          refine (H3.out _).mono ?_;rintro e w2 ⟨rfl, rfl⟩;dsimp only
          go_wp2_with fail
          refine (HP1.out _).mono ?_;rintro e w2 ⟨rfl, rfl⟩;dsimp only;go_wp2;go_ret
          exact ⟨rfl, X1.out.bel⟩
        ·have h4I : ¬ (bids.length : Int) = 40 := by omega
         by_cases h5 : 1000000 < nx
         ·rw [if_pos (Or.inr h5)];clear h4;cases now
          ·go_enter Tryz.func110, Tryz.ntmps110
           go_upto_region 1 with fail
           obtain ⟨c0, c1, c2, c3, c4⟩ := X0.out.cells;simp only at c0 c1 c2 c3 c4
           go_wp2_with fail
           refine (HCK.out _ X0.out.bel).mono ?_;rintro e w1 ⟨rfl, hb⟩;dsimp only;have X1 := hideIt (X0.out.keep hb);clear hb X0 c0 c1 c2 c3 c4;obtain ⟨c0, c1, c2, c3, c4⟩ := X1.out.cells;simp only at c0 c1 c2 c3 c4
           go_wp2_with fail
           refine (H1.out _).mono ?_;rintro e w2 ⟨rfl, rfl⟩;dsimp only
           go_wp2_with fail
           refine (H2.out _).mono ?_;rintro e w2 ⟨rfl, rfl⟩;dsimp only
           go_wp2_with fail
           refine (H3.out _).mono ?_;rintro e w2 ⟨rfl, rfl⟩;dsimp only
           go_wp2_with fail
           refine (HP1.out _).mono ?_;rintro e w2 ⟨rfl, rfl⟩;dsimp only;go_wp2;go_ret
           exact ⟨rfl, X1.out.bel⟩
          ·simp only [Bool.true_and] at hnc;subst hnc
           go_enter Tryz.func110, Tryz.ntmps110
           go_upto_region 1 with fail
           obtain ⟨c0, c1, c2, c3, c4⟩ := X0.out.cells;simp only at c0 c1 c2 c3 c4
           go_wp2_with fail
           refine (HCK.out _ X0.out.bel).mono ?_;rintro e w1 ⟨rfl, hb⟩;dsimp only;have X1 := hideIt (X0.out.keep hb);clear hb X0 c0 c1 c2 c3 c4;obtain ⟨c0, c1, c2, c3, c4⟩ := X1.out.cells;simp only at c0 c1 c2 c3 c4
           go_wp2_with fail
           refine (H1.out _).mono ?_;rintro e w2 ⟨rfl, rfl⟩;dsimp only
           go_wp2_with fail
           refine (H2.out _).mono ?_;rintro e w2 ⟨rfl, rfl⟩;dsimp only
           go_wp2_with fail
           refine (H3.out _).mono ?_;rintro e w2 ⟨rfl, rfl⟩;dsimp only
           go_wp2_with fail
           refine (HP1.out _).mono ?_;rintro e w2 ⟨rfl, rfl⟩;dsimp only;go_wp2;go_ret
           exact ⟨rfl, X1.out.bel⟩
         ·rw [if_neg (by omega)];have h4B : ((bids.length : Int) == 40) = false := by simp; omega
          have h5D : decide ((1000000 : Int) < nx) = false := decide_eq_false h5;clear h4;cases now
          ·go_enter Tryz.func110, Tryz.ntmps110
           go_upto_region 1 with fail
           obtain ⟨c0, c1, c2, c3, c4⟩ := X0.out.cells;simp only at c0 c1 c2 c3 c4
           go_wp2_with fail
           refine (HCK.out _ X0.out.bel).mono ?_;rintro e w1 ⟨rfl, hb⟩;dsimp only;have X1 := hideIt (X0.out.keep hb);clear hb X0 c0 c1 c2 c3 c4;obtain ⟨c0, c1, c2, c3, c4⟩ := X1.out.cells;simp only at c0 c1 c2 c3 c4
           go_wp2_with fail
           refine (H1.out _).mono ?_;rintro e w2 ⟨rfl, rfl⟩;dsimp only
           go_wp2_with fail
           refine (H2.out _).mono ?_;rintro e w2 ⟨rfl, rfl⟩;dsimp only
           go_wp2_with fail
           refine (H3.out _).mono ?_;rintro e w2 ⟨rfl, rfl⟩;dsimp only
           go_wp2_with fail
           refine (HP1.out _).mono ?_;rintro e w2 ⟨rfl, rfl⟩;dsimp only;go_wp2;go_ret
           exact ⟨rfl, X1.out.bel⟩
          ·simp only [Bool.true_and] at hnc;subst hnc
           go_enter Tryz.func110, Tryz.ntmps110
           go_upto_region 1 with fail
           obtain ⟨c0, c1, c2, c3, c4⟩ := X0.out.cells;simp only at c0 c1 c2 c3 c4
           go_wp2_with fail
           refine (HCK.out _ X0.out.bel).mono ?_;rintro e w1 ⟨rfl, hb⟩;dsimp only;have X1 := hideIt (X0.out.keep hb);clear hb X0 c0 c1 c2 c3 c4;obtain ⟨c0, c1, c2, c3, c4⟩ := X1.out.cells;simp only at c0 c1 c2 c3 c4
           go_wp2_with fail
           refine (H1.out _).mono ?_;rintro e w2 ⟨rfl, rfl⟩;dsimp only
           go_wp2_with fail
           refine (H2.out _).mono ?_;rintro e w2 ⟨rfl, rfl⟩;dsimp only
           go_wp2_with fail
           refine (H3.out _).mono ?_;rintro e w2 ⟨rfl, rfl⟩;dsimp only
           go_wp2_with fail
           refine (HP1.out _).mono ?_;rintro e w2 ⟨rfl, rfl⟩;dsimp only;go_wp2;go_ret
           exact ⟨rfl, X1.out.bel⟩
       ·rw [show (if (2 : Int) = 1 then bids else asks) = asks from rfl]
        by_cases h4 : asks.length = 40
        ·have h4I : (asks.length : Int) = 40 := by omega
         rw [if_pos (Or.inl h4)];clear h4;cases now
         ·go_enter Tryz.func110, Tryz.ntmps110
          go_upto_region 1 with fail
          obtain ⟨c0, c1, c2, c3, c4⟩ := X0.out.cells;simp only at c0 c1 c2 c3 c4
          go_wp2_with fail
          refine (HCK.out _ X0.out.bel).mono ?_;rintro e w1 ⟨rfl, hb⟩;dsimp only;have X1 := hideIt (X0.out.keep hb);clear hb X0 c0 c1 c2 c3 c4;obtain ⟨c0, c1, c2, c3, c4⟩ := X1.out.cells;simp only at c0 c1 c2 c3 c4
          go_wp2_with fail
          refine (H1.out _).mono ?_;rintro e w2 ⟨rfl, rfl⟩;dsimp only
          go_wp2_with fail
          refine (H2.out _).mono ?_;rintro e w2 ⟨rfl, rfl⟩;dsimp only
          go_wp2_with fail
          refine (H3.out _).mono ?_;rintro e w2 ⟨rfl, rfl⟩;dsimp only
          go_wp2_with fail
          refine (HP2.out _).mono ?_;rintro e w2 ⟨rfl, rfl⟩;dsimp only;go_wp2;go_ret
          exact ⟨rfl, X1.out.bel⟩
         ·simp only [Bool.true_and] at hnc;subst hnc
          go_enter Tryz.func110, Tryz.ntmps110
          go_upto_region 1 with fail
          obtain ⟨c0, c1, c2, c3, c4⟩ := X0.out.cells;simp only at c0 c1 c2 c3 c4
          go_wp2_with fail
          refine (HCK.out _ X0.out.bel).mono ?_;rintro e w1 ⟨rfl, hb⟩;dsimp only;have X1 := hideIt (X0.out.keep hb);clear hb X0 c0 c1 c2 c3 c4;obtain ⟨c0, c1, c2, c3, c4⟩ := X1.out.cells;simp only at c0 c1 c2 c3 c4
          go_wp2_with fail
          refine (H1.out _).mono ?_;rintro e w2 ⟨rfl, rfl⟩;dsimp only
          go_wp2_with fail
          refine (H2.out _).mono ?_;rintro e w2 ⟨rfl, rfl⟩;dsimp only
          go_wp2_with fail
          refine (H3.out _).mono ?_;rintro e w2 ⟨rfl, rfl⟩;dsimp only
          go_wp2_with fail
          refine (HP2.out _).mono ?_;rintro e w2 ⟨rfl, rfl⟩;dsimp only;go_wp2;go_ret
          exact ⟨rfl, X1.out.bel⟩
        ·have h4I : ¬ (asks.length : Int) = 40 := by omega
         by_cases h5 : 1000000 < nx
         ·rw [if_pos (Or.inr h5)];clear h4;cases now
          ·go_enter Tryz.func110, Tryz.ntmps110
           go_upto_region 1 with fail
           obtain ⟨c0, c1, c2, c3, c4⟩ := X0.out.cells;simp only at c0 c1 c2 c3 c4
           go_wp2_with fail
           refine (HCK.out _ X0.out.bel).mono ?_;rintro e w1 ⟨rfl, hb⟩;dsimp only;have X1 := hideIt (X0.out.keep hb);clear hb X0 c0 c1 c2 c3 c4;obtain ⟨c0, c1, c2, c3, c4⟩ := X1.out.cells;simp only at c0 c1 c2 c3 c4
           go_wp2_with fail
           refine (H1.out _).mono ?_;rintro e w2 ⟨rfl, rfl⟩;dsimp only
           go_wp2_with fail
           refine (H2.out _).mono ?_;rintro e w2 ⟨rfl, rfl⟩;dsimp only
           go_wp2_with fail
           refine (H3.out _).mono ?_;rintro e w2 ⟨rfl, rfl⟩;dsimp only
           go_wp2_with fail
           refine (HP2.out _).mono ?_;rintro e w2 ⟨rfl, rfl⟩;dsimp only;go_wp2;go_ret
           exact ⟨rfl, X1.out.bel⟩
          ·simp only [Bool.true_and] at hnc;subst hnc
           go_enter Tryz.func110, Tryz.ntmps110
           go_upto_region 1 with fail
           obtain ⟨c0, c1, c2, c3, c4⟩ := X0.out.cells;simp only at c0 c1 c2 c3 c4
           go_wp2_with fail
           refine (HCK.out _ X0.out.bel).mono ?_;rintro e w1 ⟨rfl, hb⟩;dsimp only;have X1 := hideIt (X0.out.keep hb);clear hb X0 c0 c1 c2 c3 c4;obtain ⟨c0, c1, c2, c3, c4⟩ := X1.out.cells;simp only at c0 c1 c2 c3 c4
           go_wp2_with fail
           refine (H1.out _).mono ?_;rintro e w2 ⟨rfl, rfl⟩;dsimp only
           go_wp2_with fail
           refine (H2.out _).mono ?_;rintro e w2 ⟨rfl, rfl⟩;dsimp only
           go_wp2_with fail
           refine (H3.out _).mono ?_;rintro e w2 ⟨rfl, rfl⟩;dsimp only
           go_wp2_with fail
           refine (HP2.out _).mono ?_;rintro e w2 ⟨rfl, rfl⟩;dsimp only;go_wp2;go_ret
           exact ⟨rfl, X1.out.bel⟩
         ·rw [if_neg (by omega)];have h4B : ((asks.length : Int) == 40) = false := by simp; omega
          have h5D : decide ((1000000 : Int) < nx) = false := decide_eq_false h5;clear h4;cases now
          ·go_enter Tryz.func110, Tryz.ntmps110
           go_upto_region 1 with fail
           obtain ⟨c0, c1, c2, c3, c4⟩ := X0.out.cells;simp only at c0 c1 c2 c3 c4
           go_wp2_with fail
           refine (HCK.out _ X0.out.bel).mono ?_;rintro e w1 ⟨rfl, hb⟩;dsimp only;have X1 := hideIt (X0.out.keep hb);clear hb X0 c0 c1 c2 c3 c4;obtain ⟨c0, c1, c2, c3, c4⟩ := X1.out.cells;simp only at c0 c1 c2 c3 c4
           go_wp2_with fail
           refine (H1.out _).mono ?_;rintro e w2 ⟨rfl, rfl⟩;dsimp only
           go_wp2_with fail
           refine (H2.out _).mono ?_;rintro e w2 ⟨rfl, rfl⟩;dsimp only
           go_wp2_with fail
           refine (H3.out _).mono ?_;rintro e w2 ⟨rfl, rfl⟩;dsimp only
           go_wp2_with fail
           refine (HP2.out _).mono ?_;rintro e w2 ⟨rfl, rfl⟩;dsimp only;go_wp2;go_ret
           exact ⟨rfl, X1.out.bel⟩
          ·simp only [Bool.true_and] at hnc;subst hnc
           go_enter Tryz.func110, Tryz.ntmps110
           go_upto_region 1 with fail
           obtain ⟨c0, c1, c2, c3, c4⟩ := X0.out.cells;simp only at c0 c1 c2 c3 c4
           go_wp2_with fail
           refine (HCK.out _ X0.out.bel).mono ?_;rintro e w1 ⟨rfl, hb⟩;dsimp only;have X1 := hideIt (X0.out.keep hb);clear hb X0 c0 c1 c2 c3 c4;obtain ⟨c0, c1, c2, c3, c4⟩ := X1.out.cells;simp only at c0 c1 c2 c3 c4
           go_wp2_with fail
           refine (H1.out _).mono ?_;rintro e w2 ⟨rfl, rfl⟩;dsimp only
           go_wp2_with fail
           refine (H2.out _).mono ?_;rintro e w2 ⟨rfl, rfl⟩;dsimp only
           go_wp2_with fail
           refine (H3.out _).mono ?_;rintro e w2 ⟨rfl, rfl⟩;dsimp only
           go_wp2_with fail
           refine (HP2.out _).mono ?_;rintro e w2 ⟨rfl, rfl⟩;dsimp only;go_wp2;go_ret
           exact ⟨rfl, X1.out.bel⟩
      ·rw [if_pos rfl];simp only [Bool.and_eq_true] at hnc;obtain ⟨rfl, rfl⟩ := hnc;clear HP1 HP2
       rcases hs with rfl | rfl
       ·go_enter Tryz.func110, Tryz.ntmps110
        go_upto_region 1 with fail
        obtain ⟨c0, c1, c2, c3, c4⟩ := X0.out.cells;simp only at c0 c1 c2 c3 c4
        go_wp2_with fail
        refine (HCK.out _ X0.out.bel).mono ?_;rintro e w1 ⟨rfl, hb⟩;dsimp only;have X1 := hideIt (X0.out.keep hb);clear hb X0 c0 c1 c2 c3 c4;obtain ⟨c0, c1, c2, c3, c4⟩ := X1.out.cells;simp only at c0 c1 c2 c3 c4
        go_wp2_with fail
        refine (H1.out _).mono ?_;rintro e w2 ⟨rfl, rfl⟩;dsimp only
        go_wp2_with fail
        refine (H2.out _).mono ?_;rintro e w2 ⟨rfl, rfl⟩;dsimp only
        go_wp2_with fail
        refine (H3.out _).mono ?_;rintro e w2 ⟨rfl, rfl⟩;dsimp only;go_wp2;go_ret
        exact ⟨rfl, X1.out.bel⟩
       ·go_enter Tryz.func110, Tryz.ntmps110
        go_upto_region 1 with fail
        obtain ⟨c0, c1, c2, c3, c4⟩ := X0.out.cells;simp only at c0 c1 c2 c3 c4
        go_wp2_with fail
        refine (HCK.out _ X0.out.bel).mono ?_;rintro e w1 ⟨rfl, hb⟩;dsimp only;have X1 := hideIt (X0.out.keep hb);clear hb X0 c0 c1 c2 c3 c4;obtain ⟨c0, c1, c2, c3, c4⟩ := X1.out.cells;simp only at c0 c1 c2 c3 c4
        go_wp2_with fail
        refine (H1.out _).mono ?_;rintro e w2 ⟨rfl, rfl⟩;dsimp only
        go_wp2_with fail
        refine (H2.out _).mono ?_;rintro e w2 ⟨rfl, rfl⟩;dsimp only
        go_wp2_with fail
        refine (H3.out _).mono ?_;rintro e w2 ⟨rfl, rfl⟩;dsimp only;go_wp2;go_ret
        exact ⟨rfl, X1.out.bel⟩
   ·have hs1 : ¬ s = 1 := fun e => hs (.inl e)
    have hs2 : ¬ s = 2 := fun e => hs (.inr e)
    clear H2 H3 HP1 HP2 hs;rw [if_pos (by simp [hs1, hs2])]
    go_enter Tryz.func110, Tryz.ntmps110
    go_upto_region 1 with fail
    obtain ⟨c0, c1, c2, c3, c4⟩ := X0.out.cells;simp only at c0 c1 c2 c3 c4
    go_wp2_with fail
    refine (HCK.out _ X0.out.bel).mono ?_;rintro e w1 ⟨rfl, hb⟩;dsimp only;have X1 := hideIt (X0.out.keep hb);clear hb X0 c0 c1 c2 c3 c4;obtain ⟨c0, c1, c2, c3, c4⟩ := X1.out.cells;simp only at c0 c1 c2 c3 c4
    go_wp2_with fail
    refine (H1.out _).mono ?_;rintro e w2 ⟨rfl, rfl⟩;dsimp only;go_wp2;go_ret
    exact ⟨rfl, X1.out.bel⟩
def zLane : LaneV := ⟨false, 0, [], [], []⟩
def plT (L : LaneV) (s : Int) (x : OrdV) : List OrdV × Int × List OweV × List FillV :=
 if L.call then (sideL L (if s = 1 then 2 else 1), x.left, L.owed, []) else trL s x (sideL L (if s = 1 then 2 else 1)) x.left L.owed []
def plL (L : LaneV) (s : Int) (T : List OrdV) (ow : List OweV) : LaneV :=
 if s = 1 then ⟨L.call, L.next + 1, L.bids, T, ow⟩ else ⟨L.call, L.next + 1, T, L.asks, ow⟩
def plR (M : LaneV) (s : Int) (x : OrdV) (now : Bool) : LaneV :=
 if 0 < x.left then
  if now then ⟨M.call, M.next, M.bids, M.asks, oweL x.acc (brA s) (brN s x) M.owed⟩
  else if s = 1 then ⟨M.call, M.next, laidL (ahB s) x M.bids, M.asks, M.owed⟩ else ⟨M.call, M.next, M.bids, laidL (ahB s) x M.asks, M.owed⟩
 else M
def plX (L : LaneV) (acc s price n : Int) (now : Bool) : LaneV × List FillV × Int × Int :=
 if overB (plR (plL L s (plT L s ⟨L.next, acc, price, n⟩).1 (plT L s ⟨L.next, acc, price, n⟩).2.2.1) s ⟨L.next, acc, price, (plT L s ⟨L.next, acc, price, n⟩).2.1⟩ now).owed then (zLane, [], 0, 131)
 else (plR (plL L s (plT L s ⟨L.next, acc, price, n⟩).1 (plT L s ⟨L.next, acc, price, n⟩).2.2.1) s ⟨L.next, acc, price, (plT L s ⟨L.next, acc, price, n⟩).2.1⟩ now, (plT L s ⟨L.next, acc, price, n⟩).2.2.2, L.next, 0)
def placeL (L : LaneV) (acc s price n : Int) (now : Bool) : LaneV × List FillV × Int × Int :=
 if refE L acc s price n now ≠ 0 then (zLane, [], 0, refE L acc s price n now) else plX L acc s price n now
def PlBack (X : LaneV × List FillV × Int × Int) (w : World) (e : Ending) (w' : World) : Prop := ∃ b a o f, e = .returned (.tuple #[laneV X.1 b a o, f, .int .i64 X.2.2.1, .int .i64 X.2.2.2]) ∧ w'.ownsRow w.heap.size 115 4 b X.1.bids.length (celC ordE X.1.bids) ∧ w'.ownsRow w.heap.size 115 4 a X.1.asks.length (celC ordE X.1.asks) ∧ w'.ownsRow w.heap.size 61 3 o X.1.owed.length (celC oweE X.1.owed) ∧ w'.ownsRow w.heap.size 106 4 f X.2.1.length (celC filE X.2.1) ∧ Below w.heap.size w w'
structure PS (w : World) (D K : Nat) (L : LaneV) (bv av ov : Value) (x : OrdV) (M : LaneV) (F : List FillV) (b a o f : Value) (wr : World) : Prop where
 deal : Deal D (w.heap.size + 2) M F b a o f wr
 ord : wr.heap[K]? = some (.cells (ordE x).toArray 115 (0, 0))
 cb : CB w L bv av ov wr
 ne : K ≠ D
 lD : w.heap.size + 2 ≤ D
 lK : w.heap.size + 2 ≤ K
 kb : some K ≠ b.ownBlock
 ka : some K ≠ a.ownBlock
theorem Below.ofTcr {w wr wy : World} {D B : Nat} {q : Option Nat} (h : Below w.heap.size w wr) (t : Tcr D B q wr wy) (hD : w.heap.size ≤ D) (hB : w.heap.size ≤ B) (hq : ∀ k, q = some k → w.heap.size ≤ k) : Below w.heap.size w wy :=
 ⟨t.os.trans h.os, t.tape.trans h.tape, t.output.trans h.output, Nat.le_trans h.size t.size, fun k hk => (t.keep k (Nat.lt_of_lt_of_le hk h.size) (by omega) (fun e => by have := hq k e.symm; omega) (fun hb => by omega)).trans (h.block k hk)⟩
theorem CB.tcr {w wr wy : World} {D : Nat} {q : Option Nat} {L : LaneV} {b a o : Value} (h : CB w L b a o wr) (t : Tcr D (w.heap.size + 2) q wr wy) (hD : w.heap.size + 2 ≤ D) (hq : ∀ k, q = some k → w.heap.size + 2 ≤ k) : CB w L b a o wy :=
 ⟨t.block h.box (by omega) (fun e => by have := hq _ e.symm; omega) (by decide) (by decide), t.block h.res (by omega) (fun e => by have := hq _ e.symm; omega) (by decide) (by decide), Below.ofTcr h.bel t (by omega) (by omega) (fun k e => by have := hq k e; omega), Nat.le_trans h.size t.size⟩
theorem PS.step {w wr wy : World} {D K : Nat} {q : Option Nat} {L : LaneV} {bv av ov : Value} {x : OrdV} {M M2 : LaneV} {F F2 : List FillV} {b a o f b2 a2 o2 f2 : Value} (h : PS w D K L bv av ov x M F b a o f wr) (d : Deal D (w.heap.size + 2) M2 F2 b2 a2 o2 f2 wy) (t : Tcr D (w.heap.size + 2) q wr wy) (hb : b2.ownBlock = b.ownBlock) (ha : a2.ownBlock = a.ownBlock) (hq : q = b.ownBlock ∨ q = a.ownBlock ∨ q = none) : PS w D K L bv av ov x M2 F2 b2 a2 o2 f2 wy := by
 have hqk : ∀ k, q = some k → w.heap.size + 2 ≤ k := fun k e => by
  rcases hq with rfl | rfl | rfl
  ·exact (h.deal.ob.lt k e).1
  ·exact (h.deal.oa.lt k e).1
  ·cases e
 have hKq : some K ≠ q := by
  rcases hq with rfl | rfl | rfl
  ·exact h.kb
  ·exact h.ka
  ·simp
 exact ⟨d, t.block h.ord h.ne hKq (by decide) (by decide), h.cb.tcr t h.lD hqk, h.ne, h.lD, h.lK, by rw [hb]; exact h.kb, by rw [ha]; exact h.ka⟩
theorem PS.keep {w wr wy : World} {D K : Nat} {L : LaneV} {bv av ov : Value} {x : OrdV} {M : LaneV} {F : List FillV} {b a o f : Value} (h : PS w D K L bv av ov x M F b a o f wr) (hb : Below wr.heap.size wr wy) : PS w D K L bv av ov x M F b a o f wy :=
 h.step (h.deal.keep hb) (Tcr.ofTch (q := none) (Tch.ofBelow hb)) rfl rfl (.inr (.inr rfl))
theorem PS.left {w wr : World} {D K : Nat} {L : LaneV} {bv av ov : Value} {x : OrdV} {M : LaneV} {F : List FillV} {b a o f : Value} (h : PS w D K L bv av ov x M F b a o f wr) (m : Int) : PS w D K L bv av ov ⟨x.id, x.acc, x.price, m⟩ M F b a o f (wr.setCell ⟨K, 3, none⟩ (.int .i64 m)) := by
 have hl := h.lK
 exact ⟨⟨setOther _ h.deal.box h.ne.symm, own_ne h.deal.ob (fun e => h.kb e.symm), own_ne h.deal.oa (fun e => h.ka e.symm), own_cell h.deal.oo h.ord (by decide), own_cell h.deal.fl h.ord (by decide), h.deal.sep⟩, heap_set h.ord 3 _, ⟨setOther _ h.cb.box (by omega), setOther _ h.cb.res (by omega), belowSet _ h.cb.bel (by omega), by simpa using h.cb.size⟩, h.ne, h.lD, h.lK, h.kb, h.ka⟩
theorem wiB_in {x lo hi : Int} (h : wiB x lo hi = true) : lo ≤ x ∧ x ≤ hi := of_decide_eq_true h
structure MayL (L : LaneV) : Prop where
 next : 1 ≤ L.next ∧ L.next ≤ 1000001
 lb : L.bids.length ≤ 40
 la : L.asks.length ≤ 40
 tb : OkT L.bids
 ta : OkT L.asks
 ow : OkO 0 L.owed
theorem side_ok {s nx : Int} {l : List OrdV} (h : sideB s nx l = true) : l.length ≤ 40 ∧ OkT l := by
 unfold sideB at h;simp only [Bool.and_eq_true, decide_eq_true_eq, Bool.not_eq_true', List.any_eq_false] at h;refine ⟨h.1, fun r hr => ?_⟩;have h2 := h.2.1 r hr;unfold strB at h2;simp only [Bool.or_eq_true, not_or, Bool.not_eq_true', Bool.not_eq_false] at h2
 exact ⟨wiB_in h2.1.1.2, wiB_in h2.1.2⟩
def keyO (y : OweV) : Int := y.acc * 2 + y.asset
theorem owed_len : ∀ (l : List OweV) (y : OweV), srtB owB (y :: l) = true → (∀ z ∈ y :: l, (1 ≤ z.acc ∧ z.acc ≤ 8) ∧ (0 ≤ z.asset ∧ z.asset ≤ 1)) → ((y :: l).length : Int) ≤ 18 - keyO y
 | [], y, _, h => by
  have := h y (by simp);unfold keyO;simp only [List.length_cons, List.length_nil];omega
 | z :: l, y, hs, h => by
  unfold srtB at hs;simp only [Bool.and_eq_true] at hs;have ih := owed_len l z hs.2 (fun q hq => h q (List.mem_cons_of_mem _ hq));have h1 := h y (by simp);have h2 := h z (by simp);have h3 := hs.1;unfold owB at h3;simp only [Bool.or_eq_true, Bool.and_eq_true, decide_eq_true_eq] at h3;unfold keyO at *;simp only [List.length_cons] at *
  push_cast at *
  rcases h3 with h3 | ⟨h3, h4⟩ <;> omega
theorem owed_ok {l : List OweV} (h : owedB l = true) : OkO 0 l := by
 unfold owedB at h;simp only [Bool.and_eq_true, Bool.not_eq_true', List.any_eq_false] at h;have hz : ∀ z ∈ l, ((1 ≤ z.acc ∧ z.acc ≤ 8) ∧ (0 ≤ z.asset ∧ z.asset ≤ 1)) ∧ (1 ≤ z.n ∧ z.n ≤ 9007199254740992) := fun z hz => by
  have h2 := h.1 z hz;unfold stoB at h2;simp only [Bool.or_eq_true, not_or, Bool.not_eq_true', Bool.not_eq_false] at h2
  exact ⟨⟨wiB_in h2.1.1, wiB_in h2.1.2⟩, wiB_in h2.2⟩
 refine ⟨?_, fun z hz' => by have := hz z hz'; omega⟩
 cases l with
 | nil => simp
 | cons y l =>
  have := owed_len l y h.2 (fun z hz' => (hz z hz').1);have hy := hz y (by simp);unfold keyO at this;omega
theorem chk_may {L : LaneV} (h : chkB L = true) : MayL L := by
 unfold chkB at h;simp only [Bool.and_eq_true] at h
 exact ⟨wiB_in h.1, (side_ok h.2.1).1, (side_ok h.2.2.1).1, (side_ok h.2.1).2, (side_ok h.2.2.1).2, owed_ok h.2.2.2.2.2⟩
theorem refE_ok {L : LaneV} {acc s price n : Int} {now : Bool} (h : refE L acc s price n now = 0) : chkB L = true ∧ (s = 1 ∨ s = 2) ∧ (1 ≤ price ∧ price ≤ 1000000) ∧ (1 ≤ n ∧ n ≤ 1000000) ∧ (now && L.call) = false ∧ (sideL L s).length < 40 ∧ L.next ≤ 1000000 ∧ (1 ≤ acc ∧ acc ≤ 8) := by
 unfold refE at h
 split at h
 ·simp at h
 ·split at h
  ·simp at h
  ·split at h
   ·simp at h
   ·split at h
    ·simp at h
    ·rename_i h1 h2 h3 h4
     have hc : chkB L = true := by simpa using h1
     have hm := chk_may hc;have ha : argB acc s price n = true := by simpa using h2
     unfold argB at ha;simp only [Bool.and_eq_true, Bool.or_eq_true, decide_eq_true_eq] at ha;have hl : (sideL L s).length ≤ 40 := by unfold sideL; split; exact hm.lb; exact hm.la
     exact ⟨hc, ha.2.1, wiB_in ha.2.2.1, wiB_in ha.2.2.2, by simpa using h3, by omega, by omega, wiB_in ha.1⟩
theorem PS.first {w w2 : World} {L : LaneV} {bv av ov b a o : Value} (acc price n : Int) (h : CB w L bv av ov w2) (hob : w2.ownsRow (w.heap.size + 2) 115 4 b L.bids.length (celC ordE L.bids)) (hoa : w2.ownsRow (w.heap.size + 2) 115 4 a L.asks.length (celC ordE L.asks)) (hoo : w2.ownsRow (w.heap.size + 2) 61 3 o L.owed.length (celC oweE L.owed)) (hs : b.ownBlock = none ∨ b.ownBlock ≠ a.ownBlock) :
  PS w w2.heap.size (w2.heap.size + 1) L bv av ov ⟨L.next, acc, price, n⟩ ⟨L.call, L.next + 1, L.bids, L.asks, L.owed⟩ [] b a o (.slice none 0 0) ((w2.alloc (.cells #[.bool L.call, .int .i64 (L.next + 1), b, a, o, .slice none 0 0] 174)).alloc (.cells (ordE ⟨L.next, acc, price, n⟩).toArray 115)) := by
 have h2 := two_heap w2 (.cells #[.bool L.call, .int .i64 (L.next + 1), b, a, o, .slice none 0 0] 174) (.cells (ordE ⟨L.next, acc, price, n⟩).toArray 115);have hb := below2 w2 (.cells #[.bool L.call, .int .i64 (L.next + 1), b, a, o, .slice none 0 0] 174) (.cells (ordE ⟨L.next, acc, price, n⟩).toArray 115);have hsz := h.size
 exact ⟨⟨h2.1, own_keep hob hb, own_keep hoa hb, own_keep hoo hb, own_nil _ _, hs⟩, h2.2.1, h.keep hb, by omega, hsz, by omega, fun e => by have := (hob.lt _ e.symm).2; omega, fun e => by have := (hoa.lt _ e.symm).2; omega⟩
theorem PS.laidB {w wr wv wy : World} {D K : Nat} {L : LaneV} {bv av ov : Value} {x : OrdV} {cl : Bool} {nx : Int} {X T : List OrdV} {ow : List OweV} {X2 : List OrdV} {F : List FillV} {b a o f b2 : Value} (h : PS w D K L bv av ov x ⟨cl, nx, X, T, ow⟩ F b a o f wr) (hv : Below wr.heap.size wr wv) (ho : wy.ownsRow (w.heap.size + 2) 115 4 b2 X2.length (celC ordE X2)) (hg : wv.grownBy wy b.ownBlock) :
  (wy.setCell ⟨D, 2, none⟩ b2).ownsRow (w.heap.size + 2) 115 4 b2 X2.length (celC ordE X2) ∧ (wy.setCell ⟨D, 2, none⟩ b2).ownsRow (w.heap.size + 2) 115 4 a T.length (celC ordE T) ∧ (wy.setCell ⟨D, 2, none⟩ b2).ownsRow (w.heap.size + 2) 61 3 o ow.length (celC oweE ow) ∧ (wy.setCell ⟨D, 2, none⟩ b2).ownsRow (w.heap.size + 2) 106 4 f F.length (celC filE F) ∧ (wy.setCell ⟨D, 2, none⟩ b2).heap[D]? = some (.cells #[.bool cl, .int .i64 nx, b2, a, o, f] 174 (0, 0)) ∧ CB w L bv av ov (wy.setCell ⟨D, 2, none⟩ b2) ∧ wy.cell? ⟨D, 2, none⟩ = some b ∧ wy.frozen? ⟨D, 2, none⟩ = false ∧ D < wy.heap.size := by
 have hk := h.keep hv;have hbx := box_type hg hk.deal.ob hk.deal.box (by decide);have hlD := h.lD;have hsa : a.ownBlock = none ∨ a.ownBlock ≠ b.ownBlock := by
  rcases hk.deal.sep with e | e
  ·cases hq : a.ownBlock with
   | none => exact .inl rfl
   | some q => exact .inr (by rw [e]; simp)
  ·exact .inr (fun x => e x.symm)
 refine ⟨own_cell ho hbx (by decide), own_cell (own_nb hg hk.deal.oa hsa) hbx (by decide), own_cell (own_type hg hk.deal.ob hk.deal.oo (by decide)) hbx (by decide), own_cell (own_type hg hk.deal.ob hk.deal.fl (by decide)) hbx (by decide), heap_set hbx 2 b2, ?_, by rw [cell_at hbx]; rfl, free_at hbx 2, (Array.getElem?_eq_some_iff.1 hbx).1⟩
 have hcb := hk.cb.tcr (Tcr.ofGrown (D := D) hg) hlD (fun k e => (hk.deal.ob.lt k e).1)
 exact ⟨setOther _ hcb.box (by omega), setOther _ hcb.res (by omega), belowSet _ hcb.bel (by omega), by simpa using hcb.size⟩
theorem PS.laidA {w wr wv wy : World} {D K : Nat} {L : LaneV} {bv av ov : Value} {x : OrdV} {cl : Bool} {nx : Int} {X T : List OrdV} {ow : List OweV} {X2 : List OrdV} {F : List FillV} {b a o f a2 : Value} (h : PS w D K L bv av ov x ⟨cl, nx, T, X, ow⟩ F b a o f wr) (hv : Below wr.heap.size wr wv) (ho : wy.ownsRow (w.heap.size + 2) 115 4 a2 X2.length (celC ordE X2)) (hg : wv.grownBy wy a.ownBlock) :
  (wy.setCell ⟨D, 3, none⟩ a2).ownsRow (w.heap.size + 2) 115 4 b T.length (celC ordE T) ∧ (wy.setCell ⟨D, 3, none⟩ a2).ownsRow (w.heap.size + 2) 115 4 a2 X2.length (celC ordE X2) ∧ (wy.setCell ⟨D, 3, none⟩ a2).ownsRow (w.heap.size + 2) 61 3 o ow.length (celC oweE ow) ∧ (wy.setCell ⟨D, 3, none⟩ a2).ownsRow (w.heap.size + 2) 106 4 f F.length (celC filE F) ∧ (wy.setCell ⟨D, 3, none⟩ a2).heap[D]? = some (.cells #[.bool cl, .int .i64 nx, b, a2, o, f] 174 (0, 0)) ∧ CB w L bv av ov (wy.setCell ⟨D, 3, none⟩ a2) ∧ wy.cell? ⟨D, 3, none⟩ = some a ∧ wy.frozen? ⟨D, 3, none⟩ = false ∧ D < wy.heap.size := by
 have hk := h.keep hv;have hbx := box_type hg hk.deal.oa hk.deal.box (by decide);have hlD := h.lD;refine ⟨own_cell (own_nb hg hk.deal.ob hk.deal.sep) hbx (by decide), own_cell ho hbx (by decide), own_cell (own_type hg hk.deal.oa hk.deal.oo (by decide)) hbx (by decide), own_cell (own_type hg hk.deal.oa hk.deal.fl (by decide)) hbx (by decide), heap_set hbx 3 a2, ?_, by rw [cell_at hbx]; rfl, free_at hbx 3, (Array.getElem?_eq_some_iff.1 hbx).1⟩
 have hcb := hk.cb.tcr (Tcr.ofGrown (D := D) hg) hlD (fun k e => (hk.deal.oa.lt k e).1)
 exact ⟨setOther _ hcb.box (by omega), setOther _ hcb.res (by omega), belowSet _ hcb.bel (by omega), by simpa using hcb.size⟩
structure FSt (w : World) (D : Nat) (L : LaneV) (bv av ov : Value) (M : LaneV) (F : List FillV) (b a o f : Value) (wr : World) : Prop where
 box : wr.heap[D]? = some (.cells #[.bool M.call, .int .i64 M.next, b, a, o, f] 174 (0, 0))
 ob : wr.ownsRow (w.heap.size + 2) 115 4 b M.bids.length (celC ordE M.bids)
 oa : wr.ownsRow (w.heap.size + 2) 115 4 a M.asks.length (celC ordE M.asks)
 oo : wr.ownsRow (w.heap.size + 2) 61 3 o M.owed.length (celC oweE M.owed)
 fl : wr.ownsRow (w.heap.size + 2) 106 4 f F.length (celC filE F)
 cb : CB w L bv av ov wr
 lD : w.heap.size + 2 ≤ D
theorem PS.fin {w wr : World} {D K : Nat} {L : LaneV} {bv av ov : Value} {x : OrdV} {M : LaneV} {F : List FillV} {b a o f : Value} (h : PS w D K L bv av ov x M F b a o f wr) : FSt w D L bv av ov M F b a o f wr := ⟨h.deal.box, h.deal.ob, h.deal.oa, h.deal.oo, h.deal.fl, h.cb, h.lD⟩
theorem FSt.keep {w wr wy : World} {D : Nat} {L : LaneV} {bv av ov : Value} {M : LaneV} {F : List FillV} {b a o f : Value} (h : FSt w D L bv av ov M F b a o f wr) (hb : Below wr.heap.size wr wy) : FSt w D L bv av ov M F b a o f wy :=
 ⟨(hb.block _ (Array.getElem?_eq_some_iff.1 h.box).1).trans h.box, own_keep h.ob hb, own_keep h.oa hb, own_keep h.oo hb, own_keep h.fl hb, h.cb.keep hb, h.lD⟩
theorem FSt.cells {w wr : World} {D : Nat} {L : LaneV} {bv av ov : Value} {M : LaneV} {F : List FillV} {b a o f : Value} (h : FSt w D L bv av ov M F b a o f wr) : wr.cell? ⟨D, 0, none⟩ = some (.bool M.call) ∧ wr.cell? ⟨D, 1, none⟩ = some (.int .i64 M.next) ∧ wr.cell? ⟨D, 2, none⟩ = some b ∧ wr.cell? ⟨D, 3, none⟩ = some a ∧ wr.cell? ⟨D, 4, none⟩ = some o ∧ wr.cell? ⟨D, 5, none⟩ = some f :=
 ⟨by rw [cell_at h.box]; rfl, by rw [cell_at h.box]; rfl, by rw [cell_at h.box]; rfl, by rw [cell_at h.box]; rfl, by rw [cell_at h.box]; rfl, by rw [cell_at h.box]; rfl⟩
set_option maxHeartbeats 4000000 in
theorem isOver2_is (w0 : World) (D : Nat) (L : LaneV) (bv av ov : Value) (M : LaneV) (F : List FillV) (b a o f : Value) (w : World) (h : FSt w0 D L bv av ov M F b a o f w) (hl : M.owed.length ≤ 100000) : Calls Tryz.prog 116 #[.pointer (some ⟨D, 0, none⟩)] w fun e w' => e = .returned (.bool (overB M.owed)) ∧ Below w.heap.size w w' := by
 have H1 := hideIt (containsW_is 144 #[] eg51 o M.owed (fun o => decide (9007199254740992 < o.n)) w (own_sgot (bytes := 24) h.oo (by omega)) pred51);have hDl : D < w.heap.size := (Array.getElem?_eq_some_iff.1 h.box).1;obtain ⟨ga, gc, rfl⟩ := own_len h.oo;obtain ⟨c0, c1, c2, c3, c4, c5⟩ := h.cells;clear c0 c1 c2 c3 c5 h;unfold overB;generalize (M.owed.any fun o => decide (9007199254740992 < o.n)) = r at *
 go_enter Tryz.func116, Tryz.ntmps116
 go_wp2_with fail
 refine H1.out.mono ?_;rintro e w1 ⟨rfl, hb⟩;dsimp only;go_wp2;go_ret
 exact ⟨rfl, hb⟩
def five5 (wr : World) (R : Nat) (v0 v1 v2 v3 v4 : Value) : World := ((((wr.setCell ⟨R, 0, none⟩ v0).setCell ⟨R, 1, none⟩ v1).setCell ⟨R, 2, none⟩ v2).setCell ⟨R, 3, none⟩ v3).setCell ⟨R, 4, none⟩ v4
structure Done (w : World) (M : LaneV) (F : List FillV) (b a o f : Value) (W : World) : Prop where
 res : W.heap[w.heap.size + 1]? = some (.cells #[.bool M.call, .int .i64 M.next, b, a, o] 59 (0, 0))
 ob : W.ownsRow w.heap.size 115 4 b M.bids.length (celC ordE M.bids)
 oa : W.ownsRow w.heap.size 115 4 a M.asks.length (celC ordE M.asks)
 oo : W.ownsRow w.heap.size 61 3 o M.owed.length (celC oweE M.owed)
 fl : W.ownsRow w.heap.size 106 4 f F.length (celC filE F)
 bel : Below w.heap.size w W
theorem Done.drew {w W : World} {M : LaneV} {F : List FillV} {b a o f : Value} (h : Done w M F b a o f W) : Done w M F b a o f W.drew := ⟨h.res, h.ob.drew, h.oa.drew, h.oo.drew, h.fl.drew, h.bel.drew⟩
theorem FSt.done {w wr : World} {D : Nat} {L : LaneV} {bv av ov : Value} {M : LaneV} {F : List FillV} {b a o f : Value} (k : FSt w D L bv av ov M F b a o f wr) : Done w M F b a o f (five5 wr (w.heap.size + 1) (.bool M.call) (.int .i64 M.next) b a o).drew := by
 refine Done.drew ?_;unfold five5;have h1 := k.cb.put (.bool M.call) (.int .i64 M.next) b a o;have h2 := own_five k.ob k.cb.res (by decide) (.bool M.call) (.int .i64 M.next) b a o;have h3 := own_five k.oa k.cb.res (by decide) (.bool M.call) (.int .i64 M.next) b a o;have h4 := own_five k.oo k.cb.res (by decide) (.bool M.call) (.int .i64 M.next) b a o;have h5 := own_five k.fl k.cb.res (by decide) (.bool M.call) (.int .i64 M.next) b a o
 revert h1 h2 h3 h4 h5
 generalize (World.setCell _ ⟨w.heap.size + 1, 4, none⟩ _) = W;intro h1 h2 h3 h4 h5
 exact ⟨h1.1, own_base h2 (by omega), own_base h3 (by omega), own_base h4 (by omega), own_base h5 (by omega), h1.2⟩
theorem Done.back2 {w W : World} {cl : Bool} {nx1 nx : Int} {bids asks : List OrdV} {owed : List OweV} {F : List FillV} {b a o f : Value} {RX : LaneV × List FillV × Int × Int} (h : Done w ⟨cl, nx1, bids, asks, owed⟩ F b a o f W) (hR : RX = (⟨cl, nx1, bids, asks, owed⟩, F, nx, 0)) : PlBack RX w (.returned (.tuple #[.agg #[.bool cl, .int .i64 nx1, b, a, o], f, .int .i64 nx, .int .i64 0])) W := by
 rw [hR]
 exact ⟨b, a, o, f, rfl, h.ob, h.oa, h.oo, h.fl, h.bel⟩
theorem Done.res2 {w W : World} {cl : Bool} {nx1 : Int} {bids asks : List OrdV} {owed : List OweV} {F : List FillV} {b a o f : Value} (h : Done w ⟨cl, nx1, bids, asks, owed⟩ F b a o f W) : W.heap[w.heap.size + 1]? = some (.cells #[.bool cl, .int .i64 nx1, b, a, o] 59 (0, 0)) := h.res
theorem PS.laidFB {w wr wv wy : World} {D K : Nat} {L : LaneV} {bv av ov : Value} {x : OrdV} {cl : Bool} {nx : Int} {X T : List OrdV} {ow : List OweV} {X2 : List OrdV} {F : List FillV} {b a o f b2 : Value} (h : PS w D K L bv av ov x ⟨cl, nx, X, T, ow⟩ F b a o f wr) (hv : Below wr.heap.size wr wv) (ho : wy.ownsRow (w.heap.size + 2) 115 4 b2 X2.length (celC ordE X2)) (hg : wv.grownBy wy b.ownBlock) :
  FSt w D L bv av ov ⟨cl, nx, X2, T, ow⟩ F b2 a o f (wy.setCell ⟨D, 2, none⟩ b2) ∧ wy.cell? ⟨D, 2, none⟩ = some b ∧ wy.frozen? ⟨D, 2, none⟩ = false ∧ D < wy.heap.size := by
 obtain ⟨h1, h2, h3, h4, h5, h6, h7, h8, h9⟩ := h.laidB hv ho hg
 exact ⟨⟨h5, h1, h2, h3, h4, h6, h.lD⟩, h7, h8, h9⟩
theorem PS.laidFA {w wr wv wy : World} {D K : Nat} {L : LaneV} {bv av ov : Value} {x : OrdV} {cl : Bool} {nx : Int} {X T : List OrdV} {ow : List OweV} {X2 : List OrdV} {F : List FillV} {b a o f a2 : Value} (h : PS w D K L bv av ov x ⟨cl, nx, T, X, ow⟩ F b a o f wr) (hv : Below wr.heap.size wr wv) (ho : wy.ownsRow (w.heap.size + 2) 115 4 a2 X2.length (celC ordE X2)) (hg : wv.grownBy wy a.ownBlock) :
  FSt w D L bv av ov ⟨cl, nx, T, X2, ow⟩ F b a2 o f (wy.setCell ⟨D, 3, none⟩ a2) ∧ wy.cell? ⟨D, 3, none⟩ = some a ∧ wy.frozen? ⟨D, 3, none⟩ = false ∧ D < wy.heap.size := by
 obtain ⟨h1, h2, h3, h4, h5, h6, h7, h8, h9⟩ := h.laidA hv ho hg
 exact ⟨⟨h5, h1, h2, h3, h4, h6, h.lD⟩, h7, h8, h9⟩
theorem okO_mono {c d : Nat} {l : List OweV} (h : OkO c l) (hd : c ≤ d) : OkO d l := ⟨by have := h.1; omega, fun y hy => by have := h.2 y hy; omega⟩
theorem trL_ok (s : Int) (x : OrdV) (hx : 0 ≤ x.price ∧ x.price ≤ 1000000) : ∀ (T : List OrdV) (left : Int) (ow : List OweV) (F : List FillV) (c : Nat), OkO c ow → OkT T → (0 ≤ left ∧ left ≤ 1000000) → OkO (c + 3 * T.length) (trL s x T left ow F).2.2.1 ∧ (0 ≤ (trL s x T left ow F).2.1 ∧ (trL s x T left ow F).2.1 ≤ 1000000) ∧ (trL s x T left ow F).2.2.2.length ≤ F.length + T.length ∧ (trL s x T left ow F).1.length ≤ T.length
 | [], left, ow, F, c, h, _, hl => ⟨by simpa [trL] using h, by simpa [trL] using hl, by simp [trL], by simp [trL]⟩
 | r :: rs, left, ow, F, c, h, ht, hl => by
  have hr := ht r (by simp);unfold trL
  by_cases hm : 0 < left ∧ meetB s x.price r.price = true
  ·rw [if_pos hm];have hn : 0 ≤ min left r.left ∧ min left r.left ≤ 1000000 ∧ min left r.left ≤ left := by omega
   have hs := okO_set (s := s) (o := x) (r := r) (n := min left r.left) h (by omega) hx (by omega)
   by_cases h0 : r.left - min left r.left = 0
   ·rw [if_pos h0];have ih := trL_ok s x hx rs (left - min left r.left) (setO s x r (min left r.left) ow) (F ++ [setF s x r (min left r.left)]) (c + 3) hs (fun q hq => ht q (List.mem_cons_of_mem _ hq)) (by omega);rw [List.length_append, List.length_singleton] at ih;rw [List.length_cons];refine ⟨okO_mono ih.1 (by omega), ih.2.1, by omega, by omega⟩
   ·rw [if_neg h0];simp only [List.length_cons, List.length_append, List.length_nil]
    exact ⟨okO_mono hs (by omega), by omega, by omega, by omega⟩
  ·rw [if_neg hm]
   simp only
   exact ⟨okO_mono h (by omega), hl, by omega, by omega⟩
end Go.Proofs.YtiinigifjdpicaaGreatDoor
