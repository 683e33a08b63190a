/- Texts of my own, laid together. -/
import Derived.Test.YtiinigifjdpicaaGreatDoorMb04
namespace Go.Proofs.YtiinigifjdpicaaGreatDoor.Se
open Go.RowKit
set_option linter.all false
set_option maxHeartbeats 1000000 in
theorem withinR_is (x lo hi : Int) (w : World) : Calls Tryz.prog 54 #[.int .i64 x, .int .i64 lo, .int .i64 hi] w fun e w' => e = .returned (.bool (wiB x lo hi)) ∧ w' = w := by
 unfold wiB
 by_cases h : lo ≤ x
 ·go_enter Tryz.func54, Tryz.ntmps54
  go_wp2;go_ret
  exact ⟨by simp [h], rfl⟩
 ·go_enter Tryz.func54, Tryz.ntmps54
  go_wp2;go_ret
  exact ⟨by rw [decide_eq_false (by omega)]; rfl, rfl⟩
def rEqB (x r : ReqV) : Bool := x.kind == r.kind && (x.acct == r.acct && (x.lane == r.lane && (x.asset == r.asset && (x.side == r.side && (x.price == r.price && (x.n == r.n && (x.now == r.now && (x.key.1 == r.key.1 && (x.key.2 == r.key.2 && x.dst == r.dst)))))))))
theorem ifB {c : Prop} [Decidable c] {b B : Bool} {w : World} {X : Result Value} (h : c → X = .ok (.bool B) w) (hb : b = decide c) : (if c then X else .ok (.bool false) w) = .ok (.bool (b && B)) w := by
 subst hb
 by_cases hc : c
 ·rw [if_pos hc, h hc, decide_eq_true hc]
  rfl
 ·rw [if_neg hc, decide_eq_false hc]
  rfl
set_option maxHeartbeats 2000000 in
theorem eq25 (x r : ReqV) (w : World) : (binOp .eql 26 (.agg (reqC x)) (.agg (reqC r))).run Tryz.prog w = .ok (.bool (rEqB x r)) w := by
 unfold rEqB;simp only [reqC];have hB : ∀ (a b : Int), (a == b) = decide (a = b) := fun a b => by by_cases h : a = b <;> simp [h]
 have hB2 : ∀ (a b : Bool), (a == b) = decide (a = b) := fun a b => by cases a <;> cases b <;> rfl
 simp [go_sem]
 refine ifB (fun _ => ?_) (hB _ _);refine ifB (fun _ => ?_) (hB _ _);refine ifB (fun _ => ?_) (hB _ _);refine ifB (fun _ => ?_) (hB _ _);refine ifB (fun _ => ?_) (hB _ _);refine ifB (fun _ => ?_) (hB _ _);refine ifB (fun _ => ?_) (hB _ _);refine ifB (fun _ => ?_) (hB2 _ _);refine ifB (fun _ => ?_) (hB _ _);refine ifB (fun _ => ?_) (hB _ _)
 by_cases h : x.dst = r.dst <;> simp [h]
set_option maxHeartbeats 8000000 in
set_option maxRecDepth 100000 in
theorem rfit1 (a l s d p n : Int) (o : Bool) (kk kn t : Int) (w : World) : Calls Tryz.prog 29 #[.agg #[.int .i64 1, .int .i64 a, .int .i64 l, .int .i64 s, .int .i64 d, .int .i64 p, .int .i64 n, .bool o, .int .i64 kk, .int .i64 kn, .int .i64 t]] w fun e w' => e = .returned (.bool (wiB a 1 8 && (wiB s 0 3 && (wiB n 1 1000000 && (rEqB ⟨1, a, 0, s, 0, 0, n, false, (0, 0), 0⟩ ⟨1, a, l, s, d, p, n, o, (kk, kn), t⟩))))) ∧ Below w.heap.size w w' := by
 have H1 := hideIt (fun W => withinR_is a 1 8 W);have H3 := hideIt (fun W => withinR_is s 0 3 W);have H6 := hideIt (fun W => withinR_is n 1 1000000 W);have hq : ∀ W, (binOp .eql 26 (.agg #[.int .i64 1, .int .i64 a, .int .i64 0, .int .i64 s, .int .i64 0, .int .i64 0, .int .i64 n, .bool false, .int .i64 0, .int .i64 0, .int .i64 0]) (.agg #[.int .i64 1, .int .i64 a, .int .i64 l, .int .i64 s, .int .i64 d, .int .i64 p, .int .i64 n, .bool o, .int .i64 kk, .int .i64 kn, .int .i64 t])).run Tryz.prog W = .ok (.bool (rEqB ⟨1, a, 0, s, 0, 0, n, false, (0, 0), 0⟩ ⟨1, a, l, s, d, p, n, o, (kk, kn), t⟩)) W := fun W => eq25 ⟨1, a, 0, s, 0, 0, n, false, (0, 0), 0⟩ ⟨1, a, l, s, d, p, n, o, (kk, kn), t⟩ W
 generalize rEqB ⟨1, a, 0, s, 0, 0, n, false, (0, 0), 0⟩ ⟨1, a, l, s, d, p, n, o, (kk, kn), t⟩ = be at *;generalize wiB a 1 8 = b1 at *;generalize wiB s 0 3 = b3 at *;generalize wiB n 1 1000000 = b6 at *
 go_enter Tryz.func29, Tryz.ntmps29
 go_wp2_with fail
 refine (H1.out _).mono ?_;rintro e w1 ⟨rfl, rfl⟩;dsimp only;clear H1;cases b1
 ·go_wp2
  all_goals go_ret
  all_goals exact ⟨by simp, below2 w _ _⟩
 go_wp2_with fail
 refine (H3.out _).mono ?_;rintro e w1 ⟨rfl, rfl⟩;dsimp only;clear H3;cases b3
 ·go_wp2
  all_goals go_ret
  all_goals exact ⟨by simp, below2 w _ _⟩
 go_wp2_with fail
 refine (H6.out _).mono ?_;rintro e w1 ⟨rfl, rfl⟩;dsimp only;clear H6;cases b6
 ·go_wp2
  all_goals go_ret
  all_goals exact ⟨by simp, below2 w _ _⟩
 go_wp2
 all_goals go_ret
 all_goals exact ⟨by simp, below2 w _ _⟩
set_option maxHeartbeats 8000000 in
set_option maxRecDepth 100000 in
theorem rfit2 (a l s d p n : Int) (o : Bool) (kk kn t : Int) (w : World) : Calls Tryz.prog 29 #[.agg #[.int .i64 2, .int .i64 a, .int .i64 l, .int .i64 s, .int .i64 d, .int .i64 p, .int .i64 n, .bool o, .int .i64 kk, .int .i64 kn, .int .i64 t]] w fun e w' => e = .returned (.bool (wiB a 1 8 && (wiB s 0 3 && (wiB n 1 1000000 && (rEqB ⟨2, a, 0, s, 0, 0, n, false, (0, 0), 0⟩ ⟨2, a, l, s, d, p, n, o, (kk, kn), t⟩))))) ∧ Below w.heap.size w w' := by
 have H1 := hideIt (fun W => withinR_is a 1 8 W);have H3 := hideIt (fun W => withinR_is s 0 3 W);have H6 := hideIt (fun W => withinR_is n 1 1000000 W);have hq : ∀ W, (binOp .eql 26 (.agg #[.int .i64 2, .int .i64 a, .int .i64 0, .int .i64 s, .int .i64 0, .int .i64 0, .int .i64 n, .bool false, .int .i64 0, .int .i64 0, .int .i64 0]) (.agg #[.int .i64 2, .int .i64 a, .int .i64 l, .int .i64 s, .int .i64 d, .int .i64 p, .int .i64 n, .bool o, .int .i64 kk, .int .i64 kn, .int .i64 t])).run Tryz.prog W = .ok (.bool (rEqB ⟨2, a, 0, s, 0, 0, n, false, (0, 0), 0⟩ ⟨2, a, l, s, d, p, n, o, (kk, kn), t⟩)) W := fun W => eq25 ⟨2, a, 0, s, 0, 0, n, false, (0, 0), 0⟩ ⟨2, a, l, s, d, p, n, o, (kk, kn), t⟩ W
 generalize rEqB ⟨2, a, 0, s, 0, 0, n, false, (0, 0), 0⟩ ⟨2, a, l, s, d, p, n, o, (kk, kn), t⟩ = be at *;generalize wiB a 1 8 = b1 at *;generalize wiB s 0 3 = b3 at *;generalize wiB n 1 1000000 = b6 at *
 go_enter Tryz.func29, Tryz.ntmps29
 go_wp2_with fail
 refine (H1.out _).mono ?_;rintro e w1 ⟨rfl, rfl⟩;dsimp only;clear H1;cases b1
 ·go_wp2
  all_goals go_ret
  all_goals exact ⟨by simp, below2 w _ _⟩
 go_wp2_with fail
 refine (H3.out _).mono ?_;rintro e w1 ⟨rfl, rfl⟩;dsimp only;clear H3;cases b3
 ·go_wp2
  all_goals go_ret
  all_goals exact ⟨by simp, below2 w _ _⟩
 go_wp2_with fail
 refine (H6.out _).mono ?_;rintro e w1 ⟨rfl, rfl⟩;dsimp only;clear H6;cases b6
 ·go_wp2
  all_goals go_ret
  all_goals exact ⟨by simp, below2 w _ _⟩
 go_wp2
 all_goals go_ret
 all_goals exact ⟨by simp, below2 w _ _⟩
set_option maxHeartbeats 8000000 in
set_option maxRecDepth 100000 in
theorem rfit3 (a l s d p n : Int) (o : Bool) (kk kn t : Int) (w : World) : Calls Tryz.prog 29 #[.agg #[.int .i64 3, .int .i64 a, .int .i64 l, .int .i64 s, .int .i64 d, .int .i64 p, .int .i64 n, .bool o, .int .i64 kk, .int .i64 kn, .int .i64 t]] w fun e w' => e = .returned (.bool (wiB a 1 8 && (wiB l 1 3 && (wiB d 1 2 && (wiB p 1 1000000 && (wiB n 1 1000000 && (rEqB ⟨3, a, l, 0, d, p, n, o, (0, 0), 0⟩ ⟨3, a, l, s, d, p, n, o, (kk, kn), t⟩))))))) ∧ Below w.heap.size w w' := by
 have H1 := hideIt (fun W => withinR_is a 1 8 W);have H2 := hideIt (fun W => withinR_is l 1 3 W);have H4 := hideIt (fun W => withinR_is d 1 2 W);have H5 := hideIt (fun W => withinR_is p 1 1000000 W);have H6 := hideIt (fun W => withinR_is n 1 1000000 W);have hq : ∀ W, (binOp .eql 26 (.agg #[.int .i64 3, .int .i64 a, .int .i64 l, .int .i64 0, .int .i64 d, .int .i64 p, .int .i64 n, .bool o, .int .i64 0, .int .i64 0, .int .i64 0]) (.agg #[.int .i64 3, .int .i64 a, .int .i64 l, .int .i64 s, .int .i64 d, .int .i64 p, .int .i64 n, .bool o, .int .i64 kk, .int .i64 kn, .int .i64 t])).run Tryz.prog W = .ok (.bool (rEqB ⟨3, a, l, 0, d, p, n, o, (0, 0), 0⟩ ⟨3, a, l, s, d, p, n, o, (kk, kn), t⟩)) W := fun W => eq25 ⟨3, a, l, 0, d, p, n, o, (0, 0), 0⟩ ⟨3, a, l, s, d, p, n, o, (kk, kn), t⟩ W
 generalize rEqB ⟨3, a, l, 0, d, p, n, o, (0, 0), 0⟩ ⟨3, a, l, s, d, p, n, o, (kk, kn), t⟩ = be at *;generalize wiB a 1 8 = b1 at *;generalize wiB l 1 3 = b2 at *;generalize wiB d 1 2 = b4 at *;generalize wiB p 1 1000000 = b5 at *;generalize wiB n 1 1000000 = b6 at *
 go_enter Tryz.func29, Tryz.ntmps29
 go_wp2_with fail
 refine (H1.out _).mono ?_;rintro e w1 ⟨rfl, rfl⟩;dsimp only;clear H1;cases b1
 ·go_wp2
  all_goals go_ret
  all_goals exact ⟨by simp, below2 w _ _⟩
 go_wp2_with fail
 refine (H2.out _).mono ?_;rintro e w1 ⟨rfl, rfl⟩;dsimp only;clear H2;cases b2
 ·go_wp2
  all_goals go_ret
  all_goals exact ⟨by simp, below2 w _ _⟩
 go_wp2_with fail
 refine (H4.out _).mono ?_;rintro e w1 ⟨rfl, rfl⟩;dsimp only;clear H4;cases b4
 ·go_wp2
  all_goals go_ret
  all_goals exact ⟨by simp, below2 w _ _⟩
 go_wp2_with fail
 refine (H5.out _).mono ?_;rintro e w1 ⟨rfl, rfl⟩;dsimp only;clear H5;cases b5
 ·go_wp2
  all_goals go_ret
  all_goals exact ⟨by simp, below2 w _ _⟩
 go_wp2_with fail
 refine (H6.out _).mono ?_;rintro e w1 ⟨rfl, rfl⟩;dsimp only;clear H6;cases b6
 ·go_wp2
  all_goals go_ret
  all_goals exact ⟨by simp, below2 w _ _⟩
 go_wp2
 all_goals go_ret
 all_goals exact ⟨by simp, below2 w _ _⟩
set_option maxHeartbeats 8000000 in
set_option maxRecDepth 100000 in
theorem rfit4 (a l s d p n : Int) (o : Bool) (kk kn t : Int) (w : World) : Calls Tryz.prog 29 #[.agg #[.int .i64 4, .int .i64 a, .int .i64 l, .int .i64 s, .int .i64 d, .int .i64 p, .int .i64 n, .bool o, .int .i64 kk, .int .i64 kn, .int .i64 t]] w fun e w' => e = .returned (.bool (wiB a 1 8 && (wiB l 1 3 && (wiB n 1 1000000 && (rEqB ⟨4, a, l, 0, 0, 0, n, false, (0, 0), 0⟩ ⟨4, a, l, s, d, p, n, o, (kk, kn), t⟩))))) ∧ Below w.heap.size w w' := by
 have H1 := hideIt (fun W => withinR_is a 1 8 W);have H2 := hideIt (fun W => withinR_is l 1 3 W);have H6 := hideIt (fun W => withinR_is n 1 1000000 W);have hq : ∀ W, (binOp .eql 26 (.agg #[.int .i64 4, .int .i64 a, .int .i64 l, .int .i64 0, .int .i64 0, .int .i64 0, .int .i64 n, .bool false, .int .i64 0, .int .i64 0, .int .i64 0]) (.agg #[.int .i64 4, .int .i64 a, .int .i64 l, .int .i64 s, .int .i64 d, .int .i64 p, .int .i64 n, .bool o, .int .i64 kk, .int .i64 kn, .int .i64 t])).run Tryz.prog W = .ok (.bool (rEqB ⟨4, a, l, 0, 0, 0, n, false, (0, 0), 0⟩ ⟨4, a, l, s, d, p, n, o, (kk, kn), t⟩)) W := fun W => eq25 ⟨4, a, l, 0, 0, 0, n, false, (0, 0), 0⟩ ⟨4, a, l, s, d, p, n, o, (kk, kn), t⟩ W
 generalize rEqB ⟨4, a, l, 0, 0, 0, n, false, (0, 0), 0⟩ ⟨4, a, l, s, d, p, n, o, (kk, kn), t⟩ = be at *;generalize wiB a 1 8 = b1 at *;generalize wiB l 1 3 = b2 at *;generalize wiB n 1 1000000 = b6 at *
 go_enter Tryz.func29, Tryz.ntmps29
 go_wp2_with fail
 refine (H1.out _).mono ?_;rintro e w1 ⟨rfl, rfl⟩;dsimp only;clear H1;cases b1
 ·go_wp2
  all_goals go_ret
  all_goals exact ⟨by simp, below2 w _ _⟩
 go_wp2_with fail
 refine (H2.out _).mono ?_;rintro e w1 ⟨rfl, rfl⟩;dsimp only;clear H2;cases b2
 ·go_wp2
  all_goals go_ret
  all_goals exact ⟨by simp, below2 w _ _⟩
 go_wp2_with fail
 refine (H6.out _).mono ?_;rintro e w1 ⟨rfl, rfl⟩;dsimp only;clear H6;cases b6
 ·go_wp2
  all_goals go_ret
  all_goals exact ⟨by simp, below2 w _ _⟩
 go_wp2
 all_goals go_ret
 all_goals exact ⟨by simp, below2 w _ _⟩
set_option maxHeartbeats 8000000 in
set_option maxRecDepth 100000 in
theorem rfit5 (a l s d p n : Int) (o : Bool) (kk kn t : Int) (w : World) : Calls Tryz.prog 29 #[.agg #[.int .i64 5, .int .i64 a, .int .i64 l, .int .i64 s, .int .i64 d, .int .i64 p, .int .i64 n, .bool o, .int .i64 kk, .int .i64 kn, .int .i64 t]] w fun e w' => e = .returned (.bool (wiB l 1 3 && (rEqB ⟨5, 0, l, 0, 0, 0, 0, false, (0, 0), 0⟩ ⟨5, a, l, s, d, p, n, o, (kk, kn), t⟩))) ∧ Below w.heap.size w w' := by
 have H2 := hideIt (fun W => withinR_is l 1 3 W);have hq : ∀ W, (binOp .eql 26 (.agg #[.int .i64 5, .int .i64 0, .int .i64 l, .int .i64 0, .int .i64 0, .int .i64 0, .int .i64 0, .bool false, .int .i64 0, .int .i64 0, .int .i64 0]) (.agg #[.int .i64 5, .int .i64 a, .int .i64 l, .int .i64 s, .int .i64 d, .int .i64 p, .int .i64 n, .bool o, .int .i64 kk, .int .i64 kn, .int .i64 t])).run Tryz.prog W = .ok (.bool (rEqB ⟨5, 0, l, 0, 0, 0, 0, false, (0, 0), 0⟩ ⟨5, a, l, s, d, p, n, o, (kk, kn), t⟩)) W := fun W => eq25 ⟨5, 0, l, 0, 0, 0, 0, false, (0, 0), 0⟩ ⟨5, a, l, s, d, p, n, o, (kk, kn), t⟩ W
 generalize rEqB ⟨5, 0, l, 0, 0, 0, 0, false, (0, 0), 0⟩ ⟨5, a, l, s, d, p, n, o, (kk, kn), t⟩ = be at *;generalize wiB l 1 3 = b2 at *
 go_enter Tryz.func29, Tryz.ntmps29
 go_wp2_with fail
 refine (H2.out _).mono ?_;rintro e w1 ⟨rfl, rfl⟩;dsimp only;clear H2;cases b2
 ·go_wp2
  all_goals go_ret
  all_goals exact ⟨by simp, below2 w _ _⟩
 go_wp2
 all_goals go_ret
 all_goals exact ⟨by simp, below2 w _ _⟩
set_option maxHeartbeats 8000000 in
set_option maxRecDepth 100000 in
theorem rfit6 (a l s d p n : Int) (o : Bool) (kk kn t : Int) (w : World) : Calls Tryz.prog 29 #[.agg #[.int .i64 6, .int .i64 a, .int .i64 l, .int .i64 s, .int .i64 d, .int .i64 p, .int .i64 n, .bool o, .int .i64 kk, .int .i64 kn, .int .i64 t]] w fun e w' => e = .returned (.bool (wiB l 1 3 && (rEqB ⟨6, 0, l, 0, 0, 0, 0, false, (0, 0), 0⟩ ⟨6, a, l, s, d, p, n, o, (kk, kn), t⟩))) ∧ Below w.heap.size w w' := by
 have H2 := hideIt (fun W => withinR_is l 1 3 W);have hq : ∀ W, (binOp .eql 26 (.agg #[.int .i64 6, .int .i64 0, .int .i64 l, .int .i64 0, .int .i64 0, .int .i64 0, .int .i64 0, .bool false, .int .i64 0, .int .i64 0, .int .i64 0]) (.agg #[.int .i64 6, .int .i64 a, .int .i64 l, .int .i64 s, .int .i64 d, .int .i64 p, .int .i64 n, .bool o, .int .i64 kk, .int .i64 kn, .int .i64 t])).run Tryz.prog W = .ok (.bool (rEqB ⟨6, 0, l, 0, 0, 0, 0, false, (0, 0), 0⟩ ⟨6, a, l, s, d, p, n, o, (kk, kn), t⟩)) W := fun W => eq25 ⟨6, 0, l, 0, 0, 0, 0, false, (0, 0), 0⟩ ⟨6, a, l, s, d, p, n, o, (kk, kn), t⟩ W
 generalize rEqB ⟨6, 0, l, 0, 0, 0, 0, false, (0, 0), 0⟩ ⟨6, a, l, s, d, p, n, o, (kk, kn), t⟩ = be at *;generalize wiB l 1 3 = b2 at *
 go_enter Tryz.func29, Tryz.ntmps29
 go_wp2_with fail
 refine (H2.out _).mono ?_;rintro e w1 ⟨rfl, rfl⟩;dsimp only;clear H2;cases b2
 ·go_wp2
  all_goals go_ret
  all_goals exact ⟨by simp, below2 w _ _⟩
 go_wp2
 all_goals go_ret
 all_goals exact ⟨by simp, below2 w _ _⟩
set_option maxHeartbeats 8000000 in
set_option maxRecDepth 100000 in
theorem rfit7 (a l s d p n : Int) (o : Bool) (kk kn t : Int) (w : World) : Calls Tryz.prog 29 #[.agg #[.int .i64 7, .int .i64 a, .int .i64 l, .int .i64 s, .int .i64 d, .int .i64 p, .int .i64 n, .bool o, .int .i64 kk, .int .i64 kn, .int .i64 t]] w fun e w' => e = .returned (.bool (wiB a 1 8 && (rEqB ⟨7, a, 0, 0, 0, 0, 0, false, (0, 0), 0⟩ ⟨7, a, l, s, d, p, n, o, (kk, kn), t⟩))) ∧ Below w.heap.size w w' := by
 have H1 := hideIt (fun W => withinR_is a 1 8 W);have hq : ∀ W, (binOp .eql 26 (.agg #[.int .i64 7, .int .i64 a, .int .i64 0, .int .i64 0, .int .i64 0, .int .i64 0, .int .i64 0, .bool false, .int .i64 0, .int .i64 0, .int .i64 0]) (.agg #[.int .i64 7, .int .i64 a, .int .i64 l, .int .i64 s, .int .i64 d, .int .i64 p, .int .i64 n, .bool o, .int .i64 kk, .int .i64 kn, .int .i64 t])).run Tryz.prog W = .ok (.bool (rEqB ⟨7, a, 0, 0, 0, 0, 0, false, (0, 0), 0⟩ ⟨7, a, l, s, d, p, n, o, (kk, kn), t⟩)) W := fun W => eq25 ⟨7, a, 0, 0, 0, 0, 0, false, (0, 0), 0⟩ ⟨7, a, l, s, d, p, n, o, (kk, kn), t⟩ W
 generalize rEqB ⟨7, a, 0, 0, 0, 0, 0, false, (0, 0), 0⟩ ⟨7, a, l, s, d, p, n, o, (kk, kn), t⟩ = be at *;generalize wiB a 1 8 = b1 at *
 go_enter Tryz.func29, Tryz.ntmps29
 go_wp2_with fail
 refine (H1.out _).mono ?_;rintro e w1 ⟨rfl, rfl⟩;dsimp only;clear H1;cases b1
 ·go_wp2
  all_goals go_ret
  all_goals exact ⟨by simp, below2 w _ _⟩
 go_wp2
 all_goals go_ret
 all_goals exact ⟨by simp, below2 w _ _⟩
set_option maxHeartbeats 8000000 in
set_option maxRecDepth 100000 in
theorem rfit8 (a l s d p n : Int) (o : Bool) (kk kn t : Int) (w : World) : Calls Tryz.prog 29 #[.agg #[.int .i64 8, .int .i64 a, .int .i64 l, .int .i64 s, .int .i64 d, .int .i64 p, .int .i64 n, .bool o, .int .i64 kk, .int .i64 kn, .int .i64 t]] w fun e w' => e = .returned (.bool (wiB a 1 8 && (rEqB ⟨8, a, 0, 0, 0, 0, 0, false, (0, 0), 0⟩ ⟨8, a, l, s, d, p, n, o, (kk, kn), t⟩))) ∧ Below w.heap.size w w' := by
 have H1 := hideIt (fun W => withinR_is a 1 8 W);have hq : ∀ W, (binOp .eql 26 (.agg #[.int .i64 8, .int .i64 a, .int .i64 0, .int .i64 0, .int .i64 0, .int .i64 0, .int .i64 0, .bool false, .int .i64 0, .int .i64 0, .int .i64 0]) (.agg #[.int .i64 8, .int .i64 a, .int .i64 l, .int .i64 s, .int .i64 d, .int .i64 p, .int .i64 n, .bool o, .int .i64 kk, .int .i64 kn, .int .i64 t])).run Tryz.prog W = .ok (.bool (rEqB ⟨8, a, 0, 0, 0, 0, 0, false, (0, 0), 0⟩ ⟨8, a, l, s, d, p, n, o, (kk, kn), t⟩)) W := fun W => eq25 ⟨8, a, 0, 0, 0, 0, 0, false, (0, 0), 0⟩ ⟨8, a, l, s, d, p, n, o, (kk, kn), t⟩ W
 generalize rEqB ⟨8, a, 0, 0, 0, 0, 0, false, (0, 0), 0⟩ ⟨8, a, l, s, d, p, n, o, (kk, kn), t⟩ = be at *;generalize wiB a 1 8 = b1 at *
 go_enter Tryz.func29, Tryz.ntmps29
 go_wp2_with fail
 refine (H1.out _).mono ?_;rintro e w1 ⟨rfl, rfl⟩;dsimp only;clear H1;cases b1
 ·go_wp2
  all_goals go_ret
  all_goals exact ⟨by simp, below2 w _ _⟩
 go_wp2
 all_goals go_ret
 all_goals exact ⟨by simp, below2 w _ _⟩
theorem SGot.keys {w : World} {v : Value} {l : List KeyV} (h : SGot 2 16 keyE w v l) : ∃ a c, v = .slice a l.length c ∧ l.length * 16 ≤ 140737488355328 ∧ ∀ i (h : i < l.length), ∃ b off, a = some ⟨b, off, none⟩ ∧ b < w.heap.size ∧ w.cell? ⟨b, off + i * 2, none⟩ = some (.int .i64 (l[i]).1) ∧ w.cell? ⟨b, off + i * 2 + 1, none⟩ = some (.int .i64 (l[i]).2) := by
 obtain ⟨h8, a, c, rfl, _, hr⟩ := h;refine ⟨a, c, rfl, h8, fun i hi => ?_⟩;obtain ⟨b, off, rfl, hlt, hc⟩ := hr (by omega);have g := celC_get keyK l i hi
 exact ⟨b, off, rfl, hlt, (hc (i * 2) (by omega)).trans (g 0 (by omega)), (hc (i * 2 + 1) (by omega)).trans (g 1 (by omega))⟩
theorem req_all {w : World} {p : Nat} {k a l s d pr n kk kn t : Int} {o : Bool} (h : w.heap[p]? = some (.cells #[.int .i64 k, .int .i64 a, .int .i64 l, .int .i64 s, .int .i64 d, .int .i64 pr, .int .i64 n, .bool o, .int .i64 kk, .int .i64 kn, .int .i64 t] 26 (0, 0))) : w.cell? ⟨p, 0, none⟩ = some (.int .i64 k) ∧ w.cell? ⟨p, 1, none⟩ = some (.int .i64 a) ∧ w.cell? ⟨p, 2, none⟩ = some (.int .i64 l) ∧ w.cell? ⟨p, 3, none⟩ = some (.int .i64 s) ∧ w.cell? ⟨p, 4, none⟩ = some (.int .i64 d) ∧ w.cell? ⟨p, 5, none⟩ = some (.int .i64 pr) ∧ w.cell? ⟨p, 6, none⟩ = some (.int .i64 n) ∧ w.cell? ⟨p, 7, none⟩ = some (.bool o) ∧ w.cell? ⟨p, 8, none⟩ = some (.int .i64 kk) ∧ w.cell? ⟨p, 9, none⟩ = some (.int .i64 kn) ∧ w.cell? ⟨p, 10, none⟩ = some (.int .i64 t) :=
 ⟨by rw [cell_at h]; rfl, by rw [cell_at h]; rfl, by rw [cell_at h]; rfl, by rw [cell_at h]; rfl, by rw [cell_at h]; rfl, by rw [cell_at h]; rfl, by rw [cell_at h]; rfl, by rw [cell_at h]; rfl, by rw [cell_at h]; rfl, by rw [cell_at h]; rfl, by rw [cell_at h]; rfl⟩
theorem eqFalse {a b : KeyV} (h : (a == b) = false) (W : World) : (binOp .eql 24 (.agg #[.int .i64 a.1, .int .i64 a.2]) (.agg #[.int .i64 b.1, .int .i64 b.2])).run Tryz.prog W = .ok (.bool false) W := by
 rw [eq26];have : ((a.1, a.2) == (b.1, b.2)) = false := h;rw [this]
set_option maxHeartbeats 8000000 in
set_option maxRecDepth 100000 in
theorem rfit9 (a l s d p n : Int) (o : Bool) (kk kn t : Int) (w : World) : Calls Tryz.prog 29 #[.agg #[.int .i64 9, .int .i64 a, .int .i64 l, .int .i64 s, .int .i64 d, .int .i64 p, .int .i64 n, .bool o, .int .i64 kk, .int .i64 kn, .int .i64 t]] w fun e w' => e = .returned (.bool (keyB (kk, kn) && (wiB t 0 3 && rEqB ⟨9, 0, 0, 0, 0, 0, 0, false, (kk, kn), t⟩ ⟨9, a, l, s, d, p, n, o, (kk, kn), t⟩))) ∧ Below w.heap.size w w' := by
 have H1 := hideIt (fun W => rKey_is kk kn W);have H2 := hideIt (fun W => withinR_is t 0 3 W);have X0 := hideIt (two_heap w (.cells #[.int .i64 9, .int .i64 a, .int .i64 l, .int .i64 s, .int .i64 d, .int .i64 p, .int .i64 n, .bool o, .int .i64 kk, .int .i64 kn, .int .i64 t] 26) (.cells #[.int .i64 9, .int .i64 0, .int .i64 0, .int .i64 0, .int .i64 0, .int .i64 0, .int .i64 0, .bool false, .int .i64 kk, .int .i64 kn, .int .i64 t] 26));have B0 := hideIt (below2 w (.cells #[.int .i64 9, .int .i64 a, .int .i64 l, .int .i64 s, .int .i64 d, .int .i64 p, .int .i64 n, .bool o, .int .i64 kk, .int .i64 kn, .int .i64 t] 26) (.cells #[.int .i64 9, .int .i64 0, .int .i64 0, .int .i64 0, .int .i64 0, .int .i64 0, .int .i64 0, .bool false, .int .i64 kk, .int .i64 kn, .int .i64 t] 26));have hq : ∀ W, (binOp .eql 26 (.agg #[.int .i64 9, .int .i64 0, .int .i64 0, .int .i64 0, .int .i64 0, .int .i64 0, .int .i64 0, .bool false, .int .i64 kk, .int .i64 kn, .int .i64 t]) (.agg #[.int .i64 9, .int .i64 a, .int .i64 l, .int .i64 s, .int .i64 d, .int .i64 p, .int .i64 n, .bool o, .int .i64 kk, .int .i64 kn, .int .i64 t])).run Tryz.prog W = .ok (.bool (rEqB ⟨9, 0, 0, 0, 0, 0, 0, false, (kk, kn), t⟩ ⟨9, a, l, s, d, p, n, o, (kk, kn), t⟩)) W := fun W => eq25 ⟨9, 0, 0, 0, 0, 0, 0, false, (kk, kn), t⟩ ⟨9, a, l, s, d, p, n, o, (kk, kn), t⟩ W
 generalize rEqB ⟨9, 0, 0, 0, 0, 0, 0, false, (kk, kn), t⟩ ⟨9, a, l, s, d, p, n, o, (kk, kn), t⟩ = be at *;generalize keyB (kk, kn) = b1 at *;generalize wiB t 0 3 = b2 at *
 go_enter Tryz.func29, Tryz.ntmps29
 go_wp2_with fail
 refine (H1.out _).mono ?_;rintro e w1 ⟨rfl, hb⟩;dsimp only;obtain ⟨r0, r1, r2, r3, r4, r5, r6, r7, r8, r9, r10⟩ := req_all ((hb.block w.heap.size (by rw [X0.out.2.2]; omega)).trans X0.out.1)
 obtain ⟨y0, y1, y2, y3, y4, y5, y6, y7, y8, y9, y10⟩ := req_all ((hb.block (w.heap.size + 1) (by rw [X0.out.2.2]; omega)).trans X0.out.2.1)
 have HB := hideIt (below_via B0.out hb);clear hb B0 X0 H1;cases b1
 ·go_wp2
  all_goals go_ret
  all_goals exact ⟨by simp, HB.out⟩
 go_wp2_with fail
 refine (H2.out _).mono ?_;rintro e w1 ⟨rfl, rfl⟩;dsimp only;clear H2;cases b2
 ·go_wp2
  all_goals go_ret
  all_goals exact ⟨by simp, HB.out⟩
 go_wp2
 all_goals go_ret
 all_goals exact ⟨by simp, HB.out⟩
set_option maxHeartbeats 8000000 in
set_option maxRecDepth 100000 in
theorem rfit0 (k a l s d p n : Int) (o : Bool) (kk kn t : Int) (w : World) (h : ¬ (1 ≤ k ∧ k ≤ 9)) : Calls Tryz.prog 29 #[.agg #[.int .i64 k, .int .i64 a, .int .i64 l, .int .i64 s, .int .i64 d, .int .i64 p, .int .i64 n, .bool o, .int .i64 kk, .int .i64 kn, .int .i64 t]] w fun e w' => e = .returned (.bool false) ∧ Below w.heap.size w w' := by
 have h1 : ¬ k = 1 := by omega
 have h2 : ¬ k = 2 := by omega
 have h3 : ¬ k = 3 := by omega
 have h4 : ¬ k = 4 := by omega
 have h5 : ¬ k = 5 := by omega
 have h6 : ¬ k = 6 := by omega
 have h7 : ¬ k = 7 := by omega
 have h8 : ¬ k = 8 := by omega
 have h9 : ¬ k = 9 := by omega
 clear h
 go_enter Tryz.func29, Tryz.ntmps29
 go_wp2
 all_goals go_ret
 all_goals exact ⟨rfl, below2 w _ _⟩
theorem fitk1 (a l s d p n : Int) (o : Bool) (kk kn t : Int) : (wiB a 1 8 && (wiB s 0 3 && (wiB n 1 1000000 && (rEqB ⟨1, a, 0, s, 0, 0, n, false, (0, 0), 0⟩ ⟨1, a, l, s, d, p, n, o, (kk, kn), t⟩)))) = fitsB ⟨1, a, l, s, d, p, n, o, (kk, kn), t⟩ := by
 have hf : formF 1 = 37 := rfl;have hw : wiB 1 1 9 = true := rfl;unfold fitsB rEqB;dsimp only;rw [hf, hw];rw [show bits .and .i64 37 1 = 1 by kernel_rfl];rw [show bits .and .i64 37 2 = 0 by kernel_rfl];rw [show bits .and .i64 37 4 = 4 by kernel_rfl];rw [show bits .and .i64 37 8 = 0 by kernel_rfl];rw [show bits .and .i64 37 16 = 0 by kernel_rfl];rw [show bits .and .i64 37 32 = 32 by kernel_rfl];rw [show bits .and .i64 37 64 = 0 by kernel_rfl];rw [show bits .and .i64 37 128 = 0 by kernel_rfl];rw [show bits .and .i64 37 256 = 0 by kernel_rfl];unfold fitB fitK;rw [Bool.eq_iff_iff]
 simp
 all_goals grind
theorem fitk2 (a l s d p n : Int) (o : Bool) (kk kn t : Int) : (wiB a 1 8 && (wiB s 0 3 && (wiB n 1 1000000 && (rEqB ⟨2, a, 0, s, 0, 0, n, false, (0, 0), 0⟩ ⟨2, a, l, s, d, p, n, o, (kk, kn), t⟩)))) = fitsB ⟨2, a, l, s, d, p, n, o, (kk, kn), t⟩ := by
 have hf : formF 2 = 37 := rfl;have hw : wiB 2 1 9 = true := rfl;unfold fitsB rEqB;dsimp only;rw [hf, hw];rw [show bits .and .i64 37 1 = 1 by kernel_rfl];rw [show bits .and .i64 37 2 = 0 by kernel_rfl];rw [show bits .and .i64 37 4 = 4 by kernel_rfl];rw [show bits .and .i64 37 8 = 0 by kernel_rfl];rw [show bits .and .i64 37 16 = 0 by kernel_rfl];rw [show bits .and .i64 37 32 = 32 by kernel_rfl];rw [show bits .and .i64 37 64 = 0 by kernel_rfl];rw [show bits .and .i64 37 128 = 0 by kernel_rfl];rw [show bits .and .i64 37 256 = 0 by kernel_rfl];unfold fitB fitK;rw [Bool.eq_iff_iff]
 simp
 all_goals grind
theorem fitk3 (a l s d p n : Int) (o : Bool) (kk kn t : Int) : (wiB a 1 8 && (wiB l 1 3 && (wiB d 1 2 && (wiB p 1 1000000 && (wiB n 1 1000000 && (rEqB ⟨3, a, l, 0, d, p, n, o, (0, 0), 0⟩ ⟨3, a, l, s, d, p, n, o, (kk, kn), t⟩)))))) = fitsB ⟨3, a, l, s, d, p, n, o, (kk, kn), t⟩ := by
 have hf : formF 3 = 123 := rfl;have hw : wiB 3 1 9 = true := rfl;unfold fitsB rEqB;dsimp only;rw [hf, hw];rw [show bits .and .i64 123 1 = 1 by kernel_rfl];rw [show bits .and .i64 123 2 = 2 by kernel_rfl];rw [show bits .and .i64 123 4 = 0 by kernel_rfl];rw [show bits .and .i64 123 8 = 8 by kernel_rfl];rw [show bits .and .i64 123 16 = 16 by kernel_rfl];rw [show bits .and .i64 123 32 = 32 by kernel_rfl];rw [show bits .and .i64 123 64 = 64 by kernel_rfl];rw [show bits .and .i64 123 128 = 0 by kernel_rfl];rw [show bits .and .i64 123 256 = 0 by kernel_rfl];unfold fitB fitK;rw [Bool.eq_iff_iff]
 simp
 all_goals grind
theorem fitk4 (a l s d p n : Int) (o : Bool) (kk kn t : Int) : (wiB a 1 8 && (wiB l 1 3 && (wiB n 1 1000000 && (rEqB ⟨4, a, l, 0, 0, 0, n, false, (0, 0), 0⟩ ⟨4, a, l, s, d, p, n, o, (kk, kn), t⟩)))) = fitsB ⟨4, a, l, s, d, p, n, o, (kk, kn), t⟩ := by
 have hf : formF 4 = 35 := rfl;have hw : wiB 4 1 9 = true := rfl;unfold fitsB rEqB;dsimp only;rw [hf, hw];rw [show bits .and .i64 35 1 = 1 by kernel_rfl];rw [show bits .and .i64 35 2 = 2 by kernel_rfl];rw [show bits .and .i64 35 4 = 0 by kernel_rfl];rw [show bits .and .i64 35 8 = 0 by kernel_rfl];rw [show bits .and .i64 35 16 = 0 by kernel_rfl];rw [show bits .and .i64 35 32 = 32 by kernel_rfl];rw [show bits .and .i64 35 64 = 0 by kernel_rfl];rw [show bits .and .i64 35 128 = 0 by kernel_rfl];rw [show bits .and .i64 35 256 = 0 by kernel_rfl];unfold fitB fitK;rw [Bool.eq_iff_iff]
 simp
 all_goals grind
theorem fitk5 (a l s d p n : Int) (o : Bool) (kk kn t : Int) : (wiB l 1 3 && (rEqB ⟨5, 0, l, 0, 0, 0, 0, false, (0, 0), 0⟩ ⟨5, a, l, s, d, p, n, o, (kk, kn), t⟩)) = fitsB ⟨5, a, l, s, d, p, n, o, (kk, kn), t⟩ := by
 have hf : formF 5 = 2 := rfl;have hw : wiB 5 1 9 = true := rfl;unfold fitsB rEqB;dsimp only;rw [hf, hw];rw [show bits .and .i64 2 1 = 0 by kernel_rfl];rw [show bits .and .i64 2 2 = 2 by kernel_rfl];rw [show bits .and .i64 2 4 = 0 by kernel_rfl];rw [show bits .and .i64 2 8 = 0 by kernel_rfl];rw [show bits .and .i64 2 16 = 0 by kernel_rfl];rw [show bits .and .i64 2 32 = 0 by kernel_rfl];rw [show bits .and .i64 2 64 = 0 by kernel_rfl];rw [show bits .and .i64 2 128 = 0 by kernel_rfl];rw [show bits .and .i64 2 256 = 0 by kernel_rfl];unfold fitB fitK;rw [Bool.eq_iff_iff]
 simp
 all_goals grind
theorem fitk6 (a l s d p n : Int) (o : Bool) (kk kn t : Int) : (wiB l 1 3 && (rEqB ⟨6, 0, l, 0, 0, 0, 0, false, (0, 0), 0⟩ ⟨6, a, l, s, d, p, n, o, (kk, kn), t⟩)) = fitsB ⟨6, a, l, s, d, p, n, o, (kk, kn), t⟩ := by
 have hf : formF 6 = 2 := rfl;have hw : wiB 6 1 9 = true := rfl;unfold fitsB rEqB;dsimp only;rw [hf, hw];rw [show bits .and .i64 2 1 = 0 by kernel_rfl];rw [show bits .and .i64 2 2 = 2 by kernel_rfl];rw [show bits .and .i64 2 4 = 0 by kernel_rfl];rw [show bits .and .i64 2 8 = 0 by kernel_rfl];rw [show bits .and .i64 2 16 = 0 by kernel_rfl];rw [show bits .and .i64 2 32 = 0 by kernel_rfl];rw [show bits .and .i64 2 64 = 0 by kernel_rfl];rw [show bits .and .i64 2 128 = 0 by kernel_rfl];rw [show bits .and .i64 2 256 = 0 by kernel_rfl];unfold fitB fitK;rw [Bool.eq_iff_iff]
 simp
 all_goals grind
theorem fitk7 (a l s d p n : Int) (o : Bool) (kk kn t : Int) : (wiB a 1 8 && (rEqB ⟨7, a, 0, 0, 0, 0, 0, false, (0, 0), 0⟩ ⟨7, a, l, s, d, p, n, o, (kk, kn), t⟩)) = fitsB ⟨7, a, l, s, d, p, n, o, (kk, kn), t⟩ := by
 have hf : formF 7 = 1 := rfl;have hw : wiB 7 1 9 = true := rfl;unfold fitsB rEqB;dsimp only;rw [hf, hw];rw [show bits .and .i64 1 1 = 1 by kernel_rfl];rw [show bits .and .i64 1 2 = 0 by kernel_rfl];rw [show bits .and .i64 1 4 = 0 by kernel_rfl];rw [show bits .and .i64 1 8 = 0 by kernel_rfl];rw [show bits .and .i64 1 16 = 0 by kernel_rfl];rw [show bits .and .i64 1 32 = 0 by kernel_rfl];rw [show bits .and .i64 1 64 = 0 by kernel_rfl];rw [show bits .and .i64 1 128 = 0 by kernel_rfl];rw [show bits .and .i64 1 256 = 0 by kernel_rfl];unfold fitB fitK;rw [Bool.eq_iff_iff]
 simp
 all_goals grind
theorem fitk8 (a l s d p n : Int) (o : Bool) (kk kn t : Int) : (wiB a 1 8 && (rEqB ⟨8, a, 0, 0, 0, 0, 0, false, (0, 0), 0⟩ ⟨8, a, l, s, d, p, n, o, (kk, kn), t⟩)) = fitsB ⟨8, a, l, s, d, p, n, o, (kk, kn), t⟩ := by
 have hf : formF 8 = 1 := rfl;have hw : wiB 8 1 9 = true := rfl;unfold fitsB rEqB;dsimp only;rw [hf, hw];rw [show bits .and .i64 1 1 = 1 by kernel_rfl];rw [show bits .and .i64 1 2 = 0 by kernel_rfl];rw [show bits .and .i64 1 4 = 0 by kernel_rfl];rw [show bits .and .i64 1 8 = 0 by kernel_rfl];rw [show bits .and .i64 1 16 = 0 by kernel_rfl];rw [show bits .and .i64 1 32 = 0 by kernel_rfl];rw [show bits .and .i64 1 64 = 0 by kernel_rfl];rw [show bits .and .i64 1 128 = 0 by kernel_rfl];rw [show bits .and .i64 1 256 = 0 by kernel_rfl];unfold fitB fitK;rw [Bool.eq_iff_iff]
 simp
 all_goals grind
theorem fitk9 (a l s d p n : Int) (o : Bool) (kk kn t : Int) : (keyB (kk, kn) && (wiB t 0 3 && rEqB ⟨9, 0, 0, 0, 0, 0, 0, false, (kk, kn), t⟩ ⟨9, a, l, s, d, p, n, o, (kk, kn), t⟩)) = fitsB ⟨9, a, l, s, d, p, n, o, (kk, kn), t⟩ := by
 have hf : formF 9 = 384 := rfl;have hw : wiB 9 1 9 = true := rfl;unfold fitsB rEqB;dsimp only;rw [hf, hw];rw [show bits .and .i64 384 1 = 0 by kernel_rfl];rw [show bits .and .i64 384 2 = 0 by kernel_rfl];rw [show bits .and .i64 384 4 = 0 by kernel_rfl];rw [show bits .and .i64 384 8 = 0 by kernel_rfl];rw [show bits .and .i64 384 16 = 0 by kernel_rfl];rw [show bits .and .i64 384 32 = 0 by kernel_rfl];rw [show bits .and .i64 384 64 = 0 by kernel_rfl];rw [show bits .and .i64 384 128 = 128 by kernel_rfl];rw [show bits .and .i64 384 256 = 256 by kernel_rfl];unfold fitB fitK;rw [Bool.eq_iff_iff]
 simp
 all_goals grind
theorem rFits_is (r : ReqV) (w : World) : Calls Tryz.prog 29 #[.agg (reqC r)] w fun e w' => e = .returned (.bool (fitsB r)) ∧ Below w.heap.size w w' := by
 obtain ⟨k, a, l, s, d, p, n, o, ⟨kk, kn⟩, t⟩ := r
 by_cases h : 1 ≤ k ∧ k ≤ 9
 ·have : k = 1 ∨ k = 2 ∨ k = 3 ∨ k = 4 ∨ k = 5 ∨ k = 6 ∨ k = 7 ∨ k = 8 ∨ k = 9 := by omega
  rcases this with rfl | rfl | rfl | rfl | rfl | rfl | rfl | rfl | rfl
  ·rw [← fitk1];exact rfit1 a l s d p n o kk kn t w
  ·rw [← fitk2];exact rfit2 a l s d p n o kk kn t w
  ·rw [← fitk3];exact rfit3 a l s d p n o kk kn t w
  ·rw [← fitk4];exact rfit4 a l s d p n o kk kn t w
  ·rw [← fitk5];exact rfit5 a l s d p n o kk kn t w
  ·rw [← fitk6];exact rfit6 a l s d p n o kk kn t w
  ·rw [← fitk7];exact rfit7 a l s d p n o kk kn t w
  ·rw [← fitk8];exact rfit8 a l s d p n o kk kn t w
  ·rw [← fitk9];exact rfit9 a l s d p n o kk kn t w
 ·have hf : fitsB ⟨k, a, l, s, d, p, n, o, (kk, kn), t⟩ = false := by
   unfold fitsB;rw [show wiB k 1 9 = false from decide_eq_false h]
   rfl
  rw [hf];exact rfit0 k a l s d p n o kk kn t w h
set_option maxHeartbeats 2000000 in
theorem account_is (n : Int) (w : World) : Calls Tryz.prog 30 #[.int .i64 n] w fun e w' => e = .returned (.agg #[.int .i64 1, .int .i64 n]) ∧ Below w.heap.size w w' := by
 have HB := hideIt (below1 w (.cells #[.int .i64 1, .int .i64 n] 24));have hx := heap_alloc_new w (.cells #[.int .i64 1, .int .i64 n] 24);obtain ⟨c0, c1, -⟩ := two_at hx;have HC := hideIt (And.intro c0 c1);clear c0 c1 hx
 go_enter Tryz.func30, Tryz.ntmps30
 go_wp2;exact bodyPost_ret (v := .agg #[.int .i64 1, .int .i64 n]) (by simp [results, Tryz.results30, go_sem, HC.out.1, HC.out.2]) rfl ⟨rfl, HB.out⟩
set_option maxHeartbeats 2000000 in
theorem lane_is (n : Int) (w : World) : Calls Tryz.prog 31 #[.int .i64 n] w fun e w' => e = .returned (.agg #[.int .i64 2, .int .i64 n]) ∧ Below w.heap.size w w' := by
 have HB := hideIt (below1 w (.cells #[.int .i64 2, .int .i64 n] 24));have hx := heap_alloc_new w (.cells #[.int .i64 2, .int .i64 n] 24);obtain ⟨c0, c1, -⟩ := two_at hx;have HC := hideIt (And.intro c0 c1);clear c0 c1 hx
 go_enter Tryz.func31, Tryz.ntmps31
 go_wp2;exact bodyPost_ret (v := .agg #[.int .i64 2, .int .i64 n]) (by simp [results, Tryz.results31, go_sem, HC.out.1, HC.out.2]) rfl ⟨rfl, HB.out⟩
def KeyGot (l : List KeyV) (w : World) (e : Ending) (w' : World) : Prop := ∃ a c, e = .returned (.slice a l.length c) ∧ SGot 2 16 keyE w' (.slice a l.length c) l ∧ Below w.heap.size w w'
theorem key_new {W w : World} {ks : List KeyV} {cs : Array Value} (hc : cs = (celC keyE ks).toArray) (hl : ks.length ≤ 4) (hb : Below w.heap.size w W) : KeyGot ks w (.returned (.slice (some ⟨W.heap.size, 0, none⟩) ks.length ks.length)) (W.alloc (.cells cs 24)) := by
 subst hc;refine ⟨_, _, rfl, ⟨by omega, _, _, rfl, ⟨Nat.le_refl _, by unfold maxLen; omega⟩, fun _ => ⟨W.heap.size, 0, rfl, by simp, fun j hj => ?_⟩⟩, below_via hb (below1 W _)⟩
 rw [cell_at (heap_alloc_new W _), Nat.zero_add]
 simp
theorem KeyGot.drew {ks : List KeyV} {w W : World} {e : Ending} (h : KeyGot ks w e W) : KeyGot ks w e W.drew := by
 obtain ⟨a, c, e1, h1, h2⟩ := h
 exact ⟨a, c, e1, h1.keep (Below.refl _ W).drew, h2.drew⟩
set_option maxHeartbeats 8000000 in
set_option maxRecDepth 100000 in
theorem rkey1 (a l s d p n : Int) (o : Bool) (kk kn t : Int) (w : World) (hf : fitsB ⟨1, a, l, s, d, p, n, o, (kk, kn), t⟩ = true) : Calls Tryz.prog 17 #[.agg #[.int .i64 1, .int .i64 a, .int .i64 l, .int .i64 s, .int .i64 d, .int .i64 p, .int .i64 n, .bool o, .int .i64 kk, .int .i64 kn, .int .i64 t]] w (KeyGot ([(1, a)]) w) := by
 have H0 := hideIt (fun W => rFits_is ⟨1, a, l, s, d, p, n, o, (kk, kn), t⟩ W);rw [hf] at H0;simp only [reqC] at H0;clear hf;have H1 := hideIt (fun W => account_is a W);have X0 := hideIt (And.intro (heap_alloc_new w (.cells #[.int .i64 1, .int .i64 a, .int .i64 l, .int .i64 s, .int .i64 d, .int .i64 p, .int .i64 n, .bool o, .int .i64 kk, .int .i64 kn, .int .i64 t] 26)) (below1 w (.cells #[.int .i64 1, .int .i64 a, .int .i64 l, .int .i64 s, .int .i64 d, .int .i64 p, .int .i64 n, .bool o, .int .i64 kk, .int .i64 kn, .int .i64 t] 26)))
 go_enter Tryz.func17, Tryz.ntmps17
 go_wp2_with fail
 refine (H0.out _).mono ?_;rintro e w1 ⟨rfl, hb⟩;dsimp only;have HX := hideIt ((hb.block _ (Array.getElem?_eq_some_iff.1 X0.out.1).1).trans X0.out.1);have HB := hideIt (below_via X0.out.2 hb);obtain ⟨r0, r1, r2, -, -, -, -, -, r8, r9, -⟩ := req_all HX.out;have xz := (Array.getElem?_eq_some_iff.1 HX.out).1;clear hb H0 X0
 go_wp2_with fail
 refine (H1.out _).mono ?_;rintro e w2 ⟨rfl, hb⟩;dsimp only;have HN := hideIt (key_new (ks := [(1, a)]) (cs := #[.int .i64 1, .int .i64 a]) rfl (by simp) (below_via HB.out hb));clear hb H1;go_wp2;go_ret;exact HN.out
set_option maxHeartbeats 8000000 in
set_option maxRecDepth 100000 in
theorem rkey2 (a l s d p n : Int) (o : Bool) (kk kn t : Int) (w : World) (hf : fitsB ⟨2, a, l, s, d, p, n, o, (kk, kn), t⟩ = true) : Calls Tryz.prog 17 #[.agg #[.int .i64 2, .int .i64 a, .int .i64 l, .int .i64 s, .int .i64 d, .int .i64 p, .int .i64 n, .bool o, .int .i64 kk, .int .i64 kn, .int .i64 t]] w (KeyGot ([(1, a)]) w) := by
 have H0 := hideIt (fun W => rFits_is ⟨2, a, l, s, d, p, n, o, (kk, kn), t⟩ W);rw [hf] at H0;simp only [reqC] at H0;clear hf;have H1 := hideIt (fun W => account_is a W);have X0 := hideIt (And.intro (heap_alloc_new w (.cells #[.int .i64 2, .int .i64 a, .int .i64 l, .int .i64 s, .int .i64 d, .int .i64 p, .int .i64 n, .bool o, .int .i64 kk, .int .i64 kn, .int .i64 t] 26)) (below1 w (.cells #[.int .i64 2, .int .i64 a, .int .i64 l, .int .i64 s, .int .i64 d, .int .i64 p, .int .i64 n, .bool o, .int .i64 kk, .int .i64 kn, .int .i64 t] 26)))
 go_enter Tryz.func17, Tryz.ntmps17
 go_wp2_with fail
 refine (H0.out _).mono ?_;rintro e w1 ⟨rfl, hb⟩;dsimp only;have HX := hideIt ((hb.block _ (Array.getElem?_eq_some_iff.1 X0.out.1).1).trans X0.out.1);have HB := hideIt (below_via X0.out.2 hb);obtain ⟨r0, r1, r2, -, -, -, -, -, r8, r9, -⟩ := req_all HX.out;have xz := (Array.getElem?_eq_some_iff.1 HX.out).1;clear hb H0 X0
 go_wp2_with fail
 refine (H1.out _).mono ?_;rintro e w2 ⟨rfl, hb⟩;dsimp only;have HN := hideIt (key_new (ks := [(1, a)]) (cs := #[.int .i64 1, .int .i64 a]) rfl (by simp) (below_via HB.out hb));clear hb H1;go_wp2;go_ret;exact HN.out
set_option maxHeartbeats 8000000 in
set_option maxRecDepth 100000 in
theorem rkey8 (a l s d p n : Int) (o : Bool) (kk kn t : Int) (w : World) (hf : fitsB ⟨8, a, l, s, d, p, n, o, (kk, kn), t⟩ = true) : Calls Tryz.prog 17 #[.agg #[.int .i64 8, .int .i64 a, .int .i64 l, .int .i64 s, .int .i64 d, .int .i64 p, .int .i64 n, .bool o, .int .i64 kk, .int .i64 kn, .int .i64 t]] w (KeyGot ([(1, a)]) w) := by
 have H0 := hideIt (fun W => rFits_is ⟨8, a, l, s, d, p, n, o, (kk, kn), t⟩ W);rw [hf] at H0;simp only [reqC] at H0;clear hf;have H1 := hideIt (fun W => account_is a W);have X0 := hideIt (And.intro (heap_alloc_new w (.cells #[.int .i64 8, .int .i64 a, .int .i64 l, .int .i64 s, .int .i64 d, .int .i64 p, .int .i64 n, .bool o, .int .i64 kk, .int .i64 kn, .int .i64 t] 26)) (below1 w (.cells #[.int .i64 8, .int .i64 a, .int .i64 l, .int .i64 s, .int .i64 d, .int .i64 p, .int .i64 n, .bool o, .int .i64 kk, .int .i64 kn, .int .i64 t] 26)))
 go_enter Tryz.func17, Tryz.ntmps17
 go_wp2_with fail
 refine (H0.out _).mono ?_;rintro e w1 ⟨rfl, hb⟩;dsimp only;have HX := hideIt ((hb.block _ (Array.getElem?_eq_some_iff.1 X0.out.1).1).trans X0.out.1);have HB := hideIt (below_via X0.out.2 hb);obtain ⟨r0, r1, r2, -, -, -, -, -, r8, r9, -⟩ := req_all HX.out;have xz := (Array.getElem?_eq_some_iff.1 HX.out).1;clear hb H0 X0
 go_wp2_with fail
 refine (H1.out _).mono ?_;rintro e w2 ⟨rfl, hb⟩;dsimp only;have HN := hideIt (key_new (ks := [(1, a)]) (cs := #[.int .i64 1, .int .i64 a]) rfl (by simp) (below_via HB.out hb));clear hb H1;go_wp2;go_ret;exact HN.out
set_option maxHeartbeats 8000000 in
set_option maxRecDepth 100000 in
theorem rkey4 (a l s d p n : Int) (o : Bool) (kk kn t : Int) (w : World) (hf : fitsB ⟨4, a, l, s, d, p, n, o, (kk, kn), t⟩ = true) : Calls Tryz.prog 17 #[.agg #[.int .i64 4, .int .i64 a, .int .i64 l, .int .i64 s, .int .i64 d, .int .i64 p, .int .i64 n, .bool o, .int .i64 kk, .int .i64 kn, .int .i64 t]] w (KeyGot ([(2, l)]) w) := by
 have H0 := hideIt (fun W => rFits_is ⟨4, a, l, s, d, p, n, o, (kk, kn), t⟩ W);rw [hf] at H0;simp only [reqC] at H0;clear hf;have H1 := hideIt (fun W => lane_is l W);have X0 := hideIt (And.intro (heap_alloc_new w (.cells #[.int .i64 4, .int .i64 a, .int .i64 l, .int .i64 s, .int .i64 d, .int .i64 p, .int .i64 n, .bool o, .int .i64 kk, .int .i64 kn, .int .i64 t] 26)) (below1 w (.cells #[.int .i64 4, .int .i64 a, .int .i64 l, .int .i64 s, .int .i64 d, .int .i64 p, .int .i64 n, .bool o, .int .i64 kk, .int .i64 kn, .int .i64 t] 26)))
 go_enter Tryz.func17, Tryz.ntmps17
 go_wp2_with fail
 refine (H0.out _).mono ?_;rintro e w1 ⟨rfl, hb⟩;dsimp only;have HX := hideIt ((hb.block _ (Array.getElem?_eq_some_iff.1 X0.out.1).1).trans X0.out.1);have HB := hideIt (below_via X0.out.2 hb);obtain ⟨r0, r1, r2, -, -, -, -, -, r8, r9, -⟩ := req_all HX.out;have xz := (Array.getElem?_eq_some_iff.1 HX.out).1;clear hb H0 X0
 go_wp2_with fail
 refine (H1.out _).mono ?_;rintro e w2 ⟨rfl, hb⟩;dsimp only;have HN := hideIt (key_new (ks := [(2, l)]) (cs := #[.int .i64 2, .int .i64 l]) rfl (by simp) (below_via HB.out hb));clear hb H1;go_wp2;go_ret;exact HN.out
set_option maxHeartbeats 8000000 in
set_option maxRecDepth 100000 in
theorem rkey5 (a l s d p n : Int) (o : Bool) (kk kn t : Int) (w : World) (hf : fitsB ⟨5, a, l, s, d, p, n, o, (kk, kn), t⟩ = true) : Calls Tryz.prog 17 #[.agg #[.int .i64 5, .int .i64 a, .int .i64 l, .int .i64 s, .int .i64 d, .int .i64 p, .int .i64 n, .bool o, .int .i64 kk, .int .i64 kn, .int .i64 t]] w (KeyGot ([(2, l)]) w) := by
 have H0 := hideIt (fun W => rFits_is ⟨5, a, l, s, d, p, n, o, (kk, kn), t⟩ W);rw [hf] at H0;simp only [reqC] at H0;clear hf;have H1 := hideIt (fun W => lane_is l W);have X0 := hideIt (And.intro (heap_alloc_new w (.cells #[.int .i64 5, .int .i64 a, .int .i64 l, .int .i64 s, .int .i64 d, .int .i64 p, .int .i64 n, .bool o, .int .i64 kk, .int .i64 kn, .int .i64 t] 26)) (below1 w (.cells #[.int .i64 5, .int .i64 a, .int .i64 l, .int .i64 s, .int .i64 d, .int .i64 p, .int .i64 n, .bool o, .int .i64 kk, .int .i64 kn, .int .i64 t] 26)))
 go_enter Tryz.func17, Tryz.ntmps17
 go_wp2_with fail
 refine (H0.out _).mono ?_;rintro e w1 ⟨rfl, hb⟩;dsimp only;have HX := hideIt ((hb.block _ (Array.getElem?_eq_some_iff.1 X0.out.1).1).trans X0.out.1);have HB := hideIt (below_via X0.out.2 hb);obtain ⟨r0, r1, r2, -, -, -, -, -, r8, r9, -⟩ := req_all HX.out;have xz := (Array.getElem?_eq_some_iff.1 HX.out).1;clear hb H0 X0
 go_wp2_with fail
 refine (H1.out _).mono ?_;rintro e w2 ⟨rfl, hb⟩;dsimp only;have HN := hideIt (key_new (ks := [(2, l)]) (cs := #[.int .i64 2, .int .i64 l]) rfl (by simp) (below_via HB.out hb));clear hb H1;go_wp2;go_ret;exact HN.out
set_option maxHeartbeats 8000000 in
set_option maxRecDepth 100000 in
theorem rkey6 (a l s d p n : Int) (o : Bool) (kk kn t : Int) (w : World) (hf : fitsB ⟨6, a, l, s, d, p, n, o, (kk, kn), t⟩ = true) : Calls Tryz.prog 17 #[.agg #[.int .i64 6, .int .i64 a, .int .i64 l, .int .i64 s, .int .i64 d, .int .i64 p, .int .i64 n, .bool o, .int .i64 kk, .int .i64 kn, .int .i64 t]] w (KeyGot ([(2, l)]) w) := by
 have H0 := hideIt (fun W => rFits_is ⟨6, a, l, s, d, p, n, o, (kk, kn), t⟩ W);rw [hf] at H0;simp only [reqC] at H0;clear hf;have H1 := hideIt (fun W => lane_is l W);have X0 := hideIt (And.intro (heap_alloc_new w (.cells #[.int .i64 6, .int .i64 a, .int .i64 l, .int .i64 s, .int .i64 d, .int .i64 p, .int .i64 n, .bool o, .int .i64 kk, .int .i64 kn, .int .i64 t] 26)) (below1 w (.cells #[.int .i64 6, .int .i64 a, .int .i64 l, .int .i64 s, .int .i64 d, .int .i64 p, .int .i64 n, .bool o, .int .i64 kk, .int .i64 kn, .int .i64 t] 26)))
 go_enter Tryz.func17, Tryz.ntmps17
 go_wp2_with fail
 refine (H0.out _).mono ?_;rintro e w1 ⟨rfl, hb⟩;dsimp only;have HX := hideIt ((hb.block _ (Array.getElem?_eq_some_iff.1 X0.out.1).1).trans X0.out.1);have HB := hideIt (below_via X0.out.2 hb);obtain ⟨r0, r1, r2, -, -, -, -, -, r8, r9, -⟩ := req_all HX.out;have xz := (Array.getElem?_eq_some_iff.1 HX.out).1;clear hb H0 X0
 go_wp2_with fail
 refine (H1.out _).mono ?_;rintro e w2 ⟨rfl, hb⟩;dsimp only;have HN := hideIt (key_new (ks := [(2, l)]) (cs := #[.int .i64 2, .int .i64 l]) rfl (by simp) (below_via HB.out hb));clear hb H1;go_wp2;go_ret;exact HN.out
set_option maxHeartbeats 8000000 in
set_option maxRecDepth 100000 in
theorem rkey3 (a l s d p n : Int) (o : Bool) (kk kn t : Int) (w : World) (hf : fitsB ⟨3, a, l, s, d, p, n, o, (kk, kn), t⟩ = true) : Calls Tryz.prog 17 #[.agg #[.int .i64 3, .int .i64 a, .int .i64 l, .int .i64 s, .int .i64 d, .int .i64 p, .int .i64 n, .bool o, .int .i64 kk, .int .i64 kn, .int .i64 t]] w (KeyGot ([(1, a), (2, l)]) w) := by
 have H0 := hideIt (fun W => rFits_is ⟨3, a, l, s, d, p, n, o, (kk, kn), t⟩ W);rw [hf] at H0;simp only [reqC] at H0;clear hf;have H1 := hideIt (fun W => account_is a W);have H2 := hideIt (fun W => lane_is l W);have X0 := hideIt (And.intro (heap_alloc_new w (.cells #[.int .i64 3, .int .i64 a, .int .i64 l, .int .i64 s, .int .i64 d, .int .i64 p, .int .i64 n, .bool o, .int .i64 kk, .int .i64 kn, .int .i64 t] 26)) (below1 w (.cells #[.int .i64 3, .int .i64 a, .int .i64 l, .int .i64 s, .int .i64 d, .int .i64 p, .int .i64 n, .bool o, .int .i64 kk, .int .i64 kn, .int .i64 t] 26)))
 go_enter Tryz.func17, Tryz.ntmps17
 go_wp2_with fail
 refine (H0.out _).mono ?_;rintro e w1 ⟨rfl, hb⟩;dsimp only;have HX := hideIt ((hb.block _ (Array.getElem?_eq_some_iff.1 X0.out.1).1).trans X0.out.1);have HB := hideIt (below_via X0.out.2 hb);obtain ⟨r0, r1, r2, -, -, -, -, -, r8, r9, -⟩ := req_all HX.out;have xz := (Array.getElem?_eq_some_iff.1 HX.out).1;clear hb H0 X0
 go_upto_region 10 with fail
 go_region_held3 (fun W => W.cell? ⟨w.heap.size, 1, none⟩ = some (.int .i64 a) ∧ W.cell? ⟨w.heap.size, 2, none⟩ = some (.int .i64 l)) (go_keep) (first | (go_at_call 30; refine (H1.out _).mono ?_; rintro e w2 ⟨rfl, hb⟩; have HB2 := hideIt (below_via (by first | exact HB.out | exact HB.out.drew) hb); have HX2 := hideIt ((hb.block _ xz).trans HX.out); obtain ⟨-, q1, q2, -⟩ := req_all HX2.out; clear H1 hb) | (go_at_call 31; refine (H2.out _).mono ?_; rintro e w3 ⟨rfl, hb⟩; have HB3 := hideIt (below_via HB2.out hb); have HX3 := hideIt ((hb.block _ (Array.getElem?_eq_some_iff.1 HX2.out).1).trans HX2.out); obtain ⟨-, p1, p2, -⟩ := req_all HX3.out; have n3 : w3.heap.size ≠ w.heap.size := (by have := (Array.getElem?_eq_some_iff.1 HX3.out).1; omega); clear H2 hb))
 all_goals go_wp2
 all_goals go_ret
 all_goals exact key_new (ks := [(1, a), (2, l)]) (cs := #[.int .i64 1, .int .i64 a, .int .i64 2, .int .i64 l]) rfl (by simp) HB3.out
set_option maxHeartbeats 8000000 in
set_option maxRecDepth 100000 in
theorem rkey7 (a l s d p n : Int) (o : Bool) (kk kn t : Int) (w : World) (hf : fitsB ⟨7, a, l, s, d, p, n, o, (kk, kn), t⟩ = true) : Calls Tryz.prog 17 #[.agg #[.int .i64 7, .int .i64 a, .int .i64 l, .int .i64 s, .int .i64 d, .int .i64 p, .int .i64 n, .bool o, .int .i64 kk, .int .i64 kn, .int .i64 t]] w (KeyGot ([(1, a), (2, 1), (2, 2), (2, 3)]) w) := by
 have H0 := hideIt (fun W => rFits_is ⟨7, a, l, s, d, p, n, o, (kk, kn), t⟩ W);rw [hf] at H0;simp only [reqC] at H0;clear hf;have H1 := hideIt (fun W => account_is a W);have H2 := hideIt (fun i W => lane_is i W);have X0 := hideIt (And.intro (heap_alloc_new w (.cells #[.int .i64 7, .int .i64 a, .int .i64 l, .int .i64 s, .int .i64 d, .int .i64 p, .int .i64 n, .bool o, .int .i64 kk, .int .i64 kn, .int .i64 t] 26)) (below1 w (.cells #[.int .i64 7, .int .i64 a, .int .i64 l, .int .i64 s, .int .i64 d, .int .i64 p, .int .i64 n, .bool o, .int .i64 kk, .int .i64 kn, .int .i64 t] 26)))
 go_enter Tryz.func17, Tryz.ntmps17
 go_wp2_with fail
 refine (H0.out _).mono ?_;rintro e w1 ⟨rfl, hb⟩;dsimp only;have HX := hideIt ((hb.block _ (Array.getElem?_eq_some_iff.1 X0.out.1).1).trans X0.out.1);have HB := hideIt (below_via X0.out.2 hb);obtain ⟨r0, r1, r2, -, -, -, -, -, r8, r9, -⟩ := req_all HX.out;have xz := (Array.getElem?_eq_some_iff.1 HX.out).1;clear hb H0 X0
 go_wp2_with fail
 refine (H1.out _).mono ?_;rintro e w2 ⟨rfl, hb⟩;dsimp only;have HB2 := hideIt (below_via HB.out hb);clear hb
 go_wp2_with fail
 refine (H2.out 1 _).mono ?_;rintro e w3 ⟨rfl, hb⟩;dsimp only;have HB3 := hideIt (below_via HB2.out hb);clear hb
 go_wp2_with fail
 refine (H2.out 2 _).mono ?_;rintro e w4 ⟨rfl, hb⟩;dsimp only;have HB4 := hideIt (below_via HB3.out hb);clear hb
 go_wp2_with fail
 refine (H2.out 3 _).mono ?_;rintro e w5 ⟨rfl, hb⟩;dsimp only;have HN := hideIt (key_new (ks := [(1, a), (2, 1), (2, 2), (2, 3)]) (cs := #[.int .i64 1, .int .i64 a, .int .i64 2, .int .i64 1, .int .i64 2, .int .i64 2, .int .i64 2, .int .i64 3]) rfl (by simp) (below_via HB4.out hb));clear hb H1 H2;go_wp2;go_ret;exact HN.out
set_option maxHeartbeats 8000000 in
set_option maxRecDepth 100000 in
theorem rkey9 (a l s d p n : Int) (o : Bool) (kk kn t : Int) (w : World) (hf : fitsB ⟨9, a, l, s, d, p, n, o, (kk, kn), t⟩ = true) : Calls Tryz.prog 17 #[.agg #[.int .i64 9, .int .i64 a, .int .i64 l, .int .i64 s, .int .i64 d, .int .i64 p, .int .i64 n, .bool o, .int .i64 kk, .int .i64 kn, .int .i64 t]] w (KeyGot ([(kk, kn)]) w) := by
 have H0 := hideIt (fun W => rFits_is ⟨9, a, l, s, d, p, n, o, (kk, kn), t⟩ W);rw [hf] at H0;simp only [reqC] at H0;clear hf;have X0 := hideIt (And.intro (heap_alloc_new w (.cells #[.int .i64 9, .int .i64 a, .int .i64 l, .int .i64 s, .int .i64 d, .int .i64 p, .int .i64 n, .bool o, .int .i64 kk, .int .i64 kn, .int .i64 t] 26)) (below1 w (.cells #[.int .i64 9, .int .i64 a, .int .i64 l, .int .i64 s, .int .i64 d, .int .i64 p, .int .i64 n, .bool o, .int .i64 kk, .int .i64 kn, .int .i64 t] 26)))
 go_enter Tryz.func17, Tryz.ntmps17
 go_wp2_with fail
 refine (H0.out _).mono ?_;rintro e w1 ⟨rfl, hb⟩;dsimp only;have HX := hideIt ((hb.block _ (Array.getElem?_eq_some_iff.1 X0.out.1).1).trans X0.out.1);have HB := hideIt (below_via X0.out.2 hb);obtain ⟨r0, r1, r2, -, -, -, -, -, r8, r9, -⟩ := req_all HX.out;have xz := (Array.getElem?_eq_some_iff.1 HX.out).1;clear hb H0 X0;have HN := hideIt (key_new (ks := [(kk, kn)]) (cs := #[.int .i64 kk, .int .i64 kn]) rfl (by simp) HB.out);go_wp2;go_ret;exact HN.out
set_option maxHeartbeats 8000000 in
set_option maxRecDepth 100000 in
theorem rKeys_is (r : ReqV) (w : World) : Calls Tryz.prog 17 #[.agg (reqC r)] w (KeyGot (keysB r) w) := by
 cases hf : fitsB r
 ·have hk : keysB r = [] := by
   unfold keysB;rw [if_neg (by simp [hf])]
  rw [hk];have H0 := hideIt (fun W => rFits_is r W);rw [hf] at H0;have X0 := hideIt (below1 w (.cells (reqC r) 26));clear hf hk;obtain ⟨k, a, l, s, d, p, n, o, ⟨kk, kn⟩, t⟩ := r;simp only [reqC] at *
  go_enter Tryz.func17, Tryz.ntmps17
  go_wp2_with fail
  refine (H0.out _).mono ?_;rintro e w1 ⟨rfl, hb⟩;dsimp only;have HB := hideIt (below_via X0.out hb);clear hb X0 H0;go_wp2;go_ret
  exact ⟨none, 0, rfl, SGot.nil _ _ _ _ _ _ (Nat.zero_le _), HB.out⟩
 ·have hk : keysB r = keyT (formK r.kind) r := by
   unfold keysB;rw [if_pos hf]
  obtain ⟨h1, h9⟩ := fits_kind hf;rw [hk];clear hk;obtain ⟨k, a, l, s, d, p, n, o, ⟨kk, kn⟩, t⟩ := r;dsimp only at h1 h9;have : k = 1 ∨ k = 2 ∨ k = 3 ∨ k = 4 ∨ k = 5 ∨ k = 6 ∨ k = 7 ∨ k = 8 ∨ k = 9 := by omega
  rcases this with rfl | rfl | rfl | rfl | rfl | rfl | rfl | rfl | rfl
  ·exact rkey1 a l s d p n o kk kn t w hf
  ·exact rkey2 a l s d p n o kk kn t w hf
  ·exact rkey3 a l s d p n o kk kn t w hf
  ·exact rkey4 a l s d p n o kk kn t w hf
  ·exact rkey5 a l s d p n o kk kn t w hf
  ·exact rkey6 a l s d p n o kk kn t w hf
  ·exact rkey7 a l s d p n o kk kn t w hf
  ·exact rkey8 a l s d p n o kk kn t w hf
  ·exact rkey9 a l s d p n o kk kn t w hf
end Go.Proofs.YtiinigifjdpicaaGreatDoor.Se
