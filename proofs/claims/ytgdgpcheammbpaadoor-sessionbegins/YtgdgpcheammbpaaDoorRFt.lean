/- The document's Fits. -/
import Derived.Test.YtgdgpcheammbpaaDoorFit
namespace Go.Proofs.YtgdgpcheammbpaaDoor
open Go.RowKit
set_option linter.all false
set_option maxHeartbeats 1000000 in
theorem withinR_is (x lo hi : Int) (w : World) : Calls Tryd.prog 29 #[.int .i64 x, .int .i64 lo, .int .i64 hi] w fun e w' => e = .returned (.bool (wiB x lo hi)) ∧ w' = w := by
  unfold wiB
  by_cases h : lo ≤ x
  · go_enter Tryd.func29, Tryd.ntmps29
    go_wp2
    go_ret
    exact ⟨by simp [h], rfl⟩
  · go_enter Tryd.func29, Tryd.ntmps29
    go_wp2
    go_ret
    exact ⟨by rw [decide_eq_false (by omega)]; rfl, rfl⟩
/-- Two requests are the same. -/
def rEqB (x r : ReqV) : Bool := x.kind == r.kind && (x.acct == r.acct && (x.lane == r.lane && (x.asset == r.asset && (x.side == r.side && (x.price == r.price && (x.n == r.n && (x.now == r.now && (x.key.1 == r.key.1 && (x.key.2 == r.key.2 && x.dst == r.dst)))))))))
theorem ifB {c : Prop} [Decidable c] {b B : Bool} {w : World} {X : Result Value} (h : c → X = .ok (.bool B) w) (hb : b = decide c) : (if c then X else .ok (.bool false) w) = .ok (.bool (b && B)) w := by
  subst hb
  by_cases hc : c
  · rw [if_pos hc, h hc, decide_eq_true hc]
    rfl
  · rw [if_neg hc, decide_eq_false hc]
    rfl
set_option maxHeartbeats 2000000 in
theorem eq25 (x r : ReqV) (w : World) : (binOp .eql 25 (.agg (reqC x)) (.agg (reqC r))).run Tryd.prog w = .ok (.bool (rEqB x r)) w := by
  unfold rEqB
  simp only [reqC]
  have hB : ∀ (a b : Int), (a == b) = decide (a = b) := fun a b => by by_cases h : a = b <;> simp [h]
  have hB2 : ∀ (a b : Bool), (a == b) = decide (a = b) := fun a b => by cases a <;> cases b <;> rfl
  simp [go_sem]
  refine ifB (fun _ => ?_) (hB _ _)
  refine ifB (fun _ => ?_) (hB _ _)
  refine ifB (fun _ => ?_) (hB _ _)
  refine ifB (fun _ => ?_) (hB _ _)
  refine ifB (fun _ => ?_) (hB _ _)
  refine ifB (fun _ => ?_) (hB _ _)
  refine ifB (fun _ => ?_) (hB _ _)
  refine ifB (fun _ => ?_) (hB2 _ _)
  refine ifB (fun _ => ?_) (hB _ _)
  refine ifB (fun _ => ?_) (hB _ _)
  by_cases h : x.dst = r.dst <;> simp [h]
set_option maxHeartbeats 8000000 in
set_option maxRecDepth 100000 in
theorem rfit1 (a l s d p n : Int) (o : Bool) (kk kn t : Int) (w : World) : Calls Tryd.prog 12 #[.agg #[.int .i64 1, .int .i64 a, .int .i64 l, .int .i64 s, .int .i64 d, .int .i64 p, .int .i64 n, .bool o, .int .i64 kk, .int .i64 kn, .int .i64 t]] w fun e w' => e = .returned (.bool (wiB a 1 8 && (wiB s 0 3 && (wiB n 1 1000000 && (rEqB ⟨1, a, 0, s, 0, 0, n, false, (0, 0), 0⟩ ⟨1, a, l, s, d, p, n, o, (kk, kn), t⟩))))) ∧ Below w.heap.size w w' := by
  have H1 := hideIt (fun W => withinR_is a 1 8 W)
  have H3 := hideIt (fun W => withinR_is s 0 3 W)
  have H6 := hideIt (fun W => withinR_is n 1 1000000 W)
  have hq : ∀ W, (binOp .eql 25 (.agg #[.int .i64 1, .int .i64 a, .int .i64 0, .int .i64 s, .int .i64 0, .int .i64 0, .int .i64 n, .bool false, .int .i64 0, .int .i64 0, .int .i64 0]) (.agg #[.int .i64 1, .int .i64 a, .int .i64 l, .int .i64 s, .int .i64 d, .int .i64 p, .int .i64 n, .bool o, .int .i64 kk, .int .i64 kn, .int .i64 t])).run Tryd.prog W = .ok (.bool (rEqB ⟨1, a, 0, s, 0, 0, n, false, (0, 0), 0⟩ ⟨1, a, l, s, d, p, n, o, (kk, kn), t⟩)) W := fun W => eq25 ⟨1, a, 0, s, 0, 0, n, false, (0, 0), 0⟩ ⟨1, a, l, s, d, p, n, o, (kk, kn), t⟩ W
  generalize rEqB ⟨1, a, 0, s, 0, 0, n, false, (0, 0), 0⟩ ⟨1, a, l, s, d, p, n, o, (kk, kn), t⟩ = be at *
  generalize wiB a 1 8 = b1 at *
  generalize wiB s 0 3 = b3 at *
  generalize wiB n 1 1000000 = b6 at *
  go_enter Tryd.func12, Tryd.ntmps12
  go_wp2_with fail
  refine (H1.out _).mono ?_
  rintro e w1 ⟨rfl, rfl⟩
  dsimp only
  clear H1
  cases b1
  · go_wp2
    all_goals go_ret
    all_goals exact ⟨by simp, below2 w _ _⟩
  go_wp2_with fail
  refine (H3.out _).mono ?_
  rintro e w1 ⟨rfl, rfl⟩
  dsimp only
  clear H3
  cases b3
  · go_wp2
    all_goals go_ret
    all_goals exact ⟨by simp, below2 w _ _⟩
  go_wp2_with fail
  refine (H6.out _).mono ?_
  rintro e w1 ⟨rfl, rfl⟩
  dsimp only
  clear H6
  cases b6
  · go_wp2
    all_goals go_ret
    all_goals exact ⟨by simp, below2 w _ _⟩
  go_wp2
  all_goals go_ret
  all_goals exact ⟨by simp, below2 w _ _⟩
set_option maxHeartbeats 8000000 in
set_option maxRecDepth 100000 in
theorem rfit2 (a l s d p n : Int) (o : Bool) (kk kn t : Int) (w : World) : Calls Tryd.prog 12 #[.agg #[.int .i64 2, .int .i64 a, .int .i64 l, .int .i64 s, .int .i64 d, .int .i64 p, .int .i64 n, .bool o, .int .i64 kk, .int .i64 kn, .int .i64 t]] w fun e w' => e = .returned (.bool (wiB a 1 8 && (wiB s 0 3 && (wiB n 1 1000000 && (rEqB ⟨2, a, 0, s, 0, 0, n, false, (0, 0), 0⟩ ⟨2, a, l, s, d, p, n, o, (kk, kn), t⟩))))) ∧ Below w.heap.size w w' := by
  have H1 := hideIt (fun W => withinR_is a 1 8 W)
  have H3 := hideIt (fun W => withinR_is s 0 3 W)
  have H6 := hideIt (fun W => withinR_is n 1 1000000 W)
  have hq : ∀ W, (binOp .eql 25 (.agg #[.int .i64 2, .int .i64 a, .int .i64 0, .int .i64 s, .int .i64 0, .int .i64 0, .int .i64 n, .bool false, .int .i64 0, .int .i64 0, .int .i64 0]) (.agg #[.int .i64 2, .int .i64 a, .int .i64 l, .int .i64 s, .int .i64 d, .int .i64 p, .int .i64 n, .bool o, .int .i64 kk, .int .i64 kn, .int .i64 t])).run Tryd.prog W = .ok (.bool (rEqB ⟨2, a, 0, s, 0, 0, n, false, (0, 0), 0⟩ ⟨2, a, l, s, d, p, n, o, (kk, kn), t⟩)) W := fun W => eq25 ⟨2, a, 0, s, 0, 0, n, false, (0, 0), 0⟩ ⟨2, a, l, s, d, p, n, o, (kk, kn), t⟩ W
  generalize rEqB ⟨2, a, 0, s, 0, 0, n, false, (0, 0), 0⟩ ⟨2, a, l, s, d, p, n, o, (kk, kn), t⟩ = be at *
  generalize wiB a 1 8 = b1 at *
  generalize wiB s 0 3 = b3 at *
  generalize wiB n 1 1000000 = b6 at *
  go_enter Tryd.func12, Tryd.ntmps12
  go_wp2_with fail
  refine (H1.out _).mono ?_
  rintro e w1 ⟨rfl, rfl⟩
  dsimp only
  clear H1
  cases b1
  · go_wp2
    all_goals go_ret
    all_goals exact ⟨by simp, below2 w _ _⟩
  go_wp2_with fail
  refine (H3.out _).mono ?_
  rintro e w1 ⟨rfl, rfl⟩
  dsimp only
  clear H3
  cases b3
  · go_wp2
    all_goals go_ret
    all_goals exact ⟨by simp, below2 w _ _⟩
  go_wp2_with fail
  refine (H6.out _).mono ?_
  rintro e w1 ⟨rfl, rfl⟩
  dsimp only
  clear H6
  cases b6
  · go_wp2
    all_goals go_ret
    all_goals exact ⟨by simp, below2 w _ _⟩
  go_wp2
  all_goals go_ret
  all_goals exact ⟨by simp, below2 w _ _⟩
set_option maxHeartbeats 8000000 in
set_option maxRecDepth 100000 in
theorem rfit3 (a l s d p n : Int) (o : Bool) (kk kn t : Int) (w : World) : Calls Tryd.prog 12 #[.agg #[.int .i64 3, .int .i64 a, .int .i64 l, .int .i64 s, .int .i64 d, .int .i64 p, .int .i64 n, .bool o, .int .i64 kk, .int .i64 kn, .int .i64 t]] w fun e w' => e = .returned (.bool (wiB a 1 8 && (wiB l 1 3 && (wiB d 1 2 && (wiB p 1 1000000 && (wiB n 1 1000000 && (rEqB ⟨3, a, l, 0, d, p, n, o, (0, 0), 0⟩ ⟨3, a, l, s, d, p, n, o, (kk, kn), t⟩))))))) ∧ Below w.heap.size w w' := by
  have H1 := hideIt (fun W => withinR_is a 1 8 W)
  have H2 := hideIt (fun W => withinR_is l 1 3 W)
  have H4 := hideIt (fun W => withinR_is d 1 2 W)
  have H5 := hideIt (fun W => withinR_is p 1 1000000 W)
  have H6 := hideIt (fun W => withinR_is n 1 1000000 W)
  have hq : ∀ W, (binOp .eql 25 (.agg #[.int .i64 3, .int .i64 a, .int .i64 l, .int .i64 0, .int .i64 d, .int .i64 p, .int .i64 n, .bool o, .int .i64 0, .int .i64 0, .int .i64 0]) (.agg #[.int .i64 3, .int .i64 a, .int .i64 l, .int .i64 s, .int .i64 d, .int .i64 p, .int .i64 n, .bool o, .int .i64 kk, .int .i64 kn, .int .i64 t])).run Tryd.prog W = .ok (.bool (rEqB ⟨3, a, l, 0, d, p, n, o, (0, 0), 0⟩ ⟨3, a, l, s, d, p, n, o, (kk, kn), t⟩)) W := fun W => eq25 ⟨3, a, l, 0, d, p, n, o, (0, 0), 0⟩ ⟨3, a, l, s, d, p, n, o, (kk, kn), t⟩ W
  generalize rEqB ⟨3, a, l, 0, d, p, n, o, (0, 0), 0⟩ ⟨3, a, l, s, d, p, n, o, (kk, kn), t⟩ = be at *
  generalize wiB a 1 8 = b1 at *
  generalize wiB l 1 3 = b2 at *
  generalize wiB d 1 2 = b4 at *
  generalize wiB p 1 1000000 = b5 at *
  generalize wiB n 1 1000000 = b6 at *
  go_enter Tryd.func12, Tryd.ntmps12
  go_wp2_with fail
  refine (H1.out _).mono ?_
  rintro e w1 ⟨rfl, rfl⟩
  dsimp only
  clear H1
  cases b1
  · go_wp2
    all_goals go_ret
    all_goals exact ⟨by simp, below2 w _ _⟩
  go_wp2_with fail
  refine (H2.out _).mono ?_
  rintro e w1 ⟨rfl, rfl⟩
  dsimp only
  clear H2
  cases b2
  · go_wp2
    all_goals go_ret
    all_goals exact ⟨by simp, below2 w _ _⟩
  go_wp2_with fail
  refine (H4.out _).mono ?_
  rintro e w1 ⟨rfl, rfl⟩
  dsimp only
  clear H4
  cases b4
  · go_wp2
    all_goals go_ret
    all_goals exact ⟨by simp, below2 w _ _⟩
  go_wp2_with fail
  refine (H5.out _).mono ?_
  rintro e w1 ⟨rfl, rfl⟩
  dsimp only
  clear H5
  cases b5
  · go_wp2
    all_goals go_ret
    all_goals exact ⟨by simp, below2 w _ _⟩
  go_wp2_with fail
  refine (H6.out _).mono ?_
  rintro e w1 ⟨rfl, rfl⟩
  dsimp only
  clear H6
  cases b6
  · go_wp2
    all_goals go_ret
    all_goals exact ⟨by simp, below2 w _ _⟩
  go_wp2
  all_goals go_ret
  all_goals exact ⟨by simp, below2 w _ _⟩
set_option maxHeartbeats 8000000 in
set_option maxRecDepth 100000 in
theorem rfit4 (a l s d p n : Int) (o : Bool) (kk kn t : Int) (w : World) : Calls Tryd.prog 12 #[.agg #[.int .i64 4, .int .i64 a, .int .i64 l, .int .i64 s, .int .i64 d, .int .i64 p, .int .i64 n, .bool o, .int .i64 kk, .int .i64 kn, .int .i64 t]] w fun e w' => e = .returned (.bool (wiB a 1 8 && (wiB l 1 3 && (wiB n 1 1000000 && (rEqB ⟨4, a, l, 0, 0, 0, n, false, (0, 0), 0⟩ ⟨4, a, l, s, d, p, n, o, (kk, kn), t⟩))))) ∧ Below w.heap.size w w' := by
  have H1 := hideIt (fun W => withinR_is a 1 8 W)
  have H2 := hideIt (fun W => withinR_is l 1 3 W)
  have H6 := hideIt (fun W => withinR_is n 1 1000000 W)
  have hq : ∀ W, (binOp .eql 25 (.agg #[.int .i64 4, .int .i64 a, .int .i64 l, .int .i64 0, .int .i64 0, .int .i64 0, .int .i64 n, .bool false, .int .i64 0, .int .i64 0, .int .i64 0]) (.agg #[.int .i64 4, .int .i64 a, .int .i64 l, .int .i64 s, .int .i64 d, .int .i64 p, .int .i64 n, .bool o, .int .i64 kk, .int .i64 kn, .int .i64 t])).run Tryd.prog W = .ok (.bool (rEqB ⟨4, a, l, 0, 0, 0, n, false, (0, 0), 0⟩ ⟨4, a, l, s, d, p, n, o, (kk, kn), t⟩)) W := fun W => eq25 ⟨4, a, l, 0, 0, 0, n, false, (0, 0), 0⟩ ⟨4, a, l, s, d, p, n, o, (kk, kn), t⟩ W
  generalize rEqB ⟨4, a, l, 0, 0, 0, n, false, (0, 0), 0⟩ ⟨4, a, l, s, d, p, n, o, (kk, kn), t⟩ = be at *
  generalize wiB a 1 8 = b1 at *
  generalize wiB l 1 3 = b2 at *
  generalize wiB n 1 1000000 = b6 at *
  go_enter Tryd.func12, Tryd.ntmps12
  go_wp2_with fail
  refine (H1.out _).mono ?_
  rintro e w1 ⟨rfl, rfl⟩
  dsimp only
  clear H1
  cases b1
  · go_wp2
    all_goals go_ret
    all_goals exact ⟨by simp, below2 w _ _⟩
  go_wp2_with fail
  refine (H2.out _).mono ?_
  rintro e w1 ⟨rfl, rfl⟩
  dsimp only
  clear H2
  cases b2
  · go_wp2
    all_goals go_ret
    all_goals exact ⟨by simp, below2 w _ _⟩
  go_wp2_with fail
  refine (H6.out _).mono ?_
  rintro e w1 ⟨rfl, rfl⟩
  dsimp only
  clear H6
  cases b6
  · go_wp2
    all_goals go_ret
    all_goals exact ⟨by simp, below2 w _ _⟩
  go_wp2
  all_goals go_ret
  all_goals exact ⟨by simp, below2 w _ _⟩
set_option maxHeartbeats 8000000 in
set_option maxRecDepth 100000 in
theorem rfit5 (a l s d p n : Int) (o : Bool) (kk kn t : Int) (w : World) : Calls Tryd.prog 12 #[.agg #[.int .i64 5, .int .i64 a, .int .i64 l, .int .i64 s, .int .i64 d, .int .i64 p, .int .i64 n, .bool o, .int .i64 kk, .int .i64 kn, .int .i64 t]] w fun e w' => e = .returned (.bool (wiB l 1 3 && (rEqB ⟨5, 0, l, 0, 0, 0, 0, false, (0, 0), 0⟩ ⟨5, a, l, s, d, p, n, o, (kk, kn), t⟩))) ∧ Below w.heap.size w w' := by
  have H2 := hideIt (fun W => withinR_is l 1 3 W)
  have hq : ∀ W, (binOp .eql 25 (.agg #[.int .i64 5, .int .i64 0, .int .i64 l, .int .i64 0, .int .i64 0, .int .i64 0, .int .i64 0, .bool false, .int .i64 0, .int .i64 0, .int .i64 0]) (.agg #[.int .i64 5, .int .i64 a, .int .i64 l, .int .i64 s, .int .i64 d, .int .i64 p, .int .i64 n, .bool o, .int .i64 kk, .int .i64 kn, .int .i64 t])).run Tryd.prog W = .ok (.bool (rEqB ⟨5, 0, l, 0, 0, 0, 0, false, (0, 0), 0⟩ ⟨5, a, l, s, d, p, n, o, (kk, kn), t⟩)) W := fun W => eq25 ⟨5, 0, l, 0, 0, 0, 0, false, (0, 0), 0⟩ ⟨5, a, l, s, d, p, n, o, (kk, kn), t⟩ W
  generalize rEqB ⟨5, 0, l, 0, 0, 0, 0, false, (0, 0), 0⟩ ⟨5, a, l, s, d, p, n, o, (kk, kn), t⟩ = be at *
  generalize wiB l 1 3 = b2 at *
  go_enter Tryd.func12, Tryd.ntmps12
  go_wp2_with fail
  refine (H2.out _).mono ?_
  rintro e w1 ⟨rfl, rfl⟩
  dsimp only
  clear H2
  cases b2
  · go_wp2
    all_goals go_ret
    all_goals exact ⟨by simp, below2 w _ _⟩
  go_wp2
  all_goals go_ret
  all_goals exact ⟨by simp, below2 w _ _⟩
set_option maxHeartbeats 8000000 in
set_option maxRecDepth 100000 in
theorem rfit6 (a l s d p n : Int) (o : Bool) (kk kn t : Int) (w : World) : Calls Tryd.prog 12 #[.agg #[.int .i64 6, .int .i64 a, .int .i64 l, .int .i64 s, .int .i64 d, .int .i64 p, .int .i64 n, .bool o, .int .i64 kk, .int .i64 kn, .int .i64 t]] w fun e w' => e = .returned (.bool (wiB l 1 3 && (rEqB ⟨6, 0, l, 0, 0, 0, 0, false, (0, 0), 0⟩ ⟨6, a, l, s, d, p, n, o, (kk, kn), t⟩))) ∧ Below w.heap.size w w' := by
  have H2 := hideIt (fun W => withinR_is l 1 3 W)
  have hq : ∀ W, (binOp .eql 25 (.agg #[.int .i64 6, .int .i64 0, .int .i64 l, .int .i64 0, .int .i64 0, .int .i64 0, .int .i64 0, .bool false, .int .i64 0, .int .i64 0, .int .i64 0]) (.agg #[.int .i64 6, .int .i64 a, .int .i64 l, .int .i64 s, .int .i64 d, .int .i64 p, .int .i64 n, .bool o, .int .i64 kk, .int .i64 kn, .int .i64 t])).run Tryd.prog W = .ok (.bool (rEqB ⟨6, 0, l, 0, 0, 0, 0, false, (0, 0), 0⟩ ⟨6, a, l, s, d, p, n, o, (kk, kn), t⟩)) W := fun W => eq25 ⟨6, 0, l, 0, 0, 0, 0, false, (0, 0), 0⟩ ⟨6, a, l, s, d, p, n, o, (kk, kn), t⟩ W
  generalize rEqB ⟨6, 0, l, 0, 0, 0, 0, false, (0, 0), 0⟩ ⟨6, a, l, s, d, p, n, o, (kk, kn), t⟩ = be at *
  generalize wiB l 1 3 = b2 at *
  go_enter Tryd.func12, Tryd.ntmps12
  go_wp2_with fail
  refine (H2.out _).mono ?_
  rintro e w1 ⟨rfl, rfl⟩
  dsimp only
  clear H2
  cases b2
  · go_wp2
    all_goals go_ret
    all_goals exact ⟨by simp, below2 w _ _⟩
  go_wp2
  all_goals go_ret
  all_goals exact ⟨by simp, below2 w _ _⟩
set_option maxHeartbeats 8000000 in
set_option maxRecDepth 100000 in
theorem rfit7 (a l s d p n : Int) (o : Bool) (kk kn t : Int) (w : World) : Calls Tryd.prog 12 #[.agg #[.int .i64 7, .int .i64 a, .int .i64 l, .int .i64 s, .int .i64 d, .int .i64 p, .int .i64 n, .bool o, .int .i64 kk, .int .i64 kn, .int .i64 t]] w fun e w' => e = .returned (.bool (wiB a 1 8 && (rEqB ⟨7, a, 0, 0, 0, 0, 0, false, (0, 0), 0⟩ ⟨7, a, l, s, d, p, n, o, (kk, kn), t⟩))) ∧ Below w.heap.size w w' := by
  have H1 := hideIt (fun W => withinR_is a 1 8 W)
  have hq : ∀ W, (binOp .eql 25 (.agg #[.int .i64 7, .int .i64 a, .int .i64 0, .int .i64 0, .int .i64 0, .int .i64 0, .int .i64 0, .bool false, .int .i64 0, .int .i64 0, .int .i64 0]) (.agg #[.int .i64 7, .int .i64 a, .int .i64 l, .int .i64 s, .int .i64 d, .int .i64 p, .int .i64 n, .bool o, .int .i64 kk, .int .i64 kn, .int .i64 t])).run Tryd.prog W = .ok (.bool (rEqB ⟨7, a, 0, 0, 0, 0, 0, false, (0, 0), 0⟩ ⟨7, a, l, s, d, p, n, o, (kk, kn), t⟩)) W := fun W => eq25 ⟨7, a, 0, 0, 0, 0, 0, false, (0, 0), 0⟩ ⟨7, a, l, s, d, p, n, o, (kk, kn), t⟩ W
  generalize rEqB ⟨7, a, 0, 0, 0, 0, 0, false, (0, 0), 0⟩ ⟨7, a, l, s, d, p, n, o, (kk, kn), t⟩ = be at *
  generalize wiB a 1 8 = b1 at *
  go_enter Tryd.func12, Tryd.ntmps12
  go_wp2_with fail
  refine (H1.out _).mono ?_
  rintro e w1 ⟨rfl, rfl⟩
  dsimp only
  clear H1
  cases b1
  · go_wp2
    all_goals go_ret
    all_goals exact ⟨by simp, below2 w _ _⟩
  go_wp2
  all_goals go_ret
  all_goals exact ⟨by simp, below2 w _ _⟩
set_option maxHeartbeats 8000000 in
set_option maxRecDepth 100000 in
theorem rfit8 (a l s d p n : Int) (o : Bool) (kk kn t : Int) (w : World) : Calls Tryd.prog 12 #[.agg #[.int .i64 8, .int .i64 a, .int .i64 l, .int .i64 s, .int .i64 d, .int .i64 p, .int .i64 n, .bool o, .int .i64 kk, .int .i64 kn, .int .i64 t]] w fun e w' => e = .returned (.bool (wiB a 1 8 && (rEqB ⟨8, a, 0, 0, 0, 0, 0, false, (0, 0), 0⟩ ⟨8, a, l, s, d, p, n, o, (kk, kn), t⟩))) ∧ Below w.heap.size w w' := by
  have H1 := hideIt (fun W => withinR_is a 1 8 W)
  have hq : ∀ W, (binOp .eql 25 (.agg #[.int .i64 8, .int .i64 a, .int .i64 0, .int .i64 0, .int .i64 0, .int .i64 0, .int .i64 0, .bool false, .int .i64 0, .int .i64 0, .int .i64 0]) (.agg #[.int .i64 8, .int .i64 a, .int .i64 l, .int .i64 s, .int .i64 d, .int .i64 p, .int .i64 n, .bool o, .int .i64 kk, .int .i64 kn, .int .i64 t])).run Tryd.prog W = .ok (.bool (rEqB ⟨8, a, 0, 0, 0, 0, 0, false, (0, 0), 0⟩ ⟨8, a, l, s, d, p, n, o, (kk, kn), t⟩)) W := fun W => eq25 ⟨8, a, 0, 0, 0, 0, 0, false, (0, 0), 0⟩ ⟨8, a, l, s, d, p, n, o, (kk, kn), t⟩ W
  generalize rEqB ⟨8, a, 0, 0, 0, 0, 0, false, (0, 0), 0⟩ ⟨8, a, l, s, d, p, n, o, (kk, kn), t⟩ = be at *
  generalize wiB a 1 8 = b1 at *
  go_enter Tryd.func12, Tryd.ntmps12
  go_wp2_with fail
  refine (H1.out _).mono ?_
  rintro e w1 ⟨rfl, rfl⟩
  dsimp only
  clear H1
  cases b1
  · go_wp2
    all_goals go_ret
    all_goals exact ⟨by simp, below2 w _ _⟩
  go_wp2
  all_goals go_ret
  all_goals exact ⟨by simp, below2 w _ _⟩
end Go.Proofs.YtgdgpcheammbpaaDoor
