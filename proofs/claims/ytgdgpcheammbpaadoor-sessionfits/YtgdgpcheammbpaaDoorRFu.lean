/- The document's Fits, together. -/
import Derived.Test.YtgdgpcheammbpaaDoorRFt
import Derived.Test.YtgdgpcheammbpaaDoorKyW
namespace Go.Proofs.YtgdgpcheammbpaaDoor
open Go.RowKit
set_option linter.all false
set_option maxHeartbeats 8000000 in
set_option maxRecDepth 100000 in
theorem rfit9 (a l s d p n : Int) (o : Bool) (kk kn t : Int) (w : World) : Calls Tryd.prog 12 #[.agg #[.int .i64 9, .int .i64 a, .int .i64 l, .int .i64 s, .int .i64 d, .int .i64 p, .int .i64 n, .bool o, .int .i64 kk, .int .i64 kn, .int .i64 t]] w fun e w' => e = .returned (.bool (keyB (kk, kn) && (wiB t 0 3 && rEqB ⟨9, 0, 0, 0, 0, 0, 0, false, (kk, kn), t⟩ ⟨9, a, l, s, d, p, n, o, (kk, kn), t⟩))) ∧ Below w.heap.size w w' := by
  have H1 := hideIt (fun W => rKey_is kk kn W)
  have H2 := hideIt (fun W => withinR_is t 0 3 W)
  have X0 := hideIt (two_heap w (.cells #[.int .i64 9, .int .i64 a, .int .i64 l, .int .i64 s, .int .i64 d, .int .i64 p, .int .i64 n, .bool o, .int .i64 kk, .int .i64 kn, .int .i64 t] 25) (.cells #[.int .i64 9, .int .i64 0, .int .i64 0, .int .i64 0, .int .i64 0, .int .i64 0, .int .i64 0, .bool false, .int .i64 kk, .int .i64 kn, .int .i64 t] 25))
  have B0 := hideIt (below2 w (.cells #[.int .i64 9, .int .i64 a, .int .i64 l, .int .i64 s, .int .i64 d, .int .i64 p, .int .i64 n, .bool o, .int .i64 kk, .int .i64 kn, .int .i64 t] 25) (.cells #[.int .i64 9, .int .i64 0, .int .i64 0, .int .i64 0, .int .i64 0, .int .i64 0, .int .i64 0, .bool false, .int .i64 kk, .int .i64 kn, .int .i64 t] 25))
  have hq : ∀ W, (binOp .eql 25 (.agg #[.int .i64 9, .int .i64 0, .int .i64 0, .int .i64 0, .int .i64 0, .int .i64 0, .int .i64 0, .bool false, .int .i64 kk, .int .i64 kn, .int .i64 t]) (.agg #[.int .i64 9, .int .i64 a, .int .i64 l, .int .i64 s, .int .i64 d, .int .i64 p, .int .i64 n, .bool o, .int .i64 kk, .int .i64 kn, .int .i64 t])).run Tryd.prog W = .ok (.bool (rEqB ⟨9, 0, 0, 0, 0, 0, 0, false, (kk, kn), t⟩ ⟨9, a, l, s, d, p, n, o, (kk, kn), t⟩)) W := fun W => eq25 ⟨9, 0, 0, 0, 0, 0, 0, false, (kk, kn), t⟩ ⟨9, a, l, s, d, p, n, o, (kk, kn), t⟩ W
  generalize rEqB ⟨9, 0, 0, 0, 0, 0, 0, false, (kk, kn), t⟩ ⟨9, a, l, s, d, p, n, o, (kk, kn), t⟩ = be at *
  generalize keyB (kk, kn) = b1 at *
  generalize wiB t 0 3 = b2 at *
  go_enter Tryd.func12, Tryd.ntmps12
  go_wp2_with fail
  refine (H1.out _).mono ?_
  rintro e w1 ⟨rfl, hb⟩
  dsimp only
  obtain ⟨r0, r1, r2, r3, r4, r5, r6, r7, r8, r9, r10⟩ := req_all ((hb.block w.heap.size (by rw [X0.out.2.2]; omega)).trans X0.out.1)
  obtain ⟨y0, y1, y2, y3, y4, y5, y6, y7, y8, y9, y10⟩ := req_all ((hb.block (w.heap.size + 1) (by rw [X0.out.2.2]; omega)).trans X0.out.2.1)
  have HB := hideIt (below_via B0.out hb)
  clear hb B0 X0 H1
  cases b1
  · go_wp2
    all_goals go_ret
    all_goals exact ⟨by simp, HB.out⟩
  go_wp2_with fail
  refine (H2.out _).mono ?_
  rintro e w1 ⟨rfl, rfl⟩
  dsimp only
  clear H2
  cases b2
  · go_wp2
    all_goals go_ret
    all_goals exact ⟨by simp, HB.out⟩
  go_wp2
  all_goals go_ret
  all_goals exact ⟨by simp, HB.out⟩
set_option maxHeartbeats 8000000 in
set_option maxRecDepth 100000 in
theorem rfit0 (k a l s d p n : Int) (o : Bool) (kk kn t : Int) (w : World) (h : ¬ (1 ≤ k ∧ k ≤ 9)) : Calls Tryd.prog 12 #[.agg #[.int .i64 k, .int .i64 a, .int .i64 l, .int .i64 s, .int .i64 d, .int .i64 p, .int .i64 n, .bool o, .int .i64 kk, .int .i64 kn, .int .i64 t]] w fun e w' => e = .returned (.bool false) ∧ Below w.heap.size w w' := by
  have h1 : ¬ k = 1 := by omega
  have h2 : ¬ k = 2 := by omega
  have h3 : ¬ k = 3 := by omega
  have h4 : ¬ k = 4 := by omega
  have h5 : ¬ k = 5 := by omega
  have h6 : ¬ k = 6 := by omega
  have h7 : ¬ k = 7 := by omega
  have h8 : ¬ k = 8 := by omega
  have h9 : ¬ k = 9 := by omega
  clear h
  go_enter Tryd.func12, Tryd.ntmps12
  go_wp2
  all_goals go_ret
  all_goals exact ⟨rfl, below2 w _ _⟩
theorem fitk1 (a l s d p n : Int) (o : Bool) (kk kn t : Int) : (wiB a 1 8 && (wiB s 0 3 && (wiB n 1 1000000 && (rEqB ⟨1, a, 0, s, 0, 0, n, false, (0, 0), 0⟩ ⟨1, a, l, s, d, p, n, o, (kk, kn), t⟩)))) = fitsB ⟨1, a, l, s, d, p, n, o, (kk, kn), t⟩ := by
  have hf : formF 1 = 37 := rfl
  have hw : wiB 1 1 9 = true := rfl
  unfold fitsB rEqB
  dsimp only
  rw [hf, hw]
  rw [show bits .and .i64 37 1 = 1 by kernel_rfl]
  rw [show bits .and .i64 37 2 = 0 by kernel_rfl]
  rw [show bits .and .i64 37 4 = 4 by kernel_rfl]
  rw [show bits .and .i64 37 8 = 0 by kernel_rfl]
  rw [show bits .and .i64 37 16 = 0 by kernel_rfl]
  rw [show bits .and .i64 37 32 = 32 by kernel_rfl]
  rw [show bits .and .i64 37 64 = 0 by kernel_rfl]
  rw [show bits .and .i64 37 128 = 0 by kernel_rfl]
  rw [show bits .and .i64 37 256 = 0 by kernel_rfl]
  unfold fitB fitK
  rw [Bool.eq_iff_iff]
  simp
  all_goals grind
theorem fitk2 (a l s d p n : Int) (o : Bool) (kk kn t : Int) : (wiB a 1 8 && (wiB s 0 3 && (wiB n 1 1000000 && (rEqB ⟨2, a, 0, s, 0, 0, n, false, (0, 0), 0⟩ ⟨2, a, l, s, d, p, n, o, (kk, kn), t⟩)))) = fitsB ⟨2, a, l, s, d, p, n, o, (kk, kn), t⟩ := by
  have hf : formF 2 = 37 := rfl
  have hw : wiB 2 1 9 = true := rfl
  unfold fitsB rEqB
  dsimp only
  rw [hf, hw]
  rw [show bits .and .i64 37 1 = 1 by kernel_rfl]
  rw [show bits .and .i64 37 2 = 0 by kernel_rfl]
  rw [show bits .and .i64 37 4 = 4 by kernel_rfl]
  rw [show bits .and .i64 37 8 = 0 by kernel_rfl]
  rw [show bits .and .i64 37 16 = 0 by kernel_rfl]
  rw [show bits .and .i64 37 32 = 32 by kernel_rfl]
  rw [show bits .and .i64 37 64 = 0 by kernel_rfl]
  rw [show bits .and .i64 37 128 = 0 by kernel_rfl]
  rw [show bits .and .i64 37 256 = 0 by kernel_rfl]
  unfold fitB fitK
  rw [Bool.eq_iff_iff]
  simp
  all_goals grind
theorem fitk3 (a l s d p n : Int) (o : Bool) (kk kn t : Int) : (wiB a 1 8 && (wiB l 1 3 && (wiB d 1 2 && (wiB p 1 1000000 && (wiB n 1 1000000 && (rEqB ⟨3, a, l, 0, d, p, n, o, (0, 0), 0⟩ ⟨3, a, l, s, d, p, n, o, (kk, kn), t⟩)))))) = fitsB ⟨3, a, l, s, d, p, n, o, (kk, kn), t⟩ := by
  have hf : formF 3 = 123 := rfl
  have hw : wiB 3 1 9 = true := rfl
  unfold fitsB rEqB
  dsimp only
  rw [hf, hw]
  rw [show bits .and .i64 123 1 = 1 by kernel_rfl]
  rw [show bits .and .i64 123 2 = 2 by kernel_rfl]
  rw [show bits .and .i64 123 4 = 0 by kernel_rfl]
  rw [show bits .and .i64 123 8 = 8 by kernel_rfl]
  rw [show bits .and .i64 123 16 = 16 by kernel_rfl]
  rw [show bits .and .i64 123 32 = 32 by kernel_rfl]
  rw [show bits .and .i64 123 64 = 64 by kernel_rfl]
  rw [show bits .and .i64 123 128 = 0 by kernel_rfl]
  rw [show bits .and .i64 123 256 = 0 by kernel_rfl]
  unfold fitB fitK
  rw [Bool.eq_iff_iff]
  simp
  all_goals grind
theorem fitk4 (a l s d p n : Int) (o : Bool) (kk kn t : Int) : (wiB a 1 8 && (wiB l 1 3 && (wiB n 1 1000000 && (rEqB ⟨4, a, l, 0, 0, 0, n, false, (0, 0), 0⟩ ⟨4, a, l, s, d, p, n, o, (kk, kn), t⟩)))) = fitsB ⟨4, a, l, s, d, p, n, o, (kk, kn), t⟩ := by
  have hf : formF 4 = 35 := rfl
  have hw : wiB 4 1 9 = true := rfl
  unfold fitsB rEqB
  dsimp only
  rw [hf, hw]
  rw [show bits .and .i64 35 1 = 1 by kernel_rfl]
  rw [show bits .and .i64 35 2 = 2 by kernel_rfl]
  rw [show bits .and .i64 35 4 = 0 by kernel_rfl]
  rw [show bits .and .i64 35 8 = 0 by kernel_rfl]
  rw [show bits .and .i64 35 16 = 0 by kernel_rfl]
  rw [show bits .and .i64 35 32 = 32 by kernel_rfl]
  rw [show bits .and .i64 35 64 = 0 by kernel_rfl]
  rw [show bits .and .i64 35 128 = 0 by kernel_rfl]
  rw [show bits .and .i64 35 256 = 0 by kernel_rfl]
  unfold fitB fitK
  rw [Bool.eq_iff_iff]
  simp
  all_goals grind
theorem fitk5 (a l s d p n : Int) (o : Bool) (kk kn t : Int) : (wiB l 1 3 && (rEqB ⟨5, 0, l, 0, 0, 0, 0, false, (0, 0), 0⟩ ⟨5, a, l, s, d, p, n, o, (kk, kn), t⟩)) = fitsB ⟨5, a, l, s, d, p, n, o, (kk, kn), t⟩ := by
  have hf : formF 5 = 2 := rfl
  have hw : wiB 5 1 9 = true := rfl
  unfold fitsB rEqB
  dsimp only
  rw [hf, hw]
  rw [show bits .and .i64 2 1 = 0 by kernel_rfl]
  rw [show bits .and .i64 2 2 = 2 by kernel_rfl]
  rw [show bits .and .i64 2 4 = 0 by kernel_rfl]
  rw [show bits .and .i64 2 8 = 0 by kernel_rfl]
  rw [show bits .and .i64 2 16 = 0 by kernel_rfl]
  rw [show bits .and .i64 2 32 = 0 by kernel_rfl]
  rw [show bits .and .i64 2 64 = 0 by kernel_rfl]
  rw [show bits .and .i64 2 128 = 0 by kernel_rfl]
  rw [show bits .and .i64 2 256 = 0 by kernel_rfl]
  unfold fitB fitK
  rw [Bool.eq_iff_iff]
  simp
  all_goals grind
theorem fitk6 (a l s d p n : Int) (o : Bool) (kk kn t : Int) : (wiB l 1 3 && (rEqB ⟨6, 0, l, 0, 0, 0, 0, false, (0, 0), 0⟩ ⟨6, a, l, s, d, p, n, o, (kk, kn), t⟩)) = fitsB ⟨6, a, l, s, d, p, n, o, (kk, kn), t⟩ := by
  have hf : formF 6 = 2 := rfl
  have hw : wiB 6 1 9 = true := rfl
  unfold fitsB rEqB
  dsimp only
  rw [hf, hw]
  rw [show bits .and .i64 2 1 = 0 by kernel_rfl]
  rw [show bits .and .i64 2 2 = 2 by kernel_rfl]
  rw [show bits .and .i64 2 4 = 0 by kernel_rfl]
  rw [show bits .and .i64 2 8 = 0 by kernel_rfl]
  rw [show bits .and .i64 2 16 = 0 by kernel_rfl]
  rw [show bits .and .i64 2 32 = 0 by kernel_rfl]
  rw [show bits .and .i64 2 64 = 0 by kernel_rfl]
  rw [show bits .and .i64 2 128 = 0 by kernel_rfl]
  rw [show bits .and .i64 2 256 = 0 by kernel_rfl]
  unfold fitB fitK
  rw [Bool.eq_iff_iff]
  simp
  all_goals grind
theorem fitk7 (a l s d p n : Int) (o : Bool) (kk kn t : Int) : (wiB a 1 8 && (rEqB ⟨7, a, 0, 0, 0, 0, 0, false, (0, 0), 0⟩ ⟨7, a, l, s, d, p, n, o, (kk, kn), t⟩)) = fitsB ⟨7, a, l, s, d, p, n, o, (kk, kn), t⟩ := by
  have hf : formF 7 = 1 := rfl
  have hw : wiB 7 1 9 = true := rfl
  unfold fitsB rEqB
  dsimp only
  rw [hf, hw]
  rw [show bits .and .i64 1 1 = 1 by kernel_rfl]
  rw [show bits .and .i64 1 2 = 0 by kernel_rfl]
  rw [show bits .and .i64 1 4 = 0 by kernel_rfl]
  rw [show bits .and .i64 1 8 = 0 by kernel_rfl]
  rw [show bits .and .i64 1 16 = 0 by kernel_rfl]
  rw [show bits .and .i64 1 32 = 0 by kernel_rfl]
  rw [show bits .and .i64 1 64 = 0 by kernel_rfl]
  rw [show bits .and .i64 1 128 = 0 by kernel_rfl]
  rw [show bits .and .i64 1 256 = 0 by kernel_rfl]
  unfold fitB fitK
  rw [Bool.eq_iff_iff]
  simp
  all_goals grind
theorem fitk8 (a l s d p n : Int) (o : Bool) (kk kn t : Int) : (wiB a 1 8 && (rEqB ⟨8, a, 0, 0, 0, 0, 0, false, (0, 0), 0⟩ ⟨8, a, l, s, d, p, n, o, (kk, kn), t⟩)) = fitsB ⟨8, a, l, s, d, p, n, o, (kk, kn), t⟩ := by
  have hf : formF 8 = 1 := rfl
  have hw : wiB 8 1 9 = true := rfl
  unfold fitsB rEqB
  dsimp only
  rw [hf, hw]
  rw [show bits .and .i64 1 1 = 1 by kernel_rfl]
  rw [show bits .and .i64 1 2 = 0 by kernel_rfl]
  rw [show bits .and .i64 1 4 = 0 by kernel_rfl]
  rw [show bits .and .i64 1 8 = 0 by kernel_rfl]
  rw [show bits .and .i64 1 16 = 0 by kernel_rfl]
  rw [show bits .and .i64 1 32 = 0 by kernel_rfl]
  rw [show bits .and .i64 1 64 = 0 by kernel_rfl]
  rw [show bits .and .i64 1 128 = 0 by kernel_rfl]
  rw [show bits .and .i64 1 256 = 0 by kernel_rfl]
  unfold fitB fitK
  rw [Bool.eq_iff_iff]
  simp
  all_goals grind
theorem fitk9 (a l s d p n : Int) (o : Bool) (kk kn t : Int) : (keyB (kk, kn) && (wiB t 0 3 && rEqB ⟨9, 0, 0, 0, 0, 0, 0, false, (kk, kn), t⟩ ⟨9, a, l, s, d, p, n, o, (kk, kn), t⟩)) = fitsB ⟨9, a, l, s, d, p, n, o, (kk, kn), t⟩ := by
  have hf : formF 9 = 384 := rfl
  have hw : wiB 9 1 9 = true := rfl
  unfold fitsB rEqB
  dsimp only
  rw [hf, hw]
  rw [show bits .and .i64 384 1 = 0 by kernel_rfl]
  rw [show bits .and .i64 384 2 = 0 by kernel_rfl]
  rw [show bits .and .i64 384 4 = 0 by kernel_rfl]
  rw [show bits .and .i64 384 8 = 0 by kernel_rfl]
  rw [show bits .and .i64 384 16 = 0 by kernel_rfl]
  rw [show bits .and .i64 384 32 = 0 by kernel_rfl]
  rw [show bits .and .i64 384 64 = 0 by kernel_rfl]
  rw [show bits .and .i64 384 128 = 128 by kernel_rfl]
  rw [show bits .and .i64 384 256 = 256 by kernel_rfl]
  unfold fitB fitK
  rw [Bool.eq_iff_iff]
  simp
  all_goals grind
theorem rFits_is (r : ReqV) (w : World) : Calls Tryd.prog 12 #[.agg (reqC r)] w fun e w' => e = .returned (.bool (fitsB r)) ∧ Below w.heap.size w w' := by
  obtain ⟨k, a, l, s, d, p, n, o, ⟨kk, kn⟩, t⟩ := r
  by_cases h : 1 ≤ k ∧ k ≤ 9
  · have : k = 1 ∨ k = 2 ∨ k = 3 ∨ k = 4 ∨ k = 5 ∨ k = 6 ∨ k = 7 ∨ k = 8 ∨ k = 9 := by omega
    rcases this with rfl | rfl | rfl | rfl | rfl | rfl | rfl | rfl | rfl
    · rw [← fitk1]
      exact rfit1 a l s d p n o kk kn t w
    · rw [← fitk2]
      exact rfit2 a l s d p n o kk kn t w
    · rw [← fitk3]
      exact rfit3 a l s d p n o kk kn t w
    · rw [← fitk4]
      exact rfit4 a l s d p n o kk kn t w
    · rw [← fitk5]
      exact rfit5 a l s d p n o kk kn t w
    · rw [← fitk6]
      exact rfit6 a l s d p n o kk kn t w
    · rw [← fitk7]
      exact rfit7 a l s d p n o kk kn t w
    · rw [← fitk8]
      exact rfit8 a l s d p n o kk kn t w
    · rw [← fitk9]
      exact rfit9 a l s d p n o kk kn t w
  · have hf : fitsB ⟨k, a, l, s, d, p, n, o, (kk, kn), t⟩ = false := by
      unfold fitsB
      rw [show wiB k 1 9 = false from decide_eq_false h]
      rfl
    rw [hf]
    exact rfit0 k a l s d p n o kk kn t w h
end Go.Proofs.YtgdgpcheammbpaaDoor
