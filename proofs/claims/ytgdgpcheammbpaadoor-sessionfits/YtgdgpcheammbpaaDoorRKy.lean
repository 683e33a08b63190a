/- The document's Keys; the law's sameKeys. -/
import Derived.Test.YtgdgpcheammbpaaDoorRFu
namespace Go.Proofs.YtgdgpcheammbpaaDoor
open Go.RowKit
set_option linter.all false
set_option maxHeartbeats 2000000 in
theorem account_is (n : Int) (w : World) : Calls Tryd.prog 31 #[.int .i64 n] w fun e w' => e = .returned (.agg #[.int .i64 1, .int .i64 n]) ∧ Below w.heap.size w w' := by
  have HB := hideIt (below1 w (.cells #[.int .i64 1, .int .i64 n] 23))
  have hx := heap_alloc_new w (.cells #[.int .i64 1, .int .i64 n] 23)
  obtain ⟨c0, c1, -⟩ := two_at hx
  have HC := hideIt (And.intro c0 c1)
  clear c0 c1 hx
  go_enter Tryd.func31, Tryd.ntmps31
  go_wp2
  exact bodyPost_ret (v := .agg #[.int .i64 1, .int .i64 n]) (by simp [results, Tryd.results31, go_sem, HC.out.1, HC.out.2]) rfl ⟨rfl, HB.out⟩
set_option maxHeartbeats 2000000 in
theorem lane_is (n : Int) (w : World) : Calls Tryd.prog 32 #[.int .i64 n] w fun e w' => e = .returned (.agg #[.int .i64 2, .int .i64 n]) ∧ Below w.heap.size w w' := by
  have HB := hideIt (below1 w (.cells #[.int .i64 2, .int .i64 n] 23))
  have hx := heap_alloc_new w (.cells #[.int .i64 2, .int .i64 n] 23)
  obtain ⟨c0, c1, -⟩ := two_at hx
  have HC := hideIt (And.intro c0 c1)
  clear c0 c1 hx
  go_enter Tryd.func32, Tryd.ntmps32
  go_wp2
  exact bodyPost_ret (v := .agg #[.int .i64 2, .int .i64 n]) (by simp [results, Tryd.results32, go_sem, HC.out.1, HC.out.2]) rfl ⟨rfl, HB.out⟩
/-- Keys that can be read come back. -/
def KeyGot (l : List KeyV) (w : World) (e : Ending) (w' : World) : Prop := ∃ a c, e = .returned (.slice a l.length c) ∧ SGot 2 16 keyE w' (.slice a l.length c) l ∧ Below w.heap.size w w'
theorem key_new {W w : World} {ks : List KeyV} {cs : Array Value} (hc : cs = (celC keyE ks).toArray) (hl : ks.length ≤ 4) (hb : Below w.heap.size w W) : KeyGot ks w (.returned (.slice (some ⟨W.heap.size, 0, none⟩) ks.length ks.length)) (W.alloc (.cells cs 23)) := by
  subst hc
  refine ⟨_, _, rfl, ⟨by omega, _, _, rfl, ⟨Nat.le_refl _, by unfold maxLen; omega⟩, fun _ => ⟨W.heap.size, 0, rfl, by simp, fun j hj => ?_⟩⟩, below_via hb (below1 W _)⟩
  rw [cell_at (heap_alloc_new W _), Nat.zero_add]
  simp
theorem KeyGot.drew {ks : List KeyV} {w W : World} {e : Ending} (h : KeyGot ks w e W) : KeyGot ks w e W.drew := by
  obtain ⟨a, c, e1, h1, h2⟩ := h
  exact ⟨a, c, e1, h1.keep (Below.refl _ W).drew, h2.drew⟩
set_option maxHeartbeats 8000000 in
set_option maxRecDepth 100000 in
theorem rkey1 (a l s d p n : Int) (o : Bool) (kk kn t : Int) (w : World) (hf : fitsB ⟨1, a, l, s, d, p, n, o, (kk, kn), t⟩ = true) : Calls Tryd.prog 14 #[.agg #[.int .i64 1, .int .i64 a, .int .i64 l, .int .i64 s, .int .i64 d, .int .i64 p, .int .i64 n, .bool o, .int .i64 kk, .int .i64 kn, .int .i64 t]] w (KeyGot ([(1, a)]) w) := by
  have H0 := hideIt (fun W => rFits_is ⟨1, a, l, s, d, p, n, o, (kk, kn), t⟩ W)
  rw [hf] at H0
  simp only [reqC] at H0
  clear hf
  have H1 := hideIt (fun W => account_is a W)
  have X0 := hideIt (And.intro (heap_alloc_new w (.cells #[.int .i64 1, .int .i64 a, .int .i64 l, .int .i64 s, .int .i64 d, .int .i64 p, .int .i64 n, .bool o, .int .i64 kk, .int .i64 kn, .int .i64 t] 25)) (below1 w (.cells #[.int .i64 1, .int .i64 a, .int .i64 l, .int .i64 s, .int .i64 d, .int .i64 p, .int .i64 n, .bool o, .int .i64 kk, .int .i64 kn, .int .i64 t] 25)))
  go_enter Tryd.func14, Tryd.ntmps14
  go_wp2_with fail
  refine (H0.out _).mono ?_
  rintro e w1 ⟨rfl, hb⟩
  dsimp only
  have HX := hideIt ((hb.block _ (Array.getElem?_eq_some_iff.1 X0.out.1).1).trans X0.out.1)
  have HB := hideIt (below_via X0.out.2 hb)
  obtain ⟨r0, r1, r2, -, -, -, -, -, r8, r9, -⟩ := req_all HX.out
  have xz := (Array.getElem?_eq_some_iff.1 HX.out).1
  clear hb H0 X0
  go_wp2_with fail
  refine (H1.out _).mono ?_
  rintro e w2 ⟨rfl, hb⟩
  dsimp only
  have HN := hideIt (key_new (ks := [(1, a)]) (cs := #[.int .i64 1, .int .i64 a]) rfl (by simp) (below_via HB.out hb))
  clear hb H1
  go_wp2
  go_ret
  exact HN.out
set_option maxHeartbeats 8000000 in
set_option maxRecDepth 100000 in
theorem rkey2 (a l s d p n : Int) (o : Bool) (kk kn t : Int) (w : World) (hf : fitsB ⟨2, a, l, s, d, p, n, o, (kk, kn), t⟩ = true) : Calls Tryd.prog 14 #[.agg #[.int .i64 2, .int .i64 a, .int .i64 l, .int .i64 s, .int .i64 d, .int .i64 p, .int .i64 n, .bool o, .int .i64 kk, .int .i64 kn, .int .i64 t]] w (KeyGot ([(1, a)]) w) := by
  have H0 := hideIt (fun W => rFits_is ⟨2, a, l, s, d, p, n, o, (kk, kn), t⟩ W)
  rw [hf] at H0
  simp only [reqC] at H0
  clear hf
  have H1 := hideIt (fun W => account_is a W)
  have X0 := hideIt (And.intro (heap_alloc_new w (.cells #[.int .i64 2, .int .i64 a, .int .i64 l, .int .i64 s, .int .i64 d, .int .i64 p, .int .i64 n, .bool o, .int .i64 kk, .int .i64 kn, .int .i64 t] 25)) (below1 w (.cells #[.int .i64 2, .int .i64 a, .int .i64 l, .int .i64 s, .int .i64 d, .int .i64 p, .int .i64 n, .bool o, .int .i64 kk, .int .i64 kn, .int .i64 t] 25)))
  go_enter Tryd.func14, Tryd.ntmps14
  go_wp2_with fail
  refine (H0.out _).mono ?_
  rintro e w1 ⟨rfl, hb⟩
  dsimp only
  have HX := hideIt ((hb.block _ (Array.getElem?_eq_some_iff.1 X0.out.1).1).trans X0.out.1)
  have HB := hideIt (below_via X0.out.2 hb)
  obtain ⟨r0, r1, r2, -, -, -, -, -, r8, r9, -⟩ := req_all HX.out
  have xz := (Array.getElem?_eq_some_iff.1 HX.out).1
  clear hb H0 X0
  go_wp2_with fail
  refine (H1.out _).mono ?_
  rintro e w2 ⟨rfl, hb⟩
  dsimp only
  have HN := hideIt (key_new (ks := [(1, a)]) (cs := #[.int .i64 1, .int .i64 a]) rfl (by simp) (below_via HB.out hb))
  clear hb H1
  go_wp2
  go_ret
  exact HN.out
set_option maxHeartbeats 8000000 in
set_option maxRecDepth 100000 in
theorem rkey8 (a l s d p n : Int) (o : Bool) (kk kn t : Int) (w : World) (hf : fitsB ⟨8, a, l, s, d, p, n, o, (kk, kn), t⟩ = true) : Calls Tryd.prog 14 #[.agg #[.int .i64 8, .int .i64 a, .int .i64 l, .int .i64 s, .int .i64 d, .int .i64 p, .int .i64 n, .bool o, .int .i64 kk, .int .i64 kn, .int .i64 t]] w (KeyGot ([(1, a)]) w) := by
  have H0 := hideIt (fun W => rFits_is ⟨8, a, l, s, d, p, n, o, (kk, kn), t⟩ W)
  rw [hf] at H0
  simp only [reqC] at H0
  clear hf
  have H1 := hideIt (fun W => account_is a W)
  have X0 := hideIt (And.intro (heap_alloc_new w (.cells #[.int .i64 8, .int .i64 a, .int .i64 l, .int .i64 s, .int .i64 d, .int .i64 p, .int .i64 n, .bool o, .int .i64 kk, .int .i64 kn, .int .i64 t] 25)) (below1 w (.cells #[.int .i64 8, .int .i64 a, .int .i64 l, .int .i64 s, .int .i64 d, .int .i64 p, .int .i64 n, .bool o, .int .i64 kk, .int .i64 kn, .int .i64 t] 25)))
  go_enter Tryd.func14, Tryd.ntmps14
  go_wp2_with fail
  refine (H0.out _).mono ?_
  rintro e w1 ⟨rfl, hb⟩
  dsimp only
  have HX := hideIt ((hb.block _ (Array.getElem?_eq_some_iff.1 X0.out.1).1).trans X0.out.1)
  have HB := hideIt (below_via X0.out.2 hb)
  obtain ⟨r0, r1, r2, -, -, -, -, -, r8, r9, -⟩ := req_all HX.out
  have xz := (Array.getElem?_eq_some_iff.1 HX.out).1
  clear hb H0 X0
  go_wp2_with fail
  refine (H1.out _).mono ?_
  rintro e w2 ⟨rfl, hb⟩
  dsimp only
  have HN := hideIt (key_new (ks := [(1, a)]) (cs := #[.int .i64 1, .int .i64 a]) rfl (by simp) (below_via HB.out hb))
  clear hb H1
  go_wp2
  go_ret
  exact HN.out
set_option maxHeartbeats 8000000 in
set_option maxRecDepth 100000 in
theorem rkey4 (a l s d p n : Int) (o : Bool) (kk kn t : Int) (w : World) (hf : fitsB ⟨4, a, l, s, d, p, n, o, (kk, kn), t⟩ = true) : Calls Tryd.prog 14 #[.agg #[.int .i64 4, .int .i64 a, .int .i64 l, .int .i64 s, .int .i64 d, .int .i64 p, .int .i64 n, .bool o, .int .i64 kk, .int .i64 kn, .int .i64 t]] w (KeyGot ([(2, l)]) w) := by
  have H0 := hideIt (fun W => rFits_is ⟨4, a, l, s, d, p, n, o, (kk, kn), t⟩ W)
  rw [hf] at H0
  simp only [reqC] at H0
  clear hf
  have H1 := hideIt (fun W => lane_is l W)
  have X0 := hideIt (And.intro (heap_alloc_new w (.cells #[.int .i64 4, .int .i64 a, .int .i64 l, .int .i64 s, .int .i64 d, .int .i64 p, .int .i64 n, .bool o, .int .i64 kk, .int .i64 kn, .int .i64 t] 25)) (below1 w (.cells #[.int .i64 4, .int .i64 a, .int .i64 l, .int .i64 s, .int .i64 d, .int .i64 p, .int .i64 n, .bool o, .int .i64 kk, .int .i64 kn, .int .i64 t] 25)))
  go_enter Tryd.func14, Tryd.ntmps14
  go_wp2_with fail
  refine (H0.out _).mono ?_
  rintro e w1 ⟨rfl, hb⟩
  dsimp only
  have HX := hideIt ((hb.block _ (Array.getElem?_eq_some_iff.1 X0.out.1).1).trans X0.out.1)
  have HB := hideIt (below_via X0.out.2 hb)
  obtain ⟨r0, r1, r2, -, -, -, -, -, r8, r9, -⟩ := req_all HX.out
  have xz := (Array.getElem?_eq_some_iff.1 HX.out).1
  clear hb H0 X0
  go_wp2_with fail
  refine (H1.out _).mono ?_
  rintro e w2 ⟨rfl, hb⟩
  dsimp only
  have HN := hideIt (key_new (ks := [(2, l)]) (cs := #[.int .i64 2, .int .i64 l]) rfl (by simp) (below_via HB.out hb))
  clear hb H1
  go_wp2
  go_ret
  exact HN.out
set_option maxHeartbeats 8000000 in
set_option maxRecDepth 100000 in
theorem rkey5 (a l s d p n : Int) (o : Bool) (kk kn t : Int) (w : World) (hf : fitsB ⟨5, a, l, s, d, p, n, o, (kk, kn), t⟩ = true) : Calls Tryd.prog 14 #[.agg #[.int .i64 5, .int .i64 a, .int .i64 l, .int .i64 s, .int .i64 d, .int .i64 p, .int .i64 n, .bool o, .int .i64 kk, .int .i64 kn, .int .i64 t]] w (KeyGot ([(2, l)]) w) := by
  have H0 := hideIt (fun W => rFits_is ⟨5, a, l, s, d, p, n, o, (kk, kn), t⟩ W)
  rw [hf] at H0
  simp only [reqC] at H0
  clear hf
  have H1 := hideIt (fun W => lane_is l W)
  have X0 := hideIt (And.intro (heap_alloc_new w (.cells #[.int .i64 5, .int .i64 a, .int .i64 l, .int .i64 s, .int .i64 d, .int .i64 p, .int .i64 n, .bool o, .int .i64 kk, .int .i64 kn, .int .i64 t] 25)) (below1 w (.cells #[.int .i64 5, .int .i64 a, .int .i64 l, .int .i64 s, .int .i64 d, .int .i64 p, .int .i64 n, .bool o, .int .i64 kk, .int .i64 kn, .int .i64 t] 25)))
  go_enter Tryd.func14, Tryd.ntmps14
  go_wp2_with fail
  refine (H0.out _).mono ?_
  rintro e w1 ⟨rfl, hb⟩
  dsimp only
  have HX := hideIt ((hb.block _ (Array.getElem?_eq_some_iff.1 X0.out.1).1).trans X0.out.1)
  have HB := hideIt (below_via X0.out.2 hb)
  obtain ⟨r0, r1, r2, -, -, -, -, -, r8, r9, -⟩ := req_all HX.out
  have xz := (Array.getElem?_eq_some_iff.1 HX.out).1
  clear hb H0 X0
  go_wp2_with fail
  refine (H1.out _).mono ?_
  rintro e w2 ⟨rfl, hb⟩
  dsimp only
  have HN := hideIt (key_new (ks := [(2, l)]) (cs := #[.int .i64 2, .int .i64 l]) rfl (by simp) (below_via HB.out hb))
  clear hb H1
  go_wp2
  go_ret
  exact HN.out
set_option maxHeartbeats 8000000 in
set_option maxRecDepth 100000 in
theorem rkey6 (a l s d p n : Int) (o : Bool) (kk kn t : Int) (w : World) (hf : fitsB ⟨6, a, l, s, d, p, n, o, (kk, kn), t⟩ = true) : Calls Tryd.prog 14 #[.agg #[.int .i64 6, .int .i64 a, .int .i64 l, .int .i64 s, .int .i64 d, .int .i64 p, .int .i64 n, .bool o, .int .i64 kk, .int .i64 kn, .int .i64 t]] w (KeyGot ([(2, l)]) w) := by
  have H0 := hideIt (fun W => rFits_is ⟨6, a, l, s, d, p, n, o, (kk, kn), t⟩ W)
  rw [hf] at H0
  simp only [reqC] at H0
  clear hf
  have H1 := hideIt (fun W => lane_is l W)
  have X0 := hideIt (And.intro (heap_alloc_new w (.cells #[.int .i64 6, .int .i64 a, .int .i64 l, .int .i64 s, .int .i64 d, .int .i64 p, .int .i64 n, .bool o, .int .i64 kk, .int .i64 kn, .int .i64 t] 25)) (below1 w (.cells #[.int .i64 6, .int .i64 a, .int .i64 l, .int .i64 s, .int .i64 d, .int .i64 p, .int .i64 n, .bool o, .int .i64 kk, .int .i64 kn, .int .i64 t] 25)))
  go_enter Tryd.func14, Tryd.ntmps14
  go_wp2_with fail
  refine (H0.out _).mono ?_
  rintro e w1 ⟨rfl, hb⟩
  dsimp only
  have HX := hideIt ((hb.block _ (Array.getElem?_eq_some_iff.1 X0.out.1).1).trans X0.out.1)
  have HB := hideIt (below_via X0.out.2 hb)
  obtain ⟨r0, r1, r2, -, -, -, -, -, r8, r9, -⟩ := req_all HX.out
  have xz := (Array.getElem?_eq_some_iff.1 HX.out).1
  clear hb H0 X0
  go_wp2_with fail
  refine (H1.out _).mono ?_
  rintro e w2 ⟨rfl, hb⟩
  dsimp only
  have HN := hideIt (key_new (ks := [(2, l)]) (cs := #[.int .i64 2, .int .i64 l]) rfl (by simp) (below_via HB.out hb))
  clear hb H1
  go_wp2
  go_ret
  exact HN.out
set_option maxHeartbeats 8000000 in
set_option maxRecDepth 100000 in
theorem rkey3 (a l s d p n : Int) (o : Bool) (kk kn t : Int) (w : World) (hf : fitsB ⟨3, a, l, s, d, p, n, o, (kk, kn), t⟩ = true) : Calls Tryd.prog 14 #[.agg #[.int .i64 3, .int .i64 a, .int .i64 l, .int .i64 s, .int .i64 d, .int .i64 p, .int .i64 n, .bool o, .int .i64 kk, .int .i64 kn, .int .i64 t]] w (KeyGot ([(1, a), (2, l)]) w) := by
  have H0 := hideIt (fun W => rFits_is ⟨3, a, l, s, d, p, n, o, (kk, kn), t⟩ W)
  rw [hf] at H0
  simp only [reqC] at H0
  clear hf
  have H1 := hideIt (fun W => account_is a W)
  have H2 := hideIt (fun W => lane_is l W)
  have X0 := hideIt (And.intro (heap_alloc_new w (.cells #[.int .i64 3, .int .i64 a, .int .i64 l, .int .i64 s, .int .i64 d, .int .i64 p, .int .i64 n, .bool o, .int .i64 kk, .int .i64 kn, .int .i64 t] 25)) (below1 w (.cells #[.int .i64 3, .int .i64 a, .int .i64 l, .int .i64 s, .int .i64 d, .int .i64 p, .int .i64 n, .bool o, .int .i64 kk, .int .i64 kn, .int .i64 t] 25)))
  go_enter Tryd.func14, Tryd.ntmps14
  go_wp2_with fail
  refine (H0.out _).mono ?_
  rintro e w1 ⟨rfl, hb⟩
  dsimp only
  have HX := hideIt ((hb.block _ (Array.getElem?_eq_some_iff.1 X0.out.1).1).trans X0.out.1)
  have HB := hideIt (below_via X0.out.2 hb)
  obtain ⟨r0, r1, r2, -, -, -, -, -, r8, r9, -⟩ := req_all HX.out
  have xz := (Array.getElem?_eq_some_iff.1 HX.out).1
  clear hb H0 X0
  go_upto_region 10 with fail
  go_region_held3 (fun W => W.cell? ⟨w.heap.size, 1, none⟩ = some (.int .i64 a) ∧ W.cell? ⟨w.heap.size, 2, none⟩ = some (.int .i64 l)) (go_keep) (first | (go_at_call 31; refine (H1.out _).mono ?_; rintro e w2 ⟨rfl, hb⟩; have HB2 := hideIt (below_via (by first | exact HB.out | exact HB.out.drew) hb); have HX2 := hideIt ((hb.block _ xz).trans HX.out); obtain ⟨-, q1, q2, -⟩ := req_all HX2.out; clear H1 hb) | (go_at_call 32; refine (H2.out _).mono ?_; rintro e w3 ⟨rfl, hb⟩; have HB3 := hideIt (below_via HB2.out hb); have HX3 := hideIt ((hb.block _ (Array.getElem?_eq_some_iff.1 HX2.out).1).trans HX2.out); obtain ⟨-, p1, p2, -⟩ := req_all HX3.out; have n3 : w3.heap.size ≠ w.heap.size := (by have := (Array.getElem?_eq_some_iff.1 HX3.out).1; omega); clear H2 hb))
  all_goals go_wp2
  all_goals go_ret
  all_goals exact key_new (ks := [(1, a), (2, l)]) (cs := #[.int .i64 1, .int .i64 a, .int .i64 2, .int .i64 l]) rfl (by simp) HB3.out
set_option maxHeartbeats 8000000 in
set_option maxRecDepth 100000 in
theorem rkey7 (a l s d p n : Int) (o : Bool) (kk kn t : Int) (w : World) (hf : fitsB ⟨7, a, l, s, d, p, n, o, (kk, kn), t⟩ = true) : Calls Tryd.prog 14 #[.agg #[.int .i64 7, .int .i64 a, .int .i64 l, .int .i64 s, .int .i64 d, .int .i64 p, .int .i64 n, .bool o, .int .i64 kk, .int .i64 kn, .int .i64 t]] w (KeyGot ([(1, a), (2, 1), (2, 2), (2, 3)]) w) := by
  have H0 := hideIt (fun W => rFits_is ⟨7, a, l, s, d, p, n, o, (kk, kn), t⟩ W)
  rw [hf] at H0
  simp only [reqC] at H0
  clear hf
  have H1 := hideIt (fun W => account_is a W)
  have H2 := hideIt (fun i W => lane_is i W)
  have X0 := hideIt (And.intro (heap_alloc_new w (.cells #[.int .i64 7, .int .i64 a, .int .i64 l, .int .i64 s, .int .i64 d, .int .i64 p, .int .i64 n, .bool o, .int .i64 kk, .int .i64 kn, .int .i64 t] 25)) (below1 w (.cells #[.int .i64 7, .int .i64 a, .int .i64 l, .int .i64 s, .int .i64 d, .int .i64 p, .int .i64 n, .bool o, .int .i64 kk, .int .i64 kn, .int .i64 t] 25)))
  go_enter Tryd.func14, Tryd.ntmps14
  go_wp2_with fail
  refine (H0.out _).mono ?_
  rintro e w1 ⟨rfl, hb⟩
  dsimp only
  have HX := hideIt ((hb.block _ (Array.getElem?_eq_some_iff.1 X0.out.1).1).trans X0.out.1)
  have HB := hideIt (below_via X0.out.2 hb)
  obtain ⟨r0, r1, r2, -, -, -, -, -, r8, r9, -⟩ := req_all HX.out
  have xz := (Array.getElem?_eq_some_iff.1 HX.out).1
  clear hb H0 X0
  go_wp2_with fail
  refine (H1.out _).mono ?_
  rintro e w2 ⟨rfl, hb⟩
  dsimp only
  have HB2 := hideIt (below_via HB.out hb)
  clear hb
  go_wp2_with fail
  refine (H2.out 1 _).mono ?_
  rintro e w3 ⟨rfl, hb⟩
  dsimp only
  have HB3 := hideIt (below_via HB2.out hb)
  clear hb
  go_wp2_with fail
  refine (H2.out 2 _).mono ?_
  rintro e w4 ⟨rfl, hb⟩
  dsimp only
  have HB4 := hideIt (below_via HB3.out hb)
  clear hb
  go_wp2_with fail
  refine (H2.out 3 _).mono ?_
  rintro e w5 ⟨rfl, hb⟩
  dsimp only
  have HN := hideIt (key_new (ks := [(1, a), (2, 1), (2, 2), (2, 3)]) (cs := #[.int .i64 1, .int .i64 a, .int .i64 2, .int .i64 1, .int .i64 2, .int .i64 2, .int .i64 2, .int .i64 3]) rfl (by simp) (below_via HB4.out hb))
  clear hb H1 H2
  go_wp2
  go_ret
  exact HN.out
set_option maxHeartbeats 8000000 in
set_option maxRecDepth 100000 in
theorem rkey9 (a l s d p n : Int) (o : Bool) (kk kn t : Int) (w : World) (hf : fitsB ⟨9, a, l, s, d, p, n, o, (kk, kn), t⟩ = true) : Calls Tryd.prog 14 #[.agg #[.int .i64 9, .int .i64 a, .int .i64 l, .int .i64 s, .int .i64 d, .int .i64 p, .int .i64 n, .bool o, .int .i64 kk, .int .i64 kn, .int .i64 t]] w (KeyGot ([(kk, kn)]) w) := by
  have H0 := hideIt (fun W => rFits_is ⟨9, a, l, s, d, p, n, o, (kk, kn), t⟩ W)
  rw [hf] at H0
  simp only [reqC] at H0
  clear hf
  have X0 := hideIt (And.intro (heap_alloc_new w (.cells #[.int .i64 9, .int .i64 a, .int .i64 l, .int .i64 s, .int .i64 d, .int .i64 p, .int .i64 n, .bool o, .int .i64 kk, .int .i64 kn, .int .i64 t] 25)) (below1 w (.cells #[.int .i64 9, .int .i64 a, .int .i64 l, .int .i64 s, .int .i64 d, .int .i64 p, .int .i64 n, .bool o, .int .i64 kk, .int .i64 kn, .int .i64 t] 25)))
  go_enter Tryd.func14, Tryd.ntmps14
  go_wp2_with fail
  refine (H0.out _).mono ?_
  rintro e w1 ⟨rfl, hb⟩
  dsimp only
  have HX := hideIt ((hb.block _ (Array.getElem?_eq_some_iff.1 X0.out.1).1).trans X0.out.1)
  have HB := hideIt (below_via X0.out.2 hb)
  obtain ⟨r0, r1, r2, -, -, -, -, -, r8, r9, -⟩ := req_all HX.out
  have xz := (Array.getElem?_eq_some_iff.1 HX.out).1
  clear hb H0 X0
  have HN := hideIt (key_new (ks := [(kk, kn)]) (cs := #[.int .i64 kk, .int .i64 kn]) rfl (by simp) HB.out)
  go_wp2
  go_ret
  exact HN.out
set_option maxHeartbeats 8000000 in
set_option maxRecDepth 100000 in
theorem rKeys_is (r : ReqV) (w : World) : Calls Tryd.prog 14 #[.agg (reqC r)] w (KeyGot (keysB r) w) := by
  cases hf : fitsB r
  · have hk : keysB r = [] := by
      unfold keysB
      rw [if_neg (by simp [hf])]
    rw [hk]
    have H0 := hideIt (fun W => rFits_is r W)
    rw [hf] at H0
    have X0 := hideIt (below1 w (.cells (reqC r) 25))
    clear hf hk
    obtain ⟨k, a, l, s, d, p, n, o, ⟨kk, kn⟩, t⟩ := r
    simp only [reqC] at *
    go_enter Tryd.func14, Tryd.ntmps14
    go_wp2_with fail
    refine (H0.out _).mono ?_
    rintro e w1 ⟨rfl, hb⟩
    dsimp only
    have HB := hideIt (below_via X0.out hb)
    clear hb X0 H0
    go_wp2
    go_ret
    exact ⟨none, 0, rfl, SGot.nil _ _ _ _ _ _ (Nat.zero_le _), HB.out⟩
  · have hk : keysB r = keyT (formK r.kind) r := by
      unfold keysB
      rw [if_pos hf]
    obtain ⟨h1, h9⟩ := fits_kind hf
    rw [hk]
    clear hk
    obtain ⟨k, a, l, s, d, p, n, o, ⟨kk, kn⟩, t⟩ := r
    dsimp only at h1 h9
    have : k = 1 ∨ k = 2 ∨ k = 3 ∨ k = 4 ∨ k = 5 ∨ k = 6 ∨ k = 7 ∨ k = 8 ∨ k = 9 := by omega
    rcases this with rfl | rfl | rfl | rfl | rfl | rfl | rfl | rfl | rfl
    · exact rkey1 a l s d p n o kk kn t w hf
    · exact rkey2 a l s d p n o kk kn t w hf
    · exact rkey3 a l s d p n o kk kn t w hf
    · exact rkey4 a l s d p n o kk kn t w hf
    · exact rkey5 a l s d p n o kk kn t w hf
    · exact rkey6 a l s d p n o kk kn t w hf
    · exact rkey7 a l s d p n o kk kn t w hf
    · exact rkey8 a l s d p n o kk kn t w hf
    · exact rkey9 a l s d p n o kk kn t w hf
theorem neq23 (a b : Int) (w : World) : (binOp .neq 23 (.agg #[.int .i64 a, .int .i64 b]) (.agg #[.int .i64 a, .int .i64 b])).run Tryd.prog w = .ok (.bool false) w := by
  simp [go_sem]
set_option maxHeartbeats 4000000 in
set_option maxRecDepth 100000 in
theorem sameK_is (v v' : Value) (l : List KeyV) (w : World) (h : SGot 2 16 keyE w v l) (h' : SGot 2 16 keyE w v' l) : Calls Tryd.prog 13 #[v, v'] w fun e w' => e = .returned (.bool true) ∧ Below w.heap.size w w' := by
  obtain ⟨a, c, rfl, h8, hr⟩ := h.keys
  obtain ⟨a', c', rfl, -, hr'⟩ := h'.keys
  have HH := hideIt hr
  have HH' := hideIt hr'
  have q1 := neq23
  clear hr hr' h h'
  go_enter Tryd.func13, Tryd.ntmps13
  go_wp2
  go_loopw [5] (fun x wr => ∃ t : Nat, x = .int .i64 t ∧ t ≤ l.length ∧ Hid (Below w.heap.size w wr)) (fun x _ => l.length - (intOf x).toNat)
  case atStart => exact ⟨0, rfl, Nat.zero_le _, Below.refl _ _⟩
  case round =>
    obtain ⟨t, rfl, ht, HW⟩ := hrel
    by_cases hlt : t < l.length
    · have hltI : (t : Int) < (l.length : Int) := by omega
      have ht0 : (0 : Int) ≤ (t : Int) := by omega
      obtain ⟨b, off, rfl, hbl, q0, q1⟩ := HH.out t hlt
      obtain ⟨b2, off2, rfl, hbl2, p0, p1⟩ := HH'.out t hlt
      have c0 := (HW.out.cell (p := ⟨b, off + t * 2, none⟩) hbl).trans q0
      have c1 := (HW.out.cell (p := ⟨b, off + t * 2 + 1, none⟩) hbl).trans q1
      have d0 := (HW.out.cell (p := ⟨b2, off2 + t * 2, none⟩) hbl2).trans p0
      have d1 := (HW.out.cell (p := ⟨b2, off2 + t * 2 + 1, none⟩) hbl2).trans p1
      have hblr : b < wr.heap.size := Nat.lt_of_lt_of_le hbl HW.out.size
      have hblr2 : b2 < wr.heap.size := Nat.lt_of_lt_of_le hbl2 HW.out.size
      clear q0 q1 p0 p1 HH HH'
      generalize l[t] = en at *
      go_upto_region 6 with fail
      go_quiet (fail)
      have HW2 := hideIt (below_drewN HW.out nq)
      clear HW
      generalize wr.drewN nq = wx at *
      go_wp2
      go_roundw
      case rel => exact ⟨t + 1, by go_num, by omega, HW2⟩
      case measure => simp [intOf]; omega
    · have hltI : ¬ (t : Int) < (l.length : Int) := by omega
      go_wp2
      go_ret
      exact ⟨rfl, HW.out⟩
end Go.Proofs.YtgdgpcheammbpaaDoor
