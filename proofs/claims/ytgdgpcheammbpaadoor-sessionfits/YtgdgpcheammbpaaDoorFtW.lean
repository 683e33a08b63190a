/- SessionFits, walked. -/
import Derived.Test.YtgdgpcheammbpaaDoorRKy
namespace Go.Proofs.YtgdgpcheammbpaaDoor
open Go.RowKit
set_option linter.all false
theorem row_set2 {w : World} {B n g j : Nat} {v u : Value} {xs : List Value} {cur : Array Value} (ho : w.ownsRow B 23 2 v n xs) (hg : w.heap[g]? = some (.cells cur 23 (0, 0))) : ∃ ys, (w.setCell ⟨g, j, none⟩ u).ownsRow B 23 2 v n ys := by
  obtain ⟨h1, hn | ⟨g', cap, cur', hv, hb, hg', hnc, hcm, hs, ht⟩⟩ := ho
  · exact ⟨xs, h1, .inl hn⟩
  · by_cases e : g' = g
    · subst e
      refine ⟨(cur'.setIfInBounds j u).toList.take (n * 2), ?_, .inr ⟨g', cap, cur'.setIfInBounds j u, hv, hb, heap_set hg' j u, hnc, hcm, by simp [hs], rfl⟩⟩
      rw [List.length_take]
      simp [hs]
      omega
    · exact ⟨xs, h1, .inr ⟨g', cap, cur', hv, hb, (heap_set_other _ _ _ _ _ e).trans hg', hnc, hcm, hs, ht⟩⟩
theorem row_at2 {w : World} {B n : Nat} {v : Value} {xs : List Value} (ho : w.ownsRow B 23 2 v n xs) : ∃ a c, v = .slice a n c ∧ ∀ i, i < n → ∃ g off cur u, a = some ⟨g, off, none⟩ ∧ B ≤ g ∧ w.heap[g]? = some (.cells cur 23 (0, 0)) ∧ g < w.heap.size ∧ w.cell? ⟨g, off + i * 2 + 1, none⟩ = some u ∧ w.frozen? ⟨g, off + i * 2 + 1, none⟩ = false := by
  obtain ⟨h1, ⟨rfl, rfl⟩ | ⟨g, cap, cur, rfl, hb, hg, hnc, hcm, hs, ht⟩⟩ := ho
  · exact ⟨_, _, rfl, fun i hi => by omega⟩
  · refine ⟨_, _, rfl, fun i hi => ⟨g, 0, cur, cur[0 + i * 2 + 1]'(by omega), rfl, hb, hg, (Array.getElem?_eq_some_iff.1 hg).1, ?_, free_at hg _⟩⟩
    rw [cell_at hg, Array.getElem?_eq_getElem (by omega)]
/-- The request in its box, the keys still a row. -/
structure FtS (w : World) (cs : Array Value) (v : Value) (n : Nat) (W : World) : Prop where
  bx : W.heap[w.heap.size]? = some (.cells cs 25 (0, 0))
  row : ∃ xs, W.ownsRow w.heap.size 23 2 v n xs
  bel : Below w.heap.size w W
theorem FtS.keep {w W W' : World} {cs : Array Value} {v : Value} {n : Nat} (h : FtS w cs v n W) (hb : Below W.heap.size W W') : FtS w cs v n W' :=
  ⟨(hb.block _ (Array.getElem?_eq_some_iff.1 h.bx).1).trans h.bx, by
    obtain ⟨xs, hx⟩ := h.row
    exact ⟨xs, own_keep hx hb⟩, below_via h.bel hb⟩
theorem FtS.set {w W : World} {cs : Array Value} {v u : Value} {n g j : Nat} {cur : Array Value} (h : FtS w cs v n W) (hg : W.heap[g]? = some (.cells cur 23 (0, 0))) (hB : w.heap.size ≤ g) : FtS w cs v n (W.setCell ⟨g, j, none⟩ u) := by
  obtain ⟨xs, hx⟩ := h.row
  refine ⟨setOther _ h.bx (fun e => ?_), row_set2 hx hg, belowSet _ h.bel hB⟩
  have := h.bx
  rw [e, hg] at this
  simp at this
set_option maxHeartbeats 16000000 in
set_option maxRecDepth 100000 in
theorem fits_walk (r : ReqV) (w : World) (hF : Forms w) : Calls Tryd.prog 4 #[.agg (reqC r)] w fun e w' => e = .returned (.bool true) ∧ Below w.heap.size w w' := by
  have H1 := hideIt (fun W (hW : Below w.heap.size w W) => keys_is r W (hF.keep hW))
  have H2 := hideIt (fun W (hW : Below w.heap.size w W) => fits_is r W (hF.keep hW))
  have H3 := hideIt (fun W (hW : Below w.heap.size w W) => live_is W (hF.keep hW))
  have H4 := hideIt (fun W => rFits_is r W)
  have H5 := hideIt (fun W => rKeys_is r W)
  have X0 := hideIt (And.intro (heap_alloc_new w (.cells (reqC r) 25)) (below1 w (.cells (reqC r) 25)))
  have hl4 := (keysB_len r).1
  have HK8 : Hid ((keysB r).length * 16 ≤ 140737488355328) := by show _ ≤ _; omega
  clear hF
  generalize keysB r = ks at *
  generalize fitsB r = bf at *
  obtain ⟨k, a, l, s, d, p, n, o, ⟨kk, kn⟩, t⟩ := r
  simp only [reqC] at *
  have H6 := hideIt (fun v v' W h h' => sameK_is v v' ks W h h')
  go_enter Tryd.func4, Tryd.ntmps4
  go_wp2_with fail
  refine (H1.out _ X0.out.2).mono ?_
  rintro e w1 ⟨ka, kc, rfl, hk, hb⟩
  dsimp only
  have HX : Hid (FtS w #[.int .i64 k, .int .i64 a, .int .i64 l, .int .i64 s, .int .i64 d, .int .i64 p, .int .i64 n, .bool o, .int .i64 kk, .int .i64 kn, .int .i64 t] (.slice ka ks.length kc) ks.length w1) := ⟨(hb.block _ (Array.getElem?_eq_some_iff.1 X0.out.1).1).trans X0.out.1, ⟨_, own_base hk (by have := X0.out.2.size; exact this)⟩, below_via X0.out.2 hb⟩
  have HG := hideIt (own_sgot (bytes := 16) hk (by omega))
  obtain ⟨r0, r1, r2, r3, r4, r5, r6, r7, r8, r9, r10⟩ := req_all HX.out.bx
  have xz := (Array.getElem?_eq_some_iff.1 HX.out.bx).1
  clear hk hb X0
  have hbb : (bf == bf) = true := by cases bf <;> rfl
  go_upto_region 2 with fail
  have HRQ : Hid (∀ W, Below w1.heap.size w1 W → W.cell? ⟨w.heap.size, 0, none⟩ = some (.int .i64 k) ∧ W.cell? ⟨w.heap.size, 1, none⟩ = some (.int .i64 a) ∧ W.cell? ⟨w.heap.size, 2, none⟩ = some (.int .i64 l) ∧ W.cell? ⟨w.heap.size, 3, none⟩ = some (.int .i64 s) ∧ W.cell? ⟨w.heap.size, 4, none⟩ = some (.int .i64 d) ∧ W.cell? ⟨w.heap.size, 5, none⟩ = some (.int .i64 p) ∧ W.cell? ⟨w.heap.size, 6, none⟩ = some (.int .i64 n) ∧ W.cell? ⟨w.heap.size, 7, none⟩ = some (.bool o) ∧ W.cell? ⟨w.heap.size, 8, none⟩ = some (.int .i64 kk) ∧ W.cell? ⟨w.heap.size, 9, none⟩ = some (.int .i64 kn) ∧ W.cell? ⟨w.heap.size, 10, none⟩ = some (.int .i64 t)) := by
    intro W hW
    exact req_all ((hW.block _ xz).trans HX.out.bx)
  go_cut [4] from 8 to 18 (fun u wx => u = .bool true ∧ Hid (Below w1.heap.size w1 wx))
  case first =>
    go_region_held3 (fun W => W.cell? ⟨w.heap.size, 0, none⟩ = some (.int .i64 k) ∧ W.cell? ⟨w.heap.size, 1, none⟩ = some (.int .i64 a) ∧ W.cell? ⟨w.heap.size, 2, none⟩ = some (.int .i64 l) ∧ W.cell? ⟨w.heap.size, 3, none⟩ = some (.int .i64 s) ∧ W.cell? ⟨w.heap.size, 4, none⟩ = some (.int .i64 d) ∧ W.cell? ⟨w.heap.size, 5, none⟩ = some (.int .i64 p) ∧ W.cell? ⟨w.heap.size, 6, none⟩ = some (.int .i64 n) ∧ W.cell? ⟨w.heap.size, 7, none⟩ = some (.bool o) ∧ W.cell? ⟨w.heap.size, 8, none⟩ = some (.int .i64 kk) ∧ W.cell? ⟨w.heap.size, 9, none⟩ = some (.int .i64 kn) ∧ W.cell? ⟨w.heap.size, 10, none⟩ = some (.int .i64 t)) (go_keep) (first | (go_at_call 10; refine (H2.out _ (by first | exact HX.out.bel | exact HX.out.bel.drew)).mono ?_; rintro e w2 ⟨rfl, hb⟩; have B2 : Hid (Below w1.heap.size w1 w2) := (by first | exact hb | exact below_via (Below.refl _ w1).drew hb); have hj2 := HRQ.out _ B2.out; obtain ⟨j0, j1, j2, j3, j4, j5, j6, j7, j8, j9, j10⟩ := hj2; clear H2 hb) | (go_at_call 12; refine (H4.out _).mono ?_; rintro e w3 ⟨rfl, hb⟩; have B3 := hideIt (below_via B2.out hb); have hj3 := HRQ.out _ B3.out; obtain ⟨i0, i1, i2, i3, i4, i5, i6, i7, i8, i9, i10⟩ := hj3; clear H4 hb) | (go_at_call 14; refine (H5.out _).mono ?_; rintro e w4 ⟨a4, c4, rfl, hg4, hb⟩; have B4 := hideIt (below_via B3.out hb); have G4 := hideIt hg4; have hj4 := HRQ.out _ B4.out; obtain ⟨g0, g1, g2, g3, g4, g5, g6, g7, g8, g9, g10⟩ := hj4; clear H5 hb hg4) | (go_at_call 13; refine (H6.out _ _ _ (HG.out.keep B4.out) G4.out).mono ?_; rintro e w5 ⟨rfl, hb⟩; have B5 := hideIt (below_via B4.out hb); have hj5 := HRQ.out _ B5.out; obtain ⟨f0, f1, f2, f3, f4, f5, f6, f7, f8, f9, f10⟩ := hj5; clear hb))
    all_goals go_wp2_with fail
    all_goals go_meet
    exact ⟨rfl, B5⟩
  case rest =>
  obtain ⟨rfl, HB5⟩ := hcut
  have HX5 := hideIt (HX.out.keep HB5.out)
  clear r0 r1 r2 r3 r4 r5 r6 r7 r8 r9 r10 xz
  clear HX HB5 HRQ HG H2 H4
  obtain ⟨N, hN⟩ : ∃ N, N = ks.length := ⟨_, rfl⟩
  rw [← hN] at HX5 hl4
  rw [← hN]
  have HN := hideIt hN
  clear hN
  go_wp2
  go_loopw [5] (fun x wr => ∃ i : Nat, x = .int .i64 i ∧ i ≤ N ∧ Hid (FtS w #[.int .i64 k, .int .i64 a, .int .i64 l, .int .i64 s, .int .i64 d, .int .i64 p, .int .i64 n, .bool o, .int .i64 kk, .int .i64 kn, .int .i64 t] (.slice ka N kc) N wr)) (fun x _ => N - (intOf x).toNat)
  case atStart => exact ⟨0, rfl, Nat.zero_le _, HX5⟩
  case round =>
    clear HX5
    obtain ⟨i, rfl, hi, X⟩ := hrel
    by_cases hlt : i < N
    · have hltI : (i : Int) < (N : Int) := by omega
      have ht0 : (0 : Int) ≤ (i : Int) := by omega
      have hw : IntKind.i64.wrap ((i : Int) + 1) = ((i + 1 : Nat) : Int) := by rw [IntKind.wrap_i64]; omega
      obtain ⟨xs, hx⟩ := X.out.row
      obtain ⟨a', c', e, hr⟩ := row_at2 hx
      simp only [Value.slice.injEq, true_and] at e
      obtain ⟨rfl, rfl⟩ := e
      obtain ⟨g, off, cur, u, rfl, hBg, hg, hgl, hcu, hf⟩ := hr i hlt
      have Z := hideIt (X.out.set (j := off + i * 2 + 1) (u := .int .i64 (-1)) hg hBg)
      clear hr hx hg X
      go_wp2
      go_roundw
      case rel => exact ⟨i + 1, by go_num, by omega, Z⟩
      case measure => simp [intOf]; omega
    · have hltI : ¬ (i : Int) < (N : Int) := by omega
      obtain ⟨r0, r1, r2, r3, r4, r5, r6, r7, r8, r9, r10⟩ := req_all X.out.bx
      have xz := (Array.getElem?_eq_some_iff.1 X.out.bx).1
      have HRQ : Hid (∀ W, Below wr.heap.size wr W → W.cell? ⟨w.heap.size, 0, none⟩ = some (.int .i64 k) ∧ W.cell? ⟨w.heap.size, 1, none⟩ = some (.int .i64 a) ∧ W.cell? ⟨w.heap.size, 2, none⟩ = some (.int .i64 l) ∧ W.cell? ⟨w.heap.size, 3, none⟩ = some (.int .i64 s) ∧ W.cell? ⟨w.heap.size, 4, none⟩ = some (.int .i64 d) ∧ W.cell? ⟨w.heap.size, 5, none⟩ = some (.int .i64 p) ∧ W.cell? ⟨w.heap.size, 6, none⟩ = some (.int .i64 n) ∧ W.cell? ⟨w.heap.size, 7, none⟩ = some (.bool o) ∧ W.cell? ⟨w.heap.size, 8, none⟩ = some (.int .i64 kk) ∧ W.cell? ⟨w.heap.size, 9, none⟩ = some (.int .i64 kn) ∧ W.cell? ⟨w.heap.size, 10, none⟩ = some (.int .i64 t)) := by
        intro W hW
        exact req_all ((hW.block _ xz).trans X.out.bx)
      go_upto_region 7 with fail
      go_region_held3 (fun W => W.cell? ⟨w.heap.size, 0, none⟩ = some (.int .i64 k) ∧ W.cell? ⟨w.heap.size, 1, none⟩ = some (.int .i64 a) ∧ W.cell? ⟨w.heap.size, 2, none⟩ = some (.int .i64 l) ∧ W.cell? ⟨w.heap.size, 3, none⟩ = some (.int .i64 s) ∧ W.cell? ⟨w.heap.size, 4, none⟩ = some (.int .i64 d) ∧ W.cell? ⟨w.heap.size, 5, none⟩ = some (.int .i64 p) ∧ W.cell? ⟨w.heap.size, 6, none⟩ = some (.int .i64 n) ∧ W.cell? ⟨w.heap.size, 7, none⟩ = some (.bool o) ∧ W.cell? ⟨w.heap.size, 8, none⟩ = some (.int .i64 kk) ∧ W.cell? ⟨w.heap.size, 9, none⟩ = some (.int .i64 kn) ∧ W.cell? ⟨w.heap.size, 10, none⟩ = some (.int .i64 t)) (go_keep) (first | (go_at_call 9; refine (H1.out _ (by first | exact X.out.bel | exact X.out.bel.drew)).mono ?_; rintro e w2 ⟨a2, c2, rfl, hk2, hb⟩; have B2 : Hid (Below wr.heap.size wr w2) := (by first | exact hb | exact below_via (Below.refl _ wr).drew hb); have G2 := hideIt (own_sgot (bytes := 16) hk2 HK8.out); have hj2 := HRQ.out _ B2.out; obtain ⟨j0, j1, j2, j3, j4, j5, j6, j7, j8, j9, j10⟩ := hj2; clear H1 hb hk2) | (go_at_call 14; refine (H5.out _).mono ?_; rintro e w4 ⟨a4, c4, rfl, hg4, hb⟩; have B4 := hideIt (below_via B2.out hb); have G4 := hideIt (And.intro (G2.out.keep hb) hg4); have hj4 := HRQ.out _ B4.out; obtain ⟨g0, g1, g2, g3, g4, g5, g6, g7, g8, g9, g10⟩ := hj4; clear H5 hb hg4 G2) | (go_at_call 13; refine (H6.out _ _ _ G4.out.1 G4.out.2).mono ?_; rintro e w5 ⟨rfl, hb⟩; have B5 := hideIt (below_via B4.out hb); have hj5 := HRQ.out _ B5.out; obtain ⟨f0, f1, f2, f3, f4, f5, f6, f7, f8, f9, f10⟩ := hj5; clear hb G4) | (go_at_call 11; refine (H3.out _ (below_via X.out.bel B5.out)).mono ?_; rintro e w6 ⟨rfl, hb⟩; have B6 := hideIt (below_via B5.out hb); have hj6 := HRQ.out _ B6.out; obtain ⟨h0, h1, h2, h3, h4, h5, h6, h7, h8, h9, h10⟩ := hj6; clear hb H3))
      go_wp2
      go_ret
      exact ⟨rfl, below_via X.out.bel B6.out⟩
end Go.Proofs.YtgdgpcheammbpaaDoor
