/- A key is let go: the walk. -/
import Derived.Test.YtgfpeknhabbkbabFreeP
namespace Go.Proofs.Ytgfpeknhabbkbab
open Go.RowKit
set_option linter.all false
set_option maxHeartbeats 8000000 in
set_option maxRecDepth 100000 in
theorem free_is (T : TabV) (h v : Value) (k n c q : Int) (w : World) (hT : Tab w T h v) : Calls Try.prog 9 #[.agg #[h, v], .agg #[.int .i64 k, .int .i64 n], .agg #[.int .i64 c, .int .i64 q]] w (FreeBack (freeL T (k, n) (c, q)) w) := by
  have H1 := hideIt (fun W (hW : Below w.heap.size w W) => refused_is T h v k n c q W (hT.keep hW))
  have H2 := hideIt (fun W (hW : Below w.heap.size w W) => holder_is T h v k n W (hT.keep hW))
  have H3 := hideIt (fun W (hW : Below w.heap.size w W) => oldest_is T h v k n W (hT.keep hW))
  have H4 := hideIt (fun W (hW : Below w.heap.size w W) => without_is h T.held k n c q W (hT.keep hW).held)
  have H5 := hideIt (fun W (hW : Below w.heap.size w W) => without_is v T.wait k n c q W (hT.keep hW).wait)
  have H7 := hideIt (fun a b W => isNobody_is a b W)
  have X0 := hideIt (Bx.first w [.cells #[h, v] 25, .cells #[.int .i64 k, .int .i64 n] 32, .cells #[.int .i64 c, .int .i64 q] 29, .cells #[.slice none 0 0, .slice none 0 0] 25, .cells #[.int .i64 0, .int .i64 0] 29])
  obtain ⟨ha, hc, rfl⟩ := hT.held.slice
  obtain ⟨va, vc, rfl⟩ := hT.wait.slice
  clear hT
  simp only [List.foldl_cons, List.foldl_nil] at X0
  by_cases hR : refE T (k, n) (c, q) = 0
  · have HX : Hid (freeL T (k, n) (c, q) = if (hdT T.held (k, n) == (c, q)) = false ∨ (oldL (qL T.wait (k, n)) == zT) = true then (⟨wiL T.held ((k, n), (c, q)), wiL T.wait ((k, n), (c, q))⟩, zT, 0) else (⟨wiL T.held ((k, n), (c, q)) ++ [((k, n), oldL (qL T.wait (k, n)))], wiL (wiL T.wait ((k, n), (c, q))) ((k, n), oldL (qL T.wait (k, n)))⟩, oldL (qL T.wait (k, n)), 0)) := by
      show freeL _ _ _ = _
      unfold freeL
      rw [if_pos hR]
    rw [hR] at H1
    have hlen := chk_len (ref_ok hR).1
    clear hR
    have hlh := wiL_len T.held ((k, n), (c, q))
    have hlv := wiL_len T.wait ((k, n), (c, q))
    generalize freeL T (k, n) (c, q) = RES at *
    generalize hdT T.held (k, n) = f at *
    generalize oldL (qL T.wait (k, n)) = g at *
    generalize wiL T.held ((k, n), (c, q)) = nh at *
    generalize wiL T.wait ((k, n), (c, q)) = nv at *
    obtain ⟨fc, fq⟩ := f
    obtain ⟨gc, gq⟩ := g
    unfold HolsBack at H4 H5
    go_enter Try.func9, Try.ntmps9
    go_wp2_with fail
    refine (H1.out _ X0.out.bel).mono ?_
    rintro e w1 ⟨rfl, hb⟩
    dsimp only
    have X1 := hideIt (X0.out.keep hb)
    clear hb H1 X0
    go_upto_region 4 with fail
    have b0 : w1.cell? ⟨w.heap.size + 1, 0, none⟩ = some (.int .i64 k) := X1.out.c 1 0 rfl rfl
    have b1 : w1.cell? ⟨w.heap.size + 1, 1, none⟩ = some (.int .i64 n) := X1.out.c 1 1 rfl rfl
    have t0 : w1.cell? ⟨w.heap.size + 1 + 1, 0, none⟩ = some (.int .i64 c) := X1.out.c 2 0 rfl rfl
    have t1 : w1.cell? ⟨w.heap.size + 1 + 1, 1, none⟩ = some (.int .i64 q) := X1.out.c 2 1 rfl rfl
    have X2 := hideIt (X1.out.keep (below1 w1 (.cells #[.int .i64 k, .int .i64 n, .int .i64 c, .int .i64 q] 34)))
    have F2 := hideIt (heap_alloc_new w1 (.cells #[.int .i64 k, .int .i64 n, .int .i64 c, .int .i64 q] 34))
    have lK : w.heap.size + 1 + 1 + 1 + 1 < w1.heap.size := by have := X1.out.size; simp at this; omega
    go_upto_region 5 with fail
    clear b0 b1 t0 t1 X1
    generalize w1.alloc (.cells #[.int .i64 k, .int .i64 n, .int .i64 c, .int .i64 q] 34) = w3 at *
    generalize w1.heap.size = K at *
    have HQ : Hid (∀ W W' : World, Bx w [.cells #[.slice ha T.held.length hc, .slice va T.wait.length vc] 25, .cells #[.int .i64 k, .int .i64 n] 32, .cells #[.int .i64 c, .int .i64 q] 29, .cells #[.slice none 0 0, .slice none 0 0] 25, .cells #[.int .i64 0, .int .i64 0] 29] W ∧ W.heap[K]? = some (.cells #[.int .i64 k, .int .i64 n, .int .i64 c, .int .i64 q] 34 (0, 0)) → Below W.heap.size W W' → (Bx w [.cells #[.slice ha T.held.length hc, .slice va T.wait.length vc] 25, .cells #[.int .i64 k, .int .i64 n] 32, .cells #[.int .i64 c, .int .i64 q] 29, .cells #[.slice none 0 0, .slice none 0 0] 25, .cells #[.int .i64 0, .int .i64 0] 29] W' ∧ W'.heap[K]? = some (.cells #[.int .i64 k, .int .i64 n, .int .i64 c, .int .i64 q] 34 (0, 0)))) := fun W W' h hb => ⟨h.1.keep hb, (hb.block _ (Array.getElem?_eq_some_iff.1 h.2).1).trans h.2⟩
    generalize hBQ : (fun W : World => Bx w [.cells #[.slice ha T.held.length hc, .slice va T.wait.length vc] 25, .cells #[.int .i64 k, .int .i64 n] 32, .cells #[.int .i64 c, .int .i64 q] 29, .cells #[.slice none 0 0, .slice none 0 0] 25, .cells #[.int .i64 0, .int .i64 0] 29] W ∧ W.heap[K]? = some (.cells #[.int .i64 k, .int .i64 n, .int .i64 c, .int .i64 q] 34 (0, 0))) = BQ at *
    have hBQi : ∀ W, BQ W → Bx w [.cells #[.slice ha T.held.length hc, .slice va T.wait.length vc] 25, .cells #[.int .i64 k, .int .i64 n] 32, .cells #[.int .i64 c, .int .i64 q] 29, .cells #[.slice none 0 0, .slice none 0 0] 25, .cells #[.int .i64 0, .int .i64 0] 29] W ∧ W.heap[K]? = some (.cells #[.int .i64 k, .int .i64 n, .int .i64 c, .int .i64 q] 34 (0, 0)) := fun W h => by rw [← hBQ] at h; exact h
    have hBQk : ∀ W W', BQ W → Below W.heap.size W W' → BQ W' := fun W W' h hb => by rw [← hBQ]; exact HQ.out W W' (hBQi W h) hb
    have hBQ3 : BQ w3 := by rw [← hBQ]; exact ⟨X2.out, F2.out⟩
    clear hBQ HQ
    have KI := hideIt hBQi
    have KK := hideIt hBQk
    clear hBQi hBQk
    have HS : Hid (∀ W, BQ W → W.cell? ⟨w.heap.size, 0, none⟩ = some (.slice ha T.held.length hc) ∧ W.cell? ⟨w.heap.size, 1, none⟩ = some (.slice va T.wait.length vc) ∧ W.cell? ⟨K, 0, none⟩ = some (.int .i64 k) ∧ W.cell? ⟨K, 1, none⟩ = some (.int .i64 n) ∧ W.cell? ⟨K, 2, none⟩ = some (.int .i64 c) ∧ W.cell? ⟨K, 3, none⟩ = some (.int .i64 q)) := fun W h => ⟨(KI.out W h).1.c 0 0 rfl rfl, (KI.out W h).1.c 0 1 rfl rfl, by rw [cell_at (KI.out W h).2]; rfl, by rw [cell_at (KI.out W h).2]; rfl, by rw [cell_at (KI.out W h).2]; rfl, by rw [cell_at (KI.out W h).2]; rfl⟩
    have HC1 : Hid (∀ W, BQ W → Calls Try.prog 16 #[.slice ha T.held.length hc, .agg #[.int .i64 k, .int .i64 n, .int .i64 c, .int .i64 q]] W fun e w' => ∃ a' c', e = .returned (.slice a' nh.length c') ∧ Hid (CS W nh (.slice a' nh.length c') w') ∧ BQ w' ∧ w'.cell? ⟨w.heap.size, 0, none⟩ = some (.slice ha T.held.length hc) ∧ w'.cell? ⟨w.heap.size, 1, none⟩ = some (.slice va T.wait.length vc) ∧ w'.cell? ⟨K, 0, none⟩ = some (.int .i64 k) ∧ w'.cell? ⟨K, 1, none⟩ = some (.int .i64 n) ∧ w'.cell? ⟨K, 2, none⟩ = some (.int .i64 c) ∧ w'.cell? ⟨K, 3, none⟩ = some (.int .i64 q)) := by
      intro W hX
      refine (H4.out W (KI.out W hX).1.bel).mono ?_
      rintro e w' ⟨v', rfl, ho, hb⟩
      obtain ⟨a', c', rfl⟩ := own_len ho
      have hX' := KK.out W w' hX hb
      exact ⟨a', c', rfl, hideIt ⟨ho, hb⟩, hX', HS.out w' hX'⟩
    have HC2 : Hid (∀ W, BQ W → Calls Try.prog 16 #[.slice va T.wait.length vc, .agg #[.int .i64 k, .int .i64 n, .int .i64 c, .int .i64 q]] W fun e w' => ∃ a' c', e = .returned (.slice a' nv.length c') ∧ Hid (CS W nv (.slice a' nv.length c') w') ∧ BQ w' ∧ w'.cell? ⟨w.heap.size, 0, none⟩ = some (.slice ha T.held.length hc) ∧ w'.cell? ⟨w.heap.size, 1, none⟩ = some (.slice va T.wait.length vc) ∧ w'.cell? ⟨K, 0, none⟩ = some (.int .i64 k) ∧ w'.cell? ⟨K, 1, none⟩ = some (.int .i64 n) ∧ w'.cell? ⟨K, 2, none⟩ = some (.int .i64 c) ∧ w'.cell? ⟨K, 3, none⟩ = some (.int .i64 q)) := by
      intro W hX
      refine (H5.out W (KI.out W hX).1.bel).mono ?_
      rintro e w' ⟨v', rfl, ho, hb⟩
      obtain ⟨a', c', rfl⟩ := own_len ho
      have hX' := KK.out W w' hX hb
      exact ⟨a', c', rfl, hideIt ⟨ho, hb⟩, hX', HS.out w' hX'⟩
    clear H4 H5
    obtain ⟨a0, a1, m0, m1, m2, m3⟩ := HS.out w3 hBQ3
    have hs3 : w.heap.size < w3.heap.size := by have := X2.out.size; simp at this; omega
    have n3 : w3.heap.size ≠ w.heap.size := by omega
    have hK3 : K < w3.heap.size := (Array.getElem?_eq_some_iff.1 F2.out).1
    have n3K : w3.heap.size ≠ K := by omega
    have HSZ : Hid (∀ W, BQ W → W.heap.size ≠ w.heap.size ∧ W.heap.size ≠ K) := fun W h => by
      have h1 := (KI.out W h).1.size
      have h2 := (Array.getElem?_eq_some_iff.1 (KI.out W h).2).1
      simp at h1
      omega
    go_cut [11] from 26 to 34 (fun u wx => ∃ P h' v', u = .pointer (some ⟨P, 0, none⟩) ∧ Hid (AQ w [.cells #[.slice ha T.held.length hc, .slice va T.wait.length vc] 25, .cells #[.int .i64 k, .int .i64 n] 32, .cells #[.int .i64 c, .int .i64 q] 29, .cells #[.slice none 0 0, .slice none 0 0] 25, .cells #[.int .i64 0, .int .i64 0] 29] K #[.int .i64 k, .int .i64 n, .int .i64 c, .int .i64 q] 34 ⟨nh, nv⟩ P h' v' wx))
    case first =>
      have hx3 : BQ w3.drew := KK.out _ _ hBQ3 (Below.refl _ w3).drew
      go_region_held3 (fun W => W.cell? ⟨w.heap.size, 0, none⟩ = some (.slice ha T.held.length hc) ∧ W.cell? ⟨w.heap.size, 1, none⟩ = some (.slice va T.wait.length vc) ∧ W.cell? ⟨K, 0, none⟩ = some (.int .i64 k) ∧ W.cell? ⟨K, 1, none⟩ = some (.int .i64 n) ∧ W.cell? ⟨K, 2, none⟩ = some (.int .i64 c) ∧ W.cell? ⟨K, 3, none⟩ = some (.int .i64 q)) (go_keep) (first | (go_at_call 16; refine (HC1.out _ (by first | assumption | exact KK.out _ _ (by assumption) (below1 _ _))).mono ?_; clear HC1; rintro e w4 ⟨a4, c4, rfl, hs4, hx4, j0, j1, j2, j3, j4, j5⟩; have n4 := (HSZ.out w4 hx4).1; have n4k := (HSZ.out w4 hx4).2; (try have p4 : w4.heap[w3.heap.size]? = some (.cells #[.slice none 0 0, .slice none 0 0] 25 (0, 0)) := (hs4.out.bel.block _ (by simp)).trans (heap_alloc_new w3.drew _)); (try have p4c := two_at p4); (try obtain ⟨p40, p41, p42, p43, p44⟩ := p4c)) | (go_at_call 16; refine (HC2.out _ (by first | assumption | exact KK.out _ _ (by assumption) (below1 _ _))).mono ?_; clear HC2; rintro e w5 ⟨a5, c5, rfl, hs5, hx5, i0, i1, i2, i3, i4, i5⟩; have n5 := (HSZ.out w5 hx5).1; have n5k := (HSZ.out w5 hx5).2; (first | (have p5 : w5.heap[w3.heap.size]? = some (.cells #[.slice none 0 0, .slice none 0 0] 25 (0, 0)) := (hs5.out.bel.block _ p44).trans p4; have p5c := two_at p5; obtain ⟨p50, p51, p52, p53, p54⟩ := p5c) | (have p5 : w5.heap[w4.heap.size]? = some (.cells #[.slice none 0 0, .slice none 0 0] 25 (0, 0)) := (hs5.out.bel.block _ (by simp)).trans (heap_alloc_new w4 _); have p5c := two_at p5; obtain ⟨p50, p51, p52, p53, p54⟩ := p5c) | skip)))
      all_goals go_wp2_with fail
      all_goals go_meet
      · exact ⟨_, _, _, rfl, hideIt (AQ.o3 X2.out F2.out hs4.out hs5.out)⟩
      · exact ⟨_, _, _, rfl, hideIt (AQ.o2 X2.out F2.out hs4.out hs5.out)⟩
      · exact ⟨_, _, _, rfl, hideIt (AQ.o1 X2.out F2.out hs4.out hs5.out)⟩
    case rest =>
    obtain ⟨P, h', v', rfl, HA⟩ := hcut
    clear X2 F2 HC1 HC2 a0 a1 m0 m1 m2 m3 hs3 n3 n3K KI KK hBQ3 HS HSZ BQ
    obtain ⟨ha', hc', rfl⟩ := own_len HA.out.own.oh
    obtain ⟨va', vc', rfl⟩ := own_len HA.out.own.ov
    have lP0 : w.heap.size + 1 + 1 + 1 + 1 < P := by have := HA.out.lP; simp at this; omega
    obtain ⟨p0, p1, -, -, -⟩ := two_at HA.out.box
    have a0 : wc.cell? ⟨w.heap.size, 0, none⟩ = some (.slice ha T.held.length hc) := HA.out.bx.c 0 0 rfl rfl
    have a1 : wc.cell? ⟨w.heap.size, 1, none⟩ = some (.slice va T.wait.length vc) := HA.out.bx.c 0 1 rfl rfl
    have b0 : wc.cell? ⟨w.heap.size + 1, 0, none⟩ = some (.int .i64 k) := HA.out.bx.c 1 0 rfl rfl
    have b1 : wc.cell? ⟨w.heap.size + 1, 1, none⟩ = some (.int .i64 n) := HA.out.bx.c 1 1 rfl rfl
    have t0 : wc.cell? ⟨w.heap.size + 1 + 1, 0, none⟩ = some (.int .i64 c) := HA.out.bx.c 2 0 rfl rfl
    have t1 : wc.cell? ⟨w.heap.size + 1 + 1, 1, none⟩ = some (.int .i64 q) := HA.out.bx.c 2 1 rfl rfl
    have r0 : wc.cell? ⟨w.heap.size + 1 + 1 + 1, 0, none⟩ = some (.slice none 0 0) := HA.out.bx.c 3 0 rfl rfl
    have r1 : wc.cell? ⟨w.heap.size + 1 + 1 + 1, 1, none⟩ = some (.slice none 0 0) := HA.out.bx.c 3 1 rfl rfl
    have g0 : wc.frozen? ⟨w.heap.size + 1 + 1 + 1, 0, none⟩ = false := HA.out.bx.f 3 0 rfl
    have g1 : wc.frozen? ⟨w.heap.size + 1 + 1 + 1, 1, none⟩ = false := HA.out.bx.f 3 1 rfl
    have s0 : wc.cell? ⟨w.heap.size + 1 + 1 + 1 + 1, 0, none⟩ = some (.int .i64 0) := HA.out.bx.c 4 0 rfl rfl
    have s1 : wc.cell? ⟨w.heap.size + 1 + 1 + 1 + 1, 1, none⟩ = some (.int .i64 0) := HA.out.bx.c 4 1 rfl rfl
    have g2 : wc.frozen? ⟨w.heap.size + 1 + 1 + 1 + 1, 0, none⟩ = false := HA.out.bx.f 4 0 rfl
    have g3 : wc.frozen? ⟨w.heap.size + 1 + 1 + 1 + 1, 1, none⟩ = false := HA.out.bx.f 4 1 rfl
    go_wp2_with fail
    refine (H3.out _ HA.out.bx.bel).mono ?_
    rintro e w6 ⟨rfl, hb⟩
    dsimp only
    have HA7 := hideIt ((HA.out.keep hb).keep (below1 w6 (.cells #[.int .i64 gc, .int .i64 gq] 29)))
    have HG7 := hideIt (heap_alloc_new w6 (.cells #[.int .i64 gc, .int .i64 gq] 29))
    have lG : w.heap.size + 1 + 1 + 1 + 1 < w6.heap.size := by have := (HA.out.keep hb).bx.size; simp at this; omega
    clear hb HA H3 p0 p1 a0 a1 b0 b1 t0 t1 r0 r1 g0 g1 s0 s1 g2 g3
    go_upto_region 7 with fail
    generalize w6.alloc (.cells #[.int .i64 gc, .int .i64 gq] 29) = w7 at *
    generalize w6.heap.size = G at *
    obtain ⟨p0, p1, -, -, -⟩ := two_at HA7.out.box
    have a0 : w7.cell? ⟨w.heap.size, 0, none⟩ = some (.slice ha T.held.length hc) := HA7.out.bx.c 0 0 rfl rfl
    have a1 : w7.cell? ⟨w.heap.size, 1, none⟩ = some (.slice va T.wait.length vc) := HA7.out.bx.c 0 1 rfl rfl
    have b0 : w7.cell? ⟨w.heap.size + 1, 0, none⟩ = some (.int .i64 k) := HA7.out.bx.c 1 0 rfl rfl
    have b1 : w7.cell? ⟨w.heap.size + 1, 1, none⟩ = some (.int .i64 n) := HA7.out.bx.c 1 1 rfl rfl
    have t0 : w7.cell? ⟨w.heap.size + 1 + 1, 0, none⟩ = some (.int .i64 c) := HA7.out.bx.c 2 0 rfl rfl
    have t1 : w7.cell? ⟨w.heap.size + 1 + 1, 1, none⟩ = some (.int .i64 q) := HA7.out.bx.c 2 1 rfl rfl
    have r0 : w7.cell? ⟨w.heap.size + 1 + 1 + 1, 0, none⟩ = some (.slice none 0 0) := HA7.out.bx.c 3 0 rfl rfl
    have r1 : w7.cell? ⟨w.heap.size + 1 + 1 + 1, 1, none⟩ = some (.slice none 0 0) := HA7.out.bx.c 3 1 rfl rfl
    have g0 : w7.frozen? ⟨w.heap.size + 1 + 1 + 1, 0, none⟩ = false := HA7.out.bx.f 3 0 rfl
    have g1 : w7.frozen? ⟨w.heap.size + 1 + 1 + 1, 1, none⟩ = false := HA7.out.bx.f 3 1 rfl
    have s0 : w7.cell? ⟨w.heap.size + 1 + 1 + 1 + 1, 0, none⟩ = some (.int .i64 0) := HA7.out.bx.c 4 0 rfl rfl
    have s1 : w7.cell? ⟨w.heap.size + 1 + 1 + 1 + 1, 1, none⟩ = some (.int .i64 0) := HA7.out.bx.c 4 1 rfl rfl
    have g2 : w7.frozen? ⟨w.heap.size + 1 + 1 + 1 + 1, 0, none⟩ = false := HA7.out.bx.f 4 0 rfl
    have g3 : w7.frozen? ⟨w.heap.size + 1 + 1 + 1 + 1, 1, none⟩ = false := HA7.out.bx.f 4 1 rfl
    obtain ⟨h0, h1, -, -, hGl⟩ := two_at HG7.out
    have HC3 : Hid (∀ W, AQ w [.cells #[.slice ha T.held.length hc, .slice va T.wait.length vc] 25, .cells #[.int .i64 k, .int .i64 n] 32, .cells #[.int .i64 c, .int .i64 q] 29, .cells #[.slice none 0 0, .slice none 0 0] 25, .cells #[.int .i64 0, .int .i64 0] 29] K #[.int .i64 k, .int .i64 n, .int .i64 c, .int .i64 q] 34 ⟨nh, nv⟩ P (.slice ha' nh.length hc') (.slice va' nv.length vc') W → W.heap[G]? = some (.cells #[.int .i64 gc, .int .i64 gq] 29 (0, 0)) → Calls Try.prog 18 #[.agg #[.slice ha T.held.length hc, .slice va T.wait.length vc], .agg #[.int .i64 k, .int .i64 n]] W fun e w' => e = .returned (.agg #[.int .i64 fc, .int .i64 fq]) ∧ Hid (Below W.heap.size W w') ∧ w'.cell? ⟨w.heap.size, 0, none⟩ = some (.slice ha T.held.length hc) ∧ w'.cell? ⟨w.heap.size, 1, none⟩ = some (.slice va T.wait.length vc) ∧ w'.cell? ⟨w.heap.size + 1, 0, none⟩ = some (.int .i64 k) ∧ w'.cell? ⟨w.heap.size + 1, 1, none⟩ = some (.int .i64 n) ∧ w'.cell? ⟨w.heap.size + 1 + 1, 0, none⟩ = some (.int .i64 c) ∧ w'.cell? ⟨w.heap.size + 1 + 1, 1, none⟩ = some (.int .i64 q) ∧ w'.cell? ⟨G, 0, none⟩ = some (.int .i64 gc) ∧ w'.cell? ⟨G, 1, none⟩ = some (.int .i64 gq)) := by
      intro W hA hG
      refine (H2.out W hA.bx.bel).mono ?_
      rintro e w' ⟨rfl, hb⟩
      have hX := hA.bx.keep hb
      have hY := two_at ((hb.block _ (Array.getElem?_eq_some_iff.1 hG).1).trans hG)
      exact ⟨rfl, hideIt hb, hX.c 0 0 rfl rfl, hX.c 0 1 rfl rfl, hX.c 1 0 rfl rfl, hX.c 1 1 rfl rfl, hX.c 2 0 rfl rfl, hX.c 2 1 rfl rfl, hY.1, hY.2.1⟩
    clear H2
    have HD := hideIt (HA7.out.keep (Below.refl _ w7).drew)
    have HDG : Hid (w7.drew.heap[G]? = some (.cells #[.int .i64 gc, .int .i64 gq] 29 (0, 0))) := HG7.out
    go_cut [46] from 38 to 46 (fun u wx => u = .bool (!((fc, fq) == (c, q)) || ((gc, gq) == zT)) ∧ Hid (Below w7.heap.size w7 wx))
    case first =>
      cases hq : ((fc, fq) == (c, q))
      · have q1 : ∀ W, (binOp .neq 29 (.agg #[.int .i64 fc, .int .i64 fq]) (.agg #[.int .i64 c, .int .i64 q])).run Try.prog W = .ok (.bool true) W := fun W => by rw [neq28, hq]; rfl
        refine wp_region_held_drew (S := (fun W => W.cell? ⟨w.heap.size, 0, none⟩ = some (.slice ha T.held.length hc) ∧ W.cell? ⟨w.heap.size, 1, none⟩ = some (.slice va T.wait.length vc) ∧ W.cell? ⟨w.heap.size + 1, 0, none⟩ = some (.int .i64 k) ∧ W.cell? ⟨w.heap.size + 1, 1, none⟩ = some (.int .i64 n) ∧ W.cell? ⟨w.heap.size + 1 + 1, 0, none⟩ = some (.int .i64 c) ∧ W.cell? ⟨w.heap.size + 1 + 1, 1, none⟩ = some (.int .i64 q) ∧ W.cell? ⟨G, 0, none⟩ = some (.int .i64 gc) ∧ W.cell? ⟨G, 1, none⟩ = some (.int .i64 gq))) (by kernel_rfl) ⟨a0, a1, b0, b1, t0, t1, h0, h1⟩ (fun hHeld => ?_)
        refine wpAnyH_take (i := 0) (oi := ⟨some 38, _, _, _, _, _⟩) (v := ?_) rfl (by kernel_rfl) (by kernel_rfl) (by kernel_rfl) (fun _ _ _ h => h) (Or.inl ⟨by rfl, ?_⟩) (by assumption) ?_
        rotate_left
        · intro w5 hSw
          (try dsimp only at hSw)
          go_simp
          (try with_reducible rfl)
        try simp only [Act.put, List.setIfInBounds_toArray, List.set_cons_zero, List.set_cons_succ]
        refine wpAnyH_take (i := 1) (oi := ⟨some 39, _, _, _, _, _⟩) (v := ?_) rfl (by kernel_rfl) (by kernel_rfl) (by kernel_rfl) (fun _ _ _ h => h) (Or.inl ⟨by rfl, ?_⟩) (by assumption) ?_
        rotate_left
        · intro w5 hSw
          (try dsimp only at hSw)
          go_simp
          (try with_reducible rfl)
        try simp only [Act.put, List.setIfInBounds_toArray, List.set_cons_zero, List.set_cons_succ]
        refine wpAnyH_take (i := 3) (oi := ⟨some 41, _, _, _, _, _⟩) (v := ?_) rfl (by kernel_rfl) (by kernel_rfl) (by kernel_rfl) (fun _ _ _ h => h) (Or.inl ⟨by rfl, ?_⟩) (by assumption) ?_
        rotate_left
        · intro w5 hSw
          (try dsimp only at hSw)
          go_simp
          (try with_reducible rfl)
        try simp only [Act.put, List.setIfInBounds_toArray, List.set_cons_zero, List.set_cons_succ]
        refine wpAnyH_ready (rs := [2]) (by kernel_rfl) (by simp) ?_
        refine AllReadyH.cons (o := ⟨some 40, _, _, _, _, _⟩) rfl (fun K1 hK1 => ?_) AllReadyH.nil
        go_simp
        go_at_call 18
        refine (HC3.out _ HD.out HDG.out).mono ?_
        rintro e w8 ⟨rfl, hb8, j0, j1, j2, j3, j4, j5, j6, j7⟩
        refine hK1.out _ _ ⟨j0, j1, j2, j3, j4, j5, j6, j7⟩ (fun hHeld8 => ?_)
        clear hK1 K1
        try simp only [Act.put, List.setIfInBounds_toArray, List.set_cons_zero, List.set_cons_succ]
        refine wpAnyH_take (i := 4) (oi := ⟨some 42, _, _, _, _, _⟩) (v := ?_) rfl (by kernel_rfl) (by kernel_rfl) (by kernel_rfl) (fun _ _ _ h => h) (Or.inl ⟨by rfl, ?_⟩) (by assumption) ?_
        rotate_left
        · intro w5 hSw
          (try dsimp only at hSw)
          go_simp
          (try with_reducible rfl)
        try simp only [Act.put, List.setIfInBounds_toArray, List.set_cons_zero, List.set_cons_succ]
        refine wpAnyH_take (i := 5) (oi := ⟨some 43, _, _, _, _, _⟩) (v := ?_) rfl (by kernel_rfl) (by kernel_rfl) (by kernel_rfl) (fun _ _ _ h => h) (Or.inl ⟨by rfl, ?_⟩) (by assumption) ?_
        rotate_left
        · intro w5 hSw
          (try dsimp only at hSw)
          go_simp
          (try with_reducible rfl)
        try simp only [Act.put, List.setIfInBounds_toArray, List.set_cons_zero, List.set_cons_succ]
        refine wpAnyH_take (i := 6) (oi := ⟨some 44, _, _, _, _, _⟩) (v := undef) rfl (by kernel_rfl) (by kernel_rfl) (by kernel_rfl) (fun _ _ _ h => h) (Or.inr ⟨by rfl, rfl⟩) (by assumption) ?_
        try simp only [Act.put, List.setIfInBounds_toArray, List.set_cons_zero, List.set_cons_succ]
        refine wpAnyH_take (i := 7) (oi := ⟨some 45, _, _, _, _, _⟩) (v := undef) rfl (by kernel_rfl) (by kernel_rfl) (by kernel_rfl) (fun _ _ _ h => h) (Or.inr ⟨by rfl, rfl⟩) (by assumption) ?_
        try simp only [Act.put, List.setIfInBounds_toArray, List.set_cons_zero, List.set_cons_succ]
        refine wpAnyH_take (i := 8) (oi := ⟨some 46, _, _, _, _, _⟩) (v := ?_) rfl (by kernel_rfl) (by kernel_rfl) (by kernel_rfl) (fun _ _ _ h => h) (Or.inl ⟨by rfl, ?_⟩) (by assumption) ?_
        rotate_left
        · intro w5 hSw
          (try dsimp only at hSw)
          go_simp
          (try with_reducible rfl)
        try simp only [Act.put, List.setIfInBounds_toArray, List.set_cons_zero, List.set_cons_succ]
        refine wpAnyH_done (by kernel_rfl) ?_ _
        go_wp2_with fail
        go_meet
        exact ⟨by rw [hq]; rfl, hideIt (below_via (Below.refl _ w7).drew hb8.out)⟩
      · have q1 : ∀ W, (binOp .neq 29 (.agg #[.int .i64 fc, .int .i64 fq]) (.agg #[.int .i64 c, .int .i64 q])).run Try.prog W = .ok (.bool false) W := fun W => by rw [neq28, hq]; rfl
        refine wp_region_held_drew (S := (fun W => W.cell? ⟨w.heap.size, 0, none⟩ = some (.slice ha T.held.length hc) ∧ W.cell? ⟨w.heap.size, 1, none⟩ = some (.slice va T.wait.length vc) ∧ W.cell? ⟨w.heap.size + 1, 0, none⟩ = some (.int .i64 k) ∧ W.cell? ⟨w.heap.size + 1, 1, none⟩ = some (.int .i64 n) ∧ W.cell? ⟨w.heap.size + 1 + 1, 0, none⟩ = some (.int .i64 c) ∧ W.cell? ⟨w.heap.size + 1 + 1, 1, none⟩ = some (.int .i64 q) ∧ W.cell? ⟨G, 0, none⟩ = some (.int .i64 gc) ∧ W.cell? ⟨G, 1, none⟩ = some (.int .i64 gq))) (by kernel_rfl) ⟨a0, a1, b0, b1, t0, t1, h0, h1⟩ (fun hHeld => ?_)
        refine wpAnyH_take (i := 0) (oi := ⟨some 38, _, _, _, _, _⟩) (v := ?_) rfl (by kernel_rfl) (by kernel_rfl) (by kernel_rfl) (fun _ _ _ h => h) (Or.inl ⟨by rfl, ?_⟩) (by assumption) ?_
        rotate_left
        · intro w5 hSw
          (try dsimp only at hSw)
          go_simp
          (try with_reducible rfl)
        try simp only [Act.put, List.setIfInBounds_toArray, List.set_cons_zero, List.set_cons_succ]
        refine wpAnyH_take (i := 1) (oi := ⟨some 39, _, _, _, _, _⟩) (v := ?_) rfl (by kernel_rfl) (by kernel_rfl) (by kernel_rfl) (fun _ _ _ h => h) (Or.inl ⟨by rfl, ?_⟩) (by assumption) ?_
        rotate_left
        · intro w5 hSw
          (try dsimp only at hSw)
          go_simp
          (try with_reducible rfl)
        try simp only [Act.put, List.setIfInBounds_toArray, List.set_cons_zero, List.set_cons_succ]
        refine wpAnyH_take (i := 3) (oi := ⟨some 41, _, _, _, _, _⟩) (v := ?_) rfl (by kernel_rfl) (by kernel_rfl) (by kernel_rfl) (fun _ _ _ h => h) (Or.inl ⟨by rfl, ?_⟩) (by assumption) ?_
        rotate_left
        · intro w5 hSw
          (try dsimp only at hSw)
          go_simp
          (try with_reducible rfl)
        try simp only [Act.put, List.setIfInBounds_toArray, List.set_cons_zero, List.set_cons_succ]
        refine wpAnyH_ready (rs := [2]) (by kernel_rfl) (by simp) ?_
        refine AllReadyH.cons (o := ⟨some 40, _, _, _, _, _⟩) rfl (fun K1 hK1 => ?_) AllReadyH.nil
        go_simp
        go_at_call 18
        refine (HC3.out _ HD.out HDG.out).mono ?_
        rintro e w8 ⟨rfl, hb8, j0, j1, j2, j3, j4, j5, j6, j7⟩
        refine hK1.out _ _ ⟨j0, j1, j2, j3, j4, j5, j6, j7⟩ (fun hHeld8 => ?_)
        clear hK1 K1
        try simp only [Act.put, List.setIfInBounds_toArray, List.set_cons_zero, List.set_cons_succ]
        refine wpAnyH_take (i := 4) (oi := ⟨some 42, _, _, _, _, _⟩) (v := ?_) rfl (by kernel_rfl) (by kernel_rfl) (by kernel_rfl) (fun _ _ _ h => h) (Or.inl ⟨by rfl, ?_⟩) (by assumption) ?_
        rotate_left
        · intro w5 hSw
          (try dsimp only at hSw)
          go_simp
          (try with_reducible rfl)
        try simp only [Act.put, List.setIfInBounds_toArray, List.set_cons_zero, List.set_cons_succ]
        refine wpAnyH_take (i := 5) (oi := ⟨some 43, _, _, _, _, _⟩) (v := ?_) rfl (by kernel_rfl) (by kernel_rfl) (by kernel_rfl) (fun _ _ _ h => h) (Or.inl ⟨by rfl, ?_⟩) (by assumption) ?_
        rotate_left
        · intro w5 hSw
          (try dsimp only at hSw)
          go_simp
          (try with_reducible rfl)
        try simp only [Act.put, List.setIfInBounds_toArray, List.set_cons_zero, List.set_cons_succ]
        refine wpAnyH_take (i := 6) (oi := ⟨some 44, _, _, _, _, _⟩) (v := ?_) rfl (by kernel_rfl) (by kernel_rfl) (by kernel_rfl) (fun _ _ _ h => h) (Or.inl ⟨by rfl, ?_⟩) (by assumption) ?_
        rotate_left
        · intro w5 hSw
          (try dsimp only at hSw)
          go_simp
          (try with_reducible rfl)
        try simp only [Act.put, List.setIfInBounds_toArray, List.set_cons_zero, List.set_cons_succ]
        refine wpAnyH_ready (rs := [7]) (by kernel_rfl) (by simp) ?_
        refine AllReadyH.cons (o := ⟨some 45, _, _, _, _, _⟩) rfl (fun K1 hK1 => ?_) AllReadyH.nil
        go_simp
        go_at_call 19
        refine (H7.out _ _ _).mono ?_
        rintro e w9 ⟨rfl, hb9⟩
        have hb8s := hb8.out.size
        have hs7 : w.heap.size + 1 + 1 < w7.heap.size := by omega
        have hs8 : w7.drew.heap.size = w7.heap.size := rfl
        rw [hs8] at hb8s
        refine hK1.out _ _ ⟨(hb9.cell (p := ⟨w.heap.size, 0, none⟩) (by show w.heap.size < _; omega)).trans j0, (hb9.cell (p := ⟨w.heap.size, 1, none⟩) (by show w.heap.size < _; omega)).trans j1, (hb9.cell (p := ⟨w.heap.size + 1, 0, none⟩) (by show w.heap.size + 1 < _; omega)).trans j2, (hb9.cell (p := ⟨w.heap.size + 1, 1, none⟩) (by show w.heap.size + 1 < _; omega)).trans j3, (hb9.cell (p := ⟨w.heap.size + 1 + 1, 0, none⟩) (by show w.heap.size + 1 + 1 < _; omega)).trans j4, (hb9.cell (p := ⟨w.heap.size + 1 + 1, 1, none⟩) (by show w.heap.size + 1 + 1 < _; omega)).trans j5, (hb9.cell (p := ⟨G, 0, none⟩) (by show G < _; omega)).trans j6, (hb9.cell (p := ⟨G, 1, none⟩) (by show G < _; omega)).trans j7⟩ (fun hHeld9 => ?_)
        clear hK1 K1
        try simp only [Act.put, List.setIfInBounds_toArray, List.set_cons_zero, List.set_cons_succ]
        refine wpAnyH_take (i := 8) (oi := ⟨some 46, _, _, _, _, _⟩) (v := ?_) rfl (by kernel_rfl) (by kernel_rfl) (by kernel_rfl) (fun _ _ _ h => h) (Or.inl ⟨by rfl, ?_⟩) (by assumption) ?_
        rotate_left
        · intro w5 hSw
          (try dsimp only at hSw)
          go_simp
          (try with_reducible rfl)
        try simp only [Act.put, List.setIfInBounds_toArray, List.set_cons_zero, List.set_cons_succ]
        refine wpAnyH_done (by kernel_rfl) ?_ _
        go_wp2_with fail
        go_meet
        exact ⟨by rw [hq]; rfl, hideIt (below_via (Below.refl _ w7).drew (below_via hb8.out hb9))⟩
    case rest =>
    obtain ⟨rfl, HB9⟩ := hcut
    have HA9 := hideIt (HA7.out.keep HB9.out)
    have HG9 := hideIt ((HB9.out.block _ hGl).trans HG7.out)
    clear HA7 HG7 HB9 HC3 HD HDG p0 p1 a0 a1 b0 b1 t0 t1 r0 r1 g0 g1 s0 s1 g2 g3 h0 h1 hGl
    have nP3 : P ≠ w.heap.size + 1 + 1 + 1 := by omega
    have nP4 : P ≠ w.heap.size + 1 + 1 + 1 + 1 := by omega
    have nG3 : G ≠ w.heap.size + 1 + 1 + 1 := by omega
    have nG4 : G ≠ w.heap.size + 1 + 1 + 1 + 1 := by omega
    have n43 : w.heap.size + 1 + 1 + 1 + 1 ≠ w.heap.size + 1 + 1 + 1 := by omega
    obtain ⟨p0, p1, -, -, -⟩ := two_at HA9.out.box
    have b0 : wc.cell? ⟨w.heap.size + 1, 0, none⟩ = some (.int .i64 k) := HA9.out.bx.c 1 0 rfl rfl
    have b1 : wc.cell? ⟨w.heap.size + 1, 1, none⟩ = some (.int .i64 n) := HA9.out.bx.c 1 1 rfl rfl
    have r0 : wc.cell? ⟨w.heap.size + 1 + 1 + 1, 0, none⟩ = some (.slice none 0 0) := HA9.out.bx.c 3 0 rfl rfl
    have r1 : wc.cell? ⟨w.heap.size + 1 + 1 + 1, 1, none⟩ = some (.slice none 0 0) := HA9.out.bx.c 3 1 rfl rfl
    have g0 : wc.frozen? ⟨w.heap.size + 1 + 1 + 1, 0, none⟩ = false := HA9.out.bx.f 3 0 rfl
    have g1 : wc.frozen? ⟨w.heap.size + 1 + 1 + 1, 1, none⟩ = false := HA9.out.bx.f 3 1 rfl
    have s0 : wc.cell? ⟨w.heap.size + 1 + 1 + 1 + 1, 0, none⟩ = some (.int .i64 0) := HA9.out.bx.c 4 0 rfl rfl
    have s1 : wc.cell? ⟨w.heap.size + 1 + 1 + 1 + 1, 1, none⟩ = some (.int .i64 0) := HA9.out.bx.c 4 1 rfl rfl
    have g2 : wc.frozen? ⟨w.heap.size + 1 + 1 + 1 + 1, 0, none⟩ = false := HA9.out.bx.f 4 0 rfl
    have g3 : wc.frozen? ⟨w.heap.size + 1 + 1 + 1 + 1, 1, none⟩ = false := HA9.out.bx.f 4 1 rfl
    cases hz : (!((fc, fq) == (c, q)) || ((gc, gq) == zT))
    · have HE : Hid (RES = (⟨nh ++ [((k, n), (gc, gq))], wiL nv ((k, n), (gc, gq))⟩, (gc, gq), 0)) := by
        show RES = _
        rw [Bool.or_eq_false_iff, Bool.not_eq_false'] at hz
        rw [HX.out, if_neg (by rw [hz.1, hz.2]; simp)]
      clear hz HX
      obtain ⟨h0, h1, -, -, hGl⟩ := two_at HG9.out
      have hPl := HA9.out.size
      have nGP : G ≠ P := fun e => by
        have h1 := HG9.out
        rw [e, HA9.out.box] at h1
        simp at h1
      have e2 := two_heap wc (.cells #[.int .i64 k, .int .i64 n, .int .i64 gc, .int .i64 gq] 34) (.cells #[.int .i64 k, .int .i64 n, .int .i64 gc, .int .i64 gq] 34)
      have eb := below2 wc (.cells #[.int .i64 k, .int .i64 n, .int .i64 gc, .int .i64 gq] 34) (.cells #[.int .i64 k, .int .i64 n, .int .i64 gc, .int .i64 gq] 34)
      obtain ⟨a', c', w12, hrun, AR9, d0, d1, df, dl, dN⟩ := HA9.out.appK (c := 1) (x := ((k, n), (gc, gq))) (HA9.out.keep eb) (Nat.le_refl _) e2.1 e2.2.1 (by dsimp only; omega)
      have hG12 : w12.heap[G]? = some (.cells #[.int .i64 gc, .int .i64 gq] 29 (0, 0)) := by
        obtain ⟨v', w', hrun', _, hgr'⟩ := app1 (enc := holE) (t := 23) holK hol1 Try.underlying23 info44 rfl (by omega) _ _ _ _ ((k, n), (gc, gq)) (wc.heap.size + 1) 1 (HA9.out.keep eb).bx.size (HA9.out.keep eb).own.oh e2.2.1 (by dsimp only; omega) (by unfold maxLen; dsimp only; omega)
        have e := hrun'.symm.trans hrun
        simp only [Result.ok.injEq] at e
        obtain ⟨rfl, rfl⟩ := e
        exact box_type hgr' (HA9.out.keep eb).own.oh ((eb.block _ hGl).trans HG9.out) (by decide)
      dsimp only at hrun AR9
      have HRUN := hideIt hrun
      have HAR := hideIt AR9
      have HN := hideIt (setOther (b := P) (j := 0) (.slice a' (nh.length + 1) c') dN (by omega))
      have HG12 := hideIt (setOther (b := P) (j := 0) (.slice a' (nh.length + 1) c') hG12 nGP)
      clear hrun AR9 e2 eb dN hG12
      go_upto_region 11 with (at_builtin; refine Lib.wpList_append_run _ rfl _ _ _ _ rfl _ _ rfl rfl _ _ HRUN.out ?_)
      clear HRUN d0 d1 df dl h0 h1 p0 p1 b0 b1 r0 r1 g0 g1 s0 s1 g2 g3
      generalize w12.setCell ⟨P, 0, none⟩ (.slice a' (nh.length + 1) c') = w13 at *
      generalize wc.heap.size = N at *
      have hHv : Hols w13 (.slice va' nv.length vc') nv := own_sgot HAR.out.own.ov (by show nv.length * 32 ≤ _; omega)
      have HC5 := hideIt (without_is _ nv k n gc gq w13 hHv)
      unfold HolsBack at HC5
      obtain ⟨p0, p1, -, -, -⟩ := two_at HAR.out.box
      have m0 : w13.cell? ⟨N, 0, none⟩ = some (.int .i64 k) := by rw [cell_at HN.out]; rfl
      have m1 : w13.cell? ⟨N, 1, none⟩ = some (.int .i64 n) := by rw [cell_at HN.out]; rfl
      have m2 : w13.cell? ⟨N, 2, none⟩ = some (.int .i64 gc) := by rw [cell_at HN.out]; rfl
      have m3 : w13.cell? ⟨N, 3, none⟩ = some (.int .i64 gq) := by rw [cell_at HN.out]; rfl
      go_wp2_with fail
      refine HC5.out.mono ?_
      rintro e w14 ⟨v5, rfl, ho5, hb5⟩
      dsimp only
      obtain ⟨a5, c5, rfl⟩ := own_len ho5
      have HA14 := hideIt (HAR.out.keep hb5)
      have HG14 := hideIt ((hb5.block _ (Array.getElem?_eq_some_iff.1 HG12.out).1).trans HG12.out)
      have HA15 := hideIt (HA14.out.setV (v2 := .slice a5 (wiL nv ((k, n), (gc, gq))).length c5) (wt2 := wiL nv ((k, n), (gc, gq))) (by simp; omega) (own_base ho5 HAR.out.bx.size))
      have HG15 := hideIt (setOther (b := P) (j := 1) (.slice a5 (wiL nv ((k, n), (gc, gq))).length c5) HG14.out nGP)
      obtain ⟨y0, y1, -, yf, yl⟩ := two_at HA14.out.box
      clear p0 p1 m0 m1 m2 m3 ho5 hb5 hHv HC5 HAR HN HG12
      generalize (wiL nv ((k, n), (gc, gq))).length = ln at *
      go_upto_region 12 with fail
      clear y0 y1 yf yl HA14 HG14
      generalize w14.setCell ⟨P, 1, none⟩ (.slice a5 ln c5) = w15 at *
      obtain ⟨p0, p1, -, -, -⟩ := two_at HA15.out.box
      obtain ⟨h0, h1, -, -, hGl2⟩ := two_at HG15.out
      have r0 : w15.cell? ⟨w.heap.size + 1 + 1 + 1, 0, none⟩ = some (.slice none 0 0) := HA15.out.bx.c 3 0 rfl rfl
      have r1 : w15.cell? ⟨w.heap.size + 1 + 1 + 1, 1, none⟩ = some (.slice none 0 0) := HA15.out.bx.c 3 1 rfl rfl
      have g0 : w15.frozen? ⟨w.heap.size + 1 + 1 + 1, 0, none⟩ = false := HA15.out.bx.f 3 0 rfl
      have g1 : w15.frozen? ⟨w.heap.size + 1 + 1 + 1, 1, none⟩ = false := HA15.out.bx.f 3 1 rfl
      have s0 : w15.cell? ⟨w.heap.size + 1 + 1 + 1 + 1, 0, none⟩ = some (.int .i64 0) := HA15.out.bx.c 4 0 rfl rfl
      have s1 : w15.cell? ⟨w.heap.size + 1 + 1 + 1 + 1, 1, none⟩ = some (.int .i64 0) := HA15.out.bx.c 4 1 rfl rfl
      have g2 : w15.frozen? ⟨w.heap.size + 1 + 1 + 1 + 1, 0, none⟩ = false := HA15.out.bx.f 4 0 rfl
      have g3 : w15.frozen? ⟨w.heap.size + 1 + 1 + 1 + 1, 1, none⟩ = false := HA15.out.bx.f 4 1 rfl
      have RT := hideIt (HA15.out.ret2 rfl rfl (.int .i64 gc) (.int .i64 gq))
      have RC := hideIt (And.intro (two_at (p := w.heap.size + 1 + 1 + 1) RT.out.1).1 (And.intro (two_at (p := w.heap.size + 1 + 1 + 1) RT.out.1).2.1 (And.intro (two_at (p := w.heap.size + 1 + 1 + 1 + 1) RT.out.2.1).1 (two_at (p := w.heap.size + 1 + 1 + 1 + 1) RT.out.2.1).2.1)))
      go_region
      go_wp2
      exact bodyPost_ret (v := .tuple #[.agg #[.slice a' (nh.length + 1) c', .slice a5 ln c5], .agg #[.int .i64 gc, .int .i64 gq], .int .i64 0]) (by simp [results, Try.results9, go_sem, RC.out.1, RC.out.2.1, RC.out.2.2.1, RC.out.2.2.2]) rfl (by rw [HE.out]; exact ⟨_, _, rfl, ⟨RT.out.2.2.1.oh.drew, RT.out.2.2.1.ov.drew⟩, RT.out.2.2.2.drew⟩)
    · have HE : Hid (RES = (⟨nh, nv⟩, zT, 0)) := by
        show RES = _
        rw [HX.out, if_pos (by rw [Bool.or_eq_true, Bool.not_eq_true'] at hz; exact hz)]
      clear hz HX
      have RT := hideIt (HA9.out.ar.ret2 rfl rfl (.int .i64 0) (.int .i64 0))
      have RC := hideIt (And.intro (two_at (p := w.heap.size + 1 + 1 + 1) RT.out.1).1 (And.intro (two_at (p := w.heap.size + 1 + 1 + 1) RT.out.1).2.1 (And.intro (two_at (p := w.heap.size + 1 + 1 + 1 + 1) RT.out.2.1).1 (two_at (p := w.heap.size + 1 + 1 + 1 + 1) RT.out.2.1).2.1)))
      go_wp2
      exact bodyPost_ret (v := .tuple #[.agg #[.slice ha' nh.length hc', .slice va' nv.length vc'], .agg #[.int .i64 0, .int .i64 0], .int .i64 0]) (by simp [results, Try.results9, go_sem, RC.out.1, RC.out.2.1, RC.out.2.2.1, RC.out.2.2.2]) rfl (by rw [HE.out]; exact ⟨_, _, rfl, RT.out.2.2.1, RT.out.2.2.2⟩)
  · have HE : Hid (freeL T (k, n) (c, q) = (zTab, zT, refE T (k, n) (c, q))) := by
      show freeL _ _ _ = _
      unfold freeL
      rw [if_neg hR]
    have HR := hideIt hR
    generalize freeL T (k, n) (c, q) = RES at *
    generalize refE T (k, n) (c, q) = re at *
    go_enter Try.func9, Try.ntmps9
    go_wp2_with fail
    refine (H1.out _ X0.out.bel).mono ?_
    rintro e w1 ⟨rfl, hb⟩
    dsimp only
    have X1 := hideIt (X0.out.keep hb)
    clear hb H1 X0 H2 H3 H4 H5 H7
    have r0 : w1.cell? ⟨w.heap.size + 1 + 1 + 1, 0, none⟩ = some (.slice none 0 0) := X1.out.c 3 0 rfl rfl
    have r1 : w1.cell? ⟨w.heap.size + 1 + 1 + 1, 1, none⟩ = some (.slice none 0 0) := X1.out.c 3 1 rfl rfl
    have g0 : w1.frozen? ⟨w.heap.size + 1 + 1 + 1, 0, none⟩ = false := X1.out.f 3 0 rfl
    have g1 : w1.frozen? ⟨w.heap.size + 1 + 1 + 1, 1, none⟩ = false := X1.out.f 3 1 rfl
    have s0 : w1.cell? ⟨w.heap.size + 1 + 1 + 1 + 1, 0, none⟩ = some (.int .i64 0) := X1.out.c 4 0 rfl rfl
    have s1 : w1.cell? ⟨w.heap.size + 1 + 1 + 1 + 1, 1, none⟩ = some (.int .i64 0) := X1.out.c 4 1 rfl rfl
    have g2 : w1.frozen? ⟨w.heap.size + 1 + 1 + 1 + 1, 0, none⟩ = false := X1.out.f 4 0 rfl
    have g3 : w1.frozen? ⟨w.heap.size + 1 + 1 + 1 + 1, 1, none⟩ = false := X1.out.f 4 1 rfl
    have n43 : w.heap.size + 1 + 1 + 1 + 1 ≠ w.heap.size + 1 + 1 + 1 := by omega
    have hb3 := X1.out.at_ 3 (by simp)
    have hb4 := X1.out.at_ 4 (by simp)
    have RH := hideIt (setOther (b := w.heap.size + 1 + 1 + 1 + 1) (j := 1) (.int .i64 0) (setOther (b := w.heap.size + 1 + 1 + 1 + 1) (j := 0) (.int .i64 0) (put2 (b := w.heap.size + 1 + 1 + 1) hb3 (.slice none 0 0) (.slice none 0 0)) (by omega)) (by omega))
    have RK := hideIt (put2 (b := w.heap.size + 1 + 1 + 1 + 1) (setOther (b := w.heap.size + 1 + 1 + 1) (j := 1) (.slice none 0 0) (setOther (b := w.heap.size + 1 + 1 + 1) (j := 0) (.slice none 0 0) hb4 (by omega)) (by omega)) (.int .i64 0) (.int .i64 0))
    have RC := hideIt (And.intro (two_at RH.out).1 (And.intro (two_at RH.out).2.1 (And.intro (two_at RK.out).1 (two_at RK.out).2.1)))
    clear hb3 hb4
    go_wp2
    exact bodyPost_ret (v := .tuple #[.agg #[.slice none 0 0, .slice none 0 0], .agg #[.int .i64 0, .int .i64 0], .int .i64 re]) (by simp [results, Try.results9, go_sem, RC.out.1, RC.out.2.1, RC.out.2.2.1, RC.out.2.2.2]) rfl (by rw [HE.out]; exact ⟨_, _, rfl, zOwn _ _, belowSet _ (belowSet _ (belowSet _ (belowSet _ X1.out.bel (by omega)) (by omega)) (by omega)) (by omega)⟩)
end Go.Proofs.Ytgfpeknhabbkbab
