/- The document's own: letting go. -/
import Derived.Test.YtgfpeknhabbkbaaRefF
namespace Go.Proofs.Ytgfpeknhabbkbaa
open Go.RowKit
set_option linter.all false
set_option maxHeartbeats 16000000 in
set_option maxRecDepth 100000 in
theorem rFree_is (T : TabV) (h v : Value) (k n c q : Int) (w : World) (hT : Tab w T h v) : Calls Try.prog 16 #[.agg #[h, v], .agg #[.int .i64 k, .int .i64 n], .agg #[.int .i64 c, .int .i64 q]] w (FreeBack (freeL T (k, n) (c, q)) w) := by
  have H1 := hideIt (fun W (hW : Below w.heap.size w W) => rChecks_is T h v k n c q W (hT.keep hW))
  have H2 := hideIt (fun W (hW : Below w.heap.size w W) => rHolder_is T h v k n W (hT.keep hW))
  have H4 := hideIt (fun W (hW : Below w.heap.size w W) => rCopy_is T h v W (hT.keep hW))
  have HW := hideIt (fun v l o0 o1 o2 o3 W h => rWithout_is v l o0 o1 o2 o3 W h)
  have HO := hideIt (fun a b c d W => rOlder_is a b c d W)
  have X0 := hideIt (Bx.first w [.cells #[h, v] 24, .cells #[.int .i64 k, .int .i64 n] 26, .cells #[.int .i64 c, .int .i64 q] 28, .cells #[.slice none 0 0, .slice none 0 0] 24, .cells #[.int .i64 0, .int .i64 0] 28])
  have hl1 := hT.held.1
  have hl2 := hT.wait.1
  obtain ⟨ha, hc, rfl⟩ := hT.held.slice
  obtain ⟨va, vc, rfl, v8, vr⟩ := hT.wait.hols
  have VH := hideIt vr
  clear hT vr v8
  unfold CopyBack at H4
  unfold HolsBack at HW
  simp only [List.foldl_cons, List.foldl_nil] at X0
  have n43 : w.heap.size + 1 + 1 + 1 + 1 ≠ w.heap.size + 1 + 1 + 1 := by omega
  by_cases hR : refE T (k, n) (c, q) = 0
  · have HX := hideIt (free_doc hR)
    rw [hR] at H1
    have hlen := chk_len (ref_ok hR).1
    clear hR hl1 hl2
    generalize freeL T (k, n) (c, q) = RES at *
    generalize hdT T.held (k, n) = f at *
    obtain ⟨fc, fq⟩ := f
    generalize heldB T.held (k, n) = hd at *
    go_enter Try.func16, Try.ntmps16
    go_wp2_with fail
    refine (H1.out _ X0.out.bel).mono ?_
    rintro e w1 ⟨rfl, hb⟩
    dsimp only
    have X1 := hideIt (X0.out.keep hb)
    clear hb H1 X0
    go_upto_region 4 with fail
    have a0 : w1.cell? ⟨w.heap.size, 0, none⟩ = some (.slice ha T.held.length hc) := X1.out.c 0 0 rfl rfl
    have a1 : w1.cell? ⟨w.heap.size, 1, none⟩ = some (.slice va T.wait.length vc) := X1.out.c 0 1 rfl rfl
    have b0 : w1.cell? ⟨w.heap.size + 1, 0, none⟩ = some (.int .i64 k) := X1.out.c 1 0 rfl rfl
    have b1 : w1.cell? ⟨w.heap.size + 1, 1, none⟩ = some (.int .i64 n) := X1.out.c 1 1 rfl rfl
    have t0 : w1.cell? ⟨w.heap.size + 1 + 1, 0, none⟩ = some (.int .i64 c) := X1.out.c 2 0 rfl rfl
    have t1 : w1.cell? ⟨w.heap.size + 1 + 1, 1, none⟩ = some (.int .i64 q) := X1.out.c 2 1 rfl rfl
    go_wp2_with fail
    refine (H4.out _ X1.out.bel).mono ?_
    rintro e w2 ⟨h', v', rfl, ho, hsp, hb⟩
    dsimp only
    obtain ⟨ha', hc', rfl⟩ := own_len ho.oh
    obtain ⟨va', vc', rfl⟩ := own_len ho.ov
    have hs1 := X1.out.size
    have hb6 := below2 w2 (.cells #[.slice ha' T.held.length hc', .slice va' T.wait.length vc'] 24) (.cells #[.int .i64 k, .int .i64 n, .int .i64 c, .int .i64 q] 44)
    have h6 := two_heap w2 (.cells #[.slice ha' T.held.length hc', .slice va' T.wait.length vc'] 24) (.cells #[.int .i64 k, .int .i64 n, .int .i64 c, .int .i64 q] 44)
    have X2 := hideIt ((X1.out.keep hb).keep (below1 w2 (.cells #[.slice ha' T.held.length hc', .slice va' T.wait.length vc'] 24)))
    have HA : Hid (AQ w [.cells #[.slice ha T.held.length hc, .slice va T.wait.length vc] 24, .cells #[.int .i64 k, .int .i64 n] 26, .cells #[.int .i64 c, .int .i64 q] 28, .cells #[.slice none 0 0, .slice none 0 0] 24, .cells #[.int .i64 0, .int .i64 0] 28] (w2.heap.size + 1) #[.int .i64 k, .int .i64 n, .int .i64 c, .int .i64 q] 44 T w2.heap.size (.slice ha' T.held.length hc') (.slice va' T.wait.length vc') ((w2.alloc (.cells #[.slice ha' T.held.length hc', .slice va' T.wait.length vc'] 24)).alloc (.cells #[.int .i64 k, .int .i64 n, .int .i64 c, .int .i64 q] 44))) :=
      ⟨(X1.out.keep hb).keep hb6, h6.2.1, h6.1, ⟨own_base (own_keep ho.oh hb6) hs1, own_base (own_keep ho.ov hb6) hs1⟩, hsp, Nat.le_trans hs1 hb.size, by omega⟩
    clear a0 a1 b0 b1 t0 t1 ho hsp hb hb6 h6 hs1 X1 H4
    go_upto_region 5 with fail
    have a0 : (w2.alloc (.cells #[.slice ha' T.held.length hc', .slice va' T.wait.length vc'] 24)).cell? ⟨w.heap.size, 0, none⟩ = some (.slice ha T.held.length hc) := X2.out.c 0 0 rfl rfl
    have a1 : (w2.alloc (.cells #[.slice ha' T.held.length hc', .slice va' T.wait.length vc'] 24)).cell? ⟨w.heap.size, 1, none⟩ = some (.slice va T.wait.length vc) := X2.out.c 0 1 rfl rfl
    have b0 : (w2.alloc (.cells #[.slice ha' T.held.length hc', .slice va' T.wait.length vc'] 24)).cell? ⟨w.heap.size + 1, 0, none⟩ = some (.int .i64 k) := X2.out.c 1 0 rfl rfl
    have b1 : (w2.alloc (.cells #[.slice ha' T.held.length hc', .slice va' T.wait.length vc'] 24)).cell? ⟨w.heap.size + 1, 1, none⟩ = some (.int .i64 n) := X2.out.c 1 1 rfl rfl
    have t0 : (w2.alloc (.cells #[.slice ha' T.held.length hc', .slice va' T.wait.length vc'] 24)).cell? ⟨w.heap.size + 1 + 1, 0, none⟩ = some (.int .i64 c) := X2.out.c 2 0 rfl rfl
    have t1 : (w2.alloc (.cells #[.slice ha' T.held.length hc', .slice va' T.wait.length vc'] 24)).cell? ⟨w.heap.size + 1 + 1, 1, none⟩ = some (.int .i64 q) := X2.out.c 2 1 rfl rfl
    go_upto_region 6 with fail
    clear a0 a1 b0 b1 t0 t1 X2
    generalize (w2.alloc (.cells #[.slice ha' T.held.length hc', .slice va' T.wait.length vc'] 24)).alloc (.cells #[.int .i64 k, .int .i64 n, .int .i64 c, .int .i64 q] 44) = W3 at *
    obtain ⟨K, hK⟩ : ∃ K, w2.heap.size + 1 = K := ⟨_, rfl⟩
    have hK2 : (w2.alloc (.cells #[.slice ha' T.held.length hc', .slice va' T.wait.length vc'] 24)).heap.size = K := by rw [← hK]; simp
    (try rw [hK2])
    (try rw [hK])
    rw [hK] at HA
    clear hK hK2
    generalize w2.heap.size = P at *
    have XA := hideIt HA.out.bx
    have a0 : W3.cell? ⟨w.heap.size, 0, none⟩ = some (.slice ha T.held.length hc) := XA.out.c 0 0 rfl rfl
    have a1 : W3.cell? ⟨w.heap.size, 1, none⟩ = some (.slice va T.wait.length vc) := XA.out.c 0 1 rfl rfl
    have b0 : W3.cell? ⟨w.heap.size + 1, 0, none⟩ = some (.int .i64 k) := XA.out.c 1 0 rfl rfl
    have b1 : W3.cell? ⟨w.heap.size + 1, 1, none⟩ = some (.int .i64 n) := XA.out.c 1 1 rfl rfl
    have t0 : W3.cell? ⟨w.heap.size + 1 + 1, 0, none⟩ = some (.int .i64 c) := XA.out.c 2 0 rfl rfl
    have t1 : W3.cell? ⟨w.heap.size + 1 + 1, 1, none⟩ = some (.int .i64 q) := XA.out.c 2 1 rfl rfl
    go_wp2_with fail
    refine (H2.out _ XA.out.bel).mono ?_
    rintro e w4 ⟨rfl, hb⟩
    dsimp only
    have HA4 := hideIt ((HA.out.keep hb).keep (below1 w4 (.cells #[.int .i64 fc, .int .i64 fq] 28)))
    have G4 := hideIt (heap_alloc_new w4 (.cells #[.int .i64 fc, .int .i64 fq] 28))
    clear a0 a1 b0 b1 t0 t1 hb XA HA H2
    go_upto_region 7 with fail
    generalize w4.alloc (.cells #[.int .i64 fc, .int .i64 fq] 28) = W4 at *
    generalize w4.heap.size = G at *
    have lP := HA4.out.lP
    simp only [List.length_cons, List.length_nil] at lP
    have nP3 : P ≠ w.heap.size + 1 + 1 + 1 := by omega
    have nP4 : P ≠ w.heap.size + 1 + 1 + 1 + 1 := by omega
    obtain ⟨f0, f1, -, -, fl⟩ := two_at G4.out
    have X4 := hideIt HA4.out.bx
    have a0 : W4.cell? ⟨w.heap.size, 0, none⟩ = some (.slice ha T.held.length hc) := X4.out.c 0 0 rfl rfl
    have a1 : W4.cell? ⟨w.heap.size, 1, none⟩ = some (.slice va T.wait.length vc) := X4.out.c 0 1 rfl rfl
    have b0 : W4.cell? ⟨w.heap.size + 1, 0, none⟩ = some (.int .i64 k) := X4.out.c 1 0 rfl rfl
    have b1 : W4.cell? ⟨w.heap.size + 1, 1, none⟩ = some (.int .i64 n) := X4.out.c 1 1 rfl rfl
    have t0 : W4.cell? ⟨w.heap.size + 1 + 1, 0, none⟩ = some (.int .i64 c) := X4.out.c 2 0 rfl rfl
    have t1 : W4.cell? ⟨w.heap.size + 1 + 1, 1, none⟩ = some (.int .i64 q) := X4.out.c 2 1 rfl rfl
    cases hh : (hd && ((fc, fq) == (c, q)))
    · rw [hh] at HX
      simp only [Bool.false_eq_true, if_false] at HX
      have HC := hideIt (HW.out _ T.wait k n c q W4 (own_sgot HA4.out.own.ov (by omega)))
      obtain ⟨p0, p1, -, -, pl⟩ := two_at HA4.out.box
      have m0 : W4.cell? ⟨K, 0, none⟩ = some (.int .i64 k) := by rw [cell_at HA4.out.hk]; rfl
      have m1 : W4.cell? ⟨K, 1, none⟩ = some (.int .i64 n) := by rw [cell_at HA4.out.hk]; rfl
      have m2 : W4.cell? ⟨K, 2, none⟩ = some (.int .i64 c) := by rw [cell_at HA4.out.hk]; rfl
      have m3 : W4.cell? ⟨K, 3, none⟩ = some (.int .i64 q) := by rw [cell_at HA4.out.hk]; rfl
      generalize wiL T.wait ((k, n), (c, q)) = nv at *
      cases hd
      · clear hh
        go_upto_region 8 with fail
        go_wp2_with fail
        refine HC.out.mono ?_
        rintro e w5 ⟨v5, rfl, ho5, hb5⟩
        dsimp only
        obtain ⟨a5, c5, rfl⟩ := own_len ho5
        have HA5 := hideIt (HA4.out.keep hb5)
        have HA6 := hideIt (HA4.out.setV (c := ⟨ho5, hb5⟩))
        obtain ⟨y0, y1, yf0, yf1, yl⟩ := two_at HA5.out.box
        have HE : Hid (RES = (⟨T.held, nv⟩, zT, 0)) := hideIt HX.out
        clear p0 p1 m0 m1 m2 m3 pl ho5 hb5 HC HA4 f0 f1 fl G4 a0 a1 b0 b1 t0 t1 X4 HX
        go_upto_region 9 with fail
        clear y0 y1 yf0 yf1 yl HA5
        generalize w5.setCell ⟨P, 1, none⟩ (.slice a5 nv.length c5) = W6 at *
        have XB := hideIt HA6.out.bx
        have r0 : W6.cell? ⟨w.heap.size + 1 + 1 + 1, 0, none⟩ = some (.slice none 0 0) := XB.out.c 3 0 rfl rfl
        have r1 : W6.cell? ⟨w.heap.size + 1 + 1 + 1, 1, none⟩ = some (.slice none 0 0) := XB.out.c 3 1 rfl rfl
        have g0 : W6.frozen? ⟨w.heap.size + 1 + 1 + 1, 0, none⟩ = false := XB.out.f 3 0 rfl
        have g1 : W6.frozen? ⟨w.heap.size + 1 + 1 + 1, 1, none⟩ = false := XB.out.f 3 1 rfl
        have s0 : W6.cell? ⟨w.heap.size + 1 + 1 + 1 + 1, 0, none⟩ = some (.int .i64 0) := XB.out.c 4 0 rfl rfl
        have s1 : W6.cell? ⟨w.heap.size + 1 + 1 + 1 + 1, 1, none⟩ = some (.int .i64 0) := XB.out.c 4 1 rfl rfl
        have g2 : W6.frozen? ⟨w.heap.size + 1 + 1 + 1 + 1, 0, none⟩ = false := XB.out.f 4 0 rfl
        have g3 : W6.frozen? ⟨w.heap.size + 1 + 1 + 1 + 1, 1, none⟩ = false := XB.out.f 4 1 rfl
        have osz : w.heap.size + 1 + 1 + 1 + 1 < W6.heap.size := by have := XB.out.size; simp at this; omega
        obtain ⟨p0, p1, -, -, pl⟩ := two_at HA6.out.box
        have RT := hideIt (HA6.out.ar.ret2 rfl rfl (.int .i64 0) (.int .i64 0))
        have RC := hideIt (And.intro (two_at (p := w.heap.size + 1 + 1 + 1) RT.out.1).1 (And.intro (two_at (p := w.heap.size + 1 + 1 + 1) RT.out.1).2.1 (And.intro (two_at (p := w.heap.size + 1 + 1 + 1 + 1) RT.out.2.1).1 (two_at (p := w.heap.size + 1 + 1 + 1 + 1) RT.out.2.1).2.1)))
        go_wp2
        exact bodyPost_ret (v := .tuple #[.agg #[.slice ha' T.held.length hc', .slice a5 nv.length c5], .agg #[.int .i64 0, .int .i64 0], .int .i64 0]) (by simp [results, Try.results16, go_sem, RC.out.1, RC.out.2.1, RC.out.2.2.1, RC.out.2.2.2]) rfl (by rw [HE.out]; exact ⟨_, _, rfl, RT.out.2.2.1, RT.out.2.2.2⟩)
      · simp only [Bool.true_and] at hh
        have e1 : ∀ W, (binOp .neq 28 (.agg #[.int .i64 fc, .int .i64 fq]) (.agg #[.int .i64 c, .int .i64 q])).run Try.prog W = .ok (.bool true) W := fun W => by rw [neq28, hh]; rfl
        clear hh
        go_upto_region 8 with fail
        go_wp2_with fail
        refine HC.out.mono ?_
        rintro e w5 ⟨v5, rfl, ho5, hb5⟩
        dsimp only
        obtain ⟨a5, c5, rfl⟩ := own_len ho5
        have HA5 := hideIt (HA4.out.keep hb5)
        have HA6 := hideIt (HA4.out.setV (c := ⟨ho5, hb5⟩))
        obtain ⟨y0, y1, yf0, yf1, yl⟩ := two_at HA5.out.box
        have HE : Hid (RES = (⟨T.held, nv⟩, zT, 0)) := hideIt HX.out
        clear p0 p1 m0 m1 m2 m3 pl ho5 hb5 HC HA4 f0 f1 fl G4 a0 a1 b0 b1 t0 t1 X4 HX
        go_upto_region 9 with fail
        clear y0 y1 yf0 yf1 yl HA5
        generalize w5.setCell ⟨P, 1, none⟩ (.slice a5 nv.length c5) = W6 at *
        have XB := hideIt HA6.out.bx
        have r0 : W6.cell? ⟨w.heap.size + 1 + 1 + 1, 0, none⟩ = some (.slice none 0 0) := XB.out.c 3 0 rfl rfl
        have r1 : W6.cell? ⟨w.heap.size + 1 + 1 + 1, 1, none⟩ = some (.slice none 0 0) := XB.out.c 3 1 rfl rfl
        have g0 : W6.frozen? ⟨w.heap.size + 1 + 1 + 1, 0, none⟩ = false := XB.out.f 3 0 rfl
        have g1 : W6.frozen? ⟨w.heap.size + 1 + 1 + 1, 1, none⟩ = false := XB.out.f 3 1 rfl
        have s0 : W6.cell? ⟨w.heap.size + 1 + 1 + 1 + 1, 0, none⟩ = some (.int .i64 0) := XB.out.c 4 0 rfl rfl
        have s1 : W6.cell? ⟨w.heap.size + 1 + 1 + 1 + 1, 1, none⟩ = some (.int .i64 0) := XB.out.c 4 1 rfl rfl
        have g2 : W6.frozen? ⟨w.heap.size + 1 + 1 + 1 + 1, 0, none⟩ = false := XB.out.f 4 0 rfl
        have g3 : W6.frozen? ⟨w.heap.size + 1 + 1 + 1 + 1, 1, none⟩ = false := XB.out.f 4 1 rfl
        have osz : w.heap.size + 1 + 1 + 1 + 1 < W6.heap.size := by have := XB.out.size; simp at this; omega
        obtain ⟨p0, p1, -, -, pl⟩ := two_at HA6.out.box
        have RT := hideIt (HA6.out.ar.ret2 rfl rfl (.int .i64 0) (.int .i64 0))
        have RC := hideIt (And.intro (two_at (p := w.heap.size + 1 + 1 + 1) RT.out.1).1 (And.intro (two_at (p := w.heap.size + 1 + 1 + 1) RT.out.1).2.1 (And.intro (two_at (p := w.heap.size + 1 + 1 + 1 + 1) RT.out.2.1).1 (two_at (p := w.heap.size + 1 + 1 + 1 + 1) RT.out.2.1).2.1)))
        go_wp2
        exact bodyPost_ret (v := .tuple #[.agg #[.slice ha' T.held.length hc', .slice a5 nv.length c5], .agg #[.int .i64 0, .int .i64 0], .int .i64 0]) (by simp [results, Try.results16, go_sem, RC.out.1, RC.out.2.1, RC.out.2.2.1, RC.out.2.2.2]) rfl (by rw [HE.out]; exact ⟨_, _, rfl, RT.out.2.2.1, RT.out.2.2.2⟩)
    · rw [hh] at HX
      simp only [if_true] at HX
      rw [Bool.and_eq_true] at hh
      obtain ⟨rfl, hh⟩ := hh
      have e1 : ∀ W, (binOp .neq 28 (.agg #[.int .i64 fc, .int .i64 fq]) (.agg #[.int .i64 c, .int .i64 q])).run Try.prog W = .ok (.bool false) W := fun W => by rw [neq28, hh]; rfl
      clear hh
      have HC := hideIt (HW.out _ T.held k n c q W4 (own_sgot HA4.out.own.oh (by omega)))
      obtain ⟨p0, p1, -, -, pl⟩ := two_at HA4.out.box
      have m0 : W4.cell? ⟨K, 0, none⟩ = some (.int .i64 k) := by rw [cell_at HA4.out.hk]; rfl
      have m1 : W4.cell? ⟨K, 1, none⟩ = some (.int .i64 n) := by rw [cell_at HA4.out.hk]; rfl
      have m2 : W4.cell? ⟨K, 2, none⟩ = some (.int .i64 c) := by rw [cell_at HA4.out.hk]; rfl
      have m3 : W4.cell? ⟨K, 3, none⟩ = some (.int .i64 q) := by rw [cell_at HA4.out.hk]; rfl
      have hlh := wiL_len T.held ((k, n), (c, q))
      generalize wiL T.held ((k, n), (c, q)) = nh at *
      go_upto_region 10 with fail
      go_wp2_with fail
      refine HC.out.mono ?_
      rintro e w5 ⟨h5, rfl, ho5, hb5⟩
      dsimp only
      obtain ⟨a5, c5, rfl⟩ := own_len ho5
      have HA5 := hideIt (HA4.out.keep hb5)
      have HA6 := hideIt (HA4.out.setH (c := ⟨ho5, hb5⟩))
      obtain ⟨y0, y1, yf0, yf1, yl⟩ := two_at HA5.out.box
      clear p0 p1 m0 m1 m2 m3 pl ho5 hb5 HC HA4 f0 f1 fl G4 a0 a1 b0 b1 t0 t1 X4
      go_upto_region 11 with fail
      clear y0 y1 yf0 yf1 yl HA5
      generalize w5.setCell ⟨P, 0, none⟩ (.slice a5 nh.length c5) = W6 at *
      have hb7 := below1 W6 (.cells #[.int .i64 0, .int .i64 0] 28)
      have F7 : Hid (FN w [.cells #[.slice ha T.held.length hc, .slice va T.wait.length vc] 24, .cells #[.int .i64 k, .int .i64 n] 26, .cells #[.int .i64 c, .int .i64 q] 28, .cells #[.slice none 0 0, .slice none 0 0] 24, .cells #[.int .i64 0, .int .i64 0] 28] K #[.int .i64 k, .int .i64 n, .int .i64 c, .int .i64 q] ⟨nh, T.wait⟩ P (.slice a5 nh.length c5) (.slice va' T.wait.length vc') W6.heap.size zT (W6.alloc (.cells #[.int .i64 0, .int .i64 0] 28))) := ⟨HA6.out.keep hb7, heap_alloc_new W6 _, HA6.out.bx.size⟩
      clear hb7 HA6
      go_upto_region 13 with fail
      generalize W6.alloc (.cells #[.int .i64 0, .int .i64 0] 28) = W7 at *
      have hN4 : W6.heap.size ≠ w.heap.size + 1 + 1 + 1 + 1 := by have := F7.out.lN; simp at this; omega
      generalize W6.heap.size = N at *
      go_loopw [15] (fun v5 wr => ∃ i : Nat, v5 = .int .i64 i ∧ i ≤ T.wait.length ∧ Hid (FN w [.cells #[.slice ha T.held.length hc, .slice va T.wait.length vc] 24, .cells #[.int .i64 k, .int .i64 n] 26, .cells #[.int .i64 c, .int .i64 q] 28, .cells #[.slice none 0 0, .slice none 0 0] 24, .cells #[.int .i64 0, .int .i64 0] 28] K #[.int .i64 k, .int .i64 n, .int .i64 c, .int .i64 q] ⟨nh, T.wait⟩ P (.slice a5 nh.length c5) (.slice va' T.wait.length vc') N (oldL (qL (T.wait.take i) (k, n))) wr)) (fun v _ => T.wait.length - (intOf v).toNat)
      case atStart => exact ⟨0, rfl, Nat.zero_le _, hideIt (by simpa [oldL, qL] using F7.out)⟩
      case round =>
        clear F7
        obtain ⟨i, rfl, hi, X⟩ := hrel
        have XB := hideIt X.out.aq.bx
        by_cases hlt : i < T.wait.length
        · have hltI : (i : Int) < (T.wait.length : Int) := by omega
          have hi0 : (0 : Int) ≤ (i : Int) := by omega
          have hiw : IntKind.i64.wrap ((i : Int) + 1) = ((i + 1 : Nat) : Int) := by rw [IntKind.wrap_i64]; omega
          have HQ := hideIt (old_q (k := (k, n)) hlt)
          generalize oldL (qL (T.wait.take i) (k, n)) = g at *
          obtain ⟨gc, gq⟩ := g
          have a0 : wr.cell? ⟨w.heap.size, 0, none⟩ = some (.slice ha T.held.length hc) := XB.out.c 0 0 rfl rfl
          have a1 : wr.cell? ⟨w.heap.size, 1, none⟩ = some (.slice va T.wait.length vc) := XB.out.c 0 1 rfl rfl
          have b0 : wr.cell? ⟨w.heap.size + 1, 0, none⟩ = some (.int .i64 k) := XB.out.c 1 0 rfl rfl
          have b1 : wr.cell? ⟨w.heap.size + 1, 1, none⟩ = some (.int .i64 n) := XB.out.c 1 1 rfl rfl
          have t0 : wr.cell? ⟨w.heap.size + 1 + 1, 0, none⟩ = some (.int .i64 c) := XB.out.c 2 0 rfl rfl
          have t1 : wr.cell? ⟨w.heap.size + 1 + 1, 1, none⟩ = some (.int .i64 q) := XB.out.c 2 1 rfl rfl
          obtain ⟨b, off, rfl, hbl, q0, q1, q2, q3⟩ := VH.out i hlt
          have hbr : b < wr.heap.size := Nat.lt_of_lt_of_le hbl XB.out.bel.size
          have q0 := (XB.out.bel.cell (p := ⟨b, off + i * 4, none⟩) hbl).trans q0
          have q1 := (XB.out.bel.cell (p := ⟨b, off + i * 4 + 1, none⟩) hbl).trans q1
          have q2 := (XB.out.bel.cell (p := ⟨b, off + i * 4 + 2, none⟩) hbl).trans q2
          have q3 := (XB.out.bel.cell (p := ⟨b, off + i * 4 + 3, none⟩) hbl).trans q3
          obtain ⟨n0, n1, nf0, nf1, nl⟩ := two_at X.out.nb
          have hsz := XB.out.size
          simp only [List.length_cons, List.length_nil] at hsz
          have al : w.heap.size < wr.heap.size := by omega
          have bl : w.heap.size + 1 < wr.heap.size := by omega
          clear VH a0 t0 t1 XB
          generalize T.wait[i] = en at *
          obtain ⟨⟨x, y⟩, ⟨z, u⟩⟩ := en
          dsimp only at q0 q1 q2 q3 HQ n0 n1
          go_upto_region 15 with fail
          cases hq : ((x, y) == (k, n))
          · have e2 : ∀ W, (binOp .eql 26 (.agg #[.int .i64 x, .int .i64 y]) (.agg #[.int .i64 k, .int .i64 n])).run Try.prog W = .ok (.bool false) W := fun W => by rw [eq26, hq]
            have HE2 : Hid (oldL (qL (T.wait.take (i + 1)) (k, n)) = (gc, gq)) := by
              show oldL _ = _
              rw [HQ.out, hq]
              simp
            clear hq HQ
            refine wp_region_held_drew (S := (fun W => W.cell? ⟨w.heap.size, 1, none⟩ = some (.slice (some ⟨b, off, none⟩) T.wait.length vc) ∧ W.cell? ⟨b, off + i * 4, none⟩ = some (.int .i64 x) ∧ W.cell? ⟨b, off + i * 4 + 1, none⟩ = some (.int .i64 y) ∧ W.cell? ⟨b, off + i * 4 + 2, none⟩ = some (.int .i64 z) ∧ W.cell? ⟨b, off + i * 4 + 3, none⟩ = some (.int .i64 u) ∧ W.cell? ⟨w.heap.size + 1, 0, none⟩ = some (.int .i64 k) ∧ W.cell? ⟨w.heap.size + 1, 1, none⟩ = some (.int .i64 n) ∧ W.cell? ⟨N, 0, none⟩ = some (.int .i64 gc) ∧ W.cell? ⟨N, 1, none⟩ = some (.int .i64 gq))) (by kernel_rfl) ⟨a1, q0, q1, q2, q3, b0, b1, n0, n1⟩ (fun hHeld => ?_)
            refine wpAnyH_take (i := 0) (oi := ⟨some 62, _, _, _, _, _⟩) (v := ?_) rfl (by kernel_rfl) (by kernel_rfl) (by kernel_rfl) (fun _ _ _ h => h) (Or.inl ⟨by rfl, ?_⟩) (by assumption) ?_
            rotate_left
            · intro w5 hSw
              (try dsimp only at hSw)
              go_simp
              (try with_reducible rfl)
            try simp only [Act.put, List.setIfInBounds_toArray, List.set_cons_zero, List.set_cons_succ]
            refine wpAnyH_take (i := 1) (oi := ⟨some 63, _, _, _, _, _⟩) (v := ?_) rfl (by kernel_rfl) (by kernel_rfl) (by kernel_rfl) (fun _ _ _ h => h) (Or.inl ⟨by rfl, ?_⟩) (by assumption) ?_
            rotate_left
            · intro w5 hSw
              (try dsimp only at hSw)
              go_simp
              (try with_reducible rfl)
            try simp only [Act.put, List.setIfInBounds_toArray, List.set_cons_zero, List.set_cons_succ]
            refine wpAnyH_take (i := 2) (oi := ⟨some 64, _, _, _, _, _⟩) (v := ?_) rfl (by kernel_rfl) (by kernel_rfl) (by kernel_rfl) (fun _ _ _ h => h) (Or.inl ⟨by rfl, ?_⟩) (by assumption) ?_
            rotate_left
            · intro w5 hSw
              (try dsimp only at hSw)
              go_simp
              (try with_reducible rfl)
            try simp only [Act.put, List.setIfInBounds_toArray, List.set_cons_zero, List.set_cons_succ]
            refine wpAnyH_take (i := 3) (oi := ⟨some 65, _, _, _, _, _⟩) (v := ?_) rfl (by kernel_rfl) (by kernel_rfl) (by kernel_rfl) (fun _ _ _ h => h) (Or.inl ⟨by rfl, ?_⟩) (by assumption) ?_
            rotate_left
            · intro w5 hSw
              (try dsimp only at hSw)
              go_simp
              (try with_reducible rfl)
            try simp only [Act.put, List.setIfInBounds_toArray, List.set_cons_zero, List.set_cons_succ]
            refine wpAnyH_take (i := 4) (oi := ⟨some 66, _, _, _, _, _⟩) (v := ?_) rfl (by kernel_rfl) (by kernel_rfl) (by kernel_rfl) (fun _ _ _ h => h) (Or.inl ⟨by rfl, ?_⟩) (by assumption) ?_
            rotate_left
            · intro w5 hSw
              (try dsimp only at hSw)
              go_simp
              (try with_reducible rfl)
            try simp only [Act.put, List.setIfInBounds_toArray, List.set_cons_zero, List.set_cons_succ]
            refine wpAnyH_take (i := 5) (oi := ⟨some 67, _, _, _, _, _⟩) (v := ?_) rfl (by kernel_rfl) (by kernel_rfl) (by kernel_rfl) (fun _ _ _ h => h) (Or.inl ⟨by rfl, ?_⟩) (by assumption) ?_
            rotate_left
            · intro w5 hSw
              (try dsimp only at hSw)
              go_simp
              (try with_reducible rfl)
            try simp only [Act.put, List.setIfInBounds_toArray, List.set_cons_zero, List.set_cons_succ]
            refine wpAnyH_take (i := 6) (oi := ⟨some 68, _, _, _, _, _⟩) (v := ?_) rfl (by kernel_rfl) (by kernel_rfl) (by kernel_rfl) (fun _ _ _ h => h) (Or.inl ⟨by rfl, ?_⟩) (by assumption) ?_
            rotate_left
            · intro w5 hSw
              (try dsimp only at hSw)
              go_simp
              (try with_reducible rfl)
            try simp only [Act.put, List.setIfInBounds_toArray, List.set_cons_zero, List.set_cons_succ]
            refine wpAnyH_take (i := 7) (oi := ⟨some 69, _, _, _, _, _⟩) (v := ?_) rfl (by kernel_rfl) (by kernel_rfl) (by kernel_rfl) (fun _ _ _ h => h) (Or.inl ⟨by rfl, ?_⟩) (by assumption) ?_
            rotate_left
            · intro w5 hSw
              (try dsimp only at hSw)
              go_simp
              (try with_reducible rfl)
            try simp only [Act.put, List.setIfInBounds_toArray, List.set_cons_zero, List.set_cons_succ]
            refine wpAnyH_take (i := 8) (oi := ⟨some 70, _, _, _, _, _⟩) (v := ?_) rfl (by kernel_rfl) (by kernel_rfl) (by kernel_rfl) (fun _ _ _ h => h) (Or.inl ⟨by rfl, ?_⟩) (by assumption) ?_
            rotate_left
            · intro w5 hSw
              (try dsimp only at hSw)
              go_simp
              (try with_reducible rfl)
            try simp only [Act.put, List.setIfInBounds_toArray, List.set_cons_zero, List.set_cons_succ]
            refine wpAnyH_take (i := 9) (oi := ⟨some 71, _, _, _, _, _⟩) (v := undef) rfl (by kernel_rfl) (by kernel_rfl) (by kernel_rfl) (fun _ _ _ h => h) (Or.inr ⟨by rfl, rfl⟩) (by assumption) ?_
            try simp only [Act.put, List.setIfInBounds_toArray, List.set_cons_zero, List.set_cons_succ]
            refine wpAnyH_take (i := 10) (oi := ⟨some 72, _, _, _, _, _⟩) (v := undef) rfl (by kernel_rfl) (by kernel_rfl) (by kernel_rfl) (fun _ _ _ h => h) (Or.inr ⟨by rfl, rfl⟩) (by assumption) ?_
            try simp only [Act.put, List.setIfInBounds_toArray, List.set_cons_zero, List.set_cons_succ]
            refine wpAnyH_take (i := 11) (oi := ⟨some 73, _, _, _, _, _⟩) (v := undef) rfl (by kernel_rfl) (by kernel_rfl) (by kernel_rfl) (fun _ _ _ h => h) (Or.inr ⟨by rfl, rfl⟩) (by assumption) ?_
            try simp only [Act.put, List.setIfInBounds_toArray, List.set_cons_zero, List.set_cons_succ]
            refine wpAnyH_take (i := 12) (oi := ⟨some 74, _, _, _, _, _⟩) (v := undef) rfl (by kernel_rfl) (by kernel_rfl) (by kernel_rfl) (fun _ _ _ h => h) (Or.inr ⟨by rfl, rfl⟩) (by assumption) ?_
            try simp only [Act.put, List.setIfInBounds_toArray, List.set_cons_zero, List.set_cons_succ]
            refine wpAnyH_take (i := 13) (oi := ⟨some 75, _, _, _, _, _⟩) (v := undef) rfl (by kernel_rfl) (by kernel_rfl) (by kernel_rfl) (fun _ _ _ h => h) (Or.inr ⟨by rfl, rfl⟩) (by assumption) ?_
            try simp only [Act.put, List.setIfInBounds_toArray, List.set_cons_zero, List.set_cons_succ]
            refine wpAnyH_take (i := 14) (oi := ⟨some 76, _, _, _, _, _⟩) (v := undef) rfl (by kernel_rfl) (by kernel_rfl) (by kernel_rfl) (fun _ _ _ h => h) (Or.inr ⟨by rfl, rfl⟩) (by assumption) ?_
            try simp only [Act.put, List.setIfInBounds_toArray, List.set_cons_zero, List.set_cons_succ]
            refine wpAnyH_take (i := 15) (oi := ⟨some 77, _, _, _, _, _⟩) (v := undef) rfl (by kernel_rfl) (by kernel_rfl) (by kernel_rfl) (fun _ _ _ h => h) (Or.inr ⟨by rfl, rfl⟩) (by assumption) ?_
            try simp only [Act.put, List.setIfInBounds_toArray, List.set_cons_zero, List.set_cons_succ]
            refine wpAnyH_take (i := 16) (oi := ⟨some 78, _, _, _, _, _⟩) (v := undef) rfl (by kernel_rfl) (by kernel_rfl) (by kernel_rfl) (fun _ _ _ h => h) (Or.inr ⟨by rfl, rfl⟩) (by assumption) ?_
            try simp only [Act.put, List.setIfInBounds_toArray, List.set_cons_zero, List.set_cons_succ]
            refine wpAnyH_take (i := 17) (oi := ⟨some 79, _, _, _, _, _⟩) (v := undef) rfl (by kernel_rfl) (by kernel_rfl) (by kernel_rfl) (fun _ _ _ h => h) (Or.inr ⟨by rfl, rfl⟩) (by assumption) ?_
            try simp only [Act.put, List.setIfInBounds_toArray, List.set_cons_zero, List.set_cons_succ]
            refine wpAnyH_take (i := 18) (oi := ⟨some 80, _, _, _, _, _⟩) (v := undef) rfl (by kernel_rfl) (by kernel_rfl) (by kernel_rfl) (fun _ _ _ h => h) (Or.inr ⟨by rfl, rfl⟩) (by assumption) ?_
            try simp only [Act.put, List.setIfInBounds_toArray, List.set_cons_zero, List.set_cons_succ]
            refine wpAnyH_take (i := 19) (oi := ⟨some 81, _, _, _, _, _⟩) (v := undef) rfl (by kernel_rfl) (by kernel_rfl) (by kernel_rfl) (fun _ _ _ h => h) (Or.inr ⟨by rfl, rfl⟩) (by assumption) ?_
            try simp only [Act.put, List.setIfInBounds_toArray, List.set_cons_zero, List.set_cons_succ]
            refine wpAnyH_take (i := 20) (oi := ⟨some 82, _, _, _, _, _⟩) (v := undef) rfl (by kernel_rfl) (by kernel_rfl) (by kernel_rfl) (fun _ _ _ h => h) (Or.inr ⟨by rfl, rfl⟩) (by assumption) ?_
            try simp only [Act.put, List.setIfInBounds_toArray, List.set_cons_zero, List.set_cons_succ]
            refine wpAnyH_take (i := 21) (oi := ⟨some 83, _, _, _, _, _⟩) (v := undef) rfl (by kernel_rfl) (by kernel_rfl) (by kernel_rfl) (fun _ _ _ h => h) (Or.inr ⟨by rfl, rfl⟩) (by assumption) ?_
            try simp only [Act.put, List.setIfInBounds_toArray, List.set_cons_zero, List.set_cons_succ]
            refine wpAnyH_take (i := 22) (oi := ⟨some 84, _, _, _, _, _⟩) (v := ?_) rfl (by kernel_rfl) (by kernel_rfl) (by kernel_rfl) (fun _ _ _ h => h) (Or.inl ⟨by rfl, ?_⟩) (by assumption) ?_
            rotate_left
            · intro w5 hSw
              (try dsimp only at hSw)
              go_simp
              (try with_reducible rfl)
            try simp only [Act.put, List.setIfInBounds_toArray, List.set_cons_zero, List.set_cons_succ]
            refine wpAnyH_done (by kernel_rfl) ?_ _
            go_wp2
            go_roundw
            case rel => exact ⟨i + 1, by go_num, by omega, hideIt (by rw [HE2.out]; exact X.out.keep (Below.refl _ _).drew)⟩
            case measure => simp [intOf]; omega
          · have e2 : ∀ W, (binOp .eql 26 (.agg #[.int .i64 x, .int .i64 y]) (.agg #[.int .i64 k, .int .i64 n])).run Try.prog W = .ok (.bool true) W := fun W => by rw [eq26, hq]
            rw [hq] at HQ
            simp only [if_true, oldF] at HQ
            clear hq
            cases hz : ((gc, gq) == zT)
            · have e3 : ∀ W, (binOp .eql 28 (.agg #[.int .i64 gc, .int .i64 gq]) (.agg #[.int .i64 0, .int .i64 0])).run Try.prog W = .ok (.bool false) W := fun W => by rw [eq28]; rw [show ((gc, gq) == ((0, 0) : TxnV)) = ((gc, gq) == zT) from rfl, hz]
              rw [hz] at HQ
              simp only [Bool.false_eq_true, if_false] at HQ
              have HO2 := hideIt (fun W => HO.out z u gc gq W)
              clear hz
              cases ho : oldB (z, u) (gc, gq)
              · rw [ho] at HQ HO2
                simp only [Bool.false_eq_true, if_false] at HQ
                clear ho
                refine wp_region_held_drew (S := (fun W => W.cell? ⟨w.heap.size, 1, none⟩ = some (.slice (some ⟨b, off, none⟩) T.wait.length vc) ∧ W.cell? ⟨b, off + i * 4, none⟩ = some (.int .i64 x) ∧ W.cell? ⟨b, off + i * 4 + 1, none⟩ = some (.int .i64 y) ∧ W.cell? ⟨b, off + i * 4 + 2, none⟩ = some (.int .i64 z) ∧ W.cell? ⟨b, off + i * 4 + 3, none⟩ = some (.int .i64 u) ∧ W.cell? ⟨w.heap.size + 1, 0, none⟩ = some (.int .i64 k) ∧ W.cell? ⟨w.heap.size + 1, 1, none⟩ = some (.int .i64 n) ∧ W.cell? ⟨N, 0, none⟩ = some (.int .i64 gc) ∧ W.cell? ⟨N, 1, none⟩ = some (.int .i64 gq))) (by kernel_rfl) ⟨a1, q0, q1, q2, q3, b0, b1, n0, n1⟩ (fun hHeld => ?_)
                refine wpAnyH_take (i := 0) (oi := ⟨some 62, _, _, _, _, _⟩) (v := ?_) rfl (by kernel_rfl) (by kernel_rfl) (by kernel_rfl) (fun _ _ _ h => h) (Or.inl ⟨by rfl, ?_⟩) (by assumption) ?_
                rotate_left
                · intro w5 hSw
                  (try dsimp only at hSw)
                  go_simp
                  (try with_reducible rfl)
                try simp only [Act.put, List.setIfInBounds_toArray, List.set_cons_zero, List.set_cons_succ]
                refine wpAnyH_take (i := 1) (oi := ⟨some 63, _, _, _, _, _⟩) (v := ?_) rfl (by kernel_rfl) (by kernel_rfl) (by kernel_rfl) (fun _ _ _ h => h) (Or.inl ⟨by rfl, ?_⟩) (by assumption) ?_
                rotate_left
                · intro w5 hSw
                  (try dsimp only at hSw)
                  go_simp
                  (try with_reducible rfl)
                try simp only [Act.put, List.setIfInBounds_toArray, List.set_cons_zero, List.set_cons_succ]
                refine wpAnyH_take (i := 2) (oi := ⟨some 64, _, _, _, _, _⟩) (v := ?_) rfl (by kernel_rfl) (by kernel_rfl) (by kernel_rfl) (fun _ _ _ h => h) (Or.inl ⟨by rfl, ?_⟩) (by assumption) ?_
                rotate_left
                · intro w5 hSw
                  (try dsimp only at hSw)
                  go_simp
                  (try with_reducible rfl)
                try simp only [Act.put, List.setIfInBounds_toArray, List.set_cons_zero, List.set_cons_succ]
                refine wpAnyH_take (i := 3) (oi := ⟨some 65, _, _, _, _, _⟩) (v := ?_) rfl (by kernel_rfl) (by kernel_rfl) (by kernel_rfl) (fun _ _ _ h => h) (Or.inl ⟨by rfl, ?_⟩) (by assumption) ?_
                rotate_left
                · intro w5 hSw
                  (try dsimp only at hSw)
                  go_simp
                  (try with_reducible rfl)
                try simp only [Act.put, List.setIfInBounds_toArray, List.set_cons_zero, List.set_cons_succ]
                refine wpAnyH_take (i := 4) (oi := ⟨some 66, _, _, _, _, _⟩) (v := ?_) rfl (by kernel_rfl) (by kernel_rfl) (by kernel_rfl) (fun _ _ _ h => h) (Or.inl ⟨by rfl, ?_⟩) (by assumption) ?_
                rotate_left
                · intro w5 hSw
                  (try dsimp only at hSw)
                  go_simp
                  (try with_reducible rfl)
                try simp only [Act.put, List.setIfInBounds_toArray, List.set_cons_zero, List.set_cons_succ]
                refine wpAnyH_take (i := 5) (oi := ⟨some 67, _, _, _, _, _⟩) (v := ?_) rfl (by kernel_rfl) (by kernel_rfl) (by kernel_rfl) (fun _ _ _ h => h) (Or.inl ⟨by rfl, ?_⟩) (by assumption) ?_
                rotate_left
                · intro w5 hSw
                  (try dsimp only at hSw)
                  go_simp
                  (try with_reducible rfl)
                try simp only [Act.put, List.setIfInBounds_toArray, List.set_cons_zero, List.set_cons_succ]
                refine wpAnyH_take (i := 6) (oi := ⟨some 68, _, _, _, _, _⟩) (v := ?_) rfl (by kernel_rfl) (by kernel_rfl) (by kernel_rfl) (fun _ _ _ h => h) (Or.inl ⟨by rfl, ?_⟩) (by assumption) ?_
                rotate_left
                · intro w5 hSw
                  (try dsimp only at hSw)
                  go_simp
                  (try with_reducible rfl)
                try simp only [Act.put, List.setIfInBounds_toArray, List.set_cons_zero, List.set_cons_succ]
                refine wpAnyH_take (i := 7) (oi := ⟨some 69, _, _, _, _, _⟩) (v := ?_) rfl (by kernel_rfl) (by kernel_rfl) (by kernel_rfl) (fun _ _ _ h => h) (Or.inl ⟨by rfl, ?_⟩) (by assumption) ?_
                rotate_left
                · intro w5 hSw
                  (try dsimp only at hSw)
                  go_simp
                  (try with_reducible rfl)
                try simp only [Act.put, List.setIfInBounds_toArray, List.set_cons_zero, List.set_cons_succ]
                refine wpAnyH_take (i := 8) (oi := ⟨some 70, _, _, _, _, _⟩) (v := ?_) rfl (by kernel_rfl) (by kernel_rfl) (by kernel_rfl) (fun _ _ _ h => h) (Or.inl ⟨by rfl, ?_⟩) (by assumption) ?_
                rotate_left
                · intro w5 hSw
                  (try dsimp only at hSw)
                  go_simp
                  (try with_reducible rfl)
                try simp only [Act.put, List.setIfInBounds_toArray, List.set_cons_zero, List.set_cons_succ]
                refine wpAnyH_take (i := 9) (oi := ⟨some 71, _, _, _, _, _⟩) (v := ?_) rfl (by kernel_rfl) (by kernel_rfl) (by kernel_rfl) (fun _ _ _ h => h) (Or.inl ⟨by rfl, ?_⟩) (by assumption) ?_
                rotate_left
                · intro w5 hSw
                  (try dsimp only at hSw)
                  go_simp
                  (try with_reducible rfl)
                try simp only [Act.put, List.setIfInBounds_toArray, List.set_cons_zero, List.set_cons_succ]
                refine wpAnyH_take (i := 10) (oi := ⟨some 72, _, _, _, _, _⟩) (v := ?_) rfl (by kernel_rfl) (by kernel_rfl) (by kernel_rfl) (fun _ _ _ h => h) (Or.inl ⟨by rfl, ?_⟩) (by assumption) ?_
                rotate_left
                · intro w5 hSw
                  (try dsimp only at hSw)
                  go_simp
                  (try with_reducible rfl)
                try simp only [Act.put, List.setIfInBounds_toArray, List.set_cons_zero, List.set_cons_succ]
                refine wpAnyH_take (i := 11) (oi := ⟨some 73, _, _, _, _, _⟩) (v := ?_) rfl (by kernel_rfl) (by kernel_rfl) (by kernel_rfl) (fun _ _ _ h => h) (Or.inl ⟨by rfl, ?_⟩) (by assumption) ?_
                rotate_left
                · intro w5 hSw
                  (try dsimp only at hSw)
                  go_simp
                  (try with_reducible rfl)
                try simp only [Act.put, List.setIfInBounds_toArray, List.set_cons_zero, List.set_cons_succ]
                refine wpAnyH_take (i := 12) (oi := ⟨some 74, _, _, _, _, _⟩) (v := ?_) rfl (by kernel_rfl) (by kernel_rfl) (by kernel_rfl) (fun _ _ _ h => h) (Or.inl ⟨by rfl, ?_⟩) (by assumption) ?_
                rotate_left
                · intro w5 hSw
                  (try dsimp only at hSw)
                  go_simp
                  (try with_reducible rfl)
                try simp only [Act.put, List.setIfInBounds_toArray, List.set_cons_zero, List.set_cons_succ]
                refine wpAnyH_take (i := 13) (oi := ⟨some 75, _, _, _, _, _⟩) (v := ?_) rfl (by kernel_rfl) (by kernel_rfl) (by kernel_rfl) (fun _ _ _ h => h) (Or.inl ⟨by rfl, ?_⟩) (by assumption) ?_
                rotate_left
                · intro w5 hSw
                  (try dsimp only at hSw)
                  go_simp
                  (try with_reducible rfl)
                try simp only [Act.put, List.setIfInBounds_toArray, List.set_cons_zero, List.set_cons_succ]
                refine wpAnyH_take (i := 14) (oi := ⟨some 76, _, _, _, _, _⟩) (v := ?_) rfl (by kernel_rfl) (by kernel_rfl) (by kernel_rfl) (fun _ _ _ h => h) (Or.inl ⟨by rfl, ?_⟩) (by assumption) ?_
                rotate_left
                · intro w5 hSw
                  (try dsimp only at hSw)
                  go_simp
                  (try with_reducible rfl)
                try simp only [Act.put, List.setIfInBounds_toArray, List.set_cons_zero, List.set_cons_succ]
                refine wpAnyH_take (i := 15) (oi := ⟨some 77, _, _, _, _, _⟩) (v := ?_) rfl (by kernel_rfl) (by kernel_rfl) (by kernel_rfl) (fun _ _ _ h => h) (Or.inl ⟨by rfl, ?_⟩) (by assumption) ?_
                rotate_left
                · intro w5 hSw
                  (try dsimp only at hSw)
                  go_simp
                  (try with_reducible rfl)
                try simp only [Act.put, List.setIfInBounds_toArray, List.set_cons_zero, List.set_cons_succ]
                refine wpAnyH_take (i := 16) (oi := ⟨some 78, _, _, _, _, _⟩) (v := ?_) rfl (by kernel_rfl) (by kernel_rfl) (by kernel_rfl) (fun _ _ _ h => h) (Or.inl ⟨by rfl, ?_⟩) (by assumption) ?_
                rotate_left
                · intro w5 hSw
                  (try dsimp only at hSw)
                  go_simp
                  (try with_reducible rfl)
                try simp only [Act.put, List.setIfInBounds_toArray, List.set_cons_zero, List.set_cons_succ]
                refine wpAnyH_take (i := 17) (oi := ⟨some 79, _, _, _, _, _⟩) (v := ?_) rfl (by kernel_rfl) (by kernel_rfl) (by kernel_rfl) (fun _ _ _ h => h) (Or.inl ⟨by rfl, ?_⟩) (by assumption) ?_
                rotate_left
                · intro w5 hSw
                  (try dsimp only at hSw)
                  go_simp
                  (try with_reducible rfl)
                try simp only [Act.put, List.setIfInBounds_toArray, List.set_cons_zero, List.set_cons_succ]
                refine wpAnyH_take (i := 18) (oi := ⟨some 80, _, _, _, _, _⟩) (v := ?_) rfl (by kernel_rfl) (by kernel_rfl) (by kernel_rfl) (fun _ _ _ h => h) (Or.inl ⟨by rfl, ?_⟩) (by assumption) ?_
                rotate_left
                · intro w5 hSw
                  (try dsimp only at hSw)
                  go_simp
                  (try with_reducible rfl)
                try simp only [Act.put, List.setIfInBounds_toArray, List.set_cons_zero, List.set_cons_succ]
                refine wpAnyH_take (i := 19) (oi := ⟨some 81, _, _, _, _, _⟩) (v := ?_) rfl (by kernel_rfl) (by kernel_rfl) (by kernel_rfl) (fun _ _ _ h => h) (Or.inl ⟨by rfl, ?_⟩) (by assumption) ?_
                rotate_left
                · intro w5 hSw
                  (try dsimp only at hSw)
                  go_simp
                  (try with_reducible rfl)
                try simp only [Act.put, List.setIfInBounds_toArray, List.set_cons_zero, List.set_cons_succ]
                refine wpAnyH_ready (rs := [20]) (by kernel_rfl) (by simp) ?_
                refine AllReadyH.cons (o := ⟨some 82, _, _, _, _, _⟩) rfl (fun K1 hK1 => ?_) AllReadyH.nil
                go_simp
                go_at_call 23
                refine (HO2.out _).mono ?_
                rintro e w7 ⟨rfl, hb7⟩
                refine hK1.out _ _ ⟨(hb7.cell (p := ⟨w.heap.size, 1, none⟩) al).trans a1, (hb7.cell (p := ⟨b, off + i * 4, none⟩) hbr).trans q0, (hb7.cell (p := ⟨b, off + i * 4 + 1, none⟩) hbr).trans q1, (hb7.cell (p := ⟨b, off + i * 4 + 2, none⟩) hbr).trans q2, (hb7.cell (p := ⟨b, off + i * 4 + 3, none⟩) hbr).trans q3, (hb7.cell (p := ⟨w.heap.size + 1, 0, none⟩) bl).trans b0, (hb7.cell (p := ⟨w.heap.size + 1, 1, none⟩) bl).trans b1, (hb7.cell (p := ⟨N, 0, none⟩) nl).trans n0, (hb7.cell (p := ⟨N, 1, none⟩) nl).trans n1⟩ (fun hHeld7 => ?_)
                clear hK1 K1
                try simp only [Act.put, List.setIfInBounds_toArray, List.set_cons_zero, List.set_cons_succ]
                refine wpAnyH_take (i := 21) (oi := ⟨some 83, _, _, _, _, _⟩) (v := ?_) rfl (by kernel_rfl) (by kernel_rfl) (by kernel_rfl) (fun _ _ _ h => h) (Or.inl ⟨by rfl, ?_⟩) (by assumption) ?_
                rotate_left
                · intro w5 hSw
                  (try dsimp only at hSw)
                  go_simp
                  (try with_reducible rfl)
                try simp only [Act.put, List.setIfInBounds_toArray, List.set_cons_zero, List.set_cons_succ]
                refine wpAnyH_take (i := 22) (oi := ⟨some 84, _, _, _, _, _⟩) (v := ?_) rfl (by kernel_rfl) (by kernel_rfl) (by kernel_rfl) (fun _ _ _ h => h) (Or.inl ⟨by rfl, ?_⟩) (by assumption) ?_
                rotate_left
                · intro w5 hSw
                  (try dsimp only at hSw)
                  go_simp
                  (try with_reducible rfl)
                try simp only [Act.put, List.setIfInBounds_toArray, List.set_cons_zero, List.set_cons_succ]
                refine wpAnyH_done (by kernel_rfl) ?_ _
                go_wp2
                go_roundw
                case rel => exact ⟨i + 1, by go_num, by omega, hideIt (by rw [HQ.out]; exact X.out.keep (below_via (Below.refl _ wr).drew hb7))⟩
                case measure => simp [intOf]; omega
              · rw [ho] at HQ HO2
                simp only [if_true] at HQ
                clear ho
                refine wp_region_held_drew (S := (fun W => W.cell? ⟨w.heap.size, 1, none⟩ = some (.slice (some ⟨b, off, none⟩) T.wait.length vc) ∧ W.cell? ⟨b, off + i * 4, none⟩ = some (.int .i64 x) ∧ W.cell? ⟨b, off + i * 4 + 1, none⟩ = some (.int .i64 y) ∧ W.cell? ⟨b, off + i * 4 + 2, none⟩ = some (.int .i64 z) ∧ W.cell? ⟨b, off + i * 4 + 3, none⟩ = some (.int .i64 u) ∧ W.cell? ⟨w.heap.size + 1, 0, none⟩ = some (.int .i64 k) ∧ W.cell? ⟨w.heap.size + 1, 1, none⟩ = some (.int .i64 n) ∧ W.cell? ⟨N, 0, none⟩ = some (.int .i64 gc) ∧ W.cell? ⟨N, 1, none⟩ = some (.int .i64 gq))) (by kernel_rfl) ⟨a1, q0, q1, q2, q3, b0, b1, n0, n1⟩ (fun hHeld => ?_)
                refine wpAnyH_take (i := 0) (oi := ⟨some 62, _, _, _, _, _⟩) (v := ?_) rfl (by kernel_rfl) (by kernel_rfl) (by kernel_rfl) (fun _ _ _ h => h) (Or.inl ⟨by rfl, ?_⟩) (by assumption) ?_
                rotate_left
                · intro w5 hSw
                  (try dsimp only at hSw)
                  go_simp
                  (try with_reducible rfl)
                try simp only [Act.put, List.setIfInBounds_toArray, List.set_cons_zero, List.set_cons_succ]
                refine wpAnyH_take (i := 1) (oi := ⟨some 63, _, _, _, _, _⟩) (v := ?_) rfl (by kernel_rfl) (by kernel_rfl) (by kernel_rfl) (fun _ _ _ h => h) (Or.inl ⟨by rfl, ?_⟩) (by assumption) ?_
                rotate_left
                · intro w5 hSw
                  (try dsimp only at hSw)
                  go_simp
                  (try with_reducible rfl)
                try simp only [Act.put, List.setIfInBounds_toArray, List.set_cons_zero, List.set_cons_succ]
                refine wpAnyH_take (i := 2) (oi := ⟨some 64, _, _, _, _, _⟩) (v := ?_) rfl (by kernel_rfl) (by kernel_rfl) (by kernel_rfl) (fun _ _ _ h => h) (Or.inl ⟨by rfl, ?_⟩) (by assumption) ?_
                rotate_left
                · intro w5 hSw
                  (try dsimp only at hSw)
                  go_simp
                  (try with_reducible rfl)
                try simp only [Act.put, List.setIfInBounds_toArray, List.set_cons_zero, List.set_cons_succ]
                refine wpAnyH_take (i := 3) (oi := ⟨some 65, _, _, _, _, _⟩) (v := ?_) rfl (by kernel_rfl) (by kernel_rfl) (by kernel_rfl) (fun _ _ _ h => h) (Or.inl ⟨by rfl, ?_⟩) (by assumption) ?_
                rotate_left
                · intro w5 hSw
                  (try dsimp only at hSw)
                  go_simp
                  (try with_reducible rfl)
                try simp only [Act.put, List.setIfInBounds_toArray, List.set_cons_zero, List.set_cons_succ]
                refine wpAnyH_take (i := 4) (oi := ⟨some 66, _, _, _, _, _⟩) (v := ?_) rfl (by kernel_rfl) (by kernel_rfl) (by kernel_rfl) (fun _ _ _ h => h) (Or.inl ⟨by rfl, ?_⟩) (by assumption) ?_
                rotate_left
                · intro w5 hSw
                  (try dsimp only at hSw)
                  go_simp
                  (try with_reducible rfl)
                try simp only [Act.put, List.setIfInBounds_toArray, List.set_cons_zero, List.set_cons_succ]
                refine wpAnyH_take (i := 5) (oi := ⟨some 67, _, _, _, _, _⟩) (v := ?_) rfl (by kernel_rfl) (by kernel_rfl) (by kernel_rfl) (fun _ _ _ h => h) (Or.inl ⟨by rfl, ?_⟩) (by assumption) ?_
                rotate_left
                · intro w5 hSw
                  (try dsimp only at hSw)
                  go_simp
                  (try with_reducible rfl)
                try simp only [Act.put, List.setIfInBounds_toArray, List.set_cons_zero, List.set_cons_succ]
                refine wpAnyH_take (i := 6) (oi := ⟨some 68, _, _, _, _, _⟩) (v := ?_) rfl (by kernel_rfl) (by kernel_rfl) (by kernel_rfl) (fun _ _ _ h => h) (Or.inl ⟨by rfl, ?_⟩) (by assumption) ?_
                rotate_left
                · intro w5 hSw
                  (try dsimp only at hSw)
                  go_simp
                  (try with_reducible rfl)
                try simp only [Act.put, List.setIfInBounds_toArray, List.set_cons_zero, List.set_cons_succ]
                refine wpAnyH_take (i := 7) (oi := ⟨some 69, _, _, _, _, _⟩) (v := ?_) rfl (by kernel_rfl) (by kernel_rfl) (by kernel_rfl) (fun _ _ _ h => h) (Or.inl ⟨by rfl, ?_⟩) (by assumption) ?_
                rotate_left
                · intro w5 hSw
                  (try dsimp only at hSw)
                  go_simp
                  (try with_reducible rfl)
                try simp only [Act.put, List.setIfInBounds_toArray, List.set_cons_zero, List.set_cons_succ]
                refine wpAnyH_take (i := 8) (oi := ⟨some 70, _, _, _, _, _⟩) (v := ?_) rfl (by kernel_rfl) (by kernel_rfl) (by kernel_rfl) (fun _ _ _ h => h) (Or.inl ⟨by rfl, ?_⟩) (by assumption) ?_
                rotate_left
                · intro w5 hSw
                  (try dsimp only at hSw)
                  go_simp
                  (try with_reducible rfl)
                try simp only [Act.put, List.setIfInBounds_toArray, List.set_cons_zero, List.set_cons_succ]
                refine wpAnyH_take (i := 9) (oi := ⟨some 71, _, _, _, _, _⟩) (v := ?_) rfl (by kernel_rfl) (by kernel_rfl) (by kernel_rfl) (fun _ _ _ h => h) (Or.inl ⟨by rfl, ?_⟩) (by assumption) ?_
                rotate_left
                · intro w5 hSw
                  (try dsimp only at hSw)
                  go_simp
                  (try with_reducible rfl)
                try simp only [Act.put, List.setIfInBounds_toArray, List.set_cons_zero, List.set_cons_succ]
                refine wpAnyH_take (i := 10) (oi := ⟨some 72, _, _, _, _, _⟩) (v := ?_) rfl (by kernel_rfl) (by kernel_rfl) (by kernel_rfl) (fun _ _ _ h => h) (Or.inl ⟨by rfl, ?_⟩) (by assumption) ?_
                rotate_left
                · intro w5 hSw
                  (try dsimp only at hSw)
                  go_simp
                  (try with_reducible rfl)
                try simp only [Act.put, List.setIfInBounds_toArray, List.set_cons_zero, List.set_cons_succ]
                refine wpAnyH_take (i := 11) (oi := ⟨some 73, _, _, _, _, _⟩) (v := ?_) rfl (by kernel_rfl) (by kernel_rfl) (by kernel_rfl) (fun _ _ _ h => h) (Or.inl ⟨by rfl, ?_⟩) (by assumption) ?_
                rotate_left
                · intro w5 hSw
                  (try dsimp only at hSw)
                  go_simp
                  (try with_reducible rfl)
                try simp only [Act.put, List.setIfInBounds_toArray, List.set_cons_zero, List.set_cons_succ]
                refine wpAnyH_take (i := 12) (oi := ⟨some 74, _, _, _, _, _⟩) (v := ?_) rfl (by kernel_rfl) (by kernel_rfl) (by kernel_rfl) (fun _ _ _ h => h) (Or.inl ⟨by rfl, ?_⟩) (by assumption) ?_
                rotate_left
                · intro w5 hSw
                  (try dsimp only at hSw)
                  go_simp
                  (try with_reducible rfl)
                try simp only [Act.put, List.setIfInBounds_toArray, List.set_cons_zero, List.set_cons_succ]
                refine wpAnyH_take (i := 13) (oi := ⟨some 75, _, _, _, _, _⟩) (v := ?_) rfl (by kernel_rfl) (by kernel_rfl) (by kernel_rfl) (fun _ _ _ h => h) (Or.inl ⟨by rfl, ?_⟩) (by assumption) ?_
                rotate_left
                · intro w5 hSw
                  (try dsimp only at hSw)
                  go_simp
                  (try with_reducible rfl)
                try simp only [Act.put, List.setIfInBounds_toArray, List.set_cons_zero, List.set_cons_succ]
                refine wpAnyH_take (i := 14) (oi := ⟨some 76, _, _, _, _, _⟩) (v := ?_) rfl (by kernel_rfl) (by kernel_rfl) (by kernel_rfl) (fun _ _ _ h => h) (Or.inl ⟨by rfl, ?_⟩) (by assumption) ?_
                rotate_left
                · intro w5 hSw
                  (try dsimp only at hSw)
                  go_simp
                  (try with_reducible rfl)
                try simp only [Act.put, List.setIfInBounds_toArray, List.set_cons_zero, List.set_cons_succ]
                refine wpAnyH_take (i := 15) (oi := ⟨some 77, _, _, _, _, _⟩) (v := ?_) rfl (by kernel_rfl) (by kernel_rfl) (by kernel_rfl) (fun _ _ _ h => h) (Or.inl ⟨by rfl, ?_⟩) (by assumption) ?_
                rotate_left
                · intro w5 hSw
                  (try dsimp only at hSw)
                  go_simp
                  (try with_reducible rfl)
                try simp only [Act.put, List.setIfInBounds_toArray, List.set_cons_zero, List.set_cons_succ]
                refine wpAnyH_take (i := 16) (oi := ⟨some 78, _, _, _, _, _⟩) (v := ?_) rfl (by kernel_rfl) (by kernel_rfl) (by kernel_rfl) (fun _ _ _ h => h) (Or.inl ⟨by rfl, ?_⟩) (by assumption) ?_
                rotate_left
                · intro w5 hSw
                  (try dsimp only at hSw)
                  go_simp
                  (try with_reducible rfl)
                try simp only [Act.put, List.setIfInBounds_toArray, List.set_cons_zero, List.set_cons_succ]
                refine wpAnyH_take (i := 17) (oi := ⟨some 79, _, _, _, _, _⟩) (v := ?_) rfl (by kernel_rfl) (by kernel_rfl) (by kernel_rfl) (fun _ _ _ h => h) (Or.inl ⟨by rfl, ?_⟩) (by assumption) ?_
                rotate_left
                · intro w5 hSw
                  (try dsimp only at hSw)
                  go_simp
                  (try with_reducible rfl)
                try simp only [Act.put, List.setIfInBounds_toArray, List.set_cons_zero, List.set_cons_succ]
                refine wpAnyH_take (i := 18) (oi := ⟨some 80, _, _, _, _, _⟩) (v := ?_) rfl (by kernel_rfl) (by kernel_rfl) (by kernel_rfl) (fun _ _ _ h => h) (Or.inl ⟨by rfl, ?_⟩) (by assumption) ?_
                rotate_left
                · intro w5 hSw
                  (try dsimp only at hSw)
                  go_simp
                  (try with_reducible rfl)
                try simp only [Act.put, List.setIfInBounds_toArray, List.set_cons_zero, List.set_cons_succ]
                refine wpAnyH_take (i := 19) (oi := ⟨some 81, _, _, _, _, _⟩) (v := ?_) rfl (by kernel_rfl) (by kernel_rfl) (by kernel_rfl) (fun _ _ _ h => h) (Or.inl ⟨by rfl, ?_⟩) (by assumption) ?_
                rotate_left
                · intro w5 hSw
                  (try dsimp only at hSw)
                  go_simp
                  (try with_reducible rfl)
                try simp only [Act.put, List.setIfInBounds_toArray, List.set_cons_zero, List.set_cons_succ]
                refine wpAnyH_ready (rs := [20]) (by kernel_rfl) (by simp) ?_
                refine AllReadyH.cons (o := ⟨some 82, _, _, _, _, _⟩) rfl (fun K1 hK1 => ?_) AllReadyH.nil
                go_simp
                go_at_call 23
                refine (HO2.out _).mono ?_
                rintro e w7 ⟨rfl, hb7⟩
                refine hK1.out _ _ ⟨(hb7.cell (p := ⟨w.heap.size, 1, none⟩) al).trans a1, (hb7.cell (p := ⟨b, off + i * 4, none⟩) hbr).trans q0, (hb7.cell (p := ⟨b, off + i * 4 + 1, none⟩) hbr).trans q1, (hb7.cell (p := ⟨b, off + i * 4 + 2, none⟩) hbr).trans q2, (hb7.cell (p := ⟨b, off + i * 4 + 3, none⟩) hbr).trans q3, (hb7.cell (p := ⟨w.heap.size + 1, 0, none⟩) bl).trans b0, (hb7.cell (p := ⟨w.heap.size + 1, 1, none⟩) bl).trans b1, (hb7.cell (p := ⟨N, 0, none⟩) nl).trans n0, (hb7.cell (p := ⟨N, 1, none⟩) nl).trans n1⟩ (fun hHeld7 => ?_)
                clear hK1 K1
                try simp only [Act.put, List.setIfInBounds_toArray, List.set_cons_zero, List.set_cons_succ]
                refine wpAnyH_take (i := 21) (oi := ⟨some 83, _, _, _, _, _⟩) (v := ?_) rfl (by kernel_rfl) (by kernel_rfl) (by kernel_rfl) (fun _ _ _ h => h) (Or.inl ⟨by rfl, ?_⟩) (by assumption) ?_
                rotate_left
                · intro w5 hSw
                  (try dsimp only at hSw)
                  go_simp
                  (try with_reducible rfl)
                try simp only [Act.put, List.setIfInBounds_toArray, List.set_cons_zero, List.set_cons_succ]
                refine wpAnyH_take (i := 22) (oi := ⟨some 84, _, _, _, _, _⟩) (v := ?_) rfl (by kernel_rfl) (by kernel_rfl) (by kernel_rfl) (fun _ _ _ h => h) (Or.inl ⟨by rfl, ?_⟩) (by assumption) ?_
                rotate_left
                · intro w5 hSw
                  (try dsimp only at hSw)
                  go_simp
                  (try with_reducible rfl)
                try simp only [Act.put, List.setIfInBounds_toArray, List.set_cons_zero, List.set_cons_succ]
                refine wpAnyH_done (by kernel_rfl) ?_ _
                have X8 := hideIt (X.out.keep (below_via (Below.refl _ wr).drew hb7))
                have Z := hideIt (X8.out.set (z, u))
                have hbr7 : b < w7.heap.size := Nat.lt_of_lt_of_le hbr hb7.size
                have a1 := (hb7.cell (p := ⟨w.heap.size, 1, none⟩) al).trans a1
                have q2 := (hb7.cell (p := ⟨b, off + i * 4 + 2, none⟩) hbr).trans q2
                have q3 := (hb7.cell (p := ⟨b, off + i * 4 + 3, none⟩) hbr).trans q3
                obtain ⟨n0, n1, nf0, nf1, nl⟩ := two_at X8.out.nb
                clear X X8 hHeld hHeld7
                go_wp2
                go_roundw
                case rel => exact ⟨i + 1, by go_num, by omega, hideIt (by rw [HQ.out]; exact Z.out)⟩
                case measure => simp [intOf]; omega
            · have e3 : ∀ W, (binOp .eql 28 (.agg #[.int .i64 gc, .int .i64 gq]) (.agg #[.int .i64 0, .int .i64 0])).run Try.prog W = .ok (.bool true) W := fun W => by rw [eq28]; rw [show ((gc, gq) == ((0, 0) : TxnV)) = ((gc, gq) == zT) from rfl, hz]
              rw [hz] at HQ
              simp only [if_true] at HQ
              clear hz
              refine wp_region_held_drew (S := (fun W => W.cell? ⟨w.heap.size, 1, none⟩ = some (.slice (some ⟨b, off, none⟩) T.wait.length vc) ∧ W.cell? ⟨b, off + i * 4, none⟩ = some (.int .i64 x) ∧ W.cell? ⟨b, off + i * 4 + 1, none⟩ = some (.int .i64 y) ∧ W.cell? ⟨b, off + i * 4 + 2, none⟩ = some (.int .i64 z) ∧ W.cell? ⟨b, off + i * 4 + 3, none⟩ = some (.int .i64 u) ∧ W.cell? ⟨w.heap.size + 1, 0, none⟩ = some (.int .i64 k) ∧ W.cell? ⟨w.heap.size + 1, 1, none⟩ = some (.int .i64 n) ∧ W.cell? ⟨N, 0, none⟩ = some (.int .i64 gc) ∧ W.cell? ⟨N, 1, none⟩ = some (.int .i64 gq))) (by kernel_rfl) ⟨a1, q0, q1, q2, q3, b0, b1, n0, n1⟩ (fun hHeld => ?_)
              refine wpAnyH_take (i := 0) (oi := ⟨some 62, _, _, _, _, _⟩) (v := ?_) rfl (by kernel_rfl) (by kernel_rfl) (by kernel_rfl) (fun _ _ _ h => h) (Or.inl ⟨by rfl, ?_⟩) (by assumption) ?_
              rotate_left
              · intro w5 hSw
                (try dsimp only at hSw)
                go_simp
                (try with_reducible rfl)
              try simp only [Act.put, List.setIfInBounds_toArray, List.set_cons_zero, List.set_cons_succ]
              refine wpAnyH_take (i := 1) (oi := ⟨some 63, _, _, _, _, _⟩) (v := ?_) rfl (by kernel_rfl) (by kernel_rfl) (by kernel_rfl) (fun _ _ _ h => h) (Or.inl ⟨by rfl, ?_⟩) (by assumption) ?_
              rotate_left
              · intro w5 hSw
                (try dsimp only at hSw)
                go_simp
                (try with_reducible rfl)
              try simp only [Act.put, List.setIfInBounds_toArray, List.set_cons_zero, List.set_cons_succ]
              refine wpAnyH_take (i := 2) (oi := ⟨some 64, _, _, _, _, _⟩) (v := ?_) rfl (by kernel_rfl) (by kernel_rfl) (by kernel_rfl) (fun _ _ _ h => h) (Or.inl ⟨by rfl, ?_⟩) (by assumption) ?_
              rotate_left
              · intro w5 hSw
                (try dsimp only at hSw)
                go_simp
                (try with_reducible rfl)
              try simp only [Act.put, List.setIfInBounds_toArray, List.set_cons_zero, List.set_cons_succ]
              refine wpAnyH_take (i := 3) (oi := ⟨some 65, _, _, _, _, _⟩) (v := ?_) rfl (by kernel_rfl) (by kernel_rfl) (by kernel_rfl) (fun _ _ _ h => h) (Or.inl ⟨by rfl, ?_⟩) (by assumption) ?_
              rotate_left
              · intro w5 hSw
                (try dsimp only at hSw)
                go_simp
                (try with_reducible rfl)
              try simp only [Act.put, List.setIfInBounds_toArray, List.set_cons_zero, List.set_cons_succ]
              refine wpAnyH_take (i := 4) (oi := ⟨some 66, _, _, _, _, _⟩) (v := ?_) rfl (by kernel_rfl) (by kernel_rfl) (by kernel_rfl) (fun _ _ _ h => h) (Or.inl ⟨by rfl, ?_⟩) (by assumption) ?_
              rotate_left
              · intro w5 hSw
                (try dsimp only at hSw)
                go_simp
                (try with_reducible rfl)
              try simp only [Act.put, List.setIfInBounds_toArray, List.set_cons_zero, List.set_cons_succ]
              refine wpAnyH_take (i := 5) (oi := ⟨some 67, _, _, _, _, _⟩) (v := ?_) rfl (by kernel_rfl) (by kernel_rfl) (by kernel_rfl) (fun _ _ _ h => h) (Or.inl ⟨by rfl, ?_⟩) (by assumption) ?_
              rotate_left
              · intro w5 hSw
                (try dsimp only at hSw)
                go_simp
                (try with_reducible rfl)
              try simp only [Act.put, List.setIfInBounds_toArray, List.set_cons_zero, List.set_cons_succ]
              refine wpAnyH_take (i := 6) (oi := ⟨some 68, _, _, _, _, _⟩) (v := ?_) rfl (by kernel_rfl) (by kernel_rfl) (by kernel_rfl) (fun _ _ _ h => h) (Or.inl ⟨by rfl, ?_⟩) (by assumption) ?_
              rotate_left
              · intro w5 hSw
                (try dsimp only at hSw)
                go_simp
                (try with_reducible rfl)
              try simp only [Act.put, List.setIfInBounds_toArray, List.set_cons_zero, List.set_cons_succ]
              refine wpAnyH_take (i := 7) (oi := ⟨some 69, _, _, _, _, _⟩) (v := ?_) rfl (by kernel_rfl) (by kernel_rfl) (by kernel_rfl) (fun _ _ _ h => h) (Or.inl ⟨by rfl, ?_⟩) (by assumption) ?_
              rotate_left
              · intro w5 hSw
                (try dsimp only at hSw)
                go_simp
                (try with_reducible rfl)
              try simp only [Act.put, List.setIfInBounds_toArray, List.set_cons_zero, List.set_cons_succ]
              refine wpAnyH_take (i := 8) (oi := ⟨some 70, _, _, _, _, _⟩) (v := ?_) rfl (by kernel_rfl) (by kernel_rfl) (by kernel_rfl) (fun _ _ _ h => h) (Or.inl ⟨by rfl, ?_⟩) (by assumption) ?_
              rotate_left
              · intro w5 hSw
                (try dsimp only at hSw)
                go_simp
                (try with_reducible rfl)
              try simp only [Act.put, List.setIfInBounds_toArray, List.set_cons_zero, List.set_cons_succ]
              refine wpAnyH_take (i := 9) (oi := ⟨some 71, _, _, _, _, _⟩) (v := ?_) rfl (by kernel_rfl) (by kernel_rfl) (by kernel_rfl) (fun _ _ _ h => h) (Or.inl ⟨by rfl, ?_⟩) (by assumption) ?_
              rotate_left
              · intro w5 hSw
                (try dsimp only at hSw)
                go_simp
                (try with_reducible rfl)
              try simp only [Act.put, List.setIfInBounds_toArray, List.set_cons_zero, List.set_cons_succ]
              refine wpAnyH_take (i := 10) (oi := ⟨some 72, _, _, _, _, _⟩) (v := ?_) rfl (by kernel_rfl) (by kernel_rfl) (by kernel_rfl) (fun _ _ _ h => h) (Or.inl ⟨by rfl, ?_⟩) (by assumption) ?_
              rotate_left
              · intro w5 hSw
                (try dsimp only at hSw)
                go_simp
                (try with_reducible rfl)
              try simp only [Act.put, List.setIfInBounds_toArray, List.set_cons_zero, List.set_cons_succ]
              refine wpAnyH_take (i := 11) (oi := ⟨some 73, _, _, _, _, _⟩) (v := ?_) rfl (by kernel_rfl) (by kernel_rfl) (by kernel_rfl) (fun _ _ _ h => h) (Or.inl ⟨by rfl, ?_⟩) (by assumption) ?_
              rotate_left
              · intro w5 hSw
                (try dsimp only at hSw)
                go_simp
                (try with_reducible rfl)
              try simp only [Act.put, List.setIfInBounds_toArray, List.set_cons_zero, List.set_cons_succ]
              refine wpAnyH_take (i := 12) (oi := ⟨some 74, _, _, _, _, _⟩) (v := ?_) rfl (by kernel_rfl) (by kernel_rfl) (by kernel_rfl) (fun _ _ _ h => h) (Or.inl ⟨by rfl, ?_⟩) (by assumption) ?_
              rotate_left
              · intro w5 hSw
                (try dsimp only at hSw)
                go_simp
                (try with_reducible rfl)
              try simp only [Act.put, List.setIfInBounds_toArray, List.set_cons_zero, List.set_cons_succ]
              refine wpAnyH_take (i := 13) (oi := ⟨some 75, _, _, _, _, _⟩) (v := undef) rfl (by kernel_rfl) (by kernel_rfl) (by kernel_rfl) (fun _ _ _ h => h) (Or.inr ⟨by rfl, rfl⟩) (by assumption) ?_
              try simp only [Act.put, List.setIfInBounds_toArray, List.set_cons_zero, List.set_cons_succ]
              refine wpAnyH_take (i := 14) (oi := ⟨some 76, _, _, _, _, _⟩) (v := undef) rfl (by kernel_rfl) (by kernel_rfl) (by kernel_rfl) (fun _ _ _ h => h) (Or.inr ⟨by rfl, rfl⟩) (by assumption) ?_
              try simp only [Act.put, List.setIfInBounds_toArray, List.set_cons_zero, List.set_cons_succ]
              refine wpAnyH_take (i := 15) (oi := ⟨some 77, _, _, _, _, _⟩) (v := undef) rfl (by kernel_rfl) (by kernel_rfl) (by kernel_rfl) (fun _ _ _ h => h) (Or.inr ⟨by rfl, rfl⟩) (by assumption) ?_
              try simp only [Act.put, List.setIfInBounds_toArray, List.set_cons_zero, List.set_cons_succ]
              refine wpAnyH_take (i := 16) (oi := ⟨some 78, _, _, _, _, _⟩) (v := undef) rfl (by kernel_rfl) (by kernel_rfl) (by kernel_rfl) (fun _ _ _ h => h) (Or.inr ⟨by rfl, rfl⟩) (by assumption) ?_
              try simp only [Act.put, List.setIfInBounds_toArray, List.set_cons_zero, List.set_cons_succ]
              refine wpAnyH_take (i := 17) (oi := ⟨some 79, _, _, _, _, _⟩) (v := undef) rfl (by kernel_rfl) (by kernel_rfl) (by kernel_rfl) (fun _ _ _ h => h) (Or.inr ⟨by rfl, rfl⟩) (by assumption) ?_
              try simp only [Act.put, List.setIfInBounds_toArray, List.set_cons_zero, List.set_cons_succ]
              refine wpAnyH_take (i := 18) (oi := ⟨some 80, _, _, _, _, _⟩) (v := undef) rfl (by kernel_rfl) (by kernel_rfl) (by kernel_rfl) (fun _ _ _ h => h) (Or.inr ⟨by rfl, rfl⟩) (by assumption) ?_
              try simp only [Act.put, List.setIfInBounds_toArray, List.set_cons_zero, List.set_cons_succ]
              refine wpAnyH_take (i := 19) (oi := ⟨some 81, _, _, _, _, _⟩) (v := undef) rfl (by kernel_rfl) (by kernel_rfl) (by kernel_rfl) (fun _ _ _ h => h) (Or.inr ⟨by rfl, rfl⟩) (by assumption) ?_
              try simp only [Act.put, List.setIfInBounds_toArray, List.set_cons_zero, List.set_cons_succ]
              refine wpAnyH_take (i := 20) (oi := ⟨some 82, _, _, _, _, _⟩) (v := undef) rfl (by kernel_rfl) (by kernel_rfl) (by kernel_rfl) (fun _ _ _ h => h) (Or.inr ⟨by rfl, rfl⟩) (by assumption) ?_
              try simp only [Act.put, List.setIfInBounds_toArray, List.set_cons_zero, List.set_cons_succ]
              refine wpAnyH_take (i := 21) (oi := ⟨some 83, _, _, _, _, _⟩) (v := ?_) rfl (by kernel_rfl) (by kernel_rfl) (by kernel_rfl) (fun _ _ _ h => h) (Or.inl ⟨by rfl, ?_⟩) (by assumption) ?_
              rotate_left
              · intro w5 hSw
                (try dsimp only at hSw)
                go_simp
                (try with_reducible rfl)
              try simp only [Act.put, List.setIfInBounds_toArray, List.set_cons_zero, List.set_cons_succ]
              refine wpAnyH_take (i := 22) (oi := ⟨some 84, _, _, _, _, _⟩) (v := ?_) rfl (by kernel_rfl) (by kernel_rfl) (by kernel_rfl) (fun _ _ _ h => h) (Or.inl ⟨by rfl, ?_⟩) (by assumption) ?_
              rotate_left
              · intro w5 hSw
                (try dsimp only at hSw)
                go_simp
                (try with_reducible rfl)
              try simp only [Act.put, List.setIfInBounds_toArray, List.set_cons_zero, List.set_cons_succ]
              refine wpAnyH_done (by kernel_rfl) ?_ _
              have X8 := hideIt (X.out.keep (Below.refl _ wr).drew)
              have Z := hideIt (X8.out.set (z, u))
              clear X X8
              go_wp2
              go_roundw
              case rel => exact ⟨i + 1, by go_num, by omega, hideIt (by rw [HQ.out]; exact Z.out)⟩
              case measure => simp [intOf]; omega
        · have hltI : ¬ (i : Int) < (T.wait.length : Int) := by omega
          have hE : T.wait.take i = T.wait := List.take_of_length_le (by omega)
          rw [hE] at X
          clear hE
          have a0 : wr.cell? ⟨w.heap.size, 0, none⟩ = some (.slice ha T.held.length hc) := XB.out.c 0 0 rfl rfl
          have a1 : wr.cell? ⟨w.heap.size, 1, none⟩ = some (.slice va T.wait.length vc) := XB.out.c 0 1 rfl rfl
          have b0 : wr.cell? ⟨w.heap.size + 1, 0, none⟩ = some (.int .i64 k) := XB.out.c 1 0 rfl rfl
          have b1 : wr.cell? ⟨w.heap.size + 1, 1, none⟩ = some (.int .i64 n) := XB.out.c 1 1 rfl rfl
          have t0 : wr.cell? ⟨w.heap.size + 1 + 1, 0, none⟩ = some (.int .i64 c) := XB.out.c 2 0 rfl rfl
          have t1 : wr.cell? ⟨w.heap.size + 1 + 1, 1, none⟩ = some (.int .i64 q) := XB.out.c 2 1 rfl rfl
          have hw2 := fun f => wiL_len T.wait f
          generalize oldL (qL T.wait (k, n)) = g at *
          obtain ⟨gc, gq⟩ := g
          obtain ⟨n0, n1, -, -, nl⟩ := two_at X.out.nb
          dsimp only at n0 n1
          cases hz : ((gc, gq) == zT)
          · have e3 : ∀ W, (binOp .neq 28 (.agg #[.int .i64 gc, .int .i64 gq]) (.agg #[.int .i64 0, .int .i64 0])).run Try.prog W = .ok (.bool true) W := fun W => by rw [neq28]; rw [show ((gc, gq) == ((0, 0) : TxnV)) = ((gc, gq) == zT) from rfl, hz]; rfl
            have HE : Hid (RES = (⟨nh ++ [((k, n), (gc, gq))], wiL T.wait ((k, n), (gc, gq))⟩, (gc, gq), 0)) := by
              show RES = _
              rw [HX.out, hz]
              simp
            clear HX hz
            have HC := hideIt (HW.out _ T.wait k n gc gq wr (own_sgot X.out.aq.own.ov (by show T.wait.length * 32 ≤ _; omega)))
            obtain ⟨p0, p1, -, -, pl⟩ := two_at X.out.aq.box
            clear hw2
            generalize wiL T.wait ((k, n), (gc, gq)) = nv at *
            go_upto_region 18 with fail
            go_wp2_with fail
            refine HC.out.mono ?_
            rintro e w6 ⟨v6, rfl, ho6, hb6⟩
            dsimp only
            obtain ⟨a6, c6, rfl⟩ := own_len ho6
            have X6 := hideIt (X.out.keep hb6)
            have X7 := hideIt (X.out.setV (c := ⟨ho6, hb6⟩))
            obtain ⟨y0, y1, yf0, yf1, yl⟩ := two_at X6.out.aq.box
            clear p0 p1 pl n0 n1 nl a0 a1 b0 b1 t0 t1 XB ho6 hb6 HC X
            dsimp only at X7
            go_upto_region 19 with fail
            clear y0 y1 yf0 yf1 yl X6
            generalize w6.setCell ⟨P, 1, none⟩ (.slice a6 nv.length c6) = W8 at *
            have XB := hideIt X7.out.aq.bx
            have a0 : W8.cell? ⟨w.heap.size, 0, none⟩ = some (.slice ha T.held.length hc) := XB.out.c 0 0 rfl rfl
            have a1 : W8.cell? ⟨w.heap.size, 1, none⟩ = some (.slice va T.wait.length vc) := XB.out.c 0 1 rfl rfl
            have b0 : W8.cell? ⟨w.heap.size + 1, 0, none⟩ = some (.int .i64 k) := XB.out.c 1 0 rfl rfl
            have b1 : W8.cell? ⟨w.heap.size + 1, 1, none⟩ = some (.int .i64 n) := XB.out.c 1 1 rfl rfl
            have t0 : W8.cell? ⟨w.heap.size + 1 + 1, 0, none⟩ = some (.int .i64 c) := XB.out.c 2 0 rfl rfl
            have t1 : W8.cell? ⟨w.heap.size + 1 + 1, 1, none⟩ = some (.int .i64 q) := XB.out.c 2 1 rfl rfl
            obtain ⟨n0, n1, -, -, nl⟩ := two_at X7.out.nb
            obtain ⟨p0, p1, -, -, pl⟩ := two_at X7.out.aq.box
            obtain ⟨a', c', w9, hrun, AR9, d0, d1, df, dl, dN⟩ := (X7.out.keep (below1 W8 (.cells (holE ((k, n), (gc, gq))).toArray 44))).appH (c := 1) (heap_alloc_new W8 (.cells (holE ((k, n), (gc, gq))).toArray 44)) (by dsimp only; omega)
            unfold holE at hrun
            dsimp only at hrun AR9 dN n0 n1
            have HRUN := hideIt hrun
            have HAR := hideIt AR9
            have HN := hideIt dN
            clear hrun AR9 dN X7
            go_upto_region 20 with (at_builtin; refine Lib.wpList_append_run _ rfl _ _ _ _ rfl _ _ rfl rfl _ _ HRUN.out ?_)
            clear HRUN d0 d1 df dl n0 n1 nl p0 p1 pl a0 a1 b0 b1 t0 t1 XB
            generalize w9.setCell ⟨P, 0, none⟩ (.slice a' (nh.length + 1) c') = W9 at *
            have XB := hideIt HAR.out.bx
            have r0 : W9.cell? ⟨w.heap.size + 1 + 1 + 1, 0, none⟩ = some (.slice none 0 0) := XB.out.c 3 0 rfl rfl
            have r1 : W9.cell? ⟨w.heap.size + 1 + 1 + 1, 1, none⟩ = some (.slice none 0 0) := XB.out.c 3 1 rfl rfl
            have g0 : W9.frozen? ⟨w.heap.size + 1 + 1 + 1, 0, none⟩ = false := XB.out.f 3 0 rfl
            have g1 : W9.frozen? ⟨w.heap.size + 1 + 1 + 1, 1, none⟩ = false := XB.out.f 3 1 rfl
            have s0 : W9.cell? ⟨w.heap.size + 1 + 1 + 1 + 1, 0, none⟩ = some (.int .i64 0) := XB.out.c 4 0 rfl rfl
            have s1 : W9.cell? ⟨w.heap.size + 1 + 1 + 1 + 1, 1, none⟩ = some (.int .i64 0) := XB.out.c 4 1 rfl rfl
            have g2 : W9.frozen? ⟨w.heap.size + 1 + 1 + 1 + 1, 0, none⟩ = false := XB.out.f 4 0 rfl
            have g3 : W9.frozen? ⟨w.heap.size + 1 + 1 + 1 + 1, 1, none⟩ = false := XB.out.f 4 1 rfl
            have osz : w.heap.size + 1 + 1 + 1 + 1 < W9.heap.size := by have := XB.out.size; simp at this; omega
            obtain ⟨p0, p1, -, -, pl⟩ := two_at HAR.out.box
            obtain ⟨n0, n1, -, -, nl⟩ := two_at HN.out
            have nN3 : N ≠ w.heap.size + 1 + 1 + 1 := fun e => by
              have h1 := HN.out
              rw [e, show W9.heap[w.heap.size + 1 + 1 + 1]? = _ from XB.out.at_ 3 (by simp)] at h1
              simp at h1
            have nN4 : N ≠ w.heap.size + 1 + 1 + 1 + 1 := hN4
            have RT := hideIt (HAR.out.ret2 rfl rfl (.int .i64 gc) (.int .i64 gq))
            have RC := hideIt (And.intro (two_at (p := w.heap.size + 1 + 1 + 1) RT.out.1).1 (And.intro (two_at (p := w.heap.size + 1 + 1 + 1) RT.out.1).2.1 (And.intro (two_at (p := w.heap.size + 1 + 1 + 1 + 1) RT.out.2.1).1 (two_at (p := w.heap.size + 1 + 1 + 1 + 1) RT.out.2.1).2.1)))
            go_region
            go_wp2
            exact bodyPost_ret (v := .tuple #[.agg #[.slice a' (nh.length + 1) c', .slice a6 nv.length c6], .agg #[.int .i64 gc, .int .i64 gq], .int .i64 0]) (by simp [results, Try.results16, go_sem, RC.out.1, RC.out.2.1, RC.out.2.2.1, RC.out.2.2.2]) rfl (by rw [HE.out]; exact ⟨_, _, rfl, ⟨RT.out.2.2.1.oh.drew, RT.out.2.2.1.ov.drew⟩, RT.out.2.2.2.drew⟩)
          · have e3 : ∀ W, (binOp .neq 28 (.agg #[.int .i64 gc, .int .i64 gq]) (.agg #[.int .i64 0, .int .i64 0])).run Try.prog W = .ok (.bool false) W := fun W => by rw [neq28]; rw [show ((gc, gq) == ((0, 0) : TxnV)) = ((gc, gq) == zT) from rfl, hz]; rfl
            have HE : Hid (RES = (⟨nh, T.wait⟩, (gc, gq), 0)) := by
              show RES = _
              rw [HX.out, hz]
              rw [beq_iff_eq] at hz
              simp [hz]
            clear HX hz
            obtain ⟨p0, p1, -, -, pl⟩ := two_at X.out.aq.box
            have r0 : wr.cell? ⟨w.heap.size + 1 + 1 + 1, 0, none⟩ = some (.slice none 0 0) := XB.out.c 3 0 rfl rfl
            have r1 : wr.cell? ⟨w.heap.size + 1 + 1 + 1, 1, none⟩ = some (.slice none 0 0) := XB.out.c 3 1 rfl rfl
            have g0 : wr.frozen? ⟨w.heap.size + 1 + 1 + 1, 0, none⟩ = false := XB.out.f 3 0 rfl
            have g1 : wr.frozen? ⟨w.heap.size + 1 + 1 + 1, 1, none⟩ = false := XB.out.f 3 1 rfl
            have s0 : wr.cell? ⟨w.heap.size + 1 + 1 + 1 + 1, 0, none⟩ = some (.int .i64 0) := XB.out.c 4 0 rfl rfl
            have s1 : wr.cell? ⟨w.heap.size + 1 + 1 + 1 + 1, 1, none⟩ = some (.int .i64 0) := XB.out.c 4 1 rfl rfl
            have g2 : wr.frozen? ⟨w.heap.size + 1 + 1 + 1 + 1, 0, none⟩ = false := XB.out.f 4 0 rfl
            have g3 : wr.frozen? ⟨w.heap.size + 1 + 1 + 1 + 1, 1, none⟩ = false := XB.out.f 4 1 rfl
            have osz : w.heap.size + 1 + 1 + 1 + 1 < wr.heap.size := by have := XB.out.size; simp at this; omega
            have nN4 : N ≠ w.heap.size + 1 + 1 + 1 + 1 := hN4
            have nN3 : N ≠ w.heap.size + 1 + 1 + 1 := fun e => by
              have h1 := X.out.nb
              rw [e, show wr.heap[w.heap.size + 1 + 1 + 1]? = _ from XB.out.at_ 3 (by simp)] at h1
              simp at h1
            have RT := hideIt (X.out.aq.ar.ret2 rfl rfl (.int .i64 gc) (.int .i64 gq))
            have RC := hideIt (And.intro (two_at (p := w.heap.size + 1 + 1 + 1) RT.out.1).1 (And.intro (two_at (p := w.heap.size + 1 + 1 + 1) RT.out.1).2.1 (And.intro (two_at (p := w.heap.size + 1 + 1 + 1 + 1) RT.out.2.1).1 (two_at (p := w.heap.size + 1 + 1 + 1 + 1) RT.out.2.1).2.1)))
            go_upto_region 20 with fail
            go_region
            go_wp2
            exact bodyPost_ret (v := .tuple #[.agg #[.slice a5 nh.length c5, .slice va' T.wait.length vc'], .agg #[.int .i64 gc, .int .i64 gq], .int .i64 0]) (by simp [results, Try.results16, go_sem, RC.out.1, RC.out.2.1, RC.out.2.2.1, RC.out.2.2.2]) rfl (by rw [HE.out]; exact ⟨_, _, rfl, ⟨RT.out.2.2.1.oh.drew, RT.out.2.2.1.ov.drew⟩, RT.out.2.2.2.drew⟩)
  · have HE : Hid (freeL T (k, n) (c, q) = (zTab, zT, refE T (k, n) (c, q))) := by
      show freeL _ _ _ = _
      unfold freeL
      rw [if_neg hR]
    have HR := hideIt hR
    generalize freeL T (k, n) (c, q) = RES at *
    generalize refE T (k, n) (c, q) = re at *
    go_enter Try.func16, Try.ntmps16
    go_wp2_with fail
    refine (H1.out _ X0.out.bel).mono ?_
    rintro e w1 ⟨rfl, hb⟩
    dsimp only
    have X1 := hideIt (X0.out.keep hb)
    clear hb H1 X0 H2 H4 HW HO
    have r0 : w1.cell? ⟨w.heap.size + 1 + 1 + 1, 0, none⟩ = some (.slice none 0 0) := X1.out.c 3 0 rfl rfl
    have r1 : w1.cell? ⟨w.heap.size + 1 + 1 + 1, 1, none⟩ = some (.slice none 0 0) := X1.out.c 3 1 rfl rfl
    have g0 : w1.frozen? ⟨w.heap.size + 1 + 1 + 1, 0, none⟩ = false := X1.out.f 3 0 rfl
    have g1 : w1.frozen? ⟨w.heap.size + 1 + 1 + 1, 1, none⟩ = false := X1.out.f 3 1 rfl
    have s0 : w1.cell? ⟨w.heap.size + 1 + 1 + 1 + 1, 0, none⟩ = some (.int .i64 0) := X1.out.c 4 0 rfl rfl
    have s1 : w1.cell? ⟨w.heap.size + 1 + 1 + 1 + 1, 1, none⟩ = some (.int .i64 0) := X1.out.c 4 1 rfl rfl
    have g2 : w1.frozen? ⟨w.heap.size + 1 + 1 + 1 + 1, 0, none⟩ = false := X1.out.f 4 0 rfl
    have g3 : w1.frozen? ⟨w.heap.size + 1 + 1 + 1 + 1, 1, none⟩ = false := X1.out.f 4 1 rfl
    have osz : w.heap.size + 1 + 1 + 1 + 1 < w1.heap.size := by have := X1.out.size; simp at this; omega
    have hb3 := X1.out.at_ 3 (by simp)
    have hb4 := X1.out.at_ 4 (by simp)
    have RH := hideIt (setOther (b := w.heap.size + 1 + 1 + 1 + 1) (j := 1) (.int .i64 0) (setOther (b := w.heap.size + 1 + 1 + 1 + 1) (j := 0) (.int .i64 0) (put2 (b := w.heap.size + 1 + 1 + 1) hb3 (.slice none 0 0) (.slice none 0 0)) (by omega)) (by omega))
    have RK := hideIt (put2 (b := w.heap.size + 1 + 1 + 1 + 1) (setOther (b := w.heap.size + 1 + 1 + 1) (j := 1) (.slice none 0 0) (setOther (b := w.heap.size + 1 + 1 + 1) (j := 0) (.slice none 0 0) hb4 (by omega)) (by omega)) (.int .i64 0) (.int .i64 0))
    have RC := hideIt (And.intro (two_at RH.out).1 (And.intro (two_at RH.out).2.1 (And.intro (two_at RK.out).1 (two_at RK.out).2.1)))
    clear hb3 hb4
    go_wp2
    exact bodyPost_ret (v := .tuple #[.agg #[.slice none 0 0, .slice none 0 0], .agg #[.int .i64 0, .int .i64 0], .int .i64 re]) (by simp [results, Try.results16, go_sem, RC.out.1, RC.out.2.1, RC.out.2.2.1, RC.out.2.2.2]) rfl (by rw [HE.out]; exact ⟨_, _, rfl, zOwn _ _, belowSet _ (belowSet _ (belowSet _ (belowSet _ X1.out.bel (by omega)) (by omega)) (by omega)) (by omega)⟩)
end Go.Proofs.Ytgfpeknhabbkbaa
