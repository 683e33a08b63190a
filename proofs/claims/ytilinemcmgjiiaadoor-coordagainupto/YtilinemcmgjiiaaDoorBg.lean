/- Begin: walked. -/
import Derived.Test.YtilinemcmgjiiaaDoorBp
namespace Go.Proofs.YtilinemcmgjiiaaDoor
open Go.RowKit
set_option linter.all false
theorem at11 {w : World} {p : Nat} {ty : TypeId} {z0 z1 z2 z3 z4 z5 z6 z7 z8 z9 z10 : Value} (h : w.heap[p]? = some (.cells #[z0, z1, z2, z3, z4, z5, z6, z7, z8, z9, z10] ty (0, 0))) : (w.cell? ⟨p, 0, none⟩ = some z0 ∧ w.cell? ⟨p, 1, none⟩ = some z1 ∧ w.cell? ⟨p, 2, none⟩ = some z2 ∧ w.cell? ⟨p, 3, none⟩ = some z3 ∧ w.cell? ⟨p, 4, none⟩ = some z4 ∧ w.cell? ⟨p, 5, none⟩ = some z5 ∧ w.cell? ⟨p, 6, none⟩ = some z6 ∧ w.cell? ⟨p, 7, none⟩ = some z7 ∧ w.cell? ⟨p, 8, none⟩ = some z8 ∧ w.cell? ⟨p, 9, none⟩ = some z9 ∧ w.cell? ⟨p, 10, none⟩ = some z10) ∧ (∀ j, w.frozen? ⟨p, j, none⟩ = false) ∧ p < w.heap.size :=
  ⟨⟨by rw [cell_at h]; rfl, by rw [cell_at h]; rfl, by rw [cell_at h]; rfl, by rw [cell_at h]; rfl, by rw [cell_at h]; rfl, by rw [cell_at h]; rfl, by rw [cell_at h]; rfl, by rw [cell_at h]; rfl, by rw [cell_at h]; rfl, by rw [cell_at h]; rfl, by rw [cell_at h]; rfl⟩, fun j => free_at h j, (Array.getElem?_eq_some_iff.1 h).1⟩
set_option maxHeartbeats 16000000 in
set_option maxRecDepth 100000 in
theorem beginC_is (g : Int) (a : Option Addr) (cp : Nat) (l : List TraX) (c q : Int) (r : ReqV) (pv : Value) (ps : List PeeV) (w : World) (h : Trs w (.slice a l.length cp) l) (hp : Pees w pv ps) (hF : Forms w) (hs : (l.length + 1) * 248 ≤ 140737488355328) : Calls Tryd.prog 17 #[.agg #[.int .i64 g, .slice a l.length cp], .agg #[.int .i64 c, .int .i64 q], .agg (reqC r), pv] w (CorBack (begG g (l.map TraX.v) c q r ps) (begT (l.map TraX.v) c q r ps) (begE (l.map TraX.v) c q r ps) w) := by
  have HN := hideIt (fun W (_ : Below w.heap.size w W) => isNameC_is c q W)
  have HR := hideIt (fun W (hW : Below w.heap.size w W) => fits_is r W (hF.keep hW))
  have HFi := hideIt (fun W (hW : Below w.heap.size w W) => findC_is g a cp l ⟨0, 0, 0, c, q, 0, 0, ⟨0, 0, 0, 0, 0, 0, 0, false, ⟨0, 0⟩, 0⟩, false, zAnsX, [], none, 0⟩ W (h.keep hW))
  have HM := hideIt (fun W (hW : Below w.heap.size w W) => mayBegin_is pv ps W (hp.keep hW) (hF.keep hW))
  have HC := hideIt (fun W (hW : Below w.heap.size w W) => coordF_is g a cp l W (h.keep hW))
  have HP := hideIt (fun W (hW : Below w.heap.size w W) => cloneP_is pv ps W (hp.keep hW))
  have HPS := hideIt hp.1
  obtain ⟨pa, pc, rfl⟩ := hp.slice
  simp only [mesE, reqC, AnsX.am, AnsX.fl, zAnsX, zAns, List.cons_append, List.nil_append, List.length_nil, fnd_v] at HFi
  have hE : begE (l.map TraX.v) c q r ps = if (nmB c q && fitsB r) = true then (if 0 ≤ (fndV c q 0 0 0 (l.map TraX.v) 0 (-1)).1 then 192 else if mayPB ps = true then 0 else 190) else 1 := rfl
  unfold begG begT
  have HNV : Hid (∀ ys : List TraX, ys.map TraX.v = l.map TraX.v → ∀ b1 d1, (ys ++ [(⟨c, q, r, ps, b1, d1, 1, [], none, 0, [], none, 0, zAnsX⟩ : TraX)]).map TraX.v = l.map TraX.v ++ [newV c q r ps]) := fun ys hy b1 d1 => by rw [List.map_append, hy]; rfl
  have hlm : ∀ x : TraV, (l.map TraX.v ++ [x]).length = l.length + 1 := fun x => by simp
  generalize fndV c q 0 0 0 (l.map TraX.v) 0 (-1) = FV at *
  obtain ⟨fa, fp⟩ := FV
  generalize begE (l.map TraX.v) c q r ps = E at *
  clear h hp hF
  generalize nmB c q = nb at *
  generalize fitsB r = fb at *
  generalize mayPB ps = mb at *
  generalize newV c q r ps = NV at *
  obtain ⟨rk, ra, rl, rs, rd, rp, rn, ro, ⟨rkk, rkn⟩, rt⟩ := r
  simp only [reqC] at HR ⊢
  obtain ⟨t1, t2, t3, t4, t5⟩ := four_heap w (.cells #[.int .i64 g, .slice a l.length cp] 25) (.cells #[.int .i64 c, .int .i64 q] 35) (.cells #[.int .i64 rk, .int .i64 ra, .int .i64 rl, .int .i64 rs, .int .i64 rd, .int .i64 rp, .int .i64 rn, .bool ro, .int .i64 rkk, .int .i64 rkn, .int .i64 rt] 39) (.cells #[.int .i64 0, .slice none 0 0] 25)
  have X1 := hideIt t1
  have X2 := hideIt t2
  have X3 := hideIt t3
  have X4 := hideIt t4
  have BW := hideIt (below4 w (.cells #[.int .i64 g, .slice a l.length cp] 25) (.cells #[.int .i64 c, .int .i64 q] 35) (.cells #[.int .i64 rk, .int .i64 ra, .int .i64 rl, .int .i64 rs, .int .i64 rd, .int .i64 rp, .int .i64 rn, .bool ro, .int .i64 rkk, .int .i64 rkn, .int .i64 rt] 39) (.cells #[.int .i64 0, .slice none 0 0] 25))
  clear t1 t2 t3 t4 t5
  try dsimp only at hE
  cases nb
  · rw [if_neg (by simp)] at hE
    subst hE
    rw [if_neg (by decide), if_neg (by decide)]
    go_enter Tryd.func17, Tryd.ntmps17
    go_upto_region 1 with fail
    generalize (((w.alloc (.cells #[.int .i64 g, .slice a l.length cp] 25)).alloc (.cells #[.int .i64 c, .int .i64 q] 35)).alloc (.cells #[.int .i64 rk, .int .i64 ra, .int .i64 rl, .int .i64 rs, .int .i64 rd, .int .i64 rp, .int .i64 rn, .bool ro, .int .i64 rkk, .int .i64 rkn, .int .i64 rt] 39)).alloc (.cells #[.int .i64 0, .slice none 0 0] 25) = W0 at *
    obtain ⟨⟨c0, c1⟩, cf, cz⟩ := at2 X1.out
    obtain ⟨⟨d0, d1⟩, df, dz⟩ := at2 X2.out
    obtain ⟨⟨r0, r1, r2, r3, r4, r5, r6, r7, r8, r9, r10⟩, rf, rz⟩ := at11 X3.out
    obtain ⟨⟨f0, f1⟩, ff, fz⟩ := at2 X4.out
    go_wp2_with fail
    refine (HN.out _ BW.out).mono ?_
    rintro e w1 ⟨rfl, hb⟩
    dsimp only
    have X1n := hideIt (blkK X1.out hb)
    have X2n := hideIt (blkK X2.out hb)
    have X3n := hideIt (blkK X3.out hb)
    have X4n := hideIt (blkK X4.out hb)
    have BWn := hideIt (below_via BW.out hb)
    clear X1 X2 X3 X4 BW hb c0 c1 cf cz d0 d1 df dz r0 r1 r2 r3 r4 r5 r6 r7 r8 r9 r10 rf rz f0 f1 ff fz
    have X1 := X1n
    have X2 := X2n
    have X3 := X3n
    have X4 := X4n
    have BW := BWn
    clear X1n X2n X3n X4n BWn
    obtain ⟨⟨c0, c1⟩, cf, cz⟩ := at2 X1.out
    obtain ⟨⟨d0, d1⟩, df, dz⟩ := at2 X2.out
    obtain ⟨⟨r0, r1, r2, r3, r4, r5, r6, r7, r8, r9, r10⟩, rf, rz⟩ := at11 X3.out
    obtain ⟨⟨f0, f1⟩, ff, fz⟩ := at2 X4.out
    go_wp2
    obtain ⟨hzz, hoo⟩ := puts2 _ (w.heap.size + 3) 25 (.int .i64 0) (.slice none 0 0) X4.out
    exact bodyPost_ret (v := .tuple #[.agg #[.int .i64 0, .slice none 0 0], .int .i64 1]) (by simp [results, Tryd.results17, go_sem, cell_at hzz]) rfl (cor_no X4.out BW.out)
  cases fb
  · rw [if_neg (by decide)] at hE
    subst hE
    rw [if_neg (by decide), if_neg (by decide)]
    go_enter Tryd.func17, Tryd.ntmps17
    go_upto_region 1 with fail
    generalize (((w.alloc (.cells #[.int .i64 g, .slice a l.length cp] 25)).alloc (.cells #[.int .i64 c, .int .i64 q] 35)).alloc (.cells #[.int .i64 rk, .int .i64 ra, .int .i64 rl, .int .i64 rs, .int .i64 rd, .int .i64 rp, .int .i64 rn, .bool ro, .int .i64 rkk, .int .i64 rkn, .int .i64 rt] 39)).alloc (.cells #[.int .i64 0, .slice none 0 0] 25) = W0 at *
    obtain ⟨⟨c0, c1⟩, cf, cz⟩ := at2 X1.out
    obtain ⟨⟨d0, d1⟩, df, dz⟩ := at2 X2.out
    obtain ⟨⟨r0, r1, r2, r3, r4, r5, r6, r7, r8, r9, r10⟩, rf, rz⟩ := at11 X3.out
    obtain ⟨⟨f0, f1⟩, ff, fz⟩ := at2 X4.out
    go_wp2_with fail
    refine (HN.out _ BW.out).mono ?_
    rintro e w1 ⟨rfl, hb⟩
    dsimp only
    have X1n := hideIt (blkK X1.out hb)
    have X2n := hideIt (blkK X2.out hb)
    have X3n := hideIt (blkK X3.out hb)
    have X4n := hideIt (blkK X4.out hb)
    have BWn := hideIt (below_via BW.out hb)
    clear X1 X2 X3 X4 BW hb c0 c1 cf cz d0 d1 df dz r0 r1 r2 r3 r4 r5 r6 r7 r8 r9 r10 rf rz f0 f1 ff fz
    have X1 := X1n
    have X2 := X2n
    have X3 := X3n
    have X4 := X4n
    have BW := BWn
    clear X1n X2n X3n X4n BWn
    obtain ⟨⟨c0, c1⟩, cf, cz⟩ := at2 X1.out
    obtain ⟨⟨d0, d1⟩, df, dz⟩ := at2 X2.out
    obtain ⟨⟨r0, r1, r2, r3, r4, r5, r6, r7, r8, r9, r10⟩, rf, rz⟩ := at11 X3.out
    obtain ⟨⟨f0, f1⟩, ff, fz⟩ := at2 X4.out
    go_wp2_with fail
    refine (HR.out _ BW.out).mono ?_
    rintro e w2 ⟨rfl, hb⟩
    dsimp only
    have X1n := hideIt (blkK X1.out hb)
    have X2n := hideIt (blkK X2.out hb)
    have X3n := hideIt (blkK X3.out hb)
    have X4n := hideIt (blkK X4.out hb)
    have BWn := hideIt (below_via BW.out hb)
    clear X1 X2 X3 X4 BW hb c0 c1 cf cz d0 d1 df dz r0 r1 r2 r3 r4 r5 r6 r7 r8 r9 r10 rf rz f0 f1 ff fz
    have X1 := X1n
    have X2 := X2n
    have X3 := X3n
    have X4 := X4n
    have BW := BWn
    clear X1n X2n X3n X4n BWn
    obtain ⟨⟨c0, c1⟩, cf, cz⟩ := at2 X1.out
    obtain ⟨⟨d0, d1⟩, df, dz⟩ := at2 X2.out
    obtain ⟨⟨r0, r1, r2, r3, r4, r5, r6, r7, r8, r9, r10⟩, rf, rz⟩ := at11 X3.out
    obtain ⟨⟨f0, f1⟩, ff, fz⟩ := at2 X4.out
    go_wp2
    obtain ⟨hzz, hoo⟩ := puts2 _ (w.heap.size + 3) 25 (.int .i64 0) (.slice none 0 0) X4.out
    exact bodyPost_ret (v := .tuple #[.agg #[.int .i64 0, .slice none 0 0], .int .i64 1]) (by simp [results, Tryd.results17, go_sem, cell_at hzz]) rfl (cor_no X4.out BW.out)
  rw [if_pos (by decide)] at hE
  by_cases hat : 0 ≤ fa
  · rw [if_pos hat] at hE
    subst hE
    rw [if_neg (by decide), if_neg (by decide)]
    go_enter Tryd.func17, Tryd.ntmps17
    go_upto_region 1 with fail
    generalize (((w.alloc (.cells #[.int .i64 g, .slice a l.length cp] 25)).alloc (.cells #[.int .i64 c, .int .i64 q] 35)).alloc (.cells #[.int .i64 rk, .int .i64 ra, .int .i64 rl, .int .i64 rs, .int .i64 rd, .int .i64 rp, .int .i64 rn, .bool ro, .int .i64 rkk, .int .i64 rkn, .int .i64 rt] 39)).alloc (.cells #[.int .i64 0, .slice none 0 0] 25) = W0 at *
    obtain ⟨⟨c0, c1⟩, cf, cz⟩ := at2 X1.out
    obtain ⟨⟨d0, d1⟩, df, dz⟩ := at2 X2.out
    obtain ⟨⟨r0, r1, r2, r3, r4, r5, r6, r7, r8, r9, r10⟩, rf, rz⟩ := at11 X3.out
    obtain ⟨⟨f0, f1⟩, ff, fz⟩ := at2 X4.out
    go_wp2_with fail
    refine (HN.out _ BW.out).mono ?_
    rintro e w1 ⟨rfl, hb⟩
    dsimp only
    have X1n := hideIt (blkK X1.out hb)
    have X2n := hideIt (blkK X2.out hb)
    have X3n := hideIt (blkK X3.out hb)
    have X4n := hideIt (blkK X4.out hb)
    have BWn := hideIt (below_via BW.out hb)
    clear X1 X2 X3 X4 BW hb c0 c1 cf cz d0 d1 df dz r0 r1 r2 r3 r4 r5 r6 r7 r8 r9 r10 rf rz f0 f1 ff fz
    have X1 := X1n
    have X2 := X2n
    have X3 := X3n
    have X4 := X4n
    have BW := BWn
    clear X1n X2n X3n X4n BWn
    obtain ⟨⟨c0, c1⟩, cf, cz⟩ := at2 X1.out
    obtain ⟨⟨d0, d1⟩, df, dz⟩ := at2 X2.out
    obtain ⟨⟨r0, r1, r2, r3, r4, r5, r6, r7, r8, r9, r10⟩, rf, rz⟩ := at11 X3.out
    obtain ⟨⟨f0, f1⟩, ff, fz⟩ := at2 X4.out
    go_wp2_with fail
    refine (HR.out _ BW.out).mono ?_
    rintro e w2 ⟨rfl, hb⟩
    dsimp only
    have X1n := hideIt (blkK X1.out hb)
    have X2n := hideIt (blkK X2.out hb)
    have X3n := hideIt (blkK X3.out hb)
    have X4n := hideIt (blkK X4.out hb)
    have BWn := hideIt (below_via BW.out hb)
    clear X1 X2 X3 X4 BW hb c0 c1 cf cz d0 d1 df dz r0 r1 r2 r3 r4 r5 r6 r7 r8 r9 r10 rf rz f0 f1 ff fz
    have X1 := X1n
    have X2 := X2n
    have X3 := X3n
    have X4 := X4n
    have BW := BWn
    clear X1n X2n X3n X4n BWn
    obtain ⟨⟨c0, c1⟩, cf, cz⟩ := at2 X1.out
    obtain ⟨⟨d0, d1⟩, df, dz⟩ := at2 X2.out
    obtain ⟨⟨r0, r1, r2, r3, r4, r5, r6, r7, r8, r9, r10⟩, rf, rz⟩ := at11 X3.out
    obtain ⟨⟨f0, f1⟩, ff, fz⟩ := at2 X4.out
    go_wp2_with fail
    refine (HFi.out _ BW.out).mono ?_
    rintro e w3 ⟨rfl, hb⟩
    dsimp only
    have X1n := hideIt (blkK X1.out hb)
    have X2n := hideIt (blkK X2.out hb)
    have X3n := hideIt (blkK X3.out hb)
    have X4n := hideIt (blkK X4.out hb)
    have BWn := hideIt (below_via BW.out hb)
    clear X1 X2 X3 X4 BW hb c0 c1 cf cz d0 d1 df dz r0 r1 r2 r3 r4 r5 r6 r7 r8 r9 r10 rf rz f0 f1 ff fz
    have X1 := X1n
    have X2 := X2n
    have X3 := X3n
    have X4 := X4n
    have BW := BWn
    clear X1n X2n X3n X4n BWn
    obtain ⟨⟨c0, c1⟩, cf, cz⟩ := at2 X1.out
    obtain ⟨⟨d0, d1⟩, df, dz⟩ := at2 X2.out
    obtain ⟨⟨r0, r1, r2, r3, r4, r5, r6, r7, r8, r9, r10⟩, rf, rz⟩ := at11 X3.out
    obtain ⟨⟨f0, f1⟩, ff, fz⟩ := at2 X4.out
    go_wp2
    obtain ⟨hzz, hoo⟩ := puts2 _ (w.heap.size + 3) 25 (.int .i64 0) (.slice none 0 0) X4.out
    exact bodyPost_ret (v := .tuple #[.agg #[.int .i64 0, .slice none 0 0], .int .i64 192]) (by simp [results, Tryd.results17, go_sem, cell_at hzz]) rfl (cor_no X4.out BW.out)
  rw [if_neg hat] at hE
  cases mb
  · rw [if_neg (by decide)] at hE
    subst hE
    rw [if_neg (by decide), if_neg (by decide)]
    go_enter Tryd.func17, Tryd.ntmps17
    go_upto_region 1 with fail
    generalize (((w.alloc (.cells #[.int .i64 g, .slice a l.length cp] 25)).alloc (.cells #[.int .i64 c, .int .i64 q] 35)).alloc (.cells #[.int .i64 rk, .int .i64 ra, .int .i64 rl, .int .i64 rs, .int .i64 rd, .int .i64 rp, .int .i64 rn, .bool ro, .int .i64 rkk, .int .i64 rkn, .int .i64 rt] 39)).alloc (.cells #[.int .i64 0, .slice none 0 0] 25) = W0 at *
    obtain ⟨⟨c0, c1⟩, cf, cz⟩ := at2 X1.out
    obtain ⟨⟨d0, d1⟩, df, dz⟩ := at2 X2.out
    obtain ⟨⟨r0, r1, r2, r3, r4, r5, r6, r7, r8, r9, r10⟩, rf, rz⟩ := at11 X3.out
    obtain ⟨⟨f0, f1⟩, ff, fz⟩ := at2 X4.out
    go_wp2_with fail
    refine (HN.out _ BW.out).mono ?_
    rintro e w1 ⟨rfl, hb⟩
    dsimp only
    have X1n := hideIt (blkK X1.out hb)
    have X2n := hideIt (blkK X2.out hb)
    have X3n := hideIt (blkK X3.out hb)
    have X4n := hideIt (blkK X4.out hb)
    have BWn := hideIt (below_via BW.out hb)
    clear X1 X2 X3 X4 BW hb c0 c1 cf cz d0 d1 df dz r0 r1 r2 r3 r4 r5 r6 r7 r8 r9 r10 rf rz f0 f1 ff fz
    have X1 := X1n
    have X2 := X2n
    have X3 := X3n
    have X4 := X4n
    have BW := BWn
    clear X1n X2n X3n X4n BWn
    obtain ⟨⟨c0, c1⟩, cf, cz⟩ := at2 X1.out
    obtain ⟨⟨d0, d1⟩, df, dz⟩ := at2 X2.out
    obtain ⟨⟨r0, r1, r2, r3, r4, r5, r6, r7, r8, r9, r10⟩, rf, rz⟩ := at11 X3.out
    obtain ⟨⟨f0, f1⟩, ff, fz⟩ := at2 X4.out
    go_wp2_with fail
    refine (HR.out _ BW.out).mono ?_
    rintro e w2 ⟨rfl, hb⟩
    dsimp only
    have X1n := hideIt (blkK X1.out hb)
    have X2n := hideIt (blkK X2.out hb)
    have X3n := hideIt (blkK X3.out hb)
    have X4n := hideIt (blkK X4.out hb)
    have BWn := hideIt (below_via BW.out hb)
    clear X1 X2 X3 X4 BW hb c0 c1 cf cz d0 d1 df dz r0 r1 r2 r3 r4 r5 r6 r7 r8 r9 r10 rf rz f0 f1 ff fz
    have X1 := X1n
    have X2 := X2n
    have X3 := X3n
    have X4 := X4n
    have BW := BWn
    clear X1n X2n X3n X4n BWn
    obtain ⟨⟨c0, c1⟩, cf, cz⟩ := at2 X1.out
    obtain ⟨⟨d0, d1⟩, df, dz⟩ := at2 X2.out
    obtain ⟨⟨r0, r1, r2, r3, r4, r5, r6, r7, r8, r9, r10⟩, rf, rz⟩ := at11 X3.out
    obtain ⟨⟨f0, f1⟩, ff, fz⟩ := at2 X4.out
    go_wp2_with fail
    refine (HFi.out _ BW.out).mono ?_
    rintro e w3 ⟨rfl, hb⟩
    dsimp only
    have X1n := hideIt (blkK X1.out hb)
    have X2n := hideIt (blkK X2.out hb)
    have X3n := hideIt (blkK X3.out hb)
    have X4n := hideIt (blkK X4.out hb)
    have BWn := hideIt (below_via BW.out hb)
    clear X1 X2 X3 X4 BW hb c0 c1 cf cz d0 d1 df dz r0 r1 r2 r3 r4 r5 r6 r7 r8 r9 r10 rf rz f0 f1 ff fz
    have X1 := X1n
    have X2 := X2n
    have X3 := X3n
    have X4 := X4n
    have BW := BWn
    clear X1n X2n X3n X4n BWn
    obtain ⟨⟨c0, c1⟩, cf, cz⟩ := at2 X1.out
    obtain ⟨⟨d0, d1⟩, df, dz⟩ := at2 X2.out
    obtain ⟨⟨r0, r1, r2, r3, r4, r5, r6, r7, r8, r9, r10⟩, rf, rz⟩ := at11 X3.out
    obtain ⟨⟨f0, f1⟩, ff, fz⟩ := at2 X4.out
    go_wp2_with fail
    refine (HM.out _ BW.out).mono ?_
    rintro e w4 ⟨rfl, hb⟩
    dsimp only
    have X1n := hideIt (blkK X1.out hb)
    have X2n := hideIt (blkK X2.out hb)
    have X3n := hideIt (blkK X3.out hb)
    have X4n := hideIt (blkK X4.out hb)
    have BWn := hideIt (below_via BW.out hb)
    clear X1 X2 X3 X4 BW hb c0 c1 cf cz d0 d1 df dz r0 r1 r2 r3 r4 r5 r6 r7 r8 r9 r10 rf rz f0 f1 ff fz
    have X1 := X1n
    have X2 := X2n
    have X3 := X3n
    have X4 := X4n
    have BW := BWn
    clear X1n X2n X3n X4n BWn
    obtain ⟨⟨c0, c1⟩, cf, cz⟩ := at2 X1.out
    obtain ⟨⟨d0, d1⟩, df, dz⟩ := at2 X2.out
    obtain ⟨⟨r0, r1, r2, r3, r4, r5, r6, r7, r8, r9, r10⟩, rf, rz⟩ := at11 X3.out
    obtain ⟨⟨f0, f1⟩, ff, fz⟩ := at2 X4.out
    go_wp2
    obtain ⟨hzz, hoo⟩ := puts2 _ (w.heap.size + 3) 25 (.int .i64 0) (.slice none 0 0) X4.out
    exact bodyPost_ret (v := .tuple #[.agg #[.int .i64 0, .slice none 0 0], .int .i64 190]) (by simp [results, Tryd.results17, go_sem, cell_at hzz]) rfl (cor_no X4.out BW.out)
  rw [if_pos rfl] at hE
  subst hE
  rw [if_pos rfl, if_pos rfl]
  go_enter Tryd.func17, Tryd.ntmps17
  go_upto_region 1 with fail
  generalize (((w.alloc (.cells #[.int .i64 g, .slice a l.length cp] 25)).alloc (.cells #[.int .i64 c, .int .i64 q] 35)).alloc (.cells #[.int .i64 rk, .int .i64 ra, .int .i64 rl, .int .i64 rs, .int .i64 rd, .int .i64 rp, .int .i64 rn, .bool ro, .int .i64 rkk, .int .i64 rkn, .int .i64 rt] 39)).alloc (.cells #[.int .i64 0, .slice none 0 0] 25) = W0 at *
  obtain ⟨⟨c0, c1⟩, cf, cz⟩ := at2 X1.out
  obtain ⟨⟨d0, d1⟩, df, dz⟩ := at2 X2.out
  obtain ⟨⟨r0, r1, r2, r3, r4, r5, r6, r7, r8, r9, r10⟩, rf, rz⟩ := at11 X3.out
  obtain ⟨⟨f0, f1⟩, ff, fz⟩ := at2 X4.out
  go_wp2_with fail
  refine (HN.out _ BW.out).mono ?_
  rintro e w1 ⟨rfl, hb⟩
  dsimp only
  have X1n := hideIt (blkK X1.out hb)
  have X2n := hideIt (blkK X2.out hb)
  have X3n := hideIt (blkK X3.out hb)
  have X4n := hideIt (blkK X4.out hb)
  have BWn := hideIt (below_via BW.out hb)
  clear X1 X2 X3 X4 BW hb c0 c1 cf cz d0 d1 df dz r0 r1 r2 r3 r4 r5 r6 r7 r8 r9 r10 rf rz f0 f1 ff fz
  have X1 := X1n
  have X2 := X2n
  have X3 := X3n
  have X4 := X4n
  have BW := BWn
  clear X1n X2n X3n X4n BWn
  obtain ⟨⟨c0, c1⟩, cf, cz⟩ := at2 X1.out
  obtain ⟨⟨d0, d1⟩, df, dz⟩ := at2 X2.out
  obtain ⟨⟨r0, r1, r2, r3, r4, r5, r6, r7, r8, r9, r10⟩, rf, rz⟩ := at11 X3.out
  obtain ⟨⟨f0, f1⟩, ff, fz⟩ := at2 X4.out
  go_wp2_with fail
  refine (HR.out _ BW.out).mono ?_
  rintro e w2 ⟨rfl, hb⟩
  dsimp only
  have X1n := hideIt (blkK X1.out hb)
  have X2n := hideIt (blkK X2.out hb)
  have X3n := hideIt (blkK X3.out hb)
  have X4n := hideIt (blkK X4.out hb)
  have BWn := hideIt (below_via BW.out hb)
  clear X1 X2 X3 X4 BW hb c0 c1 cf cz d0 d1 df dz r0 r1 r2 r3 r4 r5 r6 r7 r8 r9 r10 rf rz f0 f1 ff fz
  have X1 := X1n
  have X2 := X2n
  have X3 := X3n
  have X4 := X4n
  have BW := BWn
  clear X1n X2n X3n X4n BWn
  obtain ⟨⟨c0, c1⟩, cf, cz⟩ := at2 X1.out
  obtain ⟨⟨d0, d1⟩, df, dz⟩ := at2 X2.out
  obtain ⟨⟨r0, r1, r2, r3, r4, r5, r6, r7, r8, r9, r10⟩, rf, rz⟩ := at11 X3.out
  obtain ⟨⟨f0, f1⟩, ff, fz⟩ := at2 X4.out
  go_wp2_with fail
  refine (HFi.out _ BW.out).mono ?_
  rintro e w3 ⟨rfl, hb⟩
  dsimp only
  have X1n := hideIt (blkK X1.out hb)
  have X2n := hideIt (blkK X2.out hb)
  have X3n := hideIt (blkK X3.out hb)
  have X4n := hideIt (blkK X4.out hb)
  have BWn := hideIt (below_via BW.out hb)
  clear X1 X2 X3 X4 BW hb c0 c1 cf cz d0 d1 df dz r0 r1 r2 r3 r4 r5 r6 r7 r8 r9 r10 rf rz f0 f1 ff fz
  have X1 := X1n
  have X2 := X2n
  have X3 := X3n
  have X4 := X4n
  have BW := BWn
  clear X1n X2n X3n X4n BWn
  obtain ⟨⟨c0, c1⟩, cf, cz⟩ := at2 X1.out
  obtain ⟨⟨d0, d1⟩, df, dz⟩ := at2 X2.out
  obtain ⟨⟨r0, r1, r2, r3, r4, r5, r6, r7, r8, r9, r10⟩, rf, rz⟩ := at11 X3.out
  obtain ⟨⟨f0, f1⟩, ff, fz⟩ := at2 X4.out
  go_wp2_with fail
  refine (HM.out _ BW.out).mono ?_
  rintro e w4 ⟨rfl, hb⟩
  dsimp only
  have X1n := hideIt (blkK X1.out hb)
  have X2n := hideIt (blkK X2.out hb)
  have X3n := hideIt (blkK X3.out hb)
  have X4n := hideIt (blkK X4.out hb)
  have BWn := hideIt (below_via BW.out hb)
  clear X1 X2 X3 X4 BW hb c0 c1 cf cz d0 d1 df dz r0 r1 r2 r3 r4 r5 r6 r7 r8 r9 r10 rf rz f0 f1 ff fz
  have X1 := X1n
  have X2 := X2n
  have X3 := X3n
  have X4 := X4n
  have BW := BWn
  clear X1n X2n X3n X4n BWn
  obtain ⟨⟨c0, c1⟩, cf, cz⟩ := at2 X1.out
  obtain ⟨⟨d0, d1⟩, df, dz⟩ := at2 X2.out
  obtain ⟨⟨r0, r1, r2, r3, r4, r5, r6, r7, r8, r9, r10⟩, rf, rz⟩ := at11 X3.out
  obtain ⟨⟨f0, f1⟩, ff, fz⟩ := at2 X4.out
  clear HN HR HFi HM
  go_wp2_with fail
  refine (HC.out _ BW.out).mono ?_
  rintro e w5 ⟨a', c', ys, rfl, hy, ho, hb⟩
  dsimp only
  have hsz := BW.out.size
  have hz3 := (Array.getElem?_eq_some_iff.1 X4.out).1
  have hz5 : w.heap.size + 4 ≤ w5.heap.size := by have := hb.size; omega
  have hb9 := below1 w5 (.cells #[.int .i64 g, .slice a' l.length c'] 25)
  have hb := below_via hb hb9
  have X5 := hideIt (heap_alloc_new w5 (.cells #[.int .i64 g, .slice a' l.length c'] 25))
  have HO := hideIt ((ho.base (show w.heap.size + 4 ≤ w4.heap.size by omega)).keep hb9)
  have HY := hideIt hy
  have hyl : ys.length = l.length := by have := congrArg List.length hy; simpa using this
  clear ho hy hb9 hsz HC hz3
  have X1n := hideIt (blkK X1.out hb)
  have X2n := hideIt (blkK X2.out hb)
  have X3n := hideIt (blkK X3.out hb)
  have X4n := hideIt (blkK X4.out hb)
  have BWn := hideIt (below_via BW.out hb)
  clear X1 X2 X3 X4 BW hb c0 c1 cf cz d0 d1 df dz r0 r1 r2 r3 r4 r5 r6 r7 r8 r9 r10 rf rz f0 f1 ff fz
  have X1 := X1n
  have X2 := X2n
  have X3 := X3n
  have X4 := X4n
  have BW := BWn
  clear X1n X2n X3n X4n BWn
  go_upto_region 9 with fail
  generalize hN5 : w5.heap.size = nx at *
  generalize w5.alloc (.cells #[.int .i64 g, .slice a' l.length c'] 25) = W5 at *
  obtain ⟨⟨c0, c1⟩, cf, cz⟩ := at2 X1.out
  obtain ⟨⟨d0, d1⟩, df, dz⟩ := at2 X2.out
  obtain ⟨⟨r0, r1, r2, r3, r4, r5, r6, r7, r8, r9, r10⟩, rf, rz⟩ := at11 X3.out
  obtain ⟨⟨f0, f1⟩, ff, fz⟩ := at2 X4.out
  obtain ⟨⟨n0, n1⟩, nf, nz⟩ := at2 X5.out
  clear c0 c1 cf cz f0 f1 ff fz
  have HCl : Hid (∀ W, Below W5.heap.size W5 W → Calls Tryd.prog 34 #[.slice pa ps.length pc] W fun e w' => ∃ b1 d1, e = .returned (.slice b1 ps.length d1) ∧ Hid (∃ va vc w'', (Builtin.append_ #[23, 23] 23 #[.slice a' l.length c', .slice (some ⟨w'.heap.size, 0, none⟩) 1 1]).run Tryd.prog (w'.alloc (.cells #[.int .i64 c, .int .i64 q, .int .i64 rk, .int .i64 ra, .int .i64 rl, .int .i64 rs, .int .i64 rd, .int .i64 rp, .int .i64 rn, .bool ro, .int .i64 rkk, .int .i64 rkn, .int .i64 rt, .slice b1 ps.length d1, .int .i64 1, .slice none 0 0, .slice none 0 0, .int .i64 0, .int .i64 0, .slice none 0 0, .slice none 0 0] 52)) = .ok (.slice va (l.length + 1) vc) w'' ∧ (w'.alloc (.cells #[.int .i64 c, .int .i64 q, .int .i64 rk, .int .i64 ra, .int .i64 rl, .int .i64 rs, .int .i64 rd, .int .i64 rp, .int .i64 rn, .bool ro, .int .i64 rkk, .int .i64 rkn, .int .i64 rt, .slice b1 ps.length d1, .int .i64 1, .slice none 0 0, .slice none 0 0, .int .i64 0, .int .i64 0, .slice none 0 0, .slice none 0 0] 52)).cell? ⟨nx, 1, none⟩ = some (.slice a' l.length c') ∧ w''.heap[nx]? = some (.cells #[.int .i64 g, .slice a' l.length c'] 25 (0, 0)) ∧ w''.heap[w.heap.size + 3]? = some (.cells #[.int .i64 0, .slice none 0 0] 25) ∧ (w''.cell? ⟨w.heap.size + 1, 0, none⟩ = some (.int .i64 c) ∧ w''.cell? ⟨w.heap.size + 1, 1, none⟩ = some (.int .i64 q) ∧ w''.cell? ⟨w.heap.size + 2, 0, none⟩ = some (.int .i64 rk) ∧ w''.cell? ⟨w.heap.size + 2, 1, none⟩ = some (.int .i64 ra) ∧ w''.cell? ⟨w.heap.size + 2, 2, none⟩ = some (.int .i64 rl) ∧ w''.cell? ⟨w.heap.size + 2, 3, none⟩ = some (.int .i64 rs) ∧ w''.cell? ⟨w.heap.size + 2, 4, none⟩ = some (.int .i64 rd) ∧ w''.cell? ⟨w.heap.size + 2, 5, none⟩ = some (.int .i64 rp) ∧ w''.cell? ⟨w.heap.size + 2, 6, none⟩ = some (.int .i64 rn) ∧ w''.cell? ⟨w.heap.size + 2, 7, none⟩ = some (.bool ro) ∧ w''.cell? ⟨w.heap.size + 2, 8, none⟩ = some (.int .i64 rkk) ∧ w''.cell? ⟨w.heap.size + 2, 9, none⟩ = some (.int .i64 rkn) ∧ w''.cell? ⟨w.heap.size + 2, 10, none⟩ = some (.int .i64 rt)) ∧ (∃ zs : List TraX, zs.map TraX.v = l.map TraX.v ++ [NV] ∧ TrsOwn (w.heap.size + 4) w'' (.slice va (l.length + 1) vc) zs) ∧ Below w.heap.size w w'') ∧ (w'.cell? ⟨nx, 1, none⟩ = some (.slice a' l.length c') ∧ w'.cell? ⟨w.heap.size + 1, 0, none⟩ = some (.int .i64 c) ∧ w'.cell? ⟨w.heap.size + 1, 1, none⟩ = some (.int .i64 q) ∧ w'.cell? ⟨w.heap.size + 2, 0, none⟩ = some (.int .i64 rk) ∧ w'.cell? ⟨w.heap.size + 2, 1, none⟩ = some (.int .i64 ra) ∧ w'.cell? ⟨w.heap.size + 2, 2, none⟩ = some (.int .i64 rl) ∧ w'.cell? ⟨w.heap.size + 2, 3, none⟩ = some (.int .i64 rs) ∧ w'.cell? ⟨w.heap.size + 2, 4, none⟩ = some (.int .i64 rd) ∧ w'.cell? ⟨w.heap.size + 2, 5, none⟩ = some (.int .i64 rp) ∧ w'.cell? ⟨w.heap.size + 2, 6, none⟩ = some (.int .i64 rn) ∧ w'.cell? ⟨w.heap.size + 2, 7, none⟩ = some (.bool ro) ∧ w'.cell? ⟨w.heap.size + 2, 8, none⟩ = some (.int .i64 rkk) ∧ w'.cell? ⟨w.heap.size + 2, 9, none⟩ = some (.int .i64 rkn) ∧ w'.cell? ⟨w.heap.size + 2, 10, none⟩ = some (.int .i64 rt))) := by
    intro W hW
    refine (HP.out W (below_via BW.out hW)).mono ?_
    rintro e w6 ⟨b1, d1, rfl, ho, hb⟩
    have hW6 := below_via hW hb
    have hb1 := below1 w6 (.cells #[.int .i64 c, .int .i64 q, .int .i64 rk, .int .i64 ra, .int .i64 rl, .int .i64 rs, .int .i64 rd, .int .i64 rp, .int .i64 rn, .bool ro, .int .i64 rkk, .int .i64 rkn, .int .i64 rt, .slice b1 ps.length d1, .int .i64 1, .slice none 0 0, .slice none 0 0, .int .i64 0, .int .i64 0, .slice none 0 0, .slice none 0 0] 52)
    have hWA := below_via hW6 hb1
    have hO := HO.out.keep hWA
    have hsz := hWA.size
    have hsz5 := BW.out.size
    have hsW := hW.size
    have hY : TraOwn W.heap.size w6 ⟨c, q, ⟨rk, ra, rl, rs, rd, rp, rn, ro, ⟨rkk, rkn⟩, rt⟩, ps, b1, d1, 1, [], none, 0, [], none, 0, zAnsX⟩ := ⟨ho, own_nil _ _, CelsOwn.nil _ _, zOwnA _ _, HPS.out, by simp⟩
    have hdj : ∀ s ∈ ys, djT s ⟨c, q, ⟨rk, ra, rl, rs, rd, rp, rn, ro, ⟨rkk, rkn⟩, rt⟩, ps, b1, d1, 1, [], none, 0, [], none, 0, zAnsX⟩ := fun s hs => fresh_dj (HO.out.own s hs) hY hW.size
    obtain ⟨v', w'', hrun, how, hgr⟩ := app1 (enc := traE) (t := 23) traK tra1 Tryd.underlying23 infoTra rfl (by omega) (w6.alloc (.cells #[.int .i64 c, .int .i64 q, .int .i64 rk, .int .i64 ra, .int .i64 rl, .int .i64 rs, .int .i64 rd, .int .i64 rp, .int .i64 rn, .bool ro, .int .i64 rkk, .int .i64 rkn, .int .i64 rt, .slice b1 ps.length d1, .int .i64 1, .slice none 0 0, .slice none 0 0, .int .i64 0, .int .i64 0, .slice none 0 0, .slice none 0 0] 52)) (w.heap.size + 4) (.slice a' l.length c') ys ⟨c, q, ⟨rk, ra, rl, rs, rd, rp, rn, ro, ⟨rkk, rkn⟩, rt⟩, ps, b1, d1, 1, [], none, 0, [], none, 0, zAnsX⟩ w6.heap.size 1 (by omega) hO.row (by
      rw [heap_alloc_new w6 _]
      simp only [traE, reqC, AnsX.am, AnsX.fl, zAnsX, zAns, List.cons_append, List.nil_append, List.length_nil]) (by omega) (by unfold maxLen; omega)
    have hN := hO.app ((hY.base (show w.heap.size + 4 ≤ W.heap.size by omega)).keep hb1) hdj how hgr (by omega)
    have hBW := below_via BW.out hWA
    obtain ⟨va, vc, rfl⟩ := own_len how
    rw [show (ys ++ [(⟨c, q, ⟨rk, ra, rl, rs, rd, rp, rn, ro, ⟨rkk, rkn⟩, rt⟩, ps, b1, d1, 1, [], none, 0, [], none, 0, zAnsX⟩ : TraX)]).length = l.length + 1 by rw [List.length_append, hyl]; rfl] at hrun hN
    obtain ⟨⟨k0, k1⟩, -, -⟩ := at2 (blkK X5.out hW6)
    obtain ⟨⟨k2, k3⟩, -, -⟩ := at2 (blkK X2.out hW6)
    obtain ⟨kk, -, -⟩ := at11 (blkK X3.out hW6)
    obtain ⟨j0, -, -⟩ := at2 (box_type hgr hO.row (blkK X2.out hWA) (by decide))
    obtain ⟨j1, -, -⟩ := at11 (box_type hgr hO.row (blkK X3.out hWA) (by decide))
    exact ⟨b1, d1, rfl, ⟨va, vc, w'', hrun, (at2 (blkK X5.out hWA)).1.2, box_type hgr hO.row (blkK X5.out hWA) (by decide), box_type hgr hO.row (blkK X4.out hWA) (by decide), ⟨j0.1, j0.2, j1⟩, ⟨_, HNV.out ys HY.out b1 d1, hN⟩, grown_own hgr hO.row (by omega) hBW⟩, k1, k2, k3, kk⟩
  clear HP HO HY HPS HNV X1 X2 X3 X4 BW X5
  have en1 : nx ≠ w.heap.size + 1 := by omega
  have en2 : nx ≠ w.heap.size + 2 := by omega
  refine wp_region_held_drew (S := fun W => W.cell? ⟨w.heap.size + 1, 0, none⟩ = some (.int .i64 c) ∧ W.cell? ⟨w.heap.size + 1, 1, none⟩ = some (.int .i64 q) ∧ W.cell? ⟨w.heap.size + 2, 0, none⟩ = some (.int .i64 rk) ∧ W.cell? ⟨w.heap.size + 2, 1, none⟩ = some (.int .i64 ra) ∧ W.cell? ⟨w.heap.size + 2, 2, none⟩ = some (.int .i64 rl) ∧ W.cell? ⟨w.heap.size + 2, 3, none⟩ = some (.int .i64 rs) ∧ W.cell? ⟨w.heap.size + 2, 4, none⟩ = some (.int .i64 rd) ∧ W.cell? ⟨w.heap.size + 2, 5, none⟩ = some (.int .i64 rp) ∧ W.cell? ⟨w.heap.size + 2, 6, none⟩ = some (.int .i64 rn) ∧ W.cell? ⟨w.heap.size + 2, 7, none⟩ = some (.bool ro) ∧ W.cell? ⟨w.heap.size + 2, 8, none⟩ = some (.int .i64 rkk) ∧ W.cell? ⟨w.heap.size + 2, 9, none⟩ = some (.int .i64 rkn) ∧ W.cell? ⟨w.heap.size + 2, 10, none⟩ = some (.int .i64 rt)) (by kernel_rfl) (by go_keep) (fun hHeld => ?_)
  refine wpAnyH_take (i := 0) (oi := ⟨some 38, _, _, _, _, _⟩) (v := ?_) rfl (by kernel_rfl) (by kernel_rfl) (by kernel_rfl) (fun _ _ _ h => h) (Or.inl ⟨by rfl, ?_⟩) (by assumption) ?_
  rotate_left
  · intro w5 hSw
    (try dsimp only at hSw)
    go_simp
    (try with_reducible rfl)
  try simp only [Act.put, List.setIfInBounds_toArray, List.set_cons_zero, List.set_cons_succ]
  refine wpAnyH_take (i := 2) (oi := ⟨some 40, _, _, _, _, _⟩) (v := ?_) rfl (by kernel_rfl) (by kernel_rfl) (by kernel_rfl) (fun _ _ _ h => h) (Or.inl ⟨by rfl, ?_⟩) (by assumption) ?_
  rotate_left
  · intro w5 hSw
    (try dsimp only at hSw)
    go_simp
    (try with_reducible rfl)
  try simp only [Act.put, List.setIfInBounds_toArray, List.set_cons_zero, List.set_cons_succ]
  refine wpAnyH_take (i := 3) (oi := ⟨some 41, _, _, _, _, _⟩) (v := ?_) rfl (by kernel_rfl) (by kernel_rfl) (by kernel_rfl) (fun _ _ _ h => h) (Or.inl ⟨by rfl, ?_⟩) (by assumption) ?_
  rotate_left
  · intro w5 hSw
    (try dsimp only at hSw)
    go_simp
    (try with_reducible rfl)
  try simp only [Act.put, List.setIfInBounds_toArray, List.set_cons_zero, List.set_cons_succ]
  refine wpAnyH_take (i := 4) (oi := ⟨some 42, _, _, _, _, _⟩) (v := ?_) rfl (by kernel_rfl) (by kernel_rfl) (by kernel_rfl) (fun _ _ _ h => h) (Or.inl ⟨by rfl, ?_⟩) (by assumption) ?_
  rotate_left
  · intro w5 hSw
    (try dsimp only at hSw)
    go_simp
    (try with_reducible rfl)
  try simp only [Act.put, List.setIfInBounds_toArray, List.set_cons_zero, List.set_cons_succ]
  refine wpAnyH_ready (rs := [1, 5]) (by kernel_rfl) (by simp) ?_
  refine (AllReadyH.cons (o := ⟨some 39, _, _, _, _, _⟩) rfl (fun Kx hK => ?_) (AllReadyH.cons (o := ⟨some 43, _, _, _, _, _⟩) rfl (fun Kx hK => ?_) AllReadyH.nil))
  · go_simp
    refine hK.out _ _ (by go_keep) (fun hHeld => ?_)
    clear hK Kx
    try simp only [Act.put, List.setIfInBounds_toArray, List.set_cons_zero, List.set_cons_succ]
    refine wpAnyH_ready (rs := [5]) (by kernel_rfl) (by simp) ?_
    refine (AllReadyH.cons (o := ⟨some 43, _, _, _, _, _⟩) rfl (fun Kx hK => ?_) AllReadyH.nil)
    go_simp
    go_at_call 34
    refine (HCl.out _ (by first | exact Below.refl _ _ | exact (Below.refl _ _).drew)).mono ?_
    rintro e w6 ⟨b1, d1, rfl, HE, k0, k1, k2, k3, k4, k5, k6, k7, k8, k9, k10, k11, k12, k13⟩
    obtain ⟨va, vc, w'', hrun6, kA, y5, y4, ⟨z0, z1, z2, z3, z4, z5, z6, z7, z8, z9, z10, z11, z12⟩, HZ, BZ⟩ := HE.out
    have Y5 := hideIt y5
    have Y4 := hideIt y4
    have HZ := hideIt HZ
    have BZ := hideIt BZ
    obtain ⟨⟨m0, m1⟩, mf, mz⟩ := at2 y5
    clear y5 y4 HE HCl
    refine hK.out _ _ (by go_keep) (fun hHeld => ?_)
    clear hK Kx
    try simp only [Act.put, List.setIfInBounds_toArray, List.set_cons_zero, List.set_cons_succ]
    refine wpAnyH_take (i := 6) (oi := ⟨some 44, _, _, _, _, _⟩) (v := ?_) rfl (by kernel_rfl) (by kernel_rfl) (by kernel_rfl) (fun _ _ _ h => h) (Or.inl ⟨by rfl, ?_⟩) (by assumption) ?_
    rotate_left
    · intro w5 hSw
      (try dsimp only at hSw)
      go_simp
      (try with_reducible rfl)
    try simp only [Act.put, List.setIfInBounds_toArray, List.set_cons_zero, List.set_cons_succ]
    refine wpAnyH_ready (rs := [7]) (by kernel_rfl) (by simp) ?_
    refine (AllReadyH.cons (o := ⟨some 45, _, _, _, _, _⟩) rfl (fun Kx hK => ?_) AllReadyH.nil)
    go_simp
    refine hK.out _ _ (by go_keep) (fun hHeld => ?_)
    clear hK Kx
    try simp only [Act.put, List.setIfInBounds_toArray, List.set_cons_zero, List.set_cons_succ]
    refine wpAnyH_ready (rs := [8]) (by kernel_rfl) (by simp) ?_
    refine (AllReadyH.cons (o := ⟨some 46, _, _, _, _, _⟩) rfl (fun Kx hK => ?_) AllReadyH.nil)
    refine step_app_runK rfl _ _ 23 23 rfl _ _ rfl rfl hrun6 ?_
    refine hK.out _ _ (by go_keep) (fun hHeld => ?_)
    clear hK Kx
    try simp only [Act.put, List.setIfInBounds_toArray, List.set_cons_zero, List.set_cons_succ]
    refine wpAnyH_take (i := 9) (oi := ⟨some 47, _, _, _, _, _⟩) (v := ?_) rfl (by kernel_rfl) (by kernel_rfl) (by kernel_rfl) (fun _ _ _ h => h) (Or.inl ⟨by rfl, ?_⟩) (by assumption) ?_
    rotate_left
    · intro w5 hSw
      (try dsimp only at hSw)
      go_simp
      (try with_reducible rfl)
    try simp only [Act.put, List.setIfInBounds_toArray, List.set_cons_zero, List.set_cons_succ]
    refine wpAnyH_ready (rs := [10]) (by kernel_rfl) (by simp) ?_
    refine (AllReadyH.cons (o := ⟨none, _, _, _, _, _⟩) rfl (fun Kx hK => ?_) AllReadyH.nil)
    go_simp
    refine hK.out _ _ (by go_keep) (fun hHeld => ?_)
    clear hK Kx
    try simp only [Act.put, List.setIfInBounds_toArray, List.set_cons_zero, List.set_cons_succ]
    refine wpAnyH_done (by kernel_rfl) ?_ _
    have V5 : Hid ((w''.setCell ⟨nx, 1, none⟩ (.slice va (l.length + 1) vc)).heap[nx]? = some (.cells #[.int .i64 g, .slice va (l.length + 1) vc] 25 (0, 0))) := heap_set Y5.out 1 _
    have V4 := hideIt (setOther (b := nx) (j := 1) (.slice va (l.length + 1) vc) Y4.out (by omega))
    have V3 : Hid (∃ zs : List TraX, zs.map TraX.v = l.map TraX.v ++ [NV] ∧ TrsOwn (w.heap.size + 4) (w''.setCell ⟨nx, 1, none⟩ (.slice va (l.length + 1) vc)) (.slice va (l.length + 1) vc) zs) := by
      obtain ⟨zs, h1, h2⟩ := HZ.out
      exact ⟨zs, h1, h2.ty Y5.out (by unfold noT; decide) (by decide)⟩
    have V2 := hideIt (belowSet (b := nx) (j := 1) (.slice va (l.length + 1) vc) BZ.out (by omega))
    clear Y5 Y4 HZ BZ m0 m1 mf mz z0 z1 z2 z3 z4 z5 z6 z7 z8 z9 z10 z11 z12 hrun6 kA en1 en2 hN5
    generalize w''.setCell ⟨nx, 1, none⟩ (.slice va (l.length + 1) vc) = W8 at *
    obtain ⟨⟨m0, m1⟩, mf, mz⟩ := at2 V5.out
    obtain ⟨⟨f0, f1⟩, ff, fz⟩ := at2 V4.out
    go_wp2
    obtain ⟨hzz, hoo⟩ := puts2 W8 (w.heap.size + 3) 25 (.int .i64 g) (.slice va (l.length + 1) vc) V4.out
    obtain ⟨zs, hz1, hz2⟩ := V3.out
    refine bodyPost_ret (v := .tuple #[.agg #[.int .i64 g, .slice va (l.length + 1) vc], .int .i64 0]) (by simp [results, Tryd.results17, go_sem, cell_at hzz]) rfl ⟨va, vc, zs, by rw [hlm], hz1, ?_, below_out V2.out hoo (fun k hk => by omega)⟩
    rw [hlm]
    exact (hz2.out hoo (fun k hk => by omega)).base (by omega)
  · go_simp
    go_at_call 34
    refine (HCl.out _ (by first | exact Below.refl _ _ | exact (Below.refl _ _).drew)).mono ?_
    rintro e w6 ⟨b1, d1, rfl, HE, k0, k1, k2, k3, k4, k5, k6, k7, k8, k9, k10, k11, k12, k13⟩
    obtain ⟨va, vc, w'', hrun6, kA, y5, y4, ⟨z0, z1, z2, z3, z4, z5, z6, z7, z8, z9, z10, z11, z12⟩, HZ, BZ⟩ := HE.out
    have Y5 := hideIt y5
    have Y4 := hideIt y4
    have HZ := hideIt HZ
    have BZ := hideIt BZ
    obtain ⟨⟨m0, m1⟩, mf, mz⟩ := at2 y5
    clear y5 y4 HE HCl
    refine hK.out _ _ (by go_keep) (fun hHeld => ?_)
    clear hK Kx
    try simp only [Act.put, List.setIfInBounds_toArray, List.set_cons_zero, List.set_cons_succ]
    refine wpAnyH_take (i := 6) (oi := ⟨some 44, _, _, _, _, _⟩) (v := ?_) rfl (by kernel_rfl) (by kernel_rfl) (by kernel_rfl) (fun _ _ _ h => h) (Or.inl ⟨by rfl, ?_⟩) (by assumption) ?_
    rotate_left
    · intro w5 hSw
      (try dsimp only at hSw)
      go_simp
      (try with_reducible rfl)
    try simp only [Act.put, List.setIfInBounds_toArray, List.set_cons_zero, List.set_cons_succ]
    refine wpAnyH_ready (rs := [1, 7]) (by kernel_rfl) (by simp) ?_
    refine (AllReadyH.cons (o := ⟨some 39, _, _, _, _, _⟩) rfl (fun Kx hK => ?_) (AllReadyH.cons (o := ⟨some 45, _, _, _, _, _⟩) rfl (fun Kx hK => ?_) AllReadyH.nil))
    · go_simp
      refine hK.out _ _ (by go_keep) (fun hHeld => ?_)
      clear hK Kx
      try simp only [Act.put, List.setIfInBounds_toArray, List.set_cons_zero, List.set_cons_succ]
      refine wpAnyH_ready (rs := [7]) (by kernel_rfl) (by simp) ?_
      refine (AllReadyH.cons (o := ⟨some 45, _, _, _, _, _⟩) rfl (fun Kx hK => ?_) AllReadyH.nil)
      go_simp
      refine hK.out _ _ (by go_keep) (fun hHeld => ?_)
      clear hK Kx
      try simp only [Act.put, List.setIfInBounds_toArray, List.set_cons_zero, List.set_cons_succ]
      refine wpAnyH_ready (rs := [8]) (by kernel_rfl) (by simp) ?_
      refine (AllReadyH.cons (o := ⟨some 46, _, _, _, _, _⟩) rfl (fun Kx hK => ?_) AllReadyH.nil)
      refine step_app_runK rfl _ _ 23 23 rfl _ _ rfl rfl hrun6 ?_
      refine hK.out _ _ (by go_keep) (fun hHeld => ?_)
      clear hK Kx
      try simp only [Act.put, List.setIfInBounds_toArray, List.set_cons_zero, List.set_cons_succ]
      refine wpAnyH_take (i := 9) (oi := ⟨some 47, _, _, _, _, _⟩) (v := ?_) rfl (by kernel_rfl) (by kernel_rfl) (by kernel_rfl) (fun _ _ _ h => h) (Or.inl ⟨by rfl, ?_⟩) (by assumption) ?_
      rotate_left
      · intro w5 hSw
        (try dsimp only at hSw)
        go_simp
        (try with_reducible rfl)
      try simp only [Act.put, List.setIfInBounds_toArray, List.set_cons_zero, List.set_cons_succ]
      refine wpAnyH_ready (rs := [10]) (by kernel_rfl) (by simp) ?_
      refine (AllReadyH.cons (o := ⟨none, _, _, _, _, _⟩) rfl (fun Kx hK => ?_) AllReadyH.nil)
      go_simp
      refine hK.out _ _ (by go_keep) (fun hHeld => ?_)
      clear hK Kx
      try simp only [Act.put, List.setIfInBounds_toArray, List.set_cons_zero, List.set_cons_succ]
      refine wpAnyH_done (by kernel_rfl) ?_ _
      have V5 : Hid ((w''.setCell ⟨nx, 1, none⟩ (.slice va (l.length + 1) vc)).heap[nx]? = some (.cells #[.int .i64 g, .slice va (l.length + 1) vc] 25 (0, 0))) := heap_set Y5.out 1 _
      have V4 := hideIt (setOther (b := nx) (j := 1) (.slice va (l.length + 1) vc) Y4.out (by omega))
      have V3 : Hid (∃ zs : List TraX, zs.map TraX.v = l.map TraX.v ++ [NV] ∧ TrsOwn (w.heap.size + 4) (w''.setCell ⟨nx, 1, none⟩ (.slice va (l.length + 1) vc)) (.slice va (l.length + 1) vc) zs) := by
        obtain ⟨zs, h1, h2⟩ := HZ.out
        exact ⟨zs, h1, h2.ty Y5.out (by unfold noT; decide) (by decide)⟩
      have V2 := hideIt (belowSet (b := nx) (j := 1) (.slice va (l.length + 1) vc) BZ.out (by omega))
      clear Y5 Y4 HZ BZ m0 m1 mf mz z0 z1 z2 z3 z4 z5 z6 z7 z8 z9 z10 z11 z12 hrun6 kA en1 en2 hN5
      generalize w''.setCell ⟨nx, 1, none⟩ (.slice va (l.length + 1) vc) = W8 at *
      obtain ⟨⟨m0, m1⟩, mf, mz⟩ := at2 V5.out
      obtain ⟨⟨f0, f1⟩, ff, fz⟩ := at2 V4.out
      go_wp2
      obtain ⟨hzz, hoo⟩ := puts2 W8 (w.heap.size + 3) 25 (.int .i64 g) (.slice va (l.length + 1) vc) V4.out
      obtain ⟨zs, hz1, hz2⟩ := V3.out
      refine bodyPost_ret (v := .tuple #[.agg #[.int .i64 g, .slice va (l.length + 1) vc], .int .i64 0]) (by simp [results, Tryd.results17, go_sem, cell_at hzz]) rfl ⟨va, vc, zs, by rw [hlm], hz1, ?_, below_out V2.out hoo (fun k hk => by omega)⟩
      rw [hlm]
      exact (hz2.out hoo (fun k hk => by omega)).base (by omega)
    · go_simp
      refine hK.out _ _ (by go_keep) (fun hHeld => ?_)
      clear hK Kx
      try simp only [Act.put, List.setIfInBounds_toArray, List.set_cons_zero, List.set_cons_succ]
      refine wpAnyH_ready (rs := [1]) (by kernel_rfl) (by simp) ?_
      refine (AllReadyH.cons (o := ⟨some 39, _, _, _, _, _⟩) rfl (fun Kx hK => ?_) AllReadyH.nil)
      go_simp
      refine hK.out _ _ (by go_keep) (fun hHeld => ?_)
      clear hK Kx
      try simp only [Act.put, List.setIfInBounds_toArray, List.set_cons_zero, List.set_cons_succ]
      refine wpAnyH_ready (rs := [8]) (by kernel_rfl) (by simp) ?_
      refine (AllReadyH.cons (o := ⟨some 46, _, _, _, _, _⟩) rfl (fun Kx hK => ?_) AllReadyH.nil)
      refine step_app_runK rfl _ _ 23 23 rfl _ _ rfl rfl hrun6 ?_
      refine hK.out _ _ (by go_keep) (fun hHeld => ?_)
      clear hK Kx
      try simp only [Act.put, List.setIfInBounds_toArray, List.set_cons_zero, List.set_cons_succ]
      refine wpAnyH_take (i := 9) (oi := ⟨some 47, _, _, _, _, _⟩) (v := ?_) rfl (by kernel_rfl) (by kernel_rfl) (by kernel_rfl) (fun _ _ _ h => h) (Or.inl ⟨by rfl, ?_⟩) (by assumption) ?_
      rotate_left
      · intro w5 hSw
        (try dsimp only at hSw)
        go_simp
        (try with_reducible rfl)
      try simp only [Act.put, List.setIfInBounds_toArray, List.set_cons_zero, List.set_cons_succ]
      refine wpAnyH_ready (rs := [10]) (by kernel_rfl) (by simp) ?_
      refine (AllReadyH.cons (o := ⟨none, _, _, _, _, _⟩) rfl (fun Kx hK => ?_) AllReadyH.nil)
      go_simp
      refine hK.out _ _ (by go_keep) (fun hHeld => ?_)
      clear hK Kx
      try simp only [Act.put, List.setIfInBounds_toArray, List.set_cons_zero, List.set_cons_succ]
      refine wpAnyH_done (by kernel_rfl) ?_ _
      have V5 : Hid ((w''.setCell ⟨nx, 1, none⟩ (.slice va (l.length + 1) vc)).heap[nx]? = some (.cells #[.int .i64 g, .slice va (l.length + 1) vc] 25 (0, 0))) := heap_set Y5.out 1 _
      have V4 := hideIt (setOther (b := nx) (j := 1) (.slice va (l.length + 1) vc) Y4.out (by omega))
      have V3 : Hid (∃ zs : List TraX, zs.map TraX.v = l.map TraX.v ++ [NV] ∧ TrsOwn (w.heap.size + 4) (w''.setCell ⟨nx, 1, none⟩ (.slice va (l.length + 1) vc)) (.slice va (l.length + 1) vc) zs) := by
        obtain ⟨zs, h1, h2⟩ := HZ.out
        exact ⟨zs, h1, h2.ty Y5.out (by unfold noT; decide) (by decide)⟩
      have V2 := hideIt (belowSet (b := nx) (j := 1) (.slice va (l.length + 1) vc) BZ.out (by omega))
      clear Y5 Y4 HZ BZ m0 m1 mf mz z0 z1 z2 z3 z4 z5 z6 z7 z8 z9 z10 z11 z12 hrun6 kA en1 en2 hN5
      generalize w''.setCell ⟨nx, 1, none⟩ (.slice va (l.length + 1) vc) = W8 at *
      obtain ⟨⟨m0, m1⟩, mf, mz⟩ := at2 V5.out
      obtain ⟨⟨f0, f1⟩, ff, fz⟩ := at2 V4.out
      go_wp2
      obtain ⟨hzz, hoo⟩ := puts2 W8 (w.heap.size + 3) 25 (.int .i64 g) (.slice va (l.length + 1) vc) V4.out
      obtain ⟨zs, hz1, hz2⟩ := V3.out
      refine bodyPost_ret (v := .tuple #[.agg #[.int .i64 g, .slice va (l.length + 1) vc], .int .i64 0]) (by simp [results, Tryd.results17, go_sem, cell_at hzz]) rfl ⟨va, vc, zs, by rw [hlm], hz1, ?_, below_out V2.out hoo (fun k hk => by omega)⟩
      rw [hlm]
      exact (hz2.out hoo (fun k hk => by omega)).base (by omega)
end Go.Proofs.YtilinemcmgjiiaaDoor
