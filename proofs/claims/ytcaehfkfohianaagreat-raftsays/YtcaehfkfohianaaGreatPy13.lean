/- Texts of my own, laid together. -/
import Derived.Test.YtcaehfkfohianaaGreatPy12
import Derived.Test.YtcaehfkfohianaaGreatPy09
import Derived.Test.YtcaehfkfohianaaGreatPy11
import Derived.Test.YtcaehfkfohianaaGreatPy08
set_option linter.all false
namespace Go.Proofs.YtcaehfkfohianaaGreat
open Go.RowKit
def msgZ : MsgW := ⟨0, 0, 0, 0, 0, 0, [], 0, false, 0, 0, 0, noT⟩
def txA : ByteArray := ⟨#[97]⟩
def lvD : NodeV := ⟨1, 1, ⟨0, 0, 1, []⟩, 0, ⟨0, 0, [], 0⟩, noT, [], []⟩
def lvT : EvV := ⟨1, 0, noT, msgZ⟩
def lvQ : EvV := ⟨2, 0, txA, msgZ⟩
theorem lv_start : startN 1 1 0 0 0 0 noT [] = (lvD, 0) := by kernel_rfl
theorem lv_t : (stepN lvD lvT).2 = 0 ∧ (stepN lvD lvT).1.rs.length = 2 ∧ (stepN lvD lvT).1.wt = true := ⟨by kernel_rfl, by kernel_rfl, by kernel_rfl⟩
theorem lv_q : (stepN (stepN lvD lvT).1.d lvQ).2 = 0 ∧ (stepN (stepN lvD lvT).1.d lvQ).1.d.b.r = 3 ∧ (stepN (stepN lvD lvT).1.d lvQ).1.ix = 2 ∧ (stepN (stepN lvD lvT).1.d lvQ).1.d.L.cm = 2 ∧ (stepN (stepN lvD lvT).1.d lvQ).1.d.L.l.length = 2 ∧ ((stepN (stepN lvD lvT).1.d lvQ).1.d.L.l.getD 1 noE).text = txA := ⟨by kernel_rfl, by kernel_rfl, by kernel_rfl, by kernel_rfl, by kernel_rfl, by kernel_rfl⟩
theorem lv_inv : Inv lvD := by
 have h := start_go (me := 1) (n := 1) (t := 0) (v := 0) (si := 0) (st := 0) (tx := noT) (l := []) (by rw [lv_start]);rw [lv_start] at h;exact h.1
end Go.Proofs.YtcaehfkfohianaaGreat
namespace Go.Proofs.YtcaehfkfohianaaGreat
open Go.Shelf
def lays113_ren : Go.Shelf.Ren := ⟨fun | 113 => 128 | n => n, fun | 28 => 32 | 3 => 3 | 4 => 4 | 9 => 9 | 20 => 20 | 0 => 0 | n => n, fun | n => n⟩
theorem lays113 : Go.Proofs.Lays.n113 Tryz.prog lays113_ren := {
 mixed := by kernel_rfl
 f113 := Tryz.func128.trans (congrArg some (by kernel_rfl))
 t0 := Tryz.underlying0
 a0 := Tryz.isAgg0
 z0 := Tryz.sizeOf0
 v0 := Tryz.zeroValue0
 t3 := Tryz.underlying3
 a3 := Tryz.isAgg3
 z3 := Tryz.sizeOf3
 v3 := Tryz.zeroValue3
 t4 := Tryz.underlying4
 a4 := Tryz.isAgg4
 z4 := Tryz.sizeOf4
 v4 := Tryz.zeroValue4
 t9 := Tryz.underlying9
 a9 := Tryz.isAgg9
 z9 := Tryz.sizeOf9
 v9 := Tryz.zeroValue9
 t20 := Tryz.underlying20
 a20 := Tryz.isAgg20
 z20 := Tryz.sizeOf20
 v20 := Tryz.zeroValue20
 t28 := Tryz.underlying32
 a28 := Tryz.isAgg32
 z28 := Tryz.sizeOf32
 v28 := Tryz.zeroValue32 }
open Go.Lib in
theorem slices_Max_int (b off n c : Nat) (zs : List Int) (w : World) (hn : 0 < n) (hz : n ≤ zs.length) (hbig : n ≤ 9223372036854775807) (hc : ∀ j, j < zs.length → w.cell? ⟨b, off + j, none⟩ = some (.int .i64 (zs.getD j 0))) :
  Calls Tryz.prog 128 #[.slice (some ⟨b, off, none⟩) n c] w fun e w' => e = .returned (.int .i64 (Lib.maxOf (zs.take n))) ∧ w' = w := Any.slices_Max_int lays113 b off n c zs w hn hz hbig hc
end Go.Proofs.YtcaehfkfohianaaGreat
namespace Go.Proofs.YtcaehfkfohianaaGreat
open Go.RowKit
set_option maxHeartbeats 1000000 in
theorem rafWithin_is (x lo hi : Int) (w : World) : Calls Tryz.prog 45 #[.int .i64 x, .int .i64 lo, .int .i64 hi] w fun e w' => e = .returned (.bool (wiB x lo hi)) ∧ w' = w := by
 unfold wiB
 by_cases h : lo ≤ x
 ·go_enter Tryz.func45, Tryz.ntmps45
  go_wp2;go_ret
  exact ⟨by simp [h], rfl⟩
 ·go_enter Tryz.func45, Tryz.ntmps45
  go_wp2;go_ret
  exact ⟨by rw [decide_eq_false (by omega)]; rfl, rfl⟩
theorem hear_one (b : Tm.Bal) : (Tm.hear2L b 1).2 = if Tm.mayB b then 0 else 70 := by
 unfold Tm.hear2L;cases Tm.mayB b
 ·rfl
 ·rfl
set_option maxHeartbeats 4000000 in
theorem isBallot_is (b : Tm.Bal) (g : Value) (w : World) (h : Tm.GotAt w g b.l) : Calls Tryz.prog 46 #[Tm.balV b g] w fun e w' => e = .returned (.bool (Tm.mayB b)) ∧ Below w.heap.size w w' := by
 have hb0 := below1 w (.cells #[.int .i64 b.t, .int .i64 b.v, .int .i64 b.r, g] 34);have HB0 := hideIt hb0;have HC := hideIt (Tm.hear_is b g 1 _ (h.keep hb0));have HO := hear_one b;obtain ⟨ga, gc, rfl⟩ : ∃ a c, g = .slice a b.l.length c := by
  obtain ⟨_, a, c, e, _⟩ := h
  exact ⟨a, c, e⟩
 clear h hb0;unfold Tm.BalErr at HC;generalize Tm.hear2L b 1 = Z at *;obtain ⟨ZB, ZE⟩ := Z;simp only at HO HC;unfold Tm.balV at *;cases hm : Tm.mayB b
 ·rw [hm] at HO;simp only [Bool.false_eq_true, if_false] at HO;subst HO
  go_enter Tryz.func46, Tryz.ntmps46
  go_wp2_with fail
  refine HC.out.mono ?_;rintro e w1 ⟨g', rfl, ho, hb⟩;dsimp only;obtain ⟨xa, xc, rfl⟩ := Tm.own_len ho;have HF := hideIt (below_via HB0.out (below_via hb (below1 w1 (.cells #[.int .i64 ZB.t, .int .i64 ZB.v, .int .i64 ZB.r, .slice xa ZB.l.length xc] 34))));clear ho hb;go_wp2;go_ret
  exact ⟨rfl, HF.out⟩
 ·rw [hm] at HO;simp only [if_true] at HO;subst HO
  go_enter Tryz.func46, Tryz.ntmps46
  go_wp2_with fail
  refine HC.out.mono ?_;rintro e w1 ⟨g', rfl, ho, hb⟩;dsimp only;obtain ⟨xa, xc, rfl⟩ := Tm.own_len ho;have HF := hideIt (below_via HB0.out (below_via hb (below1 w1 (.cells #[.int .i64 ZB.t, .int .i64 ZB.v, .int .i64 ZB.r, .slice xa ZB.l.length xc] 34))));clear ho hb;go_wp2;go_ret
  exact ⟨rfl, HF.out⟩
theorem str_empty (t : ByteArray) : t.toList.isEmpty = decide (t.size = 0) := by
 rw [Go.Lib.toList_data];cases t with
 | mk a =>
  show a.toList.isEmpty = decide (a.size = 0)
  cases h : a.toList with
  | nil => rw [decide_eq_true (by rw [← Array.length_toList, h]; rfl)]; rfl
  | cons x l => rw [decide_eq_false (by rw [← Array.length_toList, h]; simp)]; rfl
set_option maxHeartbeats 4000000 in
theorem isTextOf_is (t : ByteArray) (bi bt : Int) (w : World) (h8 : t.size ≤ 140737488355328) : Calls Tryz.prog 48 #[.string t, .agg #[.int .i64 bi, .int .i64 bt]] w fun e w' => e = .returned (.bool (textB t bi)) ∧ Below w.heap.size w w' := by
 have HB0 := hideIt (below1 w (.cells #[.int .i64 bi, .int .i64 bt] 25));have c0 : (w.alloc (.cells #[.int .i64 bi, .int .i64 bt] 25)).cell? ⟨w.heap.size, 0, none⟩ = some (.int .i64 bi) := by rw [Tm.cell_at (heap_alloc_new w _)]; rfl
 unfold textB
 by_cases h1 : t.size ≤ 50000
 ·have h1I : (t.size : Int) ≤ 50000 := by omega
  by_cases h2 : 0 < bi
  ·go_enter Tryz.func48, Tryz.ntmps48
   go_wp2;go_ret
   exact ⟨by simp [h1, h2], HB0.out⟩
  ·have h2I : bi ≤ 0 := by omega
   by_cases h3 : t.size = 0
   ·have ht : t.toList.isEmpty = true := by rw [str_empty, decide_eq_true h3]
    go_enter Tryz.func48, Tryz.ntmps48
    go_wp2;go_ret
    exact ⟨by simp [h1, h2, h3], HB0.out⟩
   ·have ht : t.toList.isEmpty = false := by rw [str_empty, decide_eq_false h3]
    go_enter Tryz.func48, Tryz.ntmps48
    go_wp2;go_ret
    exact ⟨by simp [h1, h2, h3], HB0.out⟩
 ·have h1I : ¬ (t.size : Int) ≤ 50000 := by omega
  go_enter Tryz.func48, Tryz.ntmps48
  go_wp2;go_ret
  exact ⟨by simp [h1], HB0.out⟩
theorem GotAt.open {w : World} {v : Value} {l : List Int} (h : Tm.GotAt w v l) : ∃ a c, v = .slice a l.length c := by
 obtain ⟨_, a, c, e, _⟩ := h
 exact ⟨a, c, e⟩
structure IGot (w : World) (v : Value) (m : List Int) : Prop where
 got : Tm.GotAt w v m
 cap : ∃ a c, v = .slice a m.length c ∧ m.length ≤ c ∧ c ≤ maxLen
theorem IGot.keep {w w' : World} {v : Value} {m : List Int} (h : IGot w v m) (hb : Below w.heap.size w w') : IGot w' v m := ⟨h.got.keep hb, h.cap⟩
set_option maxRecDepth 100000 in
set_option maxHeartbeats 1000000 in
theorem areOfNodes_is (v : Value) (l : List Int) (n lo hi : Int) (w : World) (hG : IGot w v l) (hn : 1 ≤ n ∧ n ≤ 7) : Calls Tryz.prog 83 #[v, .int .i64 n, .int .i64 lo, .int .i64 hi] w fun e w' => e = .returned (.bool (ofNodes l n lo hi)) ∧ w' = w := by
 have hw : IntKind.i64.wrap (n + 1) = n + 1 := by rw [IntKind.wrap_i64]; omega
 obtain ⟨n1, n2⟩ := hn;have h := hG.got;obtain ⟨xa, xc, rfl, hxc, hxm⟩ := hG.cap;unfold ofNodes
 by_cases hl : (l.length : Int) = n + 1
 ·have hlb : ((l.length : Int) != n + 1) = false := by rw [hl]; simp
  have h8 : 2 ≤ l.length ∧ l.length ≤ 8 := by omega
  rcases h.parts with ⟨rfl, _⟩ | ⟨b, off, c, hev, hb, hc8, hc1, hc⟩
  ·simp at h8
  ·simp only [Value.slice.injEq] at hev;obtain ⟨rfl, -, rfl⟩ := hev;have hc0 := hc 0 (by omega);rw [Nat.add_zero] at hc0;have hmn := hideIt (slices_Min_int b (off + 1) (l.length - 1) (xc - 1) (l.drop 1) w (by omega) (by rw [List.length_drop]; omega) (by omega) (fun j hj => by
    rw [List.length_drop] at hj;have := hc (1 + j) (by omega);rw [show off + 1 + j = off + (1 + j) by omega, this]
    simp [List.getD_eq_getElem?_getD, List.getElem?_drop, Nat.add_comm]))
   have hmx := hideIt (slices_Max_int b off l.length xc l w (by omega) (Nat.le_refl _) (by omega) (fun j hj => hc j hj));rw [List.take_of_length_le (by rw [List.length_drop]; omega)] at hmn
   rw [List.take_of_length_le (Nat.le_refl _)] at hmx;have hhd : l.head? = some (l.getD 0 0) := by
    cases l with
    | nil => simp at h8
    | cons x k => rfl
   have HHD := hideIt hhd;generalize l.getD 0 0 = x at *;have hlI : (l.length : Int) ≤ 8 := by omega
   have hxI : (l.length : Int) ≤ (xc : Int) := by omega
   have h1c : ¬ (xc = 1) := by omega
   have h1I : (1 : Int) ≤ (l.length : Int) := by omega
   have h1J : (1 : Int) ≤ (xc : Int) := by omega
   have h10 : xc - 1 ≠ 0 := by omega
   have hl2 : (2 : Int) ≤ (l.length : Int) := by omega
   have HL := hideIt hl;clear hl hhd hc h hc8 hG;generalize Lib.minOf (l.drop 1) = mn at *;generalize Lib.maxOf l = mx at *
   by_cases hx : x = 0
   ·have HX := hideIt hx;have hxb : (x != 0) = false := by rw [hx]; rfl
    subst hx
    by_cases hmn2 : lo ≤ mn
    ·have HN := hideIt hmn2
     go_enter Tryz.func83, Tryz.ntmps83
     go_wp2_with fail
     refine hmn.out.mono ?_;rintro e w1 ⟨rfl, rfl⟩;dsimp only
     go_wp2_with fail
     refine hmx.out.mono ?_;rintro e w1 ⟨rfl, rfl⟩;dsimp only;go_wp2;go_ret
     exact ⟨by rw [HHD.out, decide_eq_true HL.out, decide_eq_true HN.out]; simp, rfl⟩
    ·have HN := hideIt hmn2
     go_enter Tryz.func83, Tryz.ntmps83
     go_wp2_with fail
     refine hmn.out.mono ?_;rintro e w1 ⟨rfl, rfl⟩;dsimp only;go_wp2;go_ret
     exact ⟨by rw [decide_eq_false (show ¬ lo ≤ mn by have := HN.out; omega)]; simp, rfl⟩
   ·have hxb : (x != 0) = true := bne_iff_ne.2 hx
    go_enter Tryz.func83, Tryz.ntmps83
    go_wp2;go_ret
    exact ⟨by rw [HHD.out]; simp [hx], rfl⟩
 ·have hlb : ((l.length : Int) != n + 1) = true := bne_iff_ne.2 hl;clear h hG
  go_enter Tryz.func83, Tryz.ntmps83
  go_wp2;go_ret
  exact ⟨by rw [decide_eq_false hl]; rfl, rfl⟩
def nodA (d : NodeV) (gb gl gn gm : Value) : Array Value := #[.int .i64 d.me, .int .i64 d.n, .int .i64 d.b.t, .int .i64 d.b.v, .int .i64 d.b.r, gb, .int .i64 d.ld, .int .i64 d.L.bi, .int .i64 d.L.bt, gl, .int .i64 d.L.cm, .string d.tx, gn, gm]
structure NodAt (w : World) (d : NodeV) (gb gl gn gm : Value) : Prop where
 b : Tm.GotAt w gb d.b.l
 l : EGot w gl d.L.l
 n : IGot w gn d.nx
 m : IGot w gm d.mt
 t : d.tx.size ≤ 140737488355328
theorem NodAt.keep {w w' : World} {d : NodeV} {gb gl gn gm : Value} (h : NodAt w d gb gl gn gm) (hb : Below w.heap.size w w') : NodAt w' d gb gl gn gm := ⟨h.b.keep hb, h.l.keep hb, h.n.keep hb, h.m.keep hb, h.t⟩
theorem at14 {w : World} {p : Nat} {ty : TypeId} {z0 z1 z2 z3 z4 z5 z6 z7 z8 z9 z10 z11 z12 z13 : Value} (h : w.heap[p]? = some (.cells #[z0, z1, z2, z3, z4, z5, z6, z7, z8, z9, z10, z11, z12, z13] ty (0, 0))) : (w.cell? ⟨p, 0, none⟩ = some z0 ∧ w.cell? ⟨p, 1, none⟩ = some z1 ∧ w.cell? ⟨p, 2, none⟩ = some z2 ∧ w.cell? ⟨p, 3, none⟩ = some z3 ∧ w.cell? ⟨p, 4, none⟩ = some z4 ∧ w.cell? ⟨p, 5, none⟩ = some z5 ∧ w.cell? ⟨p, 6, none⟩ = some z6 ∧ w.cell? ⟨p, 7, none⟩ = some z7 ∧ w.cell? ⟨p, 8, none⟩ = some z8 ∧ w.cell? ⟨p, 9, none⟩ = some z9 ∧ w.cell? ⟨p, 10, none⟩ = some z10 ∧ w.cell? ⟨p, 11, none⟩ = some z11 ∧ w.cell? ⟨p, 12, none⟩ = some z12 ∧ w.cell? ⟨p, 13, none⟩ = some z13) ∧ (∀ j, w.frozen? ⟨p, j, none⟩ = false) ∧ p < w.heap.size :=
 ⟨⟨by rw [Tm.cell_at h]; rfl, by rw [Tm.cell_at h]; rfl, by rw [Tm.cell_at h]; rfl, by rw [Tm.cell_at h]; rfl, by rw [Tm.cell_at h]; rfl, by rw [Tm.cell_at h]; rfl, by rw [Tm.cell_at h]; rfl, by rw [Tm.cell_at h]; rfl, by rw [Tm.cell_at h]; rfl, by rw [Tm.cell_at h]; rfl, by rw [Tm.cell_at h]; rfl, by rw [Tm.cell_at h]; rfl, by rw [Tm.cell_at h]; rfl, by rw [Tm.cell_at h]; rfl⟩, fun j => Tm.free_at h j, (Array.getElem?_eq_some_iff.1 h).1⟩
theorem blkK {w w' : World} {p : Nat} {o : Obj} (h : w.heap[p]? = some o) (hb : Below w.heap.size w w') : w'.heap[p]? = some o := (hb.block p (Array.getElem?_eq_some_iff.1 h).1).trans h
theorem lastL_in (L : LogV) : 0 ≤ (lastL L).1 ∧ (lastL L).1 ≤ 1000000 := by
 unfold lastL;cases hm : mayB L
 ·simp
 ·simp only [if_true];unfold mayB at hm;simp only [Bool.and_eq_true, decide_eq_true_eq] at hm;have h1 : 0 ≤ L.bi := by
   have h0 := hm.1.1.1.1;unfold mkB at h0;simp only [Bool.and_eq_true] at h0;have := of_decide_eq_true h0.1.1;omega
  have h2 := hm.1.2;have e : (lasM L).1 = lasI L := by
   unfold lasM markL
   split
   ·rename_i h
    exact h.symm
   ·rename_i h
    have hb : hasB L (lasI L) = true := by
     unfold hasB;refine decide_eq_true ?_;unfold lasI at h ⊢;omega
    rw [hb]
    rfl
  rw [e];unfold lasI at h2 ⊢;omega
theorem fldSpot (x y : Int) (W : World) : (Instr.field 25 (.agg #[.int .i64 x, .int .i64 y]) 0).run Tryz.prog W = .ok (.int .i64 x) W := by
 simp [Instr.field, run_underlying Tryz.underlying25, go_sem, asAgg]
set_option maxRecDepth 100000 in
set_option maxHeartbeats 4000000 in
theorem leads_is (d : NodeV) (gb gl gn gm : Value) (w : World) (h : NodAt w d gb gl gn gm) (hn : 1 ≤ d.n ∧ d.n ≤ 7) : Calls Tryz.prog 49 #[.agg (nodA d gb gl gn gm)] w fun e w' => e = .returned (.bool (leadB d)) ∧ Below w.heap.size w w' := by
 have hb0 := below1 w (.cells (nodA d gb gl gn gm) 38);have HB0 := hideIt hb0;have HX0 := hideIt (heap_alloc_new w (.cells (nodA d gb gl gn gm) 38));have HLS := hideIt (last_is d.L gl _ (h.l.keep hb0));have HLI := lastL_in d.L;have HN1 := hideIt (fun W (hW : Below w.heap.size w W) => areOfNodes_is gn d.nx d.n 1 ((lastL d.L).1 + 1) W (h.n.keep hW) hn);have HN2 := hideIt (fun W (hW : Below w.heap.size w W) => areOfNodes_is gm d.mt d.n 0 (lastL d.L).1 W (h.m.keep hW) hn);obtain ⟨na, nc, rfl, -, -⟩ := h.n.cap;obtain ⟨ma, mc, rfl, -, -⟩ := h.m.cap;obtain ⟨ba, bc, rfl⟩ := GotAt.open h.b;obtain ⟨la, lc, rfl⟩ : ∃ a c, gl = .slice a d.L.l.length c := by
  obtain ⟨_, a, c, e, _⟩ := h.l
  exact ⟨a, c, e⟩
 clear h hb0;have hE : leadB d = if d.b.r = 3 then decide (d.ld = d.me) && (ofNodes d.nx d.n 1 ((lastL d.L).1 + 1) && ofNodes d.mt d.n 0 (lastL d.L).1) else decide (d.nx.length = 0) && decide (d.mt.length = 0) := rfl
 generalize leadB d = B at *;generalize (lastL d.L).1 = last at *;generalize (lastL d.L).2 = lastT at *;have HE := hideIt hE;clear hE;have hw : IntKind.i64.wrap (last + 1) = last + 1 := by rw [IntKind.wrap_i64]; omega
 unfold nodA logV logA at *;obtain ⟨n1, n2⟩ := hn;have hix : IntKind.i64.wrap last = last := by rw [IntKind.wrap_i64]; omega
 go_enter Tryz.func49, Tryz.ntmps49
 go_upto_region 1 with fail
 generalize (World.alloc w _) = W0 at *;obtain ⟨⟨k0, k1, k2, k3, k4, k5, k6, k7, k8, k9, k10, k11, k12, k13⟩, kf, kz⟩ := at14 HX0.out
 by_cases hr : d.b.r = 3
 ·have hrb : (d.b.r != 3) = false := by rw [hr]; rfl
  go_upto_region 3 with fail
  have hE := HE.out;rw [if_pos hr] at hE;have HF := hideIt hE;clear hr hrb hE HE
  go_wp2_with fail
  refine HLS.out.mono ?_;rintro e w1 ⟨rfl, hb⟩;dsimp only;have HX1 := hideIt (blkK HX0.out hb);have HB1 := hideIt (below_via HB0.out hb);clear k0 k1 k2 k3 k4 k5 k6 k7 k8 k9 k10 k11 k12 k13 kf kz;clear HX0 HB0 HLS hb;obtain ⟨⟨k0, k1, k2, k3, k4, k5, k6, k7, k8, k9, k10, k11, k12, k13⟩, kf, kz⟩ := at14 HX1.out;have hm1 := HN1.out _ HB1.out;have hfs := fldSpot last lastT w1
  by_cases hld : d.ld = d.me
  ·have hlb : (d.ld == d.me) = true := beq_iff_eq.2 hld;cases hA : ofNodes d.nx d.n 1 (last + 1)
   ·rw [hA] at hm1 HF;have HM1 := hideIt hm1;clear hm1 HN1 HN2 hld
    go_wp2_with fail
    refine HM1.out.mono ?_;rintro e w2 ⟨rfl, rfl⟩;dsimp only;go_wp2;go_ret
    exact ⟨by rw [HF.out]; simp, HB1.out⟩
   ·rw [hA] at hm1 HF;have HM1 := hideIt hm1;have HM2 := hideIt (HN2.out _ HB1.out);clear hm1 HN1 HN2
    go_wp2_with fail
    refine HM1.out.mono ?_;rintro e w2 ⟨rfl, rfl⟩;dsimp only
    go_wp2_with fail
    refine HM2.out.mono ?_;rintro e w2 ⟨rfl, rfl⟩;dsimp only;go_wp2;go_ret
    exact ⟨by rw [HF.out, decide_eq_true hld]; simp, HB1.out⟩
  ·have hlb : (d.ld == d.me) = false := beq_eq_false_iff_ne.2 hld;have E1 : decide (d.ld = d.me) = false := decide_eq_false hld;clear hm1 HN1 HN2 hld;go_wp2;go_ret
   exact ⟨by rw [HF.out, E1]; simp, HB1.out⟩
 ·have hrb : (d.b.r != 3) = true := bne_iff_ne.2 hr;have hE := HE.out;rw [if_neg hr] at hE;have HF := hideIt hE;clear hr HLS HN1 HN2 HX0 hE HE;generalize d.nx.length = c1 at *;generalize d.mt.length = c2 at *
  by_cases h1 : c1 = 0
  ·subst h1
   by_cases h2 : c2 = 0
   ·subst h2;go_wp2;go_ret
    exact ⟨by rw [HF.out]; simp, HB0.out⟩
   ·have h2b : ((c2 : Int) == 0) = false := beq_eq_false_iff_ne.2 (by omega);have E2 : decide (c2 = 0) = false := decide_eq_false h2;clear h2;go_wp2;go_ret
    exact ⟨by rw [HF.out, E2]; simp, HB0.out⟩
  ·have h1b : ((c1 : Int) == 0) = false := beq_eq_false_iff_ne.2 (by omega);have E1 : decide (c1 = 0) = false := decide_eq_false h1;clear h1;go_wp2;go_ret
   exact ⟨by rw [HF.out, E1]; simp, HB0.out⟩
structure NodeOwn (B : Nat) (w : World) (d : NodeV) (gb gl gn gm : Value) : Prop where
 b : w.ownsRow B 3 1 gb d.b.l.length (d.b.l.map Tm.iv)
 l : w.ownsRow B 55 3 gl d.L.l.length (entC d.L.l)
 n : w.ownsRow B 3 1 gn d.nx.length (d.nx.map Tm.iv)
 m : w.ownsRow B 3 1 gm d.mt.length (d.mt.map Tm.iv)
def NodeBack (d : NodeV) (w : World) (e : Ending) (w' : World) : Prop := ∃ gb gl gn gm, e = .returned (.agg (nodA d gb gl gn gm)) ∧ NodeOwn w.heap.size w' d gb gl gn gm ∧ Below w.heap.size w w'
theorem NodeOwn.keep {B : Nat} {w w' : World} {d : NodeV} {gb gl gn gm : Value} (h : NodeOwn B w d gb gl gn gm) (hb : Below w.heap.size w w') : NodeOwn B w' d gb gl gn gm := ⟨own_keep h.b hb, own_keep h.l hb, own_keep h.n hb, own_keep h.m hb⟩
theorem NodeOwn.base {B B' : Nat} {w : World} {d : NodeV} {gb gl gn gm : Value} (h : NodeOwn B w d gb gl gn gm) (hb : B' ≤ B) : NodeOwn B' w d gb gl gn gm := ⟨own_base h.b hb, own_base h.l hb, own_base h.n hb, own_base h.m hb⟩
theorem from_all {L : LogV} (h : mayB L = true) : fromL L (L.bi + 1) 400 = L.l := by
 have h4 : L.l.length ≤ 400 := by
  unfold mayB at h;simp only [Bool.and_eq_true, decide_eq_true_eq] at h;exact h.1.1.1.2
 unfold fromL;rw [h];cases hl : L.l with
 | nil =>
  split
  ·simp
  ·rfl
 | cons a k =>
  have hb : hasB L (L.bi + 1) = true := by
   unfold hasB lasI;rw [hl];refine decide_eq_true ?_;simp only [List.length_cons];omega
  rw [hb];rw [hl] at h4;rw [show (L.bi + 1 - L.bi - 1).toNat = 0 by omega, List.drop_zero];simp only [Bool.true_and];rw [if_pos (by decide)];exact List.take_of_length_le h4
structure AnW (w W : World) (cs zs : Array Value) : Prop where
 box : W.heap[w.heap.size]? = some (.cells cs 38 (0, 0))
 res : W.heap[w.heap.size + 1]? = some (.cells zs 38 (0, 0))
 bel : Below w.heap.size w W
theorem AnW.first (w : World) (cs zs : Array Value) : AnW w ((w.alloc (.cells cs 38)).alloc (.cells zs 38)) cs zs := ⟨(two_heap w _ _).1, (two_heap w _ _).2.1, below2 w _ _⟩
theorem AnW.size {w W : World} {cs zs : Array Value} (h : AnW w W cs zs) : w.heap.size + 2 ≤ W.heap.size := (Array.getElem?_eq_some_iff.1 h.res).1
theorem AnW.call {w W W' : World} {cs zs : Array Value} (h : AnW w W cs zs) (hb : Below W.heap.size W W') : AnW w W' cs zs := ⟨blkK h.box hb, blkK h.res hb, below_via h.bel hb⟩
theorem AnW.put {w W : World} {cs zs : Array Value} (h : AnW w W cs zs) (j : Nat) (v : Value) : AnW w (W.setCell ⟨w.heap.size, j, none⟩ v) (cs.setIfInBounds j v) zs := ⟨heap_set h.box j v, setOther v h.res (by omega), belowSet v h.bel (Nat.le_refl _)⟩
theorem put14 {W : World} {b : Nat} {ty : TypeId} {z0 z1 z2 z3 z4 z5 z6 z7 z8 z9 z10 z11 z12 z13 : Value} (v0 v1 v2 v3 v4 v5 v6 v7 v8 v9 v10 v11 v12 v13 : Value) (h : W.heap[b]? = some (.cells #[z0, z1, z2, z3, z4, z5, z6, z7, z8, z9, z10, z11, z12, z13] ty (0, 0))) :
  ((((((((((((((W.setCell ⟨b, 0, none⟩ v0).setCell ⟨b, 1, none⟩ v1).setCell ⟨b, 2, none⟩ v2).setCell ⟨b, 3, none⟩ v3).setCell ⟨b, 4, none⟩ v4).setCell ⟨b, 5, none⟩ v5).setCell ⟨b, 6, none⟩ v6).setCell ⟨b, 7, none⟩ v7).setCell ⟨b, 8, none⟩ v8).setCell ⟨b, 9, none⟩ v9).setCell ⟨b, 10, none⟩ v10).setCell ⟨b, 11, none⟩ v11).setCell ⟨b, 12, none⟩ v12).setCell ⟨b, 13, none⟩ v13).heap[b]? = some (.cells #[v0, v1, v2, v3, v4, v5, v6, v7, v8, v9, v10, v11, v12, v13] ty (0, 0)) := by
 have h0 : (W.setCell ⟨b, 0, none⟩ v0).heap[b]? = some (.cells #[v0, z1, z2, z3, z4, z5, z6, z7, z8, z9, z10, z11, z12, z13] ty (0, 0)) := heap_set h 0 v0;have h1 : ((W.setCell ⟨b, 0, none⟩ v0).setCell ⟨b, 1, none⟩ v1).heap[b]? = some (.cells #[v0, v1, z2, z3, z4, z5, z6, z7, z8, z9, z10, z11, z12, z13] ty (0, 0)) := heap_set h0 1 v1;have h2 : (((W.setCell ⟨b, 0, none⟩ v0).setCell ⟨b, 1, none⟩ v1).setCell ⟨b, 2, none⟩ v2).heap[b]? = some (.cells #[v0, v1, v2, z3, z4, z5, z6, z7, z8, z9, z10, z11, z12, z13] ty (0, 0)) := heap_set h1 2 v2;have h3 : ((((W.setCell ⟨b, 0, none⟩ v0).setCell ⟨b, 1, none⟩ v1).setCell ⟨b, 2, none⟩ v2).setCell ⟨b, 3, none⟩ v3).heap[b]? = some (.cells #[v0, v1, v2, v3, z4, z5, z6, z7, z8, z9, z10, z11, z12, z13] ty (0, 0)) := heap_set h2 3 v3;have h4 : (((((W.setCell ⟨b, 0, none⟩ v0).setCell ⟨b, 1, none⟩ v1).setCell ⟨b, 2, none⟩ v2).setCell ⟨b, 3, none⟩ v3).setCell ⟨b, 4, none⟩ v4).heap[b]? = some (.cells #[v0, v1, v2, v3, v4, z5, z6, z7, z8, z9, z10, z11, z12, z13] ty (0, 0)) := heap_set h3 4 v4;have h5 : ((((((W.setCell ⟨b, 0, none⟩ v0).setCell ⟨b, 1, none⟩ v1).setCell ⟨b, 2, none⟩ v2).setCell ⟨b, 3, none⟩ v3).setCell ⟨b, 4, none⟩ v4).setCell ⟨b, 5, none⟩ v5).heap[b]? = some (.cells #[v0, v1, v2, v3, v4, v5, z6, z7, z8, z9, z10, z11, z12, z13] ty (0, 0)) := heap_set h4 5 v5;have h6 : (((((((W.setCell ⟨b, 0, none⟩ v0).setCell ⟨b, 1, none⟩ v1).setCell ⟨b, 2, none⟩ v2).setCell ⟨b, 3, none⟩ v3).setCell ⟨b, 4, none⟩ v4).setCell ⟨b, 5, none⟩ v5).setCell ⟨b, 6, none⟩ v6).heap[b]? = some (.cells #[v0, v1, v2, v3, v4, v5, v6, z7, z8, z9, z10, z11, z12, z13] ty (0, 0)) := heap_set h5 6 v6;have h7 : ((((((((W.setCell ⟨b, 0, none⟩ v0).setCell ⟨b, 1, none⟩ v1).setCell ⟨b, 2, none⟩ v2).setCell ⟨b, 3, none⟩ v3).setCell ⟨b, 4, none⟩ v4).setCell ⟨b, 5, none⟩ v5).setCell ⟨b, 6, none⟩ v6).setCell ⟨b, 7, none⟩ v7).heap[b]? = some (.cells #[v0, v1, v2, v3, v4, v5, v6, v7, z8, z9, z10, z11, z12, z13] ty (0, 0)) := heap_set h6 7 v7;have h8 : (((((((((W.setCell ⟨b, 0, none⟩ v0).setCell ⟨b, 1, none⟩ v1).setCell ⟨b, 2, none⟩ v2).setCell ⟨b, 3, none⟩ v3).setCell ⟨b, 4, none⟩ v4).setCell ⟨b, 5, none⟩ v5).setCell ⟨b, 6, none⟩ v6).setCell ⟨b, 7, none⟩ v7).setCell ⟨b, 8, none⟩ v8).heap[b]? = some (.cells #[v0, v1, v2, v3, v4, v5, v6, v7, v8, z9, z10, z11, z12, z13] ty (0, 0)) := heap_set h7 8 v8;have h9 : ((((((((((W.setCell ⟨b, 0, none⟩ v0).setCell ⟨b, 1, none⟩ v1).setCell ⟨b, 2, none⟩ v2).setCell ⟨b, 3, none⟩ v3).setCell ⟨b, 4, none⟩ v4).setCell ⟨b, 5, none⟩ v5).setCell ⟨b, 6, none⟩ v6).setCell ⟨b, 7, none⟩ v7).setCell ⟨b, 8, none⟩ v8).setCell ⟨b, 9, none⟩ v9).heap[b]? = some (.cells #[v0, v1, v2, v3, v4, v5, v6, v7, v8, v9, z10, z11, z12, z13] ty (0, 0)) := heap_set h8 9 v9;have h10 : (((((((((((W.setCell ⟨b, 0, none⟩ v0).setCell ⟨b, 1, none⟩ v1).setCell ⟨b, 2, none⟩ v2).setCell ⟨b, 3, none⟩ v3).setCell ⟨b, 4, none⟩ v4).setCell ⟨b, 5, none⟩ v5).setCell ⟨b, 6, none⟩ v6).setCell ⟨b, 7, none⟩ v7).setCell ⟨b, 8, none⟩ v8).setCell ⟨b, 9, none⟩ v9).setCell ⟨b, 10, none⟩ v10).heap[b]? = some (.cells #[v0, v1, v2, v3, v4, v5, v6, v7, v8, v9, v10, z11, z12, z13] ty (0, 0)) := heap_set h9 10 v10;have h11 : ((((((((((((W.setCell ⟨b, 0, none⟩ v0).setCell ⟨b, 1, none⟩ v1).setCell ⟨b, 2, none⟩ v2).setCell ⟨b, 3, none⟩ v3).setCell ⟨b, 4, none⟩ v4).setCell ⟨b, 5, none⟩ v5).setCell ⟨b, 6, none⟩ v6).setCell ⟨b, 7, none⟩ v7).setCell ⟨b, 8, none⟩ v8).setCell ⟨b, 9, none⟩ v9).setCell ⟨b, 10, none⟩ v10).setCell ⟨b, 11, none⟩ v11).heap[b]? = some (.cells #[v0, v1, v2, v3, v4, v5, v6, v7, v8, v9, v10, v11, z12, z13] ty (0, 0)) := heap_set h10 11 v11;have h12 : (((((((((((((W.setCell ⟨b, 0, none⟩ v0).setCell ⟨b, 1, none⟩ v1).setCell ⟨b, 2, none⟩ v2).setCell ⟨b, 3, none⟩ v3).setCell ⟨b, 4, none⟩ v4).setCell ⟨b, 5, none⟩ v5).setCell ⟨b, 6, none⟩ v6).setCell ⟨b, 7, none⟩ v7).setCell ⟨b, 8, none⟩ v8).setCell ⟨b, 9, none⟩ v9).setCell ⟨b, 10, none⟩ v10).setCell ⟨b, 11, none⟩ v11).setCell ⟨b, 12, none⟩ v12).heap[b]? = some (.cells #[v0, v1, v2, v3, v4, v5, v6, v7, v8, v9, v10, v11, v12, z13] ty (0, 0)) := heap_set h11 12 v12;exact heap_set h12 13 v13
theorem NodeOwn.set {B b j : Nat} {w : World} {d : NodeV} {gb gl gn gm : Value} (v : Value) (h : NodeOwn B w d gb gl gn gm) (hb : b < B) : NodeOwn B (w.setCell ⟨b, j, none⟩ v) d gb gl gn gm := ⟨ownSet v h.b hb, ownSet v h.l hb, ownSet v h.n hb, ownSet v h.m hb⟩
theorem nodeSet14 {B : Nat} {W : World} {d : NodeV} {gb gl gn gm : Value} (b : Nat) (v0 v1 v2 v3 v4 v5 v6 v7 v8 v9 v10 v11 v12 v13 : Value) (h : NodeOwn B W d gb gl gn gm) (hb : b < B) : NodeOwn B ((((((((((((((W.setCell ⟨b, 0, none⟩ (v0)).setCell ⟨b, 1, none⟩ (v1)).setCell ⟨b, 2, none⟩ (v2)).setCell ⟨b, 3, none⟩ (v3)).setCell ⟨b, 4, none⟩ (v4)).setCell ⟨b, 5, none⟩ (v5)).setCell ⟨b, 6, none⟩ (v6)).setCell ⟨b, 7, none⟩ (v7)).setCell ⟨b, 8, none⟩ (v8)).setCell ⟨b, 9, none⟩ (v9)).setCell ⟨b, 10, none⟩ (v10)).setCell ⟨b, 11, none⟩ (v11)).setCell ⟨b, 12, none⟩ (v12)).setCell ⟨b, 13, none⟩ (v13)) d gb gl gn gm := (NodeOwn.set v13 (NodeOwn.set v12 (NodeOwn.set v11 (NodeOwn.set v10 (NodeOwn.set v9 (NodeOwn.set v8 (NodeOwn.set v7 (NodeOwn.set v6 (NodeOwn.set v5 (NodeOwn.set v4 (NodeOwn.set v3 (NodeOwn.set v2 (NodeOwn.set v1 (NodeOwn.set v0 h hb) hb) hb) hb) hb) hb) hb) hb) hb) hb) hb) hb) hb) hb)
theorem belowSet14 {B : Nat} {W0 W : World} (b : Nat) (v0 v1 v2 v3 v4 v5 v6 v7 v8 v9 v10 v11 v12 v13 : Value) (h : Below B W0 W) (hb : B ≤ b) : Below B W0 ((((((((((((((W.setCell ⟨b, 0, none⟩ (v0)).setCell ⟨b, 1, none⟩ (v1)).setCell ⟨b, 2, none⟩ (v2)).setCell ⟨b, 3, none⟩ (v3)).setCell ⟨b, 4, none⟩ (v4)).setCell ⟨b, 5, none⟩ (v5)).setCell ⟨b, 6, none⟩ (v6)).setCell ⟨b, 7, none⟩ (v7)).setCell ⟨b, 8, none⟩ (v8)).setCell ⟨b, 9, none⟩ (v9)).setCell ⟨b, 10, none⟩ (v10)).setCell ⟨b, 11, none⟩ (v11)).setCell ⟨b, 12, none⟩ (v12)).setCell ⟨b, 13, none⟩ (v13)) := (belowSet v13 (belowSet v12 (belowSet v11 (belowSet v10 (belowSet v9 (belowSet v8 (belowSet v7 (belowSet v6 (belowSet v5 (belowSet v4 (belowSet v3 (belowSet v2 (belowSet v1 (belowSet v0 h hb) hb) hb) hb) hb) hb) hb) hb) hb) hb) hb) hb) hb) hb)
def zN : Array Value := #[.int .i64 0, .int .i64 0, .int .i64 0, .int .i64 0, .int .i64 0, .slice none 0 0, .int .i64 0, .int .i64 0, .int .i64 0, .slice none 0 0, .int .i64 0, .string ⟨#[]⟩, .slice none 0 0, .slice none 0 0]
set_option maxRecDepth 100000 in
set_option maxHeartbeats 8000000 in
theorem anewN_is (d : NodeV) (gb gl gn gm : Value) (w : World) (h : NodAt w d gb gl gn gm) (hm : mayB d.L = true) (ht : d.tx.size ≤ 60000) : Calls Tryz.prog 27 #[.agg (nodA d gb gl gn gm)] w (NodeBack d w) := by
 have hF := from_all hm;have hbi : 0 ≤ d.L.bi ∧ d.L.bi ≤ 1000000 := by
  unfold mayB at hm;simp only [Bool.and_eq_true, decide_eq_true_eq] at hm;have h0 := hm.1.1.1.1;have h2 := hm.1.2;unfold mkB at h0;unfold lasI at h2;simp only [Bool.and_eq_true] at h0;have := of_decide_eq_true h0.1.1;omega
 have H1 := hideIt (fun W (hW : Below w.heap.size w W) => Tm.clone_any gb d.b.l W (h.b.keep hW));have H2 := hideIt (fun W (hW : Below w.heap.size w W) => from_is d.L gl (d.L.bi + 1) 400 W (h.l.keep hW) (by unfold i64B; omega))
 have H3 := hideIt (fun W => clone_any d.tx W ht);have H4 := hideIt (fun W (hW : Below w.heap.size w W) => Tm.clone_any gn d.nx W (h.n.got.keep hW));have H5 := hideIt (fun W (hW : Below w.heap.size w W) => Tm.clone_any gm d.mt W (h.m.got.keep hW));rw [hF] at H2;have hwr : IntKind.i64.wrap (d.L.bi + 1) = d.L.bi + 1 := by rw [IntKind.wrap_i64]; omega
 obtain ⟨na, nc, rfl, -, -⟩ := h.n.cap;obtain ⟨ma, mc, rfl, -, -⟩ := h.m.cap;obtain ⟨ba, bc, rfl⟩ := GotAt.open h.b;obtain ⟨la, lc, rfl⟩ : ∃ a c, gl = .slice a d.L.l.length c := by
  obtain ⟨_, a, c, e, _⟩ := h.l
  exact ⟨a, c, e⟩
 clear h hm hF ht hbi;unfold logV logA at H2;have I0 := hideIt (AnW.first w (nodA d (.slice ba d.b.l.length bc) (.slice la d.L.l.length lc) (.slice na d.nx.length nc) (.slice ma d.mt.length mc)) zN);unfold NodeBack;unfold nodA zN at I0
 go_enter Tryz.func27, Tryz.ntmps27
 unfold nodA
 go_upto_region 1 with fail
 generalize (World.alloc (World.alloc w _) _) = W0 at *;have HC1 := hideIt (H1.out W0 I0.out.bel);obtain ⟨⟨k0, k1, k2, k3, k4, k5, k6, k7, k8, k9, k10, k11, k12, k13⟩, kf, kz⟩ := at14 I0.out.box
 go_wp2_with fail
 refine HC1.out.mono ?_;rintro e w1 ⟨g, rfl, ho, hb⟩;dsimp only;clear k0 k1 k2 k3 k4 k5 k6 k7 k8 k9 k10 k11 k12 k13 kf kz;have J1 := hideIt (I0.out.call hb);obtain ⟨a1, c1, rfl⟩ := Tm.own_len ho;have O1 := hideIt (ownSet (b := w.heap.size) (j := 5) (.slice a1 d.b.l.length c1) (own_base ho I0.out.size) (by omega));obtain ⟨⟨k0, k1, k2, k3, k4, k5, k6, k7, k8, k9, k10, k11, k12, k13⟩, kf, kz⟩ := at14 J1.out.box;have I1 : Hid (AnW w (w1.setCell ⟨w.heap.size, 5, none⟩ (.slice a1 d.b.l.length c1)) (nodA d (.slice a1 d.b.l.length c1) (.slice la d.L.l.length lc) (.slice na d.nx.length nc) (.slice ma d.mt.length mc)) zN) := hideIt (J1.out.put 5 (.slice a1 d.b.l.length c1));clear ho hb HC1 H1 I0 J1;unfold nodA zN at I1
 go_upto_region 2 with fail
 generalize (World.setCell w1 _ _) = W1 at *;clear k0 k1 k2 k3 k4 k5 k6 k7 k8 k9 k10 k11 k12 k13 kf kz;have HC2 := hideIt (H2.out W1 I1.out.bel);obtain ⟨⟨k0, k1, k2, k3, k4, k5, k6, k7, k8, k9, k10, k11, k12, k13⟩, kf, kz⟩ := at14 I1.out.box
 go_wp2_with fail
 refine HC2.out.mono ?_;rintro e w2 ⟨g, rfl, ho, hb⟩;dsimp only;clear k0 k1 k2 k3 k4 k5 k6 k7 k8 k9 k10 k11 k12 k13 kf kz;have J2 := hideIt (I1.out.call hb);obtain ⟨a2, c2, rfl⟩ := own_len ho;have O2 := hideIt (ownSet (b := w.heap.size) (j := 9) (.slice a2 d.L.l.length c2) (own_base ho I1.out.size) (by omega));have O1' := hideIt (ownSet (b := w.heap.size) (j := 9) (.slice a2 d.L.l.length c2) (own_keep O1.out hb) (by omega));clear O1;have O1 := O1';clear O1';obtain ⟨⟨k0, k1, k2, k3, k4, k5, k6, k7, k8, k9, k10, k11, k12, k13⟩, kf, kz⟩ := at14 J2.out.box;have I2 : Hid (AnW w (w2.setCell ⟨w.heap.size, 9, none⟩ (.slice a2 d.L.l.length c2)) (nodA d (.slice a1 d.b.l.length c1) (.slice a2 d.L.l.length c2) (.slice na d.nx.length nc) (.slice ma d.mt.length mc)) zN) := hideIt (J2.out.put 9 (.slice a2 d.L.l.length c2));clear ho hb HC2 H2 I1 J2;unfold nodA zN at I2
 go_upto_region 3 with fail
 generalize (World.setCell w2 _ _) = W2 at *;clear k0 k1 k2 k3 k4 k5 k6 k7 k8 k9 k10 k11 k12 k13 kf kz;have HC3 := hideIt (H3.out W2);obtain ⟨⟨k0, k1, k2, k3, k4, k5, k6, k7, k8, k9, k10, k11, k12, k13⟩, kf, kz⟩ := at14 I2.out.box
 go_wp2_with fail
 refine HC3.out.mono ?_;rintro e w3 ⟨rfl, hb⟩;dsimp only;clear k0 k1 k2 k3 k4 k5 k6 k7 k8 k9 k10 k11 k12 k13 kf kz;have J3 := hideIt (I2.out.call hb);have O1' := hideIt (ownSet (b := w.heap.size) (j := 11) (.string d.tx) (own_keep O1.out hb) (by omega));clear O1;have O1 := O1';clear O1';have O2' := hideIt (ownSet (b := w.heap.size) (j := 11) (.string d.tx) (own_keep O2.out hb) (by omega));clear O2;have O2 := O2';clear O2';obtain ⟨⟨k0, k1, k2, k3, k4, k5, k6, k7, k8, k9, k10, k11, k12, k13⟩, kf, kz⟩ := at14 J3.out.box;have I3 : Hid (AnW w (w3.setCell ⟨w.heap.size, 11, none⟩ (.string d.tx)) (nodA d (.slice a1 d.b.l.length c1) (.slice a2 d.L.l.length c2) (.slice na d.nx.length nc) (.slice ma d.mt.length mc)) zN) := hideIt (J3.out.put 11 (.string d.tx));clear hb HC3 H3 I2 J3;unfold nodA zN at I3
 go_upto_region 4 with fail
 generalize (World.setCell w3 _ _) = W3 at *;clear k0 k1 k2 k3 k4 k5 k6 k7 k8 k9 k10 k11 k12 k13 kf kz;have HC4 := hideIt (H4.out W3 I3.out.bel);obtain ⟨⟨k0, k1, k2, k3, k4, k5, k6, k7, k8, k9, k10, k11, k12, k13⟩, kf, kz⟩ := at14 I3.out.box
 go_wp2_with fail
 refine HC4.out.mono ?_;rintro e w4 ⟨g, rfl, ho, hb⟩;dsimp only;clear k0 k1 k2 k3 k4 k5 k6 k7 k8 k9 k10 k11 k12 k13 kf kz;have J4 := hideIt (I3.out.call hb);obtain ⟨a4, c4, rfl⟩ := Tm.own_len ho;have O4 := hideIt (ownSet (b := w.heap.size) (j := 12) (.slice a4 d.nx.length c4) (own_base ho I3.out.size) (by omega));have O1' := hideIt (ownSet (b := w.heap.size) (j := 12) (.slice a4 d.nx.length c4) (own_keep O1.out hb) (by omega));clear O1;have O1 := O1';clear O1';have O2' := hideIt (ownSet (b := w.heap.size) (j := 12) (.slice a4 d.nx.length c4) (own_keep O2.out hb) (by omega));clear O2;have O2 := O2';clear O2';obtain ⟨⟨k0, k1, k2, k3, k4, k5, k6, k7, k8, k9, k10, k11, k12, k13⟩, kf, kz⟩ := at14 J4.out.box;have I4 : Hid (AnW w (w4.setCell ⟨w.heap.size, 12, none⟩ (.slice a4 d.nx.length c4)) (nodA d (.slice a1 d.b.l.length c1) (.slice a2 d.L.l.length c2) (.slice a4 d.nx.length c4) (.slice ma d.mt.length mc)) zN) := hideIt (J4.out.put 12 (.slice a4 d.nx.length c4));clear ho hb HC4 H4 I3 J4;unfold nodA zN at I4
 go_upto_region 5 with fail
 generalize (World.setCell w4 _ _) = W4 at *;clear k0 k1 k2 k3 k4 k5 k6 k7 k8 k9 k10 k11 k12 k13 kf kz;have HC5 := hideIt (H5.out W4 I4.out.bel);obtain ⟨⟨k0, k1, k2, k3, k4, k5, k6, k7, k8, k9, k10, k11, k12, k13⟩, kf, kz⟩ := at14 I4.out.box
 go_wp2_with fail
 refine HC5.out.mono ?_;rintro e w5 ⟨g, rfl, ho, hb⟩;dsimp only;clear k0 k1 k2 k3 k4 k5 k6 k7 k8 k9 k10 k11 k12 k13 kf kz;have J5 := hideIt (I4.out.call hb);obtain ⟨a5, c5, rfl⟩ := Tm.own_len ho;have O5 := hideIt (ownSet (b := w.heap.size) (j := 13) (.slice a5 d.mt.length c5) (own_base ho I4.out.size) (by omega));have O1' := hideIt (ownSet (b := w.heap.size) (j := 13) (.slice a5 d.mt.length c5) (own_keep O1.out hb) (by omega));clear O1;have O1 := O1';clear O1';have O2' := hideIt (ownSet (b := w.heap.size) (j := 13) (.slice a5 d.mt.length c5) (own_keep O2.out hb) (by omega));clear O2;have O2 := O2';clear O2';have O4' := hideIt (ownSet (b := w.heap.size) (j := 13) (.slice a5 d.mt.length c5) (own_keep O4.out hb) (by omega));clear O4;have O4 := O4';clear O4';obtain ⟨⟨k0, k1, k2, k3, k4, k5, k6, k7, k8, k9, k10, k11, k12, k13⟩, kf, kz⟩ := at14 J5.out.box;have I5 : Hid (AnW w (w5.setCell ⟨w.heap.size, 13, none⟩ (.slice a5 d.mt.length c5)) (nodA d (.slice a1 d.b.l.length c1) (.slice a2 d.L.l.length c2) (.slice a4 d.nx.length c4) (.slice a5 d.mt.length c5)) zN) := hideIt (J5.out.put 13 (.slice a5 d.mt.length c5));clear ho hb HC5 H5 I4 J5;unfold nodA zN at I5
 go_upto_region 6 with fail
 generalize (World.setCell w5 _ _) = W5 at *;clear k0 k1 k2 k3 k4 k5 k6 k7 k8 k9 k10 k11 k12 k13 kf kz;obtain ⟨⟨k0, k1, k2, k3, k4, k5, k6, k7, k8, k9, k10, k11, k12, k13⟩, kf, kz⟩ := at14 I5.out.box;obtain ⟨⟨d0, d1, d2, d3, d4, d5, d6, d7, d8, d9, d10, d11, d12, d13⟩, df, dz⟩ := at14 I5.out.res;have F1 := hideIt (put14 (.int .i64 d.me) (.int .i64 d.n) (.int .i64 d.b.t) (.int .i64 d.b.v) (.int .i64 d.b.r) (.slice a1 d.b.l.length c1) (.int .i64 d.ld) (.int .i64 d.L.bi) (.int .i64 d.L.bt) (.slice a2 d.L.l.length c2) (.int .i64 d.L.cm) (.string d.tx) (.slice a4 d.nx.length c4) (.slice a5 d.mt.length c5) I5.out.res);have F2 := hideIt (nodeSet14 (d := d) (w.heap.size + 1) (.int .i64 d.me) (.int .i64 d.n) (.int .i64 d.b.t) (.int .i64 d.b.v) (.int .i64 d.b.r) (.slice a1 d.b.l.length c1) (.int .i64 d.ld) (.int .i64 d.L.bi) (.int .i64 d.L.bt) (.slice a2 d.L.l.length c2) (.int .i64 d.L.cm) (.string d.tx) (.slice a4 d.nx.length c4) (.slice a5 d.mt.length c5) ⟨O1.out, O2.out, O4.out, O5.out⟩ (by omega));have F3 := hideIt (belowSet14 (w.heap.size + 1) (.int .i64 d.me) (.int .i64 d.n) (.int .i64 d.b.t) (.int .i64 d.b.v) (.int .i64 d.b.r) (.slice a1 d.b.l.length c1) (.int .i64 d.ld) (.int .i64 d.L.bi) (.int .i64 d.L.bt) (.slice a2 d.L.l.length c2) (.int .i64 d.L.cm) (.string d.tx) (.slice a4 d.nx.length c4) (.slice a5 d.mt.length c5) I5.out.bel (by omega));clear I5 O1 O2 O4 O5;go_wp2;have f1 := F1.out;have f2 := F2.out;have f3 := F3.out;clear F1 F2 F3
 revert f1 f2 f3
 generalize (World.setCell _ ⟨w.heap.size + 1, 13, none⟩ _) = W;intro e1 e2 e3;exact bodyPost_ret (v := .agg (nodA d (.slice a1 d.b.l.length c1) (.slice a2 d.L.l.length c2) (.slice a4 d.nx.length c4) (.slice a5 d.mt.length c5))) (by simp [results, Tryz.results27, go_sem, Tm.cell_at e1, nodA]) rfl ⟨_, _, _, _, rfl, e2.base (by omega), e3⟩
set_option maxRecDepth 100000 in
set_option maxHeartbeats 16000000 in
theorem rmayBe_is (d : NodeV) (gb gl gn gm : Value) (w : World) (h : NodAt w d gb gl gn gm) : Calls Tryz.prog 26 #[.agg (nodA d gb gl gn gm)] w fun e w' => e = .returned (.bool (nodeB d)) ∧ Below w.heap.size w w' := by
 have HB0 := hideIt (below1 w (.cells (nodA d gb gl gn gm) 38));have HX0 := hideIt (heap_alloc_new w (.cells (nodA d gb gl gn gm) 38));have hE : nodeB d = (wiB d.n 1 7 && (wiB d.me 1 d.n && (wiB d.ld 0 d.n && (Tm.mayB d.b && (decide ((d.b.l.length : Int) ≤ d.n) && (mayB d.L && (textB d.tx d.L.bi && leadB d))))))) := rfl;generalize nodeB d = B at *;have HE := hideIt hE;clear hE;obtain ⟨na, nc, rfl, -, -⟩ := h.n.cap;obtain ⟨ma, mc, rfl, -, -⟩ := h.m.cap;obtain ⟨ba, bc, rfl⟩ := GotAt.open h.b;obtain ⟨la, lc, rfl⟩ : ∃ a c, gl = .slice a d.L.l.length c := by
  obtain ⟨_, a, c, e, _⟩ := h.l
  exact ⟨a, c, e⟩
 have hTX := hideIt h.t;have hN := hideIt (fun W (hW : Below w.heap.size w W) => h.keep hW);clear h;unfold nodA at *
 go_enter Tryz.func26, Tryz.ntmps26
 go_upto_region 1 with fail
 generalize (World.alloc w _) = W0 at *;have HX := HX0;have HB := HB0;clear HX0 HB0;obtain ⟨⟨k0, k1, k2, k3, k4, k5, k6, k7, k8, k9, k10, k11, k12, k13⟩, kf, kz⟩ := at14 HX.out;cases h0 : wiB d.n 1 7
 ·rw [h0] at HE;have HC := hideIt (fun W => rafWithin_is d.n 1 7 W);rw [h0] at HC
  go_wp2_with fail
  refine (HC.out _).mono ?_;rintro e w1 ⟨rfl, rfl⟩;dsimp only;clear HC;go_wp2;go_ret
  exact ⟨by rw [HE.out]; simp, HB.out⟩
 ·rw [h0] at HE;have HC := hideIt (fun W => rafWithin_is d.n 1 7 W);rw [h0] at HC
  go_wp2_with fail
  refine (HC.out _).mono ?_;rintro e w1 ⟨rfl, rfl⟩;dsimp only;clear HC;have hn0 := hideIt h0;cases h1 : wiB d.me 1 d.n
  ·rw [h1] at HE;have HC := hideIt (fun W => rafWithin_is d.me 1 d.n W);rw [h1] at HC
   go_wp2_with fail
   refine (HC.out _).mono ?_;rintro e w1 ⟨rfl, rfl⟩;dsimp only;clear HC;go_wp2;go_ret
   exact ⟨by rw [HE.out]; simp, HB.out⟩
  ·rw [h1] at HE;have HC := hideIt (fun W => rafWithin_is d.me 1 d.n W);rw [h1] at HC
   go_wp2_with fail
   refine (HC.out _).mono ?_;rintro e w1 ⟨rfl, rfl⟩;dsimp only;clear HC;cases h2 : wiB d.ld 0 d.n
   ·rw [h2] at HE;have HC := hideIt (fun W => rafWithin_is d.ld 0 d.n W);rw [h2] at HC
    go_wp2_with fail
    refine (HC.out _).mono ?_;rintro e w1 ⟨rfl, rfl⟩;dsimp only;clear HC;go_wp2;go_ret
    exact ⟨by rw [HE.out]; simp, HB.out⟩
   ·rw [h2] at HE;have HC := hideIt (fun W => rafWithin_is d.ld 0 d.n W);rw [h2] at HC
    go_wp2_with fail
    refine (HC.out _).mono ?_;rintro e w1 ⟨rfl, rfl⟩;dsimp only;clear HC;cases h3 : Tm.mayB d.b
    ·rw [h3] at HE;have HC := hideIt (isBallot_is d.b _ _ (hN.out _ HB.out).b);rw [h3] at HC;unfold Tm.balV at HC
     go_wp2_with fail
     refine HC.out.mono ?_;rintro e w1 ⟨rfl, hb⟩;dsimp only;have HX1 := hideIt (blkK HX.out hb);have HB1 := hideIt (below_via HB.out hb);clear k0 k1 k2 k3 k4 k5 k6 k7 k8 k9 k10 k11 k12 k13 kf kz;clear HX HB hb HC;have HX := HX1;have HB := HB1;clear HX1 HB1;obtain ⟨⟨k0, k1, k2, k3, k4, k5, k6, k7, k8, k9, k10, k11, k12, k13⟩, kf, kz⟩ := at14 HX.out;go_wp2;go_ret
     exact ⟨by rw [HE.out]; simp, HB.out⟩
    ·rw [h3] at HE;have HC := hideIt (isBallot_is d.b _ _ (hN.out _ HB.out).b);rw [h3] at HC;unfold Tm.balV at HC
     go_wp2_with fail
     refine HC.out.mono ?_;rintro e w1 ⟨rfl, hb⟩;dsimp only;have HX1 := hideIt (blkK HX.out hb);have HB1 := hideIt (below_via HB.out hb);clear k0 k1 k2 k3 k4 k5 k6 k7 k8 k9 k10 k11 k12 k13 kf kz;clear HX HB hb HC;have HX := HX1;have HB := HB1;clear HX1 HB1;obtain ⟨⟨k0, k1, k2, k3, k4, k5, k6, k7, k8, k9, k10, k11, k12, k13⟩, kf, kz⟩ := at14 HX.out;cases h4 : decide ((d.b.l.length : Int) ≤ d.n)
     ·rw [h4] at HE;have hgl : ¬ ((d.b.l.length : Int) ≤ d.n) := of_decide_eq_false h4;clear h4;go_wp2;go_ret
      exact ⟨by rw [HE.out]; simp, HB.out⟩
     ·rw [h4] at HE;have hgl := of_decide_eq_true h4;clear h4;cases h5 : mayB d.L
      ·rw [h5] at HE;have HC := hideIt (check_is d.L _ _ (hN.out _ HB.out).l);unfold chkI at HC;rw [h5] at HC;simp only [Bool.false_eq_true, if_false] at HC;unfold logV logA at HC
       go_wp2_with fail
       refine HC.out.mono ?_;rintro e w1 ⟨rfl, hb⟩;dsimp only;have HX1 := hideIt (blkK HX.out hb);have HB1 := hideIt (below_via HB.out hb);clear k0 k1 k2 k3 k4 k5 k6 k7 k8 k9 k10 k11 k12 k13 kf kz;clear HX HB hb HC;have HX := HX1;have HB := HB1;clear HX1 HB1;obtain ⟨⟨k0, k1, k2, k3, k4, k5, k6, k7, k8, k9, k10, k11, k12, k13⟩, kf, kz⟩ := at14 HX.out;go_wp2;go_ret
       exact ⟨by rw [HE.out]; simp, HB.out⟩
      ·rw [h5] at HE;have HC := hideIt (check_is d.L _ _ (hN.out _ HB.out).l);unfold chkI at HC;rw [h5] at HC;simp only [if_true] at HC;unfold logV logA at HC
       go_wp2_with fail
       refine HC.out.mono ?_;rintro e w1 ⟨rfl, hb⟩;dsimp only;have HX1 := hideIt (blkK HX.out hb);have HB1 := hideIt (below_via HB.out hb);clear k0 k1 k2 k3 k4 k5 k6 k7 k8 k9 k10 k11 k12 k13 kf kz;clear HX HB hb HC;have HX := HX1;have HB := HB1;clear HX1 HB1;obtain ⟨⟨k0, k1, k2, k3, k4, k5, k6, k7, k8, k9, k10, k11, k12, k13⟩, kf, kz⟩ := at14 HX.out;cases h6 : textB d.tx d.L.bi
       ·rw [h6] at HE;have HC := hideIt (fun W => isTextOf_is d.tx d.L.bi d.L.bt W hTX.out);rw [h6] at HC
        go_wp2_with fail
        refine (HC.out _).mono ?_;rintro e w1 ⟨rfl, hb⟩;dsimp only;have HX1 := hideIt (blkK HX.out hb);have HB1 := hideIt (below_via HB.out hb);clear k0 k1 k2 k3 k4 k5 k6 k7 k8 k9 k10 k11 k12 k13 kf kz;clear HX HB hb HC;have HX := HX1;have HB := HB1;clear HX1 HB1;obtain ⟨⟨k0, k1, k2, k3, k4, k5, k6, k7, k8, k9, k10, k11, k12, k13⟩, kf, kz⟩ := at14 HX.out;go_wp2;go_ret
        exact ⟨by rw [HE.out]; simp, HB.out⟩
       ·rw [h6] at HE;have HC := hideIt (fun W => isTextOf_is d.tx d.L.bi d.L.bt W hTX.out);rw [h6] at HC
        go_wp2_with fail
        refine (HC.out _).mono ?_;rintro e w1 ⟨rfl, hb⟩;dsimp only;have HX1 := hideIt (blkK HX.out hb);have HB1 := hideIt (below_via HB.out hb);clear k0 k1 k2 k3 k4 k5 k6 k7 k8 k9 k10 k11 k12 k13 kf kz;clear HX HB hb HC;have HX := HX1;have HB := HB1;clear HX1 HB1;obtain ⟨⟨k0, k1, k2, k3, k4, k5, k6, k7, k8, k9, k10, k11, k12, k13⟩, kf, kz⟩ := at14 HX.out;cases h7 : leadB d
        ·rw [h7] at HE;have HC := hideIt (leads_is d _ _ _ _ _ (hN.out _ HB.out) (of_decide_eq_true hn0.out));rw [h7] at HC;unfold nodA at HC
         go_wp2_with fail
         refine HC.out.mono ?_;rintro e w1 ⟨rfl, hb⟩;dsimp only;have HX1 := hideIt (blkK HX.out hb);have HB1 := hideIt (below_via HB.out hb);clear k0 k1 k2 k3 k4 k5 k6 k7 k8 k9 k10 k11 k12 k13 kf kz;clear HX HB hb HC;have HX := HX1;have HB := HB1;clear HX1 HB1;obtain ⟨⟨k0, k1, k2, k3, k4, k5, k6, k7, k8, k9, k10, k11, k12, k13⟩, kf, kz⟩ := at14 HX.out;go_wp2;go_ret
         exact ⟨by rw [HE.out]; simp, HB.out⟩
        ·rw [h7] at HE;have HC := hideIt (leads_is d _ _ _ _ _ (hN.out _ HB.out) (of_decide_eq_true hn0.out));rw [h7] at HC;unfold nodA at HC
         go_wp2_with fail
         refine HC.out.mono ?_;rintro e w1 ⟨rfl, hb⟩;dsimp only;have HX1 := hideIt (blkK HX.out hb);have HB1 := hideIt (below_via HB.out hb);clear k0 k1 k2 k3 k4 k5 k6 k7 k8 k9 k10 k11 k12 k13 kf kz;clear HX HB hb HC;have HX := HX1;have HB := HB1;clear HX1 HB1;obtain ⟨⟨k0, k1, k2, k3, k4, k5, k6, k7, k8, k9, k10, k11, k12, k13⟩, kf, kz⟩ := at14 HX.out;go_wp2;go_ret
         exact ⟨by rw [HE.out]; simp, HB.out⟩
def staN (me n t v si st : Int) (tx : ByteArray) (l : List EntV) : NodeV := ⟨me, n, ⟨t, v, 1, []⟩, 0, ⟨si, st, l, si⟩, tx, [], []⟩
structure StW (w W : World) (cs : Array Value) : Prop where
 res : W.heap[w.heap.size + 1 + 1]? = some (.cells #[.int .i64 0, .int .i64 0, .int .i64 0, .int .i64 0, .int .i64 0, .slice none 0 0, .int .i64 0, .int .i64 0, .int .i64 0, .slice none 0 0, .int .i64 0, .string ⟨#[]⟩, .slice none 0 0, .slice none 0 0] 38 (0, 0))
 nod : W.heap[w.heap.size + 1 + 1 + 1]? = some (.cells cs 38 (0, 0))
 bel : Below w.heap.size w W
theorem StW.first (w : World) (o p : Obj) (cs : Array Value) : StW w ((((w.alloc o).alloc p).alloc (.cells #[.int .i64 0, .int .i64 0, .int .i64 0, .int .i64 0, .int .i64 0, .slice none 0 0, .int .i64 0, .int .i64 0, .int .i64 0, .slice none 0 0, .int .i64 0, .string ⟨#[]⟩, .slice none 0 0, .slice none 0 0] 38)).alloc (.cells cs 38)) cs := by
 refine ⟨?_, ?_, ((below2 w o p).alloc (by simp; omega) _).alloc (by simp; omega) _⟩
 ·rw [heap_alloc_old _ _ (by simp)];have := heap_alloc_new ((w.alloc o).alloc p) (.cells #[.int .i64 0, .int .i64 0, .int .i64 0, .int .i64 0, .int .i64 0, .slice none 0 0, .int .i64 0, .int .i64 0, .int .i64 0, .slice none 0 0, .int .i64 0, .string ⟨#[]⟩, .slice none 0 0, .slice none 0 0] 38)
  simpa using this
 ·have := heap_alloc_new (((w.alloc o).alloc p).alloc (.cells #[.int .i64 0, .int .i64 0, .int .i64 0, .int .i64 0, .int .i64 0, .slice none 0 0, .int .i64 0, .int .i64 0, .int .i64 0, .slice none 0 0, .int .i64 0, .string ⟨#[]⟩, .slice none 0 0, .slice none 0 0] 38)) (.cells cs 38)
  simpa using this
theorem StW.size {w W : World} {cs : Array Value} (h : StW w W cs) : w.heap.size + 1 + 1 + 1 < W.heap.size := (Array.getElem?_eq_some_iff.1 h.nod).1
theorem StW.call {w W W' : World} {cs : Array Value} (h : StW w W cs) (hb : Below W.heap.size W W') : StW w W' cs := ⟨blkK h.res hb, blkK h.nod hb, below_via h.bel hb⟩
theorem IGot.nil (w : World) : IGot w (.slice none 0 0) [] := ⟨Tm.GotAt.nil w none 0, none, 0, rfl, by simp, by simp⟩
theorem nodeB_L {d : NodeV} (h : nodeB d = true) : mayB d.L = true ∧ d.tx.size ≤ 50000 := by
 unfold nodeB textB at h;simp only [Bool.and_eq_true, decide_eq_true_eq] at h
 exact ⟨h.2.2.2.2.2.1, h.2.2.2.2.2.2.1.1⟩
set_option maxRecDepth 100000 in
set_option maxHeartbeats 8000000 in
theorem startN_is (me n t v si st : Int) (tx : ByteArray) (l : List EntV) (g : Value) (w : World) (h : EGot w g l) (ht : tx.size ≤ 140737488355328) : Calls Tryz.prog 9 #[.int .i64 me, .int .i64 n, .agg #[.int .i64 t, .int .i64 v], .agg #[.int .i64 si, .int .i64 st, .string tx], g] w fun e w' => ∃ gb gl gn gm, e = .returned (.tuple #[.agg (nodA (startN me n t v si st tx l).1 gb gl gn gm), .int .i64 (startN me n t v si st tx l).2]) ∧ NodeOwn w.heap.size w' (startN me n t v si st tx l).1 gb gl gn gm ∧ Below w.heap.size w w' := by
 obtain ⟨la, lc, rfl⟩ : ∃ a c, g = .slice a l.length c := by
  obtain ⟨_, a, c, e, _⟩ := h
  exact ⟨a, c, e⟩
 have I0 := hideIt (StW.first w (.cells #[.int .i64 t, .int .i64 v] 23) (.cells #[.int .i64 si, .int .i64 st, .string tx] 27) (nodA (staN me n t v si st tx l) (.slice none 0 0) (.slice la l.length lc) (.slice none 0 0) (.slice none 0 0)));have HNA := hideIt (fun W (hW : Below w.heap.size w W) => (⟨Tm.GotAt.nil W none 0, h.keep hW, IGot.nil W, IGot.nil W, ht⟩ : NodAt W (staN me n t v si st tx l) (.slice none 0 0) (.slice la l.length lc) (.slice none 0 0) (.slice none 0 0)));have HM := hideIt (rmayBe_is _ _ _ _ _ _ (HNA.out _ I0.out.bel));have HAN := hideIt (fun W (hW : Below w.heap.size w W) (hB : nodeB (staN me n t v si st tx l) = true) => anewN_is _ _ _ _ _ W (HNA.out W hW) (nodeB_L hB).1 (Nat.le_trans (nodeB_L hB).2 (by omega)));have HS : startN me n t v si st tx l = if nodeB (staN me n t v si st tx l) then (staN me n t v si st tx l, 0) else (zNode, 100) := rfl
 generalize startN me n t v si st tx l = Z at *;clear h HNA;unfold NodeBack at HAN
 go_enter Tryz.func9, Tryz.ntmps9
 go_upto_region 2 with fail
 cases hB : nodeB (staN me n t v si st tx l)
 ·rw [hB] at HS HM;rw [if_neg (by decide)] at HS;subst HS;clear HAN;unfold nodA staN at *;clear hB;generalize (World.alloc _ (.cells #[.int .i64 me, _, _, _, _, _, _, _, _, _, _, _, _, _] _)) = W0 at *;obtain ⟨⟨k0, k1, k2, k3, k4, k5, k6, k7, k8, k9, k10, k11, k12, k13⟩, kf, kz⟩ := at14 I0.out.nod
  go_wp2_with fail
  refine HM.out.mono ?_;rintro e w1 ⟨rfl, hb⟩;dsimp only;have I1 := hideIt (I0.out.call hb);clear k0 k1 k2 k3 k4 k5 k6 k7 k8 k9 k10 k11 k12 k13 kf kz hb I0 HM;obtain ⟨⟨d0, d1, d2, d3, d4, d5, d6, d7, d8, d9, d10, d11, d12, d13⟩, df, dz⟩ := at14 I1.out.res;have F1 := hideIt (put14 (.int .i64 0) (.int .i64 0) (.int .i64 0) (.int .i64 0) (.int .i64 0) (.slice none 0 0) (.int .i64 0) (.int .i64 0) (.int .i64 0) (.slice none 0 0) (.int .i64 0) (.string ⟨#[]⟩) (.slice none 0 0) (.slice none 0 0) I1.out.res);have F2 := hideIt (nodeSet14 (B := w.heap.size + 3) (W := w1) (gb := .slice none 0 0) (gl := .slice none 0 0) (gn := .slice none 0 0) (gm := .slice none 0 0) (d := zNode) (w.heap.size + 1 + 1) (.int .i64 0) (.int .i64 0) (.int .i64 0) (.int .i64 0) (.int .i64 0) (.slice none 0 0) (.int .i64 0) (.int .i64 0) (.int .i64 0) (.slice none 0 0) (.int .i64 0) (.string ⟨#[]⟩) (.slice none 0 0) (.slice none 0 0) ⟨⟨rfl, .inl ⟨rfl, rfl⟩⟩, ⟨rfl, .inl ⟨rfl, rfl⟩⟩, ⟨rfl, .inl ⟨rfl, rfl⟩⟩, ⟨rfl, .inl ⟨rfl, rfl⟩⟩⟩ (by omega));have F3 := hideIt (belowSet14 (w.heap.size + 1 + 1) (.int .i64 0) (.int .i64 0) (.int .i64 0) (.int .i64 0) (.int .i64 0) (.slice none 0 0) (.int .i64 0) (.int .i64 0) (.int .i64 0) (.slice none 0 0) (.int .i64 0) (.string ⟨#[]⟩) (.slice none 0 0) (.slice none 0 0) I1.out.bel (by omega));clear I1;go_wp2;have f1 := F1.out;have f2 := F2.out;have f3 := F3.out;clear F1 F2 F3
  revert f1 f2 f3
  generalize (World.setCell _ ⟨w.heap.size + 1 + 1, 13, none⟩ _) = W;intro e1 e2 e3;exact bodyPost_ret (v := .tuple #[.agg (nodA (zNode) (.slice none 0 0) (.slice none 0 0) (.slice none 0 0) (.slice none 0 0)), .int .i64 100]) (by simp [results, Tryz.results9, go_sem, Tm.cell_at e1, nodA, zNode, Tm.zB, zL, noT, staN]) rfl ⟨_, _, _, _, rfl, e2.base (by omega), e3⟩
 ·rw [hB] at HS HM;rw [if_pos rfl] at HS;subst HS;have HAN2 := hideIt (fun W hW => HAN.out W hW hB);clear HAN;unfold nodA staN at *;clear hB;generalize (World.alloc _ (.cells #[.int .i64 me, _, _, _, _, _, _, _, _, _, _, _, _, _] _)) = W0 at *;obtain ⟨⟨k0, k1, k2, k3, k4, k5, k6, k7, k8, k9, k10, k11, k12, k13⟩, kf, kz⟩ := at14 I0.out.nod
  go_wp2_with fail
  refine HM.out.mono ?_;rintro e w1 ⟨rfl, hb⟩;dsimp only;have I1 := hideIt (I0.out.call hb);clear k0 k1 k2 k3 k4 k5 k6 k7 k8 k9 k10 k11 k12 k13 kf kz hb I0 HM;obtain ⟨⟨k0, k1, k2, k3, k4, k5, k6, k7, k8, k9, k10, k11, k12, k13⟩, kf, kz⟩ := at14 I1.out.nod;have HN := hideIt (HAN2.out w1 I1.out.bel);clear HAN2
  go_wp2_with fail
  refine HN.out.mono ?_;rintro e w2 ⟨gb, gl, gn, gm, rfl, ho, hb⟩;dsimp only;obtain ⟨ba, bc, rfl⟩ := Tm.own_len ho.b;obtain ⟨la2, lc2, rfl⟩ := own_len ho.l;obtain ⟨na, nc, rfl⟩ := Tm.own_len ho.n;obtain ⟨ma, mc, rfl⟩ := Tm.own_len ho.m;have I2 := hideIt (I1.out.call hb);have hsz := I1.out.size;have O2 := hideIt ho;clear k0 k1 k2 k3 k4 k5 k6 k7 k8 k9 k10 k11 k12 k13 kf kz hb ho I1 HN;obtain ⟨⟨d0, d1, d2, d3, d4, d5, d6, d7, d8, d9, d10, d11, d12, d13⟩, df, dz⟩ := at14 I2.out.res;have F1 := hideIt (put14 (.int .i64 me) (.int .i64 n) (.int .i64 t) (.int .i64 v) (.int .i64 1) (.slice ba ([] : List Int).length bc) (.int .i64 0) (.int .i64 si) (.int .i64 st) (.slice la2 l.length lc2) (.int .i64 si) (.string tx) (.slice na ([] : List Int).length nc) (.slice ma ([] : List Int).length mc) I2.out.res);have F2 := hideIt (nodeSet14 (d := staN me n t v si st tx l) (w.heap.size + 1 + 1) (.int .i64 me) (.int .i64 n) (.int .i64 t) (.int .i64 v) (.int .i64 1) (.slice ba ([] : List Int).length bc) (.int .i64 0) (.int .i64 si) (.int .i64 st) (.slice la2 l.length lc2) (.int .i64 si) (.string tx) (.slice na ([] : List Int).length nc) (.slice ma ([] : List Int).length mc) O2.out (by omega));have F3 := hideIt (belowSet14 (w.heap.size + 1 + 1) (.int .i64 me) (.int .i64 n) (.int .i64 t) (.int .i64 v) (.int .i64 1) (.slice ba ([] : List Int).length bc) (.int .i64 0) (.int .i64 si) (.int .i64 st) (.slice la2 l.length lc2) (.int .i64 si) (.string tx) (.slice na ([] : List Int).length nc) (.slice ma ([] : List Int).length mc) I2.out.bel (by omega));clear I2;go_wp2;have f1 := F1.out;have f2 := F2.out;have f3 := F3.out;clear F1 F2 F3
  revert f1 f2 f3
  generalize (World.setCell _ ⟨w.heap.size + 1 + 1, 13, none⟩ _) = W;intro e1 e2 e3;exact bodyPost_ret (v := .tuple #[.agg (nodA (staN me n t v si st tx l) (.slice ba ([] : List Int).length bc) (.slice la2 l.length lc2) (.slice na ([] : List Int).length nc) (.slice ma ([] : List Int).length mc)), .int .i64 0]) (by simp [results, Tryz.results9, go_sem, Tm.cell_at e1, nodA, zNode, Tm.zB, zL, noT, staN]) rfl ⟨_, _, _, _, rfl, e2.base (by omega), e3⟩
end Go.Proofs.YtcaehfkfohianaaGreat
