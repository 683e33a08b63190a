/- Texts of my own, laid together. -/
import Derived.Test.YtiinigifjdpicaaGreatDoorMb07
import Derived.Test.YtiinigifjdpicaaGreatDoorMb06
import Derived.Test.YtiinigifjdpicaaGreatDoorPx06
import Derived.Test.YtiinigifjdpicaaGreatDoorPx00
import Derived.Test.YtiinigifjdpicaaGreatDoorPx01
import Derived.DeepKeys5
import Derived.Maps.Keyed
import Derived.Maps.OwnOps
import Derived.Maps.OwnSet
import Derived.Lib.SlKeysI
namespace Go.Proofs.YtiinigifjdpicaaGreatDoor
open Go.RowKit
set_option linter.all false
structure HS (w : World) (K : Nat) (L : LaneV) (b a o : Value) (m g : Int) (W : World) : Prop where
 box : W.heap[w.heap.size]? = some (.cells #[.bool L.call, .int .i64 L.next, b, a, o] 59 (0, 0))
 sm : W.heap[K]? = some (.cells #[.int .i64 m, .int .i64 g] 110 (0, 0))
 bel : Below w.heap.size w W
 lK : w.heap.size < K
theorem HS.keep {w : World} {K : Nat} {L : LaneV} {b a o : Value} {m g : Int} {W W' : World} (h : HS w K L b a o m g W) (hb : Below W.heap.size W W') : HS w K L b a o m g W' :=
 ⟨(hb.block _ (Array.getElem?_eq_some_iff.1 h.box).1).trans h.box, (hb.block _ (Array.getElem?_eq_some_iff.1 h.sm).1).trans h.sm, below_via h.bel hb, h.lK⟩
theorem HS.m {w : World} {K : Nat} {L : LaneV} {b a o : Value} {m g : Int} {W : World} (h : HS w K L b a o m g W) (x : Int) : HS w K L b a o x g (W.setCell ⟨K, 0, none⟩ (.int .i64 x)) :=
 ⟨setOther _ h.box (by have := h.lK; omega), heap_set h.sm 0 _, belowSet _ h.bel (by have := h.lK; omega), h.lK⟩
theorem HS.g {w : World} {K : Nat} {L : LaneV} {b a o : Value} {m g : Int} {W : World} (h : HS w K L b a o m g W) (x : Int) : HS w K L b a o m x (W.setCell ⟨K, 1, none⟩ (.int .i64 x)) :=
 ⟨setOther _ h.box (by have := h.lK; omega), heap_set h.sm 1 _, belowSet _ h.bel (by have := h.lK; omega), h.lK⟩
theorem two_at {w : World} {p : Nat} {t : TypeId} {a b : Value} (h : w.heap[p]? = some (.cells #[a, b] t (0, 0))) : w.cell? ⟨p, 0, none⟩ = some a ∧ w.cell? ⟨p, 1, none⟩ = some b ∧ (∀ j, w.frozen? ⟨p, j, none⟩ = false) ∧ p < w.heap.size :=
 ⟨by rw [cell_at h]; rfl, by rw [cell_at h]; rfl, fun j => free_at h j, (Array.getElem?_eq_some_iff.1 h).1⟩
theorem mul_bd {p n : Int} (hp : 1 ≤ p ∧ p ≤ 1000000) (hn : 1 ≤ n ∧ n ≤ 1000000) : 0 ≤ p * n ∧ p * n ≤ 1000000000000 :=
 ⟨Int.mul_nonneg (by omega) (by omega), by have := Int.mul_le_mul hp.2 hn.2 (by omega) (by omega : (0 : Int) ≤ 1000000); omega⟩
theorem sumP_bd : ∀ (l : List OrdV), OkT l → 0 ≤ sumP l ∧ sumP l ≤ l.length * 1000000000000
 | [], _ => by simp [sumP]
 | o :: l, h => by
  have ih := sumP_bd l (fun q hq => h q (List.mem_cons_of_mem _ hq));have ho := h o (by simp);have := mul_bd ho.1 ho.2;simp only [sumP, List.map_cons, List.sum_cons, List.length_cons] at ih ⊢;omega
theorem sumQ_bd : ∀ (l : List OrdV), OkT l → 0 ≤ sumQ l ∧ sumQ l ≤ l.length * 1000000
 | [], _ => by simp [sumQ]
 | o :: l, h => by
  have ih := sumQ_bd l (fun q hq => h q (List.mem_cons_of_mem _ hq));have ho := h o (by simp);simp only [sumQ, List.map_cons, List.sum_cons, List.length_cons] at ih ⊢;omega
theorem sumA_bd (a : Int) : ∀ (l : List OweV), (∀ y ∈ l, 0 ≤ y.n ∧ y.n ≤ 9007199254740992) → 0 ≤ sumA a l ∧ sumA a l ≤ l.length * 9007199254740992
 | [], _ => by simp [sumA]
 | y :: l, h => by
  have ih := sumA_bd a l (fun q hq => h q (List.mem_cons_of_mem _ hq));have hy := h y (by simp);simp only [sumA, List.map_cons, List.sum_cons, List.length_cons] at ih ⊢
  split <;> omega
theorem okT_take {l : List OrdV} (h : OkT l) (t : Nat) : OkT (l.take t) := fun q hq => h q (List.mem_of_mem_take hq)
theorem sumP_b40 {l : List OrdV} (h : OkT l) (hl : l.length ≤ 40) (t : Nat) : 0 ≤ sumP (l.take t) ∧ sumP (l.take t) ≤ 40000000000000 := by
 have := sumP_bd _ (okT_take h t);have h2 : (l.take t).length ≤ 40 := by rw [List.length_take]; omega
 omega
theorem sumQ_b40 {l : List OrdV} (h : OkT l) (hl : l.length ≤ 40) (t : Nat) : 0 ≤ sumQ (l.take t) ∧ sumQ (l.take t) ≤ 40000000 := by
 have := sumQ_bd _ (okT_take h t);have h2 : (l.take t).length ≤ 40 := by rw [List.length_take]; omega
 omega
theorem sumA_b16 {a : Int} {l : List OweV} (h : OkO 0 l) (t : Nat) : 0 ≤ sumA a (l.take t) ∧ sumA a (l.take t) ≤ 144115188075855872 := by
 have := sumA_bd a (l.take t) (fun y hy => by have := h.2 y (List.mem_of_mem_take hy); omega)
 have h2 : (l.take t).length ≤ 16 := by rw [List.length_take]; have := h.1; omega
 omega
set_option maxHeartbeats 400000 in
theorem may1_is (x y : Int) (w : World) : Calls Tryz.prog 147 #[.int .i64 x, .int .i64 y] w fun e w' => e = .returned (.bool (decide (y ≤ x))) ∧ w' = w := by
 go_enter Tryz.func147, Tryz.ntmps147
 go_wp2;go_ret
 exact ⟨rfl, rfl⟩
set_option maxHeartbeats 400000 in
theorem may2_is (x y : Int) (w : World) : Calls Tryz.prog 148 #[.int .i64 x, .int .i64 y] w fun e w' => e = .returned (.bool (decide (x ≤ y))) ∧ w' = w := by
 go_enter Tryz.func148, Tryz.ntmps148
 go_wp2;go_ret
 exact ⟨rfl, rfl⟩
def dem (p : Int) (l : List OrdV) : Int := (l.map (fun o => if p ≤ o.price then o.left else 0)).sum
def sup (p : Int) (l : List OrdV) : Int := (l.map (fun o => if o.price ≤ p then o.left else 0)).sum
theorem dem_take {p : Int} {l : List OrdV} {t : Nat} (h : t < l.length) : dem p (l.take (t + 1)) = dem p (l.take t) + (if p ≤ l[t].price then l[t].left else 0) := by
 unfold dem;rw [List.take_succ_eq_append_getElem h, List.map_append, List.sum_append]
 simp
theorem sup_take {p : Int} {l : List OrdV} {t : Nat} (h : t < l.length) : sup p (l.take (t + 1)) = sup p (l.take t) + (if l[t].price ≤ p then l[t].left else 0) := by
 unfold sup;rw [List.take_succ_eq_append_getElem h, List.map_append, List.sum_append]
 simp
theorem dem_bd (p : Int) : ∀ (l : List OrdV), OkT l → 0 ≤ dem p l ∧ dem p l ≤ l.length * 1000000
 | [], _ => by simp [dem]
 | o :: l, h => by
  have ih := dem_bd p l (fun q hq => h q (List.mem_cons_of_mem _ hq));have ho := h o (List.mem_cons_self ..);have e : dem p (o :: l) = (if p ≤ o.price then o.left else 0) + dem p l := by simp [dem]
  rw [e, List.length_cons]
  push_cast
  split <;> omega
theorem sup_bd (p : Int) : ∀ (l : List OrdV), OkT l → 0 ≤ sup p l ∧ sup p l ≤ l.length * 1000000
 | [], _ => by simp [sup]
 | o :: l, h => by
  have ih := sup_bd p l (fun q hq => h q (List.mem_cons_of_mem _ hq));have ho := h o (List.mem_cons_self ..);have e : sup p (o :: l) = (if o.price ≤ p then o.left else 0) + sup p l := by simp [sup]
  rw [e, List.length_cons]
  push_cast
  split <;> omega
structure Dep (w : World) (k K0 K1 : Nat) (v : Value) : Prop where
 c0 : w.heap[K0]? = some (.cells #[v] 56 (0, 0))
 c1 : w.heap[K1]? = some (.cells #[.func (Fn.func k) #[] #[]] 156 (0, 0))
theorem Dep.keep {w w' : World} {k K0 K1 : Nat} {v : Value} (h : Dep w k K0 K1 v) (hb : Below w.heap.size w w') : Dep w' k K0 K1 v :=
 ⟨(hb.block _ (Array.getElem?_eq_some_iff.1 h.c0).1).trans h.c0, (hb.block _ (Array.getElem?_eq_some_iff.1 h.c1).1).trans h.c1⟩
set_option maxHeartbeats 1000000 in
theorem depth1_is (a : Option Addr) (n c : Nat) (w : World) : Calls Tryz.prog 146 #[.slice a n c, .func (Fn.func 147) #[] #[]] w fun e w' => ∃ K0 K1, e = .returned (.func (Fn.func 176) #[] #[.pointer (some ⟨K0, 0, none⟩), .pointer (some ⟨K1, 0, none⟩)]) ∧ Dep w' 147 K0 K1 (.slice a n c) ∧ Below w.heap.size w w' := by
 have HT := hideIt (two_heap w (.cells #[.slice a n c] 56) (.cells #[.func (Fn.func 147) #[] #[]] 156));have HB := hideIt (below2 w (.cells #[.slice a n c] 56) (.cells #[.func (Fn.func 147) #[] #[]] 156))
 go_enter Tryz.func146, Tryz.ntmps146
 go_wp2;go_ret
 exact ⟨_, _, rfl, ⟨HT.out.1, HT.out.2.1⟩, HB.out⟩
set_option maxHeartbeats 1000000 in
theorem depth2_is (a : Option Addr) (n c : Nat) (w : World) : Calls Tryz.prog 146 #[.slice a n c, .func (Fn.func 148) #[] #[]] w fun e w' => ∃ K0 K1, e = .returned (.func (Fn.func 176) #[] #[.pointer (some ⟨K0, 0, none⟩), .pointer (some ⟨K1, 0, none⟩)]) ∧ Dep w' 148 K0 K1 (.slice a n c) ∧ Below w.heap.size w w' := by
 have HT := hideIt (two_heap w (.cells #[.slice a n c] 56) (.cells #[.func (Fn.func 148) #[] #[]] 156));have HB := hideIt (below2 w (.cells #[.slice a n c] 56) (.cells #[.func (Fn.func 148) #[] #[]] 156))
 go_enter Tryz.func146, Tryz.ntmps146
 go_wp2;go_ret
 exact ⟨_, _, rfl, ⟨HT.out.1, HT.out.2.1⟩, HB.out⟩
theorem one_at {w : World} {p : Nat} {t : TypeId} {a : Value} (h : w.heap[p]? = some (.cells #[a] t (0, 0))) : w.cell? ⟨p, 0, none⟩ = some a ∧ p < w.heap.size :=
 ⟨by rw [cell_at h]; rfl, (Array.getElem?_eq_some_iff.1 h).1⟩
theorem four_at4 {w : World} {p : Nat} {t : TypeId} {a b c d : Value} (h : w.heap[p]? = some (.cells #[a, b, c, d] t (0, 0))) : (w.cell? ⟨p, 0, none⟩ = some a ∧ w.cell? ⟨p, 1, none⟩ = some b ∧ w.cell? ⟨p, 2, none⟩ = some c ∧ w.cell? ⟨p, 3, none⟩ = some d) ∧ (∀ j, w.frozen? ⟨p, j, none⟩ = false) ∧ p < w.heap.size :=
 ⟨⟨by rw [cell_at h]; rfl, by rw [cell_at h]; rfl, by rw [cell_at h]; rfl, by rw [cell_at h]; rfl⟩, fun j => free_at h j, (Array.getElem?_eq_some_iff.1 h).1⟩
set_option maxHeartbeats 8000000 in
set_option maxRecDepth 100000 in
theorem demand_is (p : Int) (K0 K1 : Nat) (v : Value) (l : List OrdV) (w : World) (hd : Dep w 147 K0 K1 v) (h : Ords w v l) (hl : l.length ≤ 40) (hT : OkT l) : Calls Tryz.prog 176 #[.int .i64 p, .pointer (some ⟨K0, 0, none⟩), .pointer (some ⟨K1, 0, none⟩)] w fun e w' => e = .returned (.int .i64 (dem p l)) ∧ Below w.heap.size w w' := by
 obtain ⟨a, c, rfl, h8, hr⟩ := h.ords;have HH := hideIt hr;have HM := hideIt (fun x y W => may1_is x y W);have HS := hideIt (fun t (ht : t < l.length) => dem_take (p := p) ht);have HB := hideIt (fun t => dem_bd p (l.take t) (okT_take hT t));have HZ : Hid (dem p (l.take 0) = 0) := by show _ = _; simp [dem]
 have HE : Hid (dem p (l.take l.length) = dem p l) := by show _ = _; rw [List.take_length]
 generalize hfu : (fun t : Nat => dem p (l.take t)) = F at *;have HT1 : Hid (∀ t, dem p (l.take t) = F t) := fun t => congrFun hfu t
 simp only [HT1.out] at HS HB HZ HE;clear hfu HT1 hr h hT;generalize dem p l = R at *;have HD := hideIt hd;obtain ⟨a0, z0⟩ := one_at hd.c0;clear hd
 go_enter Tryz.func176, Tryz.ntmps176
 go_upto_region 3 with fail
 clear a0 z0
 go_loopw [5, 10] (fun u x wr => ∃ t : Nat, u = .int .i64 (F t) ∧ x = .int .i64 t ∧ t ≤ l.length ∧ Hid (Below w.heap.size w wr)) (fun _ x _ => l.length - (intOf x).toNat)
 case atStart => exact ⟨0, by rw [HZ.out], rfl, Nat.zero_le _, hideIt (Below.refl _ _)⟩
 case round =>
  obtain ⟨t, rfl, rfl, ht, HR⟩ := hrel
  by_cases hlt : t < l.length
  ·have hltI : (t : Int) < (l.length : Int) := by omega
   have ht0 : (0 : Int) ≤ (t : Int) := by omega
   have hw : IntKind.i64.wrap ((t : Int) + 1) = ((t + 1 : Nat) : Int) := by rw [IntKind.wrap_i64]; omega
   obtain ⟨b, off, rfl, hbl, q0, q1, q2, q3⟩ := HH.out t hlt;have hblr : b < wr.heap.size := Nat.lt_of_lt_of_le hbl HR.out.size;have e0 := (HR.out.cell (p := ⟨b, off + t * 4, none⟩) hbl).trans q0;have e1 := (HR.out.cell (p := ⟨b, off + t * 4 + 1, none⟩) hbl).trans q1;have e2 := (HR.out.cell (p := ⟨b, off + t * 4 + 2, none⟩) hbl).trans q2;have e3 := (HR.out.cell (p := ⟨b, off + t * 4 + 3, none⟩) hbl).trans q3;have hs := HS.out t hlt;have hb0 := HB.out t;have hb1 := HB.out (t + 1);have ht40 : (l.take (t + 1)).length ≤ 40 := by rw [List.length_take]; omega
   have ht41 : (l.take t).length ≤ 40 := by rw [List.length_take]; omega
   clear q0 q1 q2 q3 HH HS HB;generalize l[t] = y at *;obtain ⟨yi, ya, yp, yl⟩ := y;dsimp only at e0 e1 e2 e3 hs;have HD1 := hideIt (HD.out.keep HR.out);have hb2 := below1 wr (.cells #[.int .i64 yi, .int .i64 ya, .int .i64 yp, .int .i64 yl] 115);have HR2 := hideIt (below_via HR.out hb2);have HD2 := hideIt (HD1.out.keep hb2);have HO := hideIt (heap_alloc_new wr (.cells #[.int .i64 yi, .int .i64 ya, .int .i64 yp, .int .i64 yl] 115));clear hb2 HR HD1
   go_upto_region 5 with fail
   generalize wr.alloc (.cells #[.int .i64 yi, .int .i64 ya, .int .i64 yp, .int .i64 yl] 115) = W2 at *;generalize wr.heap.size = KO at *;clear e0 e1 e2 e3 hblr;obtain ⟨a1, z1⟩ := one_at HD2.out.c1;obtain ⟨⟨o0, o1, o2, o3⟩, -, oz⟩ := four_at4 HO.out
   go_wp2_with fail
   refine (HM.out _ _ _).mono ?_;rintro e wq ⟨rfl, hwq⟩;replace hwq := hwq.symm;subst hwq;dsimp only
   by_cases hp : p ≤ yp
   ·rw [if_pos hp] at hs;have hwA : IntKind.i64.wrap (F t + yl) = F (t + 1) := by rw [hs, IntKind.wrap_i64]; omega
    have hpd : decide (p ≤ yp) = true := decide_eq_true hp;clear hs hb0 hb1 HD2;go_wp2
    go_roundw
    case rel => exact ⟨t + 1, rfl, by go_num, by omega, HR2⟩
    case measure => simp [intOf]; omega
   ·rw [if_neg hp, Int.add_zero] at hs;have HSH := hideIt hs;have hpd : decide (p ≤ yp) = false := decide_eq_false hp;clear hs hb0 hb1 HD2;go_wp2
    go_roundw
    case rel => exact ⟨t + 1, by rw [HSH.out], by go_num, by omega, HR2⟩
    case measure => simp [intOf]; omega
  ·have hltI : ¬ (t : Int) < (l.length : Int) := by omega
   have het : t = l.length := by omega
   subst het;clear HH HS HB;go_wp2;go_ret
   exact ⟨by rw [HE.out]; rfl, HR.out⟩
set_option maxHeartbeats 8000000 in
set_option maxRecDepth 100000 in
theorem supply_is (p : Int) (K0 K1 : Nat) (v : Value) (l : List OrdV) (w : World) (hd : Dep w 148 K0 K1 v) (h : Ords w v l) (hl : l.length ≤ 40) (hT : OkT l) : Calls Tryz.prog 176 #[.int .i64 p, .pointer (some ⟨K0, 0, none⟩), .pointer (some ⟨K1, 0, none⟩)] w fun e w' => e = .returned (.int .i64 (sup p l)) ∧ Below w.heap.size w w' := by
 obtain ⟨a, c, rfl, h8, hr⟩ := h.ords;have HH := hideIt hr;have HM := hideIt (fun x y W => may2_is x y W);have HS := hideIt (fun t (ht : t < l.length) => sup_take (p := p) ht);have HB := hideIt (fun t => sup_bd p (l.take t) (okT_take hT t));have HZ : Hid (sup p (l.take 0) = 0) := by show _ = _; simp [sup]
 have HE : Hid (sup p (l.take l.length) = sup p l) := by show _ = _; rw [List.take_length]
 generalize hfu : (fun t : Nat => sup p (l.take t)) = F at *;have HT1 : Hid (∀ t, sup p (l.take t) = F t) := fun t => congrFun hfu t
 simp only [HT1.out] at HS HB HZ HE;clear hfu HT1 hr h hT;generalize sup p l = R at *;have HD := hideIt hd;obtain ⟨a0, z0⟩ := one_at hd.c0;clear hd
 go_enter Tryz.func176, Tryz.ntmps176
 go_upto_region 3 with fail
 clear a0 z0
 go_loopw [5, 10] (fun u x wr => ∃ t : Nat, u = .int .i64 (F t) ∧ x = .int .i64 t ∧ t ≤ l.length ∧ Hid (Below w.heap.size w wr)) (fun _ x _ => l.length - (intOf x).toNat)
 case atStart => exact ⟨0, by rw [HZ.out], rfl, Nat.zero_le _, hideIt (Below.refl _ _)⟩
 case round =>
  obtain ⟨t, rfl, rfl, ht, HR⟩ := hrel
  by_cases hlt : t < l.length
  ·have hltI : (t : Int) < (l.length : Int) := by omega
   have ht0 : (0 : Int) ≤ (t : Int) := by omega
   have hw : IntKind.i64.wrap ((t : Int) + 1) = ((t + 1 : Nat) : Int) := by rw [IntKind.wrap_i64]; omega
   obtain ⟨b, off, rfl, hbl, q0, q1, q2, q3⟩ := HH.out t hlt;have hblr : b < wr.heap.size := Nat.lt_of_lt_of_le hbl HR.out.size;have e0 := (HR.out.cell (p := ⟨b, off + t * 4, none⟩) hbl).trans q0;have e1 := (HR.out.cell (p := ⟨b, off + t * 4 + 1, none⟩) hbl).trans q1;have e2 := (HR.out.cell (p := ⟨b, off + t * 4 + 2, none⟩) hbl).trans q2;have e3 := (HR.out.cell (p := ⟨b, off + t * 4 + 3, none⟩) hbl).trans q3;have hs := HS.out t hlt;have hb0 := HB.out t;have hb1 := HB.out (t + 1);have ht40 : (l.take (t + 1)).length ≤ 40 := by rw [List.length_take]; omega
   have ht41 : (l.take t).length ≤ 40 := by rw [List.length_take]; omega
   clear q0 q1 q2 q3 HH HS HB;generalize l[t] = y at *;obtain ⟨yi, ya, yp, yl⟩ := y;dsimp only at e0 e1 e2 e3 hs;have HD1 := hideIt (HD.out.keep HR.out);have hb2 := below1 wr (.cells #[.int .i64 yi, .int .i64 ya, .int .i64 yp, .int .i64 yl] 115);have HR2 := hideIt (below_via HR.out hb2);have HD2 := hideIt (HD1.out.keep hb2);have HO := hideIt (heap_alloc_new wr (.cells #[.int .i64 yi, .int .i64 ya, .int .i64 yp, .int .i64 yl] 115));clear hb2 HR HD1
   go_upto_region 5 with fail
   generalize wr.alloc (.cells #[.int .i64 yi, .int .i64 ya, .int .i64 yp, .int .i64 yl] 115) = W2 at *;generalize wr.heap.size = KO at *;clear e0 e1 e2 e3 hblr;obtain ⟨a1, z1⟩ := one_at HD2.out.c1;obtain ⟨⟨o0, o1, o2, o3⟩, -, oz⟩ := four_at4 HO.out
   go_wp2_with fail
   refine (HM.out _ _ _).mono ?_;rintro e wq ⟨rfl, hwq⟩;replace hwq := hwq.symm;subst hwq;dsimp only
   by_cases hp : yp ≤ p
   ·rw [if_pos hp] at hs;have hwA : IntKind.i64.wrap (F t + yl) = F (t + 1) := by rw [hs, IntKind.wrap_i64]; omega
    have hpd : decide (yp ≤ p) = true := decide_eq_true hp;clear hs hb0 hb1 HD2;go_wp2
    go_roundw
    case rel => exact ⟨t + 1, rfl, by go_num, by omega, HR2⟩
    case measure => simp [intOf]; omega
   ·rw [if_neg hp, Int.add_zero] at hs;have HSH := hideIt hs;have hpd : decide (yp ≤ p) = false := decide_eq_false hp;clear hs hb0 hb1 HD2;go_wp2
    go_roundw
    case rel => exact ⟨t + 1, by rw [HSH.out], by go_num, by omega, HR2⟩
    case measure => simp [intOf]; omega
  ·have hltI : ¬ (t : Int) < (l.length : Int) := by omega
   have het : t = l.length := by omega
   subst het;clear HH HS HB;go_wp2;go_ret
   exact ⟨by rw [HE.out]; rfl, HR.out⟩
def rfE (L : LaneV) (c : Bool) : Int := if chkB L = false then 130 else if L.call = c then 0 else 140
set_option maxHeartbeats 4000000 in
set_option maxRecDepth 100000 in
theorem aRefused_is (L : LaneV) (b a o : Value) (c : Bool) (w : World) (h : Lan w L b a o) : Calls Tryz.prog 118 #[laneV L b a o, .bool c] w fun e w' => e = .returned (.int .i64 (rfE L c)) ∧ Below w.heap.size w w' := by
 have X0 := hideIt (BoxL.first w L b a o);have HC := hideIt (check_is L b a o _ (h.keep X0.out.bel));obtain ⟨ba, bc, rfl⟩ := h.bids.slice;obtain ⟨aa, ac, rfl⟩ := h.asks.slice;obtain ⟨oa, oc, rfl⟩ := h.owed.slice;clear h;cases hk : chkB L
 ·have e : rfE L c = 130 := by unfold rfE; rw [if_pos hk]
  rw [e];rw [show chkI L = 130 by unfold chkI; rw [hk]; rfl] at HC
  obtain ⟨c0, c1, c2, c3, c4⟩ := X0.out.cells;unfold laneV laneA at *;obtain ⟨cl, nx, bids, asks, owed⟩ := L;simp only at *;clear e hk
  go_enter Tryz.func118, Tryz.ntmps118
  go_wp2_with fail
  refine HC.out.mono ?_;rintro e w1 ⟨rfl, hb⟩;dsimp only;have X1 := hideIt (X0.out.keep hb);clear hb X0 HC c0 c1 c2 c3 c4;go_wp2;go_ret
  exact ⟨rfl, X1.out.bel⟩
 ·rw [show chkI L = 0 by unfold chkI; rw [hk]; rfl] at HC
  have e : rfE L c = if L.call = c then 0 else 140 := by unfold rfE; rw [if_neg (by simp [hk])]
  rw [e];clear e hk;obtain ⟨cl, nx, bids, asks, owed⟩ := L;cases cl <;> cases c
  all_goals
   obtain ⟨c0, c1, c2, c3, c4⟩ := X0.out.cells;unfold laneV laneA at *;simp only at *
   go_enter Tryz.func118, Tryz.ntmps118
   go_wp2_with fail
   refine HC.out.mono ?_;rintro e w1 ⟨rfl, hb⟩;dsimp only;have X1 := hideIt (X0.out.keep hb);clear hb X0 HC c0 c1 c2 c3 c4;obtain ⟨c0, c1, c2, c3, c4⟩ := X1.out.cells;simp only at c0 c1 c2 c3 c4;have kz : w.heap.size < w1.heap.size := by have := X1.out.size; omega
   go_wp2;go_ret
   exact ⟨by first | rfl | simp, X1.out.bel⟩
def volP (L : LaneV) (p : Int) : Int := min (dem p L.bids) (sup p L.asks)
def rstP (L : LaneV) (p : Int) : Int := max (dem p L.bids) (sup p L.asks) - min (dem p L.bids) (sup p L.asks)
def clS (L : LaneV) (st : Int × Int × Int) (p : Int) : Int × Int × Int := if st.2.1 < volP L p ∨ (volP L p = st.2.1 ∧ rstP L p < st.2.2) then (p, volP L p, rstP L p) else st
def clL (L : LaneV) : Int × Int × Int := (sortL (prL L.bids ++ prL L.asks)).foldl (clS L) (0, 0, 0)
set_option maxHeartbeats 16000000 in
set_option maxRecDepth 100000 in
theorem clearing_is (L : LaneV) (b a o : Value) (w : World) (h : Lan w L b a o) (hk : chkB L = true) : Calls Tryz.prog 120 #[laneV L b a o] w fun e w' => e = .returned (.tuple #[.int .i64 (clL L).1, .int .i64 (clL L).2.1]) ∧ Below w.heap.size w w' := by
 have hm := chk_may hk;have X0 := hideIt (BoxL.first w L b a o);have HL := hideIt (fun W (hW : Below w.heap.size w W) => h.keep hW);have HPR := hideIt (fun W (hW : Below w.heap.size w W) => prices_is L b a o W (HL.out W hW) hm.lb hm.la);have HDM := hideIt (fun p K0 K1 W (hW : Below w.heap.size w W) (hd : Dep W 147 K0 K1 b) => demand_is p K0 K1 b L.bids W hd (HL.out W hW).bids hm.lb hm.tb);have HSP := hideIt (fun p K0 K1 W (hW : Below w.heap.size w W) (hd : Dep W 148 K0 K1 a) => supply_is p K0 K1 a L.asks W hd (HL.out W hW).asks hm.la hm.ta);have HBD := hideIt (fun p => dem_bd p L.bids hm.tb);have HBS := hideIt (fun p => sup_bd p L.asks hm.ta);have hlb := hm.lb;have hla := hm.la;have HST := hideIt (fun st p => show clS L st p = if st.2.1 < min (dem p L.bids) (sup p L.asks) ∨ (min (dem p L.bids) (sup p L.asks) = st.2.1 ∧ max (dem p L.bids) (sup p L.asks) - min (dem p L.bids) (sup p L.asks) < st.2.2) then (p, min (dem p L.bids) (sup p L.asks), max (dem p L.bids) (sup p L.asks) - min (dem p L.bids) (sup p L.asks)) else st from rfl);obtain ⟨PS, hPS⟩ : ∃ PS, PS = sortL (prL L.bids ++ prL L.asks) := ⟨_, rfl⟩;have hpl : PS.length = (prL L.bids ++ prL L.asks).length := by rw [hPS, sortL_len]
 have hpl2 : PS.length ≤ 80 := by rw [hpl, List.length_append, prL_len, prL_len]; omega
 have HCL : Hid (clL L = PS.foldl (clS L) (0, 0, 0)) := by show _ = _; rw [hPS]; rfl
 rw [← hPS, ← hpl] at HPR;have HF := hideIt (fun t (ht : t < PS.length) => show (PS.take (t + 1)).foldl (clS L) (0, 0, 0) = clS L ((PS.take t).foldl (clS L) (0, 0, 0)) PS[t] by rw [List.take_succ_eq_append_getElem ht, List.foldl_append]; rfl)
 have HFE : Hid ((PS.take PS.length).foldl (clS L) (0, 0, 0) = clL L) := by show _ = _; rw [List.take_length, HCL.out]
 have HFZ : Hid ((PS.take 0).foldl (clS L) (0, 0, 0) = (0, 0, 0)) := rfl;clear hPS hpl HCL hm hk;generalize hG : (fun st p => clS L st p) = G at *;have HG2 : Hid (∀ st p, clS L st p = G st p) := fun st p => congrFun (congrFun hG st) p
 generalize hfu : (fun t : Nat => (PS.take t).foldl (clS L) (0, 0, 0)) = FT at *;have HT1 : Hid (∀ t, (PS.take t).foldl (clS L) (0, 0, 0) = FT t) := fun t => congrFun hfu t
 simp only [HT1.out, HG2.out] at HF HFE HFZ HST;clear hfu HT1 hG HG2;generalize clL L = R at *;obtain ⟨ba, bc, rfl⟩ := h.bids.slice;obtain ⟨aa, ac, rfl⟩ := h.asks.slice;obtain ⟨oa, oc, rfl⟩ := h.owed.slice;have HD1 := hideIt (fun W => depth1_is ba L.bids.length bc W);have HD2 := hideIt (fun W => depth2_is aa L.asks.length ac W);clear h;obtain ⟨c0, c1, c2, c3, c4⟩ := X0.out.cells;unfold laneV laneA at *;obtain ⟨cl, nx, bids, asks, owed⟩ := L;simp only at *
 go_enter Tryz.func120, Tryz.ntmps120
 go_wp2_with fail
 refine (HD1.out _).mono ?_;rintro e w1 ⟨K0, K1, rfl, hd, hb⟩;dsimp only;have X1 := hideIt (X0.out.keep hb);have E1 := hideIt hd;clear hd hb X0 HD1 c0 c1 c2 c3 c4;obtain ⟨c0, c1, c2, c3, c4⟩ := X1.out.cells;simp only at c0 c1 c2 c3 c4;have kz : w.heap.size < w1.heap.size := by have := X1.out.size; omega
 go_wp2_with fail
 refine (HD2.out _).mono ?_;rintro e w2 ⟨K2, K3, rfl, hd, hb⟩;dsimp only;have X2 := hideIt (X1.out.keep hb);have E2 := hideIt hd;have E1b := hideIt (E1.out.keep hb);clear hd hb X1 HD2 c0 c1 c2 c3 c4 kz E1;obtain ⟨c0, c1, c2, c3, c4⟩ := X2.out.cells;simp only at c0 c1 c2 c3 c4;have kz : w.heap.size < w2.heap.size := by have := X2.out.size; omega
 go_wp2_with fail
 refine (HPR.out _ X2.out.bel).mono ?_;rintro e w3 ⟨pv, rfl, ho, hb⟩;dsimp only;have B3 := hideIt (below_via X2.out.bel hb);have D1 := hideIt (E1b.out.keep hb);have D2 := hideIt (E2.out.keep hb);have P3 : Hid (SGot 1 8 intE w3 pv PS) := own_sgot (by rw [show celC intE PS = PS.map (Value.int .i64) from intC _]; exact ho) (by omega)
 obtain ⟨pa, pc, rfl⟩ := own_len ho;clear ho hb X2 HPR c0 c1 c2 c3 c4 kz E1b E2;obtain ⟨pa', pc', e, -, hr⟩ := P3.out.ints;simp only [Value.slice.injEq, true_and] at e;obtain ⟨rfl, rfl⟩ := e;have HH := hideIt hr;clear hr P3
 go_upto_region 5 with fail
 go_loopw [2, 3, 6, 22] (fun u v x y wr => ∃ t : Nat, ∃ p q r : Int, u = .int .i64 p ∧ v = .int .i64 q ∧ x = .int .i64 r ∧ y = .int .i64 t ∧ t ≤ PS.length ∧ Hid (FT t = (p, q, r)) ∧ Hid (Below w3.heap.size w3 wr)) (fun _ _ _ y _ => PS.length - (intOf y).toNat)
 case atStart => exact ⟨0, 0, 0, 0, rfl, rfl, rfl, rfl, Nat.zero_le _, HFZ, hideIt (Below.refl _ _)⟩
 case round =>
  obtain ⟨t, p, q, r, rfl, rfl, rfl, rfl, ht, HV, HR⟩ := hrel
  by_cases hlt : t < PS.length
  ·have hltI : (t : Int) < (PS.length : Int) := by omega
   have ht0 : (0 : Int) ≤ (t : Int) := by omega
   have hw : IntKind.i64.wrap ((t : Int) + 1) = ((t + 1 : Nat) : Int) := by rw [IntKind.wrap_i64]; omega
   obtain ⟨bb, off, rfl, hbl, q0⟩ := HH.out t hlt;have hblr : bb < wr.heap.size := Nat.lt_of_lt_of_le hbl HR.out.size;have e0 := (HR.out.cell (p := ⟨bb, off + t, none⟩) hbl).trans q0;have hs := HF.out t hlt;rw [HV.out, HST.out] at hs;have HS := hideIt hs;clear hs HH HF HST q0 HV;generalize PS[t] = at1 at *;have hd0 := HBD.out at1;have hs0 := HBS.out at1;have HDA := hideIt (HDM.out at1 K0 K1);have HSA := hideIt (HSP.out at1 K2 K3);clear HBD HBS HDM HSP;generalize dem at1 bids = dv at *;generalize sup at1 asks = sv at *
   go_wp2_with fail
   refine (HDA.out _ (below_via B3.out HR.out) (D1.out.keep HR.out)).mono ?_;rintro e w4 ⟨rfl, hb⟩;dsimp only;have R4 := hideIt (below_via HR.out hb);clear hb HR HDA e0 hblr
   go_wp2_with fail
   refine (HSA.out _ (below_via B3.out R4.out) (D2.out.keep R4.out)).mono ?_;rintro e w5 ⟨rfl, hb⟩;dsimp only;have R5 := hideIt (below_via R4.out hb);clear hb R4 HSA;obtain ⟨vv, hvv⟩ : ∃ vv, vv = min dv sv := ⟨_, rfl⟩;obtain ⟨rr, hrr⟩ : ∃ rr, rr = max dv sv - min dv sv := ⟨_, rfl⟩;rw [← hrr, ← hvv] at HS;have hv0 : 0 ≤ vv ∧ vv ≤ 40000000 := by omega
   have hr0 : 0 ≤ rr ∧ rr ≤ 40000000 := by omega
   have hwr : IntKind.i64.wrap (max dv sv - min dv sv) = rr := by rw [← hrr, IntKind.wrap_i64]; omega
   have HVV := hideIt hvv;have HRR := hideIt hrr;clear hvv hrr hd0 hs0
   go_upto_region 9 with fail
   rw [← HVV.out]
   by_cases h1 : q < vv
   ·have HS1 : Hid (FT (t + 1) = (at1, vv, rr)) := by
     show _ = _
     rw [HS.out, if_pos (.inl h1)]
    clear HS;go_wp2
    go_roundw
    case rel => exact ⟨t + 1, _, _, _, rfl, rfl, rfl, by go_num, by omega, HS1, R5⟩
    case measure => simp [intOf]; omega
   ·by_cases h2 : vv = q
    ·subst h2
     by_cases h3 : rr < r
     ·have HS1 : Hid (FT (t + 1) = (at1, vv, rr)) := by
       show _ = _
       rw [HS.out, if_pos (.inr ⟨rfl, h3⟩)]
      clear HS;go_wp2
      go_roundw
      case rel => exact ⟨t + 1, _, _, _, rfl, rfl, rfl, by go_num, by omega, HS1, R5⟩
      case measure => simp [intOf]; omega
     ·have HS1 : Hid (FT (t + 1) = (p, vv, r)) := by
       show _ = _
       rw [HS.out, if_neg (by rintro (h | h); exact h1 h; exact h3 h.2)]
      clear HS;go_wp2
      go_roundw
      case rel => exact ⟨t + 1, _, _, _, rfl, rfl, rfl, by go_num, by omega, HS1, R5⟩
      case measure => simp [intOf]; omega
    ·have HS1 : Hid (FT (t + 1) = (p, q, r)) := by
      show _ = _
      rw [HS.out, if_neg (by rintro (h | h); exact h1 h; exact h2 h.1)]
     have h2q : (vv == q) = false := by simpa using h2
     clear HS;go_wp2
     go_roundw
     case rel => exact ⟨t + 1, _, _, _, rfl, rfl, rfl, by go_num, by omega, HS1, R5⟩
     case measure => simp [intOf]; omega
  ·have hltI : ¬ (t : Int) < (PS.length : Int) := by omega
   have het : t = PS.length := by omega
   subst het;have hE := HFE.out;rw [HV.out] at hE;have HE := hideIt hE;have B8 := hideIt (below_via B3.out HR.out);clear HR HH HF HFE hE HV;go_wp2;exact bodyPost_ret (v := .tuple #[.int .i64 p, .int .i64 q]) (by simp [results, Tryz.results120, go_sem]) rfl ⟨by rw [← HE.out], B8.out⟩
theorem rf_chk {L : LaneV} {c : Bool} (h : rfE L c = 0) : chkB L = true ∧ L.call = c := by
 unfold rfE at h;cases hk : chkB L
 ·rw [if_pos hk] at h;cases h
 ·rw [if_neg (by simp [hk])] at h
  split at h
  ·rename_i e
   exact ⟨rfl, e⟩
  ·cases h
theorem exists_min (q : Int) : ∀ (l : List Int), (∃ x ∈ l, q ≤ x) → ∃ m ∈ l, q ≤ m ∧ ∀ x ∈ l, q ≤ x → m ≤ x
 | [], h => by obtain ⟨x, hx, -⟩ := h; simp at hx
 | y :: l, h => by
  by_cases hl : ∃ x ∈ l, q ≤ x
  ·obtain ⟨m, hm, hq, hmin⟩ := exists_min q l hl
   by_cases hy : q ≤ y ∧ y ≤ m
   ·refine ⟨y, List.mem_cons_self .., hy.1, fun x hx hqx => ?_⟩;rw [List.mem_cons] at hx
    rcases hx with rfl | hx
    ·exact Int.le_refl _
    ·exact Int.le_trans hy.2 (hmin x hx hqx)
   ·refine ⟨m, List.mem_cons_of_mem _ hm, hq, fun x hx hqx => ?_⟩;rw [List.mem_cons] at hx
    rcases hx with rfl | hx
    ·omega
    ·exact hmin x hx hqx
  ·obtain ⟨x, hx, hqx⟩ := h;rw [List.mem_cons] at hx
   rcases hx with rfl | hx
   ·refine ⟨x, List.mem_cons_self .., hqx, fun z hz hqz => ?_⟩;rw [List.mem_cons] at hz
    rcases hz with rfl | hz
    ·exact Int.le_refl _
    ·exact absurd ⟨z, hz, hqz⟩ hl
   ·exact absurd ⟨x, hx, hqx⟩ hl
theorem dem_eq {p q : Int} {l : List OrdV} (h : ∀ o ∈ l, (q ≤ o.price ↔ p ≤ o.price)) : dem p l = dem q l := by
 unfold dem
 congr 1
 apply List.map_congr_left
 intro o ho
 by_cases e : q ≤ o.price
 ·rw [if_pos e, if_pos ((h o ho).1 e)]
 ·rw [if_neg e, if_neg (fun c => e ((h o ho).2 c))]
theorem dem_none {q : Int} {l : List OrdV} (h : ∀ o ∈ l, ¬ q ≤ o.price) : dem q l = 0 := by
 induction l with
 | nil => rfl
 | cons o l ih =>
  have e : dem q (o :: l) = (if q ≤ o.price then o.left else 0) + dem q l := by simp [dem]
  rw [e, if_neg (h o (List.mem_cons_self ..)), ih (fun x hx => h x (List.mem_cons_of_mem _ hx))]
  rfl
theorem sup_mono {p q : Int} (hpq : q ≤ p) : ∀ {l : List OrdV}, OkT l → sup q l ≤ sup p l
 | [], _ => by simp [sup]
 | o :: l, h => by
  have ih := sup_mono hpq (l := l) (fun x hx => h x (List.mem_cons_of_mem _ hx));have ho := h o (List.mem_cons_self ..);have e : ∀ r, sup r (o :: l) = (if o.price ≤ r then o.left else 0) + sup r l := fun r => by simp [sup]
  rw [e, e]
  split <;> split <;> omega
theorem vol_listed {L : LaneV} (hb : OkT L.bids) (ha : OkT L.asks) (q : Int) : volP L q ≤ 0 ∨ ∃ p ∈ prL L.bids, volP L q ≤ volP L p := by
 by_cases h : ∃ x ∈ prL L.bids, q ≤ x
 ·obtain ⟨m, hm, hq, hmin⟩ := exists_min q _ h;refine .inr ⟨m, hm, ?_⟩;have e : dem m L.bids = dem q L.bids := dem_eq (fun o ho => ⟨fun hqo => hmin o.price (List.mem_map.2 ⟨o, ho, rfl⟩) hqo, fun hmo => Int.le_trans hq hmo⟩);have s := sup_mono hq ha;unfold volP;rw [e];omega
 ·refine .inl ?_;have e : dem q L.bids = 0 := dem_none (fun o ho hqo => h ⟨o.price, List.mem_map.2 ⟨o, ho, rfl⟩, hqo⟩);unfold volP;rw [e];omega
theorem rst_pos (L : LaneV) (p : Int) : 0 ≤ rstP L p := by unfold rstP; omega
theorem vol_pos {L : LaneV} (hb : OkT L.bids) (ha : OkT L.asks) (p : Int) : 0 ≤ volP L p := by
 have h1 := (dem_bd p L.bids hb).1;have h2 := (sup_bd p L.asks ha).1;unfold volP;omega
def ClI (st : Int × Int × Int) : Prop := (st.1 = 0 ∧ st.2.1 = 0 ∧ st.2.2 = 0) ∨ (0 < st.1 ∧ 0 < st.2.1)
theorem cl_fold (L : LaneV) (hv : ∀ p, 0 ≤ volP L p) : ∀ (ps : List Int) (st : Int × Int × Int), (∀ p ∈ ps, 1 ≤ p) → ClI st → ClI (ps.foldl (clS L) st) ∧ st.2.1 ≤ (ps.foldl (clS L) st).2.1 ∧ ∀ p ∈ ps, volP L p ≤ (ps.foldl (clS L) st).2.1
 | [], st, _, hi => ⟨hi, Int.le_refl _, fun p hp => by simp at hp⟩
 | p :: ps, st, hp, hi => by
  have h1 := hp p (List.mem_cons_self ..);have hs : ClI (clS L st p) ∧ st.2.1 ≤ (clS L st p).2.1 ∧ volP L p ≤ (clS L st p).2.1 := by
   have hv1 := hv p;have hr1 := rst_pos L p;unfold clS
   split
   ·rename_i hc
    refine ⟨.inr ⟨by show 0 < p; omega, ?_⟩, ?_, Int.le_refl _⟩
    ·show 0 < volP L p
     rcases hi with ⟨e1, e2, e3⟩ | ⟨e1, e2⟩ <;> rcases hc with hc | hc <;> omega
    ·show st.2.1 ≤ volP L p
     rcases hc with hc | hc <;> omega
   ·rename_i hc
    exact ⟨hi, Int.le_refl _, by rw [not_or] at hc; omega⟩
  obtain ⟨i1, i2, i3⟩ := cl_fold L hv ps (clS L st p) (fun x hx => hp x (List.mem_cons_of_mem _ hx)) hs.1;rw [List.foldl_cons];refine ⟨i1, Int.le_trans hs.2.1 i2, fun x hx => ?_⟩;rw [List.mem_cons] at hx
  rcases hx with rfl | hx
  ·exact Int.le_trans hs.2.2 i2
  ·exact i3 x hx
theorem most_all {L : LaneV} (hk : chkB L = true) (q : Int) : volP L q ≤ (clL L).2.1 ∧ ((0 < (clL L).2.1) ↔ 0 < (clL L).1) := by
 have hm := chk_may hk;have hv := fun p => vol_pos hm.tb hm.ta p
 have hps : ∀ p ∈ sortL (prL L.bids ++ prL L.asks), 1 ≤ p := by
  intro p hp;have := (sort_perm _).mem_iff.1 hp;rw [List.mem_append] at this;unfold prL at this;simp only [List.mem_map] at this
  rcases this with ⟨o, ho, rfl⟩ | ⟨o, ho, rfl⟩
  ·exact (hm.tb o ho).1.1
  ·exact (hm.ta o ho).1.1
 obtain ⟨i1, i2, i3⟩ := cl_fold L hv (sortL (prL L.bids ++ prL L.asks)) (0, 0, 0) hps (.inl ⟨rfl, rfl, rfl⟩);refine ⟨?_, ?_⟩
 ·rcases vol_listed hm.tb hm.ta q with h | ⟨p, hp, h⟩
  ·exact Int.le_trans h i2
  ·exact Int.le_trans h (i3 p ((sort_perm _).mem_iff.2 (List.mem_append_left _ hp)))
 ·show (0 < ((sortL (prL L.bids ++ prL L.asks)).foldl (clS L) (0, 0, 0)).2.1) ↔ _
  rcases i1 with ⟨e1, e2, e3⟩ | ⟨e1, e2⟩
  ·unfold clL;omega
  ·unfold clL;omega
end Go.Proofs.YtiinigifjdpicaaGreatDoor
namespace Go.Proofs.YtiinigifjdpicaaGreatDoor
open Go.RowKit Go.Maps
set_option linter.all false
theorem cl_law : WideMaps.KeyLaw Tryz.prog 212 := deep_law (m := 2) (by omega) (by kernel_rfl) (by kernel_rfl) (by kernel_rfl)
theorem cl_keyed : Keyed Tryz.prog 212 := Keyed.of_law cl_law
def clV (x a : Int) : Value := .agg #[.int .i64 x, .int .i64 a]
def clK (x a : Int) : Lit := .string (keyBytes [.int .i64 x, .int .i64 a])
theorem wf64 (x : Int) (h1 : -9223372036854775808 ≤ x) (h2 : x ≤ 9223372036854775807) : (Lit.int .i64 x).wf = true := by
 have e1 : IntKind.i64.min = -9223372036854775808 := by decide
 have e2 : IntKind.i64.max = 9223372036854775807 := by decide
 simp [Lit.wf, e1, e2]; omega
def Cl2 (x a : Int) : Prop := (1 ≤ x ∧ x ≤ 8) ∧ (0 ≤ a ∧ a ≤ 1)
theorem Cl2.wf {x a : Int} (h : Cl2 x a) : (Lit.int .i64 x).wf = true ∧ (Lit.int .i64 a).wf = true := by
 obtain ⟨h1, h2⟩ := h
 exact ⟨wf64 x (by omega) (by omega), wf64 a (by omega) (by omega)⟩
theorem cl_formed (x a : Int) : (clV x a).formed Tryz.prog 212 = true := by kernel_rfl
theorem cl_type : Tryz.prog.keyType 212 = true := by kernel_rfl
theorem u3 : Tryz.prog.underlying 3 = some (.int .i64) := by kernel_rfl
theorem c73 : Tryz.prog.cellsOf 212 = 2 := by kernel_rfl
theorem c3 : Tryz.prog.cellsOf 3 = 1 := by kernel_rfl
theorem big_types : Tryz.prog.types.size + 1 = (Tryz.prog.types.size - 1) + 1 + 1 := by kernel_rfl
set_option maxRecDepth 100000 in
theorem cl_key (x a : Int) (h : Cl2 x a) : keyOf Tryz.prog 212 (clV x a) = some (clK x a) := by
 obtain ⟨h1, h2⟩ := h.wf;have hf := cl_formed x a;unfold keyOf;rw [Tryz.underlying212];simp only [cl_type, hf, Bool.and_self, if_true];have e3 : ∀ d x, (Lit.int .i64 x).wf = true → Tryz.prog.keyLits (d + 1) 3 [.int .i64 x] = some [.int .i64 x] := by
  intro d x hx;unfold Program.keyLits;rw [u3]
  simp only
  rw [if_pos ⟨trivial, hx⟩]
 obtain ⟨d, hd⟩ : ∃ d, Tryz.prog.types.size + 1 = d + 1 + 1 := ⟨_, big_types⟩;rw [hd];have e : Tryz.prog.keyLits (d + 1 + 1) 212 (clV x a).cells.toList = some [.int .i64 x, .int .i64 a] := by
  have hc : (clV x a).cells.toList = [.int .i64 x, .int .i64 a] := rfl;rw [hc];unfold Program.keyLits;rw [Tryz.underlying212]
  simp only
  rw [c73, if_pos (show ([Value.int IntKind.i64 x, Value.int IntKind.i64 a] : List Value).length = 2 from rfl), show List.range 2 = [0, 1] from rfl];simp only [ List.mapM_cons, List.mapM_nil, c3, Nat.zero_mul, Nat.one_mul, List.drop_zero, List.drop_succ_cons, List.take_succ_cons, List.take_zero, e3 d _ h1, e3 d _ h2]
  rfl
 rw [e]
 rfl
theorem cl_inj {x a y b : Int} (h : Cl2 x a) (h' : Cl2 y b) (e : clK x a = clK y b) : x = y ∧ a = b := by
 unfold clK at e;simp only [Lit.string.injEq] at e;have := keyBytes_inj (l := [.int .i64 x, .int .i64 a]) (l' := [.int .i64 y, .int .i64 b]) ⟨rfl, rfl, trivial⟩ (by
  intro l hl;simp only [List.mem_cons, List.not_mem_nil, or_false] at hl
  rcases hl with rfl | rfl
  ·exact h.wf.1
  ·exact h.wf.2) (by
  intro l hl;simp only [List.mem_cons, List.not_mem_nil, or_false] at hl
  rcases hl with rfl | rfl
  ·exact h'.wf.1
  ·exact h'.wf.2) e
 simpa using this
def heldR (v : Value) : Option (DataW Value × List MemPlace) := some (.held v, [])
theorem ownsMap_block {w w' : World} {b n : Nat} {D : DataW Value} (h : w.ownsMap Tryz.prog 212 heldR b n D) (hb : w'.heap[b]? = w.heap[b]?) : w'.ownsMap Tryz.prog 212 heldR b n D := by
 obtain ⟨es, clock, hb', r⟩ := h
 exact ⟨es, clock, hb.trans hb', r⟩
theorem zero3 (w : World) : (zeroValue 3).run Tryz.prog w = .ok (.int .i64 0) w := by kernel_rfl
abbrev Cls := Int → Int → Option Int
def CM (w : World) (mb c : Nat) (f : Cls) : Prop := ∃ n D, n ≤ c ∧ w.ownsMap Tryz.prog 212 heldR mb n D ∧ (∀ x a, Cl2 x a → ∀ p, f x a = some p → ∀ z, D.atKey (clK x a) z = .held (.int .i64 p)) ∧ (∀ x a, Cl2 x a → f x a = none → ∀ z, D.atKey (clK x a) z = z) ∧ ∀ kl, has D kl = true → ∃ x a, Cl2 x a ∧ kl = clK x a
theorem CM.made (w : World) : CM (w.alloc (.map #[] 0)) w.heap.size 0 (fun _ _ => none) :=
 ⟨0, .map [], Nat.le_refl _, World.ownsMap_made w Tryz.prog 212 heldR, (fun x a _ p h => by cases h), (fun x a _ _ z => rfl), fun kl h => by cases h⟩
theorem CM.block {w w' : World} {mb c : Nat} {f : Cls} (h : CM w mb c f) (hb : w'.heap[mb]? = w.heap[mb]?) : CM w' mb c f := by
 obtain ⟨n, D, h1, h2, h3, h4, h5⟩ := h
 exact ⟨n, D, h1, ownsMap_block h2 hb, h3, h4, h5⟩
theorem CM.lt {w : World} {mb c : Nat} {f : Cls} (h : CM w mb c f) : mb < w.heap.size := by
 obtain ⟨n, D, h1, h2, h3, h4, h5⟩ := h;exact h2.lt
theorem CM.keep {w w' : World} {mb c : Nat} {f : Cls} (h : CM w mb c f) (hb : Below w.heap.size w w') : CM w' mb c f := h.block (hb.block mb h.lt)
theorem CM.look {w : World} {mb c : Nat} {f : Cls} (h : CM w mb c f) (x a : Int) (hx : Cl2 x a) : (Instr.lookup 183 (.map (some mb)) (clV x a) false).run Tryz.prog w = .ok (.int .i64 ((f x a).getD 0)) w := by
 obtain ⟨n, D, h1, h2, h3, h4, h5⟩ := h;obtain ⟨v, ps, hrun, hv⟩ := h2.lookup cl_keyed Tryz.underlying183 (zero3 w) (zd := .held (.int .i64 0)) (zp := []) rfl (key := clV x a) (kl := clK x a) (cl_key x a hx);cases hf : f x a with
 | none =>
  rw [h4 x a hx hf] at hv
  simp [heldR] at hv
  rw [hrun, hv.1]
  rfl
 | some p =>
  rw [h3 x a hx p hf] at hv
  simp [heldR] at hv
  rw [hrun, hv.1]
  rfl
def updC (f : Cls) (x a p : Int) : Cls := fun y b => if y = x ∧ b = a then some p else f y b
theorem CM.store {w : World} {mb c : Nat} {f : Cls} (h : CM w mb c f) (hc : c ≤ 1000000) (x a : Int) (hx : Cl2 x a) (p : Int) : ∃ w', (Instr.mapUpdate 183 (.map (some mb)) (clV x a) (.int .i64 p)).run Tryz.prog w = .ok () w' ∧ CM w' mb (c + 1) (updC f x a p) ∧ w.grownBy w' (some mb) := by
 obtain ⟨n, D, h1, h2, h3, h4, h5⟩ := h;obtain ⟨w', hrun, hown, hturn⟩ := h2.store cl_keyed Tryz.underlying183 (by unfold maxLen; omega) (val := .int .i64 p) (cl_key x a hx) (d := .held (.int .i64 p)) (ps := []) rfl
 have hne : ∀ y b : Int, Cl2 y b → ¬ (y = x ∧ b = a) → clK y b ≠ clK x a := fun y b hy hn e => hn (cl_inj hy hx e)
 refine ⟨w', hrun, ⟨n + 1, _, by omega, hown, fun y b hy q hq z => ?_, fun y b hy hq z => ?_, fun kl hkl => ?_⟩, hturn.grown⟩
 ·unfold updC at hq
  by_cases e : y = x ∧ b = a
  ·obtain ⟨rfl, rfl⟩ := e;rw [if_pos ⟨rfl, rfl⟩] at hq;cases hq;exact atKey_put_same h2.isMap (show WideAt.IsKeyLit (clK y b) from trivial) _ z
  ·rw [if_neg e] at hq;exact (atKey_put_other (hne y b hy e) _ z).trans (h3 y b hy q hq z)
 ·unfold updC at hq
  by_cases e : y = x ∧ b = a
  ·rw [if_pos e] at hq;cases hq
  ·rw [if_neg e] at hq;exact (atKey_put_other (hne y b hy e) _ z).trans (h4 y b hy hq z)
 ·by_cases e : kl = clK x a
  ·exact ⟨x, a, hx, e⟩
  ·rw [has_put_other e] at hkl;exact h5 kl hkl
end Go.Proofs.YtiinigifjdpicaaGreatDoor
namespace Go.Proofs.YtiinigifjdpicaaGreatDoor
open Go.RowKit Go.Maps
set_option linter.all false
def clsOf (l : List OweV) : Cls := l.foldl (fun f y => updC f y.acc y.asset y.n) (fun _ _ => none)
theorem cls_take {l : List OweV} {t : Nat} (h : t < l.length) : clsOf (l.take (t + 1)) = updC (clsOf (l.take t)) l[t].acc l[t].asset l[t].n := by
 unfold clsOf;rw [List.take_succ_eq_append_getElem h, List.foldl_append]
 rfl
set_option maxHeartbeats 8000000 in
set_option maxRecDepth 100000 in
theorem claimsOf_is (v : Value) (l : List OweV) (w : World) (h : Owes w v l) (hk : ∀ y ∈ l, Cl2 y.acc y.asset) (hl : l.length ≤ 1000) : Calls Tryz.prog 119 #[v] w fun e w' => e = .returned (.map (some w.heap.size)) ∧ CM w' w.heap.size l.length (clsOf l) ∧ Below w.heap.size w w' := by
 obtain ⟨a, c, rfl, h8, hr⟩ := h.owes;have HH := hideIt hr;have HK := hideIt (fun t (ht : t < l.length) => hk l[t] (List.getElem_mem ht));have HS := hideIt (fun t (ht : t < l.length) => cls_take ht);have HE : Hid (clsOf (l.take l.length) = clsOf l) := by show _ = _; rw [List.take_length]
 have HZ : Hid (clsOf (l.take 0) = fun _ _ => none) := rfl;generalize hfu : (fun t : Nat => clsOf (l.take t)) = F at *;have HT1 : Hid (∀ t, clsOf (l.take t) = F t) := fun t => congrFun hfu t
 simp only [HT1.out] at HS HE HZ;clear hfu HT1 hr h hk;generalize clsOf l = R at *;have M0 := hideIt (CM.made w);have B0 := hideIt (below1 w (.map #[] 0));have hmm := @run_makeMap Tryz.prog
 go_enter Tryz.func119, Tryz.ntmps119
 go_upto_region 3 with fail
 generalize w.alloc (.map #[] 0) = W0 at *
 go_loopw [9] (fun x wr => ∃ t : Nat, x = .int .i64 t ∧ t ≤ l.length ∧ Hid (CM wr w.heap.size t (F t) ∧ Below w.heap.size w wr)) (fun x _ => l.length - (intOf x).toNat)
 case atStart => exact ⟨0, rfl, Nat.zero_le _, hideIt ⟨by rw [HZ.out]; exact M0.out, B0.out⟩⟩
 case round =>
  clear M0 B0;obtain ⟨t, rfl, ht, HR⟩ := hrel
  by_cases hlt : t < l.length
  ·have hltI : (t : Int) < (l.length : Int) := by omega
   have ht0 : (0 : Int) ≤ (t : Int) := by omega
   have hw : IntKind.i64.wrap ((t : Int) + 1) = ((t + 1 : Nat) : Int) := by rw [IntKind.wrap_i64]; omega
   obtain ⟨b, off, rfl, hbl, q0, q1, q2⟩ := HH.out t hlt;have hblr : b < wr.heap.size := Nat.lt_of_lt_of_le hbl HR.out.2.size;have e0 := (HR.out.2.cell (p := ⟨b, off + t * 3, none⟩) hbl).trans q0;have e1 := (HR.out.2.cell (p := ⟨b, off + t * 3 + 1, none⟩) hbl).trans q1;have e2 := (HR.out.2.cell (p := ⟨b, off + t * 3 + 2, none⟩) hbl).trans q2;have hky := HK.out t hlt;have HST := hideIt (HS.out t hlt);clear q0 q1 q2 HH HK HS;generalize l[t] = y at *;obtain ⟨yc, ys, yn⟩ := y;dsimp only at e0 e1 e2 hky HST;have hb1 := below1 wr (.cells #[.int .i64 yc, .int .i64 ys, .int .i64 yn] 61);obtain ⟨w', hrun, hM, hgr⟩ := CM.store (HR.out.1.keep hb1) (by omega) yc ys hky yn;have Z : Hid (CM w' w.heap.size (t + 1) (F (t + 1)) ∧ Below w.heap.size w w') := by
    refine ⟨by rw [HST.out]; exact hM, ?_⟩
    exact below_out (below_via HR.out.2 hb1) (Out.ofGrown (F := fun k => k = w.heap.size) hgr (fun k e => by cases e; rfl)) (fun k e => by omega)
   unfold clV at hrun;clear hM hgr hb1 HR HST hky;go_wp2
   go_roundw
   case rel => exact ⟨t + 1, by go_num, by omega, Z⟩
   case measure => simp [intOf]; omega
  ·have hltI : ¬ (t : Int) < (l.length : Int) := by omega
   have het : t = l.length := by omega
   subst het;clear HH HK HS;go_wp2;go_ret
   exact ⟨rfl, by rw [← HE.out]; exact HR.out.1, HR.out.2⟩
end Go.Proofs.YtiinigifjdpicaaGreatDoor
