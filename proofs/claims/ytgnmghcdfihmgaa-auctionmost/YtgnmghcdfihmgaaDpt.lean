/- How much may trade at a price: the function that is made, walked. -/
import Derived.Test.YtgnmghcdfihmgaaRCo
import Derived.Test.YtgnmghcdfihmgaaHld
namespace Go.Proofs.Ytgnmghcdfihmgaa
open Go.RowKit
set_option linter.all false
set_option maxHeartbeats 400000 in
theorem may1_is (x y : Int) (w : World) : Calls Try.prog 46 #[.int .i64 x, .int .i64 y] w fun e w' => e = .returned (.bool (decide (y ≤ x))) ∧ w' = w := by
  go_enter Try.func46, Try.ntmps46
  go_wp2
  go_ret
  exact ⟨rfl, rfl⟩
set_option maxHeartbeats 400000 in
theorem may2_is (x y : Int) (w : World) : Calls Try.prog 47 #[.int .i64 x, .int .i64 y] w fun e w' => e = .returned (.bool (decide (x ≤ y))) ∧ w' = w := by
  go_enter Try.func47, Try.ntmps47
  go_wp2
  go_ret
  exact ⟨rfl, rfl⟩
/-- How much is left of those that may trade at a price. -/
def dem (p : Int) (l : List OrdV) : Int := (l.map (fun o => if p ≤ o.price then o.left else 0)).sum
def sup (p : Int) (l : List OrdV) : Int := (l.map (fun o => if o.price ≤ p then o.left else 0)).sum
theorem dem_take {p : Int} {l : List OrdV} {t : Nat} (h : t < l.length) : dem p (l.take (t + 1)) = dem p (l.take t) + (if p ≤ l[t].price then l[t].left else 0) := by
  unfold dem
  rw [List.take_succ_eq_append_getElem h, List.map_append, List.sum_append]
  simp
theorem sup_take {p : Int} {l : List OrdV} {t : Nat} (h : t < l.length) : sup p (l.take (t + 1)) = sup p (l.take t) + (if l[t].price ≤ p then l[t].left else 0) := by
  unfold sup
  rw [List.take_succ_eq_append_getElem h, List.map_append, List.sum_append]
  simp
theorem dem_bd (p : Int) : ∀ (l : List OrdV), OkT l → 0 ≤ dem p l ∧ dem p l ≤ l.length * 1000000
  | [], _ => by simp [dem]
  | o :: l, h => by
    have ih := dem_bd p l (fun q hq => h q (List.mem_cons_of_mem _ hq))
    have ho := h o (List.mem_cons_self ..)
    have e : dem p (o :: l) = (if p ≤ o.price then o.left else 0) + dem p l := by simp [dem]
    rw [e, List.length_cons]
    push_cast
    split <;> omega
theorem sup_bd (p : Int) : ∀ (l : List OrdV), OkT l → 0 ≤ sup p l ∧ sup p l ≤ l.length * 1000000
  | [], _ => by simp [sup]
  | o :: l, h => by
    have ih := sup_bd p l (fun q hq => h q (List.mem_cons_of_mem _ hq))
    have ho := h o (List.mem_cons_self ..)
    have e : sup p (o :: l) = (if o.price ≤ p then o.left else 0) + sup p l := by simp [sup]
    rw [e, List.length_cons]
    push_cast
    split <;> omega
/-- A function that was made, in memory. -/
structure Dep (w : World) (k K0 K1 : Nat) (v : Value) : Prop where
  c0 : w.heap[K0]? = some (.cells #[v] 22 (0, 0))
  c1 : w.heap[K1]? = some (.cells #[.func (Fn.func k) #[] #[]] 76 (0, 0))
theorem Dep.keep {w w' : World} {k K0 K1 : Nat} {v : Value} (h : Dep w k K0 K1 v) (hb : Below w.heap.size w w') : Dep w' k K0 K1 v :=
  ⟨(hb.block _ (Array.getElem?_eq_some_iff.1 h.c0).1).trans h.c0, (hb.block _ (Array.getElem?_eq_some_iff.1 h.c1).1).trans h.c1⟩
set_option maxHeartbeats 1000000 in
theorem depth1_is (a : Option Addr) (n c : Nat) (w : World) : Calls Try.prog 45 #[.slice a n c, .func (Fn.func 46) #[] #[]] w fun e w' => ∃ K0 K1, e = .returned (.func (Fn.func 70) #[] #[.pointer (some ⟨K0, 0, none⟩), .pointer (some ⟨K1, 0, none⟩)]) ∧ Dep w' 46 K0 K1 (.slice a n c) ∧ Below w.heap.size w w' := by
  have HT := hideIt (two_heap w (.cells #[.slice a n c] 22) (.cells #[.func (Fn.func 46) #[] #[]] 76))
  have HB := hideIt (below2 w (.cells #[.slice a n c] 22) (.cells #[.func (Fn.func 46) #[] #[]] 76))
  go_enter Try.func45, Try.ntmps45
  go_wp2
  go_ret
  exact ⟨_, _, rfl, ⟨HT.out.1, HT.out.2.1⟩, HB.out⟩
set_option maxHeartbeats 1000000 in
theorem depth2_is (a : Option Addr) (n c : Nat) (w : World) : Calls Try.prog 45 #[.slice a n c, .func (Fn.func 47) #[] #[]] w fun e w' => ∃ K0 K1, e = .returned (.func (Fn.func 70) #[] #[.pointer (some ⟨K0, 0, none⟩), .pointer (some ⟨K1, 0, none⟩)]) ∧ Dep w' 47 K0 K1 (.slice a n c) ∧ Below w.heap.size w w' := by
  have HT := hideIt (two_heap w (.cells #[.slice a n c] 22) (.cells #[.func (Fn.func 47) #[] #[]] 76))
  have HB := hideIt (below2 w (.cells #[.slice a n c] 22) (.cells #[.func (Fn.func 47) #[] #[]] 76))
  go_enter Try.func45, Try.ntmps45
  go_wp2
  go_ret
  exact ⟨_, _, rfl, ⟨HT.out.1, HT.out.2.1⟩, HB.out⟩
theorem one_at {w : World} {p : Nat} {t : TypeId} {a : Value} (h : w.heap[p]? = some (.cells #[a] t (0, 0))) : w.cell? ⟨p, 0, none⟩ = some a ∧ p < w.heap.size :=
  ⟨by rw [cell_at h]; rfl, (Array.getElem?_eq_some_iff.1 h).1⟩
theorem four_at4 {w : World} {p : Nat} {t : TypeId} {a b c d : Value} (h : w.heap[p]? = some (.cells #[a, b, c, d] t (0, 0))) : (w.cell? ⟨p, 0, none⟩ = some a ∧ w.cell? ⟨p, 1, none⟩ = some b ∧ w.cell? ⟨p, 2, none⟩ = some c ∧ w.cell? ⟨p, 3, none⟩ = some d) ∧ (∀ j, w.frozen? ⟨p, j, none⟩ = false) ∧ p < w.heap.size :=
  ⟨⟨by rw [cell_at h]; rfl, by rw [cell_at h]; rfl, by rw [cell_at h]; rfl, by rw [cell_at h]; rfl⟩, fun j => free_at h j, (Array.getElem?_eq_some_iff.1 h).1⟩
set_option maxHeartbeats 8000000 in
set_option maxRecDepth 100000 in
theorem demand_is (p : Int) (K0 K1 : Nat) (v : Value) (l : List OrdV) (w : World) (hd : Dep w 46 K0 K1 v) (h : Ords w v l) (hl : l.length ≤ 40) (hT : OkT l) : Calls Try.prog 70 #[.int .i64 p, .pointer (some ⟨K0, 0, none⟩), .pointer (some ⟨K1, 0, none⟩)] w fun e w' => e = .returned (.int .i64 (dem p l)) ∧ Below w.heap.size w w' := by
  obtain ⟨a, c, rfl, h8, hr⟩ := h.ords
  have HH := hideIt hr
  have HM := hideIt (fun x y W => may1_is x y W)
  have HS := hideIt (fun t (ht : t < l.length) => dem_take (p := p) ht)
  have HB := hideIt (fun t => dem_bd p (l.take t) (okT_take hT t))
  have HZ : Hid (dem p (l.take 0) = 0) := by show _ = _; simp [dem]
  have HE : Hid (dem p (l.take l.length) = dem p l) := by show _ = _; rw [List.take_length]
  generalize hfu : (fun t : Nat => dem p (l.take t)) = F at *
  have HT1 : Hid (∀ t, dem p (l.take t) = F t) := fun t => congrFun hfu t
  simp only [HT1.out] at HS HB HZ HE
  clear hfu HT1 hr h hT
  generalize dem p l = R at *
  have HD := hideIt hd
  obtain ⟨a0, z0⟩ := one_at hd.c0
  clear hd
  go_enter Try.func70, Try.ntmps70
  go_upto_region 3 with fail
  clear a0 z0
  go_loopw [5, 10] (fun u x wr => ∃ t : Nat, u = .int .i64 (F t) ∧ x = .int .i64 t ∧ t ≤ l.length ∧ Hid (Below w.heap.size w wr)) (fun _ x _ => l.length - (intOf x).toNat)
  case atStart => exact ⟨0, by rw [HZ.out], rfl, Nat.zero_le _, hideIt (Below.refl _ _)⟩
  case round =>
    obtain ⟨t, rfl, rfl, ht, HR⟩ := hrel
    by_cases hlt : t < l.length
    · have hltI : (t : Int) < (l.length : Int) := by omega
      have ht0 : (0 : Int) ≤ (t : Int) := by omega
      have hw : IntKind.i64.wrap ((t : Int) + 1) = ((t + 1 : Nat) : Int) := by rw [IntKind.wrap_i64]; omega
      obtain ⟨b, off, rfl, hbl, q0, q1, q2, q3⟩ := HH.out t hlt
      have hblr : b < wr.heap.size := Nat.lt_of_lt_of_le hbl HR.out.size
      have e0 := (HR.out.cell (p := ⟨b, off + t * 4, none⟩) hbl).trans q0
      have e1 := (HR.out.cell (p := ⟨b, off + t * 4 + 1, none⟩) hbl).trans q1
      have e2 := (HR.out.cell (p := ⟨b, off + t * 4 + 2, none⟩) hbl).trans q2
      have e3 := (HR.out.cell (p := ⟨b, off + t * 4 + 3, none⟩) hbl).trans q3
      have hs := HS.out t hlt
      have hb0 := HB.out t
      have hb1 := HB.out (t + 1)
      have ht40 : (l.take (t + 1)).length ≤ 40 := by rw [List.length_take]; omega
      have ht41 : (l.take t).length ≤ 40 := by rw [List.length_take]; omega
      clear q0 q1 q2 q3 HH HS HB
      generalize l[t] = y at *
      obtain ⟨yi, ya, yp, yl⟩ := y
      dsimp only at e0 e1 e2 e3 hs
      have HD1 := hideIt (HD.out.keep HR.out)
      have hb2 := below1 wr (.cells #[.int .i64 yi, .int .i64 ya, .int .i64 yp, .int .i64 yl] 38)
      have HR2 := hideIt (below_via HR.out hb2)
      have HD2 := hideIt (HD1.out.keep hb2)
      have HO := hideIt (heap_alloc_new wr (.cells #[.int .i64 yi, .int .i64 ya, .int .i64 yp, .int .i64 yl] 38))
      clear hb2 HR HD1
      go_upto_region 5 with fail
      generalize wr.alloc (.cells #[.int .i64 yi, .int .i64 ya, .int .i64 yp, .int .i64 yl] 38) = W2 at *
      generalize wr.heap.size = KO at *
      clear e0 e1 e2 e3 hblr
      obtain ⟨a1, z1⟩ := one_at HD2.out.c1
      obtain ⟨⟨o0, o1, o2, o3⟩, -, oz⟩ := four_at4 HO.out
      go_wp2_with fail
      refine (HM.out _ _ _).mono ?_
      rintro e wq ⟨rfl, hwq⟩
      replace hwq := hwq.symm
      subst hwq
      dsimp only
      by_cases hp : p ≤ yp
      · rw [if_pos hp] at hs
        have hwA : IntKind.i64.wrap (F t + yl) = F (t + 1) := by rw [hs, IntKind.wrap_i64]; omega
        have hpd : decide (p ≤ yp) = true := decide_eq_true hp
        clear hs hb0 hb1 HD2
        go_wp2
        go_roundw
        case rel => exact ⟨t + 1, rfl, by go_num, by omega, HR2⟩
        case measure => simp [intOf]; omega
      · rw [if_neg hp, Int.add_zero] at hs
        have HSH := hideIt hs
        have hpd : decide (p ≤ yp) = false := decide_eq_false hp
        clear hs hb0 hb1 HD2
        go_wp2
        go_roundw
        case rel => exact ⟨t + 1, by rw [HSH.out], by go_num, by omega, HR2⟩
        case measure => simp [intOf]; omega
    · have hltI : ¬ (t : Int) < (l.length : Int) := by omega
      have het : t = l.length := by omega
      subst het
      clear HH HS HB
      go_wp2
      go_ret
      exact ⟨by rw [HE.out]; rfl, HR.out⟩
set_option maxHeartbeats 8000000 in
set_option maxRecDepth 100000 in
theorem supply_is (p : Int) (K0 K1 : Nat) (v : Value) (l : List OrdV) (w : World) (hd : Dep w 47 K0 K1 v) (h : Ords w v l) (hl : l.length ≤ 40) (hT : OkT l) : Calls Try.prog 70 #[.int .i64 p, .pointer (some ⟨K0, 0, none⟩), .pointer (some ⟨K1, 0, none⟩)] w fun e w' => e = .returned (.int .i64 (sup p l)) ∧ Below w.heap.size w w' := by
  obtain ⟨a, c, rfl, h8, hr⟩ := h.ords
  have HH := hideIt hr
  have HM := hideIt (fun x y W => may2_is x y W)
  have HS := hideIt (fun t (ht : t < l.length) => sup_take (p := p) ht)
  have HB := hideIt (fun t => sup_bd p (l.take t) (okT_take hT t))
  have HZ : Hid (sup p (l.take 0) = 0) := by show _ = _; simp [sup]
  have HE : Hid (sup p (l.take l.length) = sup p l) := by show _ = _; rw [List.take_length]
  generalize hfu : (fun t : Nat => sup p (l.take t)) = F at *
  have HT1 : Hid (∀ t, sup p (l.take t) = F t) := fun t => congrFun hfu t
  simp only [HT1.out] at HS HB HZ HE
  clear hfu HT1 hr h hT
  generalize sup p l = R at *
  have HD := hideIt hd
  obtain ⟨a0, z0⟩ := one_at hd.c0
  clear hd
  go_enter Try.func70, Try.ntmps70
  go_upto_region 3 with fail
  clear a0 z0
  go_loopw [5, 10] (fun u x wr => ∃ t : Nat, u = .int .i64 (F t) ∧ x = .int .i64 t ∧ t ≤ l.length ∧ Hid (Below w.heap.size w wr)) (fun _ x _ => l.length - (intOf x).toNat)
  case atStart => exact ⟨0, by rw [HZ.out], rfl, Nat.zero_le _, hideIt (Below.refl _ _)⟩
  case round =>
    obtain ⟨t, rfl, rfl, ht, HR⟩ := hrel
    by_cases hlt : t < l.length
    · have hltI : (t : Int) < (l.length : Int) := by omega
      have ht0 : (0 : Int) ≤ (t : Int) := by omega
      have hw : IntKind.i64.wrap ((t : Int) + 1) = ((t + 1 : Nat) : Int) := by rw [IntKind.wrap_i64]; omega
      obtain ⟨b, off, rfl, hbl, q0, q1, q2, q3⟩ := HH.out t hlt
      have hblr : b < wr.heap.size := Nat.lt_of_lt_of_le hbl HR.out.size
      have e0 := (HR.out.cell (p := ⟨b, off + t * 4, none⟩) hbl).trans q0
      have e1 := (HR.out.cell (p := ⟨b, off + t * 4 + 1, none⟩) hbl).trans q1
      have e2 := (HR.out.cell (p := ⟨b, off + t * 4 + 2, none⟩) hbl).trans q2
      have e3 := (HR.out.cell (p := ⟨b, off + t * 4 + 3, none⟩) hbl).trans q3
      have hs := HS.out t hlt
      have hb0 := HB.out t
      have hb1 := HB.out (t + 1)
      have ht40 : (l.take (t + 1)).length ≤ 40 := by rw [List.length_take]; omega
      have ht41 : (l.take t).length ≤ 40 := by rw [List.length_take]; omega
      clear q0 q1 q2 q3 HH HS HB
      generalize l[t] = y at *
      obtain ⟨yi, ya, yp, yl⟩ := y
      dsimp only at e0 e1 e2 e3 hs
      have HD1 := hideIt (HD.out.keep HR.out)
      have hb2 := below1 wr (.cells #[.int .i64 yi, .int .i64 ya, .int .i64 yp, .int .i64 yl] 38)
      have HR2 := hideIt (below_via HR.out hb2)
      have HD2 := hideIt (HD1.out.keep hb2)
      have HO := hideIt (heap_alloc_new wr (.cells #[.int .i64 yi, .int .i64 ya, .int .i64 yp, .int .i64 yl] 38))
      clear hb2 HR HD1
      go_upto_region 5 with fail
      generalize wr.alloc (.cells #[.int .i64 yi, .int .i64 ya, .int .i64 yp, .int .i64 yl] 38) = W2 at *
      generalize wr.heap.size = KO at *
      clear e0 e1 e2 e3 hblr
      obtain ⟨a1, z1⟩ := one_at HD2.out.c1
      obtain ⟨⟨o0, o1, o2, o3⟩, -, oz⟩ := four_at4 HO.out
      go_wp2_with fail
      refine (HM.out _ _ _).mono ?_
      rintro e wq ⟨rfl, hwq⟩
      replace hwq := hwq.symm
      subst hwq
      dsimp only
      by_cases hp : yp ≤ p
      · rw [if_pos hp] at hs
        have hwA : IntKind.i64.wrap (F t + yl) = F (t + 1) := by rw [hs, IntKind.wrap_i64]; omega
        have hpd : decide (yp ≤ p) = true := decide_eq_true hp
        clear hs hb0 hb1 HD2
        go_wp2
        go_roundw
        case rel => exact ⟨t + 1, rfl, by go_num, by omega, HR2⟩
        case measure => simp [intOf]; omega
      · rw [if_neg hp, Int.add_zero] at hs
        have HSH := hideIt hs
        have hpd : decide (yp ≤ p) = false := decide_eq_false hp
        clear hs hb0 hb1 HD2
        go_wp2
        go_roundw
        case rel => exact ⟨t + 1, by rw [HSH.out], by go_num, by omega, HR2⟩
        case measure => simp [intOf]; omega
    · have hltI : ¬ (t : Int) < (l.length : Int) := by omega
      have het : t = l.length := by omega
      subst het
      clear HH HS HB
      go_wp2
      go_ret
      exact ⟨by rw [HE.out]; rfl, HR.out⟩
end Go.Proofs.Ytgnmghcdfihmgaa
