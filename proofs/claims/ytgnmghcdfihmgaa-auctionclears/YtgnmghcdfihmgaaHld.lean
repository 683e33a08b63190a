/- Holds, walked. -/
import Derived.Test.YtgnmghcdfihmgaaHdP
import Derived.Test.YtgnmghcdfihmgaaCan
namespace Go.Proofs.Ytgnmghcdfihmgaa
open Go.RowKit
set_option linter.all false
/-- A book in its box, and two sums. -/
structure HS (w : World) (K : Nat) (L : LaneV) (b a o : Value) (m g : Int) (W : World) : Prop where
  box : W.heap[w.heap.size]? = some (.cells #[.bool L.call, .int .i64 L.next, b, a, o] 25 (0, 0))
  sm : W.heap[K]? = some (.cells #[.int .i64 m, .int .i64 g] 62 (0, 0))
  bel : Below w.heap.size w W
  lK : w.heap.size < K
theorem HS.keep {w : World} {K : Nat} {L : LaneV} {b a o : Value} {m g : Int} {W W' : World} (h : HS w K L b a o m g W) (hb : Below W.heap.size W W') : HS w K L b a o m g W' :=
  ⟨(hb.block _ (Array.getElem?_eq_some_iff.1 h.box).1).trans h.box, (hb.block _ (Array.getElem?_eq_some_iff.1 h.sm).1).trans h.sm, below_via h.bel hb, h.lK⟩
theorem HS.m {w : World} {K : Nat} {L : LaneV} {b a o : Value} {m g : Int} {W : World} (h : HS w K L b a o m g W) (x : Int) : HS w K L b a o x g (W.setCell ⟨K, 0, none⟩ (.int .i64 x)) :=
  ⟨setOther _ h.box (by have := h.lK; omega), heap_set h.sm 0 _, belowSet _ h.bel (by have := h.lK; omega), h.lK⟩
theorem HS.g {w : World} {K : Nat} {L : LaneV} {b a o : Value} {m g : Int} {W : World} (h : HS w K L b a o m g W) (x : Int) : HS w K L b a o m x (W.setCell ⟨K, 1, none⟩ (.int .i64 x)) :=
  ⟨setOther _ h.box (by have := h.lK; omega), heap_set h.sm 1 _, belowSet _ h.bel (by have := h.lK; omega), h.lK⟩
theorem two_at {w : World} {p : Nat} {t : TypeId} {a b : Value} (h : w.heap[p]? = some (.cells #[a, b] t (0, 0))) : w.cell? ⟨p, 0, none⟩ = some a ∧ w.cell? ⟨p, 1, none⟩ = some b ∧ (∀ j, w.frozen? ⟨p, j, none⟩ = false) ∧ p < w.heap.size :=
  ⟨by rw [cell_at h]; rfl, by rw [cell_at h]; rfl, fun j => free_at h j, (Array.getElem?_eq_some_iff.1 h).1⟩
theorem sumP_take {l : List OrdV} {t : Nat} (h : t < l.length) : sumP (l.take (t + 1)) = sumP (l.take t) + l[t].price * l[t].left := by
  unfold sumP
  rw [List.take_succ_eq_append_getElem h, List.map_append, List.sum_append]
  simp
theorem sumQ_take {l : List OrdV} {t : Nat} (h : t < l.length) : sumQ (l.take (t + 1)) = sumQ (l.take t) + l[t].left := by
  unfold sumQ
  rw [List.take_succ_eq_append_getElem h, List.map_append, List.sum_append]
  simp
theorem sumA_take {a : Int} {l : List OweV} {t : Nat} (h : t < l.length) : sumA a (l.take (t + 1)) = sumA a (l.take t) + (if l[t].asset = a then l[t].n else 0) := by
  unfold sumA
  rw [List.take_succ_eq_append_getElem h, List.map_append, List.sum_append]
  simp
theorem mul_bd {p n : Int} (hp : 1 ≤ p ∧ p ≤ 1000000) (hn : 1 ≤ n ∧ n ≤ 1000000) : 0 ≤ p * n ∧ p * n ≤ 1000000000000 :=
  ⟨Int.mul_nonneg (by omega) (by omega), by have := Int.mul_le_mul hp.2 hn.2 (by omega) (by omega : (0 : Int) ≤ 1000000); omega⟩
theorem sumP_bd : ∀ (l : List OrdV), OkT l → 0 ≤ sumP l ∧ sumP l ≤ l.length * 1000000000000
  | [], _ => by simp [sumP]
  | o :: l, h => by
    have ih := sumP_bd l (fun q hq => h q (List.mem_cons_of_mem _ hq))
    have ho := h o (by simp)
    have := mul_bd ho.1 ho.2
    simp only [sumP, List.map_cons, List.sum_cons, List.length_cons] at ih ⊢
    omega
theorem sumQ_bd : ∀ (l : List OrdV), OkT l → 0 ≤ sumQ l ∧ sumQ l ≤ l.length * 1000000
  | [], _ => by simp [sumQ]
  | o :: l, h => by
    have ih := sumQ_bd l (fun q hq => h q (List.mem_cons_of_mem _ hq))
    have ho := h o (by simp)
    simp only [sumQ, List.map_cons, List.sum_cons, List.length_cons] at ih ⊢
    omega
theorem sumA_bd (a : Int) : ∀ (l : List OweV), (∀ y ∈ l, 0 ≤ y.n ∧ y.n ≤ 9007199254740992) → 0 ≤ sumA a l ∧ sumA a l ≤ l.length * 9007199254740992
  | [], _ => by simp [sumA]
  | y :: l, h => by
    have ih := sumA_bd a l (fun q hq => h q (List.mem_cons_of_mem _ hq))
    have hy := h y (by simp)
    simp only [sumA, List.map_cons, List.sum_cons, List.length_cons] at ih ⊢
    split <;> omega
theorem okT_take {l : List OrdV} (h : OkT l) (t : Nat) : OkT (l.take t) := fun q hq => h q (List.mem_of_mem_take hq)
theorem sumP_b40 {l : List OrdV} (h : OkT l) (hl : l.length ≤ 40) (t : Nat) : 0 ≤ sumP (l.take t) ∧ sumP (l.take t) ≤ 40000000000000 := by
  have := sumP_bd _ (okT_take h t)
  have h2 : (l.take t).length ≤ 40 := by rw [List.length_take]; omega
  omega
theorem sumQ_b40 {l : List OrdV} (h : OkT l) (hl : l.length ≤ 40) (t : Nat) : 0 ≤ sumQ (l.take t) ∧ sumQ (l.take t) ≤ 40000000 := by
  have := sumQ_bd _ (okT_take h t)
  have h2 : (l.take t).length ≤ 40 := by rw [List.length_take]; omega
  omega
theorem sumA_b16 {a : Int} {l : List OweV} (h : OkO 0 l) (t : Nat) : 0 ≤ sumA a (l.take t) ∧ sumA a (l.take t) ≤ 144115188075855872 := by
  have := sumA_bd a (l.take t) (fun y hy => by have := h.2 y (List.mem_of_mem_take hy); omega)
  have h2 : (l.take t).length ≤ 16 := by rw [List.length_take]; have := h.1; omega
  omega
def holR (L : LaneV) : Int × Int × Int := if chkB L = true then (holM L, holG L, 0) else (0, 0, 130)
set_option maxHeartbeats 8000000 in
set_option maxRecDepth 100000 in
theorem holds_is (L : LaneV) (b a o : Value) (w : World) (h : Lan w L b a o) : Calls Try.prog 14 #[laneV L b a o] w fun e w' => e = .returned (.tuple #[.int .i64 (holR L).1, .int .i64 (holR L).2.1, .int .i64 (holR L).2.2]) ∧ Below w.heap.size w w' := by
  have HB0 := hideIt (below1 w (.cells (laneA L b a o) 25))
  have HX0 := hideIt (heap_alloc_new w (.cells (laneA L b a o) 25))
  have HC := hideIt (check_is L b a o _ (h.keep HB0.out))
  have HBS := hideIt (fun W => bothSides_is W)
  have HP1 := hideIt (fun W => sideOf_is w.heap.size 1 W)
  have HP2 := hideIt (fun W => sideOf_is w.heap.size 2 W)
  rw [show sideOff 1 = 2 from rfl] at HP1
  rw [show sideOff 2 = 3 from rfl] at HP2
  obtain ⟨ba, bc, rfl, b8, hb⟩ := h.bids.ords
  obtain ⟨aa, ac, rfl, a8, ha⟩ := h.asks.ords
  obtain ⟨oa, oc, rfl, o8, ho⟩ := h.owed.owes
  have HB := hideIt hb
  have HA := hideIt ha
  have HW := hideIt ho
  have hix0 := idx0
  have hix1 := idx1
  clear h hb ha ho
  unfold laneV holR
  unfold laneA at *
  cases hk : chkB L
  · rw [show chkI L = 130 by unfold chkI; rw [hk]; rfl] at HC
    obtain ⟨cl, nx, bids, asks, owed⟩ := L
    simp only [Bool.false_eq_true, if_false] at *
    clear hk
    go_enter Try.func14, Try.ntmps14
    go_wp2_with fail
    refine HC.out.mono ?_
    rintro e w1 ⟨rfl, hb⟩
    dsimp only
    have HB1 := hideIt (below_via HB0.out hb)
    clear hb
    go_wp2
    go_ret3
    exact ⟨rfl, HB1.out⟩
  · have hm := chk_may hk
    rw [show chkI L = 0 by unfold chkI; rw [hk]; rfl] at HC
    have HTB := hideIt hm.tb
    have HTA := hideIt hm.ta
    have HLP := hideIt (fun t => sumP_b40 hm.tb hm.lb t)
    have HLQ := hideIt (fun t => sumQ_b40 hm.ta hm.la t)
    have HLA := hideIt (fun (a : Int) t => sumA_b16 (a := a) hm.ow t)
    have HOY : Hid (∀ y ∈ L.owed, (0 ≤ y.asset ∧ y.asset ≤ 1) ∧ (0 ≤ y.n ∧ y.n ≤ 9007199254740992)) := fun y hy => by
      have h1 := (owed_owok ((chk_bok L).1 hk).ow).2 y hy
      have h2 := hm.ow.2 y hy
      omega
    simp only [if_true]
    unfold holM holG
    obtain ⟨cl, nx, bids, asks, owed⟩ := L
    simp only at *
    clear hk hm
    go_enter Try.func14, Try.ntmps14
    go_wp2_with fail
    refine HC.out.mono ?_
    rintro e w1 ⟨rfl, hb⟩
    dsimp only
    have HB1 := hideIt (below_via HB0.out hb)
    have HX1 := hideIt ((hb.block _ (by simp)).trans HX0.out)
    clear hb HC HB0 HX0
    have hb2 := below1 w1 (.cells #[.int .i64 0, .int .i64 0] 62)
    have H2 : Hid (HS w w1.heap.size ⟨cl, nx, bids, asks, owed⟩ (.slice ba bids.length bc) (.slice aa asks.length ac) (.slice oa owed.length oc) 0 0 (w1.alloc (.cells #[.int .i64 0, .int .i64 0] 62))) := ⟨(hb2.block _ (Array.getElem?_eq_some_iff.1 HX1.out).1).trans HX1.out, heap_alloc_new w1 _, below_via HB1.out hb2, (Array.getElem?_eq_some_iff.1 HX1.out).1⟩
    clear hb2 HB1 HX1
    go_upto_region 5 with fail
    generalize w1.alloc (.cells #[.int .i64 0, .int .i64 0] 62) = W2 at *
    generalize w1.heap.size = K at *
    go_wp2_with fail
    refine (HBS.out _).mono ?_
    rintro e w3 ⟨rfl, hb⟩
    dsimp only
    have H3 := hideIt (H2.out.keep hb)
    clear hb H2 HBS
    go_upto_region 6 with fail
    go_loopw [21] (fun v wr => ∃ k : Int, v = .int .i64 k ∧ (k = 0 ∨ k = 1 ∨ k = 2) ∧ Hid (HS w K ⟨cl, nx, bids, asks, owed⟩ (.slice ba bids.length bc) (.slice aa asks.length ac) (.slice oa owed.length oc) (if k = 0 then 0 else sumP bids) (if k = 2 then sumQ asks else 0) wr)) (fun v _ => 2 - (intOf v).toNat)
    case atStart => exact ⟨0, rfl, .inl rfl, H3⟩
    case round =>
      clear H3
      obtain ⟨k, rfl, hk2, HR⟩ := hrel
      rcases hk2 with rfl | rfl | rfl
      · simp only [show ¬ (0 : Int) = 2 by omega, if_true, if_false] at HR
        obtain ⟨⟨c0, c1, c2, c3, c4⟩, -, cl⟩ := five5_at HR.out.box
        obtain ⟨k0, k1, kf, kl⟩ := two_at HR.out.sm
        go_wp2_with fail
        refine (HP1.out _).mono ?_
        rintro e wr ⟨rfl, rfl⟩
        dsimp only
        go_wp2
        clear c0 c1 c2 c3 c4 cl k0 k1 kf kl
        go_loopw [29] (fun v wx => ∃ t : Nat, v = .int .i64 t ∧ t ≤ bids.length ∧ Hid (HS w K ⟨cl, nx, bids, asks, owed⟩ (.slice ba bids.length bc) (.slice aa asks.length ac) (.slice oa owed.length oc) (sumP (bids.take t)) (0) wx)) (fun v _ => bids.length - (intOf v).toNat)
        case atStart => exact ⟨0, rfl, Nat.zero_le _, hideIt (by simpa [sumP, sumQ] using HR.out)⟩
        case round =>
          clear HR
          obtain ⟨t, rfl, ht, HR⟩ := hrel
          by_cases hlt : t < bids.length
          · have hltI : (t : Int) < (bids.length : Int) := by omega
            have ht0 : (0 : Int) ≤ (t : Int) := by omega
            have hw2 : IntKind.i64.wrap ((t : Int) + 1) = ((t + 1 : Nat) : Int) := by rw [IntKind.wrap_i64]; omega
            obtain ⟨b, off, rfl, hbl, q0, q1, q2, q3⟩ := HB.out t hlt
            have hBw := HR.out.bel
            have hblr : b < wr.heap.size := Nat.lt_of_lt_of_le hbl hBw.size
            have d0 := (hBw.cell (p := ⟨b, off + t * 4, none⟩) hbl).trans q0
            have d1 := (hBw.cell (p := ⟨b, off + t * 4 + 1, none⟩) hbl).trans q1
            have d2 := (hBw.cell (p := ⟨b, off + t * 4 + 2, none⟩) hbl).trans q2
            have d3 := (hBw.cell (p := ⟨b, off + t * 4 + 3, none⟩) hbl).trans q3
            clear q0 q1 q2 q3 hBw
            have hok := HTB.out _ (List.getElem_mem hlt)
            have hmb := mul_bd hok.1 hok.2
            have HST := hideIt (sumP_take hlt)
            have hS0 := HLP.out t
            have HBR := hideIt (fun W => brings_is 1 bids[t] W (by omega))
            unfold brA brN ordE at HBR
            generalize bids[t] = en at *
            obtain ⟨ei, ea, ep, el⟩ := en
            simp only [show ¬ (2 : Int) = 1 by omega, if_true, if_false] at d0 d1 d2 d3 HST HBR hmb hok
            have hb1 := below1 wr (.cells #[.int .i64 ei, .int .i64 ea, .int .i64 ep, .int .i64 el] 38)
            have H1 := hideIt (HR.out.keep hb1)
            clear hb1 HR
            go_wp2_with fail
            refine (HBR.out _).mono ?_
            rintro e w3 ⟨rfl, hb⟩
            dsimp only
            have H3 := hideIt (H1.out.keep hb)
            clear hb H1 HBR d0 d1 d2 d3 hblr
            obtain ⟨⟨c0, c1, c2, c3, c4⟩, -, cl⟩ := five5_at H3.out.box
            obtain ⟨k0, k1, kf, kl⟩ := two_at H3.out.sm
            clear c0 c1 c2 c3 c4 cl
            have hws : IntKind.i64.wrap (sumP (bids.take t) + ep * el) = sumP (bids.take (t + 1)) := by rw [HST.out, IntKind.wrap_i64]; omega
            have H4 := hideIt (H3.out.m (sumP (bids.take (t + 1))))
            clear H3 HST hS0 hmb hok
            go_wp2
            go_roundw
            case rel => exact ⟨t + 1, by go_num, by omega, H4⟩
            case measure => simp [intOf]; omega
          · have hltI : ¬ (t : Int) < (bids.length : Int) := by omega
            have het : bids.take t = bids := List.take_of_length_le (by omega)
            rw [het] at HR
            clear het
            go_wp2
            go_roundw
            case rel => exact ⟨1, by go_num, by omega, HR⟩
            case measure => simp [intOf]
      · simp only [show ¬ (1 : Int) = 0 by omega, show ¬ (1 : Int) = 2 by omega, if_false] at HR
        obtain ⟨⟨c0, c1, c2, c3, c4⟩, -, cl⟩ := five5_at HR.out.box
        obtain ⟨k0, k1, kf, kl⟩ := two_at HR.out.sm
        go_wp2_with fail
        refine (HP2.out _).mono ?_
        rintro e wr ⟨rfl, rfl⟩
        dsimp only
        go_wp2
        clear c0 c1 c2 c3 c4 cl k0 k1 kf kl
        go_loopw [29] (fun v wx => ∃ t : Nat, v = .int .i64 t ∧ t ≤ asks.length ∧ Hid (HS w K ⟨cl, nx, bids, asks, owed⟩ (.slice ba bids.length bc) (.slice aa asks.length ac) (.slice oa owed.length oc) (sumP bids) (sumQ (asks.take t)) wx)) (fun v _ => asks.length - (intOf v).toNat)
        case atStart => exact ⟨0, rfl, Nat.zero_le _, hideIt (by simpa [sumP, sumQ] using HR.out)⟩
        case round =>
          clear HR
          obtain ⟨t, rfl, ht, HR⟩ := hrel
          by_cases hlt : t < asks.length
          · have hltI : (t : Int) < (asks.length : Int) := by omega
            have ht0 : (0 : Int) ≤ (t : Int) := by omega
            have hw2 : IntKind.i64.wrap ((t : Int) + 1) = ((t + 1 : Nat) : Int) := by rw [IntKind.wrap_i64]; omega
            obtain ⟨b, off, rfl, hbl, q0, q1, q2, q3⟩ := HA.out t hlt
            have hBw := HR.out.bel
            have hblr : b < wr.heap.size := Nat.lt_of_lt_of_le hbl hBw.size
            have d0 := (hBw.cell (p := ⟨b, off + t * 4, none⟩) hbl).trans q0
            have d1 := (hBw.cell (p := ⟨b, off + t * 4 + 1, none⟩) hbl).trans q1
            have d2 := (hBw.cell (p := ⟨b, off + t * 4 + 2, none⟩) hbl).trans q2
            have d3 := (hBw.cell (p := ⟨b, off + t * 4 + 3, none⟩) hbl).trans q3
            clear q0 q1 q2 q3 hBw
            have hok := HTA.out _ (List.getElem_mem hlt)
            have hmb := mul_bd hok.1 hok.2
            have HST := hideIt (sumQ_take hlt)
            have hS0 := HLQ.out t
            have HBR := hideIt (fun W => brings_is 2 asks[t] W (by omega))
            unfold brA brN ordE at HBR
            generalize asks[t] = en at *
            obtain ⟨ei, ea, ep, el⟩ := en
            simp only [show ¬ (2 : Int) = 1 by omega, if_true, if_false] at d0 d1 d2 d3 HST HBR hmb hok
            have hb1 := below1 wr (.cells #[.int .i64 ei, .int .i64 ea, .int .i64 ep, .int .i64 el] 38)
            have H1 := hideIt (HR.out.keep hb1)
            clear hb1 HR
            go_wp2_with fail
            refine (HBR.out _).mono ?_
            rintro e w3 ⟨rfl, hb⟩
            dsimp only
            have H3 := hideIt (H1.out.keep hb)
            clear hb H1 HBR d0 d1 d2 d3 hblr
            obtain ⟨⟨c0, c1, c2, c3, c4⟩, -, cl⟩ := five5_at H3.out.box
            obtain ⟨k0, k1, kf, kl⟩ := two_at H3.out.sm
            clear c0 c1 c2 c3 c4 cl
            have hws : IntKind.i64.wrap (sumQ (asks.take t) + el) = sumQ (asks.take (t + 1)) := by rw [HST.out, IntKind.wrap_i64]; omega
            have H4 := hideIt (H3.out.g (sumQ (asks.take (t + 1))))
            clear H3 HST hS0 hmb hok
            go_wp2
            go_roundw
            case rel => exact ⟨t + 1, by go_num, by omega, H4⟩
            case measure => simp [intOf]; omega
          · have hltI : ¬ (t : Int) < (asks.length : Int) := by omega
            have het : asks.take t = asks := List.take_of_length_le (by omega)
            rw [het] at HR
            clear het
            go_wp2
            go_roundw
            case rel => exact ⟨2, by go_num, by omega, HR⟩
            case measure => simp [intOf]
      · simp only [show ¬ (2 : Int) = 0 by omega, if_true, if_false] at HR
        obtain ⟨⟨c0, c1, c2, c3, c4⟩, -, cl⟩ := five5_at HR.out.box
        obtain ⟨k0, k1, kf, kl⟩ := two_at HR.out.sm
        go_upto_region 16 with fail
        clear c0 c1 c2 c3 c4 cl k0 k1 kf kl
        go_loopw [50] (fun v wx => ∃ t : Nat, v = .int .i64 t ∧ t ≤ owed.length ∧ Hid (HS w K ⟨cl, nx, bids, asks, owed⟩ (.slice ba bids.length bc) (.slice aa asks.length ac) (.slice oa owed.length oc) (sumP bids + sumA 0 (owed.take t)) (sumQ asks + sumA 1 (owed.take t)) wx)) (fun v _ => owed.length - (intOf v).toNat)
        case atStart => exact ⟨0, rfl, Nat.zero_le _, hideIt (by simpa [sumA] using HR.out)⟩
        case round =>
          clear HR
          obtain ⟨t, rfl, ht, HR⟩ := hrel
          by_cases hlt : t < owed.length
          · have hltI : (t : Int) < (owed.length : Int) := by omega
            have ht0 : (0 : Int) ≤ (t : Int) := by omega
            have hw2 : IntKind.i64.wrap ((t : Int) + 1) = ((t + 1 : Nat) : Int) := by rw [IntKind.wrap_i64]; omega
            obtain ⟨b, off, rfl, hbl, q0, q1, q2⟩ := HW.out t hlt
            have hBw := HR.out.bel
            have hblr : b < wr.heap.size := Nat.lt_of_lt_of_le hbl hBw.size
            have d0 := (hBw.cell (p := ⟨b, off + t * 3, none⟩) hbl).trans q0
            have d1 := (hBw.cell (p := ⟨b, off + t * 3 + 1, none⟩) hbl).trans q1
            have d2 := (hBw.cell (p := ⟨b, off + t * 3 + 2, none⟩) hbl).trans q2
            clear q0 q1 q2 hBw
            have HS0 := hideIt (sumA_take (a := 0) hlt)
            have HS1 := hideIt (sumA_take (a := 1) hlt)
            have hS0 := HLA.out 0 t
            have hS1 := HLA.out 1 t
            have hPB : 0 ≤ sumP bids ∧ sumP bids ≤ 40000000000000 := by have := HLP.out bids.length; rwa [List.take_of_length_le (Nat.le_refl _)] at this
            have hQB : 0 ≤ sumQ asks ∧ sumQ asks ≤ 40000000 := by have := HLQ.out asks.length; rwa [List.take_of_length_le (Nat.le_refl _)] at this
            have hbd := HOY.out _ (List.getElem_mem hlt)
            generalize owed[t] = y at *
            obtain ⟨ea, es, en⟩ := y
            simp only at d0 d1 d2 HS0 HS1 hbd
            have hb1 := below1 wr (.cells #[.int .i64 ea, .int .i64 es, .int .i64 en] 48)
            have H3 := hideIt (HR.out.keep hb1)
            have N3 := heap_alloc_new wr (.cells #[.int .i64 ea, .int .i64 es, .int .i64 en] 48)
            have z1 : (wr.alloc (.cells #[.int .i64 ea, .int .i64 es, .int .i64 en] 48)).cell? ⟨wr.heap.size, 1, none⟩ = some (.int .i64 es) := by rw [cell_at N3]; rfl
            have z2 : (wr.alloc (.cells #[.int .i64 ea, .int .i64 es, .int .i64 en] 48)).cell? ⟨wr.heap.size, 2, none⟩ = some (.int .i64 en) := by rw [cell_at N3]; rfl
            have hKn : K ≠ wr.heap.size := by have := (Array.getElem?_eq_some_iff.1 HR.out.sm).1; omega
            have hKn2 := hKn.symm
            clear hb1 HR N3
            go_upto_region 18 with fail
            clear d0 d1 d2 hblr
            generalize wr.alloc (.cells #[.int .i64 ea, .int .i64 es, .int .i64 en] 48) = W3 at *
            generalize wr.heap.size = KE at *
            have hes : es = 0 ∨ es = 1 := by omega
            rcases hes with rfl | rfl
            · have hws : IntKind.i64.wrap (sumP bids + sumA 0 (owed.take t) + en) = sumP bids + sumA 0 (owed.take (t + 1)) := by rw [HS0.out, IntKind.wrap_i64]; simp; omega
              have hsn : sumA 1 (owed.take (t + 1)) = sumA 1 (owed.take t) := by rw [HS1.out]; simp
              have H4 := hideIt (H3.out.m (sumP bids + sumA 0 (owed.take (t + 1))))
              rw [← hsn] at H4
              have HSN := hideIt hsn
              obtain ⟨k0, k1, kf, kl⟩ := two_at H3.out.sm
              clear H3 HS0 HS1 hS0 hS1 hPB hQB hsn hbd
              go_wp2_with fail
              go_region
              go_wp2
              go_roundw
              case rel => exact ⟨t + 1, by go_num, by omega, hideIt (H4.out.keep (Below.refl _ _).drew)⟩
              case measure => simp [intOf]; omega
            · have hws : IntKind.i64.wrap (sumQ asks + sumA 1 (owed.take t) + en) = sumQ asks + sumA 1 (owed.take (t + 1)) := by rw [HS1.out, IntKind.wrap_i64]; simp; omega
              have hsn : sumA 0 (owed.take (t + 1)) = sumA 0 (owed.take t) := by rw [HS0.out]; simp
              have H4 := hideIt (H3.out.g (sumQ asks + sumA 1 (owed.take (t + 1))))
              rw [← hsn] at H4
              have HSN := hideIt hsn
              obtain ⟨k0, k1, kf, kl⟩ := two_at H3.out.sm
              clear H3 HS0 HS1 hS0 hS1 hPB hQB hsn hbd
              go_wp2_with fail
              go_region
              go_wp2
              go_roundw
              case rel => exact ⟨t + 1, by go_num, by omega, hideIt (H4.out.keep (Below.refl _ _).drew)⟩
              case measure => simp [intOf]; omega
          · have hltI : ¬ (t : Int) < (owed.length : Int) := by omega
            have het : owed.take t = owed := List.take_of_length_le (by omega)
            rw [het] at HR
            clear het
            obtain ⟨k0, k1, kf, kl⟩ := two_at HR.out.sm
            go_wp2_with fail
            go_quiet (fail)
            go_wp2
            go_ret3
            exact ⟨rfl, below_drewN HR.out.bel _⟩
end Go.Proofs.Ytgnmghcdfihmgaa
