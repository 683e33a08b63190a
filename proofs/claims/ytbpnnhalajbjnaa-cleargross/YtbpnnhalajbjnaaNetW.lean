/- clear.Net, walked. -/
import Derived.Test.YtbpnnhalajbjnaaNet
namespace Go.Proofs.Ytbpnnhalajbjnaa
open Go.RowKit Go.Maps
set_option linter.all false
/-- What a fill makes of the sums. -/
def netS1 (f : Sums) (x : FillV) : Sums := addS (addS f x.buyer ((-x.price) * x.n) x.n) x.seller (x.price * x.n) (-x.n)
def netS (l : List FillV) : Sums := l.foldl netS1 (fun _ => none)
def netL (l : List FillV) : List PosV × Int := if (decide (1000 < l.length) || l.any strF) = true then ([], 150) else (posT (netS l) 8, 0)
def NetB (R : List PosV × Int) (w : World) (e : Ending) (w' : World) : Prop := ∃ a c, e = .returned (.tuple #[.slice a R.1.length c, .int .i64 R.2]) ∧ w'.ownsRow w.heap.size 31 3 (.slice a R.1.length c) R.1.length (celC posE R.1) ∧ Below w.heap.size w w'
theorem MP.made (w : World) : MP (w.alloc (.map #[] 0)) w.heap.size 0 (fun _ => none) :=
  ⟨0, .map [], Nat.le_refl _, World.ownsMap_made w Try.prog 3 heldR, (fun x p h => by cases h), fun x _ z => rfl⟩
theorem str_ok {f : FillV} (h : strF f = false) : (1 ≤ f.buyer ∧ f.buyer ≤ 8) ∧ (1 ≤ f.seller ∧ f.seller ≤ 8) ∧ (1 ≤ f.price ∧ f.price ≤ 1000000) ∧ (1 ≤ f.n ∧ f.n ≤ 1000000) := by
  unfold strF at h
  simp only [Bool.or_eq_false_iff, Bool.not_eq_false'] at h
  obtain ⟨⟨⟨h1, h2⟩, h3⟩, h4⟩ := h
  unfold wiB at h1 h2 h3 h4
  exact ⟨of_decide_eq_true h1, of_decide_eq_true h2, of_decide_eq_true h3, of_decide_eq_true h4⟩
theorem mul_bd2 {p n : Int} (hp : 1 ≤ p ∧ p ≤ 1000000) (hn : 1 ≤ n ∧ n ≤ 1000000) : 1 ≤ p * n ∧ p * n ≤ 1000000000000 := by
  have h1 := Int.mul_le_mul hp.2 hn.2 (by omega) (by omega : (0 : Int) ≤ 1000000)
  have h2 := Int.mul_le_mul hp.1 hn.1 (by omega) (by omega : (0 : Int) ≤ p)
  omega
set_option maxHeartbeats 8000000 in
set_option maxRecDepth 100000 in
theorem net_is (v : Value) (l : List FillV) (w : World) (h : Fils w v l) : Calls Try.prog 9 #[v] w (NetB (netL l) w) := by
  have HA := hideIt (anyStrange_is v l w h)
  obtain ⟨a, c, rfl, h8, hr⟩ := h.fils
  have HH := hideIt hr
  clear hr h
  unfold netL NetB
  by_cases hl : 1000 < l.length
  · have hlI : (1000 : Int) < (l.length : Int) := by omega
    rw [decide_eq_true hl, Bool.true_or, if_pos rfl]
    clear HA HH
    go_enter Try.func9, Try.ntmps9
    go_wp2
    go_ret2
    exact ⟨none, 0, rfl, own_nil _ _, Below.refl _ _⟩
  · have hlI : ¬ (1000 : Int) < (l.length : Int) := by omega
    rw [decide_eq_false hl, Bool.false_or]
    cases hs : l.any strF
    · rw [hs] at HA
      rw [if_neg (by simp)]
      rw [List.any_eq_false] at hs
      have HOK : Hid (∀ x ∈ l, strF x = false) := fun x hx => by simpa using hs x hx
      have HST := hideIt (fun t (ht : t < l.length) => show netS (l.take (t + 1)) = netS1 (netS (l.take t)) l[t] by unfold netS; rw [List.take_succ_eq_append_getElem ht, List.foldl_append]; rfl)
      have HFL : Hid (netS (l.take l.length) = netS l) := by show _ = _; rw [List.take_length]
      have HI : Hid (netS (l.take 0) = fun _ => none) := by show _ = _; simp [netS]
      clear hs
      generalize hfu : (fun t : Nat => netS (l.take t)) = FT at *
      have HT : Hid (∀ t, netS (l.take t) = FT t) := fun t => congrFun hfu t
      simp only [HT.out] at HST HFL HI
      clear hfu HT
      have hmm := @run_makeMap Try.prog
      go_enter Try.func9, Try.ntmps9
      go_wp2_with fail
      refine HA.out.mono ?_
      rintro e w1 ⟨rfl, hb⟩
      dsimp only
      go_upto_region 4 with fail
      have HB1 := hideIt (below_via hb (below1 w1 (.map #[] 0)))
      have hmb := hb.size
      have X0 : Hid (MP (w1.alloc (.map #[] 0)) w1.heap.size (2 * 0) (FT 0) ∧ Small (2 * 0) (FT 0)) := by
        rw [HI.out]
        exact ⟨MP.made w1, ⟨fun x p h => by cases h⟩⟩
      clear hb HA hmm HI
      generalize w1.alloc (.map #[] 0) = W1 at *
      generalize w1.heap.size = mb at *
      go_wp2
      go_loopw [17] (fun v wr => ∃ t : Nat, v = .int .i64 t ∧ t ≤ l.length ∧ Hid ((MP wr mb (2 * t) (FT t) ∧ Small (2 * t) (FT t)) ∧ Below w.heap.size w wr)) (fun v _ => l.length - (RowKit.intOf v).toNat)
      case atStart => exact ⟨0, rfl, Nat.zero_le _, hideIt ⟨X0.out, HB1.out⟩⟩
      case round =>
        clear X0 HB1
        obtain ⟨t, rfl, ht, HR⟩ := hrel
        by_cases hlt : t < l.length
        · have hltI : (t : Int) < (l.length : Int) := by omega
          have ht0 : (0 : Int) ≤ (t : Int) := by omega
          have hw : IntKind.i64.wrap ((t : Int) + 1) = ((t + 1 : Nat) : Int) := by rw [IntKind.wrap_i64]; omega
          obtain ⟨b, off, rfl, hbl, q0, q1, q2, q3⟩ := HH.out t hlt
          have hblr : b < wr.heap.size := Nat.lt_of_lt_of_le hbl HR.out.2.size
          have c0 := (HR.out.2.cell (p := ⟨b, off + t * 4, none⟩) hbl).trans q0
          have c1 := (HR.out.2.cell (p := ⟨b, off + t * 4 + 1, none⟩) hbl).trans q1
          have c2 := (HR.out.2.cell (p := ⟨b, off + t * 4 + 2, none⟩) hbl).trans q2
          have c3 := (HR.out.2.cell (p := ⟨b, off + t * 4 + 3, none⟩) hbl).trans q3
          have hok := str_ok (HOK.out _ (List.getElem_mem hlt))
          have HN := hideIt (HST.out t hlt)
          clear q0 q1 q2 q3 HH HOK HST HFL
          generalize l[t] = y at *
          obtain ⟨yb, ys, yp, yn⟩ := y
          dsimp only at c0 c1 c2 c3 hok
          have hmu := mul_bd2 hok.2.2.1 hok.2.2.2
          have hneg : (-yp) * yn = -(yp * yn) := Int.neg_mul _ _
          have w1' : IntKind.i64.wrap (-yp) = -yp := by rw [IntKind.wrap_i64]; omega
          have w2' : IntKind.i64.wrap ((-yp) * yn) = (-yp) * yn := by rw [IntKind.wrap_i64]; omega
          have w3' : IntKind.i64.wrap (yp * yn) = yp * yn := by rw [IntKind.wrap_i64]; omega
          have w4' : IntKind.i64.wrap (-yn) = -yn := by rw [IntKind.wrap_i64]; omega
          have hmb2 : mb < wr.heap.size := HR.out.1.1.lt
          have hb1 := below1 wr (.cells #[.int .i64 yb, .int .i64 ys, .int .i64 yp, .int .i64 yn] 67)
          have H1 := hideIt (add_is mb (2 * t) (FT t) yb ((-yp) * yn) yn _ (HR.out.1.1.keep hb1) HR.out.1.2 (by omega) (by omega) (by omega) (by omega))
          have H2 := hideIt (fun W (hW : MP W mb (2 * t + 1) (addS (FT t) yb ((-yp) * yn) yn)) => add_is mb (2 * t + 1) (addS (FT t) yb ((-yp) * yn) yn) ys (yp * yn) (-yn) W hW (HR.out.1.2.add (by omega) (by omega)) (by omega) (by omega) (by omega) (by omega))
          have HS2 : Hid (Small (2 * (t + 1)) (FT (t + 1))) := by
            rw [HN.out]
            exact (HR.out.1.2.add (by dsimp only; omega) (by dsimp only; omega)).add (by dsimp only; omega) (by dsimp only; omega)
          have K1 := hideIt (heap_alloc_new wr (.cells #[.int .i64 yb, .int .i64 ys, .int .i64 yp, .int .i64 yn] 67))
          have B1 := hideIt (below_via HR.out.2 hb1)
          have hkm : wr.heap.size ≠ mb := by omega
          clear hb1 HR hneg
          go_upto_region 7 with fail
          clear c0 c1 c2 c3 hblr
          generalize wr.alloc (.cells #[.int .i64 yb, .int .i64 ys, .int .i64 yp, .int .i64 yn] 67) = W2 at *
          generalize wr.heap.size = kb at *
          have k0 : W2.cell? ⟨kb, 0, none⟩ = some (.int .i64 yb) := by rw [cell_at K1.out]; rfl
          have k1 : W2.cell? ⟨kb, 1, none⟩ = some (.int .i64 ys) := by rw [cell_at K1.out]; rfl
          have k2 : W2.cell? ⟨kb, 2, none⟩ = some (.int .i64 yp) := by rw [cell_at K1.out]; rfl
          have k3 : W2.cell? ⟨kb, 3, none⟩ = some (.int .i64 yn) := by rw [cell_at K1.out]; rfl
          have kz : kb < W2.heap.size := (Array.getElem?_eq_some_iff.1 K1.out).1
          go_wp2_with fail
          refine H1.out.mono ?_
          rintro e w3 ⟨rfl, hM3, hO3⟩
          dsimp only
          have K3 := hideIt ((hO3.block kb kz hkm).trans K1.out)
          have B3 := hideIt (B1.out.trans (hO3.below B1.out.size (fun k e => by subst e; exact hmb)))
          have M3 := hideIt hM3
          clear hM3 hO3 K1 B1 H1 k0 k1 k2 k3 kz
          have k0 : w3.cell? ⟨kb, 0, none⟩ = some (.int .i64 yb) := by rw [cell_at K3.out]; rfl
          have k1 : w3.cell? ⟨kb, 1, none⟩ = some (.int .i64 ys) := by rw [cell_at K3.out]; rfl
          have k2 : w3.cell? ⟨kb, 2, none⟩ = some (.int .i64 yp) := by rw [cell_at K3.out]; rfl
          have k3 : w3.cell? ⟨kb, 3, none⟩ = some (.int .i64 yn) := by rw [cell_at K3.out]; rfl
          have kz : kb < w3.heap.size := (Array.getElem?_eq_some_iff.1 K3.out).1
          go_wp2_with fail
          refine (H2.out _ M3.out).mono ?_
          rintro e w4 ⟨rfl, hM4, hO4⟩
          dsimp only
          have B4 := hideIt (B3.out.trans (hO4.below B3.out.size (fun k e => by subst e; exact hmb)))
          have M4 : Hid (MP w4 mb (2 * (t + 1)) (FT (t + 1))) := by
            rw [HN.out]
            exact hM4
          clear hM4 hO4 K3 B3 M3 H2 k0 k1 k2 k3 kz HN
          go_wp2
          go_roundw
          case rel => first | exact ⟨t + 1, by go_num, by omega, hideIt ⟨⟨M4.out, HS2.out⟩, B4.out⟩⟩ | ((repeat apply Exists.intro); exact ⟨⟨t + 1, by go_num, by omega, hideIt ⟨⟨M4.out, HS2.out⟩, B4.out⟩⟩, rfl⟩)
          case measure => simp [RowKit.intOf]; omega
        · have hltI : ¬ (t : Int) < (l.length : Int) := by omega
          have het : t = l.length := by omega
          subst het
          have HP := hideIt (positions_is mb (2 * l.length) (FT l.length) wr HR.out.1.1)
          rw [HFL.out] at HP
          have B1 := hideIt HR.out.2
          clear HR HH HOK HST HFL
          go_wp2_with fail
          refine HP.out.mono ?_
          rintro e w5 ⟨pa, pc, rfl, ho, hb⟩
          dsimp only
          have HO := hideIt (own_base ho B1.out.size)
          have HB := hideIt (below_via B1.out hb)
          clear ho hb HP B1
          go_wp2
          go_ret2
          exact ⟨_, _, rfl, HO.out, HB.out⟩
    · rw [hs] at HA
      clear HH hs
      simp only [if_true]
      go_enter Try.func9, Try.ntmps9
      go_wp2_with fail
      refine HA.out.mono ?_
      rintro e w1 ⟨rfl, hb⟩
      dsimp only
      have HB := hideIt hb
      clear hb HA
      go_wp2
      go_ret2
      exact ⟨none, 0, rfl, own_nil _ _, HB.out⟩
end Go.Proofs.Ytbpnnhalajbjnaa
