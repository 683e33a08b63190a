/- Which holds stand in the way of older ones; whether two tables are the same. -/
import Derived.Test.YtgfpeknhabbkbabLst
namespace Go.Proofs.Ytgfpeknhabbkbab
open Go.RowKit
set_option linter.all false
def wdB (T : TabV) (h : HoldV) : Bool := (qL T.wait h.1).any (fun x => oldB x h.2)
def wnL (T : TabV) : List HoldV := if chkB T = true then T.held.filter (wdB T) else []
theorem fl_hit {α : Type} {p : α → Bool} {l : List α} {t : Nat} (h : t < l.length) (hp : p l[t] = true) : (l.take (t + 1)).filter p = (l.take t).filter p ++ [l[t]] := by
  rw [List.take_succ_eq_append_getElem h, List.filter_append]
  simp [List.filter_cons, hp]
theorem fl_miss {α : Type} {p : α → Bool} {l : List α} {t : Nat} (h : t < l.length) (hp : p l[t] = false) : (l.take (t + 1)).filter p = (l.take t).filter p := by
  rw [List.take_succ_eq_append_getElem h, List.filter_append]
  simp [List.filter_cons, hp]
set_option maxHeartbeats 8000000 in
set_option maxRecDepth 100000 in
theorem wounds_is (T : TabV) (h v : Value) (w : World) (hT : Tab w T h v) : Calls Try.prog 5 #[.agg #[h, v]] w (HolsBack (wnL T) w) := by
  have H1 := hideIt (fun W (hW : Below w.heap.size w W) => check_is T h v W (hT.keep hW))
  have H2 := hideIt (fun k n c q W (hW : Below w.heap.size w W) => isWounded_is T h v k n c q W (hT.keep hW))
  obtain ⟨a, c, rfl, h8, hr⟩ := hT.held.hols
  obtain ⟨va, vc, rfl⟩ := hT.wait.slice
  have HH := hideIt hr
  clear hr hT
  have HB0 := hideIt (below1 w (.cells #[.slice a T.held.length c, .slice va T.wait.length vc] 25))
  have HX0 := hideIt (heap_alloc_new w (.cells #[.slice a T.held.length c, .slice va T.wait.length vc] 25))
  unfold chkI at H1
  cases hC : chkB T
  · have HE : Hid (wnL T = []) := by
      show wnL T = _
      unfold wnL
      rw [hC]
      rfl
    rw [hC] at H1
    simp only [Bool.false_eq_true, if_false] at H1
    generalize wnL T = RES at *
    go_enter Try.func5, Try.ntmps5
    go_wp2_with fail
    refine (H1.out _ HB0.out).mono ?_
    rintro e w1 ⟨rfl, hb⟩
    dsimp only
    have HB1 := hideIt (below_via HB0.out hb)
    clear hb
    go_wp2
    go_ret
    exact ⟨_, rfl, by rw [HE.out]; exact own_nil _ _, HB1.out⟩
  · have HE : Hid (wnL T = T.held.filter (wdB T)) := by
      show wnL T = _
      unfold wnL
      rw [if_pos hC]
    rw [hC] at H1
    simp only [if_true] at H1
    have HW : Hid (∀ h, wdB T h = (qL T.wait h.1).any (fun x => oldB x h.2)) := fun h => rfl
    generalize wnL T = RES at *
    generalize wdB T = p at *
    generalize T.held = l at *
    generalize T.wait = wt at *
    go_enter Try.func5, Try.ntmps5
    go_wp2_with fail
    refine (H1.out _ HB0.out).mono ?_
    rintro e w1 ⟨rfl, hb⟩
    dsimp only
    have HX1 := hideIt ((hb.block _ (Array.getElem?_eq_some_iff.1 HX0.out).1).trans HX0.out)
    have HB1 := hideIt (below_via HB0.out hb)
    clear hb H1 HB0 HX0
    go_upto_region 4 with fail
    have z0 := (B1.cells HX1.out).1
    go_wp2
    go_loopw [3, 12] (fun v5 v wr => ∃ t : Nat, v = .int .i64 t ∧ t ≤ l.length ∧ Hid (Below w.heap.size w wr ∧ wr.heap[w.heap.size]? = some (.cells #[.slice a l.length c, .slice va wt.length vc] 25 (0, 0)) ∧ wr.ownsRow (w.heap.size + 1) 34 4 v5 ((l.take t).filter p).length (celC holE ((l.take t).filter p)))) (fun _ v _ => l.length - (intOf v).toNat)
    case atStart => exact ⟨0, rfl, Nat.zero_le _, hideIt ⟨HB1.out, HX1.out, by simpa [celC] using own_nil _ _⟩⟩
    case round =>
      clear HB1 HX1 z0
      obtain ⟨t, rfl, ht, HR⟩ := hrel
      by_cases hlt : t < l.length
      · have hltI : (t : Int) < (l.length : Int) := by omega
        have ht0 : (0 : Int) ≤ (t : Int) := by omega
        have hw : IntKind.i64.wrap ((t : Int) + 1) = ((t + 1 : Nat) : Int) := by rw [IntKind.wrap_i64]; omega
        have hB := HR.out.1
        have hsz : w.heap.size < wr.heap.size := (Array.getElem?_eq_some_iff.1 HR.out.2.1).1
        have x0 := (B1.cells HR.out.2.1).1
        have x1 := (B1.cells HR.out.2.1).2
        obtain ⟨b, off, rfl, hbl, q0, q1, q2, q3⟩ := HH.out t hlt
        have hblr : b < wr.heap.size := Nat.lt_of_lt_of_le hbl hB.size
        have c0 := (hB.cell (p := ⟨b, off + t * 4, none⟩) hbl).trans q0
        have c1 := (hB.cell (p := ⟨b, off + t * 4 + 1, none⟩) hbl).trans q1
        have c2 := (hB.cell (p := ⟨b, off + t * 4 + 2, none⟩) hbl).trans q2
        have c3 := (hB.cell (p := ⟨b, off + t * 4 + 3, none⟩) hbl).trans q3
        clear q0 q1 q2 q3
        obtain ⟨ga, gc, hv⟩ := own_len HR.out.2.2
        have hlen : ((l.take t).filter p).length ≤ t := by
          have := List.length_filter_le p (l.take t)
          rw [List.length_take] at this
          omega
        have HC := hideIt (fun W hW => H2.out l[t].1.1 l[t].1.2 l[t].2.1 l[t].2.2 W hW)
        rw [show (qL wt (l[t].1.1, l[t].1.2)).any (fun x => oldB x (l[t].2.1, l[t].2.2)) = p l[t] from (HW.out l[t]).symm] at HC
        cases hq : p l[t]
        · rw [hq] at HC
          have HQ := hideIt (fl_miss hlt hq)
          generalize hen : l[t] = en at *
          obtain ⟨⟨x, y⟩, ⟨z, u⟩⟩ := en
          dsimp only at c0 c1 c2 c3 HC
          have hb1 := below1 wr (.cells #[.int .i64 x, .int .i64 y, .int .i64 z, .int .i64 u] 34)
          have how := own_keep HR.out.2.2 hb1
          rw [← HQ.out] at how
          have HG := hideIt (And.intro (below_via hB hb1) (And.intro ((hb1.block _ hsz).trans HR.out.2.1) how))
          clear how hb1 HR HH hen hq hB HQ hlen HW H2 HE
          rw [hv] at HG ⊢
          clear hv
          go_wp2_with fail
          refine (HC.out _ HG.out.1).mono ?_
          rintro e w2 ⟨rfl, hb⟩
          dsimp only
          have HG2 := hideIt (And.intro (below_via HG.out.1 hb) (And.intro ((hb.block _ (Array.getElem?_eq_some_iff.1 HG.out.2.1).1).trans HG.out.2.1) (own_keep HG.out.2.2 hb)))
          clear hb HG HC
          go_wp2
          go_roundw
          case rel => exact ⟨t + 1, by go_num, by omega, HG2⟩
          case measure => simp [intOf]; omega
        · rw [hq] at HC
          have HQ := hideIt (fl_hit hlt hq)
          generalize hen : l[t] = en at *
          obtain ⟨⟨x, y⟩, ⟨z, u⟩⟩ := en
          dsimp only at c0 c1 c2 c3 HC
          have hb1 := below1 wr (.cells #[.int .i64 x, .int .i64 y, .int .i64 z, .int .i64 u] 34)
          have HN := hideIt (heap_alloc_new wr (.cells #[.int .i64 x, .int .i64 y, .int .i64 z, .int .i64 u] 34))
          have HG := hideIt (And.intro (below_via hB hb1) (And.intro ((hb1.block _ hsz).trans HR.out.2.1) (own_keep HR.out.2.2 hb1)))
          clear hb1 HR HH hen hq hB HW H2 HE
          rw [hv] at HG ⊢
          clear hv
          go_wp2_with fail
          refine (HC.out _ HG.out.1).mono ?_
          rintro e w2 ⟨rfl, hb⟩
          dsimp only
          have hN2 := (hb.block _ (Array.getElem?_eq_some_iff.1 HN.out).1).trans HN.out
          have hG2 := And.intro (below_via HG.out.1 hb) (And.intro ((hb.block _ (Array.getElem?_eq_some_iff.1 HG.out.2.1).1).trans HG.out.2.1) (own_keep HG.out.2.2 hb))
          have hsz2 : w.heap.size < w2.heap.size := (Array.getElem?_eq_some_iff.1 hG2.2.1).1
          have hb2 := below1 w2 (.cells #[.int .i64 x, .int .i64 y, .int .i64 z, .int .i64 u] 34)
          obtain ⟨v', w', hrun, how, hgr⟩ := app1 (enc := holE) (t := 23) holK hol1 Try.underlying23 info44 rfl (by omega) _ (w.heap.size + 1) _ ((l.take t).filter p) ((x, y), (z, u)) w2.heap.size 1 (by simp; omega) (own_keep hG2.2.2 hb2) (heap_alloc_new w2 (.cells #[.int .i64 x, .int .i64 y, .int .i64 z, .int .i64 u] 34)) (by omega) (by unfold maxLen; omega)
          have hB3 := grown_own (W := w) hgr (own_keep hG2.2.2 hb2) (by omega) (below_via hG2.1 hb2)
          have hX3 := (hgr.block _ (by simp; omega) (fun e => by have := ((own_keep hG2.2.2 hb2).lt _ e.symm).1; omega)).trans ((hb2.block _ hsz2).trans hG2.2.1)
          rw [← HQ.out] at how
          have HRUN := hideIt hrun
          have HG3 := hideIt (And.intro hB3 (And.intro hX3 how))
          have m0 : w2.cell? ⟨wr.heap.size, 0, none⟩ = some (.int .i64 x) := by rw [cell_at hN2]; rfl
          have m1 : w2.cell? ⟨wr.heap.size, 1, none⟩ = some (.int .i64 y) := by rw [cell_at hN2]; rfl
          have m2 : w2.cell? ⟨wr.heap.size, 2, none⟩ = some (.int .i64 z) := by rw [cell_at hN2]; rfl
          have m3 : w2.cell? ⟨wr.heap.size, 3, none⟩ = some (.int .i64 u) := by rw [cell_at hN2]; rfl
          clear hB3 hX3 how hrun hgr hb2 hG2 hN2 hb HG HC HN HQ hlen hsz2 x0 x1 c0 c1 c2 c3
          go_wp2_with (at_builtin; refine Lib.wpList_append_run _ rfl _ _ _ _ rfl _ _ rfl rfl _ _ HRUN.out ?_)
          go_roundw
          case rel => exact ⟨t + 1, by go_num, by omega, HG3⟩
          case measure => simp [intOf]; omega
      · have hltI : ¬ (t : Int) < (l.length : Int) := by omega
        have hE : l.take t = l := List.take_of_length_le (by omega)
        have HG := hideIt HR.out
        rw [hE] at HG
        obtain ⟨ga, gc, hv⟩ := own_len HG.out.2.2
        clear HR HH hE HW H2
        rw [hv] at HG ⊢
        clear hv
        go_wp2
        go_ret
        exact ⟨_, rfl, by rw [HE.out]; exact own_base HG.out.2.2 (by omega), HG.out.1⟩
end Go.Proofs.Ytgfpeknhabbkbab
