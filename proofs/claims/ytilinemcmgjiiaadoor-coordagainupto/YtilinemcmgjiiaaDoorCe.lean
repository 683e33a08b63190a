/- fresh.List at cells: walked. -/
import Derived.Test.YtilinemcmgjiiaaDoorCl
namespace Go.Proofs.YtilinemcmgjiiaaDoor
open Go.RowKit
set_option linter.all false
theorem CelOwn.kept {w w' : World} {B B2 : Nat} {e : TypeId} {z n : Nat} {v : Value} {xs : List Value} {x : CelX} (k : CelOwn B2 w x) (h : w.grownBy w' v.ownBlock) (ho : w.ownsRow B e z v n xs) (h1 : e ≠ 72) (h2 : e ≠ 121) (h3 : e ≠ 124) : CelOwn B2 w' x :=
  ⟨own_kept h ho k.f h1, own_kept h ho k.b h2, own_kept h ho k.a h2, own_kept h ho k.o h3, k.sf, k.sb, k.sa, k.so⟩
theorem CelsOwn.app {B : Nat} {W w' : World} {u v' : Value} {ys : List CelX} {y : CelX} (h : CelsOwn B W u ys) (hy : CelOwn B W y) (how : w'.ownsRow B 81 10 v' (ys ++ [y]).length (celC celE (ys ++ [y]))) (hgr : W.grownBy w' u.ownBlock) (hs : (ys.length + 1) * 144 ≤ 140737488355328) : CelsOwn B w' v' (ys ++ [y]) := by
  refine ⟨how, fun s hs => ?_, by simpa using hs⟩
  rw [List.mem_append, List.mem_singleton] at hs
  rcases hs with hs | rfl
  · exact (h.own s hs).kept hgr h.row (by decide) (by decide) (by decide)
  · exact hy.kept hgr h.row (by decide) (by decide) (by decide)
def CelLBack (vs : List CelV) (w : World) (e : Ending) (w' : World) : Prop := ∃ a c ys, e = .returned (.slice a vs.length c) ∧ ys.map CelX.v = vs ∧ CelsOwn w.heap.size w' (.slice a vs.length c) ys ∧ Below w.heap.size w w'
theorem Cels.ten {w : World} {v : Value} {l : List CelX} (h : Cels w v l) : ∃ a c, v = .slice a l.length c ∧ l.length * 144 ≤ 140737488355328 ∧ ∀ i (h : i < l.length), ∃ b off, a = some ⟨b, off, none⟩ ∧ b < w.heap.size ∧ ∀ j, j < 10 → w.cell? ⟨b, off + i * 10 + j, none⟩ = (celE l[i])[j]? := by
  obtain ⟨h8, a, c, e, hc, hr⟩ := h.row
  refine ⟨a, c, e, h8, fun i hi => ?_⟩
  obtain ⟨b, off, ha, hb, hcell⟩ := hr (by omega)
  refine ⟨b, off, ha, hb, fun j hj => ?_⟩
  rw [Nat.add_assoc, hcell (i * 10 + j) (by omega)]
  exact celC_get celK l i hi j hj
set_option maxHeartbeats 8000000 in
set_option maxRecDepth 100000 in
theorem cells_is (v : Value) (l : List CelX) (w : World) (h : Cels w v l) : Calls Tryd.prog 20 #[v, .func (.func 21) #[] #[]] w (CelLBack (l.map CelX.v) w) := by
  have HA := hideIt (fun (t : Nat) (ht : t < l.length) W (hW : Below w.heap.size w W) => cell_is l[t] W ((h.at_ l[t] (List.getElem_mem ht)).keep hW))
  obtain ⟨a, c, rfl, h8, hr⟩ := h.ten
  have HH := hideIt hr
  clear hr h
  go_enter Tryd.func20, Tryd.ntmps20
  go_wp2
  go_loopw [5, 10] (fun u x wr => ∃ t : Nat, x = .int .i64 t ∧ t ≤ l.length ∧ ∃ ys : List CelX, Hid (ys.map CelX.v = (l.take t).map CelX.v ∧ CelsOwn w.heap.size wr u ys ∧ Below w.heap.size w wr)) (fun _ x _ => l.length - (intOf x).toNat)
  case atStart => exact ⟨0, rfl, Nat.zero_le _, [], hideIt ⟨rfl, CelsOwn.nil _ _, Below.refl _ _⟩⟩
  case round =>
    obtain ⟨t, rfl, ht, ys, HR⟩ := hrel
    by_cases hlt : t < l.length
    · have hltI : (t : Int) < (l.length : Int) := by omega
      have ht0 : (0 : Int) ≤ (t : Int) := by omega
      have hyl : ys.length = t := by
        have := congrArg List.length HR.out.1
        simp at this
        omega
      obtain ⟨b, off, rfl, hbl, hq⟩ := HH.out t hlt
      have hB := HR.out.2.2
      have hc : ∀ j, j < 10 → wr.cell? ⟨b, off + t * 10 + j, none⟩ = (celE l[t])[j]? := fun j hj => (hB.cell (p := ⟨b, off + t * 10 + j, none⟩) hbl).trans (hq j hj)
      have c0 := hc 0 (by omega)
      have c1 := hc 1 (by omega)
      have c2 := hc 2 (by omega)
      have c3 := hc 3 (by omega)
      have c4 := hc 4 (by omega)
      have c5 := hc 5 (by omega)
      have c6 := hc 6 (by omega)
      have c7 := hc 7 (by omega)
      have c8 := hc 8 (by omega)
      have c9 := hc 9 (by omega)
      have hblr : b < wr.heap.size := Nat.lt_of_lt_of_le hbl hB.size
      have HT : Hid ((l.take (t + 1)).map CelX.v = (l.take t).map CelX.v ++ [l[t].v]) := by
        show _ = _
        rw [List.take_succ_eq_append_getElem hlt, List.map_append]
        rfl
      have HC := hideIt (HA.out t hlt)
      clear hq hc HH HA hB hbl
      generalize l[t] = s at *
      obtain ⟨⟨k, n, ver, fr, cnt, call, next, bids, asks, owed⟩, fa, fc, ba, bc, aa, ac, oa, oc⟩ := s
      simp only [celE, List.getElem?_cons_zero, List.getElem?_cons_succ, Nat.add_zero] at c0 c1 c2 c3 c4 c5 c6 c7 c8 c9 HC HT
      have hb1 := below1 wr (.cells #[.int .i64 k, .int .i64 n, .int .i64 ver, .slice fa fr.length fc, .int .i64 cnt, .bool call, .int .i64 next, .slice ba bids.length bc, .slice aa asks.length ac, .slice oa owed.length oc] 81)
      have HB1 := hideIt (And.intro hb1 (below_via HR.out.2.2 hb1))
      clear hb1
      have HC2 : Hid (∀ W, Below w.heap.size w W → Calls Tryd.prog 21 #[.agg #[.int .i64 k, .int .i64 n, .int .i64 ver, .slice fa fr.length fc, .int .i64 cnt, .bool call, .int .i64 next, .slice ba bids.length bc, .slice aa asks.length ac, .slice oa owed.length oc]] W fun e w' => ∃ a1 d1 a2 d2 a3 d3 a4 d4, e = .returned (.agg #[.int .i64 k, .int .i64 n, .int .i64 ver, .slice a1 fr.length d1, .int .i64 cnt, .bool call, .int .i64 next, .slice a2 bids.length d2, .slice a3 asks.length d3, .slice a4 owed.length d4]) ∧ Hid (CelOwn W.heap.size w' ⟨⟨k, n, ver, fr, cnt, call, next, bids, asks, owed⟩, a1, d1, a2, d2, a3, d3, a4, d4⟩ ∧ Below W.heap.size W w')) := by
        intro W hW
        refine (HC.out W hW).mono ?_
        rintro e w' ⟨⟨yv, b1, d1, b2, d2, b3, d3, b4, d4⟩, rfl, hv, ho, hb⟩
        simp only at hv
        subst hv
        exact ⟨b1, d1, b2, d2, b3, d3, b4, d4, rfl, ho, hb⟩
      clear HC
      go_wp2_with fail
      refine (HC2.out _ HB1.out.2).mono ?_
      rintro e w1 ⟨a1, d1, a2, d2, a3, d3, a4, d4, rfl, ho⟩
      dsimp only
      have hb2 := below_via HB1.out.2 ho.out.2
      have k2 := below_via HB1.out.1 ho.out.2
      have hs2 := hb2.size
      have hb3 := below1 w1 (.cells #[.int .i64 k, .int .i64 n, .int .i64 ver, .slice a1 fr.length d1, .int .i64 cnt, .bool call, .int .i64 next, .slice a2 bids.length d2, .slice a3 asks.length d3, .slice a4 owed.length d4] 81)
      have hw2 : w.heap.size ≤ (wr.alloc (.cells #[.int .i64 k, .int .i64 n, .int .i64 ver, .slice fa fr.length fc, .int .i64 cnt, .bool call, .int .i64 next, .slice ba bids.length bc, .slice aa asks.length ac, .slice oa owed.length oc] 81)).heap.size := HB1.out.2.size
      have hO := (HR.out.2.1.keep k2).keep hb3
      have hY := (ho.out.1.base hw2).keep hb3
      obtain ⟨v', w', hrun, how, hgr⟩ := app1 (enc := celE) (t := 45) celK cel1 Tryd.underlying45 infoCel rfl (by omega) (w1.alloc (.cells #[.int .i64 k, .int .i64 n, .int .i64 ver, .slice a1 fr.length d1, .int .i64 cnt, .bool call, .int .i64 next, .slice a2 bids.length d2, .slice a3 asks.length d3, .slice a4 owed.length d4] 81)) w.heap.size u5 ys ⟨⟨k, n, ver, fr, cnt, call, next, bids, asks, owed⟩, a1, d1, a2, d2, a3, d3, a4, d4⟩ w1.heap.size 1 (Nat.le_trans hs2 hb3.size) hO.row (heap_alloc_new w1 _) (by omega) (by unfold maxLen; omega)
      have hN := hO.app hY how hgr (by omega)
      have HN : Hid ((ys ++ [CelX.mk ⟨k, n, ver, fr, cnt, call, next, bids, asks, owed⟩ a1 d1 a2 d2 a3 d3 a4 d4]).map CelX.v = (l.take (t + 1)).map CelX.v ∧ CelsOwn w.heap.size w' v' (ys ++ [CelX.mk ⟨k, n, ver, fr, cnt, call, next, bids, asks, owed⟩ a1 d1 a2 d2 a3 d3 a4 d4]) ∧ Below w.heap.size w w') := ⟨by rw [List.map_append, HR.out.1, HT.out]; rfl, hN, grown_own hgr hO.row (Nat.le_refl _) (below_via hb2 hb3)⟩
      have HRUN := hideIt hrun
      clear hrun how hgr hN hO hY hw2 hb3 k2 hs2 hb2 ho HC2 HB1 HT HR c0 c1 c2 c3 c4 c5 c6 c7 c8 c9
      generalize fr.length = n1 at *
      generalize bids.length = n2 at *
      generalize asks.length = n3 at *
      generalize owed.length = n4 at *
      go_wp2_with (at_builtin; refine Lib.wpList_append_run _ rfl _ _ _ _ rfl _ _ rfl rfl _ _ HRUN.out ?_)
      clear HRUN
      go_wp2
      go_roundw
      case rel => exact ⟨t + 1, by go_num, by omega, _, HN⟩
      case measure => simp [intOf]; omega
    · have hltI : ¬ (t : Int) < (l.length : Int) := by omega
      have hE : l.take t = l := List.take_of_length_le (by omega)
      have HG := hideIt HR.out
      rw [hE] at HG
      obtain ⟨va, vc, hv⟩ := own_len HG.out.2.1.row
      have hyl : ys.length = (l.map CelX.v).length := by rw [← HG.out.1, List.length_map]
      clear HR HH hE HA
      rw [hv] at HG ⊢
      rw [hyl] at HG ⊢
      clear hv hyl
      go_wp2
      go_ret
      exact ⟨va, vc, ys, by simp, HG.out.1, HG.out.2.1, HG.out.2.2⟩
end Go.Proofs.YtilinemcmgjiiaaDoor
