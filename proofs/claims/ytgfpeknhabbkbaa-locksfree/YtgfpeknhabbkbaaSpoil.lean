/- A table is spoiled: nothing below it turns. -/
import Derived.Test.YtgfpeknhabbkbaaLiveX
namespace Go.Proofs.Ytgfpeknhabbkbaa
open Go.RowKit
set_option linter.all false
theorem row_set {w : World} {B n g j : Nat} {v u : Value} {xs : List Value} {cur : Array Value} (ho : w.ownsRow B 44 4 v n xs) (hg : w.heap[g]? = some (.cells cur 44 (0, 0))) : ∃ ys, (w.setCell ⟨g, j, none⟩ u).ownsRow B 44 4 v n ys := by
  obtain ⟨h1, hn | ⟨g', cap, cur', hv, hb, hg', hnc, hcm, hs, ht⟩⟩ := ho
  · exact ⟨xs, h1, .inl hn⟩
  · by_cases e : g' = g
    · subst e
      refine ⟨(cur'.setIfInBounds j u).toList.take (n * 4), ?_, .inr ⟨g', cap, cur'.setIfInBounds j u, hv, hb, heap_set hg' j u, hnc, hcm, by simp [hs], rfl⟩⟩
      rw [List.length_take]
      simp [hs]
      omega
    · exact ⟨xs, h1, .inr ⟨g', cap, cur', hv, hb, (heap_set_other _ _ _ _ _ e).trans hg', hnc, hcm, hs, ht⟩⟩
/-- The table's box stays, its lists are still lists. -/
structure SP (w : World) (A B n m : Nat) (h v : Value) (wx : World) : Prop where
  bx : wx.heap[A]? = some (.cells #[h, v] 24 (0, 0))
  oh : ∃ xs, wx.ownsRow B 44 4 h n xs
  ov : ∃ xs, wx.ownsRow B 44 4 v m xs
  bel : Below B w wx
theorem SP.set {w wx : World} {A B n m g j : Nat} {h v u : Value} {cur : Array Value} (a : SP w A B n m h v wx) (hg : wx.heap[g]? = some (.cells cur 44 (0, 0))) (hB : B ≤ g) : SP w A B n m h v (wx.setCell ⟨g, j, none⟩ u) := by
  obtain ⟨xs, hx⟩ := a.oh
  obtain ⟨ys, hy⟩ := a.ov
  refine ⟨setOther _ a.bx (fun e => ?_), row_set hx hg, row_set hy hg, belowSet _ a.bel hB⟩
  have := a.bx
  rw [e, hg] at this
  simp at this
theorem row_at {w : World} {B n : Nat} {v : Value} {xs : List Value} (ho : w.ownsRow B 44 4 v n xs) : ∃ a c, v = .slice a n c ∧ ∀ i, i < n → ∃ g off cur u, a = some ⟨g, off, none⟩ ∧ B ≤ g ∧ w.heap[g]? = some (.cells cur 44 (0, 0)) ∧ g < w.heap.size ∧ w.cell? ⟨g, off + i * 4 + 1, none⟩ = some u ∧ w.frozen? ⟨g, off + i * 4 + 1, none⟩ = false := by
  obtain ⟨h1, ⟨rfl, rfl⟩ | ⟨g, cap, cur, rfl, hb, hg, hnc, hcm, hs, ht⟩⟩ := ho
  · exact ⟨_, _, rfl, fun i hi => by omega⟩
  · refine ⟨_, _, rfl, fun i hi => ⟨g, 0, cur, cur[0 + i * 4 + 1]'(by omega), rfl, hb, hg, (Array.getElem?_eq_some_iff.1 hg).1, ?_, free_at hg _⟩⟩
    rw [cell_at hg, Array.getElem?_eq_getElem (by omega)]
set_option maxHeartbeats 8000000 in
set_option maxRecDepth 100000 in
theorem spoil_is (T : TabV) (h v : Value) (w : World) (B : Nat) (hB : B ≤ w.heap.size) (ho : TabOwn B T h v w) (hl : T.held.length ≤ 1000000) (hm : T.wait.length ≤ 1000000) : Calls Try.prog 14 #[.agg #[h, v]] w fun e w' => e = .returned (.tuple #[]) ∧ Below B w w' := by
  have hb1 := below1 w (.cells #[h, v] 24)
  have X0 : Hid (SP w w.heap.size B T.held.length T.wait.length h v (w.alloc (.cells #[h, v] 24))) := ⟨heap_alloc_new w _, ⟨_, own_keep ho.oh hb1⟩, ⟨_, own_keep ho.ov hb1⟩, ⟨hb1.os, hb1.tape, hb1.output, hb1.size, fun k hk => hb1.block k (by omega)⟩⟩
  obtain ⟨ha, hc, rfl⟩ := own_len ho.oh
  obtain ⟨va, vc, rfl⟩ := own_len ho.ov
  clear ho hb1
  generalize T.held.length = n at *
  generalize T.wait.length = m at *
  go_enter Try.func14, Try.ntmps14
  go_upto_region 2 with fail
  go_loopw [2] (fun v wr => ∃ t : Nat, v = .int .i64 t ∧ t ≤ n ∧ Hid (SP w w.heap.size B n m (.slice ha n hc) (.slice va m vc) wr)) (fun v _ => n - (intOf v).toNat)
  case atStart => exact ⟨0, rfl, Nat.zero_le _, X0⟩
  case round =>
    clear X0
    obtain ⟨t, rfl, ht, X⟩ := hrel
    obtain ⟨x0, x1, -, -, xl⟩ := two_at X.out.bx
    by_cases hlt : t < n
    · have hltI : (t : Int) < (n : Int) := by omega
      have ht0 : (0 : Int) ≤ (t : Int) := by omega
      have hw : IntKind.i64.wrap ((t : Int) + 1) = ((t + 1 : Nat) : Int) := by rw [IntKind.wrap_i64]; omega
      obtain ⟨xs, hx⟩ := X.out.oh
      obtain ⟨a', c', e, hr⟩ := row_at hx
      simp only [Value.slice.injEq, true_and] at e
      obtain ⟨rfl, rfl⟩ := e
      obtain ⟨g, off, cur, u, rfl, hBg, hg, hgl, hcu, hf⟩ := hr t hlt
      have Z := hideIt (X.out.set (j := off + t * 4 + 1) (u := .int .i64 (-1)) hg hBg)
      clear hr hx hg X
      go_wp2
      go_roundw
      case rel => exact ⟨t + 1, by go_num, by omega, Z⟩
      case measure => simp [intOf]; omega
    · have hltI : ¬ (t : Int) < (n : Int) := by omega
      go_upto_region 6 with fail
      clear x0 x1 xl hlt hltI ht
      go_loopw [3] (fun v wr => ∃ t : Nat, v = .int .i64 t ∧ t ≤ m ∧ Hid (SP w w.heap.size B n m (.slice ha n hc) (.slice va m vc) wr)) (fun v _ => m - (intOf v).toNat)
      case atStart => exact ⟨0, rfl, Nat.zero_le _, X⟩
      case round =>
        clear X
        obtain ⟨t, rfl, ht, X⟩ := hrel
        obtain ⟨x0, x1, -, -, xl⟩ := two_at X.out.bx
        by_cases hlt : t < m
        · have hltI : (t : Int) < (m : Int) := by omega
          have ht0 : (0 : Int) ≤ (t : Int) := by omega
          have hw : IntKind.i64.wrap ((t : Int) + 1) = ((t + 1 : Nat) : Int) := by rw [IntKind.wrap_i64]; omega
          obtain ⟨xs, hx⟩ := X.out.ov
          obtain ⟨a', c', e, hr⟩ := row_at hx
          simp only [Value.slice.injEq, true_and] at e
          obtain ⟨rfl, rfl⟩ := e
          obtain ⟨g, off, cur, u, rfl, hBg, hg, hgl, hcu, hf⟩ := hr t hlt
          have Z := hideIt (X.out.set (j := off + t * 4 + 1) (u := .int .i64 (-2)) hg hBg)
          clear hr hx hg X
          go_wp2
          go_roundw
          case rel => exact ⟨t + 1, by go_num, by omega, Z⟩
          case measure => simp [intOf]; omega
        · have hltI : ¬ (t : Int) < (m : Int) := by omega
          go_wp2
          exact bodyPost_end (results_none rfl _ _ _) rfl ⟨rfl, X.out.bel⟩
end Go.Proofs.Ytgfpeknhabbkbaa
