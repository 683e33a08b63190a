/- Which of two marks is less, and whether two ballots are the same, said with the very world that comes of it. -/
import Derived.Test.YtkoecdcbopkkbaaEnt
import Derived.Shelf.SlSortCmp.QuietGrown
namespace Go.Proofs.Ytkoecdcbopkkbaa
open Go.RowKit
open Go.Sort
theorem grow2 (w : World) (o p : Obj) (q : Nat) : ((w.alloc o).alloc p).drewN q = grow (w.drewN q) #[o, p] := by
  rw [alloc_eq_grow, alloc_eq_grow, grow_grow]
  rfl
set_option maxHeartbeats 2000000 in
theorem less_g (ai aT bi bt : Int) (w : World) : Calls Try.prog 19 #[.agg #[.int .i64 ai, .int .i64 aT], .agg #[.int .i64 bi, .int .i64 bt]] w fun e w' => e = .returned (.bool (lessB ai aT bi bt)) ∧ ∃ q os, w' = grow (w.drewN q) os := by
  have HB := hideIt (grow2 w (.cells #[.int .i64 ai, .int .i64 aT] 37) (.cells #[.int .i64 bi, .int .i64 bt] 37) 0)
  unfold lessB
  by_cases h1 : aT < bt
  · go_enter Try.func19, Try.ntmps19
    go_wp2
    go_ret
    exact ⟨by simp [h1], _, _, HB.out⟩
  · by_cases h2 : aT = bt
    · subst h2
      go_enter Try.func19, Try.ntmps19
      go_wp2
      go_ret
      exact ⟨by simp, _, _, HB.out⟩
    · have h2b : (aT == bt) = false := beq_eq_false_iff_ne.2 h2
      go_enter Try.func19, Try.ntmps19
      go_wp2
      go_ret
      exact ⟨by simp [h1], _, _, HB.out⟩
set_option maxHeartbeats 2000000 in
theorem rless_g (ai aT bi bt : Int) (w : World) : Calls Try.prog 20 #[.agg #[.int .i64 ai, .int .i64 aT], .agg #[.int .i64 bi, .int .i64 bt]] w fun e w' => e = .returned (.bool (lessB ai aT bi bt)) ∧ ∃ q os, w' = grow (w.drewN q) os := by
  have HB := hideIt (grow2 w (.cells #[.int .i64 ai, .int .i64 aT] 37) (.cells #[.int .i64 bi, .int .i64 bt] 37) 0)
  unfold lessB
  by_cases h1 : aT < bt
  · go_enter Try.func20, Try.ntmps20
    go_wp2
    go_ret
    exact ⟨by simp [h1], _, _, HB.out⟩
  · by_cases h2 : aT = bt
    · subst h2
      go_enter Try.func20, Try.ntmps20
      go_wp2
      go_ret
      exact ⟨by simp, _, _, HB.out⟩
    · have h2b : (aT == bt) = false := beq_eq_false_iff_ne.2 h2
      go_enter Try.func20, Try.ntmps20
      go_wp2
      go_ret
      exact ⟨by simp [h1], _, _, HB.out⟩
set_option maxHeartbeats 4000000 in
set_option maxRecDepth 100000 in
theorem same_g (b : Bal) (g k : Value) (w : World) (hg : GotAt w g b.l) (hk : GotAt w k b.l) : Calls Try.prog 14 #[balV b g, balV b k] w fun e w' => e = .returned (.bool true) ∧ ∃ q os, w' = grow (w.drewN q) os := by
  obtain ⟨t, v, r, l⟩ := b
  simp only at hg hk
  obtain ⟨a, c, rfl, h8, ha⟩ := hg.open
  obtain ⟨a', c', rfl, _, hb⟩ := hk.open
  have HB := hideIt (below2 w (.cells #[.int .i64 t, .int .i64 v, .int .i64 r, .slice a l.length c] 26) (.cells #[.int .i64 t, .int .i64 v, .int .i64 r, .slice a' l.length c'] 26))
  have H2 := hideIt (two_heap w (.cells #[.int .i64 t, .int .i64 v, .int .i64 r, .slice a l.length c] 26) (.cells #[.int .i64 t, .int .i64 v, .int .i64 r, .slice a' l.length c'] 26))
  have HA := hideIt (ha.keep HB.out)
  have HK := hideIt (hb.keep HB.out)
  have HQ := fun W => neq23 t v t v W
  have hq : (t == t && v == v) = true := by simp
  rw [hq] at HQ
  have hr : (r != r) = false := by simp
  have hl : ((l.length : Int) != (l.length : Int)) = false := by simp
  clear hg hk ha hb hq
  unfold balV
  simp only
  go_enter Try.func14, Try.ntmps14
  go_wp2
  go_loopw [5] (fun i wr => ∃ j : Nat, j ≤ l.length ∧ i = .int .i64 j ∧ Hid (∃ n, wr = ((w.alloc (.cells #[.int .i64 t, .int .i64 v, .int .i64 r, .slice a l.length c] 26)).alloc (.cells #[.int .i64 t, .int .i64 v, .int .i64 r, .slice a' l.length c'] 26)).drewN n)) (fun i _ => l.length - (intOf i).toNat)
  case atStart => exact ⟨0, Nat.zero_le _, rfl, hideIt ⟨0, rfl⟩⟩
  case round =>
    obtain ⟨j, hj, rfl, HQ2⟩ := hrel
    have HW : Hid (Below ((w.alloc (.cells #[.int .i64 t, .int .i64 v, .int .i64 r, .slice a l.length c] 26)).alloc (.cells #[.int .i64 t, .int .i64 v, .int .i64 r, .slice a' l.length c'] 26)).heap.size ((w.alloc (.cells #[.int .i64 t, .int .i64 v, .int .i64 r, .slice a l.length c] 26)).alloc (.cells #[.int .i64 t, .int .i64 v, .int .i64 r, .slice a' l.length c'] 26)) wr) := by
      obtain ⟨n, hn⟩ := HQ2.out
      show Below _ _ _
      rw [hn]
      exact below_drewN (Below.refl _ _) n
    have hb0 := (HW.out.block _ (by rw [H2.out.2.2]; omega)).trans H2.out.1
    have hb1 := (HW.out.block _ (by rw [H2.out.2.2]; omega)).trans H2.out.2.1
    have c3 : wr.cell? ⟨w.heap.size, 3, none⟩ = some (.slice a l.length c) := by rw [cell_at hb0]; rfl
    have d3 : wr.cell? ⟨w.heap.size + 1, 3, none⟩ = some (.slice a' l.length c') := by rw [cell_at hb1]; rfl
    have HA2 := hideIt (HA.out.keep HW.out)
    have HK2 := hideIt (HK.out.keep HW.out)
    clear hb0 hb1
    by_cases hlt : j < l.length
    · obtain ⟨b1, o1, rfl, _, e1⟩ := HA2.out j hlt
      obtain ⟨b2, o2, rfl, _, e2⟩ := HK2.out j hlt
      have hlt' : (j : Int) < l.length := by omega
      have hj0 : (0 : Int) ≤ j := by omega
      clear HA2 HK2
      generalize l.getD j 0 = x at *
      go_wp2
      go_quiet (fail)
      go_wp2
      go_roundw
      case rel =>
        obtain ⟨n, hn⟩ := HQ2.out
        exact ⟨j + 1, by omega, by go_num, hideIt ⟨_, by rw [hn]; exact World.drewN_drewN _ _ _⟩⟩
      case measure => simp [intOf]; omega
    · go_wp2
      go_ret
      obtain ⟨n, hn⟩ := HQ2.out
      exact ⟨rfl, n, _, by rw [hn]; exact grow2 w _ _ n⟩
end Go.Proofs.Ytkoecdcbopkkbaa
