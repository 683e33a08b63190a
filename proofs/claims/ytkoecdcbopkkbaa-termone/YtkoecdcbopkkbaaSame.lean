/- Two ballots that are the same, held against each other; a list that is spoilt. -/
import Derived.Test.YtkoecdcbopkkbaaRef
namespace Go.Proofs.Ytkoecdcbopkkbaa
open Go.RowKit
set_option maxHeartbeats 4000000 in
set_option maxRecDepth 100000 in
theorem same_is (b : Bal) (g k : Value) (w : World) (hg : GotAt w g b.l) (hk : GotAt w k b.l) : Calls Try.prog 14 #[balV b g, balV b k] w fun e w' => e = .returned (.bool true) ∧ Below w.heap.size w w' := by
  obtain ⟨t, v, r, l⟩ := b
  simp only at hg hk
  obtain ⟨a, c, rfl, h8, ha⟩ := hg.open
  obtain ⟨a', c', rfl, _, hb⟩ := hk.open
  have HB := hideIt (below2 w (.cells #[.int .i64 t, .int .i64 v, .int .i64 r, .slice a l.length c] 26) (.cells #[.int .i64 t, .int .i64 v, .int .i64 r, .slice a' l.length c'] 26))
  have H2 := hideIt (two_heap w (.cells #[.int .i64 t, .int .i64 v, .int .i64 r, .slice a l.length c] 26) (.cells #[.int .i64 t, .int .i64 v, .int .i64 r, .slice a' l.length c'] 26))
  have HA := hideIt (ha.keep HB.out)
  have HK := hideIt (hb.keep HB.out)
  have HQ := fun W => neq23 t v t v W
  have hq : (t == t && v == v) = true := by simp
  rw [hq] at HQ
  have hr : (r != r) = false := by simp
  have hl : ((l.length : Int) != (l.length : Int)) = false := by simp
  clear hg hk ha hb hq
  unfold balV
  simp only
  go_enter Try.func14, Try.ntmps14
  go_wp2
  go_loopw [5] (fun i wr => ∃ j : Nat, j ≤ l.length ∧ i = .int .i64 j ∧ Hid (Below ((w.alloc (.cells #[.int .i64 t, .int .i64 v, .int .i64 r, .slice a l.length c] 26)).alloc (.cells #[.int .i64 t, .int .i64 v, .int .i64 r, .slice a' l.length c'] 26)).heap.size ((w.alloc (.cells #[.int .i64 t, .int .i64 v, .int .i64 r, .slice a l.length c] 26)).alloc (.cells #[.int .i64 t, .int .i64 v, .int .i64 r, .slice a' l.length c'] 26)) wr)) (fun i _ => l.length - (intOf i).toNat)
  case atStart => exact ⟨0, Nat.zero_le _, rfl, hideIt (Below.refl _ _)⟩
  case round =>
    obtain ⟨j, hj, rfl, HW⟩ := hrel
    have hb0 := (HW.out.block _ (by rw [H2.out.2.2]; omega)).trans H2.out.1
    have hb1 := (HW.out.block _ (by rw [H2.out.2.2]; omega)).trans H2.out.2.1
    have c3 : wr.cell? ⟨w.heap.size, 3, none⟩ = some (.slice a l.length c) := by rw [cell_at hb0]; rfl
    have d3 : wr.cell? ⟨w.heap.size + 1, 3, none⟩ = some (.slice a' l.length c') := by rw [cell_at hb1]; rfl
    have HBW := hideIt (below_via HB.out HW.out)
    have HA2 := hideIt (HA.out.keep HW.out)
    have HK2 := hideIt (HK.out.keep HW.out)
    clear hb0 hb1
    by_cases hlt : j < l.length
    · obtain ⟨b1, o1, rfl, _, e1⟩ := HA2.out j hlt
      obtain ⟨b2, o2, rfl, _, e2⟩ := HK2.out j hlt
      have hlt' : (j : Int) < l.length := by omega
      have hj0 : (0 : Int) ≤ j := by omega
      clear HA2 HK2
      generalize l.getD j 0 = x at *
      go_wp2
      go_quiet (fail)
      go_wp2
      go_roundw
      case rel => exact ⟨j + 1, by omega, by go_num, hideIt (below_drewN HW.out _)⟩
      case measure => simp [intOf]; omega
    · go_wp2
      go_ret
      exact ⟨rfl, HBW.out⟩
/-- Only a list's own row is written, when it is spoilt. -/
def Spoilt (g : Value) (w : World) (e : Ending) (w' : World) : Prop := e = .returned (.tuple #[]) ∧ Out (fun k => g.ownBlock = some k) w w'
set_option maxHeartbeats 4000000 in
set_option maxRecDepth 100000 in
theorem spoil_is (b : Bal) (g : Value) (B : Nat) (w : World) (h : w.ownsRow B 3 1 g b.l.length (b.l.map iv)) : Calls Try.prog 15 #[balV b g] w (Spoilt g w) := by
  obtain ⟨t, v, r, l⟩ := b
  simp only at h
  unfold balV
  simp only
  obtain ⟨_, ⟨rfl, h0⟩ | ⟨q, cap, cur, rfl, hB, hq, hn, hc, hs, ht⟩⟩ := h
  · go_enter Try.func15, Try.ntmps15
    go_wp2
    go_loop [2] (fun i => i = .int .i64 0) (fun _ => 0)
    case atStart => rfl
    case round =>
      subst hrel
      go_wp2
      exact bodyPost_ret (results_none rfl _ _ _) rfl ⟨rfl, Out.ofAlloc w _⟩
  · have hql : q < w.heap.size := (Array.getElem?_eq_some_iff.1 hq).1
    have hc9 : cap ≤ 9223372036854775807 := hc
    clear hc
    have HQ : Hid ((∃ cur, (w.alloc (.cells #[.int .i64 t, .int .i64 v, .int .i64 r, .slice (some ⟨q, 0, none⟩) l.length cap] 26)).heap[q]? = some (.cells cur 3 (0, 0)) ∧ cur.size = cap) ∧ Out (fun k => k = q) (w.alloc (.cells #[.int .i64 t, .int .i64 v, .int .i64 r, .slice (some ⟨q, 0, none⟩) l.length cap] 26)) (w.alloc (.cells #[.int .i64 t, .int .i64 v, .int .i64 r, .slice (some ⟨q, 0, none⟩) l.length cap] 26))) :=
      ⟨⟨cur, (heap_alloc_old w _ hql).trans hq, by omega⟩, Out.refl _ _⟩
    have HX := hideIt (heap_alloc_new w (.cells #[.int .i64 t, .int .i64 v, .int .i64 r, .slice (some ⟨q, 0, none⟩) l.length cap] 26))
    have Hql := hideIt hql
    generalize hL : l.length = n at *
    clear hq hs ht hB hql hL
    go_enter Try.func15, Try.ntmps15
    go_wp2
    go_loopw [2] (fun i wr => ∃ j : Nat, j ≤ n ∧ i = .int .i64 j ∧ Hid ((∃ cur, wr.heap[q]? = some (.cells cur 3 (0, 0)) ∧ cur.size = cap) ∧ Out (fun k => k = q) (w.alloc (.cells #[.int .i64 t, .int .i64 v, .int .i64 r, .slice (some ⟨q, 0, none⟩) n cap] 26)) wr)) (fun i _ => n - (intOf i).toNat)
    case atStart => exact ⟨0, Nat.zero_le _, rfl, HQ⟩
    case round =>
      obtain ⟨j, hj, rfl, HR⟩ := hrel
      have c3 : wr.cell? ⟨w.heap.size, 3, none⟩ = some (.slice (some ⟨q, 0, none⟩) n cap) := by
        rw [cell_at ((HR.out.2.block _ (by simp) (by have := Hql.out; omega)).trans HX.out)]
        rfl
      by_cases hlt : j < n
      · obtain ⟨⟨cur2, hc2, hs2⟩, hO⟩ := HR.out
        have hu : wr.cell? ⟨q, j, none⟩ = some (cur2[j]'(by omega)) := by
          rw [cell_at hc2]
          exact Array.getElem?_eq_getElem (by omega)
        have hf : wr.frozen? ⟨q, j, none⟩ = false := free_at hc2 j
        have HN : Hid ((∃ cur, (wr.setCell ⟨q, j, none⟩ (.int .i64 (-1))).heap[q]? = some (.cells cur 3 (0, 0)) ∧ cur.size = cap) ∧ Out (fun k => k = q) (w.alloc (.cells #[.int .i64 t, .int .i64 v, .int .i64 r, .slice (some ⟨q, 0, none⟩) n cap] 26)) (wr.setCell ⟨q, j, none⟩ (.int .i64 (-1)))) :=
          ⟨⟨_, heap_set hc2 j _, by simpa using hs2⟩, hO.trans (Out.ofSet (F := fun k => k = q) wr ⟨q, j, none⟩ _ rfl) (fun _ _ h => h)⟩
        generalize (cur2[j]'(by omega)) = u at *
        clear hc2 hs2 hO HR HQ
        go_wp2
        go_roundw
        case rel => exact ⟨j + 1, by omega, by go_num, HN⟩
        case measure => simp [intOf]; omega
      · go_wp2
        refine bodyPost_ret (results_none rfl _ _ _) rfl ⟨rfl, ?_⟩
        refine (Out.ofAlloc (F := fun k => (Value.slice (some ⟨q, 0, none⟩) n cap).ownBlock = some k) w _).trans HR.out.2 (fun i _ h => ?_)
        rw [h]
        rfl
end Go.Proofs.Ytkoecdcbopkkbaa
