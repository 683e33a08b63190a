/- A new disk, its plain fields, a segment's first bytes, how many of those that wait survive. -/
import Derived.Test.YtpgimffghaelhaaNums
import Derived.Carry
namespace Go.Proofs.Ytpgimffghaelhaa
open Go.RowKit Go.Maps

theorem field_any (w : World) (p : Nat) (cs : Array Value) (h : w.heap[p]? = some (.cells cs 64 (0, 0))) (x : Int) (fn : Nat) (j : Nat) (hc : cs[j]? = some (.int .i64 x)) (hf : (fn = 29 ∧ j = 0) ∨ (fn = 25 ∧ j = 1) ∨ (fn = 30 ∧ j = 7)) :
    Calls Try.prog fn #[.pointer (some ⟨p, 0, none⟩)] w fun e w' => e = .returned (.int .i64 x) ∧ Below w.heap.size w w' := by
  have c : w.cell? ⟨p, j, none⟩ = some (.int .i64 x) := by rw [cell_at h]; exact hc
  clear h hc
  rcases hf with ⟨rfl, rfl⟩ | ⟨rfl, rfl⟩ | ⟨rfl, rfl⟩
  · go_enter Try.func29, Try.ntmps29
    go_wp2
    go_ret
    exact ⟨rfl, Below.refl _ _⟩
  · go_enter Try.func25, Try.ntmps25
    go_wp2
    go_ret
    exact ⟨rfl, Below.refl _ _⟩
  · go_enter Try.func30, Try.ntmps30
    go_wp2
    go_ret
    exact ⟨rfl, Below.refl _ _⟩
/-- A new disk. -/
def newS (room : Nat) : St := { room := room, seg := fun _ => ⟨[], 0⟩, fuse := -1, age := 0 }
theorem tot_new (room : Nat) : ∀ n, tot (newS room).seg n = 0
  | 0 => rfl
  | n + 1 => by
    have := tot_new room n
    simp only [tot, this]
    rfl
theorem new_bad (x : Int) (w : World) (h : x < 256 ∨ 1048576 < x) : Calls Try.prog 7 #[.int .i64 x] w fun e w' => e = .returned (.tuple #[.pointer none, .int .i64 1]) ∧ Below w.heap.size w w' := by
  by_cases h1 : x < 256
  · go_enter Try.func7, Try.ntmps7
    go_wp2
    go_ret2
    exact ⟨rfl, Below.refl _ _⟩
  · have h2 : 1048576 < x := by omega
    go_enter Try.func7, Try.ntmps7
    go_wp2
    go_ret2
    exact ⟨rfl, Below.refl _ _⟩
set_option maxHeartbeats 1000000 in
theorem new_good (room : Nat) (w : World) (h : 256 ≤ room) (h2 : room ≤ 1048576) : Calls Try.prog 7 #[.int .i64 (room : Int)] w fun e w' => ∃ p, e = .returned (.tuple #[.pointer (some ⟨p, 0, none⟩), .int .i64 0]) ∧
    DiskAt w' (fun k => w.heap.size ≤ k ∧ k < w'.heap.size) p (newS room) 0 ∧ Below w.heap.size w w' := by
  have h1' : ¬ ((room : Int) < 256) := by omega
  have h2' : ¬ ((1048576 : Int) < room) := by omega
  have hmm := @run_makeMap Try.prog
  go_enter Try.func7, Try.ntmps7
  go_wp2
  go_ret2
  refine ⟨w.heap.size + 1, rfl, ⟨w.heap.size, 0, false, 0, 0, fun _ => 0, fun _ => 0, .map [], ⟨?_, ?_, ?_, ?_, ?_, ?_, ?_, ?_, ?_⟩, ⟨by omega, by omega, by omega, by omega, by omega, .inl ⟨rfl, rfl⟩⟩, ⟨h2, fun k => Nat.le_refl _, by rw [tot_new]; omega, by simp [newS], by simp [newS]⟩, by simp [newS]⟩, ?_⟩
  · rw [tot_new]
    exact heap_alloc2_new w _ _
  · exact (World.ownsMap_made w Try.prog 3 heldR).alloc _
  · intro k _ h
    exact absurd rfl h
  · intro x _ z
    rfl
  · intro k _ h
    exact absurd rfl h
  · intro i j _ _ _ h
    exact absurd rfl h
  · simp
  · simp; omega
  · simp
  · exact ((Below.refl _ w).alloc (Nat.le_refl _) _).alloc (by simp) _
set_option maxHeartbeats 2000000 in
theorem first_any (w : World) (g len c n : Nat) (s : Int) (hn : n ≤ len) (hc : len ≤ c) :
    Calls Try.prog 50 #[.agg #[.slice (some ⟨g, 0, none⟩) len c, .int .i64 s], .int .i64 (n : Int)] w fun e w' => e = .returned (.agg #[.slice (some ⟨g, 0, none⟩) n c, .int .i64 (min s n)]) ∧ Below w.heap.size w w' := by
  have hn' : (n : Int) ≤ c := by omega
  go_enter Try.func50, Try.ntmps50
  go_wp2
  go_region
  go_wp2
  (try simp only [Exit.inBlock, Exit.then])
  refine bodyPost_ret (results_cell_row rfl _ _ (w.heap.size + 1) 72 #[.slice (some ⟨g, 0, none⟩) n c, .int .i64 (min s n)] (0, 0) _ rfl (heap_alloc2_new w _ _) Try.underlying72 rfl (by kernel_rfl)) rfl ?_
  exact ⟨rfl, (((Below.refl _ w).alloc (Nat.le_refl _) _).alloc (by simp) _).drew⟩
set_option maxHeartbeats 1000000 in
theorem surv_any (w : World) (b off c : Nat) (a : Option Addr) (keep : List Int) (ws i : Nat) (hws : ws ≤ 9223372036854775807)
    (ha : ∀ j (h : j < keep.length), a = some ⟨b, off, none⟩ ∧ w.cell? ⟨b, off + j, none⟩ = some (.int .i64 keep[j]) ∧ -9223372036854775808 ≤ keep[j] ∧ keep[j] ≤ 9223372036854775807) :
    Calls Try.prog 51 #[.slice a keep.length c, .int .i64 (i : Int), .int .i64 (ws : Int)] w fun e w' => e = .returned (.int .i64 (surv keep i ws : Int)) ∧ w' = w := by
  by_cases h : i < keep.length
  · have h' : ¬ ((keep.length : Int) ≤ i) := by omega
    have h2 : (i : Int) < keep.length := by omega
    obtain ⟨rfl, hc, h3, h4⟩ := ha i h
    have e : ((surv keep i ws : Nat) : Int) = min (max keep[i] 0) (ws : Int) := by unfold surv; rw [dif_pos h]; omega
    rw [e]
    clear e ha
    go_enter Try.func51, Try.ntmps51
    go_wp2
    go_ret
    exact ⟨rfl, rfl⟩
  · have h' : (keep.length : Int) ≤ i := by omega
    have e : ((surv keep i ws : Nat) : Int) = 0 := by unfold surv; rw [dif_neg h]; rfl
    rw [e]
    clear e ha
    go_enter Try.func51, Try.ntmps51
    go_wp2
    go_ret
    exact ⟨rfl, rfl⟩
end Go.Proofs.Ytpgimffghaelhaa
