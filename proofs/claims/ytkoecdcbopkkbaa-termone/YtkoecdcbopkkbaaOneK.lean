/- The nodes of an election in memory: a row of ballots, a row of who has led. -/
import Derived.Test.YtkoecdcbopkkbaaOneS
import Derived.Test.YtkoecdcbopkkbaaEnt
namespace Go.Proofs.Ytkoecdcbopkkbaa
open Go.RowKit
def pickN (c : Int) (n : Nat) : Nat := (if c < 0 then (-(c + 1)).toNat else c.toNat) % n
theorem pickN_lt (c : Int) (n : Nat) (h : 0 < n) : pickN c n < n := Nat.mod_lt _ h
set_option maxHeartbeats 1000000 in
theorem pick_is (c : Int) (n : Nat) (w : World) (h : i64B c) (hn : 0 < n) (hn2 : n < 4611686018427387904) :
    Calls Try.prog 23 #[.int .i64 c, .int .i64 (n : Int)] w fun e w' => e = .returned (.int .i64 (pickN c n : Int)) ∧ w' = w := by
  obtain ⟨h0, h1⟩ := h
  unfold pickN
  by_cases hc : c < 0
  · rw [if_pos hc]
    obtain ⟨d, hd⟩ : ∃ d : Nat, -(c + 1) = (d : Int) := Int.eq_ofNat_of_zero_le (by omega)
    rw [hd, Int.toNat_natCast]
    have hcd : c + 1 = -(d : Int) := by omega
    have hdb : d < 9223372036854775808 := by omega
    have hw : c = -(d : Int) - 1 := by omega
    subst hw
    clear hd hcd
    go_enter Try.func23, Try.ntmps23
    go_wp2
    go_ret
    exact ⟨rfl, rfl⟩
  · rw [if_neg hc]
    obtain ⟨d, rfl⟩ : ∃ d : Nat, c = (d : Int) := Int.eq_ofNat_of_zero_le (by omega)
    rw [Int.toNat_natCast]
    go_enter Try.func23, Try.ntmps23
    go_wp2
    go_ret
    exact ⟨rfl, rfl⟩
/-- The cells of n + 1 ballots. -/
structure AOk (cs : Array Value) (n : Nat) (B : Nat → Bal) (G : Nat → Value) : Prop where
  size : cs.size = (n + 1) * 4
  c0 : ∀ k, k ≤ n → cs[k * 4]? = some (.int .i64 (B k).t)
  c1 : ∀ k, k ≤ n → cs[k * 4 + 1]? = some (.int .i64 (B k).v)
  c2 : ∀ k, k ≤ n → cs[k * 4 + 2]? = some (.int .i64 (B k).r)
  c3 : ∀ k, k ≤ n → cs[k * 4 + 3]? = some (G k)
def setG (G : Nat → Value) (k : Nat) (v : Value) : Nat → Value := fun g => if g = k then v else G g
theorem AOk.put {cs : Array Value} {n : Nat} {B : Nat → Bal} {G : Nat → Value} (h : AOk cs n B G) (k : Nat) (hk : k ≤ n) (b : Bal) (g : Value) :
    AOk (putL cs (k * 4) [.int .i64 b.t, .int .i64 b.v, .int .i64 b.r, g]) n (setB B k b) (setG G k g) := by
  have hs := h.size
  have hb : k * 4 + [Value.int .i64 b.t, .int .i64 b.v, .int .i64 b.r, g].length ≤ cs.size := by simp; omega
  refine ⟨by rw [putL_size]; exact hs, ?_, ?_, ?_, ?_⟩
  · intro j hj
    rw [putL_get _ _ _ _ hb]
    by_cases e : j = k
    · subst e
      rw [if_pos (by simp), setB_same, Nat.sub_self]
      rfl
    · rw [if_neg (by simp; omega), setB_other _ _ _ _ e]
      exact h.c0 j hj
  · intro j hj
    rw [putL_get _ _ _ _ hb]
    by_cases e : j = k
    · subst e
      rw [if_pos (by simp), setB_same, show j * 4 + 1 - j * 4 = 1 by omega]
      rfl
    · rw [if_neg (by simp; omega), setB_other _ _ _ _ e]
      exact h.c1 j hj
  · intro j hj
    rw [putL_get _ _ _ _ hb]
    by_cases e : j = k
    · subst e
      rw [if_pos (by simp), setB_same, show j * 4 + 2 - j * 4 = 2 by omega]
      rfl
    · rw [if_neg (by simp; omega), setB_other _ _ _ _ e]
      exact h.c2 j hj
  · intro j hj
    rw [putL_get _ _ _ _ hb]
    by_cases e : j = k
    · subst e
      rw [if_pos (by simp), show j * 4 + 3 - j * 4 = 3 by omega]
      unfold setG
      rw [if_pos rfl]
      rfl
    · rw [if_neg (by simp; omega)]
      unfold setG
      rw [if_neg e]
      exact h.c3 j hj
/-- The role alone is written. -/
theorem AOk.role {cs : Array Value} {n : Nat} {B : Nat → Bal} {G : Nat → Value} (h : AOk cs n B G) (k : Nat) (hk : k ≤ n) (r : Int) :
    AOk (cs.setIfInBounds (k * 4 + 2) (.int .i64 r)) n (setB B k ⟨(B k).t, (B k).v, r, (B k).l⟩) G := by
  have hs := h.size
  refine ⟨by simpa using hs, ?_, ?_, ?_, ?_⟩
  · intro j hj
    rw [Array.getElem?_setIfInBounds, if_neg (by omega), h.c0 j hj]
    by_cases e : j = k
    · subst e
      rw [setB_same]
    · rw [setB_other _ _ _ _ e]
  · intro j hj
    rw [Array.getElem?_setIfInBounds, if_neg (by omega), h.c1 j hj]
    by_cases e : j = k
    · subst e
      rw [setB_same]
    · rw [setB_other _ _ _ _ e]
  · intro j hj
    rw [Array.getElem?_setIfInBounds]
    by_cases e : j = k
    · subst e
      rw [if_pos rfl, if_pos (by omega), setB_same]
    · rw [if_neg (by omega), h.c2 j hj, setB_other _ _ _ _ e]
  · intro j hj
    rw [Array.getElem?_setIfInBounds, if_neg (by omega), h.c3 j hj]
/-- All of an election in memory: the ballots in the block w.heap.size, who has led in the block lb. -/
structure OneAt (w : World) (lb : Nat) (n : Nat) (B : Nat → Bal) (G : Nat → Value) (led : Nat → Int) (wr : World) : Prop where
  arr : ∃ cs, wr.heap[w.heap.size]? = some (.cells cs 26 (0, 0)) ∧ AOk cs n B G
  row : ∃ ls : Array Value, wr.heap[lb]? = some (.cells ls 3 (0, 0)) ∧ ls.size = 200 ∧ ∀ t, t < 200 → ls[t]? = some (.int .i64 (led t))
  own : ∀ k, k ≤ n → wr.ownsRow (lb + 1) 3 1 (G k) (B k).l.length ((B k).l.map iv)
  len : ∀ k, k ≤ n → (B k).l.length * 8 ≤ 140737488355328
  bel : Below w.heap.size w wr
  lt : w.heap.size < lb
theorem OneAt.size {w wr : World} {lb : Nat} {n : Nat} {B : Nat → Bal} {G : Nat → Value} {led : Nat → Int} (h : OneAt w lb n B G led wr) : lb + 1 ≤ wr.heap.size := by
  obtain ⟨ls, hl, _⟩ := h.row
  exact (Array.getElem?_eq_some_iff.1 hl).1
theorem OneAt.keep {w wr wx : World} {lb : Nat} {n : Nat} {B : Nat → Bal} {G : Nat → Value} {led : Nat → Int} (h : OneAt w lb n B G led wr) (hb : Below wr.heap.size wr wx) : OneAt w lb n B G led wx := by
  have hs := h.size
  have hlt := h.lt
  obtain ⟨cs, hc, ha⟩ := h.arr
  obtain ⟨ls, hl, hr⟩ := h.row
  exact ⟨⟨cs, (hb.block _ (by omega)).trans hc, ha⟩, ⟨ls, (hb.block _ (by omega)).trans hl, hr⟩, fun k hk => own_keep (h.own k hk) hb, h.len, below_via h.bel hb, h.lt⟩
theorem OneAt.cells {w wr : World} {lb : Nat} {n : Nat} {B : Nat → Bal} {G : Nat → Value} {led : Nat → Int} (h : OneAt w lb n B G led wr) (k : Nat) (hk : k ≤ n) :
    wr.cell? ⟨w.heap.size, k * 4, none⟩ = some (.int .i64 (B k).t) ∧ wr.cell? ⟨w.heap.size, k * 4 + 1, none⟩ = some (.int .i64 (B k).v) ∧ wr.cell? ⟨w.heap.size, k * 4 + 2, none⟩ = some (.int .i64 (B k).r) ∧ wr.cell? ⟨w.heap.size, k * 4 + 3, none⟩ = some (G k) ∧ ∀ j, wr.frozen? ⟨w.heap.size, j, none⟩ = false := by
  obtain ⟨cs, hc, ha⟩ := h.arr
  exact ⟨(cell_at hc _).trans (ha.c0 k hk), (cell_at hc _).trans (ha.c1 k hk), (cell_at hc _).trans (ha.c2 k hk), (cell_at hc _).trans (ha.c3 k hk), fun j => free_at hc j⟩
theorem OneAt.got {w wr : World} {lb : Nat} {n : Nat} {B : Nat → Bal} {G : Nat → Value} {led : Nat → Int} (h : OneAt w lb n B G led wr) (k : Nat) (hk : k ≤ n) : GotAt wr (G k) (B k).l := own_got (h.own k hk) (h.len k hk)
theorem OneAt.led {w wr : World} {lb : Nat} {n : Nat} {B : Nat → Bal} {G : Nat → Value} {led : Nat → Int} (h : OneAt w lb n B G led wr) (t : Nat) (ht : t < 200) :
    wr.cell? ⟨lb, t, none⟩ = some (.int .i64 (led t)) ∧ wr.frozen? ⟨lb, t, none⟩ = false := by
  obtain ⟨ls, hl, _, hr⟩ := h.row
  exact ⟨(cell_at hl _).trans (hr t ht), free_at hl t⟩
/-- A ballot is written, its list a row of its own. -/
theorem OneAt.put {w wr : World} {lb : Nat} {n : Nat} {B : Nat → Bal} {G : Nat → Value} {led : Nat → Int} (h : OneAt w lb n B G led wr) (k : Nat) (hk : k ≤ n) (b : Bal) (g : Value) (ho : wr.ownsRow (lb + 1) 3 1 g b.l.length (b.l.map iv)) (hl : b.l.length * 8 ≤ 140737488355328) :
    OneAt w lb n (setB B k b) (setG G k g) led ((((wr.setCell ⟨w.heap.size, k * 4, none⟩ (.int .i64 b.t)).setCell ⟨w.heap.size, k * 4 + 1, none⟩ (.int .i64 b.v)).setCell ⟨w.heap.size, k * 4 + 2, none⟩ (.int .i64 b.r)).setCell ⟨w.heap.size, k * 4 + 3, none⟩ g) := by
  obtain ⟨cs, hc, ha⟩ := h.arr
  obtain ⟨ls, hls, hr⟩ := h.row
  have hlt := h.lt
  have hne : lb ≠ w.heap.size := by omega
  refine ⟨⟨putL cs (k * 4) [.int .i64 b.t, .int .i64 b.v, .int .i64 b.r, g], ?_, ha.put k hk b g⟩, ⟨ls, setOther _ (setOther _ (setOther _ (setOther _ hls hne) hne) hne) hne, hr⟩, fun j hj => ?_, fun j hj => ?_, belowSet _ (belowSet _ (belowSet _ (belowSet _ h.bel (Nat.le_refl _)) (Nat.le_refl _)) (Nat.le_refl _)) (Nat.le_refl _), h.lt⟩
  · exact heap_set (heap_set (heap_set (heap_set hc _ _) _ _) _ _) _ _
  · refine ownSet _ (ownSet _ (ownSet _ (ownSet _ ?_ (by omega)) (by omega)) (by omega)) (by omega)
    by_cases e : j = k
    · subst e
      unfold setG
      rw [setB_same, if_pos rfl]
      exact ho
    · unfold setG
      rw [setB_other _ _ _ _ e, if_neg e]
      exact h.own j hj
  · by_cases e : j = k
    · subst e
      rw [setB_same]
      exact hl
    · rw [setB_other _ _ _ _ e]
      exact h.len j hj
theorem OneAt.role {w wr : World} {lb : Nat} {n : Nat} {B : Nat → Bal} {G : Nat → Value} {led : Nat → Int} (h : OneAt w lb n B G led wr) (k : Nat) (hk : k ≤ n) (r : Int) : OneAt w lb n (setB B k ⟨(B k).t, (B k).v, r, (B k).l⟩) G led (wr.setCell ⟨w.heap.size, k * 4 + 2, none⟩ (.int .i64 r)) := by
  have hlt := h.lt
  obtain ⟨cs, hc, ha⟩ := h.arr
  obtain ⟨ls, hls, hr⟩ := h.row
  refine ⟨⟨_, heap_set hc _ _, ha.role k hk r⟩, ⟨ls, setOther _ hls (by omega), hr⟩, fun j hj => ?_, fun j hj => ?_, belowSet _ h.bel (Nat.le_refl _), h.lt⟩
  · have := ownSet (b := w.heap.size) (j := k * 4 + 2) (.int .i64 r) (h.own j hj) (by omega)
    by_cases e : j = k
    · subst e
      rw [setB_same]
      exact this
    · rw [setB_other _ _ _ _ e]
      exact this
  · by_cases e : j = k
    · subst e
      rw [setB_same]
      exact h.len j hj
    · rw [setB_other _ _ _ _ e]
      exact h.len j hj
theorem OneAt.mark {w wr : World} {lb : Nat} {n : Nat} {B : Nat → Bal} {G : Nat → Value} {led : Nat → Int} (h : OneAt w lb n B G led wr) (t : Nat) (ht : t < 200) (v : Int) : OneAt w lb n B G (fun s => if s = t then v else led s) (wr.setCell ⟨lb, t, none⟩ (.int .i64 v)) := by
  have hlt := h.lt
  obtain ⟨ls, hls, hsz, hr⟩ := h.row
  obtain ⟨cs, hc, ha⟩ := h.arr
  refine ⟨⟨cs, setOther _ hc (by omega), ha⟩, ⟨_, heap_set hls _ _, by simpa using hsz, fun s hs => ?_⟩, fun j hj => ownSet _ (h.own j hj) (by omega), h.len, belowSet _ h.bel (by omega), h.lt⟩
  rw [Array.getElem?_setIfInBounds]
  by_cases e : t = s
  · subst e
    rw [if_pos rfl, if_pos (by omega), if_pos rfl]
  · rw [if_neg e, hr s hs, if_neg (fun h => e h.symm)]
theorem made_heap {w w' : World} {e : TypeId} {z n : Nat} {zs : Array Value} {p : Nat} (h : w'.ownsRow w.heap.size e z (.slice (some ⟨p, 0, none⟩) n n) n (madeCells zs (n * z)).toList) : w'.heap[p]? = some (.cells (madeCells zs (n * z)) e (0, 0)) := by
  obtain ⟨_, ⟨hn, _⟩ | ⟨g, cap, cur, hv, _, hg, _, _, hs, ht⟩⟩ := h
  · cases hn
  · simp only [Value.slice.injEq, Option.some.injEq, Addr.mk.injEq] at hv
    obtain ⟨⟨rfl, _⟩, _, rfl⟩ := hv
    rw [hg]
    have : cur = madeCells zs (n * z) := by
      apply Array.toList_inj.1
      rw [← ht, List.take_of_length_le (by simp [hs])]
    rw [this]
/-- What is made at the start. -/
theorem OneAt.start (w w1 w2 : World) (n : Nat) (h1 : w1.heap[w.heap.size]? = some (.cells (madeCells #[.int .i64 0, .int .i64 0, .int .i64 0, .slice none 0 0] ((n + 1) * 4)) 26 (0, 0))) (hb1 : Below w.heap.size w w1)
    (h2 : w2.heap[w1.heap.size]? = some (.cells (madeCells #[.int .i64 0] 200) 3 (0, 0))) (hb2 : Below w1.heap.size w1 w2) : OneAt w w1.heap.size n (fun _ => ⟨0, 0, 0, []⟩) (fun _ => .slice none 0 0) (fun _ => 0) w2 := by
  have hlt : w.heap.size < w1.heap.size := (Array.getElem?_eq_some_iff.1 h1).1
  refine ⟨⟨_, (hb2.block _ (by omega)).trans h1, ⟨by rw [size_madeCells], fun k hk => ?_, fun k hk => ?_, fun k hk => ?_, fun k hk => ?_⟩⟩, ⟨_, h2, by rw [size_madeCells], fun t ht => ?_⟩, fun k _ => ⟨rfl, .inl ⟨rfl, rfl⟩⟩, fun k _ => by simp, below_via hb1 hb2, hlt⟩
  · simp [madeCells, show k * 4 < (n + 1) * 4 by omega]
  · simp [madeCells, show k * 4 + 1 < (n + 1) * 4 by omega, show (k * 4 + 1) % 4 = 1 by omega]
  · simp [madeCells, show k * 4 + 2 < (n + 1) * 4 by omega, show (k * 4 + 2) % 4 = 2 by omega]
  · simp [madeCells, show k * 4 + 3 < (n + 1) * 4 by omega, show (k * 4 + 3) % 4 = 3 by omega]
  · simp [madeCells, ht, Nat.mod_one]
end Go.Proofs.Ytkoecdcbopkkbaa
