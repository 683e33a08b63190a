/- Whether a log may be, and what index it has last: the program's answer and the document's. -/
import Derived.Test.YtonhoopmhkomcaaSmall
namespace Go.Proofs.Ytonhoopmhkomcaa
open Go.RowKit
/-- A log. -/
structure LogV where
  bi : Int
  bt : Int
  l : List EntV
  cm : Int
def logA (L : LogV) (g : Value) : Array Value := #[.int .i64 L.bi, .int .i64 L.bt, g, .int .i64 L.cm]
def logV (L : LogV) (g : Value) : Value := .agg (logA L g)
def lasI (L : LogV) : Int := L.bi + (L.l.length : Int)
def mayB (L : LogV) : Bool := mkB L.bi L.bt && decide (L.l.length ≤ 400) && rowsB L.l L.bt && decide (lasI L ≤ 1000000) && wiB L.cm L.bi (lasI L)
theorem mkB_in {i t : Int} (h : mkB i t = true) : (0 ≤ i ∧ i ≤ 1000000) ∧ (0 ≤ t ∧ t ≤ 1000000) ∧ (i = 0 ↔ t = 0) := by
  simp only [mkB, wiB, Bool.and_eq_true, decide_eq_true_eq, beq_iff_eq] at h
  obtain ⟨⟨h1, h2⟩, h3⟩ := h
  refine ⟨h1, h2, ?_⟩
  rw [Bool.eq_iff_iff] at h3
  simpa using h3
theorem mayB_in {L : LogV} (h : mayB L = true) : (0 ≤ L.bi ∧ L.bi ≤ 1000000) ∧ (0 ≤ L.bt ∧ L.bt ≤ 1000000) ∧ L.l.length ≤ 400 ∧ rowsB L.l L.bt = true ∧ lasI L ≤ 1000000 ∧ L.bi ≤ L.cm ∧ L.cm ≤ lasI L := by
  simp only [mayB, Bool.and_eq_true, decide_eq_true_eq] at h
  obtain ⟨⟨⟨⟨h1, h2⟩, h3⟩, h4⟩, h5⟩ := h
  have h6 := mkB_in h1
  simp only [wiB, decide_eq_true_eq] at h5
  exact ⟨h6.1, h6.2.1, h2, h3, h4, h5.1, h5.2⟩
/-- An index that can be said. -/
def Near (L : LogV) : Prop := -1000000 ≤ L.bi ∧ L.bi ≤ 2000000 ∧ L.l.length ≤ 1000
set_option maxHeartbeats 1000000 in
theorem lastIndex_is (L : LogV) (g : Value) (w : World) (h : EGot w g L.l) (hn : Near L) : Calls Try.prog 38 #[logV L g] w fun e w' => e = .returned (.int .i64 (lasI L)) ∧ w' = w.alloc (.cells (logA L g) 26) := by
  obtain ⟨a, c, rfl, _⟩ := h.open
  obtain ⟨bi, bt, l, cm⟩ := L
  obtain ⟨n1, n2, n3⟩ := hn
  simp only at n1 n2 n3
  unfold logV logA lasI
  simp only
  go_enter Try.func38, Try.ntmps38
  go_wp2
  go_ret
  exact ⟨rfl, rfl⟩
set_option maxHeartbeats 1000000 in
theorem rEnd_is (L : LogV) (g : Value) (w : World) (h : EGot w g L.l) (hn : Near L) : Calls Try.prog 30 #[logV L g] w fun e w' => e = .returned (.int .i64 (lasI L)) ∧ w' = w.alloc (.cells (logA L g) 26) := by
  obtain ⟨a, c, rfl, _⟩ := h.open
  obtain ⟨bi, bt, l, cm⟩ := L
  obtain ⟨n1, n2, n3⟩ := hn
  simp only at n1 n2 n3
  unfold logV logA lasI
  simp only
  go_enter Try.func30, Try.ntmps30
  go_wp2
  go_ret
  exact ⟨rfl, rfl⟩
end Go.Proofs.Ytonhoopmhkomcaa
