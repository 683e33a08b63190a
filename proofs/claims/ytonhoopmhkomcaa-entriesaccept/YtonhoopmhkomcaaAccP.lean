/- What a log is that is sent entries: plain data. -/
import Derived.Test.YtonhoopmhkomcaaLast
namespace Go.Proofs.Ytonhoopmhkomcaa
open Go.RowKit
def zL : LogV := ⟨0, 0, [], 0⟩
/-- Whether a log has a mark. -/
def hasM (L : LogV) (i t : Int) : Bool := (markL L i).2 && ((markL L i).1.1 == i && (markL L i).1.2 == t)
theorem markL_fst {L : LogV} {i : Int} (h : (markL L i).2 = true) : (markL L i).1.1 = i ∧ L.bi ≤ i ∧ i ≤ lasI L ∨ i = L.bi := by
  unfold markL at h ⊢
  by_cases c : i = L.bi
  · exact .inr c
  · rw [if_neg c] at h ⊢
    cases hb : hasB L i
    · rw [hb] at h
      simp at h
    · have : L.bi + 1 ≤ i ∧ i ≤ lasI L := of_decide_eq_true hb
      exact .inl ⟨by simp, by omega, this.2⟩
theorem hasM_in {L : LogV} {i t : Int} (h : hasM L i t = true) : L.bi ≤ i ∧ i ≤ lasI L := by
  simp only [hasM, Bool.and_eq_true] at h
  rcases markL_fst h.1 with ⟨_, h1, h2⟩ | h1
  · exact ⟨h1, h2⟩
  · unfold lasI
    omega
/-- How many entries behind an index change nothing. -/
def passR (L : LogV) : Int → List EntV → Nat
  | _, [] => 0
  | p, e :: es => if p + 1 ≤ L.bi ∨ hasM L (p + 1) e.term = true then passR L (p + 1) es + 1 else 0
theorem passR_le (L : LogV) : ∀ (es : List EntV) (p : Int), passR L p es ≤ es.length
  | [], _ => Nat.le_refl _
  | e :: es, p => by
    rw [passR]
    split
    · have := passR_le L es (p + 1)
      rw [List.length_cons]
      omega
    · exact Nat.zero_le _
/-- All up to where they stop is ahead of the base's end or there. -/
theorem passR_in (L : LogV) : ∀ (es : List EntV) (p : Int), p ≤ lasI L → p + passR L p es ≤ lasI L
  | [], p, h => by simpa [passR] using h
  | e :: es, p, h => by
    rw [passR]
    split
    · rename_i hc
      have hp : p + 1 ≤ lasI L := by
        rcases hc with hc | hc
        · unfold lasI
          omega
        · exact (hasM_in hc).2
      have := passR_in L es (p + 1) hp
      omega
    · simpa using h
theorem passR_base (L : LogV) : ∀ (es : List EntV) (p : Int), passR L p es < es.length → L.bi ≤ p + passR L p es ∨ p + passR L p es < L.bi → L.bi ≤ p + passR L p es
  | [], p, h, _ => by simp at h
  | e :: es, p, h, _ => by
    rw [passR] at h ⊢
    split at h
    · rename_i hc
      rw [if_pos hc]
      rw [List.length_cons] at h
      have := passR_base L es (p + 1) (by omega) (by omega)
      omega
    · rename_i hc
      rw [if_neg hc]
      have : ¬ p + 1 ≤ L.bi := fun h => hc (.inl h)
      omega
theorem passR_drop (L : LogV) (es : List EntV) (p : Int) (t : Nat) (h : t < es.length) : passR L (p + t) (es.drop t) = if p + t + 1 ≤ L.bi ∨ hasM L (p + t + 1) (es[t]).term = true then passR L (p + t + 1) (es.drop (t + 1)) + 1 else 0 := by
  rw [List.drop_eq_getElem_cons h]
  rfl
/-- A log up to an index. -/
def cutL (L : LogV) (i : Int) : LogV := ⟨L.bi, L.bt, L.l.take (i - L.bi).toNat, L.cm⟩
def putL (L : LogV) (p : Int) (es : List EntV) : LogV × Int :=
  if passR L p es = es.length then (L, 0) else if p + passR L p es < L.cm then (zL, 80) else
  if (es.getD (passR L p es) noE).term < (lasM (cutL L (p + passR L p es))).2 then (zL, 80) else
  if 400 < (cutL L (p + passR L p es)).l.length + (es.length - passR L p es) ∨ 1000000 < lasI (cutL L (p + passR L p es)) + ((es.length - passR L p es : Nat) : Int) then (zL, 2) else
  (⟨L.bi, L.bt, (cutL L (p + passR L p es)).l ++ es.drop (passR L p es), L.cm⟩, 0)
def argB (pi pt : Int) (es : List EntV) (c : Int) : Bool := mkB pi pt && wiB c 0 1000000 && rowsB es pt
/-- A log that is sent entries behind a mark. -/
def accL (L : LogV) (pi pt : Int) (es : List EntV) (c : Int) : LogV × Int × Bool × Int :=
  if mayB L = false then (zL, 0, false, 80) else if argB pi pt es c = false then (zL, 0, false, 1) else
  if L.bi ≤ pi ∧ hasM L pi pt = false then (L, 0, false, 0) else
  if (putL L pi es).2 ≠ 0 then (zL, 0, false, (putL L pi es).2) else
  (⟨(putL L pi es).1.bi, (putL L pi es).1.bt, (putL L pi es).1.l, max L.cm (min c (pi + (es.length : Int)))⟩, max (pi + (es.length : Int)) L.bi, true, 0)
theorem put_len (L : LogV) (p : Int) (es : List EntV) (h : L.l.length ≤ 400) : (putL L p es).1.l.length ≤ 400 := by
  unfold putL
  split
  · exact h
  · split
    · exact Nat.zero_le _
    · split
      · exact Nat.zero_le _
      · split
        · exact Nat.zero_le _
        · rename_i hc
          simp only [List.length_append, List.length_drop]
          omega
end Go.Proofs.Ytonhoopmhkomcaa
