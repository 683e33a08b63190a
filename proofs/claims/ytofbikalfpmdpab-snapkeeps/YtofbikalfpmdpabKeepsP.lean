/- What is left of a log may be, and its last mark stays: plain mathematics. -/
import Derived.Test.YtofbikalfpmdpabTwiceP
import Derived.Test.YtofbikalfpmdpabRInst
import Derived.Test.YtofbikalfpmdpabLast
namespace Go.Proofs.Ytofbikalfpmdpab
open Go.RowKit
theorem mark_at {L : LogV} (i : Int) (k : Nat) (hk : k < L.l.length) (hi : i = L.bi + 1 + k) : markL L i = ((i, (L.l[k]).term), true) := by
  have hb : hasB L i = true := decide_eq_true (by unfold lasI; omega)
  rw [markL, if_neg (by omega), hb]
  simp only [if_true]
  rw [show i - L.bi - 1 = (k : Int) by omega, Int.toNat_natCast]
  simp [List.getD, List.getElem?_eq_getElem hk]
/-- The last mark of what stands behind an index. -/
theorem last_cut {L : LogV} (i cm : Int) (k : Nat) (hk : k < L.l.length) (hi : i = L.bi + 1 + k) : lasM ⟨i, (L.l[k]).term, L.l.drop (k + 1), cm⟩ = lasM L := by
  obtain ⟨n, hn⟩ : ∃ n, L.l.length = n + 1 := ⟨L.l.length - 1, by omega⟩
  have hL : lasM L = (lasI L, (L.l[n]'(by omega)).term) := by
    rw [lasM, mark_at (lasI L) n (by omega) (by unfold lasI; omega)]
  rw [hL]
  by_cases he : k = n
  · subst he
    have hX : lasI ⟨i, (L.l[k]).term, L.l.drop (k + 1), cm⟩ = i := by
      unfold lasI
      simp only [List.length_drop]
      omega
    rw [lasM, hX, markL, if_pos rfl]
    simp only
    rw [show lasI L = i by unfold lasI; omega]
  · have hX : lasI ⟨i, (L.l[k]).term, L.l.drop (k + 1), cm⟩ = lasI L := by
      unfold lasI
      simp only [List.length_drop]
      omega
    rw [lasM, hX, mark_at (L := ⟨i, (L.l[k]).term, L.l.drop (k + 1), cm⟩) (lasI L) (n - (k + 1)) (by simp only [List.length_drop]; omega) (by simp only; unfold lasI; omega)]
    simp only [List.getElem_drop]
    congr 3
    omega
theorem last_comp {L : LogV} (h : mayB L = true) (i : Int) (h1 : L.bi < i) (h2 : i ≤ L.cm) : lastL (compL L i).1 = lastL L := by
  have hm2 := comp_may h i h1 h2
  have hin := mayB_in h
  unfold lasI at hin
  obtain ⟨k, hk⟩ : ∃ k : Nat, i = L.bi + 1 + k := ⟨(i - L.bi - 1).toNat, by omega⟩
  have hkl : k < L.l.length := by omega
  rw [lastL, if_pos hm2, lastL, if_pos h, compL, if_pos h, if_pos ⟨h1, h2⟩, term_at h i k hkl hk, show (i - L.bi).toNat = k + 1 by omega]
  exact last_cut i L.cm k hkl hk
/-- What is installed behind a mark that is there. -/
theorem inst_may {L : LogV} (h : mayB L = true) (i t : Int) (hk : mkB i t = true) (hc : L.cm < i) (hq : (termL L i).2 = true ∧ (termL L i).1 = t) : mayB ⟨i, t, L.l.drop (i - L.bi).toNat, i⟩ = true ∧ lastL ⟨i, t, L.l.drop (i - L.bi).toNat, i⟩ = lastL L := by
  have hin := mayB_in h
  have hle := term_in h i hq.1
  unfold lasI at hin hle
  obtain ⟨k, hk2⟩ : ∃ k : Nat, i = L.bi + 1 + k := ⟨(i - L.bi - 1).toNat, by omega⟩
  have hkl : k < L.l.length := by omega
  have ht := term_at h i k hkl hk2
  rw [ht] at hq
  obtain ⟨_, rfl⟩ := hq
  rw [show (i - L.bi).toNat = k + 1 by omega]
  have hr := rows_drop L.l L.bt k hkl hin.2.2.2.1
  have hm : mayB ⟨i, (L.l[k]).term, L.l.drop (k + 1), i⟩ = true := by
    simp only [mayB, lasI, List.length_drop, hr, hk, wiB, Bool.true_and, Bool.and_true]
    simp only [Bool.and_eq_true, decide_eq_true_eq]
    refine ⟨⟨by omega, by omega⟩, by omega, by omega⟩
  refine ⟨hm, ?_⟩
  rw [lastL, if_pos hm, lastL, if_pos h]
  exact last_cut i i k hkl hk2
theorem inst_alone (i t : Int) (hk : mkB i t = true) : mayB ⟨i, t, [], i⟩ = true ∧ lastL ⟨i, t, [], i⟩ = (i, t) := by
  have hm : mayB ⟨i, t, [], i⟩ = true := by rw [may_mark, hk]
  refine ⟨hm, ?_⟩
  rw [lastL, if_pos hm, lasM, markL, if_pos (by simp [lasI])]
end Go.Proofs.Ytofbikalfpmdpab
