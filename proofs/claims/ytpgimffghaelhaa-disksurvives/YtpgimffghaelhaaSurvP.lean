/- The plain mathematics of what survives a crash. -/
import Derived.Test.YtpgimffghaelhaaPlain
namespace Go.Proofs.Ytpgimffghaelhaa

theorem readV_all (S : St) (k : Nat) (h0 : S.fuse ≠ 0) (hk : k < 1000) : readV S (k : Int) = (S.seg k).bytes := by
  by_cases ht : thereI S (k : Int)
  · have e : readE S (k : Int) = 0 := by unfold readE; rw [if_neg h0, if_neg (fun h => h ht)]
    unfold readV
    rw [if_pos e]
    simp
  · have e : readE S (k : Int) = 30 := by unfold readE; rw [if_neg h0, if_pos ht]
    unfold readV
    rw [e, if_neg (by decide)]
    have : (S.seg k).bytes = [] := Classical.byContradiction fun hne => ht ⟨by omega, by omega, by simpa using hne⟩
    exact this.symm
/-- How many bytes of a segment survive. -/
def left (f : Nat → Seg) (keep : List Int) (k : Nat) : Nat := if waits (f k) = 0 then (f k).bytes.length else (f k).safe + surv keep (waiting f k) (waits (f k))
theorem crash_bytes (f : Nat → Seg) (keep : List Int) (k : Nat) (hk : k < 1000) : (crashSeg f keep 1000 k).bytes = (f k).bytes.take (left f keep k) := by
  unfold crashSeg crashAt left
  rw [if_pos hk]
  split
  · simp
  · rfl
theorem left_le (f : Nat → Seg) (keep : List Int) (k : Nat) (h : (f k).safe ≤ (f k).bytes.length) : left f keep k ≤ (f k).bytes.length := by
  unfold left
  split
  · exact Nat.le_refl _
  · have := surv_le keep (waiting f k) (waits (f k))
    unfold waits at *
    omega
theorem left_nil (f : Nat → Seg) (keep : List Int) (k : Nat) : left f [] k ≤ left f keep k := by
  unfold left
  split
  · exact Nat.le_refl _
  · have : surv [] (waiting f k) (waits (f k)) = 0 := by simp [surv]
    omega
theorem crash_safe (f : Nat → Seg) (keep : List Int) (k : Nat) (hk : k < 1000) : waits (crashSeg f keep 1000 k) = 0 := by
  unfold crashSeg crashAt
  rw [if_pos hk]
  split
  · assumption
  · have := surv_le keep (waiting f k) (waits (f k))
    unfold waits crashOne at *
    simp only [List.length_take]
    omega
theorem waiting_zero (f : Nat → Seg) (h : ∀ k, k < 1000 → waits (f k) = 0) : ∀ n, n ≤ 1000 → waiting f n = 0
  | 0, _ => rfl
  | n + 1, hn => by rw [waiting_succ, waiting_zero f h n (by omega), if_pos (h n (by omega))]
theorem crash_twice (f : Nat → Seg) (keep : List Int) : crashSeg (crashSeg f keep 1000) [] 1000 = crashSeg f keep 1000 := by
  funext k
  by_cases hk : k < 1000
  · have hw := crash_safe f keep k hk
    show (if k < 1000 then crashAt (crashSeg f keep 1000) [] k else crashSeg f keep 1000 k) = _
    rw [if_pos hk]
    unfold crashAt
    rw [if_pos hw]
  · show (if k < 1000 then crashAt (crashSeg f keep 1000) [] k else crashSeg f keep 1000 k) = _
    rw [if_neg hk]
theorem nums_fewer (f g : Nat → Seg) (h : ∀ k, k < 1000 → (g k).bytes ≠ [] → (f k).bytes ≠ []) : (nums g 1000).length ≤ (nums f 1000).length := by
  have e : nums g 1000 = (nums f 1000).filter (isThere g) := by
    unfold nums
    rw [List.filter_filter]
    refine List.filter_congr fun k hk => ?_
    have hk' : k < 1000 := by simpa using hk
    by_cases hg : isThere g k = true
    · have : isThere f k = true := (isThere_iff f k).2 (h k hk' ((isThere_iff g k).1 hg))
      simp [hg, this]
    · simp at hg
      simp [hg]
  rw [e]
  exact List.length_filter_le _ _
end Go.Proofs.Ytpgimffghaelhaa
