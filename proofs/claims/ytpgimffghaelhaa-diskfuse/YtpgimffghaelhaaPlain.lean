/- The plain mathematics of a disk: what its calls make of it; nothing here names the program. -/
namespace Go.Proofs.Ytpgimffghaelhaa

/-- A segment: its bytes, and how many of them are safe. -/
structure Seg where
  bytes : List UInt8
  safe : Nat
/-- A disk: room, segments by number, fuse (below nought: none), age. -/
structure St where
  room : Nat
  seg : Nat → Seg
  fuse : Int
  age : Nat
def tot (f : Nat → Seg) : Nat → Nat
  | 0 => 0
  | n + 1 => tot f n + (f n).bytes.length
def put (f : Nat → Seg) (k : Nat) (g : Seg) : Nat → Seg := fun i => if i = k then g else f i
theorem put_same (f : Nat → Seg) (k : Nat) (g : Seg) : put f k g k = g := by simp [put]
theorem put_other (f : Nat → Seg) (k j : Nat) (g : Seg) (h : j ≠ k) : put f k g j = f j := by simp [put, h]
theorem put_self (f : Nat → Seg) (k : Nat) : put f k (f k) = f := by funext i; simp only [put]; split <;> simp_all
theorem tot_put_ge (f : Nat → Seg) (k : Nat) (g : Seg) : ∀ n, n ≤ k → tot (put f k g) n = tot f n
  | 0, _ => rfl
  | n + 1, h => by simp only [tot]; rw [tot_put_ge f k g n (by omega), put_other f k n g (by omega)]
theorem tot_put (f : Nat → Seg) (k : Nat) (g : Seg) : ∀ n, k < n → tot (put f k g) n + (f k).bytes.length = tot f n + g.bytes.length
  | 0, h => by omega
  | n + 1, h => by
    simp only [tot]
    by_cases hk : k = n
    · subst hk; rw [tot_put_ge f k g k (Nat.le_refl _), put_same]; omega
    · have := tot_put f k g n (by omega)
      rw [put_other f k n g (by omega)]; omega
theorem tot_one (f : Nat → Seg) (k : Nat) : ∀ n, k < n → (f k).bytes.length ≤ tot f n
  | 0, h => by omega
  | n + 1, h => by
    simp only [tot]
    by_cases hk : k = n
    · subst hk; omega
    · have := tot_one f k n (by omega); omega
theorem tot_mono (f g : Nat → Seg) (h : ∀ k, (f k).bytes.length ≤ (g k).bytes.length) : ∀ n, tot f n ≤ tot g n
  | 0 => Nat.le_refl _
  | n + 1 => by have := tot_mono f g h n; have := h n; simp only [tot]; omega
theorem tot_congr (f g : Nat → Seg) (h : ∀ k, (f k).bytes.length = (g k).bytes.length) (n : Nat) : tot f n = tot g n :=
  Nat.le_antisymm (tot_mono f g (fun k => by rw [h k]; exact Nat.le_refl _) n) (tot_mono g f (fun k => by rw [h k]; exact Nat.le_refl _) n)
/-- Is a segment there? -/
def isThere (f : Nat → Seg) (k : Nat) : Bool := !(f k).bytes.isEmpty
theorem isThere_iff (f : Nat → Seg) (k : Nat) : isThere f k = true ↔ (f k).bytes ≠ [] := by simp [isThere]
theorem isThere_no (f : Nat → Seg) (k : Nat) : isThere f k = false ↔ (f k).bytes = [] := by simp [isThere]
/-- Those that are there, of the first n. -/
def nums (f : Nat → Seg) (n : Nat) : List Nat := (List.range n).filter (isThere f)
theorem nums_succ (f : Nat → Seg) (n : Nat) : nums f (n + 1) = nums f n ++ (if isThere f n then [n] else []) := by
  unfold nums
  rw [List.range_succ, List.filter_append]
  congr 1
  simp [List.filter_cons]
theorem mem_nums (f : Nat → Seg) (n k : Nat) : k ∈ nums f n ↔ k < n ∧ (f k).bytes ≠ [] := by
  simp [nums, List.mem_filter, isThere_iff]
theorem nums_len (f : Nat → Seg) (n : Nat) : (nums f n).length ≤ n := by
  have := List.length_filter_le (isThere f) (List.range n)
  simpa [nums] using this
theorem nums_nodup (f : Nat → Seg) (n : Nat) : (nums f n).Nodup := List.nodup_range.filter _
theorem nums_sorted (f : Nat → Seg) (n : Nat) : (nums f n).Pairwise (· < ·) := List.pairwise_lt_range.filter _
/-- Those ahead of the t-th are just those with lesser numbers. -/
theorem nums_take (f : Nat → Seg) (n t : Nat) (h : t < (nums f n).length) : (nums f n).take t = nums f ((nums f n)[t]) := by
  induction n with
  | zero => simp [nums] at h
  | succ n ih =>
    by_cases ht : t < (nums f n).length
    · have e : (nums f (n + 1))[t] = (nums f n)[t] := by
        simp only [nums_succ]
        rw [List.getElem_append_left ht]
      rw [e, ← ih ht]
      simp only [nums_succ]
      rw [List.take_append_of_le_length (by omega)]
    · have hth : isThere f n = true := by
        rw [nums_succ] at h
        cases hh : isThere f n with
        | true => rfl
        | false => simp [hh] at h; omega
      have hlen : (nums f (n + 1)).length = (nums f n).length + 1 := by simp [nums_succ, hth]
      have ht2 : t = (nums f n).length := by omega
      subst ht2
      have e : (nums f (n + 1))[(nums f n).length] = n := by
        simp only [nums_succ, hth, if_true]
        rw [List.getElem_append_right (by omega)]
        simp
      rw [e]
      simp [nums_succ, hth]
/-- What all calls keep. -/
def good (S : St) : Prop := S.room ≤ 1048576 ∧ (∀ k, (S.seg k).safe ≤ (S.seg k).bytes.length) ∧ tot S.seg 1000 ≤ S.room ∧ -1 ≤ S.fuse ∧ S.fuse ≤ 9223372036854775807
def burn (S : St) : St := { S with fuse := if 0 < S.fuse then S.fuse - 1 else S.fuse }
/-- D2. -/
def appendE (S : St) (i : Int) (s : List UInt8) : Nat :=
  if S.fuse = 0 then 31 else if i < 0 ∨ i > 999 ∨ s = [] then 1 else if S.room < tot S.seg 1000 + s.length then 32 else 0
def appendS (S : St) (i : Int) (s : List UInt8) : St :=
  if appendE S i s = 0 then burn { S with seg := put S.seg i.toNat ⟨(S.seg i.toNat).bytes ++ s, (S.seg i.toNat).safe⟩ } else S
/-- D3. -/
def syncSeg (f : Nat → Seg) (n : Nat) : Nat → Seg := fun k => if k < n then ⟨(f k).bytes, (f k).bytes.length⟩ else f k
def syncE (S : St) : Nat := if S.fuse = 0 then 31 else 0
def syncS (S : St) : St := if S.fuse = 0 then S else burn { S with seg := syncSeg S.seg 1000 }
/-- D4. -/
def thereI (S : St) (i : Int) : Prop := 0 ≤ i ∧ i < 1000 ∧ (S.seg i.toNat).bytes ≠ []
def thereD (S : St) (i : Int) : Decidable (thereI S i) := inferInstanceAs (Decidable (0 ≤ i ∧ i < 1000 ∧ (S.seg i.toNat).bytes ≠ []))
def cutSeg (g : Seg) (n : Nat) : Seg := ⟨g.bytes.take n, min g.safe n⟩
def cutE (S : St) (i n : Int) : Nat :=
  haveI := thereD S i
  if S.fuse = 0 then 31 else if ¬ thereI S i then 30 else if n < 0 ∨ n > (S.seg i.toNat).bytes.length then 1 else 0
def cutS (S : St) (i n : Int) : St :=
  if cutE S i n = 0 then burn { S with seg := put S.seg i.toNat (cutSeg (S.seg i.toNat) n.toNat) } else S
/-- D5. -/
def readE (S : St) (i : Int) : Nat := haveI := thereD S i; if S.fuse = 0 then 31 else if ¬ thereI S i then 30 else 0
def readV (S : St) (i : Int) : List UInt8 := if readE S i = 0 then (S.seg i.toNat).bytes else []
def segments (S : St) : List Nat := if S.fuse = 0 then [] else nums S.seg 1000
/-- D6. -/
def fuseE (n : Int) : Nat := if n < -1 then 1 else 0
def fuseS (S : St) (n : Int) : St := if n < -1 then S else { S with fuse := n }
/-- D7. -/
def waits (g : Seg) : Nat := g.bytes.length - g.safe
def surv (keep : List Int) (i : Nat) (ws : Nat) : Nat := if h : i < keep.length then min (keep[i]).toNat ws else 0
def waiting (f : Nat → Seg) (n : Nat) : Nat := ((List.range n).filter (fun k => decide (waits (f k) ≠ 0))).length
def crashOne (g : Seg) (n : Nat) : Seg := ⟨g.bytes.take n, n⟩
def crashAt (f : Nat → Seg) (keep : List Int) (k : Nat) : Seg :=
  if waits (f k) = 0 then f k else crashOne (f k) ((f k).safe + surv keep (waiting f k) (waits (f k)))
def crashSeg (f : Nat → Seg) (keep : List Int) (n : Nat) : Nat → Seg := fun k => if k < n then crashAt f keep k else f k
def crashN (S : St) : Nat := waiting S.seg 1000
def crashS (S : St) (keep : List Int) : St := { S with seg := crashSeg S.seg keep 1000, fuse := -1, age := S.age + 1 }
theorem waiting_succ (f : Nat → Seg) (n : Nat) : waiting f (n + 1) = waiting f n + (if waits (f n) = 0 then 0 else 1) := by
  unfold waiting
  rw [List.range_succ, List.filter_append, List.length_append]
  congr 1
  by_cases h : waits (f n) = 0 <;> simp [h]
theorem waiting_le (f : Nat → Seg) : ∀ n, waiting f n ≤ n
  | 0 => by simp [waiting]
  | n + 1 => by have := waiting_le f n; rw [waiting_succ]; split <;> omega
/-- Where nothing is there, nothing waits. -/
theorem waits_none (f : Nat → Seg) (k : Nat) (h : (f k).bytes = []) : waits (f k) = 0 := by simp [waits, h]
theorem surv_le (keep : List Int) (i ws : Nat) : surv keep i ws ≤ ws := by unfold surv; split <;> omega
theorem crashAt_len (f : Nat → Seg) (keep : List Int) (k : Nat) (h : (f k).safe ≤ (f k).bytes.length) : (crashAt f keep k).bytes.length ≤ (f k).bytes.length ∧ (crashAt f keep k).safe ≤ (crashAt f keep k).bytes.length := by
  unfold crashAt
  split
  · exact ⟨Nat.le_refl _, h⟩
  · have := surv_le keep (waiting f k) (waits (f k))
    unfold waits at *
    simp only [crashOne, List.length_take]
    omega
end Go.Proofs.Ytpgimffghaelhaa
