/- A wheel as plain data: how many keys, how many ticks, how far ahead each key's timer is (0: it has none); and which keys stand in which slot. Names no program. -/
namespace Go.Proofs.Ytebinckkghmkhaa

structure Wh where
  keys : Nat
  now : Nat
  left : Nat → Nat
def put (f : Nat → Nat) (k x : Nat) : Nat → Nat := fun i => if i = k then x else f i
def putL (f : Nat → List Nat) (k : Nat) (x : List Nat) : Nat → List Nat := fun i => if i = k then x else f i
/-- The tick at which a key's timer is due; 0: it has none. -/
def dueOf (now : Nat) (left : Nat → Nat) (k : Nat) : Nat := if left k = 0 then 0 else now + left k
structure Good (S : Wh) (L : Nat → List Nat) : Prop where
  one : 1 ≤ S.keys
  most : S.keys ≤ 100
  left : ∀ k, S.left k ≤ 1000
  key : ∀ k, S.left k ≠ 0 → k < S.keys
  nodup : ∀ a, a < 1000 → (L a).Nodup
  mem : ∀ a, a < 1000 → ∀ k, k ∈ L a ↔ S.left k ≠ 0 ∧ (S.now + S.left k) % 1000 = a
theorem nodup_len : ∀ (n : Nat) (l : List Nat), l.Nodup → (∀ x ∈ l, x < n) → l.length ≤ n
  | 0, l, _, h => by
    cases l with
    | nil => simp
    | cons a r => exact absurd (h a (by simp)) (Nat.not_lt_zero _)
  | n + 1, l, hd, h => by
    have h1 := nodup_len n (l.filter (fun x => x ≠ n)) (hd.sublist List.filter_sublist) (fun x hx => by
      simp at hx
      have := h x hx.1
      omega)
    have h2 : l.length = (l.filter (fun x => x ≠ n)).length + (l.filter (fun x => ¬ x ≠ n)).length := by
      have := List.length_eq_countP_add_countP (fun x => decide (x ≠ n)) (l := l)
      simp only [List.countP_eq_length_filter] at this
      simpa using this
    have h3 : (l.filter (fun x => ¬ x ≠ n)).length ≤ 1 := by
      have e : l.filter (fun x => ¬ x ≠ n) = l.filter (fun x => x == n) := by
        congr 1
        funext x
        by_cases e : x = n <;> simp [e]
      rw [e]
      have : (l.filter (fun x => x == n)).length = l.count n := by rw [List.count_eq_countP, List.countP_eq_length_filter]
      rw [this]
      exact List.nodup_iff_count.1 hd n
    omega
theorem Good.len {S : Wh} {L : Nat → List Nat} (h : Good S L) (a : Nat) (ha : a < 1000) : (L a).length ≤ 100 :=
  nodup_len 100 _ (h.nodup a ha) (fun x hx => by
    have := h.key x ((h.mem a ha x).1 hx).1
    have := h.most
    omega)
theorem Good.slot {S : Wh} {L : Nat → List Nat} (h : Good S L) (k : Nat) (hk : S.left k ≠ 0) : k ∈ L ((S.now + S.left k) % 1000) :=
  (h.mem _ (Nat.mod_lt _ (by decide)) k).2 ⟨hk, rfl⟩
/-- A key's timer goes. -/
def dropS (S : Wh) (k : Nat) : Wh := { S with left := put S.left k 0 }
/-- A key's timer is set. -/
def setS (S : Wh) (k n : Nat) : Wh := { S with left := put S.left k n }
/-- One tick on. -/
def tickS (S : Wh) : Wh := { S with now := S.now + 1, left := fun k => S.left k - 1 }
def dueL (S : Wh) : List Nat := (List.range S.keys).filter (fun k => S.left k = 1)
theorem Good.drop {S : Wh} {L : Nat → List Nat} (h : Good S L) (k : Nat) (hk : S.left k ≠ 0) :
    Good (dropS S k) (putL L ((S.now + S.left k) % 1000) ((L ((S.now + S.left k) % 1000)).filter (fun x => x ≠ k))) := by
  refine ⟨h.one, h.most, fun i => ?_, fun i hi => ?_, fun a ha => ?_, fun a ha i => ?_⟩
  · simp only [dropS, put]; split
    · omega
    · exact h.left i
  · simp only [dropS, put] at hi
    split at hi
    · exact absurd rfl hi
    · exact h.key i hi
  · simp only [putL]; split
    · rename_i e
      exact (h.nodup _ (by omega)).sublist List.filter_sublist
    · exact h.nodup a ha
  · simp only [putL, dropS, put]
    by_cases e : a = (S.now + S.left k) % 1000
    · rw [if_pos e]
      simp only [List.mem_filter, decide_eq_true_eq]
      rw [h.mem _ (by omega) i]
      by_cases e2 : i = k
      · simp [e2]
      · simp [e2, e]
    · rw [if_neg e, h.mem a ha i]
      by_cases e2 : i = k
      · subst e2
        simp
        intro _ e3
        exact e e3.symm
      · simp [e2]
theorem Good.drop0 {S : Wh} {L : Nat → List Nat} (_h : Good S L) (k : Nat) (hk : S.left k = 0) : dropS S k = S := by
  unfold dropS put
  cases S with
  | mk a b f =>
    simp only [Wh.mk.injEq, true_and]
    funext i
    split
    · rename_i e; rw [e]; exact hk.symm
    · rfl
theorem Good.set {S : Wh} {L : Nat → List Nat} (h : Good S L) (k n : Nat) (hk : S.left k = 0) (hkk : k < S.keys) (h1 : 1 ≤ n) (h2 : n ≤ 1000) :
    Good (setS S k n) (putL L ((S.now + n) % 1000) (L ((S.now + n) % 1000) ++ [k])) := by
  refine ⟨h.one, h.most, fun i => ?_, fun i hi => ?_, fun a ha => ?_, fun a ha i => ?_⟩
  · simp only [setS, put]; split
    · omega
    · exact h.left i
  · simp only [setS, put] at hi
    split at hi
    · rename_i e; rw [e]; exact hkk
    · exact h.key i hi
  · simp only [putL]; split
    · rename_i e
      rw [List.nodup_append]
      refine ⟨h.nodup _ (by omega), by simp, ?_⟩
      intro x hx y hy e2
      simp at hy
      subst hy e2
      exact ((h.mem _ (by omega) x).1 hx).1 hk
    · exact h.nodup a ha
  · simp only [putL, setS, put]
    by_cases e : a = (S.now + n) % 1000
    · rw [if_pos e]
      simp only [List.mem_append, List.mem_singleton]
      rw [h.mem _ (by omega) i]
      by_cases e2 : i = k
      · subst e2
        simp only [if_true, e, or_true, true_iff]
        exact ⟨by omega, trivial⟩
      · simp [e2, e]
    · rw [if_neg e, h.mem a ha i]
      by_cases e2 : i = k
      · subst e2
        simp only [if_true, hk]
        constructor
        · intro hh; exact absurd rfl hh.1
        · intro hh; exact absurd hh.2.symm e
      · simp [e2]
theorem Good.tick {S : Wh} {L : Nat → List Nat} (h : Good S L) : Good (tickS S) (putL L ((S.now + 1) % 1000) []) := by
  refine ⟨h.one, h.most, fun i => ?_, fun i hi => ?_, fun a ha => ?_, fun a ha i => ?_⟩
  · have := h.left i
    simp only [tickS]; omega
  · simp only [tickS] at hi
    exact h.key i (by omega)
  · simp only [putL]; split
    · simp
    · exact h.nodup a ha
  · simp only [putL, tickS]
    have h1 := h.left i
    by_cases e : a = (S.now + 1) % 1000
    · rw [if_pos e]
      simp only [List.not_mem_nil, false_iff]
      omega
    · rw [if_neg e, h.mem a ha i]
      omega
theorem Good.due {S : Wh} {L : Nat → List Nat} (h : Good S L) (k : Nat) : k ∈ L ((S.now + 1) % 1000) ↔ S.left k = 1 := by
  rw [h.mem _ (by omega) k]
  have := h.left k
  omega
theorem dueOf_tick (S : Wh) (k : Nat) : dueOf (tickS S).now (tickS S).left k = if S.left k = 1 then 0 else dueOf S.now S.left k := by
  show (if S.left k - 1 = 0 then 0 else S.now + 1 + (S.left k - 1)) = if S.left k = 1 then 0 else if S.left k = 0 then 0 else S.now + S.left k
  by_cases h0 : S.left k = 0
  · simp [h0]
  · by_cases h1 : S.left k = 1
    · simp [h1]
    · rw [if_neg (by omega), if_neg h1, if_neg h0]; omega
end Go.Proofs.Ytebinckkghmkhaa
