/- Elections as plain data: nodes that begin, ask, grant, count and forget; no two lead in one term. -/
import Derived.Test.YtkoecdcbopkkbaaFirmW
namespace Go.Proofs.Ytkoecdcbopkkbaa
/-- How many of the first n nodes are in a list. -/
def cntP (p : Int → Bool) : Nat → Nat
  | 0 => 0
  | k + 1 => cntP p k + (if p ((k + 1 : Nat) : Int) then 1 else 0)
theorem cntP_mono (p q : Int → Bool) (h : ∀ x, p x = true → q x = true) : ∀ n, cntP p n ≤ cntP q n
  | 0 => Nat.le_refl _
  | n + 1 => by
    have := cntP_mono p q h n
    unfold cntP
    by_cases hp : p ((n + 1 : Nat) : Int) = true
    · rw [if_pos hp, if_pos (h _ hp)]
      omega
    · rw [if_neg hp]
      split <;> omega
theorem cntP_two (p q : Int → Bool) (h : ∀ x, p x = true → q x = true → False) : ∀ n, cntP p n + cntP q n ≤ n
  | 0 => Nat.le_refl _
  | n + 1 => by
    have := cntP_two p q h n
    unfold cntP
    by_cases hp : p ((n + 1 : Nat) : Int) = true
    · rw [if_pos hp]
      by_cases hq : q ((n + 1 : Nat) : Int) = true
      · exact (h _ hp hq).elim
      · rw [if_neg hq]
        omega
    · rw [if_neg hp]
      split <;> omega
/-- A rising list of nodes 1 to n is no longer than the nodes that it has. -/
theorem sorted_cnt (n : Nat) : ∀ (l : List Int), l.Pairwise (· < ·) → (∀ x ∈ l, 1 ≤ x ∧ x ≤ n) → l.length ≤ cntP (fun x => l.contains x) n := by
  induction n with
  | zero =>
    intro l _ hb
    rcases l with _ | ⟨x, l⟩
    · simp
    · have := hb x (by simp)
      omega
  | succ n ih =>
    intro l hs hb
    rcases List.eq_nil_or_concat l with rfl | ⟨l', x, rfl⟩
    · simp
    · rw [List.concat_eq_append] at hs hb ⊢
      rw [List.pairwise_append] at hs
      obtain ⟨hs1, _, hs3⟩ := hs
      have hx := hb x (by simp)
      have hl' : ∀ y ∈ l', 1 ≤ y ∧ y ≤ n := by
        intro y hy
        have h1 := hb y (by simp [hy])
        have h2 := hs3 y hy x (by simp)
        omega
      by_cases e : x = ((n + 1 : Nat) : Int)
      · have h1 := ih l' hs1 hl'
        have h2 := cntP_mono (fun y => l'.contains y) (fun y => (l' ++ [x]).contains y) (by intro y hy; simp at hy ⊢; exact .inl hy) n
        unfold cntP
        rw [if_pos (by simp [e]), List.length_append]
        show l'.length + 1 ≤ _
        omega
      · have h1 := ih (l' ++ [x]) (List.pairwise_append.2 ⟨hs1, by simp, hs3⟩) (by
          intro y hy
          rcases List.mem_append.1 hy with h | h
          · exact hl' y h
          · simp at h
            subst h
            omega)
        unfold cntP
        split <;> omega
/-- What the votes have been: of node g in term t (0: none). -/
abbrev Hist := Nat → Int → Int
/-- The state of all nodes fits the votes that were given. -/
structure Inv (n : Nat) (B : Nat → Bal) (h : Hist) : Prop where
  now : ∀ g, 1 ≤ g → g ≤ n → h g (B g).t = (B g).v
  later : ∀ g, 1 ≤ g → g ≤ n → ∀ t, (B g).t < t → h g t = 0
  got : ∀ k, 1 ≤ k → k ≤ n → ∀ x ∈ (B k).l, 1 ≤ x ∧ x ≤ n ∧ h x.toNat (B k).t = k
  rise : ∀ k, 1 ≤ k → k ≤ n → (B k).l.Pairwise (· < ·)
  role : ∀ k, 1 ≤ k → k ≤ n → (B k).r = 1 → (B k).l = []
  lead : ∀ k, 1 ≤ k → k ≤ n → (B k).r = 3 → (n : Int) < 2 * ((B k).l.length : Int)
  pos : ∀ k, 1 ≤ k → k ≤ n → 0 ≤ (B k).t
/-- Votes that were given stay. -/
def grewH (h h' : Hist) : Prop := ∀ g t, h g t ≠ 0 → h' g t = h g t
/-- Who has led in a term had more than half of the votes. -/
def ledP (n : Nat) (led : Nat → Int) (h : Hist) : Prop := ∀ t, led t ≠ 0 → n < 2 * cntP (fun x => h x.toNat t == led t) n
theorem ledP_grew {n : Nat} {led : Nat → Int} {h h' : Hist} (hl : ledP n led h) (hg : grewH h h') : ledP n led h' := by
  intro t ht
  have h1 := hl t ht
  have h2 := cntP_mono (fun x => h x.toNat t == led t) (fun x => h' x.toNat t == led t) (by
    intro x hx
    simp at hx ⊢
    rw [hg _ _ (by rw [hx]; exact ht)]
    exact hx) n
  omega
/-- Two that lead in one term are one. -/
theorem led_one {n : Nat} {B : Nat → Bal} {h : Hist} {led : Nat → Int} (hi : Inv n B h) (hl : ledP n led h) (k : Nat) (h1 : 1 ≤ k) (h2 : k ≤ n) (h3 : (B k).r = 3) (t : Nat) (ht : (B k).t = t) (h0 : led t ≠ 0) : led t = k := by
  have hc := hl t h0
  have hk := sorted_cnt n (B k).l (hi.rise k h1 h2) (fun x hx => ⟨(hi.got k h1 h2 x hx).1, (hi.got k h1 h2 x hx).2.1⟩)
  have hm := hi.lead k h1 h2 h3
  have hm2 := cntP_mono (fun x => (B k).l.contains x) (fun x => h x.toNat t == (k : Int)) (by
    intro x hx
    have hx' : x ∈ (B k).l := by simpa using hx
    have := (hi.got k h1 h2 x hx').2.2
    rw [ht] at this
    simpa using this) n
  by_cases e : led t = k
  · exact e
  · have := cntP_two (fun x => h x.toNat t == led t) (fun x => h x.toNat t == (k : Int)) (by
      intro x ha hb
      simp at ha hb
      exact e (ha.symm.trans hb)) n
    omega
theorem led_mark {n : Nat} {B : Nat → Bal} {h : Hist} {led : Nat → Int} (hi : Inv n B h) (hl : ledP n led h) (k : Nat) (h1 : 1 ≤ k) (h2 : k ≤ n) (h3 : (B k).r = 3) (t : Nat) (ht : (B k).t = t) : ledP n (fun s => if s = t then (k : Int) else led s) h := by
  intro s hs
  by_cases e : s = t
  · subst e
    show n < 2 * cntP (fun x => h x.toNat s == (if s = s then (k : Int) else led s)) n
    rw [if_pos rfl]
    have hk := sorted_cnt n (B k).l (hi.rise k h1 h2) (fun x hx => ⟨(hi.got k h1 h2 x hx).1, (hi.got k h1 h2 x hx).2.1⟩)
    have hm := hi.lead k h1 h2 h3
    have hm2 := cntP_mono (fun x => (B k).l.contains x) (fun x => h x.toNat s == (k : Int)) (by
      intro x hx
      have hx' : x ∈ (B k).l := by simpa using hx
      have := (hi.got k h1 h2 x hx').2.2
      rw [ht] at this
      simpa using this) n
    omega
  · simp only [if_neg e] at hs ⊢
    exact hl s hs
end Go.Proofs.Ytkoecdcbopkkbaa
