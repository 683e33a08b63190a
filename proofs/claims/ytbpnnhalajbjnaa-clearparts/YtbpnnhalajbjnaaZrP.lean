/- Netted, nothing is made and nothing lost: plain data. -/
import Derived.Test.YtbpnnhalajbjnaaNetW
namespace Go.Proofs.Ytbpnnhalajbjnaa
open Go.RowKit Go.Maps
set_option linter.all false
def gM (f : Sums) (x : Int) : Int := ((f x).getD (0, 0)).1
def gG (f : Sums) (x : Int) : Int := ((f x).getD (0, 0)).2
def sM (f : Sums) : Nat → Int
  | 0 => 0
  | t + 1 => sM f t + gM f ((t : Int) + 1)
def sG (f : Sums) : Nat → Int
  | 0 => 0
  | t + 1 => sG f t + gG f ((t : Int) + 1)
theorem sM_add (f : Sums) (x m g : Int) : ∀ t : Nat, sM (addS f x m g) t = sM f t + (if 1 ≤ x ∧ x ≤ (t : Int) then m else 0)
  | 0 => by simp [sM]; omega
  | t + 1 => by
    rw [sM, sM, sM_add f x m g t]
    unfold gM addS updS
    by_cases e : (t : Int) + 1 = x
    · rw [if_pos e, ← e]
      simp
      rw [if_neg (by omega), if_pos (by omega)]
      omega
    · rw [if_neg e]
      by_cases h : 1 ≤ x ∧ x ≤ (t : Int)
      · rw [if_pos h, if_pos (by push_cast; omega)]
        omega
      · rw [if_neg h, if_neg (by push_cast; omega)]
        omega
theorem sG_add (f : Sums) (x m g : Int) : ∀ t : Nat, sG (addS f x m g) t = sG f t + (if 1 ≤ x ∧ x ≤ (t : Int) then g else 0)
  | 0 => by simp [sG]; omega
  | t + 1 => by
    rw [sG, sG, sG_add f x m g t]
    unfold gG addS updS
    by_cases e : (t : Int) + 1 = x
    · rw [if_pos e, ← e]
      simp
      rw [if_neg (by omega), if_pos (by omega)]
      omega
    · rw [if_neg e]
      by_cases h : 1 ≤ x ∧ x ≤ (t : Int)
      · rw [if_pos h, if_pos (by push_cast; omega)]
        omega
      · rw [if_neg h, if_neg (by push_cast; omega)]
        omega
theorem s_net1 {f : Sums} {x : FillV} (h : strF x = false) : sM (netS1 f x) 8 = sM f 8 ∧ sG (netS1 f x) 8 = sG f 8 := by
  obtain ⟨h1, h2, -, -⟩ := str_ok h
  unfold netS1
  rw [sM_add, sM_add, sG_add, sG_add, if_pos (by push_cast; omega), if_pos (by push_cast; omega), if_pos (by push_cast; omega), if_pos (by push_cast; omega), Int.neg_mul]
  omega
theorem s_fold : ∀ (l : List FillV) (f : Sums), (∀ x ∈ l, strF x = false) → sM (l.foldl netS1 f) 8 = sM f 8 ∧ sG (l.foldl netS1 f) 8 = sG f 8
  | [], f, _ => ⟨rfl, rfl⟩
  | x :: l, f, h => by
    have h1 := s_net1 (f := f) (h x (by simp))
    have h2 := s_fold l (netS1 f x) (fun y hy => h y (by simp [hy]))
    rw [List.foldl_cons]
    exact ⟨h2.1.trans h1.1, h2.2.trans h1.2⟩
theorem small1 {c : Nat} {f : Sums} {x : FillV} (hs : Small c f) (h : strF x = false) : Small (c + 2) (netS1 f x) := by
  obtain ⟨h1, h2, h3, h4⟩ := str_ok h
  have hm := mul_bd2 h3 h4
  unfold netS1
  exact (hs.add (by rw [Int.neg_mul]; omega) (by omega)).add (by omega) (by omega)
theorem small_fold : ∀ (l : List FillV) (c : Nat) (f : Sums), Small c f → (∀ x ∈ l, strF x = false) → Small (c + 2 * l.length) (l.foldl netS1 f)
  | [], c, f, hs, _ => hs
  | x :: l, c, f, hs, h => by
    have h2 := small_fold l (c + 2) (netS1 f x) (small1 hs (h x (by simp))) (fun y hy => h y (by simp [hy]))
    rw [List.foldl_cons, List.length_cons, show c + 2 * (l.length + 1) = c + 2 + 2 * l.length by omega]
    exact h2
theorem pos_sum (f : Sums) : ∀ t : Nat, ((posT f t).map (·.m)).sum = sM f t ∧ ((posT f t).map (·.g)).sum = sG f t
  | 0 => by simp [posT, sM, sG]
  | t + 1 => by
    obtain ⟨h1, h2⟩ := pos_sum f t
    rw [posT_succ, List.map_append, List.map_append, List.sum_append, List.sum_append, h1, h2, sM, sG]
    unfold gM gG
    cases f ((t : Int) + 1) <;> simp
theorem pos_acc (f : Sums) : ∀ t : Nat, (posT f t).Pairwise (fun a b => a.acc < b.acc) ∧ ∀ p ∈ posT f t, p.acc ≤ (t : Int)
  | 0 => by simp [posT]
  | t + 1 => by
    obtain ⟨h1, h2⟩ := pos_acc f t
    rw [posT_succ]
    cases hf : f ((t : Int) + 1) with
    | none =>
      simp only [List.append_nil]
      exact ⟨h1, fun p hp => by have := h2 p hp; push_cast; omega⟩
    | some q =>
      simp only
      refine ⟨List.pairwise_append.2 ⟨h1, by simp, fun a ha b hb => ?_⟩, fun p hp => ?_⟩
      · rw [List.mem_singleton] at hb
        subst hb
        have := h2 a ha
        simp only
        omega
      · rcases List.mem_append.1 hp with hp | hp
        · have := h2 p hp
          push_cast
          omega
        · rw [List.mem_singleton] at hp
          subst hp
          push_cast
          simp
theorem pos_in (f : Sums) : ∀ (t : Nat) (p : PosV), p ∈ posT f t → ∃ x, f x = some (p.m, p.g)
  | 0, p, h => by simp [posT] at h
  | t + 1, p, h => by
    rw [posT_succ] at h
    rcases List.mem_append.1 h with h | h
    · exact pos_in f t p h
    · cases hf : f ((t : Int) + 1) with
      | none => rw [hf] at h; simp at h
      | some q =>
        rw [hf] at h
        simp only [List.mem_singleton] at h
        subst h
        exact ⟨_, hf⟩
theorem sum_bd (C : Int) (g : PosV → Int) : ∀ (l : List PosV), (∀ p ∈ l, -C ≤ g p ∧ g p ≤ C) → -((l.length : Int) * C) ≤ (l.map g).sum ∧ (l.map g).sum ≤ (l.length : Int) * C
  | [], _ => by simp
  | x :: l, h => by
    have h1 := h x (by simp)
    have h2 := sum_bd C g l (fun p hp => h p (by simp [hp]))
    rw [List.map_cons, List.sum_cons, List.length_cons]
    have e : ((l.length + 1 : Nat) : Int) * C = (l.length : Int) * C + C := by push_cast; rw [Int.add_mul, Int.one_mul]
    rw [e]
    omega
theorem sum_take {g : PosV → Int} {l : List PosV} {t : Nat} (h : t < l.length) : ((l.take (t + 1)).map g).sum = ((l.take t).map g).sum + g l[t] := by
  rw [List.take_succ_eq_append_getElem h, List.map_append, List.sum_append]
  simp
/-- All that the statement asks. -/
theorem zero_all {l : List FillV} (hl : l.length ≤ 1000) (h : ∀ x ∈ l, strF x = false) :
    (posT (netS l) 8).length ≤ 8 ∧ ((posT (netS l) 8).map (·.m)).sum = 0 ∧ ((posT (netS l) 8).map (·.g)).sum = 0 ∧ (∀ p ∈ posT (netS l) 8, (-2000000000000000 ≤ p.m ∧ p.m ≤ 2000000000000000) ∧ (-2000000000000000 ≤ p.g ∧ p.g ≤ 2000000000000000)) ∧ (∀ i j (hi : i < (posT (netS l) 8).length) (hj : j < (posT (netS l) 8).length), i < j → (posT (netS l) 8)[i].acc < (posT (netS l) 8)[j].acc) := by
  have h0 : sM (fun _ => none) 8 = 0 ∧ sG (fun _ => none) 8 = 0 := by decide
  have hs := s_fold l (fun _ => none) h
  have hp := pos_sum (netS l) 8
  have hb := small_fold l 0 (fun _ => none) ⟨fun x p h => by cases h⟩ h
  have ha := (pos_acc (netS l) 8).1
  refine ⟨posT_len _ 8, ?_, ?_, fun p hp => ?_, fun i j hi hj hij => (List.pairwise_iff_getElem.1 ha) i j hi hj hij⟩
  · rw [hp.1]
    exact hs.1.trans h0.1
  · rw [hp.2]
    exact hs.2.trans h0.2
  · obtain ⟨x, hx⟩ := pos_in _ 8 p hp
    have := hb.lo x _ hx
    simp only at this
    omega
end Go.Proofs.Ytbpnnhalajbjnaa
