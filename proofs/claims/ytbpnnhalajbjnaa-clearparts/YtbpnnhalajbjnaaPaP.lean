/- Fills netted in two parts: plain data. -/
import Derived.Test.YtbpnnhalajbjnaaRNp
namespace Go.Proofs.Ytbpnnhalajbjnaa
open Go.RowKit
set_option linter.all false
theorem gM_net (f : Sums) (y : FillV) (x : Int) : gM (netS1 f y) x = gM f x + gM (netS1 (fun _ => none) y) x := by
  have h1 := congrArg (·.1) (trp_net f y x)
  have h2 := congrArg (·.1) (trp_net (fun _ => none) y x)
  unfold trp at h1 h2
  have e0 : gM (fun _ => none) x = 0 := rfl
  simp only [e0] at h1 h2
  rw [h1, h2]
  by_cases e1 : y.buyer = x <;> by_cases e2 : y.seller = x <;> simp [e1, e2] <;> omega
theorem gG_net (f : Sums) (y : FillV) (x : Int) : gG (netS1 f y) x = gG f x + gG (netS1 (fun _ => none) y) x := by
  have h1 := congrArg (·.2.1) (trp_net f y x)
  have h2 := congrArg (·.2.1) (trp_net (fun _ => none) y x)
  unfold trp at h1 h2
  have e0 : gG (fun _ => none) x = 0 := rfl
  simp only [e0] at h1 h2
  rw [h1, h2]
  by_cases e1 : y.buyer = x <;> by_cases e2 : y.seller = x <;> simp [e1, e2] <;> omega
theorem is_net (f : Sums) (y : FillV) (x : Int) : (netS1 f y x).isSome = ((f x).isSome || (netS1 (fun _ => none) y x).isSome) := by
  have h1 := congrArg (·.2.2) (trp_net f y x)
  have h2 := congrArg (·.2.2) (trp_net (fun _ => none) y x)
  unfold trp at h1 h2
  simp only at h1 h2
  rw [h1, h2]
  by_cases e1 : y.buyer = x <;> by_cases e2 : y.seller = x <;> simp [e1, e2]
theorem fold_net : ∀ (l : List FillV) (f : Sums) (x : Int), gM (l.foldl netS1 f) x = gM f x + gM (netS l) x ∧ gG (l.foldl netS1 f) x = gG f x + gG (netS l) x ∧ ((l.foldl netS1 f) x).isSome = ((f x).isSome || (netS l x).isSome)
  | [], f, x => by simp [netS, gM, gG]
  | y :: l, f, x => by
    obtain ⟨a1, a2, a3⟩ := fold_net l (netS1 f y) x
    obtain ⟨b1, b2, b3⟩ := fold_net l (netS1 (fun _ => none) y) x
    have e : netS (y :: l) = l.foldl netS1 (netS1 (fun _ => none) y) := rfl
    rw [List.foldl_cons, e, a1, a2, a3, b1, b2, b3, gM_net f y x, gG_net f y x, is_net f y x, Bool.or_assoc]
    exact ⟨by omega, by omega, rfl⟩
theorem net_app (l k : List FillV) (x : Int) : gM (netS (l ++ k)) x = gM (netS l) x + gM (netS k) x ∧ gG (netS (l ++ k)) x = gG (netS l) x + gG (netS k) x ∧ (netS (l ++ k) x).isSome = ((netS l x).isSome || (netS k x).isSome) := by
  have := fold_net k (netS l) x
  unfold netS at this ⊢
  rw [List.foldl_append]
  exact this
theorem posT_ext {f g : Sums} (h : ∀ x, trp f x = trp g x) : ∀ t, posT f t = posT g t
  | 0 => rfl
  | t + 1 => by rw [pos_trp, pos_trp, posT_ext h t, h]
theorem net_turn (l k : List FillV) (t : Nat) : posT (netS (k ++ l)) t = posT (netS (l ++ k)) t := by
  refine posT_ext (fun x => ?_) t
  obtain ⟨a1, a2, a3⟩ := net_app l k x
  obtain ⟨b1, b2, b3⟩ := net_app k l x
  unfold trp
  rw [a1, a2, a3, b1, b2, b3, Bool.or_comm]
  simp only [Prod.mk.injEq, and_true]
  omega
/-- The position of an account in a list, or nothing. -/
def ofP (l : List PosV) (x : Int) : PosV := (l.find? (fun p => decide (p.acc = x))).getD ⟨0, 0, 0⟩
theorem find_pos (f : Sums) (x : Int) : ∀ t : Nat, (posT f t).find? (fun p => decide (p.acc = x)) = if 1 ≤ x ∧ x ≤ (t : Int) ∧ (f x).isSome = true then some ⟨x, gM f x, gG f x⟩ else none
  | 0 => by
    rw [if_neg (by omega)]
    rfl
  | t + 1 => by
    rw [pos_trp, List.find?_append, find_pos f x t]
    by_cases h1 : 1 ≤ x ∧ x ≤ (t : Int) ∧ (f x).isSome = true
    · have h2 : 1 ≤ x ∧ x ≤ ((t + 1 : Nat) : Int) ∧ (f x).isSome = true := ⟨h1.1, by push_cast; omega, h1.2.2⟩
      rw [if_pos h1, Option.some_or, if_pos h2]
    · rw [if_neg h1]
      simp only [Option.none_or]
      unfold trp
      simp only
      by_cases e : (t : Int) + 1 = x
      · subst e
        cases hf : (f ((t : Int) + 1)).isSome
        · rw [if_neg (by simp), if_neg (by simp)]
          rfl
        · rw [if_pos rfl, if_pos ⟨by omega, by push_cast; omega, rfl⟩]
          simp
      · have h2 : ¬ (1 ≤ x ∧ x ≤ ((t + 1 : Nat) : Int) ∧ (f x).isSome = true) := fun hc => h1 ⟨hc.1, by have := hc.2.1; push_cast at this; omega, hc.2.2⟩
        rw [if_neg h2]
        split
        · simp [e]
        · rfl
theorem of_pos (f : Sums) {x : Int} (hx : 1 ≤ x ∧ x ≤ 8) : (ofP (posT f 8) x).m = gM f x ∧ (ofP (posT f 8) x).g = gG f x := by
  unfold ofP
  rw [find_pos]
  by_cases h : (f x).isSome = true
  · rw [if_pos ⟨hx.1, by push_cast; omega, h⟩]
    exact ⟨rfl, rfl⟩
  · rw [if_neg (fun hc => h hc.2.2)]
    have hn : f x = none := by
      cases hf : f x with
      | none => rfl
      | some p => rw [hf] at h; exact absurd rfl h
    unfold gM gG
    rw [hn]
    exact ⟨rfl, rfl⟩
end Go.Proofs.Ytbpnnhalajbjnaa
