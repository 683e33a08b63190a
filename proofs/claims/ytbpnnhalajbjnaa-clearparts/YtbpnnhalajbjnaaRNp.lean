/- The document's Net: plain data, and its box in memory. -/
import Derived.Test.YtbpnnhalajbjnaaZrP
namespace Go.Proofs.Ytbpnnhalajbjnaa
open Go.RowKit
set_option linter.all false
/-- What an account has: money, goods, was it met? -/
def trp (f : Sums) (x : Int) : Int × Int × Bool := (gM f x, gG f x, (f x).isSome)
theorem trp_add (f : Sums) (y m g x : Int) : trp (addS f y m g) x = if y = x then (gM f x + m, gG f x + g, true) else trp f x := by
  unfold trp gM gG addS updS
  by_cases e : y = x
  · subst e
    simp
  · have e2 : ¬ x = y := fun h => e h.symm
    rw [if_neg e, if_neg e2]
theorem g_add (f : Sums) (y m g x : Int) : gM (addS f y m g) x = (if y = x then gM f x + m else gM f x) ∧ gG (addS f y m g) x = (if y = x then gG f x + g else gG f x) := by
  have h := trp_add f y m g x
  by_cases e : y = x
  · rw [if_pos e] at h
    rw [if_pos e, if_pos e]
    exact ⟨congrArg (·.1) h, congrArg (·.2.1) h⟩
  · rw [if_neg e] at h
    rw [if_neg e, if_neg e]
    exact ⟨congrArg (·.1) h, congrArg (·.2.1) h⟩
theorem trp_net (f : Sums) (y : FillV) (x : Int) : trp (netS1 f y) x = if y.seller = x then ((if y.buyer = x then gM f x - y.price * y.n else gM f x) + y.price * y.n, (if y.buyer = x then gG f x + y.n else gG f x) - y.n, true) else (if y.buyer = x then (gM f x - y.price * y.n, gG f x + y.n, true) else trp f x) := by
  unfold netS1
  rw [trp_add, trp_add]
  obtain ⟨h1, h2⟩ := g_add f y.buyer (-y.price * y.n) y.n x
  rw [h1, h2, Int.neg_mul]
  by_cases e1 : y.buyer = x <;> by_cases e2 : y.seller = x <;> simp [e1, e2, Int.sub_eq_add_neg]
theorem pos_trp (f : Sums) (t : Nat) : posT f (t + 1) = posT f t ++ (if (trp f ((t : Int) + 1)).2.2 = true then [⟨(t : Int) + 1, (trp f ((t : Int) + 1)).1, (trp f ((t : Int) + 1)).2.1⟩] else []) := by
  rw [posT_succ]
  unfold trp gM gG
  cases f ((t : Int) + 1) <;> simp
structure NB (w : World) (K : Nat) (x m g : Int) (pre : List PosV) (u : Value) (W : World) : Prop where
  bx : W.heap[K]? = some (.cells #[.int .i64 x, .int .i64 m, .int .i64 g] 31 (0, 0))
  row : W.ownsRow w.heap.size 31 3 u pre.length (celC posE pre)
  ne : u.ownBlock ≠ some K
  bel : Below w.heap.size w W
  hK : w.heap.size ≤ K
theorem NB.keep {w W W' : World} {K : Nat} {x m g : Int} {pre : List PosV} {u : Value} (h : NB w K x m g pre u W) (hb : Below W.heap.size W W') : NB w K x m g pre u W' := ⟨(hb.block _ (Array.getElem?_eq_some_iff.1 h.bx).1).trans h.bx, own_keep h.row hb, h.ne, below_via h.bel hb, h.hK⟩
theorem own_neK {w : World} {B k j : Nat} {e : TypeId} {z n : Nat} {v u : Value} {xs : List Value} (ho : w.ownsRow B e z v n xs) (hk : v.ownBlock ≠ some k) : (w.setCell ⟨k, j, none⟩ u).ownsRow B e z v n xs := by
  obtain ⟨h1, hn | ⟨g, cap, cur, hv, hb, hg, r⟩⟩ := ho
  · exact ⟨h1, .inl hn⟩
  · refine ⟨h1, .inr ⟨g, cap, cur, hv, hb, (heap_set_other _ _ _ _ _ (fun e => hk ?_)).trans hg, r⟩⟩
    rw [hv, ← e]
    rfl
theorem NB.setM {w W : World} {K : Nat} {x m g : Int} {pre : List PosV} {u : Value} (h : NB w K x m g pre u W) (v : Int) : NB w K x v g pre u (W.setCell ⟨K, 1, none⟩ (.int .i64 v)) := ⟨heap_set h.bx 1 _, own_neK h.row h.ne, h.ne, belowSet _ h.bel h.hK, h.hK⟩
theorem NB.setG {w W : World} {K : Nat} {x m g : Int} {pre : List PosV} {u : Value} (h : NB w K x m g pre u W) (v : Int) : NB w K x m v pre u (W.setCell ⟨K, 2, none⟩ (.int .i64 v)) := ⟨heap_set h.bx 2 _, own_neK h.row h.ne, h.ne, belowSet _ h.bel h.hK, h.hK⟩
theorem NB.cells {w W : World} {K : Nat} {x m g : Int} {pre : List PosV} {u : Value} (h : NB w K x m g pre u W) : W.cell? ⟨K, 0, none⟩ = some (.int .i64 x) ∧ W.cell? ⟨K, 1, none⟩ = some (.int .i64 m) ∧ W.cell? ⟨K, 2, none⟩ = some (.int .i64 g) ∧ (∀ j, W.frozen? ⟨K, j, none⟩ = false) ∧ K < W.heap.size :=
  ⟨by rw [cell_at h.bx]; rfl, by rw [cell_at h.bx]; rfl, by rw [cell_at h.bx]; rfl, fun j => free_at h.bx j, (Array.getElem?_eq_some_iff.1 h.bx).1⟩
/-- How far an account's sums may be. -/
theorem g_small {c : Nat} {f : Sums} (h : Small c f) (x : Int) : (-(c : Int) * 1000000000000 ≤ gM f x ∧ gM f x ≤ (c : Int) * 1000000000000) ∧ (-(c : Int) * 1000000000000 ≤ gG f x ∧ gG f x ≤ (c : Int) * 1000000000000) := by
  unfold gM gG
  cases hf : f x with
  | none => simp; omega
  | some p =>
    have := h.lo x p hf
    simp
    omega
theorem small_take {l : List FillV} (h : ∀ x ∈ l, strF x = false) (t : Nat) : Small (2 * (l.take t).length) (netS (l.take t)) := by
  have := small_fold (l.take t) 0 (fun _ => none) ⟨fun x p h => by cases h⟩ (fun x hx => h x (List.mem_of_mem_take hx))
  rw [Nat.zero_add] at this
  exact this
end Go.Proofs.Ytbpnnhalajbjnaa
