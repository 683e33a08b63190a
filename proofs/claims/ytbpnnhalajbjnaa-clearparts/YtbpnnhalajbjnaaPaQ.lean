/- Fills netted in two parts: what the walk wants. -/
import Derived.Test.YtbpnnhalajbjnaaPaP
import Derived.Test.YtbpnnhalajbjnaaNsW
namespace Go.Proofs.Ytbpnnhalajbjnaa
open Go.RowKit
set_option linter.all false
theorem SGot.upto {α : Type} {k bytes : Nat} {enc : α → List Value} {w : World} {a : Option Addr} {c : Nat} {l : List α} (hk : ∀ x, (enc x).length = k) (h : SGot k bytes enc w (.slice a l.length c) l) (t : Nat) (ht : t ≤ l.length) : SGot k bytes enc w (.slice a t c) (l.take t) := by
  obtain ⟨h8, a', c', e, hc, hr⟩ := h
  simp only [Value.slice.injEq, true_and] at e
  obtain ⟨rfl, rfl⟩ := e
  have hl : (l.take t).length = t := by rw [List.length_take]; omega
  refine ⟨by rw [hl]; exact Nat.le_trans (Nat.mul_le_mul_right _ ht) h8, a, c, by rw [hl], ⟨by rw [hl]; omega, hc.2⟩, fun hp => ?_⟩
  rw [hl] at hp
  obtain ⟨b, off, ha, hb, hcell⟩ := hr (by omega)
  refine ⟨b, off, ha, hb, fun j hj => ?_⟩
  rw [hl] at hj
  have hjl : j < l.length * k := Nat.lt_of_lt_of_le hj (Nat.mul_le_mul_right _ ht)
  rw [hcell j hjl, ← celC_take hk, List.getElem?_take, if_pos hj]
theorem SGot.from {α : Type} {k bytes : Nat} {enc : α → List Value} {w : World} {a : Option Addr} {c : Nat} {l : List α} (hk : ∀ x, (enc x).length = k) (h : SGot k bytes enc w (.slice a l.length c) l) (t : Nat) (ht : t ≤ l.length) : SGot k bytes enc w (.slice (if c = t then a else a.map (·.add (t * k))) (l.length - t) (c - t)) (l.drop t) := by
  obtain ⟨h8, a', c', e, hc, hr⟩ := h
  simp only [Value.slice.injEq, true_and] at e
  obtain ⟨rfl, rfl⟩ := e
  have hl : (l.drop t).length = l.length - t := List.length_drop
  refine ⟨by rw [hl]; exact Nat.le_trans (Nat.mul_le_mul_right _ (Nat.sub_le _ _)) h8, _, _, by rw [hl], ⟨by rw [hl]; omega, by omega⟩, fun hp => ?_⟩
  rw [hl] at hp
  obtain ⟨b, off, ha, hb, hcell⟩ := hr (by omega)
  subst ha
  refine ⟨b, off + t * k, by rw [if_neg (by omega)]; simp only [Option.map_some, addN], hb, fun j hj => ?_⟩
  rw [hl, Nat.sub_mul] at hj
  have hle : t * k ≤ l.length * k := Nat.mul_le_mul_right _ ht
  rw [Nat.add_assoc, hcell (t * k + j) (by omega), ← celC_drop hk, List.getElem?_drop]
/-- Whatever list behind one of the call's own. -/
theorem appG {α : Type} {k bytes : Nat} {enc : α → List Value} {t e : TypeId} {z : Value} (hk : ∀ x, (enc x).length = k) (h1 : ∀ x, ∀ u ∈ enc x, u.oneCell' = true) (ht : Try.prog.underlying t = some (.slice e))
    (hi : (Try.prog.info? e).map (fun i => (i.zero, i.size, i.bytes)) = some (some z, k, bytes)) (hz : z.cells.size = k) (hk0 : 0 < k) (hb0 : 8 ≤ bytes) (w : World) (B : Nat) (v : Value) (xs l : List α) (g : Value) (hB : B ≤ w.heap.size)
    (ho : w.ownsRow B e k v xs.length (celC enc xs)) (hg : SGot k bytes enc w g l) (hl : (xs.length + l.length) * bytes ≤ 140737488355328) :
    ∃ v' w', (Builtin.append_ #[t, t] t #[v, g]).run Try.prog w = .ok v' w' ∧ w'.ownsRow B e k v' (xs ++ l).length (celC enc (xs ++ l)) ∧ w.grownBy w' v.ownBlock := by
  obtain ⟨a, c, rfl⟩ := hg.slice
  cases a with
  | none =>
    have h0 : l.length = 0 := by
      obtain ⟨_, a', c', e', _, hr⟩ := hg
      simp only [Value.slice.injEq] at e'
      rcases Nat.eq_zero_or_pos l.length with h0 | h0
      · exact h0
      · obtain ⟨b, off, hb, _⟩ := hr h0
        rw [← e'.1] at hb
        cases hb
    have hl0 : l = [] := List.length_eq_zero_iff.1 h0
    subst hl0
    refine ⟨v, w, app_none ht hi w B v _ _ ho c, ?_, grown_refl _ _⟩
    rw [List.append_nil]
    exact ho
  | some b => exact appL hk h1 ht hi hz hk0 hb0 w B v xs l b l.length c rfl hB ho hg hl
theorem of_at {l : List PosV} {t : Nat} (h : t < l.length) (x : Int) : ofP (l.drop t) x = if l[t].acc = x then l[t] else ofP (l.drop (t + 1)) x := by
  unfold ofP
  rw [List.drop_eq_getElem_cons h, List.find?_cons]
  by_cases e : l[t].acc = x <;> simp [e]
theorem pos_at (f : Sums) : ∀ (t : Nat) (p : PosV), p ∈ posT f t → 1 ≤ p.acc ∧ p.acc ≤ (t : Int) ∧ p.m = gM f p.acc ∧ p.g = gG f p.acc
  | 0, p, h => by simp [posT] at h
  | t + 1, p, h => by
    rw [pos_trp, List.mem_append] at h
    rcases h with h | h
    · obtain ⟨h1, h2, h3⟩ := pos_at f t p h
      exact ⟨h1, by push_cast; omega, h3⟩
    · split at h
      · rw [List.mem_singleton] at h
        subst h
        refine ⟨by show (1 : Int) ≤ (t : Int) + 1; omega, by show (t : Int) + 1 ≤ _; push_cast; omega, rfl, rfl⟩
      · simp at h
theorem nets_ok {l : List FillV} (hl : l.length ≤ 1000) (h : ∀ x ∈ l, strF x = false) : netL l = (posT (netS l) 8, 0) := by
  unfold netL
  rw [if_neg]
  simp only [Bool.or_eq_true, decide_eq_true_eq, List.any_eq_true, not_or, not_exists, not_and]
  exact ⟨by omega, fun x hx => by simp [h x hx]⟩
/-- All that ClearParts asks, in plain data. -/
theorem parts_all {l : List FillV} (hl : l.length ≤ 1000) (h : ∀ x ∈ l, strF x = false) (t : Nat) :
    netL l = (posT (netS l) 8, 0) ∧ netL (l.take t) = (posT (netS (l.take t)) 8, 0) ∧ netL (l.drop t) = (posT (netS (l.drop t)) 8, 0) ∧ netL (l.drop t ++ l.take t) = (posT (netS l) 8, 0) ∧
    ∀ p ∈ posT (netS l) 8, ((ofP (posT (netS (l.take t)) 8) p.acc).m + (ofP (posT (netS (l.drop t)) 8) p.acc).m = p.m ∧ (ofP (posT (netS (l.take t)) 8) p.acc).g + (ofP (posT (netS (l.drop t)) 8) p.acc).g = p.g) ∧ (-2000000000000000 ≤ p.m ∧ p.m ≤ 2000000000000000) ∧ (-2000000000000000 ≤ p.g ∧ p.g ≤ 2000000000000000) := by
  have ht : ∀ x ∈ l.take t, strF x = false := fun x hx => h x (List.mem_of_mem_take hx)
  have hd : ∀ x ∈ l.drop t, strF x = false := fun x hx => h x (List.mem_of_mem_drop hx)
  refine ⟨nets_ok hl h, nets_ok (Nat.le_trans (List.length_take_le' _ _) hl) ht, nets_ok (by rw [List.length_drop]; omega) hd, ?_, fun p hp => ?_⟩
  · rw [nets_ok (by simp; omega) (fun x hx => by
      rw [List.mem_append] at hx
      rcases hx with hx | hx
      · exact hd x hx
      · exact ht x hx), net_turn, List.take_append_drop]
  · obtain ⟨a1, a2, a3, a4⟩ := pos_at _ _ p hp
    obtain ⟨b1, b2⟩ := of_pos (netS (l.take t)) (x := p.acc) ⟨a1, a2⟩
    obtain ⟨c1, c2⟩ := of_pos (netS (l.drop t)) (x := p.acc) ⟨a1, a2⟩
    obtain ⟨d1, d2, -⟩ := net_app (l.take t) (l.drop t) p.acc
    rw [List.take_append_drop] at d1 d2
    have z := (zero_all hl h).2.2.2.1 p hp
    exact ⟨⟨by rw [b1, c1, a3, d1], by rw [b2, c2, a4, d2]⟩, z.1, z.2⟩
end Go.Proofs.Ytbpnnhalajbjnaa
