/- An order is taken out, walked. -/
import Derived.Test.YtgnmghcdfihmgaaCaP
import Derived.Test.YtgnmghcdfihmgaaUnl
import Derived.Test.YtgnmghcdfihmgaaTrD
import Derived.Test.YtgnmghcdfihmgaaCop
namespace Go.Proofs.Ytgnmghcdfihmgaa
open Go.RowKit
set_option linter.all false
/-- What comes back. -/
def TkBack (D B : Nat) (L : LaneV) (F : List FillV) (b a f : Value) (acc id : Int) (w : World) (e : Ending) (w' : World) : Prop :=
  (∃ M x, canF L acc id = some (M, x) ∧ e = .returned (.tuple #[.agg (ordE x).toArray, .bool true]) ∧ ∃ b' a' o' q, Deal D B M F b' a' o' f w' ∧ Tcr D B q w w' ∧ (q = b.ownBlock ∨ q = a.ownBlock)) ∨
  (canF L acc id = none ∧ e = .returned (.tuple #[.agg #[.int .i64 0, .int .i64 0, .int .i64 0, .int .i64 0], .bool false]) ∧ Below w.heap.size w w')
theorem four_at {w : World} {p : Nat} {t : TypeId} {a b c d : Value} (h : w.heap[p]? = some (.cells #[a, b, c, d] t (0, 0))) : w.cell? ⟨p, 0, none⟩ = some a ∧ w.cell? ⟨p, 1, none⟩ = some b ∧ w.cell? ⟨p, 2, none⟩ = some c ∧ w.cell? ⟨p, 3, none⟩ = some d ∧ p < w.heap.size :=
  ⟨by rw [cell_at h]; rfl, by rw [cell_at h]; rfl, by rw [cell_at h]; rfl, by rw [cell_at h]; rfl, (Array.getElem?_eq_some_iff.1 h).1⟩
structure TK (w : World) (D B : Nat) (L : LaneV) (F : List FillV) (b a o f : Value) (acc id : Int) (W : World) : Prop where
  deal : Deal D B L F b a o f W
  b0 : W.heap[w.heap.size]? = some (.cells #[.int .i64 acc] 3 (0, 0))
  b1 : W.heap[w.heap.size + 1]? = some (.cells #[.int .i64 id] 3 (0, 0))
  b2 : W.heap[w.heap.size + 2]? = some (.cells #[.int .i64 0, .int .i64 0, .int .i64 0, .int .i64 0] 38 (0, 0))
  bel : Below w.heap.size w W
theorem TK.keep {w : World} {D B : Nat} {L : LaneV} {F : List FillV} {b a o f : Value} {acc id : Int} {W W' : World} (h : TK w D B L F b a o f acc id W) (hb : Below W.heap.size W W') : TK w D B L F b a o f acc id W' :=
  ⟨h.deal.keep hb, (hb.block _ (Array.getElem?_eq_some_iff.1 h.b0).1).trans h.b0, (hb.block _ (Array.getElem?_eq_some_iff.1 h.b1).1).trans h.b1, (hb.block _ (Array.getElem?_eq_some_iff.1 h.b2).1).trans h.b2, below_via h.bel hb⟩
theorem TK.first {w : World} {D B : Nat} {L : LaneV} {F : List FillV} {b a o f : Value} (acc id : Int) (h : Deal D B L F b a o f w) : TK w D B L F b a o f acc id (((w.alloc (.cells #[.int .i64 acc] 3)).alloc (.cells #[.int .i64 id] 3)).alloc (.cells #[.int .i64 0, .int .i64 0, .int .i64 0, .int .i64 0] 38)) := by
  have ht := three_heap w (.cells #[.int .i64 acc] 3) (.cells #[.int .i64 id] 3) (.cells #[.int .i64 0, .int .i64 0, .int .i64 0, .int .i64 0] 38)
  have hb := below3 w (.cells #[.int .i64 acc] 3) (.cells #[.int .i64 id] 3) (.cells #[.int .i64 0, .int .i64 0, .int .i64 0, .int .i64 0] 38)
  exact ⟨h.keep hb, ht.1, ht.2.1, ht.2.2.1, hb⟩
theorem ords_of {w : World} {B : Nat} {v : Value} {l : List OrdV} (h : w.ownsRow B 38 4 v l.length (celC ordE l)) (hl : l.length ≤ 40) : Ords w v l := own_sgot (bytes := 32) h (by omega)
theorem row36 {w : World} {B : Nat} {v : Value} {l : List OrdV} (h : w.ownsRow B 38 4 v l.length (celC ordE l)) (i : Nat) (hi : i < l.length) : ∃ g c, v = .slice (some ⟨g, 0, none⟩) l.length c ∧ g < w.heap.size ∧ w.cell? ⟨g, i * 4, none⟩ = some (.int .i64 l[i].id) ∧ w.cell? ⟨g, i * 4 + 1, none⟩ = some (.int .i64 l[i].acc) ∧ w.cell? ⟨g, i * 4 + 2, none⟩ = some (.int .i64 l[i].price) ∧ w.cell? ⟨g, i * 4 + 3, none⟩ = some (.int .i64 l[i].left) := by
  rcases h.2 with ⟨_, h2⟩ | ⟨g, cap, cur, rfl, hg0, hg, hn, hc, hs, ht⟩
  · omega
  · have k : ∀ r, r < 4 → w.cell? ⟨g, i * 4 + r, none⟩ = (ordE l[i])[r]? := fun r hr => by
      rw [cell_at hg, ← celC_get ordK l i hi r hr, ← ht, List.getElem?_take, if_pos (by omega)]
      simp
    exact ⟨g, cap, rfl, (Array.getElem?_eq_some_iff.1 hg).1, k 0 (by omega), k 1 (by omega), k 2 (by omega), k 3 (by omega)⟩
theorem take_erase {α : Type} (l : List α) (i : Nat) : l.take i ++ l.drop (i + 1) = l.eraseIdx i := (List.eraseIdx_eq_take_drop_succ l i).symm
theorem deal_set {D B k j : Nat} {M : LaneV} {F : List FillV} {b a o f v : Value} {W : World} {cs : Array Value} (h : Deal D B M F b a o f W) (hk : W.heap[k]? = some (.cells cs 38 (0, 0))) (hD : k ≠ D) (hb : b.ownBlock ≠ some k) (ha : a.ownBlock ≠ some k) : Deal D B M F b a o f (W.setCell ⟨k, j, none⟩ v) :=
  ⟨setOther _ h.box hD.symm, own_ne h.ob hb, own_ne h.oa ha, own_cell h.oo hk (by decide), own_cell h.fl hk (by decide), h.sep⟩
theorem deal_put4 {D B k : Nat} {M : LaneV} {F : List FillV} {b a o f v0 v1 v2 v3 : Value} {W : World} {z0 z1 z2 z3 : Value} (h : Deal D B M F b a o f W) (hk : W.heap[k]? = some (.cells #[z0, z1, z2, z3] 38 (0, 0))) (hD : k ≠ D) (hb : b.ownBlock ≠ some k) (ha : a.ownBlock ≠ some k) : Deal D B M F b a o f ((((W.setCell ⟨k, 0, none⟩ v0).setCell ⟨k, 1, none⟩ v1).setCell ⟨k, 2, none⟩ v2).setCell ⟨k, 3, none⟩ v3) := by
  have h0 := heap_set hk 0 v0
  have h1 := heap_set h0 1 v1
  have h2 := heap_set h1 2 v2
  exact deal_set (deal_set (deal_set (deal_set h hk hD hb ha) h0 hD hb ha) h1 hD hb ha) h2 hD hb ha
/- a side in which nothing is found: the round goes on -/
/- a side in which it is found -/
end Go.Proofs.Ytgnmghcdfihmgaa
