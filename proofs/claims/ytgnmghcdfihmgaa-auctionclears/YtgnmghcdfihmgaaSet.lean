/- A trade is written. -/
import Derived.Test.YtgnmghcdfihmgaaSt4
namespace Go.Proofs.Ytgnmghcdfihmgaa
open Go.RowKit
set_option linter.all false
/-- What a trade makes a book owe, and the trade. -/
def setB (s : Int) (o r : OrdV) : OrdV := if s = 2 then r else o
def setS (s : Int) (o r : OrdV) : OrdV := if s = 2 then o else r
def setO (s : Int) (o r : OrdV) (n : Int) (l : List OweV) : List OweV :=
  let l2 := oweL (setS s o r).acc 0 (r.price * n) (oweL (setB s o r).acc 1 n l)
  if r.price < (setB s o r).price then oweL (setB s o r).acc 0 (((setB s o r).price - r.price) * n) l2 else l2
def setF (s : Int) (o r : OrdV) (n : Int) : FillV := ⟨(setB s o r).acc, (setS s o r).acc, r.price, n⟩
def dealL (L : LaneV) (l : List OweV) : LaneV := ⟨L.call, L.next, L.bids, L.asks, l⟩
theorem okO_set {c : Nat} {l : List OweV} {s : Int} {o r : OrdV} {n : Int} (h : OkO c l) (hn : 0 ≤ n ∧ n ≤ 1000000) (ho : 0 ≤ o.price ∧ o.price ≤ 1000000) (hr : 0 ≤ r.price ∧ r.price ≤ 1000000) : OkO (c + 3) (setO s o r n l) := by
  have h1 := okO_owe (acc := (setB s o r).acc) (asset := 1) h (show 0 ≤ n ∧ n ≤ 1000000000000 by omega)
  have hm : 0 ≤ r.price * n ∧ r.price * n ≤ 1000000000000 := ⟨Int.mul_nonneg hr.1 hn.1, by
    have := Int.mul_le_mul hr.2 hn.2 hn.1 (by omega : (0 : Int) ≤ 1000000)
    omega⟩
  have h2 := okO_owe (acc := (setS s o r).acc) (asset := 0) h1 hm
  unfold setO
  simp only
  split
  · rename_i hlt
    have hb : (setB s o r).price ≤ 1000000 := by unfold setB; split <;> omega
    refine okO_owe h2 ⟨Int.mul_nonneg (by omega) hn.1, ?_⟩
    have := Int.mul_le_mul (show (setB s o r).price - r.price ≤ 1000000 by omega) hn.2 hn.1 (by omega : (0 : Int) ≤ 1000000)
    omega
  · exact ⟨by have := h2.1; omega, fun y hy => by have := h2.2 y hy; omega⟩
/-- Four boxes behind the call. -/
structure B4 (w : World) (p q : Nat) (x y : OrdV) (r : OrdV) (wx : World) : Prop where
  ne : p ≠ q
  lp : w.heap.size + 2 ≤ p
  lq : w.heap.size + 2 ≤ q
  bp : wx.heap[p]? = some (.cells (ordE x).toArray 38 (0, 0))
  bq : wx.heap[q]? = some (.cells (ordE y).toArray 38 (0, 0))
  br : wx.heap[w.heap.size + 1]? = some (.cells (ordE r).toArray 38 (0, 0))
  bel : Below w.heap.size w wx
theorem B4.cells {w : World} {p q : Nat} {x y r : OrdV} {wx : World} (h : B4 w p q x y r wx) : wx.cell? ⟨p, 1, none⟩ = some (.int .i64 x.acc) ∧ wx.cell? ⟨p, 2, none⟩ = some (.int .i64 x.price) ∧ wx.cell? ⟨q, 1, none⟩ = some (.int .i64 y.acc) ∧ wx.cell? ⟨w.heap.size + 1, 2, none⟩ = some (.int .i64 r.price) :=
  ⟨by rw [cell_at h.bp]; rfl, by rw [cell_at h.bp]; rfl, by rw [cell_at h.bq]; rfl, by rw [cell_at h.br]; rfl⟩
theorem B4.tch {w wx wy : World} {p q D B : Nat} {x y r : OrdV} (h : B4 w p q x y r wx) (ht : Tch D B wx wy) (hD : D < w.heap.size) : wy.heap[p]? = some (.cells (ordE x).toArray 38 (0, 0)) ∧ wy.heap[q]? = some (.cells (ordE y).toArray 38 (0, 0)) :=
  ⟨ht.block h.bp (by have := h.lp; omega) (by decide) (by decide), ht.block h.bq (by have := h.lq; omega) (by decide) (by decide)⟩
theorem b4_one (w : World) (x r : OrdV) : B4 w (w.heap.size + 2) (w.heap.size + 2 + 1) x r r ((((w.alloc (.cells (ordE x).toArray 38)).alloc (.cells (ordE r).toArray 38)).alloc (.cells (ordE x).toArray 38)).alloc (.cells (ordE r).toArray 38)).drew ∧ Below ((w.alloc (.cells (ordE x).toArray 38)).alloc (.cells (ordE r).toArray 38)).heap.size ((w.alloc (.cells (ordE x).toArray 38)).alloc (.cells (ordE r).toArray 38)) ((((w.alloc (.cells (ordE x).toArray 38)).alloc (.cells (ordE r).toArray 38)).alloc (.cells (ordE x).toArray 38)).alloc (.cells (ordE r).toArray 38)).drew := by
  have h1 := two_heap w (.cells (ordE x).toArray 38) (.cells (ordE r).toArray 38)
  have hb1 := below2 w (.cells (ordE x).toArray 38) (.cells (ordE r).toArray 38)
  generalize (w.alloc (.cells (ordE x).toArray 38)).alloc (.cells (ordE r).toArray 38) = w0 at *
  have h2 := two_heap w0 (.cells (ordE x).toArray 38) (.cells (ordE r).toArray 38)
  have hb2 := below2 w0 (.cells (ordE x).toArray 38) (.cells (ordE r).toArray 38)
  rw [h1.2.2] at h2
  exact ⟨⟨by omega, by omega, by omega, h2.1, h2.2.1, (hb2.block _ (by omega)).trans h1.2.1, (below_via hb1 hb2).drew⟩, hb2.drew⟩
theorem b4_two (w : World) (x r : OrdV) : B4 w (w.heap.size + 2 + 1) (w.heap.size + 2) x r r ((((w.alloc (.cells (ordE x).toArray 38)).alloc (.cells (ordE r).toArray 38)).alloc (.cells (ordE r).toArray 38)).alloc (.cells (ordE x).toArray 38)).drew ∧ Below ((w.alloc (.cells (ordE x).toArray 38)).alloc (.cells (ordE r).toArray 38)).heap.size ((w.alloc (.cells (ordE x).toArray 38)).alloc (.cells (ordE r).toArray 38)) ((((w.alloc (.cells (ordE x).toArray 38)).alloc (.cells (ordE r).toArray 38)).alloc (.cells (ordE r).toArray 38)).alloc (.cells (ordE x).toArray 38)).drew := by
  have h1 := two_heap w (.cells (ordE x).toArray 38) (.cells (ordE r).toArray 38)
  have hb1 := below2 w (.cells (ordE x).toArray 38) (.cells (ordE r).toArray 38)
  generalize (w.alloc (.cells (ordE x).toArray 38)).alloc (.cells (ordE r).toArray 38) = w0 at *
  have h2 := two_heap w0 (.cells (ordE r).toArray 38) (.cells (ordE x).toArray 38)
  have hb2 := below2 w0 (.cells (ordE r).toArray 38) (.cells (ordE x).toArray 38)
  rw [h1.2.2] at h2
  exact ⟨⟨by omega, by omega, by omega, h2.2.1, h2.1, (hb2.block _ (by omega)).trans h1.2.1, (below_via hb1 hb2).drew⟩, hb2.drew⟩
theorem put4w_other {w : World} {p k : Nat} (x : OrdV) {o : Option Obj} (h : w.heap[k]? = o) (hk : k ≠ p) : (put4w w p x).heap[k]? = o := setOther _ (setOther _ (setOther _ (setOther _ h hk) hk) hk) hk
theorem put4w_below {w w0 : World} {B p : Nat} (x : OrdV) (h : Below B w0 w) (hp : B ≤ p) : Below B w0 (put4w w p x) := belowSet _ (belowSet _ (belowSet _ (belowSet _ h hp) hp) hp) hp
theorem cells8 {W : World} {A C : Nat} {x r : OrdV} (h1 : W.heap[A]? = some (.cells (ordE x).toArray 38 (0, 0))) (h2 : W.heap[C]? = some (.cells (ordE r).toArray 38 (0, 0))) : W.cell? ⟨A, 0, none⟩ = some (.int .i64 x.id) ∧ W.cell? ⟨A, 1, none⟩ = some (.int .i64 x.acc) ∧ W.cell? ⟨A, 2, none⟩ = some (.int .i64 x.price) ∧ W.cell? ⟨A, 3, none⟩ = some (.int .i64 x.left) ∧ W.cell? ⟨C, 0, none⟩ = some (.int .i64 r.id) ∧ W.cell? ⟨C, 1, none⟩ = some (.int .i64 r.acc) ∧ W.cell? ⟨C, 2, none⟩ = some (.int .i64 r.price) ∧ W.cell? ⟨C, 3, none⟩ = some (.int .i64 r.left) :=
  ⟨by rw [cell_at h1]; rfl, by rw [cell_at h1]; rfl, by rw [cell_at h1]; rfl, by rw [cell_at h1]; rfl, by rw [cell_at h2]; rfl, by rw [cell_at h2]; rfl, by rw [cell_at h2]; rfl, by rw [cell_at h2]; rfl⟩
theorem b4_swap1 {w wx w0 : World} {p q : Nat} {x r : OrdV} (h : B4 w p q x r r wx) (hb : Below w0.heap.size w0 wx) (hs : w0.heap.size = w.heap.size + 2) : B4 w p q r x r (put4w (put4w wx p r) q x) ∧ Below w0.heap.size w0 (put4w (put4w wx p r) q x) := by
  have hp := h.lp
  have hq := h.lq
  exact ⟨⟨h.ne, hp, hq, put4w_other _ (put4w_at h.bp) h.ne, put4w_at (put4w_other _ h.bq h.ne.symm), put4w_other _ (put4w_other _ h.br (by omega)) (by omega), put4w_below _ (put4w_below _ h.bel (by omega)) (by omega)⟩, put4w_below _ (put4w_below _ hb (by omega)) (by omega)⟩
theorem b4_swap2 {w wx w0 : World} {p q : Nat} {x r : OrdV} (h : B4 w p q x r r wx) (hb : Below w0.heap.size w0 wx) (hs : w0.heap.size = w.heap.size + 2) : B4 w p q r x r (put4w (put4w wx q x) p r) ∧ Below w0.heap.size w0 (put4w (put4w wx q x) p r) := by
  have hp := h.lp
  have hq := h.lq
  exact ⟨⟨h.ne, hp, hq, put4w_at (put4w_other _ h.bp h.ne), put4w_other _ (put4w_at h.bq) h.ne.symm, put4w_other _ (put4w_other _ h.br (by omega)) (by omega), put4w_below _ (put4w_below _ h.bel (by omega)) (by omega)⟩, put4w_below _ (put4w_below _ hb (by omega)) (by omega)⟩
theorem deal_fill {D B : Nat} {L : LaneV} {F F2 : List FillV} {b a o f f' : Value} {W w' : World} (hW : Deal D B L F b a o f W) (ho : w'.ownsRow B 41 4 f' F2.length (celC filE F2)) (hg : W.grownBy w' f.ownBlock) : Deal D B L F2 b a o f' (w'.setCell ⟨D, 5, none⟩ f') ∧ Tch D B W (w'.setCell ⟨D, 5, none⟩ f') ∧ w'.cell? ⟨D, 5, none⟩ = some f ∧ w'.frozen? ⟨D, 5, none⟩ = false ∧ D < w'.heap.size := by
  have hbx := box_type hg hW.fl hW.box (by decide)
  exact ⟨⟨heap_set hbx 5 f', own_cell (own_type hg hW.fl hW.ob (by decide)) hbx (by decide), own_cell (own_type hg hW.fl hW.oa (by decide)) hbx (by decide), own_cell (own_type hg hW.fl hW.oo (by decide)) hbx (by decide), own_cell ho hbx (by decide), hW.sep⟩, (Tch.ofGrownF hg hW.fl).trans (Tch.ofSet _ _), by rw [cell_at hbx]; rfl, free_at hbx 5, (Array.getElem?_eq_some_iff.1 hbx).1⟩
end Go.Proofs.Ytgnmghcdfihmgaa
