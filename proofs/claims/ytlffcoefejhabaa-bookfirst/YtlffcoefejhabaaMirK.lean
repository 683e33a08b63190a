/- A book and its mirror in memory. -/
import Derived.Test.YtlffcoefejhabaaFew
import Derived.Test.YtlffcoefejhabaaMirP
import Derived.BigQuiet
namespace Go.Proofs.Ytlffcoefejhabaa
open Go.RowKit
set_option linter.all false
structure MW (w : World) (k m : Nat) (c : Int) (L : LaneV) (b a o : Value) (M : LaneV) (p q r : Value) (wx : World) : Prop where
  bl : wx.heap[k]? = some (.cells (laneA L b a o) 25 (0, 0))
  bm : wx.heap[m]? = some (.cells (laneA M p q r) 25 (0, 0))
  ob : wx.ownsRow w.heap.size 36 4 b L.bids.length (celC ordE L.bids)
  oa : wx.ownsRow w.heap.size 36 4 a L.asks.length (celC ordE L.asks)
  oo : wx.ownsRow w.heap.size 63 3 o L.owed.length (celC oweE L.owed)
  pb : wx.ownsRow w.heap.size 36 4 p M.bids.length (celC ordE M.bids)
  pa : wx.ownsRow w.heap.size 36 4 q M.asks.length (celC ordE M.asks)
  po : wx.ownsRow w.heap.size 63 3 r M.owed.length (celC oweE M.owed)
  ok : MirOk c L M
  bel : Below w.heap.size w wx
  lk : w.heap.size ≤ k
  lm : w.heap.size ≤ m
  ne : k ≠ m
theorem MW.keep {w : World} {k m : Nat} {c : Int} {L : LaneV} {b a o : Value} {M : LaneV} {p q r : Value} {wx wy : World} (h : MW w k m c L b a o M p q r wx) (hb : Below wx.heap.size wx wy) : MW w k m c L b a o M p q r wy :=
  ⟨(hb.block _ (Array.getElem?_eq_some_iff.1 h.bl).1).trans h.bl, (hb.block _ (Array.getElem?_eq_some_iff.1 h.bm).1).trans h.bm, own_keep h.ob hb, own_keep h.oa hb, own_keep h.oo hb, own_keep h.pb hb, own_keep h.pa hb, own_keep h.po hb, h.ok, below_via h.bel hb, h.lk, h.lm, h.ne⟩
theorem Sm.up {c d : Int} {L M : LaneV} (h : MirOk c L M) (hd : c ≤ d) : MirOk d L M := ⟨h.mir, h.kl, h.km, h.sl.le hd, h.sm.le hd⟩
theorem MW.up {w : World} {k m : Nat} {c d : Int} {L : LaneV} {b a o : Value} {M : LaneV} {p q r : Value} {wx : World} (h : MW w k m c L b a o M p q r wx) (hd : c ≤ d) : MW w k m d L b a o M p q r wx :=
  { h with ok := Sm.up h.ok hd }
theorem lan_own {W : World} {B : Nat} {L : LaneV} {b a o : Value} (hk : chkB L = true) (h1 : W.ownsRow B 36 4 b L.bids.length (celC ordE L.bids)) (h2 : W.ownsRow B 36 4 a L.asks.length (celC ordE L.asks)) (h3 : W.ownsRow B 63 3 o L.owed.length (celC oweE L.owed)) : Lan W L b a o := by
  have hm := chk_may hk
  have := hm.lb
  have := hm.la
  have := hm.ow.1
  exact ⟨own_sgot h1 (by omega), own_sgot h2 (by omega), own_sgot h3 (by omega)⟩
theorem MW.cellsL {w : World} {k m : Nat} {c : Int} {L : LaneV} {b a o : Value} {M : LaneV} {p q r : Value} {wx : World} (h : MW w k m c L b a o M p q r wx) : wx.cell? ⟨k, 0, none⟩ = some (.bool L.call) ∧ wx.cell? ⟨k, 1, none⟩ = some (.int .i64 L.next) ∧ wx.cell? ⟨k, 2, none⟩ = some b ∧ wx.cell? ⟨k, 3, none⟩ = some a ∧ wx.cell? ⟨k, 4, none⟩ = some o :=
  ⟨by rw [cell_at h.bl]; rfl, by rw [cell_at h.bl]; rfl, by rw [cell_at h.bl]; rfl, by rw [cell_at h.bl]; rfl, by rw [cell_at h.bl]; rfl⟩
theorem MW.cellsM {w : World} {k m : Nat} {c : Int} {L : LaneV} {b a o : Value} {M : LaneV} {p q r : Value} {wx : World} (h : MW w k m c L b a o M p q r wx) : wx.cell? ⟨m, 0, none⟩ = some (.bool M.call) ∧ wx.cell? ⟨m, 1, none⟩ = some (.int .i64 M.next) ∧ wx.cell? ⟨m, 2, none⟩ = some p ∧ wx.cell? ⟨m, 3, none⟩ = some q ∧ wx.cell? ⟨m, 4, none⟩ = some r :=
  ⟨by rw [cell_at h.bm]; rfl, by rw [cell_at h.bm]; rfl, by rw [cell_at h.bm]; rfl, by rw [cell_at h.bm]; rfl, by rw [cell_at h.bm]; rfl⟩
def put5 (wx : World) (R : Nat) (v0 v1 v2 v3 v4 : Value) : World := ((((wx.setCell ⟨R, 0, none⟩ v0).setCell ⟨R, 1, none⟩ v1).setCell ⟨R, 2, none⟩ v2).setCell ⟨R, 3, none⟩ v3).setCell ⟨R, 4, none⟩ v4
theorem put5_at {wx : World} {R : Nat} {L : LaneV} {b a o : Value} (h : wx.heap[R]? = some (.cells (laneA L b a o) 25 (0, 0))) (v0 v1 v2 v3 v4 : Value) : (put5 wx R v0 v1 v2 v3 v4).heap[R]? = some (.cells #[v0, v1, v2, v3, v4] 25 (0, 0)) :=
  heap_set (heap_set (heap_set (heap_set (heap_set h 0 v0) 1 v1) 2 v2) 3 v3) 4 v4
theorem put5_other {wx : World} {R k : Nat} {cs : Obj} (h : wx.heap[k]? = some cs) (hne : k ≠ R) (v0 v1 v2 v3 v4 : Value) : (put5 wx R v0 v1 v2 v3 v4).heap[k]? = some cs := by
  unfold put5
  rw [heap_set_other _ _ _ _ _ hne, heap_set_other _ _ _ _ _ hne, heap_set_other _ _ _ _ _ hne, heap_set_other _ _ _ _ _ hne, heap_set_other _ _ _ _ _ hne]
  exact h
theorem put5_bel {w wx : World} {R : Nat} (h : Below w.heap.size w wx) (hR : w.heap.size ≤ R) (v0 v1 v2 v3 v4 : Value) : Below w.heap.size w (put5 wx R v0 v1 v2 v3 v4) :=
  belowSet _ (belowSet _ (belowSet _ (belowSet _ (belowSet _ h hR) hR) hR) hR) hR
/-- Both are written. -/
theorem MW.put {w : World} {k m : Nat} {c d : Int} {L : LaneV} {b a o : Value} {M : LaneV} {p q r : Value} {wx : World} (h : MW w k m c L b a o M p q r wx) {L' M' : LaneV} {b' a' o' p' q' r' : Value} (h1 : wx.ownsRow w.heap.size 36 4 b' L'.bids.length (celC ordE L'.bids)) (h2 : wx.ownsRow w.heap.size 36 4 a' L'.asks.length (celC ordE L'.asks)) (h3 : wx.ownsRow w.heap.size 63 3 o' L'.owed.length (celC oweE L'.owed)) (h4 : wx.ownsRow w.heap.size 36 4 p' M'.bids.length (celC ordE M'.bids)) (h5 : wx.ownsRow w.heap.size 36 4 q' M'.asks.length (celC ordE M'.asks)) (h6 : wx.ownsRow w.heap.size 63 3 r' M'.owed.length (celC oweE M'.owed)) (hk : MirOk d L' M') :
    MW w k m d L' b' a' o' M' p' q' r' (put5 (put5 wx k (.bool L'.call) (.int .i64 L'.next) b' a' o') m (.bool M'.call) (.int .i64 M'.next) p' q' r') := by
  have hm := put5_other h.bm h.ne.symm (.bool L'.call) (.int .i64 L'.next) b' a' o'
  have hk1 := put5_at h.bl (.bool L'.call) (.int .i64 L'.next) b' a' o'
  refine ⟨put5_other hk1 h.ne _ _ _ _ _, put5_at hm _ _ _ _ _, ?_, ?_, ?_, ?_, ?_, ?_, hk, put5_bel (put5_bel h.bel h.lk _ _ _ _ _) h.lm _ _ _ _ _, h.lk, h.lm, h.ne⟩
  all_goals exact own_five (own_five (by assumption) h.bl (by decide) _ _ _ _ _) hm (by decide) _ _ _ _ _
theorem mir_first : MirOk 0 lane0 lane0 := ⟨⟨rfl, rfl, rfl, rfl⟩, chk0, chk0, fun y hy => by simp [lane0] at hy, fun y hy => by simp [lane0] at hy⟩
theorem MW.first (w w1 w2 : World) (h1 : Below w.heap.size w w1) (h2 : Below (w1.heap.size + 1) (w1.alloc (.cells #[.bool false, .int .i64 1, .slice none 0 0, .slice none 0 0, .slice none 0 0] 25)) w2) : MW w w1.heap.size w2.heap.size 0 lane0 (.slice none 0 0) (.slice none 0 0) (.slice none 0 0) lane0 (.slice none 0 0) (.slice none 0 0) (.slice none 0 0) (w2.alloc (.cells #[.bool false, .int .i64 1, .slice none 0 0, .slice none 0 0, .slice none 0 0] 25)) := by
  have e1 := heap_alloc_new w1 (.cells #[.bool false, .int .i64 1, .slice none 0 0, .slice none 0 0, .slice none 0 0] 25)
  have e2 := heap_alloc_new w2 (.cells #[.bool false, .int .i64 1, .slice none 0 0, .slice none 0 0, .slice none 0 0] 25)
  have hs : w1.heap.size + 1 ≤ w2.heap.size := by have := h2.size; simpa using this
  have h2' : Below (w1.alloc (.cells #[.bool false, .int .i64 1, .slice none 0 0, .slice none 0 0, .slice none 0 0] 25)).heap.size (w1.alloc (.cells #[.bool false, .int .i64 1, .slice none 0 0, .slice none 0 0, .slice none 0 0] 25)) w2 := by simpa using h2
  have hb := below1 w2 (.cells #[.bool false, .int .i64 1, .slice none 0 0, .slice none 0 0, .slice none 0 0] 25)
  have h1s := h1.size
  exact ⟨(hb.block _ (by omega)).trans ((h2.block _ (by omega)).trans e1), e2, own_nil _ _, own_nil _ _, own_nil _ _, own_nil _ _, own_nil _ _, own_nil _ _, mir_first, below_via (below_via (below_via h1 (below1 _ _)) h2') hb, h1s, by omega, by omega⟩
end Go.Proofs.Ytlffcoefejhabaa
