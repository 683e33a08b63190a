/- A book of one's own in a box. -/
import Derived.Test.YtlffcoefejhabaaAwK
namespace Go.Proofs.Ytlffcoefejhabaa
open Go.RowKit
set_option linter.all false
structure OW (B k : Nat) (L : LaneV) (b a o : Value) (W : World) : Prop where
  bk : W.heap[k]? = some (.cells #[.bool L.call, .int .i64 L.next, b, a, o] 25 (0, 0))
  ob : W.ownsRow B 36 4 b L.bids.length (celC ordE L.bids)
  oa : W.ownsRow B 36 4 a L.asks.length (celC ordE L.asks)
  oo : W.ownsRow B 63 3 o L.owed.length (celC oweE L.owed)
theorem OW.keep {B k : Nat} {L : LaneV} {b a o : Value} {W W' : World} (h : OW B k L b a o W) (hb : Below W.heap.size W W') : OW B k L b a o W' := ⟨blk_keep h.bk hb, own_keep h.ob hb, own_keep h.oa hb, own_keep h.oo hb⟩
theorem OW.lan {B k : Nat} {L : LaneV} {b a o : Value} {W : World} (h : OW B k L b a o W) (hk : chkB L = true) : Lan W L b a o := lan_own hk h.ob h.oa h.oo
theorem OW.new {w : World} {B : Nat} {L : LaneV} {b a o : Value} (h1 : w.ownsRow B 36 4 b L.bids.length (celC ordE L.bids)) (h2 : w.ownsRow B 36 4 a L.asks.length (celC ordE L.asks)) (h3 : w.ownsRow B 63 3 o L.owed.length (celC oweE L.owed)) : OW B w.heap.size L b a o (w.alloc (.cells #[.bool L.call, .int .i64 L.next, b, a, o] 25)) :=
  ⟨heap_alloc_new w _, own_keep h1 (below1 w _), own_keep h2 (below1 w _), own_keep h3 (below1 w _)⟩
theorem OW.next {B k : Nat} {L : LaneV} {b a o : Value} {W : World} (h : OW B k L b a o W) (x : Int) : OW B k ⟨L.call, x, L.bids, L.asks, L.owed⟩ b a o (W.setCell ⟨k, 1, none⟩ (.int .i64 x)) :=
  ⟨heap_set h.bk 1 _, own_cell h.ob h.bk (by decide), own_cell h.oa h.bk (by decide), own_cell h.oo h.bk (by decide)⟩
theorem OW.other {B k m : Nat} {L : LaneV} {b a o : Value} {W : World} {cs : Array Value} (h : OW B k L b a o W) (hm : W.heap[m]? = some (.cells cs 25 (0, 0))) (hne : k ≠ m) (j : Nat) (v : Value) : OW B k L b a o (W.setCell ⟨m, j, none⟩ v) :=
  ⟨setOther _ h.bk hne, own_cell h.ob hm (by decide), own_cell h.oa hm (by decide), own_cell h.oo hm (by decide)⟩
/-- What is placed can be read, also where it is refused. -/
theorem place_len' (L : LaneV) (acc s price n : Int) (now : Bool) : (placeL L acc s price n now).2.1.length ≤ 40 := by
  by_cases he : (placeL L acc s price n now).2.2.2 = 0
  · exact place_len (refE_ok (place_ok he).1).1 acc s price n now
  · rw [(place_bad he).2.1]; simp
theorem place_lan {L : LaneV} {acc s price n : Int} {now : Bool} {B k : Nat} {b a o : Value} {W : World} (h : OW B k (placeL L acc s price n now).1 b a o W) : Lan W (placeL L acc s price n now).1 b a o := by
  by_cases he : (placeL L acc s price n now).2.2.2 = 0
  · exact h.lan (placeL_may he)
  · have e := (place_bad he).1
    rw [e] at h ⊢
    exact ⟨own_sgot h.ob (by simp [zLane]), own_sgot h.oa (by simp [zLane]), own_sgot h.oo (by simp [zLane])⟩
theorem wfB3 {x : Int} (h : (Lit.int .i64 x).wf = true) : i64B x := by
  have e1 : IntKind.i64.min = -9223372036854775808 := by decide
  have e2 : IntKind.i64.max = 9223372036854775807 := by decide
  simpa [Lit.wf, e1, e2, i64B] using h
end Go.Proofs.Ytlffcoefejhabaa
