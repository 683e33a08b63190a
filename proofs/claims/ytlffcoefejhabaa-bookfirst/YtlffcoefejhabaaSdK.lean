/- A book in memory, that is placed upon. -/
import Derived.Test.YtlffcoefejhabaaMirW
import Derived.Test.YtlffcoefejhabaaSrv
import Derived.Test.YtlffcoefejhabaaRCo
namespace Go.Proofs.Ytlffcoefejhabaa
open Go.RowKit
set_option linter.all false
structure SW (w : World) (k : Nat) (L : LaneV) (b a o : Value) (wx : World) : Prop where
  bl : wx.heap[k]? = some (.cells (laneA L b a o) 25 (0, 0))
  ob : wx.ownsRow w.heap.size 36 4 b L.bids.length (celC ordE L.bids)
  oa : wx.ownsRow w.heap.size 36 4 a L.asks.length (celC ordE L.asks)
  oo : wx.ownsRow w.heap.size 63 3 o L.owed.length (celC oweE L.owed)
  ok : chkB L = true
  bel : Below w.heap.size w wx
  lk : w.heap.size ≤ k
theorem SW.keep {w : World} {k : Nat} {L : LaneV} {b a o : Value} {wx wy : World} (h : SW w k L b a o wx) (hb : Below wx.heap.size wx wy) : SW w k L b a o wy :=
  ⟨(hb.block _ (Array.getElem?_eq_some_iff.1 h.bl).1).trans h.bl, own_keep h.ob hb, own_keep h.oa hb, own_keep h.oo hb, h.ok, below_via h.bel hb, h.lk⟩
theorem SW.lan {w : World} {k : Nat} {L : LaneV} {b a o : Value} {wx : World} (h : SW w k L b a o wx) : Lan wx L b a o := lan_own h.ok h.ob h.oa h.oo
theorem SW.put {w : World} {k : Nat} {L : LaneV} {b a o : Value} {wx : World} (h : SW w k L b a o wx) {L' : LaneV} {b' a' o' : Value} (h1 : wx.ownsRow w.heap.size 36 4 b' L'.bids.length (celC ordE L'.bids)) (h2 : wx.ownsRow w.heap.size 36 4 a' L'.asks.length (celC ordE L'.asks)) (h3 : wx.ownsRow w.heap.size 63 3 o' L'.owed.length (celC oweE L'.owed)) (hk : chkB L' = true) :
    SW w k L' b' a' o' (put5 wx k (.bool L'.call) (.int .i64 L'.next) b' a' o') :=
  ⟨put5_at h.bl _ _ _ _ _, own_five h1 h.bl (by decide) _ _ _ _ _, own_five h2 h.bl (by decide) _ _ _ _ _, own_five h3 h.bl (by decide) _ _ _ _ _, hk, put5_bel h.bel h.lk _ _ _ _ _, h.lk⟩
theorem SW.first (w w1 : World) (h1 : Below w.heap.size w w1) : SW w w1.heap.size lane0 (.slice none 0 0) (.slice none 0 0) (.slice none 0 0) (w1.alloc (.cells #[.bool false, .int .i64 1, .slice none 0 0, .slice none 0 0, .slice none 0 0] 25)) :=
  ⟨heap_alloc_new w1 _, own_nil _ _, own_nil _ _, own_nil _ _, chk0, below_via h1 (below1 _ _), h1.size⟩
theorem blk_keep {w w' : World} {k : Nat} {x : Obj} (h : w.heap[k]? = some x) (hb : Below w.heap.size w w') : w'.heap[k]? = some x := (hb.block _ (Array.getElem?_eq_some_iff.1 h).1).trans h
end Go.Proofs.Ytlffcoefejhabaa
