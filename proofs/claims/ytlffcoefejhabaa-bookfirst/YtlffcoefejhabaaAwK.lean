/- A book and an order in boxes, and what is placed. -/
import Derived.Test.YtlffcoefejhabaaSdK
import Derived.Test.YtlffcoefejhabaaNwP
import Derived.Test.YtlffcoefejhabaaSml
namespace Go.Proofs.Ytlffcoefejhabaa
open Go.RowKit
set_option linter.all false
structure AW (w : World) (L : LaneV) (b a o : Value) (acc s price n : Int) (now : Bool) (W : World) : Prop where
  b2 : W.heap[w.heap.size]? = some (.cells #[.bool L.call, .int .i64 L.next, b, a, o] 25 (0, 0))
  b3 : W.heap[w.heap.size + 1]? = some (.cells #[.int .i64 acc, .int .i64 s, .int .i64 price, .int .i64 n, .bool now] 27 (0, 0))
  la : Lan W L b a o
  bel : Below w.heap.size w W
theorem AW.first {w : World} {L : LaneV} {b a o : Value} (acc s price n : Int) (now : Bool) (h : Lan w L b a o) : AW w L b a o acc s price n now ((w.alloc (.cells #[.bool L.call, .int .i64 L.next, b, a, o] 25)).alloc (.cells #[.int .i64 acc, .int .i64 s, .int .i64 price, .int .i64 n, .bool now] 27)) :=
  ⟨(two_heap w _ _).1, (two_heap w _ _).2.1, h.keep (below2 w _ _), below2 w _ _⟩
theorem AW.keep {w : World} {L : LaneV} {b a o : Value} {acc s price n : Int} {now : Bool} {W W' : World} (h : AW w L b a o acc s price n now W) (hb : Below W.heap.size W W') : AW w L b a o acc s price n now W' :=
  ⟨blk_keep h.b2 hb, blk_keep h.b3 hb, h.la.keep hb, below_via h.bel hb⟩
structure PW (k : Nat) (L : LaneV) (b a o : Value) (W : World) : Prop where
  bk : W.heap[k]? = some (.cells #[.bool L.call, .int .i64 L.next, b, a, o] 25 (0, 0))
  la : Lan W L b a o
theorem PW.keep {k : Nat} {L : LaneV} {b a o : Value} {W W' : World} (h : PW k L b a o W) (hb : Below W.heap.size W W') : PW k L b a o W' := ⟨blk_keep h.bk hb, h.la.keep hb⟩
theorem PW.new {w : World} {B : Nat} {L : LaneV} {b a o : Value} (hk : chkB L = true) (h1 : w.ownsRow B 36 4 b L.bids.length (celC ordE L.bids)) (h2 : w.ownsRow B 36 4 a L.asks.length (celC ordE L.asks)) (h3 : w.ownsRow B 63 3 o L.owed.length (celC oweE L.owed)) : PW w.heap.size L b a o (w.alloc (.cells #[.bool L.call, .int .i64 L.next, b, a, o] 25)) :=
  ⟨heap_alloc_new w _, (lan_own hk h1 h2 h3).keep (below1 w _)⟩
end Go.Proofs.Ytlffcoefejhabaa
