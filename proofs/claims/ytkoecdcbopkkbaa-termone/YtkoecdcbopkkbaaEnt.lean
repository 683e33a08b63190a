/- Ballots in blocks of their own, and what stays of them while a statement goes on; how long the lists are that come back. -/
import Derived.Test.YtkoecdcbopkkbaaRefB
import Derived.Test.YtkoecdcbopkkbaaRefC
import Derived.Test.YtkoecdcbopkkbaaRefG
import Derived.Test.YtkoecdcbopkkbaaSame
namespace Go.Proofs.Ytkoecdcbopkkbaa
open Go.RowKit
/-- A ballot lies in a block, its list can be read. -/
structure Ent (wx : World) (blk : Nat) (b : Bal) (g : Value) : Prop where
  box : wx.heap[blk]? = some (.cells #[.int .i64 b.t, .int .i64 b.v, .int .i64 b.r, g] 26 (0, 0))
  got : GotAt wx g b.l
theorem Ent.lt {wx : World} {blk : Nat} {b : Bal} {g : Value} (h : Ent wx blk b g) : blk < wx.heap.size := (Array.getElem?_eq_some_iff.1 h.box).1
theorem Ent.keep {wx wy : World} {blk : Nat} {b : Bal} {g : Value} (h : Ent wx blk b g) (hb : Below wx.heap.size wx wy) : Ent wy blk b g :=
  ⟨(hb.block _ h.lt).trans h.box, h.got.keep hb⟩
theorem Ent.new {w1 : World} {b : Bal} {g : Value} {B : Nat} (h : w1.ownsRow B 3 1 g b.l.length (b.l.map iv)) (h8 : b.l.length * 8 ≤ 140737488355328) : Ent (w1.alloc (.cells #[.int .i64 b.t, .int .i64 b.v, .int .i64 b.r, g] 26)) w1.heap.size b g :=
  ⟨heap_alloc_new w1 _, (own_got h h8).keep (below1 w1 _)⟩
theorem Ent.first {w : World} {b : Bal} {g : Value} (h : GotAt w g b.l) : Ent (w.alloc (.cells #[.int .i64 b.t, .int .i64 b.v, .int .i64 b.r, g] 26)) w.heap.size b g :=
  ⟨heap_alloc_new w _, h.keep (below1 w _)⟩
/-- What was there stays, when only what came later is written. -/
theorem below_out {W w w' : World} {F : Nat → Prop} (h : Below W.heap.size W w) (ho : Out F w w') (hF : ∀ k, F k → W.heap.size ≤ k) : Below W.heap.size W w' :=
  h.trans (ho.below h.size hF)
theorem own_out {F : Nat → Prop} {wa wb : World} {B : Nat} {e : TypeId} {z : Nat} {v : Value} {n : Nat} {xs : List Value} (h : wa.ownsRow B e z v n xs) (ho : Out F wa wb) (hF : ∀ k, F k → k < B) : wb.ownsRow B e z v n xs := by
  obtain ⟨h1, hn | ⟨g, cap, cur, hv, hb, hg, rest⟩⟩ := h
  · exact ⟨h1, .inl hn⟩
  · exact ⟨h1, .inr ⟨g, cap, cur, hv, hb, (ho.block g (Array.getElem?_eq_some_iff.1 hg).1 (fun hf => by have := hF g hf; omega)).trans hg, rest⟩⟩
theorem begin_len (b : Bal) (me n : Int) : (beginL b me n).1.l.length * 8 ≤ 140737488355328 := by
  unfold beginL
  split
  · simp [zB]
  · split
    · simp [zB]
    · split
      · simp [zB]
      · simp [voteL, addL, insL]
theorem hear_len (b : Bal) (x : Int) : (hear2L b x).1.l.length * 8 ≤ 140737488355328 := by
  unfold hear2L
  split
  · simp [zB]
  · rename_i h
    split
    · simp [zB]
    · have := (hear_l (b := b) x (by simpa using h)).2
      show (hearL b x).l.length * 8 ≤ _
      omega
theorem add_len (l : List Int) (x : Int) : (addL l x).length ≤ l.length + 1 := by
  unfold addL
  split
  · omega
  · rw [insL_len]
    exact Nat.le_refl _
theorem count_len (b : Bal) (x y : Int) (ok : Bool) (n : Int) : (countL b x y ok n).1.l.length * 8 ≤ 140737488355328 := by
  unfold countL
  split
  · simp [zB]
  · rename_i h
    have h7 := (hear_l (b := b) y (by simpa using h)).2
    split
    · simp [zB]
    · split
      · simp [zB]
      · split
        · have := add_len (hearL b y).l x
          show (addL (hearL b y).l x).length * 8 ≤ _
          omega
        · show (hearL b y).l.length * 8 ≤ _
          omega
theorem grant_len (b : Bal) (qf qt qi qm li lm : Int) : (grantL b qf qt qi qm li lm).1.l.length * 8 ≤ 140737488355328 := by
  unfold grantL
  split
  · simp [zB]
  · rename_i h
    have h7 := (hear_l (b := b) qt (by simpa using h)).2
    split
    · simp [zB]
    · split
      · show (hearL b qt).l.length * 8 ≤ _
        omega
      · show (hearL b qt).l.length * 8 ≤ _
        omega
end Go.Proofs.Ytkoecdcbopkkbaa
