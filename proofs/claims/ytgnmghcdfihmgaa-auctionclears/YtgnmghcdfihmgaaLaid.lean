/- A list with one more, behind all that stand ahead of it. -/
import Derived.Test.YtgnmghcdfihmgaaDel
namespace Go.Proofs.Ytgnmghcdfihmgaa
open Go.RowKit
set_option linter.all false
def laidL {α : Type} (r : α → α → Bool) (x : α) (l : List α) : List α := l.takeWhile (r · x) ++ x :: l.dropWhile (r · x)
theorem grown_via {w W w' : World} {q : Option Nat} (h : Below w.heap.size w W) (k : W.grownBy w' q) : w.grownBy w' q :=
  ⟨k.os.trans h.os, k.tape.trans h.tape, k.output.trans h.output, Nat.le_trans h.size k.size, fun i hi hne => (k.block i (Nat.lt_of_lt_of_le hi h.size) hne).trans (h.block i hi)⟩
theorem takeWhile_at {α : Type} (p : α → Bool) (l : List α) (t : Nat) (h : t < l.length) : ((l.drop t).takeWhile p).length = if p l[t] = true then 1 + ((l.drop (t + 1)).takeWhile p).length else 0 := by
  rw [List.drop_eq_getElem_cons h, List.takeWhile_cons]
  split
  · simp; omega
  · rfl
theorem laidL_at {α : Type} (r : α → α → Bool) (x : α) (l : List α) (t : Nat) (h : (l.takeWhile (r · x)).length = t) : l.take t ++ x :: l.drop t = laidL r x l := by
  unfold laidL
  have e := List.takeWhile_append_dropWhile (p := (r · x)) (l := l)
  generalize l.takeWhile (r · x) = T at *
  generalize l.dropWhile (r · x) = D at *
  rw [← e, List.take_left' h, List.drop_left' h]
end Go.Proofs.Ytgnmghcdfihmgaa
