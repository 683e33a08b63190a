/- fresh.List at transactions, and fresh.Coord: walked. -/
import Derived.Test.YtilinemcmgjiiaaDoorTr
import Derived.Maps.AppendAt
namespace Go.Proofs.YtilinemcmgjiiaaDoor
open Go.RowKit
set_option linter.all false
theorem infoTra : (Tryd.prog.info? 52).map (fun i => (i.zero, i.size, i.bytes)) = some (some (.agg #[.int .i64 0, .int .i64 0, .int .i64 0, .int .i64 0, .int .i64 0, .int .i64 0, .int .i64 0, .int .i64 0, .int .i64 0, .bool false, .int .i64 0, .int .i64 0, .int .i64 0, .slice none 0 0, .int .i64 0, .slice none 0 0, .slice none 0 0, .int .i64 0, .int .i64 0, .slice none 0 0, .slice none 0 0]), 21, 248) := by kernel_rfl
theorem AnsOwn.kept2 {w w' : World} {B B2 : Nat} {z n : Nat} {v : Value} {xs : List Value} {x : AnsX} (k : AnsOwn B2 w x) (h : w.grownBy w' v.ownBlock) (ho : w.ownsRow B 52 z v n xs) : AnsOwn B2 w' x := k.kept h ho (by decide) (by decide)
theorem TraOwn.kept {w w' : World} {B B2 : Nat} {z n : Nat} {v : Value} {xs : List Value} {x : TraX} (k : TraOwn B2 w x) (h : w.grownBy w' v.ownBlock) (ho : w.ownsRow B 52 z v n xs) : TraOwn B2 w' x :=
  ⟨own_kept h ho k.p (by decide), own_kept h ho k.m (by decide), ⟨own_kept h ho k.c.row (by decide), fun c hc => (k.c.own c hc).kept h ho (by decide) (by decide) (by decide), k.c.siz⟩, k.x.kept2 h ho, k.sp, k.sm⟩
/-- The lists of two transactions that are turned in place lie apart. -/
def djT (s t : TraX) : Prop := (∀ k, (Value.slice s.pa s.ps.length s.pc).ownBlock = some k → (Value.slice t.pa t.ps.length t.pc).ownBlock ≠ some k) ∧ (∀ k, (Value.slice s.ca s.cx.length s.cc).ownBlock = some k → (Value.slice t.ca t.cx.length t.cc).ownBlock ≠ some k) ∧ ∀ k, s.x.fl.ownBlock = some k → t.x.fl.ownBlock ≠ some k
structure Trs (w : World) (v : Value) (l : List TraX) : Prop where
  row : SGot 21 248 traE w v l
  at_ : ∀ t ∈ l, TraAt w t
theorem Trs.keep {w w' : World} {v : Value} {l : List TraX} (h : Trs w v l) (hb : Below w.heap.size w w') : Trs w' v l := ⟨h.row.keep hb, fun t ht => (h.at_ t ht).keep hb⟩
structure TrsOwn (B : Nat) (w : World) (v : Value) (l : List TraX) : Prop where
  row : w.ownsRow B 52 21 v l.length (celC traE l)
  own : ∀ t ∈ l, TraOwn B w t
  dj : l.Pairwise djT
  siz : l.length * 248 ≤ 140737488355328
theorem TrsOwn.at_ {B : Nat} {w : World} {v : Value} {l : List TraX} (h : TrsOwn B w v l) : Trs w v l := ⟨own_sgot h.row h.siz, fun t ht => (h.own t ht).at_⟩
theorem TrsOwn.keep {B : Nat} {w w' : World} {v : Value} {l : List TraX} (h : TrsOwn B w v l) (hb : Below w.heap.size w w') : TrsOwn B w' v l := ⟨own_keep h.row hb, fun t ht => (h.own t ht).keep hb, h.dj, h.siz⟩
theorem TrsOwn.nil (B : Nat) (w : World) : TrsOwn B w (.slice none 0 0) [] := ⟨own_nil _ _, (fun _ h => by cases h), List.Pairwise.nil, by simp⟩
theorem fresh_dj {B D : Nat} {w w' : World} {s t : TraX} (hs : TraOwn B w s) (ht : TraOwn D w' t) (hD : w.heap.size ≤ D) : djT s t := by
  refine ⟨fun k e e2 => ?_, fun k e e2 => ?_, fun k e e2 => ?_⟩
  · have := (hs.p.lt k e).2; have := (ht.p.lt k e2).1; omega
  · have := (hs.c.row.lt k e).2; have := (ht.c.row.lt k e2).1; omega
  · have := (hs.x.f.lt k e).2; have := (ht.x.f.lt k e2).1; omega
theorem TrsOwn.app {B : Nat} {W w' : World} {u v' : Value} {ys : List TraX} {y : TraX} (h : TrsOwn B W u ys) (hy : TraOwn B W y) (hd : ∀ s ∈ ys, djT s y) (how : w'.ownsRow B 52 21 v' (ys ++ [y]).length (celC traE (ys ++ [y]))) (hgr : W.grownBy w' u.ownBlock) (hs : (ys.length + 1) * 248 ≤ 140737488355328) : TrsOwn B w' v' (ys ++ [y]) := by
  refine ⟨how, fun s hs => ?_, ?_, by simpa using hs⟩
  · rw [List.mem_append, List.mem_singleton] at hs
    rcases hs with hs | rfl
    · exact (h.own s hs).kept hgr h.row
    · exact hy.kept hgr h.row
  · rw [List.pairwise_append]
    exact ⟨h.dj, List.pairwise_singleton _ _, fun a ha b hb => by rw [List.mem_singleton] at hb; subst hb; exact hd a ha⟩
def TraLBack (vs : List TraV) (w : World) (e : Ending) (w' : World) : Prop := ∃ a c ys, e = .returned (.slice a vs.length c) ∧ ys.map TraX.v = vs ∧ TrsOwn w.heap.size w' (.slice a vs.length c) ys ∧ Below w.heap.size w w'
theorem Trs.cells {w : World} {v : Value} {l : List TraX} (h : Trs w v l) : ∃ a c, v = .slice a l.length c ∧ l.length * 248 ≤ 140737488355328 ∧ ∀ i (h : i < l.length), ∃ b off, a = some ⟨b, off, none⟩ ∧ b < w.heap.size ∧ w.rangeAt b (off + i * 21) (traE l[i]) := by
  obtain ⟨h8, a, c, e, hc, hr⟩ := h.row
  refine ⟨a, c, e, h8, fun i hi => ?_⟩
  obtain ⟨b, off, ha, hb, hcell⟩ := hr (by omega)
  refine ⟨b, off, ha, hb, fun j v hv => ?_⟩
  have hj : j < 21 := by
    have := (List.getElem?_eq_some_iff.1 hv).1
    rwa [traK] at this
  rw [Nat.add_assoc, hcell (i * 21 + j) (by omega), celC_get traK l i hi j hj, hv]
end Go.Proofs.YtilinemcmgjiiaaDoor
