/- A log in its box, and what is sent in its own. -/
import Derived.Test.YtonhoopmhkomcaaAgP
import Derived.Test.YtonhoopmhkomcaaLive8
namespace Go.Proofs.Ytonhoopmhkomcaa
open Go.RowKit
def sntA (pi pt : Int) (k : Value) (cc : Int) : Array Value := #[.int .i64 pi, .int .i64 pt, k, .int .i64 cc]
/-- A log in its box, and what is sent in its own. -/
structure LS (w : World) (L : LogV) (g : Value) (pi pt : Int) (k : Value) (es : List EntV) (cc : Int) (wx : World) : Prop where
  log : Ent wx w.heap.size L g
  snt : wx.heap[w.heap.size + 1]? = some (.cells (sntA pi pt k cc) 45 (0, 0))
  got : EGot wx k es
  bel : Below w.heap.size w wx
theorem LS.first {w : World} {L : LogV} {g : Value} (pi pt : Int) {k : Value} {es : List EntV} (cc : Int) (h : EGot w g L.l) (hk : EGot w k es) : LS w L g pi pt k es cc ((w.alloc (.cells (logA L g) 26)).alloc (.cells (sntA pi pt k cc) 45)) := by
  have ht := two_heap w (.cells (logA L g) 26) (.cells (sntA pi pt k cc) 45)
  have hb := below2 w (.cells (logA L g) 26) (.cells (sntA pi pt k cc) 45)
  exact ⟨⟨ht.1, h.keep hb⟩, ht.2.1, hk.keep hb, hb⟩
theorem LS.keep {w wx wy : World} {L : LogV} {g : Value} {pi pt : Int} {k : Value} {es : List EntV} {cc : Int} (h : LS w L g pi pt k es cc wx) (hb : Below wx.heap.size wx wy) : LS w L g pi pt k es cc wy :=
  ⟨h.log.keep hb, (hb.block _ (Array.getElem?_eq_some_iff.1 h.snt).1).trans h.snt, h.got.keep hb, below_via h.bel hb⟩
theorem LS.cells {w wx : World} {L : LogV} {g : Value} {pi pt : Int} {k : Value} {es : List EntV} {cc : Int} (h : LS w L g pi pt k es cc wx) : wx.cell? ⟨w.heap.size + 1, 0, none⟩ = some (.int .i64 pi) ∧ wx.cell? ⟨w.heap.size + 1, 1, none⟩ = some (.int .i64 pt) ∧ wx.cell? ⟨w.heap.size + 1, 2, none⟩ = some k ∧ wx.cell? ⟨w.heap.size + 1, 3, none⟩ = some (.int .i64 cc) :=
  ⟨by rw [cell_at h.snt]; rfl, by rw [cell_at h.snt]; rfl, by rw [cell_at h.snt]; rfl, by rw [cell_at h.snt]; rfl⟩
end Go.Proofs.Ytonhoopmhkomcaa
