/- An entry among the arguments, opened. -/
import Derived.Test.YtonhoopmhkomcaaArgs
import Derived.Test.YtonhoopmhkomcaaRFrom
namespace Go.Proofs.Ytonhoopmhkomcaa
open Go.ChangeShapes Go.WideShapes Go.ChangeAt Go.RowKit
theorem open_ent {H : Type} {enc : TypeId × Value → H} {W : World} {b0 : Nat} {v : Value} {d : DataW H} {p : List MemPlace}
    (hv : Value.okWide Try.prog W .any b0 40 v) (h : DataW.Trod enc Try.prog W 0 (fun _ => true) true 40 v d p) : ∃ e, v = .agg (entA e) := by
  obtain ⟨cs, rfl, hsz⟩ := okWide_struct Try.underlying40 hv
  rw [cells39] at hsz
  obtain ⟨fuel, hf⟩ := h
  have hcl : (Value.agg cs).cells.toList = cs.toList := by simp [Value.cells]
  rw [hcl] at hf
  obtain ⟨xs, n', _, _, _, hxl, hfs⟩ := DataW.trod_struct Try.underlying40 hf
  have f0 : DataW.trod enc Try.prog W 0 (fun _ => true) true n' 3 ((cs.toList.drop 0).take (Try.prog.cellsOf 3)) = xs[0]? := hfs 0 _ rfl
  have f1 : DataW.trod enc Try.prog W 0 (fun _ => true) true n' 3 ((cs.toList.drop 1).take (Try.prog.cellsOf 3)) = xs[1]? := hfs 1 _ rfl
  have f2 : DataW.trod enc Try.prog W 0 (fun _ => true) true n' 9 ((cs.toList.drop 2).take (Try.prog.cellsOf 9)) = xs[2]? := hfs 2 _ rfl
  rw [cells3] at f0 f1
  rw [cells9] at f2
  obtain ⟨v0, v1, v2, e⟩ := three cs.toList (by simpa using hsz)
  obtain ⟨y0, y1, y2, rfl⟩ := three xs hxl
  rw [e] at f0 f1 f2
  simp only [List.drop_zero, List.drop_succ_cons, List.take_succ_cons, List.take_zero, List.getElem?_cons_zero, List.getElem?_cons_succ] at f0 f1 f2
  obtain ⟨z0, e0, _, _⟩ := DataW.trod_int Try.underlying3 f0
  obtain ⟨z1, e1, _, _⟩ := DataW.trod_int Try.underlying3 f1
  obtain ⟨z2, e2, _, _⟩ := DataW.trod_string Try.underlying9 f2
  simp only [List.cons.injEq, and_true] at e0 e1 e2
  refine ⟨⟨z0, z1, z2⟩, ?_⟩
  rw [← Array.toArray_toList (xs := cs), e, e0, e1, e2]
  rfl
end Go.Proofs.Ytonhoopmhkomcaa
