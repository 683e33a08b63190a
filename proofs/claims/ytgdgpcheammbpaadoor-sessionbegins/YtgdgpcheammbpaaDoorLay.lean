/- The table of forms as the program's text lays it; a request among the arguments. -/
import Derived.Test.YtgdgpcheammbpaaDoorRows
import Derived.Test.YtgdgpcheammbpaaDoorFit
import Derived.ProofKit
import Derived.LaidMore
import Derived.OpenShut
import Derived.Stop.Joined
namespace Go.Proofs.YtgdgpcheammbpaaDoor
open Go.ChangeShapes Go.WideShapes Go.ChangeAt Go.WideMaps Go.WideElems Go.RowKit
set_option linter.all false
theorem own : ownKnob Tryd.prog.godebug = none := by kernel_rfl
abbrev laidF : List (String × DataW Unit) := [("rialto/session.forms", Rows.laid_rialto_session_forms)]
theorem gForms : Tryd.prog.globalNamed "rialto/session.forms" = some 0 := by kernel_rfl
theorem tForms : (Tryd.prog.globals[0]?).map (·.type) = some 61 := by kernel_rfl
theorem door_met (os : Os) (args : Array Value) : laidMetH Tryd.prog laidF ((World.doorLaid Tryd.prog 400 os).forCall (fun _ _ => 0) ⟨#[], args, []⟩).memory :=
  laidMetH_of_parts3 (fuel := 8) (laidMet_of_run' 8 (by kernel_rfl) (by kernel_rfl)) (by kernel_rfl) (by kernel_rfl)
theorem cells60 : Tryd.prog.cellsOf 60 = 2 := by kernel_rfl
theorem cells61 : Tryd.prog.cellsOf 61 = 20 := by kernel_rfl
theorem cells3 : Tryd.prog.cellsOf 3 = 1 := by kernel_rfl
theorem twoL {α : Type} (l : List α) (h : l.length = 2) : ∃ a b, l = [a, b] := by
  match l, h with
  | [a, b], _ => exact ⟨a, b, rfl⟩
theorem form_cells {H : Type} {enc : TypeId × Value → H} {W : World} {f : Nat → Bool} {hd : Bool} {n : Nat} {cs : List Value} {a b : Int} {p : List MemPlace} (hl : cs.length = 2)
    (h : DataW.trod enc Tryd.prog W 0 f hd n 60 cs = some (.agg [.lit (.int .i64 a), .lit (.int .i64 b)], p)) : cs = [.int .i64 a, .int .i64 b] := by
  obtain ⟨xs, n', _, hx, _, hxl, hfs⟩ := DataW.trod_struct Tryd.underlying60 h
  have f0 : DataW.trod enc Tryd.prog W 0 f hd n' 3 ((cs.drop 0).take (Tryd.prog.cellsOf 3)) = xs[0]? := hfs 0 _ rfl
  have f1 : DataW.trod enc Tryd.prog W 0 f hd n' 3 ((cs.drop 1).take (Tryd.prog.cellsOf 3)) = xs[1]? := hfs 1 _ rfl
  rw [cells3] at f0 f1
  obtain ⟨v0, v1, rfl⟩ := twoL cs hl
  obtain ⟨y0, y1, rfl⟩ := twoL xs hxl
  simp only [List.drop_zero, List.drop_succ_cons, List.take_succ_cons, List.take_zero, List.getElem?_cons_zero, List.getElem?_cons_succ] at f0 f1
  obtain ⟨k0, e0, rfl, _⟩ := DataW.trod_int Tryd.underlying3 f0
  obtain ⟨k1, e1, rfl, _⟩ := DataW.trod_int Tryd.underlying3 f1
  simp only [List.cons.injEq, and_true] at e0 e1
  simp at hx
  obtain ⟨⟨rfl, rfl⟩, _⟩ := hx
  rw [e0, e1]
set_option maxRecDepth 100000 in
theorem of_laid {W : World} (h : laidMetH Tryd.prog laidF W) : Forms W := by
  rw [MakeChecks.laidMetH_plain _ _ _ (by kernel_rfl)] at h
  obtain ⟨ps, ⟨g0, t0, cs0, f0, p0, q0, hg0, ht0, hv0, hd0, _, _⟩, _, _⟩ := h
  obtain rfl := Option.some.inj (gForms.symm.trans hg0)
  obtain rfl := Option.some.inj (tForms.symm.trans ht0)
  obtain ⟨xs, m1, rfl, hx1, hlen, hn, hel⟩ := DataW.trod_array Tryd.underlying61 hd0
  rw [cells61] at hlen
  simp only [cells60] at hel
  simp only [Prod.mk.injEq, Rows.laid_rialto_session_forms, DataW.agg.injEq] at hx1
  have key : ∀ i, i < 10 → cs0[i * 2]? = some (.int .i64 (formT.getD i (0, 0)).1) ∧ cs0[i * 2 + 1]? = some (.int .i64 (formT.getD i (0, 0)).2) := by
    intro i hi
    have hE := hel i hi
    have hxi : xs[i]? = some (.agg [.lit (.int .i64 (formT.getD i (0, 0)).1), .lit (.int .i64 (formT.getD i (0, 0)).2)], (xs[i]'(by omega)).2) := by
      have hm : (xs.map (fun x => x.fst))[i]? = some (.agg [.lit (.int .i64 (formT.getD i (0, 0)).1), .lit (.int .i64 (formT.getD i (0, 0)).2)]) := by
        rw [← hx1.1]
        match i, hi with
        | 0, _ => rfl
        | 1, _ => rfl
        | 2, _ => rfl
        | 3, _ => rfl
        | 4, _ => rfl
        | 5, _ => rfl
        | 6, _ => rfl
        | 7, _ => rfl
        | 8, _ => rfl
        | 9, _ => rfl
      rw [List.getElem?_map, List.getElem?_eq_getElem (by omega)] at hm
      rw [List.getElem?_eq_getElem (by omega)]
      simp only [Option.map_some, Option.some.injEq] at hm
      rw [← hm]
    rw [hxi] at hE
    have hl2 : (List.take 2 (List.drop (i * 2) cs0.toList)).length = 2 := by
      rw [List.length_take, List.length_drop, hlen]
      omega
    have hc := form_cells hl2 hE
    have g0 : (List.take 2 (List.drop (i * 2) cs0.toList))[0]? = cs0.toList[i * 2]? := by simp
    have g1 : (List.take 2 (List.drop (i * 2) cs0.toList))[1]? = cs0.toList[i * 2 + 1]? := by simp
    rw [hc] at g0 g1
    exact ⟨by simpa using g0.symm, by simpa using g1.symm⟩
  have hc : ∀ i, W.cell? ⟨0, i, none⟩ = cs0[i]? := World.var?_cell gForms hv0
  refine ⟨?_, fun k h1 h9 => ?_⟩
  · have := (hc 0).trans (key 0 (by omega)).1
    rcases Nat.eq_zero_or_pos W.heap.size with h0 | h0
    · simp [World.cell?, Array.getElem?_eq_none (show W.heap.size ≤ 0 by omega)] at this
    · exact h0
  · have hk := key k.toNat (by omega)
    exact ⟨(hc _).trans hk.1, (hc _).trans hk.2⟩
end Go.Proofs.YtgdgpcheammbpaaDoor
