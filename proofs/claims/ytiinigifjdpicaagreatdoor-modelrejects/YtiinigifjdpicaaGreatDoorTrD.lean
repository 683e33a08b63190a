/- The first order of a side is traded with: what becomes of the deal. -/
import Derived.Test.YtiinigifjdpicaaGreatDoorTrade
namespace Go.Proofs.YtiinigifjdpicaaGreatDoor
open Go.RowKit
set_option linter.all false
theorem own_ne {w : World} {B k j : Nat} {e : TypeId} {z n : Nat} {v u : Value} {xs : List Value} (ho : w.ownsRow B e z v n xs) (hk : v.ownBlock ≠ some k) : (w.setCell ⟨k, j, none⟩ u).ownsRow B e z v n xs := by
  obtain ⟨h1, hn | ⟨g, cap, cur, hv, hb, hg, rest⟩⟩ := ho
  · exact ⟨h1, .inl hn⟩
  · refine ⟨h1, .inr ⟨g, cap, cur, hv, hb, (heap_set_other _ _ _ _ _ (fun e => hk ?_)).trans hg, rest⟩⟩
    rw [hv, ← e]
    rfl
theorem own_nb {w w' : World} {B : Nat} {q : Option Nat} {e : TypeId} {z n : Nat} {v : Value} {xs : List Value} (hg : w.grownBy w' q) (ho : w.ownsRow B e z v n xs) (hk : v.ownBlock = none ∨ v.ownBlock ≠ q) : w'.ownsRow B e z v n xs := ho.kept hg hk
theorem Tcr.set {D B k j : Nat} {q : Option Nat} {w w' : World} (h : Tcr D B q w w') (hk : w.heap.size ≤ k) (v : Value) : Tcr D B q w (w'.setCell ⟨k, j, none⟩ v) :=
  ⟨h.os, h.tape, h.output, by simpa using h.size, fun i hi hD hq hB => (heap_set_other _ _ _ _ _ (by omega)).trans (h.keep i hi hD hq hB)⟩
theorem Tcr.setD {D B j : Nat} {q : Option Nat} {w w' : World} (h : Tcr D B q w w') (v : Value) : Tcr D B q w (w'.setCell ⟨D, j, none⟩ v) :=
  ⟨h.os, h.tape, h.output, by simpa using h.size, fun i hi hD hq hB => (heap_set_other _ _ _ _ _ hD).trans (h.keep i hi hD hq hB)⟩
theorem celC_first (r : OrdV) (rs : List OrdV) (m : Int) : (celC ordE (r :: rs)).set 3 (.int .i64 m) = celC ordE (⟨r.id, r.acc, r.price, m⟩ :: rs) := by
  rw [celC_cons, celC_cons]
  rfl
theorem row_ne {D B g c n : Nat} {w : World} {cs : Array Value} {xs : List Value} (hd : w.heap[D]? = some (.cells cs 174 (0, 0))) (ho : w.ownsRow B 115 4 (.slice (some ⟨g, 0, none⟩) n c) n xs) : g ≠ D := by
  obtain ⟨_, ⟨hv, _⟩ | ⟨g', cap, cur, hv, _, hg, _⟩⟩ := ho
  · simp at hv
  · simp only [Value.slice.injEq, Option.some.injEq, Addr.mk.injEq, and_true] at hv
    intro e
    rw [← hv.1, e, hd] at hg
    simp at hg
theorem dealA_first {D B g c k : Nat} {cl : Bool} {nx : Int} {X : List OrdV} {ow : List OweV} {r : OrdV} {rs : List OrdV} {G : List FillV} {v o f u : Value} {W : World} (h : Deal D B ⟨cl, nx, X, r :: rs, ow⟩ G v (.slice (some ⟨g, 0, none⟩) (r :: rs).length c) o f W) (hD : k ≠ D) (hv : v.ownBlock ≠ some k) (hk : k ≠ g) {cs : Array Value} (hc : W.heap[k]? = some (.cells cs 115 (0, 0))) (m : Int) :
    Deal D B ⟨cl, nx, X, ⟨r.id, r.acc, r.price, m⟩ :: rs, ow⟩ G v (.slice (some ⟨g, 0, none⟩) (r :: rs).length c) o f ((W.setCell ⟨k, 3, none⟩ u).setCell ⟨g, 3, none⟩ (.int .i64 m)) := by
  have hgD := row_ne h.box h.oa
  have hvg : v.ownBlock ≠ some g := by
    rcases h.sep with e | e
    · first | (rw [e]; simp; done) | (simp [Value.ownBlock] at e)
    · first | exact e | (intro x; exact e x.symm)
  have hrow := own_at (j := 3) (u := .int .i64 m) (own_ne (j := 3) (u := u) h.oa (fun e => hk (by simpa [Value.ownBlock] using e.symm))) (by simp; omega)
  rw [celC_first] at hrow
  have hg0 : ∃ cur, W.heap[g]? = some (.cells cur 115 (0, 0)) := by
    obtain ⟨_, ⟨hv, _⟩ | ⟨g', cap, cur, hv, _, hg, _⟩⟩ := h.oa
    · simp at hv
    · simp only [Value.slice.injEq, Option.some.injEq, Addr.mk.injEq, and_true] at hv
      rw [hv.1]
      exact ⟨cur, hg⟩
  obtain ⟨cur, hg⟩ := hg0
  have hg2 : (W.setCell ⟨k, 3, none⟩ u).heap[g]? = some (.cells cur 115 (0, 0)) := (heap_set_other _ _ _ _ _ (fun e => hk e.symm)).trans hg
  exact ⟨setOther _ (setOther _ h.box hD.symm) hgD.symm, own_ne (own_ne h.ob hv) hvg, hrow, own_cell (own_cell h.oo hc (by decide)) hg2 (by decide), own_cell (own_cell h.fl hc (by decide)) hg2 (by decide), h.sep⟩
theorem dealB_first {D B g c k : Nat} {cl : Bool} {nx : Int} {X : List OrdV} {ow : List OweV} {r : OrdV} {rs : List OrdV} {G : List FillV} {v o f u : Value} {W : World} (h : Deal D B ⟨cl, nx, r :: rs, X, ow⟩ G (.slice (some ⟨g, 0, none⟩) (r :: rs).length c) v o f W) (hD : k ≠ D) (hv : v.ownBlock ≠ some k) (hk : k ≠ g) {cs : Array Value} (hc : W.heap[k]? = some (.cells cs 115 (0, 0))) (m : Int) :
    Deal D B ⟨cl, nx, ⟨r.id, r.acc, r.price, m⟩ :: rs, X, ow⟩ G (.slice (some ⟨g, 0, none⟩) (r :: rs).length c) v o f ((W.setCell ⟨k, 3, none⟩ u).setCell ⟨g, 3, none⟩ (.int .i64 m)) := by
  have hgD := row_ne h.box h.ob
  have hvg : v.ownBlock ≠ some g := by
    rcases h.sep with e | e
    · first | (rw [e]; simp; done) | (simp [Value.ownBlock] at e)
    · first | exact e | (intro x; exact e x.symm)
  have hrow := own_at (j := 3) (u := .int .i64 m) (own_ne (j := 3) (u := u) h.ob (fun e => hk (by simpa [Value.ownBlock] using e.symm))) (by simp; omega)
  rw [celC_first] at hrow
  have hg0 : ∃ cur, W.heap[g]? = some (.cells cur 115 (0, 0)) := by
    obtain ⟨_, ⟨hv, _⟩ | ⟨g', cap, cur, hv, _, hg, _⟩⟩ := h.ob
    · simp at hv
    · simp only [Value.slice.injEq, Option.some.injEq, Addr.mk.injEq, and_true] at hv
      rw [hv.1]
      exact ⟨cur, hg⟩
  obtain ⟨cur, hg⟩ := hg0
  have hg2 : (W.setCell ⟨k, 3, none⟩ u).heap[g]? = some (.cells cur 115 (0, 0)) := (heap_set_other _ _ _ _ _ (fun e => hk e.symm)).trans hg
  exact ⟨setOther _ (setOther _ h.box hD.symm) hgD.symm, hrow, own_ne (own_ne h.oa hv) hvg, own_cell (own_cell h.oo hc (by decide)) hg2 (by decide), own_cell (own_cell h.fl hc (by decide)) hg2 (by decide), h.sep⟩
theorem dealA_del {D B : Nat} {cl : Bool} {nx : Int} {X T T2 : List OrdV} {ow : List OweV} {G : List FillV} {v tv tv2 o f : Value} {W W2 : World} (h : Deal D B ⟨cl, nx, X, T, ow⟩ G v tv o f W) (ho : W2.ownsRow B 115 4 tv2 T2.length (celC ordE T2)) (hg : W.grownBy W2 tv.ownBlock) (hb : tv2.ownBlock = tv.ownBlock) :
    Deal D B ⟨cl, nx, X, T2, ow⟩ G v tv2 o f (W2.setCell ⟨D, 3, none⟩ tv2) ∧ W2.cell? ⟨D, 3, none⟩ = some tv ∧ W2.frozen? ⟨D, 3, none⟩ = false ∧ D < W2.heap.size := by
  have hbx := box_type hg h.oa h.box (by decide)
  refine ⟨⟨heap_set hbx 3 tv2, own_cell (own_nb hg h.ob h.sep) hbx (by decide), own_cell ho hbx (by decide), own_cell (own_type hg h.oa h.oo (by decide)) hbx (by decide), own_cell (own_type hg h.oa h.fl (by decide)) hbx (by decide), ?_⟩, by rw [cell_at hbx]; rfl, free_at hbx 3, (Array.getElem?_eq_some_iff.1 hbx).1⟩
  rw [hb]
  exact h.sep
theorem dealB_del {D B : Nat} {cl : Bool} {nx : Int} {X T T2 : List OrdV} {ow : List OweV} {G : List FillV} {v tv tv2 o f : Value} {W W2 : World} (h : Deal D B ⟨cl, nx, T, X, ow⟩ G tv v o f W) (ho : W2.ownsRow B 115 4 tv2 T2.length (celC ordE T2)) (hg : W.grownBy W2 tv.ownBlock) (hb : tv2.ownBlock = tv.ownBlock) :
    Deal D B ⟨cl, nx, T2, X, ow⟩ G tv2 v o f (W2.setCell ⟨D, 2, none⟩ tv2) ∧ W2.cell? ⟨D, 2, none⟩ = some tv ∧ W2.frozen? ⟨D, 2, none⟩ = false ∧ D < W2.heap.size := by
  have hbx := box_type hg h.ob h.box (by decide)
  refine ⟨⟨heap_set hbx 2 tv2, own_cell ho hbx (by decide), own_cell (own_nb hg h.oa (?_)) hbx (by decide), own_cell (own_type hg h.ob h.oo (by decide)) hbx (by decide), own_cell (own_type hg h.ob h.fl (by decide)) hbx (by decide), ?_⟩, by rw [cell_at hbx]; rfl, free_at hbx 2, (Array.getElem?_eq_some_iff.1 hbx).1⟩
  · rcases h.sep with e | e
    · cases hq : v.ownBlock with
      | none => exact .inl rfl
      | some q => exact .inr (by rw [e]; simp)
    · exact .inr (fun x => e x.symm)
  · rw [hb]
    exact h.sep
end Go.Proofs.YtiinigifjdpicaaGreatDoor
