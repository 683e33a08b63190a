/- So many cells of a block are written. -/
import Derived.Test.YtilinemcmgjiiaaDoorCx
namespace Go.Proofs.YtilinemcmgjiiaaDoor
open Go.RowKit
set_option linter.all false
theorem putS {wc w0 : World} {b : Nat} {ty : TypeId} {cs cs' : Array Value} (h : w0.heap[b]? = some (.cells cs ty (0, 0)) ∧ Out (fun k => k = b) wc w0) (j : Nat) (v : Value) (e : cs.setIfInBounds j v = cs') : (w0.setCell ⟨b, j, none⟩ v).heap[b]? = some (.cells cs' ty (0, 0)) ∧ Out (fun k => k = b) wc (w0.setCell ⟨b, j, none⟩ v) :=
  ⟨e ▸ heap_set h.1 j v, h.2.trans (Out.ofSet (F := fun k => k = b) w0 ⟨b, j, none⟩ v rfl) (fun _ _ h => h)⟩
theorem puts2 (wc : World) (b : Nat) (ty : TypeId) (v0 v1 : Value) {z0 z1 : Value} (h : wc.heap[b]? = some (.cells #[z0, z1] ty (0, 0))) : ((wc.setCell ⟨b, 0, none⟩ v0).setCell ⟨b, 1, none⟩ v1).heap[b]? = some (.cells #[v0, v1] ty (0, 0)) ∧ Out (fun k => k = b) wc ((wc.setCell ⟨b, 0, none⟩ v0).setCell ⟨b, 1, none⟩ v1) := by
  have h0 := And.intro h (Out.refl (fun k => k = b) wc)
  have h1 := putS h0 0 v0 (cs' := #[v0, z1]) rfl
  have h2 := putS h1 1 v1 (cs' := #[v0, v1]) rfl
  exact h2
theorem at2 {w : World} {p : Nat} {ty : TypeId} {z0 z1 : Value} (h : w.heap[p]? = some (.cells #[z0, z1] ty (0, 0))) : (w.cell? ⟨p, 0, none⟩ = some z0 ∧ w.cell? ⟨p, 1, none⟩ = some z1) ∧ (∀ j, w.frozen? ⟨p, j, none⟩ = false) ∧ p < w.heap.size :=
  ⟨⟨by rw [cell_at h]; rfl, by rw [cell_at h]; rfl⟩, fun j => free_at h j, (Array.getElem?_eq_some_iff.1 h).1⟩
theorem puts5 (wc : World) (b : Nat) (ty : TypeId) (v0 v1 v2 v3 v4 : Value) {z0 z1 z2 z3 z4 : Value} (h : wc.heap[b]? = some (.cells #[z0, z1, z2, z3, z4] ty (0, 0))) : (((((wc.setCell ⟨b, 0, none⟩ v0).setCell ⟨b, 1, none⟩ v1).setCell ⟨b, 2, none⟩ v2).setCell ⟨b, 3, none⟩ v3).setCell ⟨b, 4, none⟩ v4).heap[b]? = some (.cells #[v0, v1, v2, v3, v4] ty (0, 0)) ∧ Out (fun k => k = b) wc (((((wc.setCell ⟨b, 0, none⟩ v0).setCell ⟨b, 1, none⟩ v1).setCell ⟨b, 2, none⟩ v2).setCell ⟨b, 3, none⟩ v3).setCell ⟨b, 4, none⟩ v4) := by
  have h0 := And.intro h (Out.refl (fun k => k = b) wc)
  have h1 := putS h0 0 v0 (cs' := #[v0, z1, z2, z3, z4]) rfl
  have h2 := putS h1 1 v1 (cs' := #[v0, v1, z2, z3, z4]) rfl
  have h3 := putS h2 2 v2 (cs' := #[v0, v1, v2, z3, z4]) rfl
  have h4 := putS h3 3 v3 (cs' := #[v0, v1, v2, v3, z4]) rfl
  have h5 := putS h4 4 v4 (cs' := #[v0, v1, v2, v3, v4]) rfl
  exact h5
theorem at5 {w : World} {p : Nat} {ty : TypeId} {z0 z1 z2 z3 z4 : Value} (h : w.heap[p]? = some (.cells #[z0, z1, z2, z3, z4] ty (0, 0))) : (w.cell? ⟨p, 0, none⟩ = some z0 ∧ w.cell? ⟨p, 1, none⟩ = some z1 ∧ w.cell? ⟨p, 2, none⟩ = some z2 ∧ w.cell? ⟨p, 3, none⟩ = some z3 ∧ w.cell? ⟨p, 4, none⟩ = some z4) ∧ (∀ j, w.frozen? ⟨p, j, none⟩ = false) ∧ p < w.heap.size :=
  ⟨⟨by rw [cell_at h]; rfl, by rw [cell_at h]; rfl, by rw [cell_at h]; rfl, by rw [cell_at h]; rfl, by rw [cell_at h]; rfl⟩, fun j => free_at h j, (Array.getElem?_eq_some_iff.1 h).1⟩
theorem puts10 (wc : World) (b : Nat) (ty : TypeId) (v0 v1 v2 v3 v4 v5 v6 v7 v8 v9 : Value) {z0 z1 z2 z3 z4 z5 z6 z7 z8 z9 : Value} (h : wc.heap[b]? = some (.cells #[z0, z1, z2, z3, z4, z5, z6, z7, z8, z9] ty (0, 0))) : ((((((((((wc.setCell ⟨b, 0, none⟩ v0).setCell ⟨b, 1, none⟩ v1).setCell ⟨b, 2, none⟩ v2).setCell ⟨b, 3, none⟩ v3).setCell ⟨b, 4, none⟩ v4).setCell ⟨b, 5, none⟩ v5).setCell ⟨b, 6, none⟩ v6).setCell ⟨b, 7, none⟩ v7).setCell ⟨b, 8, none⟩ v8).setCell ⟨b, 9, none⟩ v9).heap[b]? = some (.cells #[v0, v1, v2, v3, v4, v5, v6, v7, v8, v9] ty (0, 0)) ∧ Out (fun k => k = b) wc ((((((((((wc.setCell ⟨b, 0, none⟩ v0).setCell ⟨b, 1, none⟩ v1).setCell ⟨b, 2, none⟩ v2).setCell ⟨b, 3, none⟩ v3).setCell ⟨b, 4, none⟩ v4).setCell ⟨b, 5, none⟩ v5).setCell ⟨b, 6, none⟩ v6).setCell ⟨b, 7, none⟩ v7).setCell ⟨b, 8, none⟩ v8).setCell ⟨b, 9, none⟩ v9) := by
  have h0 := And.intro h (Out.refl (fun k => k = b) wc)
  have h1 := putS h0 0 v0 (cs' := #[v0, z1, z2, z3, z4, z5, z6, z7, z8, z9]) rfl
  have h2 := putS h1 1 v1 (cs' := #[v0, v1, z2, z3, z4, z5, z6, z7, z8, z9]) rfl
  have h3 := putS h2 2 v2 (cs' := #[v0, v1, v2, z3, z4, z5, z6, z7, z8, z9]) rfl
  have h4 := putS h3 3 v3 (cs' := #[v0, v1, v2, v3, z4, z5, z6, z7, z8, z9]) rfl
  have h5 := putS h4 4 v4 (cs' := #[v0, v1, v2, v3, v4, z5, z6, z7, z8, z9]) rfl
  have h6 := putS h5 5 v5 (cs' := #[v0, v1, v2, v3, v4, v5, z6, z7, z8, z9]) rfl
  have h7 := putS h6 6 v6 (cs' := #[v0, v1, v2, v3, v4, v5, v6, z7, z8, z9]) rfl
  have h8 := putS h7 7 v7 (cs' := #[v0, v1, v2, v3, v4, v5, v6, v7, z8, z9]) rfl
  have h9 := putS h8 8 v8 (cs' := #[v0, v1, v2, v3, v4, v5, v6, v7, v8, z9]) rfl
  have h10 := putS h9 9 v9 (cs' := #[v0, v1, v2, v3, v4, v5, v6, v7, v8, v9]) rfl
  exact h10
theorem at10 {w : World} {p : Nat} {ty : TypeId} {z0 z1 z2 z3 z4 z5 z6 z7 z8 z9 : Value} (h : w.heap[p]? = some (.cells #[z0, z1, z2, z3, z4, z5, z6, z7, z8, z9] ty (0, 0))) : (w.cell? ⟨p, 0, none⟩ = some z0 ∧ w.cell? ⟨p, 1, none⟩ = some z1 ∧ w.cell? ⟨p, 2, none⟩ = some z2 ∧ w.cell? ⟨p, 3, none⟩ = some z3 ∧ w.cell? ⟨p, 4, none⟩ = some z4 ∧ w.cell? ⟨p, 5, none⟩ = some z5 ∧ w.cell? ⟨p, 6, none⟩ = some z6 ∧ w.cell? ⟨p, 7, none⟩ = some z7 ∧ w.cell? ⟨p, 8, none⟩ = some z8 ∧ w.cell? ⟨p, 9, none⟩ = some z9) ∧ (∀ j, w.frozen? ⟨p, j, none⟩ = false) ∧ p < w.heap.size :=
  ⟨⟨by rw [cell_at h]; rfl, by rw [cell_at h]; rfl, by rw [cell_at h]; rfl, by rw [cell_at h]; rfl, by rw [cell_at h]; rfl, by rw [cell_at h]; rfl, by rw [cell_at h]; rfl, by rw [cell_at h]; rfl, by rw [cell_at h]; rfl, by rw [cell_at h]; rfl⟩, fun j => free_at h j, (Array.getElem?_eq_some_iff.1 h).1⟩
theorem puts21 (wc : World) (b : Nat) (ty : TypeId) (v0 v1 v2 v3 v4 v5 v6 v7 v8 v9 v10 v11 v12 v13 v14 v15 v16 v17 v18 v19 v20 : Value) {z0 z1 z2 z3 z4 z5 z6 z7 z8 z9 z10 z11 z12 z13 z14 z15 z16 z17 z18 z19 z20 : Value} (h : wc.heap[b]? = some (.cells #[z0, z1, z2, z3, z4, z5, z6, z7, z8, z9, z10, z11, z12, z13, z14, z15, z16, z17, z18, z19, z20] ty (0, 0))) : (((((((((((((((((((((wc.setCell ⟨b, 0, none⟩ v0).setCell ⟨b, 1, none⟩ v1).setCell ⟨b, 2, none⟩ v2).setCell ⟨b, 3, none⟩ v3).setCell ⟨b, 4, none⟩ v4).setCell ⟨b, 5, none⟩ v5).setCell ⟨b, 6, none⟩ v6).setCell ⟨b, 7, none⟩ v7).setCell ⟨b, 8, none⟩ v8).setCell ⟨b, 9, none⟩ v9).setCell ⟨b, 10, none⟩ v10).setCell ⟨b, 11, none⟩ v11).setCell ⟨b, 12, none⟩ v12).setCell ⟨b, 13, none⟩ v13).setCell ⟨b, 14, none⟩ v14).setCell ⟨b, 15, none⟩ v15).setCell ⟨b, 16, none⟩ v16).setCell ⟨b, 17, none⟩ v17).setCell ⟨b, 18, none⟩ v18).setCell ⟨b, 19, none⟩ v19).setCell ⟨b, 20, none⟩ v20).heap[b]? = some (.cells #[v0, v1, v2, v3, v4, v5, v6, v7, v8, v9, v10, v11, v12, v13, v14, v15, v16, v17, v18, v19, v20] ty (0, 0)) ∧ Out (fun k => k = b) wc (((((((((((((((((((((wc.setCell ⟨b, 0, none⟩ v0).setCell ⟨b, 1, none⟩ v1).setCell ⟨b, 2, none⟩ v2).setCell ⟨b, 3, none⟩ v3).setCell ⟨b, 4, none⟩ v4).setCell ⟨b, 5, none⟩ v5).setCell ⟨b, 6, none⟩ v6).setCell ⟨b, 7, none⟩ v7).setCell ⟨b, 8, none⟩ v8).setCell ⟨b, 9, none⟩ v9).setCell ⟨b, 10, none⟩ v10).setCell ⟨b, 11, none⟩ v11).setCell ⟨b, 12, none⟩ v12).setCell ⟨b, 13, none⟩ v13).setCell ⟨b, 14, none⟩ v14).setCell ⟨b, 15, none⟩ v15).setCell ⟨b, 16, none⟩ v16).setCell ⟨b, 17, none⟩ v17).setCell ⟨b, 18, none⟩ v18).setCell ⟨b, 19, none⟩ v19).setCell ⟨b, 20, none⟩ v20) := by
  have h0 := And.intro h (Out.refl (fun k => k = b) wc)
  have h1 := putS h0 0 v0 (cs' := #[v0, z1, z2, z3, z4, z5, z6, z7, z8, z9, z10, z11, z12, z13, z14, z15, z16, z17, z18, z19, z20]) rfl
  have h2 := putS h1 1 v1 (cs' := #[v0, v1, z2, z3, z4, z5, z6, z7, z8, z9, z10, z11, z12, z13, z14, z15, z16, z17, z18, z19, z20]) rfl
  have h3 := putS h2 2 v2 (cs' := #[v0, v1, v2, z3, z4, z5, z6, z7, z8, z9, z10, z11, z12, z13, z14, z15, z16, z17, z18, z19, z20]) rfl
  have h4 := putS h3 3 v3 (cs' := #[v0, v1, v2, v3, z4, z5, z6, z7, z8, z9, z10, z11, z12, z13, z14, z15, z16, z17, z18, z19, z20]) rfl
  have h5 := putS h4 4 v4 (cs' := #[v0, v1, v2, v3, v4, z5, z6, z7, z8, z9, z10, z11, z12, z13, z14, z15, z16, z17, z18, z19, z20]) rfl
  have h6 := putS h5 5 v5 (cs' := #[v0, v1, v2, v3, v4, v5, z6, z7, z8, z9, z10, z11, z12, z13, z14, z15, z16, z17, z18, z19, z20]) rfl
  have h7 := putS h6 6 v6 (cs' := #[v0, v1, v2, v3, v4, v5, v6, z7, z8, z9, z10, z11, z12, z13, z14, z15, z16, z17, z18, z19, z20]) rfl
  have h8 := putS h7 7 v7 (cs' := #[v0, v1, v2, v3, v4, v5, v6, v7, z8, z9, z10, z11, z12, z13, z14, z15, z16, z17, z18, z19, z20]) rfl
  have h9 := putS h8 8 v8 (cs' := #[v0, v1, v2, v3, v4, v5, v6, v7, v8, z9, z10, z11, z12, z13, z14, z15, z16, z17, z18, z19, z20]) rfl
  have h10 := putS h9 9 v9 (cs' := #[v0, v1, v2, v3, v4, v5, v6, v7, v8, v9, z10, z11, z12, z13, z14, z15, z16, z17, z18, z19, z20]) rfl
  have h11 := putS h10 10 v10 (cs' := #[v0, v1, v2, v3, v4, v5, v6, v7, v8, v9, v10, z11, z12, z13, z14, z15, z16, z17, z18, z19, z20]) rfl
  have h12 := putS h11 11 v11 (cs' := #[v0, v1, v2, v3, v4, v5, v6, v7, v8, v9, v10, v11, z12, z13, z14, z15, z16, z17, z18, z19, z20]) rfl
  have h13 := putS h12 12 v12 (cs' := #[v0, v1, v2, v3, v4, v5, v6, v7, v8, v9, v10, v11, v12, z13, z14, z15, z16, z17, z18, z19, z20]) rfl
  have h14 := putS h13 13 v13 (cs' := #[v0, v1, v2, v3, v4, v5, v6, v7, v8, v9, v10, v11, v12, v13, z14, z15, z16, z17, z18, z19, z20]) rfl
  have h15 := putS h14 14 v14 (cs' := #[v0, v1, v2, v3, v4, v5, v6, v7, v8, v9, v10, v11, v12, v13, v14, z15, z16, z17, z18, z19, z20]) rfl
  have h16 := putS h15 15 v15 (cs' := #[v0, v1, v2, v3, v4, v5, v6, v7, v8, v9, v10, v11, v12, v13, v14, v15, z16, z17, z18, z19, z20]) rfl
  have h17 := putS h16 16 v16 (cs' := #[v0, v1, v2, v3, v4, v5, v6, v7, v8, v9, v10, v11, v12, v13, v14, v15, v16, z17, z18, z19, z20]) rfl
  have h18 := putS h17 17 v17 (cs' := #[v0, v1, v2, v3, v4, v5, v6, v7, v8, v9, v10, v11, v12, v13, v14, v15, v16, v17, z18, z19, z20]) rfl
  have h19 := putS h18 18 v18 (cs' := #[v0, v1, v2, v3, v4, v5, v6, v7, v8, v9, v10, v11, v12, v13, v14, v15, v16, v17, v18, z19, z20]) rfl
  have h20 := putS h19 19 v19 (cs' := #[v0, v1, v2, v3, v4, v5, v6, v7, v8, v9, v10, v11, v12, v13, v14, v15, v16, v17, v18, v19, z20]) rfl
  have h21 := putS h20 20 v20 (cs' := #[v0, v1, v2, v3, v4, v5, v6, v7, v8, v9, v10, v11, v12, v13, v14, v15, v16, v17, v18, v19, v20]) rfl
  exact h21
theorem at21 {w : World} {p : Nat} {ty : TypeId} {z0 z1 z2 z3 z4 z5 z6 z7 z8 z9 z10 z11 z12 z13 z14 z15 z16 z17 z18 z19 z20 : Value} (h : w.heap[p]? = some (.cells #[z0, z1, z2, z3, z4, z5, z6, z7, z8, z9, z10, z11, z12, z13, z14, z15, z16, z17, z18, z19, z20] ty (0, 0))) : (w.cell? ⟨p, 0, none⟩ = some z0 ∧ w.cell? ⟨p, 1, none⟩ = some z1 ∧ w.cell? ⟨p, 2, none⟩ = some z2 ∧ w.cell? ⟨p, 3, none⟩ = some z3 ∧ w.cell? ⟨p, 4, none⟩ = some z4 ∧ w.cell? ⟨p, 5, none⟩ = some z5 ∧ w.cell? ⟨p, 6, none⟩ = some z6 ∧ w.cell? ⟨p, 7, none⟩ = some z7 ∧ w.cell? ⟨p, 8, none⟩ = some z8 ∧ w.cell? ⟨p, 9, none⟩ = some z9 ∧ w.cell? ⟨p, 10, none⟩ = some z10 ∧ w.cell? ⟨p, 11, none⟩ = some z11 ∧ w.cell? ⟨p, 12, none⟩ = some z12 ∧ w.cell? ⟨p, 13, none⟩ = some z13 ∧ w.cell? ⟨p, 14, none⟩ = some z14 ∧ w.cell? ⟨p, 15, none⟩ = some z15 ∧ w.cell? ⟨p, 16, none⟩ = some z16 ∧ w.cell? ⟨p, 17, none⟩ = some z17 ∧ w.cell? ⟨p, 18, none⟩ = some z18 ∧ w.cell? ⟨p, 19, none⟩ = some z19 ∧ w.cell? ⟨p, 20, none⟩ = some z20) ∧ (∀ j, w.frozen? ⟨p, j, none⟩ = false) ∧ p < w.heap.size :=
  ⟨⟨by rw [cell_at h]; rfl, by rw [cell_at h]; rfl, by rw [cell_at h]; rfl, by rw [cell_at h]; rfl, by rw [cell_at h]; rfl, by rw [cell_at h]; rfl, by rw [cell_at h]; rfl, by rw [cell_at h]; rfl, by rw [cell_at h]; rfl, by rw [cell_at h]; rfl, by rw [cell_at h]; rfl, by rw [cell_at h]; rfl, by rw [cell_at h]; rfl, by rw [cell_at h]; rfl, by rw [cell_at h]; rfl, by rw [cell_at h]; rfl, by rw [cell_at h]; rfl, by rw [cell_at h]; rfl, by rw [cell_at h]; rfl, by rw [cell_at h]; rfl, by rw [cell_at h]; rfl⟩, fun j => free_at h j, (Array.getElem?_eq_some_iff.1 h).1⟩
end Go.Proofs.YtilinemcmgjiiaaDoor
