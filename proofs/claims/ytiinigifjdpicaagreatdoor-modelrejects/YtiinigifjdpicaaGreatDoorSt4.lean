/- A struct of four cells is stored, as one step of a region that draws. -/
import Derived.Test.YtiinigifjdpicaaGreatDoorDl
namespace Go.Proofs.YtiinigifjdpicaaGreatDoor
open Go.RowKit
set_option linter.all false
def put4w (w : World) (p : Nat) (x : OrdV) : World := (((w.setCell ⟨p, 0, none⟩ (.int .i64 x.id)).setCell ⟨p, 1, none⟩ (.int .i64 x.acc)).setCell ⟨p, 2, none⟩ (.int .i64 x.price)).setCell ⟨p, 3, none⟩ (.int .i64 x.left)
theorem put4w_at {w : World} {p : Nat} {x y : OrdV} (h : w.heap[p]? = some (.cells (ordE y).toArray 115 (0, 0))) : (put4w w p x).heap[p]? = some (.cells (ordE x).toArray 115 (0, 0)) := put4 w p 115 _ _ _ _ h
theorem step_store4 {ops : Array Oper} {o : Oper} {a : Act} {w : World} {K : Act → World → Prop} {Q : Exit → Act → World → Prop} {E : Prop}
    (hg : o.guard = none) (p v : Operand) (hop : o.op = Op.store 115 p v) (b : Nat) (x y : OrdV) (hp : a.eval p = .pointer (some ⟨b, 0, none⟩)) (hv : a.eval v = .agg (ordE x).toArray)
    (hb : w.heap[b]? = some (.cells (ordE y).toArray 115 (0, 0))) (hK : K (a.put o.dst undef) (put4w w b x)) :
    if Region.wanted o (yielded ops a.tmps) = true then Oper.wp Tryz.prog o a w K Q else E := by
  have hw : Region.wanted o (yielded ops a.tmps) = true := by simp [Region.wanted, hg]
  rw [if_pos hw]
  have p0 : w.cell? ⟨b, 0, none⟩ = some (.int .i64 y.id) := by rw [cell_at hb]; rfl
  have p1 : w.cell? ⟨b, 1, none⟩ = some (.int .i64 y.acc) := by rw [cell_at hb]; rfl
  have p2 : w.cell? ⟨b, 2, none⟩ = some (.int .i64 y.price) := by rw [cell_at hb]; rfl
  have p3 : w.cell? ⟨b, 3, none⟩ = some (.int .i64 y.left) := by rw [cell_at hb]; rfl
  have pf : ∀ j, w.frozen? ⟨b, j, none⟩ = false := fun j => free_at hb j
  unfold put4w at hK
  unfold ordE at hv
  unfold Oper.wp
  simp only [execOp, hop, hp, hv]
  simp [go_sem, p0, p1, p2, p3, pf]
  exact hK
end Go.Proofs.YtiinigifjdpicaaGreatDoor
