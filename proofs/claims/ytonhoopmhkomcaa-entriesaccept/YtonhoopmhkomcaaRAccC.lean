/- A log that is sent entries: the document. -/
import Derived.Test.YtonhoopmhkomcaaRAcP
import Derived.Deep.RegionLaw
import Derived.Deep.CutBlock
import Derived.Deep.CutRange
namespace Go.Proofs.Ytonhoopmhkomcaa
open Go.RowKit
theorem own_nei {w : World} {B n k j : Nat} {v u : Value} {xs : List Value} {cs : Array Value} (h : w.ownsRow B 40 3 v n xs) (hx : w.heap[k]? = some (.cells cs 26 (0, 0))) : (w.setCell ⟨k, j, none⟩ u).ownsRow B 40 3 v n xs := by
  obtain ⟨h1, h2 | ⟨q, cap, cur, hv, hB, hg, r⟩⟩ := h
  · exact ⟨h1, .inl h2⟩
  · refine ⟨h1, .inr ⟨q, cap, cur, hv, hB, (heap_set_other _ _ _ _ _ (fun e => ?_)).trans hg, r⟩⟩
    rw [e, hx] at hg
    simp at hg
theorem LMR.setO {w wx : World} {L : LogV} {g : Value} {i t : Int} (h : LMR w L g i t wx) {b j : Nat} (hb : w.heap.size + 3 ≤ b) (v : Value) : LMR w L g i t (wx.setCell ⟨b, j, none⟩ v) :=
  ⟨setOther _ h.box (by omega), setOther _ h.mrk (by omega), setOther _ h.res (by omega), belowSet _ h.bel (by omega)⟩
theorem blk_own {wx : World} {B n q : Nat} {v : Value} {xs : List Value} (ho : wx.ownsRow B 40 3 v n xs) (e : v.ownBlock = some q) : B ≤ q ∧ ∃ cur, wx.heap[q]? = some (.cells cur 40 (0, 0)) := by
  obtain ⟨_, ⟨h1, _⟩ | ⟨q2, cap, cur, h1, hB, hg, _⟩⟩ := ho
  · rw [h1] at e
    cases e
  · rw [h1] at e
    simp only [Value.ownBlock, Option.some.injEq] at e
    subst e
    exact ⟨hB, cur, hg⟩
theorem LMR.grow {w wx wy : World} {L : LogV} {g : Value} {i t : Int} {B n : Nat} {v : Value} {xs : List Value} (h : LMR w L g i t wx) (ho : wx.ownsRow B 40 3 v n xs) (hB : w.heap.size + 3 ≤ B) (hg : wx.grownBy wy v.ownBlock) : LMR w L g i t wy := by
  have hs := h.size
  have ne : ∀ q, q < w.heap.size + 3 → ¬ (v.ownBlock = some q) := fun q hq e => by
    have := (blk_own ho e).1
    omega
  exact ⟨(hg.block _ (by omega) (fun e => ne _ (by omega) e.symm)).trans h.box, (hg.block _ (by omega) (fun e => ne _ (by omega) e.symm)).trans h.mrk, (hg.block _ (by omega) (fun e => ne _ (by omega) e.symm)).trans h.res, grown_own hg (own_base ho (by omega)) h.bel⟩
theorem nblk_grow {wx wy : World} {B n k : Nat} {v : Value} {xs : List Value} {cs : Array Value} (hx : wx.heap[k]? = some (.cells cs 26 (0, 0))) (ho : wx.ownsRow B 40 3 v n xs) (hg : wx.grownBy wy v.ownBlock) : wy.heap[k]? = some (.cells cs 26 (0, 0)) := by
  refine (hg.block k (Array.getElem?_eq_some_iff.1 hx).1 (fun e => ?_)).trans hx
  obtain ⟨_, cur, hc⟩ := blk_own ho e.symm
  rw [hx] at hc
  simp at hc
theorem step_run {ops : Array Oper} {o : Oper} {a : Act} {w : World} {K : Act → World → Prop} {Q : Exit → Act → World → Prop} {E : Prop}
    (hg : o.guard = none) (s x : Operand) (t ty : TypeId) (hop : o.op = Op.call { callee := Callee.builtin Builtin.append, args := #[s, x], argTypes := #[t, t] }) (hty : o.type = ty) {v1 v2 v' : Value} {w' : World} (hs : a.eval s = v1) (hx : a.eval x = v2)
    (hrun : (Builtin.append_ #[t, t] ty #[v1, v2]).run Try.prog w = .ok v' w') (hK : K (a.put o.dst v') w') : if Region.wanted o (yielded ops a.tmps) = true then Oper.wp Try.prog o a w K Q else E := by
  have hw : Region.wanted o (yielded ops a.tmps) = true := by simp [Region.wanted, hg]
  rw [if_pos hw]
  subst hty
  unfold Oper.wp
  simp [execOp, hop, resolve, invoke, builtin, hs, hx, hrun, Result.andThen]
  exact hK
end Go.Proofs.Ytonhoopmhkomcaa
