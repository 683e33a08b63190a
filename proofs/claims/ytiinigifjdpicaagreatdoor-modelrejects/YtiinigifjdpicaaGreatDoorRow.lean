/- Rows of things of k cells: copy, insert, take out, set: what lies in the block. -/
import Derived.Test.YtiinigifjdpicaaGreatDoorApp
import Derived.Laws.CopyRow
import Derived.Laws.Externs
import Derived.Lib.AppendZerosOnto
import Derived.Lib.Overlaps
import Derived.Lib.SliceRun
import Derived.Shelf.RegionOpenPlain
import Derived.Deep.RegionLaw
import Derived.Deep.CutBlock
import Derived.Deep.CutRange
namespace Go.Proofs.YtiinigifjdpicaaGreatDoor
open Go.RowKit
set_option linter.all false
/-- copy over things of k cells. -/
theorem run_copyK (w : World) (dT sT ty elem : TypeId) (k g o dLen dCap : Nat) (a : Addr) (sLen sCap : Nat) (cur : Array Value) (t : TypeId) (cs : List Value)
    (hu : Tryz.prog.underlying dT = some (.slice elem)) (hs : (Tryz.prog.info? elem).map (·.size) = some k)
    (hg : w.heap[g]? = some (.cells cur t (0, 0))) (hn : cs.length = Nat.min sLen dLen * k)
    (hsrc : ∀ j v, cs[j]? = some v → w.cell? (a.add j) = some v) (hfit : o + cs.length ≤ cur.size) (h1 : ∀ v ∈ cs, v.oneCell' = true) :
    (Builtin.copy_ #[dT, sT] ty #[.slice (some ⟨g, o, none⟩) dLen dCap, .slice (some a) sLen sCap]).run Tryz.prog w =
      .ok (goInt (Nat.min sLen dLen)) (w.setRow g (cur.toList.take o ++ cs ++ cur.toList.drop (o + cs.length)).toArray) := by
  have hst := run_storeCells_at Tryz.prog g o t cs 0 cur w hg (by simpa using hfit) h1
  cases hq : Tryz.prog.info? elem with
  | none => simp [hq] at hs
  | some i =>
    have hi : i.size = k := by simpa [hq] using hs
    have hl := run_firstCells_some (P := Tryz.prog) w k (Nat.min sLen dLen) a sLen sCap cs hn hsrc
    simp [Builtin.copy_, run_underlying hu, Builtin.lenOf, sizeOf, typeInfo, hq, hi, hl, hst]
theorem wpList_copy_runK (w : World) {ops : Array Oper} {rest : List Oper} {o : Oper} {a : Act} {Q : Exit → Act → World → Prop} (hgd : o.guard = none) (d s : Operand) (t t' : TypeId)
    (ho : o.op = .call { callee := .builtin .copy, args := #[d, s], argTypes := #[t, t'] }) (v u : Value) (hd : a.eval d = v) (hs : a.eval s = u) {v' : Value} {w' : World}
    (hr : (Builtin.copy_ #[t, t'] o.type #[v, u]).run Tryz.prog w = .ok v' w') (h : wpList Tryz.prog ops Q rest (a.put o.dst v') w') : wpList Tryz.prog ops Q (o :: rest) a w := by
  refine wpList_plain hgd fun K hK => ?_
  unfold Oper.wp execOp
  simp only [ho, resolve, invoke, builtin, Sem.run_bind, Sem.run_pure, Result.andThen_ok, List.map_toArray, List.map_cons, List.map_nil, hd, hs, hr]
  exact hK _ _ h
theorem step_copy_runK {ops : Array Oper} {o : Oper} {a : Act} {w : World} {K : Act → World → Prop} {Q : Exit → Act → World → Prop} {E : Prop}
    (hg : o.guard = none) (d x : Operand) (dT sT : TypeId) (hop : o.op = Op.call { callee := Callee.builtin Builtin.copy, args := #[d, x], argTypes := #[dT, sT] })
    (v u : Value) (hd : a.eval d = v) (hx : a.eval x = u) {v' : Value} {w' : World} (hr : (Builtin.copy_ #[dT, sT] o.type #[v, u]).run Tryz.prog w = .ok v' w') (hK : K (a.put o.dst v') w') :
    if Region.wanted o (yielded ops a.tmps) = true then Oper.wp Tryz.prog o a w K Q else E := by
  have hw : Region.wanted o (yielded ops a.tmps) = true := by simp [Region.wanted, hg]
  rw [if_pos hw]
  unfold Oper.wp
  simp [execOp, hop, resolve, invoke, builtin, hd, hx, hr, Result.andThen]
  exact hK
theorem step_app_runK {ops : Array Oper} {o : Oper} {a : Act} {w : World} {K : Act → World → Prop} {Q : Exit → Act → World → Prop} {E : Prop}
    (hg : o.guard = none) (d x : Operand) (dT sT : TypeId) (hop : o.op = Op.call { callee := Callee.builtin Builtin.append, args := #[d, x], argTypes := #[dT, sT] })
    (v u : Value) (hd : a.eval d = v) (hx : a.eval x = u) {v' : Value} {w' : World} (hr : (Builtin.append_ #[dT, sT] o.type #[v, u]).run Tryz.prog w = .ok v' w') (hK : K (a.put o.dst v') w') :
    if Region.wanted o (yielded ops a.tmps) = true then Oper.wp Tryz.prog o a w K Q else E := by
  have hw : Region.wanted o (yielded ops a.tmps) = true := by simp [Region.wanted, hg]
  rw [if_pos hw]
  unfold Oper.wp
  simp [execOp, hop, resolve, invoke, builtin, hd, hx, hr, Result.andThen]
  exact hK
/-- What two copies make of a row: room is made at p, and X is laid there. -/
theorem shift_list (A D T X : List Value) (k : Nat) (hk : X.length = k) (hT : k ≤ T.length) :
    ((((A ++ D ++ T).take (A.length + k) ++ D ++ (A ++ D ++ T).drop (A.length + k + D.length)).take A.length ++ X ++ ((A ++ D ++ T).take (A.length + k) ++ D ++ (A ++ D ++ T).drop (A.length + k + D.length)).drop (A.length + X.length)).take (A.length + k + D.length)) = A ++ X ++ D := by
  have hl : ((A ++ D ++ T).take (A.length + k)).length = A.length + k := by
    rw [List.length_take, List.length_append, List.length_append]
    omega
  have e1 : ((A ++ D ++ T).take (A.length + k) ++ D ++ (A ++ D ++ T).drop (A.length + k + D.length)).take A.length = A := by
    rw [List.append_assoc, List.take_append_of_le_length (by omega), List.take_take, Nat.min_eq_left (by omega), List.append_assoc, List.take_left']
    rfl
  have e2 : ((A ++ D ++ T).take (A.length + k) ++ D ++ (A ++ D ++ T).drop (A.length + k + D.length)).drop (A.length + X.length) = D ++ (A ++ D ++ T).drop (A.length + k + D.length) := by
    rw [List.append_assoc, hk, List.drop_left' hl]
  rw [e1, e2, ← List.append_assoc, List.take_left']
  rw [List.length_append, List.length_append, hk]
/-- The same in a new row. -/
theorem grow_list (A D Z X : List Value) (k : Nat) (hk : X.length = k) (hZ : k + D.length ≤ Z.length) :
    ((((A ++ Z).take A.length ++ X ++ (A ++ Z).drop (A.length + X.length)).take (A.length + k) ++ D ++ ((A ++ Z).take A.length ++ X ++ (A ++ Z).drop (A.length + X.length)).drop (A.length + k + D.length)).take (A.length + k + D.length)) = A ++ X ++ D := by
  have e0 : (A ++ Z).take A.length = A := List.take_left' rfl
  have e1 : ((A ++ Z).take A.length ++ X ++ (A ++ Z).drop (A.length + X.length)).take (A.length + k) = A ++ X := by
    rw [e0, List.take_left']
    rw [List.length_append, hk]
  rw [e1, List.take_left']
  rw [List.length_append, List.length_append, hk]
end Go.Proofs.YtiinigifjdpicaaGreatDoor
