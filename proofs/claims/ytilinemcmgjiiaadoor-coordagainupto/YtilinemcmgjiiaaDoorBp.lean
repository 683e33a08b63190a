/- The coordinator, in plain data: find, Begin. -/
import Derived.Test.YtilinemcmgjiiaaDoorMb
namespace Go.Proofs.YtilinemcmgjiiaaDoor
open Go.RowKit
set_option linter.all false
/-- Four boxes of a call. -/
theorem four_heap (w : World) (o p q r : Obj) : ((((w.alloc o).alloc p).alloc q).alloc r).heap[w.heap.size]? = some o ∧ ((((w.alloc o).alloc p).alloc q).alloc r).heap[w.heap.size + 1]? = some p ∧ ((((w.alloc o).alloc p).alloc q).alloc r).heap[w.heap.size + 2]? = some q ∧ ((((w.alloc o).alloc p).alloc q).alloc r).heap[w.heap.size + 3]? = some r ∧ ((((w.alloc o).alloc p).alloc q).alloc r).heap.size = w.heap.size + 4 := by
  obtain ⟨h1, h2, h3⟩ := two_heap w o p
  obtain ⟨k1, k2, k3⟩ := two_heap ((w.alloc o).alloc p) q r
  have hb := below2 ((w.alloc o).alloc p) q r
  refine ⟨blkK h1 hb, blkK h2 hb, ?_, ?_, ?_⟩
  · rw [h3] at k1; exact k1
  · rw [h3] at k2; exact k2
  · rw [h3] at k3; exact k3
theorem below4 (w : World) (o p q r : Obj) : Below w.heap.size w ((((w.alloc o).alloc p).alloc q).alloc r) := below_via (below2 w o p) (below2 _ q r)
def fndV (c q k n g : Int) : List TraV → Nat → Int → Int × Int
  | [], _, at0 => (at0, -1)
  | t :: l, i, at0 => if (t.c == c && t.q == q) = true then (match pidL k n g t.ps 0 with | some j => ((i : Int), (j : Int)) | none => fndV c q k n g l (i + 1) i) else fndV c q k n g l (i + 1) at0
theorem fnd_v (c q k n g : Int) : ∀ (l : List TraX) (i : Nat) (at0 : Int), fndL c q k n g l i at0 = fndV c q k n g (l.map TraX.v) i at0
  | [], _, _ => rfl
  | t :: l, i, at0 => by
    have h1 := fnd_v c q k n g l (i + 1)
    rw [List.map_cons]
    unfold fndL fndV
    rw [h1, h1]
    rfl
/-- A transaction that begins. -/
def newV (c q : Int) (r : ReqV) (ps : List PeeV) : TraV := ⟨c, q, r, ps, 1, [], [], zAns⟩
def begE (l : List TraV) (c q : Int) (r : ReqV) (ps : List PeeV) : Int :=
  if (nmB c q && fitsB r) = true then (if 0 ≤ (fndV c q 0 0 0 l 0 (-1)).1 then 192 else if mayPB ps = true then 0 else 190) else 1
def begG (g : Int) (l : List TraV) (c q : Int) (r : ReqV) (ps : List PeeV) : Int := if begE l c q r ps = 0 then g else 0
def begT (l : List TraV) (c q : Int) (r : ReqV) (ps : List PeeV) : List TraV := if begE l c q r ps = 0 then l ++ [newV c q r ps] else []
/-- A coordinator of the call's own, and a number. -/
def CorBack (g : Int) (l : List TraV) (n : Int) (w : World) (e : Ending) (w' : World) : Prop := ∃ a c ys, e = .returned (.tuple #[.agg #[.int .i64 g, .slice a l.length c], .int .i64 n]) ∧ ys.map TraX.v = l ∧ TrsOwn w.heap.size w' (.slice a l.length c) ys ∧ Below w.heap.size w w'
theorem cor_no {w W : World} {n : Int} (X : W.heap[w.heap.size + 3]? = some (.cells #[.int .i64 0, .slice none 0 0] 25 (0, 0))) (B : Below w.heap.size w W) : CorBack 0 [] n w (.returned (.tuple #[.agg #[.int .i64 0, .slice none 0 0], .int .i64 n])) ((W.setCell ⟨w.heap.size + 3, 0, none⟩ (.int .i64 0)).setCell ⟨w.heap.size + 3, 1, none⟩ (.slice none 0 0)) := by
  obtain ⟨hzz, hoo⟩ := puts2 W (w.heap.size + 3) 25 (.int .i64 0) (.slice none 0 0) X
  exact ⟨none, 0, [], rfl, rfl, TrsOwn.nil _ _, below_out B hoo (fun k hk => by omega)⟩
/-- An append that is carried out in a drawn region. -/
theorem step_app_runK {ops : Array Oper} {o : Oper} {a : Act} {w : World} {K : Act → World → Prop} {Q : Exit → Act → World → Prop} {E : Prop}
    (hg : o.guard = none) (d x : Operand) (dT sT : TypeId) (hop : o.op = Op.call { callee := Callee.builtin Builtin.append, args := #[d, x], argTypes := #[dT, sT] })
    (v u : Value) (hd : a.eval d = v) (hx : a.eval x = u) {v' : Value} {w' : World} (hr : (Builtin.append_ #[dT, sT] o.type #[v, u]).run Tryd.prog w = .ok v' w') (hK : K (a.put o.dst v') w') :
    if Region.wanted o (yielded ops a.tmps) = true then Oper.wp Tryd.prog o a w K Q else E := by
  have hw : Region.wanted o (yielded ops a.tmps) = true := by simp [Region.wanted, hg]
  rw [if_pos hw]
  unfold Oper.wp
  simp [execOp, hop, resolve, invoke, builtin, hd, hx, hr, Result.andThen]
  exact hK
/-- A store into a block of another type. -/
theorem own_ty {w : World} {B n b j z : Nat} {e t : TypeId} {v u : Value} {xs : List Value} {cs : Array Value} (h : w.ownsRow B e z v n xs) (hb : w.heap[b]? = some (.cells cs t (0, 0))) (hne : t ≠ e) : (w.setCell ⟨b, j, none⟩ u).ownsRow B e z v n xs := by
  obtain ⟨h1, hn | ⟨g, cap, cur, hv, hB, hg, rest⟩⟩ := h
  · exact ⟨h1, .inl hn⟩
  · exact ⟨h1, .inr ⟨g, cap, cur, hv, hB, setOther _ hg (fun e1 => by rw [e1, hb] at hg; simp at hg; exact hne hg.2), rest⟩⟩
/-- None of the types of a transaction's lists. -/
def noT (t : TypeId) : Prop := t ≠ 72 ∧ t ≠ 121 ∧ t ≠ 124 ∧ t ≠ 81 ∧ t ≠ 67 ∧ t ≠ 146
theorem CelOwn.ty {w : World} {B b j : Nat} {t : TypeId} {u : Value} {cs : Array Value} {x : CelX} (h : CelOwn B w x) (hb : w.heap[b]? = some (.cells cs t (0, 0))) (hn : noT t) : CelOwn B (w.setCell ⟨b, j, none⟩ u) x := ⟨own_ty h.f hb hn.1, own_ty h.b hb hn.2.1, own_ty h.a hb hn.2.1, own_ty h.o hb hn.2.2.1, h.sf, h.sb, h.sa, h.so⟩
theorem TraOwn.ty {w : World} {B b j : Nat} {t : TypeId} {u : Value} {cs : Array Value} {x : TraX} (h : TraOwn B w x) (hb : w.heap[b]? = some (.cells cs t (0, 0))) (hn : noT t) : TraOwn B (w.setCell ⟨b, j, none⟩ u) x := ⟨own_ty h.p hb hn.2.2.2.2.1, own_ty h.m hb hn.1, ⟨own_ty h.c.row hb hn.2.2.2.1, fun c hc => (h.c.own c hc).ty hb hn, h.c.siz⟩, ⟨own_ty h.x.a hb hn.1, own_ty h.x.f hb hn.2.2.2.2.2, h.x.sa, h.x.sf⟩, h.sp, h.sm⟩
theorem TrsOwn.ty {w : World} {B b j : Nat} {t : TypeId} {v u : Value} {cs : Array Value} {l : List TraX} (h : TrsOwn B w v l) (hb : w.heap[b]? = some (.cells cs t (0, 0))) (hn : noT t) (ht : t ≠ 52) : TrsOwn B (w.setCell ⟨b, j, none⟩ u) v l := ⟨own_ty h.row hb ht, fun x hx => (h.own x hx).ty hb hn, h.dj, h.siz⟩
end Go.Proofs.YtilinemcmgjiiaaDoor
