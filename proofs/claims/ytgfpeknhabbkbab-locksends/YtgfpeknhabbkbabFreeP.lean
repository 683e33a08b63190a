/- A key is let go: plain data, and what lies in memory on the way. -/
import Derived.Test.YtgfpeknhabbkbabAskW
namespace Go.Proofs.Ytgfpeknhabbkbab
open Go.RowKit
set_option linter.all false
/-- What letting go gives. -/
def freeL (T : TabV) (k : KeyV) (t : TxnV) : TabV × TxnV × Int :=
  if refE T k t = 0 then
    if (hdT T.held k == t) = false ∨ (oldL (qL T.wait k) == zT) = true then (⟨wiL T.held (k, t), wiL T.wait (k, t)⟩, zT, 0)
    else (⟨wiL T.held (k, t) ++ [(k, oldL (qL T.wait k))], wiL (wiL T.wait (k, t)) (k, oldL (qL T.wait k))⟩, oldL (qL T.wait k), 0)
  else (zTab, zT, refE T k t)
def FreeBack (X : TabV × TxnV × Int) (w : World) (e : Ending) (w' : World) : Prop := ∃ h v, e = .returned (.tuple #[.agg #[h, v], .agg #[.int .i64 X.2.1.1, .int .i64 X.2.1.2], .int .i64 X.2.2]) ∧ TabOwn w.heap.size X.1 h v w' ∧ Below w.heap.size w w'
/-- Both results are written. -/
theorem AR.ret2 {w wx : World} {os : List Obj} {T : TabV} {P : Nat} {h v z0 z1 y0 y1 : Value} (a : AR w os T P h v wx) (ho : os[3]? = some (.cells #[z0, z1] 25 (0, 0))) (ho4 : os[4]? = some (.cells #[y0, y1] 29 (0, 0))) (x0 x1 : Value) :
    ((((wx.setCell ⟨w.heap.size + 3, 0, none⟩ h).setCell ⟨w.heap.size + 3, 1, none⟩ v).setCell ⟨w.heap.size + 4, 0, none⟩ x0).setCell ⟨w.heap.size + 4, 1, none⟩ x1).heap[w.heap.size + 3]? = some (.cells #[h, v] 25 (0, 0)) ∧
    ((((wx.setCell ⟨w.heap.size + 3, 0, none⟩ h).setCell ⟨w.heap.size + 3, 1, none⟩ v).setCell ⟨w.heap.size + 4, 0, none⟩ x0).setCell ⟨w.heap.size + 4, 1, none⟩ x1).heap[w.heap.size + 4]? = some (.cells #[x0, x1] 29 (0, 0)) ∧
    TabOwn w.heap.size T h v ((((wx.setCell ⟨w.heap.size + 3, 0, none⟩ h).setCell ⟨w.heap.size + 3, 1, none⟩ v).setCell ⟨w.heap.size + 4, 0, none⟩ x0).setCell ⟨w.heap.size + 4, 1, none⟩ x1) ∧
    Below w.heap.size w ((((wx.setCell ⟨w.heap.size + 3, 0, none⟩ h).setCell ⟨w.heap.size + 3, 1, none⟩ v).setCell ⟨w.heap.size + 4, 0, none⟩ x0).setCell ⟨w.heap.size + 4, 1, none⟩ x1) := by
  have hb4 := (a.bx.at_ 4 (List.getElem?_eq_some_iff.1 ho4).1).trans ho4
  have r := a.ret ho
  have h4 := setOther (b := w.heap.size + 3) (j := 1) v (setOther (b := w.heap.size + 3) (j := 0) h hb4 (by omega)) (by omega)
  exact ⟨setOther _ (setOther _ r.1 (by omega)) (by omega), put2 h4 x0 x1, ⟨own_cell (own_cell r.2.1.oh h4 (by decide)) (heap_set h4 0 x0) (by decide), own_cell (own_cell r.2.1.ov h4 (by decide)) (heap_set h4 0 x0) (by decide)⟩, belowSet _ (belowSet _ r.2.2 (by omega)) (by omega)⟩
theorem AR.keep {w wx wy : World} {os : List Obj} {T : TabV} {P : Nat} {h v : Value} (a : AR w os T P h v wx) (hb : Below wx.heap.size wx wy) : AR w os T P h v wy :=
  ⟨a.bx.keep hb, (hb.block _ (Array.getElem?_eq_some_iff.1 a.box).1).trans a.box, ⟨own_keep a.own.oh hb, own_keep a.own.ov hb⟩⟩
/-- Those that wait are others now. -/
theorem AR.setV {w wx : World} {os : List Obj} {hd wt wt2 : List HoldV} {P : Nat} {h v v2 : Value} (a : AR w os ⟨hd, wt⟩ P h v wx) (lP : w.heap.size + os.length ≤ P) (ho : wx.ownsRow (w.heap.size + os.length) 34 4 v2 wt2.length (celC holE wt2)) : AR w os ⟨hd, wt2⟩ P h v2 (wx.setCell ⟨P, 1, none⟩ v2) :=
  ⟨⟨fun i hi => (heap_set_other _ _ _ _ _ (by omega)).trans (a.bx.at_ i hi), belowSet _ a.bx.bel (by omega), by simpa using a.bx.size⟩, heap_set a.box 1 v2, ⟨own_cell a.own.oh a.box (by decide), own_cell ho a.box (by decide)⟩⟩
theorem AQ.size {w wx : World} {os : List Obj} {K : Nat} {cs : Array Value} {t : TypeId} {T : TabV} {P : Nat} {h v : Value} (a : AQ w os K cs t T P h v wx) : P < wx.heap.size := (Array.getElem?_eq_some_iff.1 a.box).1
/-- One more behind what is held; a block that came later stays. -/
theorem AQ.appK {w W W0 : World} {os : List Obj} {K : Nat} {cs : Array Value} {t : TypeId} {T : TabV} {P b c N : Nat} {h v : Value} {x : HoldV} {xs : Array Value} {ty : TypeId} (a0 : AQ w os K cs t T P h v W0) (a : AQ w os K cs t T P h v W) (hN : W0.heap.size ≤ N) (hx : W.heap[N]? = some (.cells xs ty (0, 0))) (hb : W.heap[b]? = some (.cells (holE x).toArray 34 (0, 0))) (hl : T.held.length ≤ 1000) :
    ∃ a' c' w', (Builtin.append_ #[23, 23] 23 #[h, .slice (some ⟨b, 0, none⟩) 1 c]).run Try.prog W = .ok (.slice a' (T.held.length + 1) c') w' ∧ AR w os ⟨T.held ++ [x], T.wait⟩ P (.slice a' (T.held.length + 1) c') v (w'.setCell ⟨P, 0, none⟩ (.slice a' (T.held.length + 1) c')) ∧ w'.cell? ⟨P, 0, none⟩ = some h ∧ w'.cell? ⟨P, 1, none⟩ = some v ∧ w'.frozen? ⟨P, 0, none⟩ = false ∧ P < w'.heap.size ∧ w'.heap[N]? = some (.cells xs ty (0, 0)) := by
  obtain ⟨v', w', hrun, how, hgr⟩ := app1 (enc := holE) (t := 23) holK hol1 Try.underlying23 info44 rfl (by omega) W (w.heap.size + os.length) h T.held x b c a.bx.size a.own.oh hb (by omega) (by unfold maxLen; omega)
  obtain ⟨a', c', w2, hrun2, h2, h3, h4, h5, h6⟩ := a.appH (c := c) hb hl
  have e := hrun.symm.trans hrun2
  simp only [Result.ok.injEq] at e
  obtain ⟨rfl, rfl⟩ := e
  refine ⟨a', c', w', hrun2, h2, h3, h4, h5, h6, (hgr.block N (Array.getElem?_eq_some_iff.1 hx).1 (fun e => ?_)).trans hx⟩
  have := (a0.own.oh.lt N e.symm).2
  omega
end Go.Proofs.Ytgfpeknhabbkbab
