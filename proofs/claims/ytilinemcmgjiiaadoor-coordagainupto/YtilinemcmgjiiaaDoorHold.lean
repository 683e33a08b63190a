/- Who holds a key; lists without one. -/
import Derived.Test.YtilinemcmgjiiaaDoorSmall
namespace Go.Proofs.YtilinemcmgjiiaaDoor
open Go.RowKit
set_option linter.all false
/-- Two cells of a block are written. -/
theorem put2 {wc : World} {b : Nat} {ty : TypeId} {z0 z1 : Value} (h : wc.heap[b]? = some (.cells #[z0, z1] ty (0, 0))) (v0 v1 : Value) :
    ((wc.setCell ⟨b, 0, none⟩ v0).setCell ⟨b, 1, none⟩ v1).heap[b]? = some (.cells #[v0, v1] ty (0, 0)) := heap_set (heap_set h 0 v0) 1 v1
/-- Three boxes that a call has made first. -/
structure B3 (w : World) (A B C : Obj) (wx : World) : Prop where
  b0 : wx.heap[w.heap.size]? = some A
  b1 : wx.heap[w.heap.size + 1]? = some B
  b2 : wx.heap[w.heap.size + 2]? = some C
  bel : Below w.heap.size w wx
  size : w.heap.size + 3 ≤ wx.heap.size
theorem B3.first (w : World) (A B C : Obj) : B3 w A B C (((w.alloc A).alloc B).alloc C) := by
  have h := three_heap w A B C
  exact ⟨h.1, h.2.1, h.2.2.1, below3 w A B C, by omega⟩
theorem B3.keep {w wx wy : World} {A B C : Obj} (h : B3 w A B C wx) (hb : Below wx.heap.size wx wy) : B3 w A B C wy :=
  ⟨(hb.block _ (by have := h.size; omega)).trans h.b0, (hb.block _ (by have := h.size; omega)).trans h.b1, (hb.block _ (by have := h.size; omega)).trans h.b2, below_via h.bel hb, Nat.le_trans h.size hb.size⟩
theorem B3.alloc {w wx : World} {A B C : Obj} (h : B3 w A B C wx) (o : Obj) : B3 w A B C (wx.alloc o) := h.keep (below1 wx o)
def hdT (l : List HoldV) (k : KeyV) : TxnV := match l.find? (fun h => h.1 == k) with | some h => h.2 | none => zT
theorem hd_hit {l : List HoldV} {t : Nat} {k : KeyV} (h : t < l.length) (hp : (l[t].1 == k) = true) : hdT (l.drop t) k = l[t].2 := by
  unfold hdT
  rw [List.drop_eq_getElem_cons h, List.find?_cons_of_pos (p := fun h : HoldV => h.1 == k) hp]
theorem hd_miss {l : List HoldV} {t : Nat} {k : KeyV} (h : t < l.length) (hp : (l[t].1 == k) = false) : hdT (l.drop t) k = hdT (l.drop (t + 1)) k := by
  unfold hdT
  rw [List.drop_eq_getElem_cons h, List.find?_cons_of_neg (p := fun h : HoldV => h.1 == k) (by simp [hp])]
set_option maxHeartbeats 4000000 in
set_option maxRecDepth 100000 in
theorem holder_is (T : TabV) (h v : Value) (k n : Int) (w : World) (hT : Tab w T h v) : Calls Tryd.prog 78 #[.agg #[h, v], .agg #[.int .i64 k, .int .i64 n]] w fun e w' => e = .returned (.agg #[.int .i64 (hdT T.held (k, n)).1, .int .i64 (hdT T.held (k, n)).2]) ∧ Below w.heap.size w w' := by
  obtain ⟨a, c, rfl, h8, hr⟩ := hT.held.hols
  obtain ⟨va, vc, rfl⟩ := hT.wait.slice
  have HH := hideIt hr
  clear hT hr
  generalize T.held = l at *
  generalize T.wait.length = m at *
  have X0 := hideIt (B3.first w (.cells #[.slice a l.length c, .slice va m vc] 140) (.cells #[.int .i64 k, .int .i64 n] 37) (.cells #[.int .i64 0, .int .i64 0] 35))
  go_enter Tryd.func78, Tryd.ntmps78
  go_wp2
  go_loopw [10] (fun v wr => ∃ t : Nat, v = .int .i64 t ∧ t ≤ l.length ∧ Hid (B3 w (.cells #[.slice a l.length c, .slice va m vc] 140) (.cells #[.int .i64 k, .int .i64 n] 37) (.cells #[.int .i64 0, .int .i64 0] 35) wr ∧ hdT l (k, n) = hdT (l.drop t) (k, n))) (fun v _ => l.length - (intOf v).toNat)
  case atStart => exact ⟨0, rfl, Nat.zero_le _, hideIt ⟨X0.out, by simp⟩⟩
  case round =>
    clear X0
    obtain ⟨t, rfl, ht, HR⟩ := hrel
    have X := hideIt HR.out.1
    by_cases hlt : t < l.length
    · have hltI : (t : Int) < (l.length : Int) := by omega
      have ht0 : (0 : Int) ≤ (t : Int) := by omega
      have hw : IntKind.i64.wrap ((t : Int) + 1) = ((t + 1 : Nat) : Int) := by rw [IntKind.wrap_i64]; omega
      obtain ⟨b, off, rfl, hbl, q0, q1, q2, q3⟩ := HH.out t hlt
      have hB := X.out.bel
      have hblr : b < wr.heap.size := Nat.lt_of_lt_of_le hbl hB.size
      have c0 := (hB.cell (p := ⟨b, off + t * 4, none⟩) hbl).trans q0
      have c1 := (hB.cell (p := ⟨b, off + t * 4 + 1, none⟩) hbl).trans q1
      have c2 := (hB.cell (p := ⟨b, off + t * 4 + 2, none⟩) hbl).trans q2
      have c3 := (hB.cell (p := ⟨b, off + t * 4 + 3, none⟩) hbl).trans q3
      have hs := X.out.size
      have n1 : w.heap.size + 1 < wr.heap.size := by omega
      have n2 : w.heap.size + 1 + 1 < wr.heap.size := by omega
      have d0 : wr.cell? ⟨w.heap.size + 1, 0, none⟩ = some (.int .i64 k) := by rw [cell_at X.out.b1]; rfl
      have d1 : wr.cell? ⟨w.heap.size + 1, 1, none⟩ = some (.int .i64 n) := by rw [cell_at X.out.b1]; rfl
      have e0 : wr.cell? ⟨w.heap.size + 1 + 1, 0, none⟩ = some (.int .i64 0) := by rw [cell_at X.out.b2]; rfl
      have e1 : wr.cell? ⟨w.heap.size + 1 + 1, 1, none⟩ = some (.int .i64 0) := by rw [cell_at X.out.b2]; rfl
      have f0 : wr.frozen? ⟨w.heap.size + 1 + 1, 0, none⟩ = false := free_at X.out.b2 0
      have f1 : wr.frozen? ⟨w.heap.size + 1 + 1, 1, none⟩ = false := free_at X.out.b2 1
      clear q0 q1 q2 q3 hB hbl
      cases hq : (l[t].1 == (k, n))
      · have HF := hideIt (HR.out.2.trans (hd_miss hlt hq))
        clear HR HH
        generalize l[t] = en at *
        obtain ⟨⟨x, y⟩, ⟨z, u⟩⟩ := en
        dsimp only at c0 c1 c2 c3 hq
        have q1 : ∀ W, (binOp .eql 37 (.agg #[.int .i64 x, .int .i64 y]) (.agg #[.int .i64 k, .int .i64 n])).run Tryd.prog W = .ok (.bool false) W := fun W => by rw [eq26, hq]
        clear hq
        go_wp2
        go_roundw
        case rel => exact ⟨t + 1, by go_num, by omega, hideIt ⟨X.out.alloc _, HF.out⟩⟩
        case measure => simp [intOf]; omega
      · have HF := hideIt (HR.out.2.trans (hd_hit hlt hq))
        clear HR HH
        generalize l[t] = en at *
        obtain ⟨⟨x, y⟩, ⟨z, u⟩⟩ := en
        dsimp only at c0 c1 c2 c3 hq HF
        have q1 : ∀ W, (binOp .eql 37 (.agg #[.int .i64 x, .int .i64 y]) (.agg #[.int .i64 k, .int .i64 n])).run Tryd.prog W = .ok (.bool true) W := fun W => by rw [eq26, hq]
        clear hq
        have P := hideIt ((heap_alloc_old ((wr.setCell ⟨w.heap.size + 1 + 1, 0, none⟩ (.int .i64 z)).setCell ⟨w.heap.size + 1 + 1, 1, none⟩ (.int .i64 u)) (.cells #[.int .i64 x, .int .i64 y, .int .i64 z, .int .i64 u] 155) (by simp; omega)).trans (put2 (b := w.heap.size + 1 + 1) X.out.b2 (.int .i64 z) (.int .i64 u)))
        go_wp2
        exact bodyPost_ret (v := .agg #[.int .i64 z, .int .i64 u]) (by simp [results, Tryd.results78, go_sem, cell_at P.out]) rfl ⟨by rw [HF.out], (belowSet _ (belowSet _ X.out.bel (by omega)) (by omega)).alloc (by simp; omega) _⟩
    · have hltI : ¬ (t : Int) < (l.length : Int) := by omega
      have HF : Hid (hdT l (k, n) = zT) := by
        show _ = _
        rw [HR.out.2, List.drop_eq_nil_of_le (by omega)]
        rfl
      have e0 : wr.cell? ⟨w.heap.size + 1 + 1, 0, none⟩ = some (.int .i64 0) := by rw [cell_at X.out.b2]; rfl
      have e1 : wr.cell? ⟨w.heap.size + 1 + 1, 1, none⟩ = some (.int .i64 0) := by rw [cell_at X.out.b2]; rfl
      have f0 : wr.frozen? ⟨w.heap.size + 1 + 1, 0, none⟩ = false := free_at X.out.b2 0
      have f1 : wr.frozen? ⟨w.heap.size + 1 + 1, 1, none⟩ = false := free_at X.out.b2 1
      have hs := X.out.size
      have P := hideIt (put2 (b := w.heap.size + 1 + 1) X.out.b2 (.int .i64 0) (.int .i64 0))
      clear HR HH
      go_wp2
      exact bodyPost_ret (v := .agg #[.int .i64 0, .int .i64 0]) (by simp [results, Tryd.results78, go_sem, cell_at P.out]) rfl ⟨by rw [HF.out]; rfl, belowSet _ (belowSet _ X.out.bel (by omega)) (by omega)⟩
end Go.Proofs.YtilinemcmgjiiaaDoor
