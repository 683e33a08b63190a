/- Texts of my own, laid together. -/
import Derived.Test.YtiinigifjdpicaaGreatDoorMb01
import Derived.RangeFuncNested
import Derived.RangeFuncBound
import Derived.RangeFuncCalls
import Derived.RangeFuncLeaves
import Derived.Shelf.Abstract
import Derived.Shelf.RegionOpen
import Derived.OwnWalkIn
import Derived.TacticsInMore
import Derived.LoopNIn
import Derived.LoopIn
namespace Go.Proofs.YtiinigifjdpicaaGreatDoor.Se
open Go.RowKit
set_option linter.all false
set_option maxHeartbeats 1000000 in
theorem within_is (x lo hi : Int) (w : World) : Calls Tryz.prog 167 #[.int .i64 x, .int .i64 lo, .int .i64 hi] w fun e w' => e = .returned (.bool (wiB x lo hi)) ∧ w' = w := by
 unfold wiB
 by_cases h : lo ≤ x
 ·go_enter Tryz.func167, Tryz.ntmps167
  go_wp2;go_ret
  exact ⟨by simp [h], rfl⟩
 ·go_enter Tryz.func167, Tryz.ntmps167
  go_wp2;go_ret
  exact ⟨by rw [decide_eq_false (by omega)]; rfl, rfl⟩
def keyB (k : KeyV) : Bool := if k.1 = 1 then wiB k.2 1 8 else if k.1 = 2 then wiB k.2 1 3 else false
def namB (t : TxnV) : Bool := wiB t.1 1 6 && wiB t.2 1 100000
set_option maxHeartbeats 2000000 in
theorem isKey_is (k n : Int) (w : World) : Calls Tryz.prog 133 #[.agg #[.int .i64 k, .int .i64 n]] w fun e w' => e = .returned (.bool (keyB (k, n))) ∧ Below w.heap.size w w' := by
 have N1 := hideIt (fun W => within_is n 1 8 W);have N2 := hideIt (fun W => within_is n 1 3 W);have HB := hideIt (below1 w (.cells #[.int .i64 k, .int .i64 n] 24));simp only [keyB]
 by_cases h1 : k = 1
 ·subst h1;rw [if_pos rfl]
  go_enter Tryz.func133, Tryz.ntmps133
  go_wp2_with fail
  refine (N1.out _).mono ?_;rintro e w1 ⟨rfl, rfl⟩;dsimp only;go_wp2;go_ret
  exact ⟨rfl, HB.out⟩
 ·by_cases h2 : k = 2
  ·subst h2;rw [if_neg h1, if_pos rfl]
   go_enter Tryz.func133, Tryz.ntmps133
   go_wp2_with fail
   refine (N2.out _).mono ?_;rintro e w1 ⟨rfl, rfl⟩;dsimp only;go_wp2;go_ret
   exact ⟨rfl, HB.out⟩
  ·rw [if_neg h1, if_neg h2]
   go_enter Tryz.func133, Tryz.ntmps133
   go_wp2;go_ret
   exact ⟨rfl, HB.out⟩
set_option maxHeartbeats 2000000 in
theorem isName_is (c q : Int) (w : World) : Calls Tryz.prog 134 #[.agg #[.int .i64 c, .int .i64 q]] w fun e w' => e = .returned (.bool (namB (c, q))) ∧ Below w.heap.size w w' := by
 have N1 := hideIt (fun W => within_is c 1 6 W);have N2 := hideIt (fun W => within_is q 1 100000 W);have HB := hideIt (below1 w (.cells #[.int .i64 c, .int .i64 q] 129));simp only [namB];cases h1 : wiB c 1 6
 ·rw [h1] at N1
  go_enter Tryz.func134, Tryz.ntmps134
  go_wp2_with fail
  refine (N1.out _).mono ?_;rintro e w1 ⟨rfl, rfl⟩;dsimp only;go_wp2;go_ret
  exact ⟨rfl, HB.out⟩
 ·rw [h1] at N1
  go_enter Tryz.func134, Tryz.ntmps134
  go_wp2_with fail
  refine (N1.out _).mono ?_;rintro e w1 ⟨rfl, rfl⟩;dsimp only
  go_wp2_with fail
  refine (N2.out _).mono ?_;rintro e w1 ⟨rfl, rfl⟩;dsimp only;go_wp2;go_ret
  exact ⟨by simp, HB.out⟩
def zT : TxnV := (0, 0)
set_option maxHeartbeats 2000000 in
theorem isNobody_is (c q : Int) (w : World) : Calls Tryz.prog 105 #[.agg #[.int .i64 c, .int .i64 q]] w fun e w' => e = .returned (.bool ((c, q) == zT)) ∧ Below w.heap.size w w' := by
 have HB := hideIt (below1 w (.cells #[.int .i64 c, .int .i64 q] 129));have q1 := eq28;unfold zT
 go_enter Tryz.func105, Tryz.ntmps105
 go_wp2;go_ret
 exact ⟨rfl, HB.out⟩
set_option maxHeartbeats 2000000 in
theorem size_is (T : TabV) (h v : Value) (w : World) (k : Tab w T h v) : Calls Tryz.prog 104 #[.agg #[h, v]] w fun e w' => e = .returned (.int .i64 ((T.held.length : Int) + (T.wait.length : Int))) ∧ Below w.heap.size w w' := by
 have a8 := k.held.1;have b8 := k.wait.1;obtain ⟨ha, hc, rfl⟩ := k.held.slice;obtain ⟨va, vc, rfl⟩ := k.wait.slice;clear k;have HB := hideIt (below1 w (.cells #[.slice ha T.held.length hc, .slice va T.wait.length vc] 125));have hw : IntKind.i64.wrap ((T.held.length : Int) + (T.wait.length : Int)) = (T.held.length : Int) + (T.wait.length : Int) := by rw [IntKind.wrap_i64]; omega
 clear a8 b8
 go_enter Tryz.func104, Tryz.ntmps104
 go_wp2;go_ret
 exact ⟨rfl, HB.out⟩
set_option maxHeartbeats 2000000 in
theorem rKey_is (k n : Int) (w : World) : Calls Tryz.prog 55 #[.agg #[.int .i64 k, .int .i64 n]] w fun e w' => e = .returned (.bool (keyB (k, n))) ∧ Below w.heap.size w w' := by
 have HB := hideIt (below1 w (.cells #[.int .i64 k, .int .i64 n] 24));simp only [keyB, wiB]
 by_cases h1 : k = 1
 ·subst h1;rw [if_pos rfl]
  by_cases h : 1 ≤ n
  ·go_enter Tryz.func55, Tryz.ntmps55
   go_wp2;go_ret
   exact ⟨by simp [h], HB.out⟩
  ·go_enter Tryz.func55, Tryz.ntmps55
   go_wp2;go_ret
   exact ⟨by rw [decide_eq_false (by omega)]; rfl, HB.out⟩
 ·by_cases h2 : k = 2
  ·subst h2;rw [if_neg h1, if_pos rfl]
   by_cases h : 1 ≤ n
   ·go_enter Tryz.func55, Tryz.ntmps55
    go_wp2;go_ret
    exact ⟨by simp [h], HB.out⟩
   ·go_enter Tryz.func55, Tryz.ntmps55
    go_wp2;go_ret
    exact ⟨by rw [decide_eq_false (by omega)]; rfl, HB.out⟩
  ·rw [if_neg h1, if_neg h2]
   go_enter Tryz.func55, Tryz.ntmps55
   go_wp2;go_ret
   exact ⟨rfl, HB.out⟩
theorem put2 {wc : World} {b : Nat} {ty : TypeId} {z0 z1 : Value} (h : wc.heap[b]? = some (.cells #[z0, z1] ty (0, 0))) (v0 v1 : Value) :
  ((wc.setCell ⟨b, 0, none⟩ v0).setCell ⟨b, 1, none⟩ v1).heap[b]? = some (.cells #[v0, v1] ty (0, 0)) := heap_set (heap_set h 0 v0) 1 v1
structure B3 (w : World) (A B C : Obj) (wx : World) : Prop where
 b0 : wx.heap[w.heap.size]? = some A
 b1 : wx.heap[w.heap.size + 1]? = some B
 b2 : wx.heap[w.heap.size + 2]? = some C
 bel : Below w.heap.size w wx
 size : w.heap.size + 3 ≤ wx.heap.size
theorem B3.first (w : World) (A B C : Obj) : B3 w A B C (((w.alloc A).alloc B).alloc C) := by
 have h := three_heap w A B C
 exact ⟨h.1, h.2.1, h.2.2.1, below3 w A B C, by omega⟩
theorem B3.keep {w wx wy : World} {A B C : Obj} (h : B3 w A B C wx) (hb : Below wx.heap.size wx wy) : B3 w A B C wy :=
 ⟨(hb.block _ (by have := h.size; omega)).trans h.b0, (hb.block _ (by have := h.size; omega)).trans h.b1, (hb.block _ (by have := h.size; omega)).trans h.b2, below_via h.bel hb, Nat.le_trans h.size hb.size⟩
theorem B3.alloc {w wx : World} {A B C : Obj} (h : B3 w A B C wx) (o : Obj) : B3 w A B C (wx.alloc o) := h.keep (below1 wx o)
def hdT (l : List HoldV) (k : KeyV) : TxnV := match l.find? (fun h => h.1 == k) with | some h => h.2 | none => zT
theorem hd_hit {l : List HoldV} {t : Nat} {k : KeyV} (h : t < l.length) (hp : (l[t].1 == k) = true) : hdT (l.drop t) k = l[t].2 := by
 unfold hdT;rw [List.drop_eq_getElem_cons h, List.find?_cons_of_pos (p := fun h : HoldV => h.1 == k) hp]
theorem hd_miss {l : List HoldV} {t : Nat} {k : KeyV} (h : t < l.length) (hp : (l[t].1 == k) = false) : hdT (l.drop t) k = hdT (l.drop (t + 1)) k := by
 unfold hdT;rw [List.drop_eq_getElem_cons h, List.find?_cons_of_neg (p := fun h : HoldV => h.1 == k) (by simp [hp])]
set_option maxHeartbeats 4000000 in
set_option maxRecDepth 100000 in
theorem holder_is (T : TabV) (h v : Value) (k n : Int) (w : World) (hT : Tab w T h v) : Calls Tryz.prog 101 #[.agg #[h, v], .agg #[.int .i64 k, .int .i64 n]] w fun e w' => e = .returned (.agg #[.int .i64 (hdT T.held (k, n)).1, .int .i64 (hdT T.held (k, n)).2]) ∧ Below w.heap.size w w' := by
 obtain ⟨a, c, rfl, h8, hr⟩ := hT.held.hols;obtain ⟨va, vc, rfl⟩ := hT.wait.slice;have HH := hideIt hr;clear hT hr;generalize T.held = l at *;generalize T.wait.length = m at *;have X0 := hideIt (B3.first w (.cells #[.slice a l.length c, .slice va m vc] 125) (.cells #[.int .i64 k, .int .i64 n] 24) (.cells #[.int .i64 0, .int .i64 0] 129))
 go_enter Tryz.func101, Tryz.ntmps101
 go_wp2
 go_loopw [10] (fun v wr => ∃ t : Nat, v = .int .i64 t ∧ t ≤ l.length ∧ Hid (B3 w (.cells #[.slice a l.length c, .slice va m vc] 125) (.cells #[.int .i64 k, .int .i64 n] 24) (.cells #[.int .i64 0, .int .i64 0] 129) wr ∧ hdT l (k, n) = hdT (l.drop t) (k, n))) (fun v _ => l.length - (intOf v).toNat)
 case atStart => exact ⟨0, rfl, Nat.zero_le _, hideIt ⟨X0.out, by simp⟩⟩
 case round =>
  clear X0;obtain ⟨t, rfl, ht, HR⟩ := hrel;have X := hideIt HR.out.1
  by_cases hlt : t < l.length
  ·have hltI : (t : Int) < (l.length : Int) := by omega
   have ht0 : (0 : Int) ≤ (t : Int) := by omega
   have hw : IntKind.i64.wrap ((t : Int) + 1) = ((t + 1 : Nat) : Int) := by rw [IntKind.wrap_i64]; omega
   obtain ⟨b, off, rfl, hbl, q0, q1, q2, q3⟩ := HH.out t hlt;have hB := X.out.bel;have hblr : b < wr.heap.size := Nat.lt_of_lt_of_le hbl hB.size;have c0 := (hB.cell (p := ⟨b, off + t * 4, none⟩) hbl).trans q0;have c1 := (hB.cell (p := ⟨b, off + t * 4 + 1, none⟩) hbl).trans q1;have c2 := (hB.cell (p := ⟨b, off + t * 4 + 2, none⟩) hbl).trans q2;have c3 := (hB.cell (p := ⟨b, off + t * 4 + 3, none⟩) hbl).trans q3;have hs := X.out.size;have n1 : w.heap.size + 1 < wr.heap.size := by omega
   have n2 : w.heap.size + 1 + 1 < wr.heap.size := by omega
   have d0 : wr.cell? ⟨w.heap.size + 1, 0, none⟩ = some (.int .i64 k) := by rw [cell_at X.out.b1]; rfl
   have d1 : wr.cell? ⟨w.heap.size + 1, 1, none⟩ = some (.int .i64 n) := by rw [cell_at X.out.b1]; rfl
   have e0 : wr.cell? ⟨w.heap.size + 1 + 1, 0, none⟩ = some (.int .i64 0) := by rw [cell_at X.out.b2]; rfl
   have e1 : wr.cell? ⟨w.heap.size + 1 + 1, 1, none⟩ = some (.int .i64 0) := by rw [cell_at X.out.b2]; rfl
   have f0 : wr.frozen? ⟨w.heap.size + 1 + 1, 0, none⟩ = false := free_at X.out.b2 0;have f1 : wr.frozen? ⟨w.heap.size + 1 + 1, 1, none⟩ = false := free_at X.out.b2 1;clear q0 q1 q2 q3 hB hbl;cases hq : (l[t].1 == (k, n))
   ·have HF := hideIt (HR.out.2.trans (hd_miss hlt hq));clear HR HH;generalize l[t] = en at *;obtain ⟨⟨x, y⟩, ⟨z, u⟩⟩ := en;dsimp only at c0 c1 c2 c3 hq;have q1 : ∀ W, (binOp .eql 24 (.agg #[.int .i64 x, .int .i64 y]) (.agg #[.int .i64 k, .int .i64 n])).run Tryz.prog W = .ok (.bool false) W := fun W => by rw [eq26, hq]
    clear hq;go_wp2
    go_roundw
    case rel => exact ⟨t + 1, by go_num, by omega, hideIt ⟨X.out.alloc _, HF.out⟩⟩
    case measure => simp [intOf]; omega
   ·have HF := hideIt (HR.out.2.trans (hd_hit hlt hq));clear HR HH;generalize l[t] = en at *;obtain ⟨⟨x, y⟩, ⟨z, u⟩⟩ := en;dsimp only at c0 c1 c2 c3 hq HF;have q1 : ∀ W, (binOp .eql 24 (.agg #[.int .i64 x, .int .i64 y]) (.agg #[.int .i64 k, .int .i64 n])).run Tryz.prog W = .ok (.bool true) W := fun W => by rw [eq26, hq]
    clear hq;have P := hideIt ((heap_alloc_old ((wr.setCell ⟨w.heap.size + 1 + 1, 0, none⟩ (.int .i64 z)).setCell ⟨w.heap.size + 1 + 1, 1, none⟩ (.int .i64 u)) (.cells #[.int .i64 x, .int .i64 y, .int .i64 z, .int .i64 u] 166) (by simp; omega)).trans (put2 (b := w.heap.size + 1 + 1) X.out.b2 (.int .i64 z) (.int .i64 u)))
    go_wp2;exact bodyPost_ret (v := .agg #[.int .i64 z, .int .i64 u]) (by simp [results, Tryz.results101, go_sem, cell_at P.out]) rfl ⟨by rw [HF.out], (belowSet _ (belowSet _ X.out.bel (by omega)) (by omega)).alloc (by simp; omega) _⟩
  ·have hltI : ¬ (t : Int) < (l.length : Int) := by omega
   have HF : Hid (hdT l (k, n) = zT) := by
    show _ = _
    rw [HR.out.2, List.drop_eq_nil_of_le (by omega)]
    rfl
   have e0 : wr.cell? ⟨w.heap.size + 1 + 1, 0, none⟩ = some (.int .i64 0) := by rw [cell_at X.out.b2]; rfl
   have e1 : wr.cell? ⟨w.heap.size + 1 + 1, 1, none⟩ = some (.int .i64 0) := by rw [cell_at X.out.b2]; rfl
   have f0 : wr.frozen? ⟨w.heap.size + 1 + 1, 0, none⟩ = false := free_at X.out.b2 0;have f1 : wr.frozen? ⟨w.heap.size + 1 + 1, 1, none⟩ = false := free_at X.out.b2 1;have hs := X.out.size;have P := hideIt (put2 (b := w.heap.size + 1 + 1) X.out.b2 (.int .i64 0) (.int .i64 0));clear HR HH;go_wp2;exact bodyPost_ret (v := .agg #[.int .i64 0, .int .i64 0]) (by simp [results, Tryz.results101, go_sem, cell_at P.out]) rfl ⟨by rw [HF.out]; rfl, belowSet _ (belowSet _ X.out.bel (by omega)) (by omega)⟩
end Go.Proofs.YtiinigifjdpicaaGreatDoor.Se
namespace Go.Proofs.YtiinigifjdpicaaGreatDoor.Se
open Go.RowKit Go.Shelf
set_option linter.all false
attribute [local go_sem] Oper.semAt_some
def qL (l : List HoldV) (k : KeyV) : List TxnV := (l.filter (fun h => h.1 == k)).map (·.2)
theorem qL_hit {l : List HoldV} {t : Nat} {k : KeyV} (h : t < l.length) (hp : (l[t].1 == k) = true) : qL (l.take (t + 1)) k = qL (l.take t) k ++ [l[t].2] := by
 unfold qL;rw [List.take_succ_eq_append_getElem h, List.filter_append, List.map_append];simp only [List.filter_cons, hp, List.filter_nil, if_true, List.map_cons, List.map_nil]
theorem qL_miss {l : List HoldV} {t : Nat} {k : KeyV} (h : t < l.length) (hp : (l[t].1 == k) = false) : qL (l.take (t + 1)) k = qL (l.take t) k := by
 unfold qL;rw [List.take_succ_eq_append_getElem h, List.filter_append, List.map_append]
 simp [List.filter_cons, hp]
theorem qL_len (l : List HoldV) (k : KeyV) : (qL l k).length ≤ l.length := by
 unfold qL;rw [List.length_map];exact List.length_filter_le _ _
theorem qL_pre (l : List HoldV) (k : KeyV) (t : Nat) : qL (l.take t) k <+: qL l k := by
 unfold qL;exact ((List.take_prefix t l).filter _).map _
theorem Out.cell {F : Nat → Prop} {w w' : World} (h : Out F w w') {b : Nat} (hb : b < w.heap.size) (hn : ¬ F b) (i : Nat) : w'.cell? ⟨b, i, none⟩ = w.cell? ⟨b, i, none⟩ := by
 simp [World.cell?, h.block b hb hn]
set_option maxRecDepth 100000 in
set_option maxHeartbeats 4000000 in
theorem wait1_in (m l Bt Bk : Nat) (hm : 1 ≤ m) (F : Nat → Prop) (hs : List HoldV) (h : Value) (a : Option Addr) (c : Nat) (k n : Int) (J Jx : List TxnV → World → Prop)
  (hY : ∀ pre x W, J pre W → pre.length < hs.length → YieldAt Fence.wide (m - 1) Tryz.prog l #[.agg #[.int .i64 x.1, .int .i64 x.2]] W fun e W' =>
   (e = .returned (.bool true) ∧ J (pre ++ [x]) W' ∧ Out F W W') ∨ (e = .returned (.bool false) ∧ Jx (pre ++ [x]) W'))
  (W : World) (hJ : AbidesFrom W.heap.size J) (hBt : W.heap[Bt]? = some (.cells #[h, .slice a hs.length c] 125 (0, 0))) (hBk : W.heap[Bk]? = some (.cells #[.int .i64 k, .int .i64 n] 24 (0, 0))) (hF : ¬ F Bt ∧ ¬ F Bk)
  (h8 : hs.length * 32 ≤ 140737488355328) (hr : ∀ i (h : i < hs.length), ∃ b off, a = some ⟨b, off, none⟩ ∧ b < W.heap.size ∧ ¬ F b ∧ W.cell? ⟨b, off + i * 4, none⟩ = some (.int .i64 (hs[i]).1.1) ∧ W.cell? ⟨b, off + i * 4 + 1, none⟩ = some (.int .i64 (hs[i]).1.2) ∧ W.cell? ⟨b, off + i * 4 + 2, none⟩ = some (.int .i64 (hs[i]).2.1) ∧ W.cell? ⟨b, off + i * 4 + 3, none⟩ = some (.int .i64 (hs[i]).2.2)) (h0 : J [] W) :
  CallsIn Fence.wide m Tryz.prog 168 #[.func (.yield l) #[] #[], .pointer (some ⟨Bt, 0, none⟩), .pointer (some ⟨Bk, 0, none⟩)] W fun e W' => (∃ v, e = .returned v) ∧
   ((∃ ys, ys = qL hs (k, n) ∧ J ys W') ∨ (∃ pre, pre <+: qL hs (k, n) ∧ Jx pre W')) := by
 have HH := hideIt hr;have HB := hideIt hBk;have t1 : W.cell? ⟨Bt, 1, none⟩ = some (.slice a hs.length c) := by rw [cell_at hBt]; rfl
 have hkl := (Array.getElem?_eq_some_iff.1 hBk).1;have hFk := hF.2;clear hr hBt hF hBk;refine callsIn_of_wp Tryz.func168 rfl trivial ?_ rfl;simp only [Tryz.ntmps168, List.size_toArray, List.length_cons, List.length_nil, Nat.reduceAdd, Nat.reduceSub, Array.replicate_succ, Array.replicate_zero, List.push_toArray, List.append_toArray, List.nil_append, List.cons_append]
 gi_wp2
 gi_loopw [9] (fun i wr => ∃ t : Nat, i = .int .i64 t ∧ t ≤ hs.length ∧ J (qL (hs.take t) (k, n)) wr ∧ Hid (Out F W wr)) (fun i _ => hs.length - (intOf i).toNat)
 case atStart => exact ⟨0, rfl, Nat.zero_le _, by simpa [qL] using h0, hideIt (Out.refl _ _)⟩
 case round =>
  obtain ⟨t, rfl, ht, hJs, HO⟩ := hrel
  by_cases hlt : t < hs.length
  ·have hltI : (t : Int) < (hs.length : Int) := by omega
   have ht0 : (0 : Int) ≤ (t : Int) := by omega
   have hw : IntKind.i64.wrap ((t : Int) + 1) = ((t + 1 : Nat) : Int) := by rw [IntKind.wrap_i64]; omega
   obtain ⟨b, off, rfl, hbl, hFb, q0, q1, q2, q3⟩ := HH.out t hlt;have hblr : b < wr.heap.size := Nat.lt_of_lt_of_le hbl HO.out.size;have hkr : Bk < wr.heap.size := Nat.lt_of_lt_of_le hkl HO.out.size;have c0 := (HO.out.cell hbl hFb (off + t * 4)).trans q0;have c1 := (HO.out.cell hbl hFb (off + t * 4 + 1)).trans q1;have c2 := (HO.out.cell hbl hFb (off + t * 4 + 2)).trans q2;have c3 := (HO.out.cell hbl hFb (off + t * 4 + 3)).trans q3;have d0 : wr.cell? ⟨Bk, 0, none⟩ = some (.int .i64 k) := by rw [HO.out.cell hkl hFk, cell_at HB.out]; rfl
   have d1 : wr.cell? ⟨Bk, 1, none⟩ = some (.int .i64 n) := by rw [HO.out.cell hkl hFk, cell_at HB.out]; rfl
   clear q0 q1 q2 q3;cases hq : (hs[t].1 == (k, n))
   ·have HQ := hideIt (qL_miss hlt hq);clear HH HB hY;generalize hs[t] = en at *;obtain ⟨⟨x, y⟩, ⟨z, u⟩⟩ := en;dsimp only at c0 c1 c2 c3 hq;have q1 : ∀ W, (binOp .eql 24 (.agg #[.int .i64 x, .int .i64 y]) (.agg #[.int .i64 k, .int .i64 n])).run Tryz.prog W = .ok (.bool false) W := fun W => by rw [eq26, hq]
    clear hq;have hJ2 := hJ _ _ _ _ hJs (World.grownBy_alloc wr (.cells #[.int .i64 x, .int .i64 y, .int .i64 z, .int .i64 u] 166) none) (by simp);have HO2 := hideIt (HO.out.trans (Out.ofAlloc (F := F) wr (.cells #[.int .i64 x, .int .i64 y, .int .i64 z, .int .i64 u] 166)) (fun _ _ e => e))
    gi_wp2
    refine ⟨fun _ h => (by cases h), ?_⟩
    gi_wp2
    go_roundw
    case rel => exact ⟨t + 1, by go_num, by omega, by rw [HQ.out]; exact hJ2, HO2⟩
    case measure => simp [intOf]; omega
   ·have HQ := hideIt (qL_hit hlt hq);have hlen : (qL (hs.take t) (k, n)).length < hs.length := by
     have := qL_len (hs.take t) (k, n);rw [List.length_take] at this;omega
    clear HH HB;generalize hs[t] = en at *;obtain ⟨⟨x, y⟩, ⟨z, u⟩⟩ := en;dsimp only at c0 c1 c2 c3 hq HQ;have q1 : ∀ W, (binOp .eql 24 (.agg #[.int .i64 x, .int .i64 y]) (.agg #[.int .i64 k, .int .i64 n])).run Tryz.prog W = .ok (.bool true) W := fun W => by rw [eq26, hq]
    clear hq;have hJ2 := hJ _ _ _ _ hJs (World.grownBy_alloc wr (.cells #[.int .i64 x, .int .i64 y, .int .i64 z, .int .i64 u] 166) none) (by simp);have HO2 := hideIt (HO.out.trans (Out.ofAlloc (F := F) wr (.cells #[.int .i64 x, .int .i64 y, .int .i64 z, .int .i64 u] 166)) (fun _ _ e => e));have HP := hideIt (qL_pre hs (k, n) (t + 1));obtain ⟨fn, tmps, assign, body, hy, hR⟩ := hY _ (z, u) _ hJ2 hlen;dsimp only at hy;clear hJs hJ2 hY
    gi_wp2
    refine hR.mono ?_;rintro e W3 (⟨rfl, hJ3, hk3⟩ | ⟨rfl, hJx3⟩)
    ·have HO3 := hideIt (HO2.out.trans hk3 (fun _ _ e => e));clear hk3
     gi_wp2
     go_roundw
     case rel => exact ⟨t + 1, by go_num, by omega, by rw [HQ.out]; exact hJ3, HO3⟩
     case measure => simp [intOf]; omega
    ·gi_wp2
     refine bodyPost_ret (results_none rfl _ _ _) rfl ?_
     exact ⟨⟨_, rfl⟩, .inr ⟨_, by rw [← HQ.out]; exact HP.out, hJx3⟩⟩
  ·have hltI : ¬ (t : Int) < (hs.length : Int) := by omega
   have hE : hs.take t = hs := List.take_of_length_le (by omega);rw [hE] at hJs;clear HH HB hY
   gi_wp2
   go_end0
   exact ⟨⟨_, rfl⟩, .inl hJs⟩
set_option maxHeartbeats 2000000 in
theorem waiting_is (h v : Value) (k n : Int) (w : World) : Calls Tryz.prog 135 #[.agg #[h, v], .agg #[.int .i64 k, .int .i64 n]] w fun e w' => e = .returned (.func (.func 168) #[] #[.pointer (some ⟨w.heap.size, 0, none⟩), .pointer (some ⟨w.heap.size + 1, 0, none⟩)]) ∧ w' = (w.alloc (.cells #[h, v] 125)).alloc (.cells #[.int .i64 k, .int .i64 n] 24) := by
 go_enter Tryz.func135, Tryz.ntmps135
 go_wp2;go_ret
 exact ⟨rfl, rfl⟩
theorem wait_stops (m Bt Bk : Nat) (hm : 1 ≤ m) (F : Nat → Prop) (hs : List HoldV) (h : Value) (a : Option Addr) (c : Nat) (k n : Int) (w : World)
  (hBt : w.heap[Bt]? = some (.cells #[h, .slice a hs.length c] 125 (0, 0))) (hBk : w.heap[Bk]? = some (.cells #[.int .i64 k, .int .i64 n] 24 (0, 0))) (hF : ¬ F Bt ∧ ¬ F Bk) (hg : Hols w (.slice a hs.length c) hs)
  (hFs : ∀ b off, a = some ⟨b, off, none⟩ → b < w.heap.size → 0 < hs.length → ¬ F b) :
  SeqStopsK Fence.wide m Tryz.prog 168 #[.pointer (some ⟨Bt, 0, none⟩), .pointer (some ⟨Bk, 0, none⟩)] (fun x : TxnV => #[.agg #[.int .i64 x.1, .int .i64 x.2]]) (Out F) (fun ys => ys = qL hs (k, n)) (fun pre => pre <+: qL hs (k, n)) hs.length w := fun l J Jx W hW hJ _ hY h0 => by
 obtain ⟨a', c', e, h8, hr⟩ := hg.hols;simp only [Value.slice.injEq, true_and] at e;obtain ⟨rfl, rfl⟩ := e;refine wait1_in m l Bt Bk hm F hs h a c k n J Jx hY W hJ ((hW.block _ (Array.getElem?_eq_some_iff.1 hBt).1).trans hBt) ((hW.block _ (Array.getElem?_eq_some_iff.1 hBk).1).trans hBk) hF h8 (fun i hi => ?_) h0;obtain ⟨b, off, e, hbl, q0, q1, q2, q3⟩ := hr i hi
 exact ⟨b, off, e, Nat.lt_of_lt_of_le hbl hW.size, hFs b off e hbl (by omega), (hW.cell (p := ⟨b, off + i * 4, none⟩) hbl).trans q0, (hW.cell (p := ⟨b, off + i * 4 + 1, none⟩) hbl).trans q1, (hW.cell (p := ⟨b, off + i * 4 + 2, none⟩) hbl).trans q2, (hW.cell (p := ⟨b, off + i * 4 + 3, none⟩) hbl).trans q3⟩
end Go.Proofs.YtiinigifjdpicaaGreatDoor.Se
namespace Go.Proofs.YtiinigifjdpicaaGreatDoor.Se
open Go.RowKit Go.Shelf
set_option linter.all false
attribute [local go_sem] Oper.semAt_some
theorem allocs_at : ∀ (os : List Obj) (w : World), (os.foldl World.alloc w).heap.size = w.heap.size + os.length ∧ Below w.heap.size w (os.foldl World.alloc w) ∧ ∀ i, i < os.length → (os.foldl World.alloc w).heap[w.heap.size + i]? = os[i]?
 | [], w => ⟨rfl, Below.refl _ _, fun i h => absurd h (by simp)⟩
 | o :: os, w => by
  obtain ⟨h1, h2, h3⟩ := allocs_at os (w.alloc o);have hs : (w.alloc o).heap.size = w.heap.size + 1 := by simp
  rw [hs] at h1 h2 h3;refine ⟨by simp only [List.foldl_cons, List.length_cons]; omega, (below1 w o).trans ⟨h2.os, h2.tape, h2.output, h2.size, fun k hk => h2.block k (by omega)⟩, fun i hi => ?_⟩
  cases i with
  | zero =>
   rw [List.foldl_cons, Nat.add_zero, h2.block _ (by omega)];exact heap_alloc_new w o
  | succ i =>
   have := h3 i (by simpa using hi);rw [List.foldl_cons, List.getElem?_cons_succ, ← this, Nat.add_assoc, Nat.add_comm 1 i]
theorem kept_cells {B b : Nat} {X Y : World} {row : Option Nat} {cs : Array Value} {t : TypeId} (h : X.heap[b]? = some (.cells cs t (0, 0))) (hg : X.grownBy Y row) (hr : ∀ r, row = some r → B ≤ r ∧ ∃ o : Obj, X.heap[r]? = some o ∧ o.isCells = false) : Y.heap[b]? = some (.cells cs t (0, 0)) :=
 (hg.block b (Array.getElem?_eq_some_iff.1 h).1 (fun e => by
  obtain ⟨_, o, ho, hc⟩ := hr b e.symm;rw [h] at ho;cases ho;cases hc)).trans h
theorem putO {W : World} {D b : Nat} {o : Obj} {x : Option Obj} (h : W.heap[b]? = x) (hn : D ≠ b) : (W.putObj D o).heap[b]? = x := by
 rw [← h]
 simp [World.putObj, Array.getElem?_setIfInBounds, hn]
def FQ (x y s : Nat) (k : Nat) : Prop := k = x ∨ k = y ∨ s ≤ k
theorem outK_b {s x y : Nat} (W : World) (l : Nat) (o o' : Obj) (hl : s ≤ l) (_ : W.heap[l]? = some o) (_ : o.isCells = false) (_ : o.isWalk = false) : Out (FQ x y s) W (W.putObj l o') :=
 Out.ofGrown (grownBy_putObj' W l o') (fun k e => by cases e; exact .inr (.inr hl))
theorem outK_t {F : Nat → Prop} {A B C : World} (h : Out F A B) (k : Out F B C) : Out F A C := h.trans k (fun _ _ e => e)
structure QI (w : World) (s Q2 Q3 Q4 : Nat) (c q : Int) (pre : List TxnV) (W : World) : Prop where
 b2 : W.heap[Q2]? = some (.cells #[.int .i64 c, .int .i64 q] 129 (0, 0))
 b3 : W.heap[Q3]? = some (.cells #[.int .i64 (pre.length : Int)] 3 (0, 0))
 b4 : W.heap[Q4]? = some (.cells #[.int .i64 (pre.count (c, q) : Int)] 3 (0, 0))
 bel : Below w.heap.size w W
 siz : s ≤ W.heap.size
theorem QI.own {w : World} {s Q2 Q3 Q4 : Nat} {c q : Int} (hs : w.heap.size ≤ s) : OwnFrom s (fun pre W => QI w s Q2 Q3 Q4 c q pre W) := fun pre X Y row h hg hr =>
 ⟨kept_cells h.b2 hg hr, kept_cells h.b3 hg hr, kept_cells h.b4 hg hr, ownFrom_below (β := Unit) (B := s) (w₀ := w) (Nat.le_refl _) hs () X Y row h.bel hg hr, Nat.le_trans h.siz hg.size⟩
set_option maxRecDepth 100000 in
set_option maxHeartbeats 4000000 in
theorem queue_is (T : TabV) (h v : Value) (k n c q : Int) (w : World) (hT : Tab w T h v) : Calls Tryz.prog 102 #[.agg #[h, v], .agg #[.int .i64 k, .int .i64 n], .agg #[.int .i64 c, .int .i64 q]] w fun e w' => e = .returned (.tuple #[.int .i64 (qL T.wait (k, n)).length, .int .i64 ((qL T.wait (k, n)).count (c, q))]) ∧ Below w.heap.size w w' := by
 obtain ⟨hd, hs⟩ := T;dsimp only;have HW := hideIt (fun h v W => waiting_is h v k n W);refine (callsIn_wide (n := 5)).1 ?_;refine callsIn_of_wp_marks Tryz.func102 rfl trivial ?_ rfl;simp only [Tryz.ntmps102, List.size_toArray, List.length_cons, List.length_nil, Nat.reduceAdd, Nat.reduceSub, Array.replicate_succ, Array.replicate_zero, List.push_toArray, List.append_toArray, List.nil_append, List.cons_append]
 gi_wp2_with (refine ⟨trivial, ?_⟩; gi_at_call 135; refine (callsIn_wide.2 (HW.out _ _ _)).mono ?_; rintro e w' ⟨rfl, rfl⟩)
 clear HW;obtain ⟨va, vc, rfl⟩ := hT.wait.slice;obtain ⟨hsz, hbel, hat⟩ := allocs_at [.cells #[h, .slice va hs.length vc] 125, .cells #[.int .i64 k, .int .i64 n] 24, .cells #[.int .i64 c, .int .i64 q] 129, .cells #[.int .i64 0] 3, .cells #[.int .i64 0] 3, .cells #[h, .slice va hs.length vc] 125, .cells #[.int .i64 k, .int .i64 n] 24] w;simp only [List.foldl_cons, List.foldl_nil, List.length_cons, List.length_nil] at hsz hbel hat;have g2 := hat 2 (by omega);have g3 := hat 3 (by omega);have g4 := hat 4 (by omega);have g5 := hat 5 (by omega);have g6 := hat 6 (by omega);clear hat;generalize ((((((w.alloc (.cells #[h, .slice va hs.length vc] 125)).alloc (.cells #[.int .i64 k, .int .i64 n] 24)).alloc (.cells #[.int .i64 c, .int .i64 q] 129)).alloc (.cells #[.int .i64 0] 3)).alloc (.cells #[.int .i64 0] 3)).alloc (.cells #[h, .slice va hs.length vc] 125)).alloc (.cells #[.int .i64 k, .int .i64 n] 24) = W0 at *;have hW := (hT.keep hbel).wait;have hw8 := hT.wait.1;have hvb := hT.wait.blk;clear hT;dsimp only at hW hw8 hvb;simp only [List.getElem?_cons_zero, List.getElem?_cons_succ] at g2 g3 g4 g5 g6;rw [show w.heap.size + 2 = w.heap.size + 1 + 1 from rfl] at g2;rw [show w.heap.size + 3 = w.heap.size + 1 + 1 + 1 from rfl] at g3;rw [show w.heap.size + 4 = w.heap.size + 1 + 1 + 1 + 1 from rfl] at g4;rw [show w.heap.size + 5 = w.heap.size + 1 + 1 + 1 + 1 + 1 from rfl] at g5;rw [show w.heap.size + 6 = w.heap.size + 1 + 1 + 1 + 1 + 1 + 1 from rfl] at g6;have HN : Hid (∃ Q0 Q1 Q2 Q3 Q4 Q5 Q6, Q0 = w.heap.size ∧ Q1 = w.heap.size + 1 ∧ Q2 = w.heap.size + 1 + 1 ∧ Q3 = w.heap.size + 1 + 1 + 1 ∧ Q4 = w.heap.size + 1 + 1 + 1 + 1 ∧ Q5 = w.heap.size + 1 + 1 + 1 + 1 + 1 ∧ Q6 = w.heap.size + 1 + 1 + 1 + 1 + 1 + 1) := ⟨_, _, _, _, _, _, _, rfl, rfl, rfl, rfl, rfl, rfl, rfl⟩;obtain ⟨Q0, Q1, Q2, Q3, Q4, Q5, Q6, e0, e1, e2, e3, e4, e5, e6⟩ := HN.out;clear HN;rw [← e6] at g6;rw [← e5] at g5;rw [← e4] at g4;rw [← e3] at g3;rw [← e2] at g2;rw [← e6, ← e5, ← e4, ← e3, ← e2, ← e1];have l2 : w.heap.size ≤ Q2 := by omega
 have l3 : Q2 < Q3 := by omega
 have l4 : Q3 < Q4 := by omega
 have l5 : Q4 < Q5 := by omega
 have l6 : Q5 < Q6 := by omega
 have l7 : Q6 < W0.heap.size := by omega
 clear e0 e1 e2 e3 e4 e5 e6 hsz;refine wpIn_rangeFunc_ownH rfl (by omega) (gf := 168) (lb := #[.pointer (some ⟨Q5, 0, none⟩), .pointer (some ⟨Q6, 0, none⟩)]) rfl trivial (enters_of Tryz.func168 (by kernel_rfl) rfl)
  (wait_stops (5 - 1) Q5 Q6 (by omega) (FQ Q3 Q4 W0.heap.size) hs h va vc k n W0 g5 g6 (by unfold FQ; omega) hW (fun b off e hb hp => by have := hvb hp b off e; unfold FQ; omega)) outK_t outK_b (Below.refl _ _) (fun _ => rfl)
  (fun pre W => QI w W0.heap.size Q2 Q3 Q4 c q pre W) (fun _ _ _ => False) (QI.own (by omega)) (fun _ _ _ _ _ hs _ _ => hs) ⟨g2, g3, g4, hbel, Nat.le_refl _⟩
  (fun x a' W => ∃ Bx, W0.heap.size ≤ Bx ∧ W.heap[Bx]? = some (.cells #[.int .i64 x.1, .int .i64 x.2] 129 (0, 0)) ∧ a' = { tmps := #[.agg #[h, .slice va hs.length vc], .agg #[.int .i64 k, .int .i64 n], .agg #[.int .i64 c, .int .i64 q], .pointer (some ⟨w.heap.size, 0, none⟩), .pointer (some ⟨Q1, 0, none⟩), .pointer (some ⟨Q2, 0, none⟩), .pointer (some ⟨Q3, 0, none⟩), .pointer (some ⟨Q4, 0, none⟩), .pointer (some ⟨Bx, 0, none⟩), .agg #[h, .slice va hs.length vc], .agg #[.int .i64 k, .int .i64 n], .func (.func 168) #[] #[.pointer (some ⟨Q5, 0, none⟩), .pointer (some ⟨Q6, 0, none⟩)], .agg #[.int .i64 x.1, .int .i64 x.2], undef, undef, undef, undef, undef, undef, undef, undef, undef], defers := [] })
  (fun x a' _ X Y row hs hg hr => by obtain ⟨Bx, h1, h2, h3⟩ := hs; exact ⟨Bx, h1, kept_cells h2 hg hr, h3⟩)
  ?assign ?body ?done ?stop
 case assign =>
  rintro l pre x W K hI hK
  gi_wp2
  exact hK _ _ ((KeepsOthers.alloc _ _).from _) (Out.ofAlloc _ _) ((QI.own (by omega)).alloc _ hI) ⟨W.heap.size, hI.siz, heap_alloc_new W _, rfl⟩
 case body =>
  rintro l pre ⟨xc, xq⟩ a' W hl ⟨r, hr⟩ hI ⟨Bx, hBx, bX, rfl⟩ hlt;have bl := hI.bel;have c2 : W.cell? ⟨Q2, 0, none⟩ = some (.int .i64 c) := by rw [cell_at hI.b2]; rfl
  have c2' : W.cell? ⟨Q2, 1, none⟩ = some (.int .i64 q) := by rw [cell_at hI.b2]; rfl
  have c3 : W.cell? ⟨Q3, 0, none⟩ = some (.int .i64 (pre.length : Int)) := by rw [cell_at hI.b3]; rfl
  have c4 : W.cell? ⟨Q4, 0, none⟩ = some (.int .i64 (pre.count (c, q) : Int)) := by rw [cell_at hI.b4]; rfl
  have cX : W.cell? ⟨Bx, 0, none⟩ = some (.int .i64 xc) := by rw [cell_at bX]; rfl
  have cX' : W.cell? ⟨Bx, 1, none⟩ = some (.int .i64 xq) := by rw [cell_at bX]; rfl
  have f3 := free_at hI.b3 0;have f4 := free_at hI.b4 0;have HI := hideIt hI;have HX := hideIt bX;have hw3 : IntKind.i64.wrap ((pre.length : Int) + 1) = (pre.length : Int) + 1 := by rw [IntKind.wrap_i64]; omega
  have hcl : pre.count (c, q) ≤ pre.length := List.count_le_length;have hw4 : IntKind.i64.wrap ((pre.count (c, q) : Int) + 1) = (pre.count (c, q) : Int) + 1 := by rw [IntKind.wrap_i64]; omega
  have m2 : Q2 ≠ Q3 := by omega
  have m4 : Q4 ≠ Q3 := by omega
  have mX : Bx ≠ Q3 := by omega
  clear hI bX hr hlt bl hcl hW hw8 hvb g2 g3 g4 g5 g6;cases hq : ((xc, xq) == (c, q))
  ·have q1 : ∀ W, (binOp .eql 129 (.agg #[.int .i64 xc, .int .i64 xq]) (.agg #[.int .i64 c, .int .i64 q])).run Tryz.prog W = .ok (.bool false) W := fun W => by rw [eq28, hq]
   have e3 : ((pre ++ [(xc, xq)]).length : Int) = (pre.length : Int) + 1 := by simp
   have e4 : (pre ++ [(xc, xq)]).count (c, q) = pre.count (c, q) := by rw [List.count_append, List.count_singleton, hq]; simp
   have HG : Hid (QI w W0.heap.size Q2 Q3 Q4 c q (pre ++ [(xc, xq)]) (W.setCell ⟨Q3, 0, none⟩ (.int .i64 ((pre.length : Int) + 1)))) := ⟨setOther _ HI.out.b2 m2, by rw [e3]; exact heap_set HI.out.b3 0 _, by rw [e4]; exact setOther _ HI.out.b4 m4, belowSet _ HI.out.bel (by omega), by simpa using HI.out.siz⟩
   clear hq e3 e4
   gi_wp2
   exact ⟨(KeepsOthers.setCell _ _ _).from _, Out.ofSet _ _ _ (.inl rfl), HG.out⟩
  ·have q1 : ∀ W, (binOp .eql 129 (.agg #[.int .i64 xc, .int .i64 xq]) (.agg #[.int .i64 c, .int .i64 q])).run Tryz.prog W = .ok (.bool true) W := fun W => by rw [eq28, hq]
   have e3 : ((pre ++ [(xc, xq)]).length : Int) = (pre.length : Int) + 1 := by simp
   have e4 : ((pre ++ [(xc, xq)]).count (c, q) : Int) = (pre.count (c, q) : Int) + 1 := by rw [List.count_append, List.count_singleton, hq]; simp
   have HG : Hid (QI w W0.heap.size Q2 Q3 Q4 c q (pre ++ [(xc, xq)]) ((W.setCell ⟨Q3, 0, none⟩ (.int .i64 ((pre.length : Int) + 1))).setCell ⟨Q4, 0, none⟩ (.int .i64 ((pre.count (c, q) : Int) + 1)))) := ⟨setOther _ (setOther _ HI.out.b2 m2) (by omega), by rw [e3]; exact setOther _ (heap_set HI.out.b3 0 _) m4.symm, by rw [e4]; exact heap_set (setOther _ HI.out.b4 m4) 0 _, belowSet _ (belowSet _ HI.out.bel (by omega)) (by omega), by simpa using HI.out.siz⟩
   clear hq e3 e4
   gi_wp2
   exact ⟨((KeepsOthers.setCell _ _ _).trans (KeepsOthers.setCell _ _ _)).from _, outK_t (Out.ofSet _ _ _ (.inl rfl)) (Out.ofSet _ _ _ (.inr (.inl rfl))), HG.out⟩
 case done =>
  rintro D xs W hD rfl hI hK
  gi_wp2
  have c3 : W.cell? ⟨Q3, 0, none⟩ = some (.int .i64 ((qL hs (k, n)).length : Int)) := by rw [cell_at hI.b3]; rfl
  have c4 : W.cell? ⟨Q4, 0, none⟩ = some (.int .i64 ((qL hs (k, n)).count (c, q) : Int)) := by rw [cell_at hI.b4]; rfl
  have f3 := free_at hI.b3 0;have f4 := free_at hI.b4 0;have nD3 : D ≠ Q3 := by omega
  have nD4 : D ≠ Q4 := by omega
  have r4 := heap_set (setOther (b := Q3) (j := 0) (.int .i64 ((qL hs (k, n)).length : Int)) hI.b4 (by omega)) 0 (.int .i64 ((qL hs (k, n)).count (c, q) : Int));have r3 := setOther (b := Q4) (j := 0) (.int .i64 ((qL hs (k, n)).count (c, q) : Int)) (heap_set hI.b3 0 (.int .i64 ((qL hs (k, n)).length : Int))) (by omega);have rD := setOther (b := Q4) (j := 0) (.int .i64 ((qL hs (k, n)).count (c, q) : Int)) (setOther (b := Q3) (j := 0) (.int .i64 ((qL hs (k, n)).length : Int)) hK nD3) nD4;have rb := belowSet (j := 0) (.int .i64 ((qL hs (k, n)).count (c, q) : Int)) (belowSet (j := 0) (.int .i64 ((qL hs (k, n)).length : Int)) hI.bel (b := Q3) (by omega)) (b := Q4) (by omega)
  gi_region
  gi_wp2
  refine ⟨by simp, .inl ⟨_, _, rfl, run_takeDeferred rD, ?_⟩⟩;have p3 := putO (o := .deferred none) (W := (((W.setCell ⟨Q3, 0, none⟩ (.int .i64 ((qL hs (k, n)).length : Int))).setCell ⟨Q4, 0, none⟩ (.int .i64 ((qL hs (k, n)).count (c, q) : Int))).drew)) r3 nD3;have p4 := putO (o := .deferred none) (W := (((W.setCell ⟨Q3, 0, none⟩ (.int .i64 ((qL hs (k, n)).length : Int))).setCell ⟨Q4, 0, none⟩ (.int .i64 ((qL hs (k, n)).count (c, q) : Int))).drew)) r4 nD4;refine ⟨.tuple #[.int .i64 ((qL hs (k, n)).length : Int), .int .i64 ((qL hs (k, n)).count (c, q) : Int)], by simp [results, Tryz.results102, go_sem, cell_at p3, cell_at p4], rfl, ?_⟩;exact rb.drew.trans (belowK_b (w := w) (Nat.le_refl _) _ D _ _ (by omega) rD rfl rfl)
 case stop =>
  rintro D c pre W _ _ h _;exact h.elim
def holB (h : HoldV) : Bool := keyB h.1 && namB h.2
theorem all_drop {α : Type} {l : List α} {p : α → Bool} {t : Nat} (h : t < l.length) : (l.drop t).all p = (p l[t] && (l.drop (t + 1)).all p) := by
 rw [List.drop_eq_getElem_cons h, List.all_cons]
theorem any_drop {α : Type} {l : List α} {p : α → Bool} {t : Nat} (h : t < l.length) : (l.drop t).any p = (p l[t] || (l.drop (t + 1)).any p) := by
 rw [List.drop_eq_getElem_cons h, List.any_cons]
set_option maxHeartbeats 4000000 in
set_option maxRecDepth 100000 in
theorem areHolds_is (v : Value) (l : List HoldV) (w : World) (h : Hols w v l) : Calls Tryz.prog 164 #[v] w fun e w' => e = .returned (.bool (l.all holB)) ∧ Below w.heap.size w w' := by
 obtain ⟨a, c, rfl, h8, hr⟩ := h.hols;have HH := hideIt hr;clear hr h;have HK := hideIt (fun k n W => isKey_is k n W);have HN := hideIt (fun k n W => isName_is k n W)
 go_enter Tryz.func164, Tryz.ntmps164
 go_wp2
 go_loopw [7] (fun v wr => ∃ t : Nat, v = .int .i64 t ∧ t ≤ l.length ∧ Hid (Below w.heap.size w wr ∧ l.all holB = (l.drop t).all holB)) (fun v _ => l.length - (intOf v).toNat)
 case atStart => exact ⟨0, rfl, Nat.zero_le _, hideIt ⟨Below.refl _ _, by simp⟩⟩
 case round =>
  obtain ⟨t, rfl, ht, HR⟩ := hrel
  by_cases hlt : t < l.length
  ·have hltI : (t : Int) < (l.length : Int) := by omega
   have ht0 : (0 : Int) ≤ (t : Int) := by omega
   have hw : IntKind.i64.wrap ((t : Int) + 1) = ((t + 1 : Nat) : Int) := by rw [IntKind.wrap_i64]; omega
   have hB := HR.out.1;obtain ⟨b, off, rfl, hbl, q0, q1, q2, q3⟩ := HH.out t hlt;have hblr : b < wr.heap.size := Nat.lt_of_lt_of_le hbl hB.size;have c0 := (hB.cell (p := ⟨b, off + t * 4, none⟩) hbl).trans q0;have c1 := (hB.cell (p := ⟨b, off + t * 4 + 1, none⟩) hbl).trans q1;have c2 := (hB.cell (p := ⟨b, off + t * 4 + 2, none⟩) hbl).trans q2;have c3 := (hB.cell (p := ⟨b, off + t * 4 + 3, none⟩) hbl).trans q3;clear q0 q1 q2 q3;have HD := hideIt (HR.out.2.trans (all_drop hlt));clear HR HH;generalize l[t] = en at *;obtain ⟨⟨x, y⟩, ⟨z, u⟩⟩ := en;dsimp only at c0 c1 c2 c3;have HB2 := hideIt (below_via hB (below1 wr (.cells #[.int .i64 x, .int .i64 y, .int .i64 z, .int .i64 u] 166)));have H4 := hideIt (heap_alloc_new wr (.cells #[.int .i64 x, .int .i64 y, .int .i64 z, .int .i64 u] 166));have HC := hideIt (HK.out x y (wr.alloc (.cells #[.int .i64 x, .int .i64 y, .int .i64 z, .int .i64 u] 166)));have HC2 := hideIt (fun W => HN.out z u W);clear hB HK HN;cases hk : keyB (x, y)
   ·rw [hk] at HC;have HE : Hid (holB ((x, y), (z, u)) = false) := by
     show holB _ = _
     simp [holB, hk]
    clear hk
    go_wp2_with fail
    refine HC.out.mono ?_;rintro e w1 ⟨rfl, hb⟩;dsimp only;have HB3 := hideIt (below_via HB2.out hb);clear hb;go_wp2;go_ret
    exact ⟨by rw [HD.out, HE.out]; rfl, HB3.out⟩
   ·rw [hk] at HC;cases hn : namB (z, u)
    ·rw [hn] at HC2;have HE : Hid (holB ((x, y), (z, u)) = false) := by
      show holB _ = _
      simp [holB, hk, hn]
     clear hk hn
     go_wp2_with fail
     refine HC.out.mono ?_;rintro e w1 ⟨rfl, hb⟩;dsimp only;have HB3 := hideIt (below_via HB2.out hb);have H5 := hideIt ((hb.block _ (by simp)).trans H4.out);have d2 : w1.cell? ⟨wr.heap.size, 2, none⟩ = some (.int .i64 z) := by rw [cell_at H5.out]; rfl
     have d3 : w1.cell? ⟨wr.heap.size, 3, none⟩ = some (.int .i64 u) := by rw [cell_at H5.out]; rfl
     clear hb HC
     go_wp2_with fail
     refine (HC2.out _).mono ?_;rintro e w2 ⟨rfl, hb⟩;dsimp only;have HB4 := hideIt (below_via HB3.out hb);clear hb;go_wp2;go_ret
     exact ⟨by rw [HD.out, HE.out]; rfl, HB4.out⟩
    ·rw [hn] at HC2;have HE : Hid (holB ((x, y), (z, u)) = true) := by
      show holB _ = _
      simp [holB, hk, hn]
     clear hk hn
     go_wp2_with fail
     refine HC.out.mono ?_;rintro e w1 ⟨rfl, hb⟩;dsimp only;have HB3 := hideIt (below_via HB2.out hb);have H5 := hideIt ((hb.block _ (by simp)).trans H4.out);have d2 : w1.cell? ⟨wr.heap.size, 2, none⟩ = some (.int .i64 z) := by rw [cell_at H5.out]; rfl
     have d3 : w1.cell? ⟨wr.heap.size, 3, none⟩ = some (.int .i64 u) := by rw [cell_at H5.out]; rfl
     clear hb HC
     go_wp2_with fail
     refine (HC2.out _).mono ?_;rintro e w2 ⟨rfl, hb⟩;dsimp only;have HB4 := hideIt (below_via HB3.out hb);clear hb;go_wp2
     go_roundw
     case rel => exact ⟨t + 1, by go_num, by omega, hideIt ⟨HB4.out, by rw [HD.out, HE.out]; rfl⟩⟩
     case measure => simp [intOf]; omega
  ·have hltI : ¬ (t : Int) < (l.length : Int) := by omega
   have HF : Hid (l.all holB = true) := by
    show _ = _
    rw [HR.out.2, List.drop_eq_nil_of_le (by omega)]
    rfl
   have HB := hideIt HR.out.1;clear HR HH HK HN;go_wp2;go_ret
   exact ⟨by rw [HF.out]; rfl, HB.out⟩
def twB : List HoldV → List HoldV → Bool
 | _, [] => false
 | pre, h :: t => pre.any (fun a => a.1 == h.1) || twB (pre ++ [h]) t
theorem tw_at {l : List HoldV} {t : Nat} (h : t < l.length) : twB (l.take t) (l.drop t) = ((l.take t).any (fun a => a.1 == l[t].1) || twB (l.take (t + 1)) (l.drop (t + 1))) := by
 rw [List.drop_eq_getElem_cons h, twB, List.take_succ_eq_append_getElem h]
theorem B1.cells {w wx : World} {p q : Value} (h : wx.heap[w.heap.size]? = some (.cells #[p, q] 125 (0, 0))) : wx.cell? ⟨w.heap.size, 0, none⟩ = some p ∧ wx.cell? ⟨w.heap.size, 1, none⟩ = some q := ⟨by rw [cell_at h]; rfl, by rw [cell_at h]; rfl⟩
set_option maxHeartbeats 4000000 in
set_option maxRecDepth 100000 in
theorem twice_is (T : TabV) (h v : Value) (w : World) (hT : Tab w T h v) : Calls Tryz.prog 165 #[.agg #[h, v]] w fun e w' => e = .returned (.bool (twB [] T.held)) ∧ Below w.heap.size w w' := by
 obtain ⟨a, c, rfl, h8, hr⟩ := hT.held.hols;have hcap := hT.held.cap;have hm : maxLen = 9223372036854775807 := by decide
 rw [hm] at hcap;obtain ⟨va, vc, rfl⟩ := hT.wait.slice;have HH := hideIt hr;clear hT hr;generalize T.held = l at *;generalize T.wait.length = m at *;have HB0 := hideIt (below1 w (.cells #[.slice a l.length c, .slice va m vc] 125));have HX0 := hideIt (heap_alloc_new w (.cells #[.slice a l.length c, .slice va m vc] 125))
 go_enter Tryz.func165, Tryz.ntmps165
 go_wp2
 go_loopw [10] (fun v wr => ∃ t : Nat, v = .int .i64 t ∧ t ≤ l.length ∧ Hid (Below w.heap.size w wr ∧ wr.heap[w.heap.size]? = some (.cells #[.slice a l.length c, .slice va m vc] 125 (0, 0)) ∧ twB [] l = twB (l.take t) (l.drop t))) (fun v _ => l.length - (intOf v).toNat)
 case atStart => exact ⟨0, rfl, Nat.zero_le _, hideIt ⟨HB0.out, HX0.out, by simp⟩⟩
 case round =>
  clear HB0 HX0;obtain ⟨t, rfl, ht, HR⟩ := hrel
  by_cases hlt : t < l.length
  ·have hltI : (t : Int) < (l.length : Int) := by omega
   have ht0 : (0 : Int) ≤ (t : Int) := by omega
   have hw : IntKind.i64.wrap ((t : Int) + 1) = ((t + 1 : Nat) : Int) := by rw [IntKind.wrap_i64]; omega
   have hB := HR.out.1;have x0 := (B1.cells HR.out.2.1).1;have hsz : w.heap.size < wr.heap.size := (Array.getElem?_eq_some_iff.1 HR.out.2.1).1;have htc : (t : Int) ≤ (c : Int) := by omega
   have HHk := HH;obtain ⟨b, off, rfl, hbl, q0, q1, q2, q3⟩ := HH.out t hlt;have hblr : b < wr.heap.size := Nat.lt_of_lt_of_le hbl hB.size;have c0 := (hB.cell (p := ⟨b, off + t * 4, none⟩) hbl).trans q0;have c1 := (hB.cell (p := ⟨b, off + t * 4 + 1, none⟩) hbl).trans q1;have c2 := (hB.cell (p := ⟨b, off + t * 4 + 2, none⟩) hbl).trans q2;have c3 := (hB.cell (p := ⟨b, off + t * 4 + 3, none⟩) hbl).trans q3;clear q0 q1 q2 q3;have HD := hideIt (HR.out.2.2.trans (tw_at hlt));have HX := hideIt ((below1 wr (.cells (holE l[t]).toArray 166)).block _ hsz |>.trans HR.out.2.1);have HB1 := hideIt (below_via hB (below1 wr (.cells (holE l[t]).toArray 166)));have HN := hideIt (heap_alloc_new wr (.cells (holE l[t]).toArray 166));unfold holE at HX HB1 HN;generalize hen : l[t] = en at *;obtain ⟨⟨x, y⟩, ⟨z, u⟩⟩ := en;dsimp only at c0 c1 c2 c3 HX HB1 HN;clear HR hen HH;go_wp2;generalize wr.alloc (.cells #[.int .i64 x, .int .i64 y, .int .i64 z, .int .i64 u] 166) = W1 at *;generalize wr.heap.size = K at *
   go_loopw [20] (fun v wi => ∃ j : Nat, v = .int .i64 j ∧ j ≤ t ∧ Hid (Below W1.heap.size W1 wi ∧ (l.take t).any (fun a => a.1 == (x, y)) = ((l.take t).drop j).any (fun a => a.1 == (x, y)))) (fun v _ => t - (intOf v).toNat)
   case atStart => exact ⟨0, rfl, Nat.zero_le _, hideIt ⟨Below.refl _ _, by simp⟩⟩
   case round =>
    obtain ⟨j, rfl, hj, HJ⟩ := hrel;have HB2 := hideIt (below_via HB1.out HJ.out.1);have HX2 := hideIt ((HJ.out.1.block _ (Array.getElem?_eq_some_iff.1 HX.out).1).trans HX.out);have HN2 := hideIt ((HJ.out.1.block _ (Array.getElem?_eq_some_iff.1 HN.out).1).trans HN.out)
    by_cases hjl : j < t
    ·have hjI : (j : Int) < (t : Int) := by omega
     have hj0 : (0 : Int) ≤ (j : Int) := by omega
     have hwj : IntKind.i64.wrap ((j : Int) + 1) = ((j + 1 : Nat) : Int) := by rw [IntKind.wrap_i64]; omega
     obtain ⟨b', off', e, -, p0, p1, p2, p3⟩ := HHk.out j (by omega);simp only [Option.some.injEq, Addr.mk.injEq, and_true] at e;obtain ⟨rfl, rfl⟩ := e;have hB2 := HB2.out;have hblr : b < wr.heap.size := Nat.lt_of_lt_of_le hbl hB2.size;have d0 := (hB2.cell (p := ⟨b, off + j * 4, none⟩) hbl).trans p0;have d1 := (hB2.cell (p := ⟨b, off + j * 4 + 1, none⟩) hbl).trans p1;have d2 := (hB2.cell (p := ⟨b, off + j * 4 + 2, none⟩) hbl).trans p2;have d3 := (hB2.cell (p := ⟨b, off + j * 4 + 3, none⟩) hbl).trans p3;have hkl : K < wr.heap.size := (Array.getElem?_eq_some_iff.1 HN2.out).1;have k0 : wr.cell? ⟨K, 0, none⟩ = some (.int .i64 x) := by rw [cell_at HN2.out]; rfl
     have k1 : wr.cell? ⟨K, 1, none⟩ = some (.int .i64 y) := by rw [cell_at HN2.out]; rfl
     have hjl2 : j < (l.take t).length := by rw [List.length_take]; omega
     have HA := hideIt (HJ.out.2.trans (any_drop hjl2));have hg : (l.take t)[j] = l[j]'(by omega) := List.getElem_take;rw [hg] at HA;have HB5 := hideIt HJ.out.1;clear p0 p1 p2 p3 hB2 HJ HHk c0 c1 c2 c3 x0 hg hjl2 hB;generalize l[j]'(by omega) = em at *;obtain ⟨⟨x', y'⟩, ⟨z', u'⟩⟩ := em;dsimp only at d0 d1 d2 d3 HA;cases hq : ((x', y') == (x, y))
     ·have q1 : ∀ W, (binOp .eql 24 (.agg #[.int .i64 x', .int .i64 y']) (.agg #[.int .i64 x, .int .i64 y])).run Tryz.prog W = .ok (.bool false) W := fun W => by rw [eq26, hq]
      rw [hq, Bool.false_or] at HA;clear hq;go_wp2
      go_roundw
      case rel => exact ⟨j + 1, by go_num, by omega, hideIt ⟨below_via HB5.out (below1 _ _), HA.out⟩⟩
      case measure => simp [intOf]; omega
     ·have q1 : ∀ W, (binOp .eql 24 (.agg #[.int .i64 x', .int .i64 y']) (.agg #[.int .i64 x, .int .i64 y])).run Tryz.prog W = .ok (.bool true) W := fun W => by rw [eq26, hq]
      rw [hq, Bool.true_or] at HA;have HF := hideIt HD.out;rw [HA.out, Bool.true_or] at HF;clear hq;go_wp2;go_ret
      exact ⟨by rw [HF.out]; rfl, below_via HB2.out (below1 _ _)⟩
    ·have hjI : ¬ (j : Int) < (t : Int) := by omega
     have HA : Hid ((l.take t).any (fun a => a.1 == (x, y)) = false) := by
      show _ = _
      rw [HJ.out.2, List.drop_eq_nil_of_le (by rw [List.length_take]; omega)]
      rfl
     have HF := hideIt HD.out;rw [HA.out, Bool.false_or] at HF;clear HJ HHk c0 c1 c2 c3 x0 hB;go_wp2
     go_roundw
     case rel => exact ⟨t + 1, by go_num, by omega, hideIt ⟨HB2.out, HX2.out, HF.out⟩⟩
     case measure => simp [intOf]; omega
  ·have hltI : ¬ (t : Int) < (l.length : Int) := by omega
   have HF : Hid (twB [] l = false) := by
    show _ = _
    rw [HR.out.2.2, List.drop_eq_nil_of_le (by omega)]
    rfl
   have HB := hideIt HR.out.1;clear HR HH;go_wp2;go_ret
   exact ⟨by rw [HF.out]; rfl, HB.out⟩
end Go.Proofs.YtiinigifjdpicaaGreatDoor.Se
