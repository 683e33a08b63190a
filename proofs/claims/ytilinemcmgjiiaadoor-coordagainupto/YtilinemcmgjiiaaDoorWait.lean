/- Who waits for a key: the function that goes along them. -/
import Derived.RangeFuncNested
import Derived.RangeFuncBound
import Derived.RangeFuncCalls
import Derived.RangeFuncLeaves
import Derived.Shelf.Abstract
import Derived.Shelf.RegionOpen
import Derived.OwnWalkIn
import Derived.TacticsInMore
import Derived.LoopNIn
import Derived.LoopIn
import Derived.Test.YtilinemcmgjiiaaDoorHold
namespace Go.Proofs.YtilinemcmgjiiaaDoor
open Go.RowKit Go.Shelf
set_option linter.all false
attribute [local go_sem] Oper.semAt_some
/-- Who waits for a key, in the order in which they came. -/
def qL (l : List HoldV) (k : KeyV) : List TxnV := (l.filter (fun h => h.1 == k)).map (·.2)
theorem qL_hit {l : List HoldV} {t : Nat} {k : KeyV} (h : t < l.length) (hp : (l[t].1 == k) = true) : qL (l.take (t + 1)) k = qL (l.take t) k ++ [l[t].2] := by
  unfold qL
  rw [List.take_succ_eq_append_getElem h, List.filter_append, List.map_append]
  simp only [List.filter_cons, hp, List.filter_nil, if_true, List.map_cons, List.map_nil]
theorem qL_miss {l : List HoldV} {t : Nat} {k : KeyV} (h : t < l.length) (hp : (l[t].1 == k) = false) : qL (l.take (t + 1)) k = qL (l.take t) k := by
  unfold qL
  rw [List.take_succ_eq_append_getElem h, List.filter_append, List.map_append]
  simp [List.filter_cons, hp]
theorem qL_len (l : List HoldV) (k : KeyV) : (qL l k).length ≤ l.length := by
  unfold qL
  rw [List.length_map]
  exact List.length_filter_le _ _
theorem qL_pre (l : List HoldV) (k : KeyV) (t : Nat) : qL (l.take t) k <+: qL l k := by
  unfold qL
  exact ((List.take_prefix t l).filter _).map _
theorem Out.cell {F : Nat → Prop} {w w' : World} (h : Out F w w') {b : Nat} (hb : b < w.heap.size) (hn : ¬ F b) (i : Nat) : w'.cell? ⟨b, i, none⟩ = w.cell? ⟨b, i, none⟩ := by
  simp [World.cell?, h.block b hb hn]
set_option maxRecDepth 100000 in
set_option maxHeartbeats 4000000 in
theorem wait1_in (m l Bt Bk : Nat) (hm : 1 ≤ m) (F : Nat → Prop) (hs : List HoldV) (h : Value) (a : Option Addr) (c : Nat) (k n : Int) (J Jx : List TxnV → World → Prop)
    (hY : ∀ pre x W, J pre W → pre.length < hs.length → YieldAt Fence.wide (m - 1) Tryd.prog l #[.agg #[.int .i64 x.1, .int .i64 x.2]] W fun e W' =>
      (e = .returned (.bool true) ∧ J (pre ++ [x]) W' ∧ Out F W W') ∨ (e = .returned (.bool false) ∧ Jx (pre ++ [x]) W'))
    (W : World) (hJ : AbidesFrom W.heap.size J) (hBt : W.heap[Bt]? = some (.cells #[h, .slice a hs.length c] 140 (0, 0))) (hBk : W.heap[Bk]? = some (.cells #[.int .i64 k, .int .i64 n] 37 (0, 0))) (hF : ¬ F Bt ∧ ¬ F Bk)
    (h8 : hs.length * 32 ≤ 140737488355328) (hr : ∀ i (h : i < hs.length), ∃ b off, a = some ⟨b, off, none⟩ ∧ b < W.heap.size ∧ ¬ F b ∧ W.cell? ⟨b, off + i * 4, none⟩ = some (.int .i64 (hs[i]).1.1) ∧ W.cell? ⟨b, off + i * 4 + 1, none⟩ = some (.int .i64 (hs[i]).1.2) ∧ W.cell? ⟨b, off + i * 4 + 2, none⟩ = some (.int .i64 (hs[i]).2.1) ∧ W.cell? ⟨b, off + i * 4 + 3, none⟩ = some (.int .i64 (hs[i]).2.2)) (h0 : J [] W) :
    CallsIn Fence.wide m Tryd.prog 93 #[.func (.yield l) #[] #[], .pointer (some ⟨Bt, 0, none⟩), .pointer (some ⟨Bk, 0, none⟩)] W fun e W' => (∃ v, e = .returned v) ∧
      ((∃ ys, ys = qL hs (k, n) ∧ J ys W') ∨ (∃ pre, pre <+: qL hs (k, n) ∧ Jx pre W')) := by
  have HH := hideIt hr
  have HB := hideIt hBk
  have t1 : W.cell? ⟨Bt, 1, none⟩ = some (.slice a hs.length c) := by rw [cell_at hBt]; rfl
  have hkl := (Array.getElem?_eq_some_iff.1 hBk).1
  have hFk := hF.2
  clear hr hBt hF hBk
  refine callsIn_of_wp Tryd.func93 rfl trivial ?_ rfl
  simp only [Tryd.ntmps93, List.size_toArray, List.length_cons, List.length_nil, Nat.reduceAdd, Nat.reduceSub, Array.replicate_succ, Array.replicate_zero, List.push_toArray, List.append_toArray, List.nil_append, List.cons_append]
  gi_wp2
  gi_loopw [9] (fun i wr => ∃ t : Nat, i = .int .i64 t ∧ t ≤ hs.length ∧ J (qL (hs.take t) (k, n)) wr ∧ Hid (Out F W wr)) (fun i _ => hs.length - (intOf i).toNat)
  case atStart => exact ⟨0, rfl, Nat.zero_le _, by simpa [qL] using h0, hideIt (Out.refl _ _)⟩
  case round =>
    obtain ⟨t, rfl, ht, hJs, HO⟩ := hrel
    by_cases hlt : t < hs.length
    · have hltI : (t : Int) < (hs.length : Int) := by omega
      have ht0 : (0 : Int) ≤ (t : Int) := by omega
      have hw : IntKind.i64.wrap ((t : Int) + 1) = ((t + 1 : Nat) : Int) := by rw [IntKind.wrap_i64]; omega
      obtain ⟨b, off, rfl, hbl, hFb, q0, q1, q2, q3⟩ := HH.out t hlt
      have hblr : b < wr.heap.size := Nat.lt_of_lt_of_le hbl HO.out.size
      have hkr : Bk < wr.heap.size := Nat.lt_of_lt_of_le hkl HO.out.size
      have c0 := (HO.out.cell hbl hFb (off + t * 4)).trans q0
      have c1 := (HO.out.cell hbl hFb (off + t * 4 + 1)).trans q1
      have c2 := (HO.out.cell hbl hFb (off + t * 4 + 2)).trans q2
      have c3 := (HO.out.cell hbl hFb (off + t * 4 + 3)).trans q3
      have d0 : wr.cell? ⟨Bk, 0, none⟩ = some (.int .i64 k) := by rw [HO.out.cell hkl hFk, cell_at HB.out]; rfl
      have d1 : wr.cell? ⟨Bk, 1, none⟩ = some (.int .i64 n) := by rw [HO.out.cell hkl hFk, cell_at HB.out]; rfl
      clear q0 q1 q2 q3
      cases hq : (hs[t].1 == (k, n))
      · have HQ := hideIt (qL_miss hlt hq)
        clear HH HB hY
        generalize hs[t] = en at *
        obtain ⟨⟨x, y⟩, ⟨z, u⟩⟩ := en
        dsimp only at c0 c1 c2 c3 hq
        have q1 : ∀ W, (binOp .eql 37 (.agg #[.int .i64 x, .int .i64 y]) (.agg #[.int .i64 k, .int .i64 n])).run Tryd.prog W = .ok (.bool false) W := fun W => by rw [eq26, hq]
        clear hq
        have hJ2 := hJ _ _ _ _ hJs (World.grownBy_alloc wr (.cells #[.int .i64 x, .int .i64 y, .int .i64 z, .int .i64 u] 155) none) (by simp)
        have HO2 := hideIt (HO.out.trans (Out.ofAlloc (F := F) wr (.cells #[.int .i64 x, .int .i64 y, .int .i64 z, .int .i64 u] 155)) (fun _ _ e => e))
        gi_wp2
        refine ⟨fun _ h => (by cases h), ?_⟩
        gi_wp2
        go_roundw
        case rel => exact ⟨t + 1, by go_num, by omega, by rw [HQ.out]; exact hJ2, HO2⟩
        case measure => simp [intOf]; omega
      · have HQ := hideIt (qL_hit hlt hq)
        have hlen : (qL (hs.take t) (k, n)).length < hs.length := by
          have := qL_len (hs.take t) (k, n)
          rw [List.length_take] at this
          omega
        clear HH HB
        generalize hs[t] = en at *
        obtain ⟨⟨x, y⟩, ⟨z, u⟩⟩ := en
        dsimp only at c0 c1 c2 c3 hq HQ
        have q1 : ∀ W, (binOp .eql 37 (.agg #[.int .i64 x, .int .i64 y]) (.agg #[.int .i64 k, .int .i64 n])).run Tryd.prog W = .ok (.bool true) W := fun W => by rw [eq26, hq]
        clear hq
        have hJ2 := hJ _ _ _ _ hJs (World.grownBy_alloc wr (.cells #[.int .i64 x, .int .i64 y, .int .i64 z, .int .i64 u] 155) none) (by simp)
        have HO2 := hideIt (HO.out.trans (Out.ofAlloc (F := F) wr (.cells #[.int .i64 x, .int .i64 y, .int .i64 z, .int .i64 u] 155)) (fun _ _ e => e))
        have HP := hideIt (qL_pre hs (k, n) (t + 1))
        obtain ⟨fn, tmps, assign, body, hy, hR⟩ := hY _ (z, u) _ hJ2 hlen
        dsimp only at hy
        clear hJs hJ2 hY
        gi_wp2
        refine hR.mono ?_
        rintro e W3 (⟨rfl, hJ3, hk3⟩ | ⟨rfl, hJx3⟩)
        · have HO3 := hideIt (HO2.out.trans hk3 (fun _ _ e => e))
          clear hk3
          gi_wp2
          go_roundw
          case rel => exact ⟨t + 1, by go_num, by omega, by rw [HQ.out]; exact hJ3, HO3⟩
          case measure => simp [intOf]; omega
        · gi_wp2
          refine bodyPost_ret (results_none rfl _ _ _) rfl ?_
          exact ⟨⟨_, rfl⟩, .inr ⟨_, by rw [← HQ.out]; exact HP.out, hJx3⟩⟩
    · have hltI : ¬ (t : Int) < (hs.length : Int) := by omega
      have hE : hs.take t = hs := List.take_of_length_le (by omega)
      rw [hE] at hJs
      clear HH HB hY
      gi_wp2
      go_end0
      exact ⟨⟨_, rfl⟩, .inl hJs⟩
set_option maxHeartbeats 2000000 in
theorem waiting_is (h v : Value) (k n : Int) (w : World) : Calls Tryd.prog 88 #[.agg #[h, v], .agg #[.int .i64 k, .int .i64 n]] w fun e w' => e = .returned (.func (.func 93) #[] #[.pointer (some ⟨w.heap.size, 0, none⟩), .pointer (some ⟨w.heap.size + 1, 0, none⟩)]) ∧ w' = (w.alloc (.cells #[h, v] 140)).alloc (.cells #[.int .i64 k, .int .i64 n] 37) := by
  go_enter Tryd.func88, Tryd.ntmps88
  go_wp2
  go_ret
  exact ⟨rfl, rfl⟩
theorem wait_stops (m Bt Bk : Nat) (hm : 1 ≤ m) (F : Nat → Prop) (hs : List HoldV) (h : Value) (a : Option Addr) (c : Nat) (k n : Int) (w : World)
    (hBt : w.heap[Bt]? = some (.cells #[h, .slice a hs.length c] 140 (0, 0))) (hBk : w.heap[Bk]? = some (.cells #[.int .i64 k, .int .i64 n] 37 (0, 0))) (hF : ¬ F Bt ∧ ¬ F Bk) (hg : Hols w (.slice a hs.length c) hs)
    (hFs : ∀ b off, a = some ⟨b, off, none⟩ → b < w.heap.size → 0 < hs.length → ¬ F b) :
    SeqStopsK Fence.wide m Tryd.prog 93 #[.pointer (some ⟨Bt, 0, none⟩), .pointer (some ⟨Bk, 0, none⟩)] (fun x : TxnV => #[.agg #[.int .i64 x.1, .int .i64 x.2]]) (Out F) (fun ys => ys = qL hs (k, n)) (fun pre => pre <+: qL hs (k, n)) hs.length w := fun l J Jx W hW hJ _ hY h0 => by
  obtain ⟨a', c', e, h8, hr⟩ := hg.hols
  simp only [Value.slice.injEq, true_and] at e
  obtain ⟨rfl, rfl⟩ := e
  refine wait1_in m l Bt Bk hm F hs h a c k n J Jx hY W hJ ((hW.block _ (Array.getElem?_eq_some_iff.1 hBt).1).trans hBt) ((hW.block _ (Array.getElem?_eq_some_iff.1 hBk).1).trans hBk) hF h8 (fun i hi => ?_) h0
  obtain ⟨b, off, e, hbl, q0, q1, q2, q3⟩ := hr i hi
  exact ⟨b, off, e, Nat.lt_of_lt_of_le hbl hW.size, hFs b off e hbl (by omega), (hW.cell (p := ⟨b, off + i * 4, none⟩) hbl).trans q0, (hW.cell (p := ⟨b, off + i * 4 + 1, none⟩) hbl).trans q1, (hW.cell (p := ⟨b, off + i * 4 + 2, none⟩) hbl).trans q2, (hW.cell (p := ⟨b, off + i * 4 + 3, none⟩) hbl).trans q3⟩
end Go.Proofs.YtilinemcmgjiiaaDoor
