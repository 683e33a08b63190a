/- A coordinator on its way through the laws' bodies. -/
import Derived.Test.YtilinemcmgjiiaaDoorOp
import Derived.Test.YtilinemcmgjiiaaDoorEn
import Derived.Great.BuildSlice
import Derived.Test.YtilinemcmgjiiaaDoorHp
import Derived.Test.YtilinemcmgjiiaaDoorBg
import Derived.Test.YtilinemcmgjiiaaDoorRows
import Derived.Test.YtilinemcmgjiiaaDoorFit
import Derived.ProofKit
import Derived.LaidMore
import Derived.OpenShut
import Derived.Stop.Joined
import Derived.Below
import Derived.ChangeOld
import Derived.SizedLaws
import Derived.BigQuiet
namespace Go.Proofs.YtilinemcmgjiiaaDoor
open Go.RowKit
set_option linter.all false
set_option maxHeartbeats 4000000 in
theorem puts_req (W : World) (mb : Nat) (g p3 c1 q1 p1 p2 rk ra rl rs rd rp rn rkk rkn rt : Int) (ro : Bool) (h : W.heap[mb]? = some (.cells #[.int .i64 0, .int .i64 g, .int .i64 p3, .int .i64 c1, .int .i64 q1, .int .i64 p1, .int .i64 p2, .int .i64 0, .int .i64 0, .int .i64 0, .int .i64 0, .int .i64 0, .int .i64 0, .int .i64 0, .bool false, .int .i64 0, .int .i64 0, .int .i64 0, .bool false, .int .i64 0, .int .i64 0, .slice none 0 0, .slice none 0 0, .slice none 0 0] 47 (0, 0))) : ((((((((((((W.setCell ⟨mb, 0, none⟩ (.int .i64 2)).setCell ⟨mb, 7, none⟩ (.int .i64 rk)).setCell ⟨mb, 8, none⟩ (.int .i64 ra)).setCell ⟨mb, 9, none⟩ (.int .i64 rl)).setCell ⟨mb, 10, none⟩ (.int .i64 rs)).setCell ⟨mb, 11, none⟩ (.int .i64 rd)).setCell ⟨mb, 12, none⟩ (.int .i64 rp)).setCell ⟨mb, 13, none⟩ (.int .i64 rn)).setCell ⟨mb, 14, none⟩ (.bool ro)).setCell ⟨mb, 15, none⟩ (.int .i64 rkk)).setCell ⟨mb, 16, none⟩ (.int .i64 rkn)).setCell ⟨mb, 17, none⟩ (.int .i64 rt)).heap[mb]? = some (.cells #[.int .i64 2, .int .i64 g, .int .i64 p3, .int .i64 c1, .int .i64 q1, .int .i64 p1, .int .i64 p2, .int .i64 rk, .int .i64 ra, .int .i64 rl, .int .i64 rs, .int .i64 rd, .int .i64 rp, .int .i64 rn, .bool ro, .int .i64 rkk, .int .i64 rkn, .int .i64 rt, .bool false, .int .i64 0, .int .i64 0, .slice none 0 0, .slice none 0 0, .slice none 0 0] 47 (0, 0)) ∧ Out (fun k => k = mb) W ((((((((((((W.setCell ⟨mb, 0, none⟩ (.int .i64 2)).setCell ⟨mb, 7, none⟩ (.int .i64 rk)).setCell ⟨mb, 8, none⟩ (.int .i64 ra)).setCell ⟨mb, 9, none⟩ (.int .i64 rl)).setCell ⟨mb, 10, none⟩ (.int .i64 rs)).setCell ⟨mb, 11, none⟩ (.int .i64 rd)).setCell ⟨mb, 12, none⟩ (.int .i64 rp)).setCell ⟨mb, 13, none⟩ (.int .i64 rn)).setCell ⟨mb, 14, none⟩ (.bool ro)).setCell ⟨mb, 15, none⟩ (.int .i64 rkk)).setCell ⟨mb, 16, none⟩ (.int .i64 rkn)).setCell ⟨mb, 17, none⟩ (.int .i64 rt)) := by
  have h0 := And.intro h (Out.refl (fun k => k = mb) W)
  have h1 := putS h0 0 (.int .i64 2) (cs' := #[.int .i64 2, .int .i64 g, .int .i64 p3, .int .i64 c1, .int .i64 q1, .int .i64 p1, .int .i64 p2, .int .i64 0, .int .i64 0, .int .i64 0, .int .i64 0, .int .i64 0, .int .i64 0, .int .i64 0, .bool false, .int .i64 0, .int .i64 0, .int .i64 0, .bool false, .int .i64 0, .int .i64 0, .slice none 0 0, .slice none 0 0, .slice none 0 0]) rfl
  have h2 := putS h1 7 (.int .i64 rk) (cs' := #[.int .i64 2, .int .i64 g, .int .i64 p3, .int .i64 c1, .int .i64 q1, .int .i64 p1, .int .i64 p2, .int .i64 rk, .int .i64 0, .int .i64 0, .int .i64 0, .int .i64 0, .int .i64 0, .int .i64 0, .bool false, .int .i64 0, .int .i64 0, .int .i64 0, .bool false, .int .i64 0, .int .i64 0, .slice none 0 0, .slice none 0 0, .slice none 0 0]) rfl
  have h3 := putS h2 8 (.int .i64 ra) (cs' := #[.int .i64 2, .int .i64 g, .int .i64 p3, .int .i64 c1, .int .i64 q1, .int .i64 p1, .int .i64 p2, .int .i64 rk, .int .i64 ra, .int .i64 0, .int .i64 0, .int .i64 0, .int .i64 0, .int .i64 0, .bool false, .int .i64 0, .int .i64 0, .int .i64 0, .bool false, .int .i64 0, .int .i64 0, .slice none 0 0, .slice none 0 0, .slice none 0 0]) rfl
  have h4 := putS h3 9 (.int .i64 rl) (cs' := #[.int .i64 2, .int .i64 g, .int .i64 p3, .int .i64 c1, .int .i64 q1, .int .i64 p1, .int .i64 p2, .int .i64 rk, .int .i64 ra, .int .i64 rl, .int .i64 0, .int .i64 0, .int .i64 0, .int .i64 0, .bool false, .int .i64 0, .int .i64 0, .int .i64 0, .bool false, .int .i64 0, .int .i64 0, .slice none 0 0, .slice none 0 0, .slice none 0 0]) rfl
  have h5 := putS h4 10 (.int .i64 rs) (cs' := #[.int .i64 2, .int .i64 g, .int .i64 p3, .int .i64 c1, .int .i64 q1, .int .i64 p1, .int .i64 p2, .int .i64 rk, .int .i64 ra, .int .i64 rl, .int .i64 rs, .int .i64 0, .int .i64 0, .int .i64 0, .bool false, .int .i64 0, .int .i64 0, .int .i64 0, .bool false, .int .i64 0, .int .i64 0, .slice none 0 0, .slice none 0 0, .slice none 0 0]) rfl
  have h6 := putS h5 11 (.int .i64 rd) (cs' := #[.int .i64 2, .int .i64 g, .int .i64 p3, .int .i64 c1, .int .i64 q1, .int .i64 p1, .int .i64 p2, .int .i64 rk, .int .i64 ra, .int .i64 rl, .int .i64 rs, .int .i64 rd, .int .i64 0, .int .i64 0, .bool false, .int .i64 0, .int .i64 0, .int .i64 0, .bool false, .int .i64 0, .int .i64 0, .slice none 0 0, .slice none 0 0, .slice none 0 0]) rfl
  have h7 := putS h6 12 (.int .i64 rp) (cs' := #[.int .i64 2, .int .i64 g, .int .i64 p3, .int .i64 c1, .int .i64 q1, .int .i64 p1, .int .i64 p2, .int .i64 rk, .int .i64 ra, .int .i64 rl, .int .i64 rs, .int .i64 rd, .int .i64 rp, .int .i64 0, .bool false, .int .i64 0, .int .i64 0, .int .i64 0, .bool false, .int .i64 0, .int .i64 0, .slice none 0 0, .slice none 0 0, .slice none 0 0]) rfl
  have h8 := putS h7 13 (.int .i64 rn) (cs' := #[.int .i64 2, .int .i64 g, .int .i64 p3, .int .i64 c1, .int .i64 q1, .int .i64 p1, .int .i64 p2, .int .i64 rk, .int .i64 ra, .int .i64 rl, .int .i64 rs, .int .i64 rd, .int .i64 rp, .int .i64 rn, .bool false, .int .i64 0, .int .i64 0, .int .i64 0, .bool false, .int .i64 0, .int .i64 0, .slice none 0 0, .slice none 0 0, .slice none 0 0]) rfl
  have h9 := putS h8 14 (.bool ro) (cs' := #[.int .i64 2, .int .i64 g, .int .i64 p3, .int .i64 c1, .int .i64 q1, .int .i64 p1, .int .i64 p2, .int .i64 rk, .int .i64 ra, .int .i64 rl, .int .i64 rs, .int .i64 rd, .int .i64 rp, .int .i64 rn, .bool ro, .int .i64 0, .int .i64 0, .int .i64 0, .bool false, .int .i64 0, .int .i64 0, .slice none 0 0, .slice none 0 0, .slice none 0 0]) rfl
  have h10 := putS h9 15 (.int .i64 rkk) (cs' := #[.int .i64 2, .int .i64 g, .int .i64 p3, .int .i64 c1, .int .i64 q1, .int .i64 p1, .int .i64 p2, .int .i64 rk, .int .i64 ra, .int .i64 rl, .int .i64 rs, .int .i64 rd, .int .i64 rp, .int .i64 rn, .bool ro, .int .i64 rkk, .int .i64 0, .int .i64 0, .bool false, .int .i64 0, .int .i64 0, .slice none 0 0, .slice none 0 0, .slice none 0 0]) rfl
  have h11 := putS h10 16 (.int .i64 rkn) (cs' := #[.int .i64 2, .int .i64 g, .int .i64 p3, .int .i64 c1, .int .i64 q1, .int .i64 p1, .int .i64 p2, .int .i64 rk, .int .i64 ra, .int .i64 rl, .int .i64 rs, .int .i64 rd, .int .i64 rp, .int .i64 rn, .bool ro, .int .i64 rkk, .int .i64 rkn, .int .i64 0, .bool false, .int .i64 0, .int .i64 0, .slice none 0 0, .slice none 0 0, .slice none 0 0]) rfl
  have h12 := putS h11 17 (.int .i64 rt) (cs' := #[.int .i64 2, .int .i64 g, .int .i64 p3, .int .i64 c1, .int .i64 q1, .int .i64 p1, .int .i64 p2, .int .i64 rk, .int .i64 ra, .int .i64 rl, .int .i64 rs, .int .i64 rd, .int .i64 rp, .int .i64 rn, .bool ro, .int .i64 rkk, .int .i64 rkn, .int .i64 rt, .bool false, .int .i64 0, .int .i64 0, .slice none 0 0, .slice none 0 0, .slice none 0 0]) rfl
  exact h12
theorem wpList_moveK {w : World} {ops : Array Oper} {rest : List Oper} {o : Oper} {a : Act} {Q : Exit → Act → World → Prop} (hgd : o.guard = none) (x : Operand) (ho : o.op = .move x) (h : wpList Tryd.prog ops Q rest (a.put o.dst (a.eval x)) w) : wpList Tryd.prog ops Q (o :: rest) a w := by
  refine wpList_plain hgd fun K hK => ?_
  unfold Oper.wp execOp
  simp only [ho, Sem.run_bind, Sem.run_pure, Result.andThen_ok]
  exact hK _ _ h
set_option maxRecDepth 100000 in
set_option maxHeartbeats 8000000 in
theorem wpList_buildMes {w : World} {ops : Array Oper} {rest : List Oper} {o : Oper} {a : Act} {Q : Exit → Act → World → Prop} (hg : o.guard = none) (x : Operand) (ho : o.op = .buildSlice 53 1 #[(0, x)]) (m : MesX) (hx : a.eval x = .agg (mesE m).toArray) (h : wpList Tryd.prog ops Q rest (a.put o.dst (.slice (some ⟨w.heap.size, 0, none⟩) 1 1)) (w.alloc (.cells (mesE m).toArray 47))) : wpList Tryd.prog ops Q (o :: rest) a w := by
  obtain ⟨ie, hie, hz0, hz1, hz2⟩ := info_parts infoMes
  refine wpList_buildSlice hg _ 47 1 #[(0, x)] ho (mesE m).toArray ie _ Tryd.underlying53 hie hz0 (by rw [hz1]; decide) (by rw [hz1]; decide) ?_ h
  rw [hz1]
  simp only [List.map_toArray, List.map_cons, List.map_nil, hx]
  obtain ⟨kind, frm, dst, c, q, k, n, ⟨rk, ra, rl, rs, rd, rp, rn, ro, ⟨rkk, rkn⟩, rt⟩, yes, ⟨⟨code, num, am, fl⟩, aa, ac, fa, fc⟩, cx, ca, cc⟩ := m
  simp only [mesE, reqC, AnsX.am, AnsX.fl, List.cons_append, List.nil_append]
  kernel_rfl
theorem own_outN {F : Nat → Prop} {wa wb : World} {B : Nat} {e : TypeId} {z : Nat} {v : Value} {n : Nat} {xs : List Value} (h : wa.ownsRow B e z v n xs) (ho : Out F wa wb) (hF : ∀ k, v.ownBlock = some k → ¬ F k) : wb.ownsRow B e z v n xs := by
  obtain ⟨h1, hn | ⟨g, cap, cur, rfl, hb, hg, rest⟩⟩ := h
  · exact ⟨h1, .inl hn⟩
  · exact ⟨h1, .inr ⟨g, cap, cur, rfl, hb, (ho.block g (Array.getElem?_eq_some_iff.1 hg).1 (hF g rfl)).trans hg, rest⟩⟩
theorem blkO {F : Nat → Prop} {wa wb : World} {k : Nat} {x : Obj} (h : wa.heap[k]? = some x) (ho : Out F wa wb) (hF : ¬ F k) : wb.heap[k]? = some x := (ho.block k (Array.getElem?_eq_some_iff.1 h).1 hF).trans h
theorem OS.out {w wx w' : World} {g : Int} {a : Option Addr} {n cp mb : Nat} {v : Value} {zs : List MesX} (h : OS w g a n cp wx v zs) (ho : Out (fun k => k = mb) wx w') (hv : ∀ k, v.ownBlock = some k → k < mb) (hw : w.heap.size < mb) : OS w g a n cp w' v zs := ⟨own_outN h.row ho (fun k hk e => by have := hv k hk; omega), below_out h.bel ho (fun k hk => by omega), blkO h.box ho (by omega)⟩
theorem out_take (l : List TraV) (t : Nat) (h : t < l.length) : outL (l.take (t + 1)) = outL (l.take t) ++ outQ l[t] l[t].ps := by
  unfold outL
  rw [List.take_succ_eq_append_getElem h]
  simp only [List.flatMap_append, List.flatMap_cons, List.flatMap_nil, List.append_nil]
theorem outQ_take (x : TraV) (ps : List PeeV) (j : Nat) (h : j < ps.length) : outQ x (ps.take (j + 1)) = outQ x (ps.take j) ++ outP x ps[j] := by
  unfold outQ
  rw [List.take_succ_eq_append_getElem h]
  simp only [List.flatMap_append, List.flatMap_cons, List.flatMap_nil, List.append_nil]
set_option maxHeartbeats 16000000 in
set_option maxRecDepth 100000 in
theorem out_is (g : Int) (a : Option Addr) (cp : Nat) (l : List TraX) (w : World) (h : Trs w (.slice a l.length cp) l) (hsz : cntL (l.map TraX.v) ≤ 100000) : Calls Tryd.prog 12 #[.agg #[.int .i64 g, .slice a l.length cp]] w (OutBack (l.map TraX.v) w) := by
  have HAT := hideIt h.at_
  obtain ⟨a', c', e, h8, hr⟩ := h.cells
  simp only [Value.slice.injEq, true_and] at e
  obtain ⟨rfl, rfl⟩ := e
  have HH := hideIt hr
  have X1 := hideIt (heap_alloc_new w (.cells #[.int .i64 g, .slice a l.length cp] 25))
  have B1 := hideIt (below1 w (.cells #[.int .i64 g, .slice a l.length cp] 25))
  have HT : Hid (∀ t (ht : t < l.length), outL ((l.map TraX.v).take (t + 1)) = outL ((l.map TraX.v).take t) ++ outQ l[t].v l[t].ps ∧ cntL ((l.map TraX.v).take t) + l[t].ps.length ≤ 100000) := fun t ht => by
    have ht2 : t < (l.map TraX.v).length := by simpa using ht
    have h1 := out_take _ t ht2
    have h2 := cnt_take _ t ht2
    rw [List.getElem_map] at h1 h2
    exact ⟨h1, Nat.le_trans h2 hsz⟩
  have HF : Hid ((l.map TraX.v).take l.length = l.map TraX.v) := by show _ = _; rw [List.take_of_length_le (by simp)]
  clear h hr
  go_enter Tryd.func12, Tryd.ntmps12
  go_upto_region 2 with fail
  generalize w.alloc (.cells #[.int .i64 g, .slice a l.length cp] 25) = W0 at *
  obtain ⟨⟨c0, c1⟩, cf, cz⟩ := at2 X1.out
  go_wp2
  clear c0 c1 cf cz
  go_loopg [3, 12] l.length (fun gg s3 s12 wx => ∃ (t : Nat) (zs : List MesX), t + gg = l.length ∧ s12 = .int .i64 t ∧ Hid (OS w g a l.length cp wx s3 zs ∧ zs.map mkey = outL ((l.map TraX.v).take t)))
  case atStart => exact ⟨0, [], by omega, rfl, ⟨⟨own_nil _ _, B1.out, X1.out⟩, rfl⟩⟩
  case round =>
    obtain ⟨t, zs, htg, rfl, HR⟩ := hrel
    cases gk with
    | zero =>
      have hltI : ¬ (t : Int) < (l.length : Int) := by omega
      have het : t = l.length := by omega
      subst het
      obtain ⟨va, vc, rfl⟩ := own_len HR.out.1.row
      have hz := outL_len (l.map TraX.v)
      have hkey := HR.out.2
      rw [HF.out] at hkey
      have hzl : zs.length ≤ 100000 := by
        have := congrArg List.length hkey
        rw [List.length_map] at this
        omega
      have HFin : Hid (OutBack (l.map TraX.v) w (.returned (.slice va zs.length vc)) wr) := ⟨va, vc, zs, rfl, hkey, HR.out.1.row, by omega, HR.out.1.bel⟩
      clear HR hkey hz hzl HF HT HAT HH X1 B1
      go_wp2
      go_ret
      exact HFin.out
    | succ gg =>
      have hlt : t < l.length := by omega
      have hltI : (t : Int) < (l.length : Int) := by omega
      have ht0 : (0 : Int) ≤ (t : Int) := by omega
      have hw : IntKind.i64.wrap ((t : Int) + 1) = ((t + 1 : Nat) : Int) := by rw [IntKind.wrap_i64]; omega
      obtain ⟨b, off, rfl, hgl, hq⟩ := HH.out t hlt
      have hbw := HR.out.1.bel
      have hgr : b < wr.heap.size := Nat.lt_of_lt_of_le hgl hbw.size
      have HS := hideIt (HT.out t hlt)
      have HA := hideIt (HAT.out l[t] (List.getElem_mem hlt))
      have hc : ∀ j v, (traE l[t])[j]? = some v → wr.cell? ⟨b, off + t * 21 + j, none⟩ = some v := fun j v hv => (hbw.cell (p := ⟨b, off + t * 21 + j, none⟩) hgl).trans (hq j v hv)
      clear hq hbw hgl
      generalize l[t] = s at *
      obtain ⟨c1, q1, ⟨rk, ra, rl, rs, rd, rp, rn, ro, ⟨rkk, rkn⟩, rt⟩, ps, pa, pc, st, am, ma, mc, cx, ca, cc, ⟨⟨code, num, aam, fl⟩, aa, ac, fa, fc⟩⟩ := s
      have hrg : wr.rangeAt b (off + t * 21) [.int .i64 c1, .int .i64 q1, .int .i64 rk, .int .i64 ra, .int .i64 rl, .int .i64 rs, .int .i64 rd, .int .i64 rp, .int .i64 rn, .bool ro, .int .i64 rkk, .int .i64 rkn, .int .i64 rt, .slice pa ps.length pc, .int .i64 st, .slice ma am.length mc, .slice ca cx.length cc, .int .i64 code, .int .i64 num, .slice aa aam.length ac, .slice fa fl.length fc] := fun j v hv => hc j v hv
      clear hc
      dsimp only at HS
      have hone : (#[.int .i64 c1, .int .i64 q1, .int .i64 rk, .int .i64 ra, .int .i64 rl, .int .i64 rs, .int .i64 rd, .int .i64 rp, .int .i64 rn, .bool ro, .int .i64 rkk, .int .i64 rkn, .int .i64 rt, .slice pa ps.length pc, .int .i64 st, .slice ma am.length mc, .slice ca cx.length cc, .int .i64 code, .int .i64 num, .slice aa aam.length ac, .slice fa fl.length fc] : Array Value).all (·.oneCell') = true := by simp [Value.oneCell']
      have TN := hideIt (heap_alloc_new wr (.cells #[.int .i64 c1, .int .i64 q1, .int .i64 rk, .int .i64 ra, .int .i64 rl, .int .i64 rs, .int .i64 rd, .int .i64 rp, .int .i64 rn, .bool ro, .int .i64 rkk, .int .i64 rkn, .int .i64 rt, .slice pa ps.length pc, .int .i64 st, .slice ma am.length mc, .slice ca cx.length cc, .int .i64 code, .int .i64 num, .slice aa aam.length ac, .slice fa fl.length fc] 52))
      have HO := hideIt (HR.out.1.keep (below1 wr (.cells #[.int .i64 c1, .int .i64 q1, .int .i64 rk, .int .i64 ra, .int .i64 rl, .int .i64 rs, .int .i64 rd, .int .i64 rp, .int .i64 rn, .bool ro, .int .i64 rkk, .int .i64 rkn, .int .i64 rt, .slice pa ps.length pc, .int .i64 st, .slice ma am.length mc, .slice ca cx.length cc, .int .i64 code, .int .i64 num, .slice aa aam.length ac, .slice fa fl.length fc] 52)))
      have HK := hideIt HR.out.2
      have hzk : zs.length + ps.length ≤ 100000 := by
        have h1 := congrArg List.length HR.out.2
        rw [List.length_map] at h1
        have h2 := outL_len ((l.map TraX.v).take t)
        have h3 := HS.out.2
        omega
      clear HR
      go_upto_region 5 with (first | (refine wpList_load_mid rfl _ _ rfl b (off + t * 21) rfl [.int .i64 c1, .int .i64 q1, .int .i64 rk, .int .i64 ra, .int .i64 rl, .int .i64 rs, .int .i64 rd, .int .i64 rp, .int .i64 rn, .bool ro, .int .i64 rkk, .int .i64 rkn, .int .i64 rt, .slice pa ps.length pc, .int .i64 st, .slice ma am.length mc, .slice ca cx.length cc, .int .i64 code, .int .i64 num, .slice aa aam.length ac, .slice fa fl.length fc] _ hrg Tryd.underlying52 rfl (by kernel_rfl) ?_; go_frame) | (refine wpList_store_row rfl _ _ _ rfl wr.heap.size #[.int .i64 c1, .int .i64 q1, .int .i64 rk, .int .i64 ra, .int .i64 rl, .int .i64 rs, .int .i64 rd, .int .i64 rp, .int .i64 rn, .bool ro, .int .i64 rkk, .int .i64 rkn, .int .i64 rt, .slice pa ps.length pc, .int .i64 st, .slice ma am.length mc, .slice ca cx.length cc, .int .i64 code, .int .i64 num, .slice aa aam.length ac, .slice fa fl.length fc] rfl rfl _ _ (heap_alloc_new wr _) (by kernel_rfl) rfl hone ?_; rw [World.setRow_alloc_new]; go_frame))
      clear hrg hone
      generalize hN : wr.heap.size = tb at *
      generalize wr.alloc (.cells #[.int .i64 c1, .int .i64 q1, .int .i64 rk, .int .i64 ra, .int .i64 rl, .int .i64 rs, .int .i64 rd, .int .i64 rp, .int .i64 rn, .bool ro, .int .i64 rkk, .int .i64 rkn, .int .i64 rt, .slice pa ps.length pc, .int .i64 st, .slice ma am.length mc, .slice ca cx.length cc, .int .i64 code, .int .i64 num, .slice aa aam.length ac, .slice fa fl.length fc] 52) = W1 at *
      clear hN
      obtain ⟨⟨g0, g1, g2, g3, g4, g5, g6, g7, g8, g9, g10, g11, g12, g13, g14, g15, g16, g17, g18, g19, g20⟩, tf, tz⟩ := at21 TN.out
      clear g0 g1 g2 g3 g4 g5 g6 g7 g8 g9 g10 g11 g12 g14 g15 g16 g17 g18 g19 g20 tf
      obtain ⟨x, hx⟩ : ∃ x : TraX, x = ⟨c1, q1, ⟨rk, ra, rl, rs, rd, rp, rn, ro, ⟨rkk, rkn⟩, rt⟩, ps, pa, pc, st, am, ma, mc, cx, ca, cc, ⟨⟨code, num, aam, fl⟩, aa, ac, fa, fc⟩⟩ := ⟨_, rfl⟩
      rw [← hx] at HS
      have EX : Hid (x.v.c = c1 ∧ x.v.q = q1 ∧ x.v.st = st) := by rw [hx]; exact ⟨rfl, rfl, rfl⟩
      clear hx
      have HP := hideIt (show Pees w (.slice pa ps.length pc) ps from HA.out.p)
      have hps := HP.out.1
      go_wp2
      clear g13 tz
      go_loopg [3, 19] ps.length (fun g2 s3 s19 wy => ∃ (j : Nat) (zs2 : List MesX), j + g2 = ps.length ∧ s19 = .int .i64 j ∧ Hid (OS w g (some ⟨b, off, none⟩) l.length cp wy s3 zs2 ∧ zs2.map mkey = outL ((l.map TraX.v).take t) ++ outQ x.v (ps.take j) ∧ wy.heap[tb]? = some (.cells #[.int .i64 c1, .int .i64 q1, .int .i64 rk, .int .i64 ra, .int .i64 rl, .int .i64 rs, .int .i64 rd, .int .i64 rp, .int .i64 rn, .bool ro, .int .i64 rkk, .int .i64 rkn, .int .i64 rt, .slice pa ps.length pc, .int .i64 st, .slice ma am.length mc, .slice ca cx.length cc, .int .i64 code, .int .i64 num, .slice aa aam.length ac, .slice fa fl.length fc] 52 (0, 0)) ∧ zs2.length ≤ zs.length + j))
      case atStart => exact ⟨0, zs, by omega, rfl, ⟨HO.out, by rw [List.take_zero]; show _ = _ ++ []; rw [List.append_nil]; exact HK.out, TN.out, Nat.le_refl _⟩⟩
      case round =>
        obtain ⟨j, zs2, hjg, rfl, HJ⟩ := hrel
        cases gk with
        | zero =>
          have hjI : ¬ (j : Int) < (ps.length : Int) := by omega
          have hej : j = ps.length := by omega
          have HX : Hid (OS w g (some ⟨b, off, none⟩) l.length cp wr u3 zs2 ∧ zs2.map mkey = outL ((l.map TraX.v).take (t + 1))) := ⟨HJ.out.1, by rw [HJ.out.2.1, HS.out.1, hej, List.take_length]⟩
          clear HJ HS HK HO TN EX HA HT HAT HH
          go_wp2
          go_roundg gg
          case measure => omega
          case rel => exact ⟨t + 1, zs2, by omega, by go_num, HX⟩
        | succ gi =>
          have hlj : j < ps.length := by omega
          have hjI : (j : Int) < (ps.length : Int) := by omega
          have hj0 : (0 : Int) ≤ (j : Int) := by omega
          have hwj : IntKind.i64.wrap ((j : Int) + 1) = ((j + 1 : Nat) : Int) := by rw [IntKind.wrap_i64]; omega
          obtain ⟨-, a2, c2, e, hcap, hr⟩ := HP.out
          simp only [Value.slice.injEq, true_and] at e
          obtain ⟨rfl, rfl⟩ := e
          obtain ⟨pb, po, rfl, hpl, hcc⟩ := hr (by omega)
          have hbl := HJ.out.1.bel
          have hgr2 : pb < wr.heap.size := Nat.lt_of_lt_of_le hpl hbl.size
          have pq : ∀ i v, (peeE ps[j])[i]? = some v → wr.cell? ⟨pb, po + j * 5 + i, none⟩ = some v := fun i v hv => by
            have hi : i < 5 := (List.getElem?_eq_some_iff.1 hv).1
            rw [hbl.cell (p := ⟨pb, po + j * 5 + i, none⟩) hpl, show po + j * 5 + i = po + (j * 5 + i) by omega, hcc (j * 5 + i) (by omega), celC_get peeK ps j hlj i hi]
            exact hv
          have HQ := hideIt (outQ_take x.v ps j hlj)
          clear hcc hr hcap hpl hbl
          generalize ps[j] = p at *
          obtain ⟨p1, p2, p3, p4, p5⟩ := p
          have p0c : wr.cell? ⟨pb, po + j * 5, none⟩ = some (.int .i64 p1) := pq 0 _ rfl
          have p1c : wr.cell? ⟨pb, po + j * 5 + 1, none⟩ = some (.int .i64 p2) := pq 1 _ rfl
          have p2c : wr.cell? ⟨pb, po + j * 5 + 2, none⟩ = some (.int .i64 p3) := pq 2 _ rfl
          have p3c : wr.cell? ⟨pb, po + j * 5 + 3, none⟩ = some (.bool p4) := pq 3 _ rfl
          have p4c : wr.cell? ⟨pb, po + j * 5 + 4, none⟩ = some (.bool p5) := pq 4 _ rfl
          have hb5 := below1 wr (.cells #[.int .i64 p1, .int .i64 p2, .int .i64 p3, .bool p4, .bool p5] 67)
          have XP := hideIt (heap_alloc_new wr (.cells #[.int .i64 p1, .int .i64 p2, .int .i64 p3, .bool p4, .bool p5] 67))
          have XT := hideIt (blkK HJ.out.2.2.1 hb5)
          have OJ := hideIt (HJ.out.1.keep hb5)
          have HZ := hideIt HJ.out.2.1
          have hzl := HJ.out.2.2.2
          clear pq hb5 HJ HK HO TN
          go_upto_region 8 with fail
          generalize hN3 : wr.heap.size = pbx at *
          generalize wr.alloc (.cells #[.int .i64 p1, .int .i64 p2, .int .i64 p3, .bool p4, .bool p5] 67) = W2 at *
          clear p0c p1c p2c p3c p4c hgr2 hN3
          obtain ⟨⟨e0, e1, e2, e3, e4⟩, ef, ez⟩ := at5 XP.out
          obtain ⟨⟨g0, g1, g2, g3, g4, g5, g6, g7, g8, g9, g10, g11, g12, g13, g14, g15, g16, g17, g18, g19, g20⟩, tf, tz⟩ := at21 XT.out
          obtain ⟨⟨k0, k1⟩, kf, kz⟩ := at2 OJ.out.box
          have hm8 := below1 W2 (.cells #[.int .i64 0, .int .i64 g, .int .i64 p3, .int .i64 c1, .int .i64 q1, .int .i64 p1, .int .i64 p2, .int .i64 0, .int .i64 0, .int .i64 0, .int .i64 0, .int .i64 0, .int .i64 0, .int .i64 0, .bool false, .int .i64 0, .int .i64 0, .int .i64 0, .bool false, .int .i64 0, .int .i64 0, .slice none 0 0, .slice none 0 0, .slice none 0 0] 47)
          have XM := hideIt (heap_alloc_new W2 (.cells #[.int .i64 0, .int .i64 g, .int .i64 p3, .int .i64 c1, .int .i64 q1, .int .i64 p1, .int .i64 p2, .int .i64 0, .int .i64 0, .int .i64 0, .int .i64 0, .int .i64 0, .int .i64 0, .int .i64 0, .bool false, .int .i64 0, .int .i64 0, .int .i64 0, .bool false, .int .i64 0, .int .i64 0, .slice none 0 0, .slice none 0 0, .slice none 0 0] 47))
          have XT2 := hideIt (blkK XT.out hm8)
          have XP2 := hideIt (blkK XP.out hm8)
          have OM := hideIt (OJ.out.keep hm8)
          have hone2 : (#[.int .i64 0, .int .i64 g, .int .i64 p3, .int .i64 c1, .int .i64 q1, .int .i64 p1, .int .i64 p2, .int .i64 0, .int .i64 0, .int .i64 0, .int .i64 0, .int .i64 0, .int .i64 0, .int .i64 0, .bool false, .int .i64 0, .int .i64 0, .int .i64 0, .bool false, .int .i64 0, .int .i64 0, .slice none 0 0, .slice none 0 0, .slice none 0 0] : Array Value).all (·.oneCell') = true := by simp [Value.oneCell']
          clear hm8
          go_upto_region 9 with (first | (refine wpList_store_row rfl _ _ _ rfl W2.heap.size #[.int .i64 0, .int .i64 g, .int .i64 p3, .int .i64 c1, .int .i64 q1, .int .i64 p1, .int .i64 p2, .int .i64 0, .int .i64 0, .int .i64 0, .int .i64 0, .int .i64 0, .int .i64 0, .int .i64 0, .bool false, .int .i64 0, .int .i64 0, .int .i64 0, .bool false, .int .i64 0, .int .i64 0, .slice none 0 0, .slice none 0 0, .slice none 0 0] rfl rfl _ _ (heap_alloc_new W2 _) (by kernel_rfl) rfl hone2 ?_; rw [World.setRow_alloc_new]; go_frame))
          have HRM := hideIt (fun k hk => own_lt OJ.out.row (k := k) hk)
          have hwm := (Array.getElem?_eq_some_iff.1 OJ.out.box).1
          generalize hM : W2.heap.size = mb at *
          generalize W2.alloc (.cells #[.int .i64 0, .int .i64 g, .int .i64 p3, .int .i64 c1, .int .i64 q1, .int .i64 p1, .int .i64 p2, .int .i64 0, .int .i64 0, .int .i64 0, .int .i64 0, .int .i64 0, .int .i64 0, .int .i64 0, .bool false, .int .i64 0, .int .i64 0, .int .i64 0, .bool false, .int .i64 0, .int .i64 0, .slice none 0 0, .slice none 0 0, .slice none 0 0] 47) = W3 at *
          clear e0 e1 e2 e3 e4 ef ez g0 g1 g2 g3 g4 g5 g6 g7 g8 g9 g10 g11 g12 g13 g14 g15 g16 g17 g18 g19 g20 tf tz k0 k1 kf kz XP XT OJ hone2 hM
          obtain ⟨⟨e0, e1, e2, e3, e4⟩, ef, ez⟩ := at5 XP2.out
          obtain ⟨⟨g0, g1, g2, g3, g4, g5, g6, g7, g8, g9, g10, g11, g12, g13, g14, g15, g16, g17, g18, g19, g20⟩, tf, tz⟩ := at21 XT2.out
          have emt : mb ≠ tb := by
            intro e
            have h1 := XM.out
            rw [e, XT2.out] at h1
            simp at h1
          have mf := fun j => free_at XM.out j
          have mz := (Array.getElem?_eq_some_iff.1 XM.out).1
          have mc0 : W3.cell? ⟨mb, 0, none⟩ = some (.int .i64 0) := by rw [cell_at XM.out]; rfl
          clear e0 e1 e2 ef
          have HNO : Hid (outP x.v ⟨p1, p2, p3, p4, p5⟩ = [] → zs2.map mkey = outL ((l.map TraX.v).take t) ++ outQ x.v (ps.take (j + 1))) := fun h0 => by rw [HQ.out, h0, List.append_nil]; exact HZ.out
          have HYE : Hid (∀ m : MesX, outP x.v ⟨p1, p2, p3, p4, p5⟩ = [mkey m] → (zs2 ++ [m]).map mkey = outL ((l.map TraX.v).take t) ++ outQ x.v (ps.take (j + 1))) := fun m h0 => by rw [List.map_append, HZ.out, HQ.out, h0, List.append_assoc]; rfl
          have HPP : Hid (outP x.v ⟨p1, p2, p3, p4, p5⟩ = if st = 1 then (if p4 = true then [] else [(2, c1, q1, false)]) else (if p5 = true then [] else [(4, c1, q1, st == 2)])) := by
            show _ = _
            unfold outP
            rw [EX.out.1, EX.out.2.1, EX.out.2.2]
          by_cases hst : st = 1
          · subst hst
            cases p4
            · -- a question
              obtain ⟨m, hm⟩ : ∃ m : MesX, m = ⟨2, g, p3, c1, q1, p1, p2, ⟨rk, ra, rl, rs, rd, rp, rn, ro, ⟨rkk, rkn⟩, rt⟩, false, zAnsX, [], none, 0⟩ := ⟨_, rfl⟩
              obtain ⟨hx1, hx2⟩ := puts_req W3 mb g p3 c1 q1 p1 p2 rk ra rl rs rd rp rn rkk rkn rt ro XM.out
              have hx3 : ((((((((((((W3.setCell ⟨mb, 0, none⟩ (.int .i64 2)).setCell ⟨mb, 7, none⟩ (.int .i64 rk)).setCell ⟨mb, 8, none⟩ (.int .i64 ra)).setCell ⟨mb, 9, none⟩ (.int .i64 rl)).setCell ⟨mb, 10, none⟩ (.int .i64 rs)).setCell ⟨mb, 11, none⟩ (.int .i64 rd)).setCell ⟨mb, 12, none⟩ (.int .i64 rp)).setCell ⟨mb, 13, none⟩ (.int .i64 rn)).setCell ⟨mb, 14, none⟩ (.bool ro)).setCell ⟨mb, 15, none⟩ (.int .i64 rkk)).setCell ⟨mb, 16, none⟩ (.int .i64 rkn)).setCell ⟨mb, 17, none⟩ (.int .i64 rt)).heap[mb]? = some (.cells (mesE m).toArray 47 (0, 0)) := by rw [hm]; exact hx1
              have HF2 := hideIt (HYE.out m (by rw [HPP.out, hm]; rfl))
              have X4 := hideIt hx3
              have O4 := hideIt (OM.out.out hx2 HRM.out hwm)
              have T4 := hideIt (blkO XT2.out hx2 (fun e => emt e.symm))
              have mc7 : W3.cell? ⟨mb, 7, none⟩ = some (.int .i64 0) := by rw [cell_at XM.out]; rfl
              have mc8 : W3.cell? ⟨mb, 8, none⟩ = some (.int .i64 0) := by rw [cell_at XM.out]; rfl
              have mc9 : W3.cell? ⟨mb, 9, none⟩ = some (.int .i64 0) := by rw [cell_at XM.out]; rfl
              have mc10 : W3.cell? ⟨mb, 10, none⟩ = some (.int .i64 0) := by rw [cell_at XM.out]; rfl
              have mc11 : W3.cell? ⟨mb, 11, none⟩ = some (.int .i64 0) := by rw [cell_at XM.out]; rfl
              have mc12 : W3.cell? ⟨mb, 12, none⟩ = some (.int .i64 0) := by rw [cell_at XM.out]; rfl
              have mc13 : W3.cell? ⟨mb, 13, none⟩ = some (.int .i64 0) := by rw [cell_at XM.out]; rfl
              have mc14 : W3.cell? ⟨mb, 14, none⟩ = some (.bool false) := by rw [cell_at XM.out]; rfl
              have mc15 : W3.cell? ⟨mb, 15, none⟩ = some (.int .i64 0) := by rw [cell_at XM.out]; rfl
              have mc16 : W3.cell? ⟨mb, 16, none⟩ = some (.int .i64 0) := by rw [cell_at XM.out]; rfl
              have mc17 : W3.cell? ⟨mb, 17, none⟩ = some (.int .i64 0) := by rw [cell_at XM.out]; rfl
              clear hx1 hx2 hx3 HNO HYE HPP HQ HZ OM XM XP2
              go_upto_region 10 with fail
              clear e3 e4 ez
              refine wp_region_held_drew (S := fun W => W.cell? ⟨tb, 2, none⟩ = some (.int .i64 rk) ∧ W.cell? ⟨tb, 3, none⟩ = some (.int .i64 ra) ∧ W.cell? ⟨tb, 4, none⟩ = some (.int .i64 rl) ∧ W.cell? ⟨tb, 5, none⟩ = some (.int .i64 rs) ∧ W.cell? ⟨tb, 6, none⟩ = some (.int .i64 rd) ∧ W.cell? ⟨tb, 7, none⟩ = some (.int .i64 rp) ∧ W.cell? ⟨tb, 8, none⟩ = some (.int .i64 rn) ∧ W.cell? ⟨tb, 9, none⟩ = some (.bool ro) ∧ W.cell? ⟨tb, 10, none⟩ = some (.int .i64 rkk) ∧ W.cell? ⟨tb, 11, none⟩ = some (.int .i64 rkn) ∧ W.cell? ⟨tb, 12, none⟩ = some (.int .i64 rt)) (by kernel_rfl) (by go_keep) (fun hHeld => ?_)
              refine wpAnyH_take (i := 0) (oi := ⟨some 41, _, _, _, _, _⟩) (v := ?_) rfl (by kernel_rfl) (by kernel_rfl) (by kernel_rfl) (fun _ _ _ h => h) (Or.inl ⟨by rfl, ?_⟩) (by assumption) ?_
              rotate_left
              · intro w5 hSw
                (try dsimp only at hSw)
                go_simp
                (try with_reducible rfl)
              try simp only [Act.put, List.setIfInBounds_toArray, List.set_cons_zero, List.set_cons_succ]
              refine wpAnyH_take (i := 1) (oi := ⟨some 42, _, _, _, _, _⟩) (v := ?_) rfl (by kernel_rfl) (by kernel_rfl) (by kernel_rfl) (fun _ _ _ h => h) (Or.inl ⟨by rfl, ?_⟩) (by assumption) ?_
              rotate_left
              · intro w5 hSw
                (try dsimp only at hSw)
                go_simp
                (try with_reducible rfl)
              try simp only [Act.put, List.setIfInBounds_toArray, List.set_cons_zero, List.set_cons_succ]
              refine wpAnyH_take (i := 2) (oi := ⟨some 43, _, _, _, _, _⟩) (v := ?_) rfl (by kernel_rfl) (by kernel_rfl) (by kernel_rfl) (fun _ _ _ h => h) (Or.inl ⟨by rfl, ?_⟩) (by assumption) ?_
              rotate_left
              · intro w5 hSw
                (try dsimp only at hSw)
                go_simp
                (try with_reducible rfl)
              try simp only [Act.put, List.setIfInBounds_toArray, List.set_cons_zero, List.set_cons_succ]
              refine wpAnyH_ready (rs := [3]) (by kernel_rfl) (by simp) ?_
              refine (AllReadyH.cons (o := ⟨none, _, _, _, _, _⟩) rfl (fun Kx hK => ?_) AllReadyH.nil)
              go_simp
              refine hK.out _ _ (by go_keep) (fun hHeld => ?_)
              clear hK Kx
              try simp only [Act.put, List.setIfInBounds_toArray, List.set_cons_zero, List.set_cons_succ]
              refine wpAnyH_take (i := 4) (oi := ⟨some 44, _, _, _, _, _⟩) (v := ?_) rfl (by kernel_rfl) (by kernel_rfl) (by kernel_rfl) (fun _ _ _ h => h) (Or.inl ⟨by rfl, ?_⟩) (by assumption) ?_
              rotate_left
              · intro w5 hSw
                (try dsimp only at hSw)
                go_simp
                (try with_reducible rfl)
              try simp only [Act.put, List.setIfInBounds_toArray, List.set_cons_zero, List.set_cons_succ]
              refine wpAnyH_ready (rs := [5]) (by kernel_rfl) (by simp) ?_
              refine (AllReadyH.cons (o := ⟨none, _, _, _, _, _⟩) rfl (fun Kx hK => ?_) AllReadyH.nil)
              go_simp
              refine hK.out _ _ (by go_keep) (fun hHeld => ?_)
              clear hK Kx
              try simp only [Act.put, List.setIfInBounds_toArray, List.set_cons_zero, List.set_cons_succ]
              refine wpAnyH_done (by kernel_rfl) ?_ _
              (repeat clear hHeld)
              clear mc7 mc8 mc9 mc10 mc11 mc12 mc13 mc14 mc15 mc16 mc17 mc0 mf mz g0 g1 g2 g3 g4 g5 g6 g7 g8 g9 g10 g11 g12 g13 g14 g15 g16 g17 g18 g19 g20 tf tz
              generalize ((((((((((((W3.setCell ⟨mb, 0, none⟩ (.int .i64 2)).setCell ⟨mb, 7, none⟩ (.int .i64 rk)).setCell ⟨mb, 8, none⟩ (.int .i64 ra)).setCell ⟨mb, 9, none⟩ (.int .i64 rl)).setCell ⟨mb, 10, none⟩ (.int .i64 rs)).setCell ⟨mb, 11, none⟩ (.int .i64 rd)).setCell ⟨mb, 12, none⟩ (.int .i64 rp)).setCell ⟨mb, 13, none⟩ (.int .i64 rn)).setCell ⟨mb, 14, none⟩ (.bool ro)).setCell ⟨mb, 15, none⟩ (.int .i64 rkk)).setCell ⟨mb, 16, none⟩ (.int .i64 rkn)).setCell ⟨mb, 17, none⟩ (.int .i64 rt)) = W4 at *
              have X5 := hideIt (blkK X4.out (Below.refl _ _).drew)
              have O5 := hideIt (O4.out.keep (Below.refl _ _).drew)
              have T5 := hideIt (blkK T4.out (Below.refl _ _).drew)
              clear X4 O4 T4
              generalize W4.drew = W5 at *
              have HLn : (Tryd.prog.info? 47).map (·.size) = some (mesE m).length := by rw [mesK]; kernel_rfl
              have hrg : W5.rangeAt mb 0 (mesE m) := fun j v hv => by rw [Nat.zero_add, cell_at X5.out]; simpa using hv
              obtain ⟨a5, c5, w5, hrun, hO5, hk5⟩ := O5.out.app m (by omega)
              have HRUN := hideIt hrun
              have OX := hideIt hO5
              have TX := hideIt (hk5 _ _ _ T5.out (by decide))
              clear hrun hO5 hk5 X5 O5 T5
              go_upto_region 11 with fail
              refine wp_region_lit ?_
              refine wpList_moveK rfl _ rfl ?_
              go_frame
              refine wpList_load_mid rfl _ _ rfl mb 0 rfl (mesE m) _ hrg Tryd.underlying47 rfl HLn ?_
              go_frame
              refine wpList_buildMes rfl _ rfl m rfl ?_
              go_frame
              refine Lib.wpList_append_run _ rfl _ _ _ _ rfl _ _ rfl rfl _ _ HRUN.out ?_
              go_frame
              clear HRUN hrg HLn
              go_wp2
              go_roundg gi
              case measure => omega
              case rel => exact ⟨j + 1, zs2 ++ [m], by omega, by go_num, ⟨OX.out, HF2.out, TX.out, by rw [List.length_append]; simp; omega⟩⟩
            · have HF2 := hideIt (HNO.out (by rw [HPP.out]; rfl))
              clear HNO HYE HPP HQ HZ
              go_wp2
              go_roundg gi
              case measure => omega
              case rel => exact ⟨j + 1, zs2, by omega, by go_num, ⟨OM.out, HF2.out, XT2.out, by omega⟩⟩
          · have hst2 : (st == 1) = false := by simpa using hst
            have hst3 : (st != 1) = true := by simpa using hst
            cases p5
            · -- what was decided
              have hx0 := putS (⟨XM.out, Out.refl (fun k => k = mb) W3⟩ : _ ∧ _) 0 (.int .i64 4) (cs' := #[.int .i64 4, .int .i64 g, .int .i64 p3, .int .i64 c1, .int .i64 q1, .int .i64 p1, .int .i64 p2, .int .i64 0, .int .i64 0, .int .i64 0, .int .i64 0, .int .i64 0, .int .i64 0, .int .i64 0, .bool false, .int .i64 0, .int .i64 0, .int .i64 0, .bool false, .int .i64 0, .int .i64 0, .slice none 0 0, .slice none 0 0, .slice none 0 0]) rfl
              obtain ⟨hx1, hx2⟩ := putS hx0 18 (.bool (st == 2)) (cs' := #[.int .i64 4, .int .i64 g, .int .i64 p3, .int .i64 c1, .int .i64 q1, .int .i64 p1, .int .i64 p2, .int .i64 0, .int .i64 0, .int .i64 0, .int .i64 0, .int .i64 0, .int .i64 0, .int .i64 0, .bool false, .int .i64 0, .int .i64 0, .int .i64 0, .bool (st == 2), .int .i64 0, .int .i64 0, .slice none 0 0, .slice none 0 0, .slice none 0 0]) rfl
              have HPQ := hideIt (HPP.out.trans ((if_neg hst).trans (if_neg (by decide))))
              have X4 := hideIt hx1
              have O4 := hideIt (OM.out.out hx2 HRM.out hwm)
              have T4 := hideIt (blkO XT2.out hx2 (fun e => emt e.symm))
              have mc18 : W3.cell? ⟨mb, 18, none⟩ = some (.bool false) := by rw [cell_at XM.out]; rfl
              have HAm := hideIt (fun W (hW : Below w.heap.size w W) => clone_am (.slice ma am.length mc) am W (show Ams W (.slice ma am.length mc) am from HA.out.m.keep hW))
              have HCe := hideIt (fun W (hW : Below w.heap.size w W) => cells_is (.slice ca cx.length cc) cx W (show Cels W (.slice ca cx.length cc) cx from HA.out.c.keep hW))
              clear hx0 hx1 hx2 HNO HPP HQ OM XM XP2 hst
              go_upto_region 13 with fail
              clear e3 e4 ez
              refine wp_region_held_drew (S := fun W => W.cell? ⟨tb, 14, none⟩ = some (.int .i64 st)) (by kernel_rfl) (by go_keep) (fun hHeld => ?_)
              refine wpAnyH_take (i := 0) (oi := ⟨some 58, _, _, _, _, _⟩) (v := ?_) rfl (by kernel_rfl) (by kernel_rfl) (by kernel_rfl) (fun _ _ _ h => h) (Or.inl ⟨by rfl, ?_⟩) (by assumption) ?_
              rotate_left
              · intro w5 hSw
                (try dsimp only at hSw)
                go_simp
                (try with_reducible rfl)
              try simp only [Act.put, List.setIfInBounds_toArray, List.set_cons_zero, List.set_cons_succ]
              refine wpAnyH_take (i := 1) (oi := ⟨some 59, _, _, _, _, _⟩) (v := ?_) rfl (by kernel_rfl) (by kernel_rfl) (by kernel_rfl) (fun _ _ _ h => h) (Or.inl ⟨by rfl, ?_⟩) (by assumption) ?_
              rotate_left
              · intro w5 hSw
                (try dsimp only at hSw)
                go_simp
                (try with_reducible rfl)
              try simp only [Act.put, List.setIfInBounds_toArray, List.set_cons_zero, List.set_cons_succ]
              refine wpAnyH_take (i := 2) (oi := ⟨some 60, _, _, _, _, _⟩) (v := ?_) rfl (by kernel_rfl) (by kernel_rfl) (by kernel_rfl) (fun _ _ _ h => h) (Or.inl ⟨by rfl, ?_⟩) (by assumption) ?_
              rotate_left
              · intro w5 hSw
                (try dsimp only at hSw)
                go_simp
                (try with_reducible rfl)
              try simp only [Act.put, List.setIfInBounds_toArray, List.set_cons_zero, List.set_cons_succ]
              refine wpAnyH_take (i := 3) (oi := ⟨some 61, _, _, _, _, _⟩) (v := ?_) rfl (by kernel_rfl) (by kernel_rfl) (by kernel_rfl) (fun _ _ _ h => h) (Or.inl ⟨by rfl, ?_⟩) (by assumption) ?_
              rotate_left
              · intro w5 hSw
                (try dsimp only at hSw)
                go_simp
                (try with_reducible rfl)
              try simp only [Act.put, List.setIfInBounds_toArray, List.set_cons_zero, List.set_cons_succ]
              refine wpAnyH_ready (rs := [4]) (by kernel_rfl) (by simp) ?_
              refine (AllReadyH.cons (o := ⟨none, _, _, _, _, _⟩) rfl (fun Kx hK => ?_) AllReadyH.nil)
              go_simp
              refine hK.out _ _ (by go_keep) (fun hHeld => ?_)
              clear hK Kx
              try simp only [Act.put, List.setIfInBounds_toArray, List.set_cons_zero, List.set_cons_succ]
              refine wpAnyH_take (i := 5) (oi := ⟨some 62, _, _, _, _, _⟩) (v := ?_) rfl (by kernel_rfl) (by kernel_rfl) (by kernel_rfl) (fun _ _ _ h => h) (Or.inl ⟨by rfl, ?_⟩) (by assumption) ?_
              rotate_left
              · intro w5 hSw
                (try dsimp only at hSw)
                go_simp
                (try with_reducible rfl)
              try simp only [Act.put, List.setIfInBounds_toArray, List.set_cons_zero, List.set_cons_succ]
              refine wpAnyH_ready (rs := [6]) (by kernel_rfl) (by simp) ?_
              refine (AllReadyH.cons (o := ⟨none, _, _, _, _, _⟩) rfl (fun Kx hK => ?_) AllReadyH.nil)
              go_simp
              refine hK.out _ _ (by go_keep) (fun hHeld => ?_)
              clear hK Kx
              try simp only [Act.put, List.setIfInBounds_toArray, List.set_cons_zero, List.set_cons_succ]
              refine wpAnyH_done (by kernel_rfl) ?_ _
              (repeat clear hHeld)
              clear mc18 mc0 mf mz g0 g1 g2 g3 g4 g5 g6 g7 g8 g9 g10 g11 g12 g13 g14 g15 g16 g17 g18 g19 g20 tf tz
              generalize (W3.setCell ⟨mb, 0, none⟩ (.int .i64 4)).setCell ⟨mb, 18, none⟩ (.bool (st == 2)) = W4 at *
              have X5 := hideIt (blkK X4.out (Below.refl _ _).drew)
              have O5 := hideIt (O4.out.keep (Below.refl _ _).drew)
              have T5 := hideIt (blkK T4.out (Below.refl _ _).drew)
              clear X4 O4 T4
              generalize W4.drew = W5 at *
              -- the amounts, the cells
              obtain ⟨⟨g0, g1, g2, g3, g4, g5, g6, g7, g8, g9, g10, g11, g12, g13, g14, g15, g16, g17, g18, g19, g20⟩, tf, tz⟩ := at21 T5.out
              clear g0 g1 g2 g3 g4 g5 g6 g7 g8 g9 g10 g11 g12 g13 g14 g16 g17 g18 g19 g20
              go_wp2_with fail
              refine (HAm.out _ O5.out.bel).mono ?_
              rintro e w6 ⟨a1, d1, rfl, ho1, hb1⟩
              dsimp only
              have y6 := putS (⟨blkK X5.out hb1, Out.refl (fun k => k = mb) w6⟩ : _ ∧ _) 21 (.slice a1 am.length d1) (cs' := #[.int .i64 4, .int .i64 g, .int .i64 p3, .int .i64 c1, .int .i64 q1, .int .i64 p1, .int .i64 p2, .int .i64 0, .int .i64 0, .int .i64 0, .int .i64 0, .int .i64 0, .int .i64 0, .int .i64 0, .bool false, .int .i64 0, .int .i64 0, .int .i64 0, .bool (st == 2), .int .i64 0, .int .i64 0, .slice a1 am.length d1, .slice none 0 0, .slice none 0 0]) rfl
              have mc21 : w6.cell? ⟨mb, 21, none⟩ = some (.slice none 0 0) := by rw [cell_at (blkK X5.out hb1)]; rfl
              have mf := fun j => free_at (blkK X5.out hb1) j
              have mz := (Array.getElem?_eq_some_iff.1 (blkK X5.out hb1)).1
              have X7 := hideIt y6.1
              have O7 := hideIt ((O5.out.keep hb1).out y6.2 HRM.out hwm)
              have T7 := hideIt (blkO (blkK T5.out hb1) y6.2 (fun e => emt e.symm))
              clear ho1 hb1 y6 X5 O5 T5 g15 tf tz HAm
              go_upto_region 15 with fail
              generalize w6.setCell ⟨mb, 21, none⟩ (.slice a1 am.length d1) = W7 at *
              clear mc21 mf mz
              obtain ⟨⟨g0, g1, g2, g3, g4, g5, g6, g7, g8, g9, g10, g11, g12, g13, g14, g15, g16, g17, g18, g19, g20⟩, tf, tz⟩ := at21 T7.out
              clear g0 g1 g2 g3 g4 g5 g6 g7 g8 g9 g10 g11 g12 g13 g14 g15 g17 g18 g19 g20
              have HC2 : Hid (∀ W, Below w.heap.size w W → Calls Tryd.prog 20 #[.slice ca cx.length cc, .func (.func 21) #[] #[]] W fun e w' => ∃ a2 d2 n2, e = .returned (.slice a2 n2 d2) ∧ Hid (∃ cs : List CelX, cs.length = n2) ∧ Below W.heap.size W w') := fun W hW => by
                refine (HCe.out W hW).mono ?_
                rintro e w' ⟨a2, d2, cs, rfl, hv, -, hb⟩
                exact ⟨a2, d2, _, rfl, ⟨cs, by rw [← hv, List.length_map]⟩, hb⟩
              go_wp2_with fail
              refine (HC2.out _ O7.out.bel).mono ?_
              rintro e w8 ⟨a2, d2, n2, rfl, HCS, hb1⟩
              dsimp only
              obtain ⟨cs, hcs⟩ := HCS.out
              have y6 := putS (⟨blkK X7.out hb1, Out.refl (fun k => k = mb) w8⟩ : _ ∧ _) 23 (.slice a2 n2 d2) (cs' := #[.int .i64 4, .int .i64 g, .int .i64 p3, .int .i64 c1, .int .i64 q1, .int .i64 p1, .int .i64 p2, .int .i64 0, .int .i64 0, .int .i64 0, .int .i64 0, .int .i64 0, .int .i64 0, .int .i64 0, .bool false, .int .i64 0, .int .i64 0, .int .i64 0, .bool (st == 2), .int .i64 0, .int .i64 0, .slice a1 am.length d1, .slice none 0 0, .slice a2 n2 d2]) rfl
              have mc23 : w8.cell? ⟨mb, 23, none⟩ = some (.slice none 0 0) := by rw [cell_at (blkK X7.out hb1)]; rfl
              have mf := fun j => free_at (blkK X7.out hb1) j
              have mz := (Array.getElem?_eq_some_iff.1 (blkK X7.out hb1)).1
              obtain ⟨m, hm⟩ : ∃ m : MesX, m = ⟨4, g, p3, c1, q1, p1, p2, ⟨0, 0, 0, 0, 0, 0, 0, false, ⟨0, 0⟩, 0⟩, st == 2, ⟨⟨0, 0, am, []⟩, a1, d1, none, 0⟩, cs, a2, d2⟩ := ⟨_, rfl⟩
              have hmE : (mesE m).toArray = #[.int .i64 4, .int .i64 g, .int .i64 p3, .int .i64 c1, .int .i64 q1, .int .i64 p1, .int .i64 p2, .int .i64 0, .int .i64 0, .int .i64 0, .int .i64 0, .int .i64 0, .int .i64 0, .int .i64 0, .bool false, .int .i64 0, .int .i64 0, .int .i64 0, .bool (st == 2), .int .i64 0, .int .i64 0, .slice a1 am.length d1, .slice none 0 0, .slice a2 n2 d2] := by rw [hm, ← hcs]; rfl
              have X5 : Hid ((w8.setCell ⟨mb, 23, none⟩ (.slice a2 n2 d2)).heap[mb]? = some (.cells (mesE m).toArray 47 (0, 0))) := by rw [hmE]; exact y6.1
              have O5 := hideIt ((O7.out.keep hb1).out y6.2 HRM.out hwm)
              have T5 := hideIt (blkO (blkK T7.out hb1) y6.2 (fun e => emt e.symm))
              have HF2 := hideIt (HYE.out m (by rw [HPQ.out, hm]; rfl))
              clear hb1 y6 X7 O7 T7 g16 tf tz HC2 HCe HCS hmE hm hcs HYE HPQ HZ
              go_upto_region 16 with fail
              generalize w8.setCell ⟨mb, 23, none⟩ (.slice a2 n2 d2) = W9 at *
              clear mc23 mf mz
              have HLn : (Tryd.prog.info? 47).map (·.size) = some (mesE m).length := by rw [mesK]; kernel_rfl
              have hrg : W9.rangeAt mb 0 (mesE m) := fun j v hv => by rw [Nat.zero_add, cell_at X5.out]; simpa using hv
              obtain ⟨a5, c5, w5, hrun, hO5, hk5⟩ := O5.out.app m (by omega)
              have HRUN := hideIt hrun
              have OX := hideIt hO5
              have TX := hideIt (hk5 _ _ _ T5.out (by decide))
              clear hrun hO5 hk5 X5 O5 T5
              refine wp_region_lit ?_
              refine wpList_moveK rfl _ rfl ?_
              go_frame
              refine wpList_load_mid rfl _ _ rfl mb 0 rfl (mesE m) _ hrg Tryd.underlying47 rfl HLn ?_
              go_frame
              refine wpList_buildMes rfl _ rfl m rfl ?_
              go_frame
              refine Lib.wpList_append_run _ rfl _ _ _ _ rfl _ _ rfl rfl _ _ HRUN.out ?_
              go_frame
              clear HRUN hrg HLn
              go_wp2
              go_roundg gi
              case measure => omega
              case rel => exact ⟨j + 1, zs2 ++ [m], by omega, by go_num, ⟨OX.out, HF2.out, TX.out, by rw [List.length_append]; simp; omega⟩⟩
            · have HF2 := hideIt (HNO.out (by rw [HPP.out, if_neg hst]; rfl))
              clear HNO HYE HPP HQ HZ hst
              go_wp2
              go_roundg gi
              case measure => omega
              case rel => exact ⟨j + 1, zs2, by omega, by go_num, ⟨OM.out, HF2.out, XT2.out, by omega⟩⟩
end Go.Proofs.YtilinemcmgjiiaaDoor
namespace Go.Proofs.YtilinemcmgjiiaaDoor
open Go.RowKit
set_option linter.all false
set_option maxHeartbeats 8000000 in
set_option maxRecDepth 100000 in
theorem hear_bad (g : Int) (a : Option Addr) (cp : Nat) (l : List TraX) (m : MesX) (w : World) (h : Trs w (.slice a l.length cp) l) (hm : MesAt w m) (hbad : ¬ (m.dst = g ∧ heaB m.kind = true ∧ amsB m.x.v.am (-1) = true)) : Calls Tryd.prog 14 #[.agg #[.int .i64 g, .slice a l.length cp], .agg (mesE m).toArray] w (HeaBack 0 [] [] 190 w) := by
  have L0 : (mesE m)[0]? = some (.int .i64 m.kind) := rfl
  have L2 : (mesE m)[2]? = some (.int .i64 m.dst) := rfl
  have L19 : (mesE m)[19]? = some (.int .i64 m.x.v.code) := rfl
  have L20 : (mesE m)[20]? = some (.int .i64 m.x.v.num) := rfl
  have L21 : (mesE m)[21]? = some (.slice m.x.aa m.x.v.am.length m.x.ac) := rfl
  have L22 : (mesE m)[22]? = some (.slice m.x.fa m.x.v.fl.length m.x.fc) := rfl
  have HLn : Hid ((Tryd.prog.info? 47).map (·.size) = some (mesE m).length) := by
    show _ = _
    rw [mesK]
    kernel_rfl
  have HFi := hideIt (fun W (hW : Below w.heap.size w W) => findC_is g a cp l m W (h.keep hW))
  have HAm := hideIt (fun W (hW : Below w.heap.size w W) => areAmountsC_is (.slice m.x.aa m.x.v.am.length m.x.ac) m.x.v.am W (hm.keep hW).x.a)
  have HIs := hideIt (fun W => isHeard_is m.kind W)
  have HVt := hideIt (fun (B b n c i k j : Nat) (W : World) (ys : List TraX) (h1 : TrsOwn B W (.slice (some ⟨b, 0, none⟩) n c) ys) (hi : i < ys.length) (hk : k = i * 21) (hj : j < ys[i].ps.length) (hW : Below w.heap.size w W) (h0 : w.heap.size ≤ B) (hB : B ≤ W.heap.size) hs => vote_any m h1 hi hk hj hm hW h0 hB hs)
  have HAk := hideIt (fun (B b n c i k j : Nat) (W : World) (ys : List TraX) (h1 : TrsOwn B W (.slice (some ⟨b, 0, none⟩) n c) ys) (hi : i < ys.length) (hk : k = i * 21) (hj : j < ys[i].ps.length) (hW : Below w.heap.size w W) (h0 : w.heap.size ≤ B) (hB : B ≤ W.heap.size) hs => ack_any m h1 hi hk hj hm hW h0 hB hs)
  have HCo := hideIt (fun W (hW : Below w.heap.size w W) => coordF_is g a cp l W (h.keep hW))
  simp only [fnd_v] at HFi
  generalize mesE m = L at *
  have HMC : Hid (∀ W : World, W.heap[w.heap.size + 1]? = some (.cells L.toArray 47 (0, 0)) → W.cell? ⟨w.heap.size + 1, 0, none⟩ = some (.int .i64 m.kind) ∧ W.cell? ⟨w.heap.size + 1, 2, none⟩ = some (.int .i64 m.dst) ∧ W.cell? ⟨w.heap.size + 1, 19, none⟩ = some (.int .i64 m.x.v.code) ∧ W.cell? ⟨w.heap.size + 1, 20, none⟩ = some (.int .i64 m.x.v.num) ∧ W.cell? ⟨w.heap.size + 1, 21, none⟩ = some (.slice m.x.aa m.x.v.am.length m.x.ac) ∧ W.cell? ⟨w.heap.size + 1, 22, none⟩ = some (.slice m.x.fa m.x.v.fl.length m.x.fc) ∧ (∀ j, W.frozen? ⟨w.heap.size + 1, j, none⟩ = false) ∧ w.heap.size + 1 < W.heap.size ∧ W.rangeAt (w.heap.size + 1) 0 L) := fun W hX =>
    have hl : ∀ j v, L[j]? = some v → W.cell? ⟨w.heap.size + 1, j, none⟩ = some v := fun j v hv => by rw [cell_at hX]; simpa using hv
    ⟨hl 0 _ L0, hl 2 _ L2, hl 19 _ L19, hl 20 _ L20, hl 21 _ L21, hl 22 _ L22, fun j => free_at hX j, (Array.getElem?_eq_some_iff.1 hX).1, fun j v hv => by rw [Nat.zero_add]; exact hl j v hv⟩
  clear L0 L2 L19 L20 L21 L22
  have hX := three_heap w (.cells #[.int .i64 g, .slice a l.length cp] 25) (.cells L.toArray 47) (.cells #[.int .i64 0, .slice none 0 0] 25)
  have X1 := hideIt hX.1
  have X2 := hideIt hX.2.1
  have X3 : Hid ((((w.alloc (.cells #[.int .i64 g, .slice a l.length cp] 25)).alloc (.cells L.toArray 47)).alloc (.cells #[.int .i64 0, .slice none 0 0] 25)).heap[w.heap.size + 1 + 1]? = some (.cells #[.int .i64 0, .slice none 0 0] 25)) := hX.2.2.1
  have BW := hideIt (below3 w (.cells #[.int .i64 g, .slice a l.length cp] 25) (.cells L.toArray 47) (.cells #[.int .i64 0, .slice none 0 0] 25))
  clear hX
  clear HFi HVt HAk HCo HLn
  generalize m.kind = kind at *
  generalize m.dst = dst at *
  generalize amsB m.x.v.am (-1) = ab at *
  generalize heaB kind = kb at *
  clear h hm
  by_cases hd : dst = g
  · obtain rfl : g = dst := hd.symm
    cases kb
    · clear hbad
      go_enter Tryd.func14, Tryd.ntmps14
      go_upto_region 1 with fail
      generalize ((w.alloc (.cells #[.int .i64 g, .slice a l.length cp] 25)).alloc (.cells L.toArray 47)).alloc (.cells #[.int .i64 0, .slice none 0 0] 25) = W0 at *
      obtain ⟨⟨c0, c1⟩, cf, cz⟩ := at2 X1.out
      obtain ⟨⟨f0, f1⟩, ff, fz⟩ := at2 X3.out
      obtain ⟨m0, m2, m19, m20, m21, m22, mf, mz, hrg⟩ := HMC.out _ X2.out
      go_wp2_with fail
      refine (HIs.out _).mono ?_
      rintro e wq ⟨rfl, e2⟩
      obtain rfl := e2.symm
      dsimp only
      go_wp2
      obtain ⟨hzz, hoo⟩ := puts2 _ (w.heap.size + 1 + 1) 25 (.int .i64 0) (.slice none 0 0) X3.out
      exact bodyPost_ret (v := .tuple #[.agg #[.int .i64 0, .slice none 0 0], .slice none 0 0, .int .i64 190]) (by simp [results, Tryd.results14, go_sem, cell_at hzz]) rfl (hea_no X3.out BW.out)
    · cases ab
      · clear hbad
        go_enter Tryd.func14, Tryd.ntmps14
        go_upto_region 1 with fail
        generalize ((w.alloc (.cells #[.int .i64 g, .slice a l.length cp] 25)).alloc (.cells L.toArray 47)).alloc (.cells #[.int .i64 0, .slice none 0 0] 25) = W0 at *
        obtain ⟨⟨c0, c1⟩, cf, cz⟩ := at2 X1.out
        obtain ⟨⟨f0, f1⟩, ff, fz⟩ := at2 X3.out
        obtain ⟨m0, m2, m19, m20, m21, m22, mf, mz, hrg⟩ := HMC.out _ X2.out
        go_wp2_with fail
        refine (HIs.out _).mono ?_
        rintro e wq ⟨rfl, e2⟩
        obtain rfl := e2.symm
        dsimp only
        go_wp2_with fail
        refine (HAm.out _ BW.out).mono ?_
        rintro e w1 ⟨rfl, hb⟩
        dsimp only
        have X1n := hideIt (blkK X1.out hb)
        have X2n := hideIt (blkK X2.out hb)
        have X3n := hideIt (blkK X3.out hb)
        have BWn := hideIt (below_via BW.out hb)
        clear X1 X2 X3 BW hb c0 c1 cf cz f0 f1 ff fz m0 m2 m19 m20 m21 m22 mf mz hrg
        have X1 := X1n
        have X2 := X2n
        have X3 := X3n
        have BW := BWn
        clear X1n X2n X3n BWn
        obtain ⟨⟨c0, c1⟩, cf, cz⟩ := at2 X1.out
        obtain ⟨⟨f0, f1⟩, ff, fz⟩ := at2 X3.out
        obtain ⟨m0, m2, m19, m20, m21, m22, mf, mz, hrg⟩ := HMC.out _ X2.out
        go_wp2
        obtain ⟨hzz, hoo⟩ := puts2 _ (w.heap.size + 1 + 1) 25 (.int .i64 0) (.slice none 0 0) X3.out
        exact bodyPost_ret (v := .tuple #[.agg #[.int .i64 0, .slice none 0 0], .slice none 0 0, .int .i64 190]) (by simp [results, Tryd.results14, go_sem, cell_at hzz]) rfl (hea_no X3.out BW.out)
      · exact absurd ⟨rfl, rfl, rfl⟩ hbad
  · have hd2 : (dst == g) = false := by simpa using hd
    have hd3 : (dst != g) = true := by simpa using hd
    clear hbad hd
    go_enter Tryd.func14, Tryd.ntmps14
    go_upto_region 1 with fail
    generalize ((w.alloc (.cells #[.int .i64 g, .slice a l.length cp] 25)).alloc (.cells L.toArray 47)).alloc (.cells #[.int .i64 0, .slice none 0 0] 25) = W0 at *
    obtain ⟨⟨c0, c1⟩, cf, cz⟩ := at2 X1.out
    obtain ⟨⟨f0, f1⟩, ff, fz⟩ := at2 X3.out
    obtain ⟨m0, m2, m19, m20, m21, m22, mf, mz, hrg⟩ := HMC.out _ X2.out
    go_wp2
    obtain ⟨hzz, hoo⟩ := puts2 _ (w.heap.size + 1 + 1) 25 (.int .i64 0) (.slice none 0 0) X3.out
    exact bodyPost_ret (v := .tuple #[.agg #[.int .i64 0, .slice none 0 0], .slice none 0 0, .int .i64 190]) (by simp [results, Tryd.results14, go_sem, cell_at hzz]) rfl (hea_no X3.out BW.out)
set_option maxHeartbeats 8000000 in
set_option maxRecDepth 100000 in
theorem hear_none (g : Int) (a : Option Addr) (cp : Nat) (l : List TraX) (m : MesX) (w : World) (h : Trs w (.slice a l.length cp) l) (hm : MesAt w m) (hok : m.dst = g ∧ heaB m.kind = true ∧ amsB m.x.v.am (-1) = true) (hno : (fndV m.c m.q m.k m.n m.frm (l.map TraX.v) 0 (-1)).1 < 0 ∨ ((fndV m.c m.q m.k m.n m.frm (l.map TraX.v) 0 (-1)).2 < 0 ∧ m.kind ≠ 6)) : Calls Tryd.prog 14 #[.agg #[.int .i64 g, .slice a l.length cp], .agg (mesE m).toArray] w (HeaBack 0 [] [] 191 w) := by
  have L0 : (mesE m)[0]? = some (.int .i64 m.kind) := rfl
  have L2 : (mesE m)[2]? = some (.int .i64 m.dst) := rfl
  have L19 : (mesE m)[19]? = some (.int .i64 m.x.v.code) := rfl
  have L20 : (mesE m)[20]? = some (.int .i64 m.x.v.num) := rfl
  have L21 : (mesE m)[21]? = some (.slice m.x.aa m.x.v.am.length m.x.ac) := rfl
  have L22 : (mesE m)[22]? = some (.slice m.x.fa m.x.v.fl.length m.x.fc) := rfl
  have HLn : Hid ((Tryd.prog.info? 47).map (·.size) = some (mesE m).length) := by
    show _ = _
    rw [mesK]
    kernel_rfl
  have HFi := hideIt (fun W (hW : Below w.heap.size w W) => findC_is g a cp l m W (h.keep hW))
  have HAm := hideIt (fun W (hW : Below w.heap.size w W) => areAmountsC_is (.slice m.x.aa m.x.v.am.length m.x.ac) m.x.v.am W (hm.keep hW).x.a)
  have HIs := hideIt (fun W => isHeard_is m.kind W)
  have HVt := hideIt (fun (B b n c i k j : Nat) (W : World) (ys : List TraX) (h1 : TrsOwn B W (.slice (some ⟨b, 0, none⟩) n c) ys) (hi : i < ys.length) (hk : k = i * 21) (hj : j < ys[i].ps.length) (hW : Below w.heap.size w W) (h0 : w.heap.size ≤ B) (hB : B ≤ W.heap.size) hs => vote_any m h1 hi hk hj hm hW h0 hB hs)
  have HAk := hideIt (fun (B b n c i k j : Nat) (W : World) (ys : List TraX) (h1 : TrsOwn B W (.slice (some ⟨b, 0, none⟩) n c) ys) (hi : i < ys.length) (hk : k = i * 21) (hj : j < ys[i].ps.length) (hW : Below w.heap.size w W) (h0 : w.heap.size ≤ B) (hB : B ≤ W.heap.size) hs => ack_any m h1 hi hk hj hm hW h0 hB hs)
  have HCo := hideIt (fun W (hW : Below w.heap.size w W) => coordF_is g a cp l W (h.keep hW))
  simp only [fnd_v] at HFi
  generalize mesE m = L at *
  have HMC : Hid (∀ W : World, W.heap[w.heap.size + 1]? = some (.cells L.toArray 47 (0, 0)) → W.cell? ⟨w.heap.size + 1, 0, none⟩ = some (.int .i64 m.kind) ∧ W.cell? ⟨w.heap.size + 1, 2, none⟩ = some (.int .i64 m.dst) ∧ W.cell? ⟨w.heap.size + 1, 19, none⟩ = some (.int .i64 m.x.v.code) ∧ W.cell? ⟨w.heap.size + 1, 20, none⟩ = some (.int .i64 m.x.v.num) ∧ W.cell? ⟨w.heap.size + 1, 21, none⟩ = some (.slice m.x.aa m.x.v.am.length m.x.ac) ∧ W.cell? ⟨w.heap.size + 1, 22, none⟩ = some (.slice m.x.fa m.x.v.fl.length m.x.fc) ∧ (∀ j, W.frozen? ⟨w.heap.size + 1, j, none⟩ = false) ∧ w.heap.size + 1 < W.heap.size ∧ W.rangeAt (w.heap.size + 1) 0 L) := fun W hX =>
    have hl : ∀ j v, L[j]? = some v → W.cell? ⟨w.heap.size + 1, j, none⟩ = some v := fun j v hv => by rw [cell_at hX]; simpa using hv
    ⟨hl 0 _ L0, hl 2 _ L2, hl 19 _ L19, hl 20 _ L20, hl 21 _ L21, hl 22 _ L22, fun j => free_at hX j, (Array.getElem?_eq_some_iff.1 hX).1, fun j v hv => by rw [Nat.zero_add]; exact hl j v hv⟩
  clear L0 L2 L19 L20 L21 L22
  have hX := three_heap w (.cells #[.int .i64 g, .slice a l.length cp] 25) (.cells L.toArray 47) (.cells #[.int .i64 0, .slice none 0 0] 25)
  have X1 := hideIt hX.1
  have X2 := hideIt hX.2.1
  have X3 : Hid ((((w.alloc (.cells #[.int .i64 g, .slice a l.length cp] 25)).alloc (.cells L.toArray 47)).alloc (.cells #[.int .i64 0, .slice none 0 0] 25)).heap[w.heap.size + 1 + 1]? = some (.cells #[.int .i64 0, .slice none 0 0] 25)) := hX.2.2.1
  have BW := hideIt (below3 w (.cells #[.int .i64 g, .slice a l.length cp] 25) (.cells L.toArray 47) (.cells #[.int .i64 0, .slice none 0 0] 25))
  clear hX
  clear HVt HAk HCo
  obtain ⟨hd, hk, ha⟩ := hok
  rw [hk] at HIs
  rw [ha] at HAm
  generalize fndV m.c m.q m.k m.n m.frm (l.map TraX.v) 0 (-1) = FV at *
  obtain ⟨fa, fp⟩ := FV
  dsimp only at hno HFi
  generalize m.kind = kind at *
  generalize m.dst = dst at *
  clear h hm hk ha
  obtain rfl : g = dst := hd.symm
  by_cases hfa : fa < 0
  · clear hno
    go_enter Tryd.func14, Tryd.ntmps14
    go_upto_region 1 with fail
    generalize ((w.alloc (.cells #[.int .i64 g, .slice a l.length cp] 25)).alloc (.cells L.toArray 47)).alloc (.cells #[.int .i64 0, .slice none 0 0] 25) = W0 at *
    obtain ⟨⟨c0, c1⟩, cf, cz⟩ := at2 X1.out
    obtain ⟨⟨f0, f1⟩, ff, fz⟩ := at2 X3.out
    obtain ⟨m0, m2, m19, m20, m21, m22, mf, mz, hrg⟩ := HMC.out _ X2.out
    go_wp2_with fail
    refine (HIs.out _).mono ?_
    rintro e wq ⟨rfl, e2⟩
    obtain rfl := e2.symm
    dsimp only
    go_wp2_with fail
    refine (HAm.out _ BW.out).mono ?_
    rintro e w1 ⟨rfl, hb⟩
    dsimp only
    have X1n := hideIt (blkK X1.out hb)
    have X2n := hideIt (blkK X2.out hb)
    have X3n := hideIt (blkK X3.out hb)
    have BWn := hideIt (below_via BW.out hb)
    clear X1 X2 X3 BW hb c0 c1 cf cz f0 f1 ff fz m0 m2 m19 m20 m21 m22 mf mz hrg
    have X1 := X1n
    have X2 := X2n
    have X3 := X3n
    have BW := BWn
    clear X1n X2n X3n BWn
    obtain ⟨⟨c0, c1⟩, cf, cz⟩ := at2 X1.out
    obtain ⟨⟨f0, f1⟩, ff, fz⟩ := at2 X3.out
    obtain ⟨m0, m2, m19, m20, m21, m22, mf, mz, hrg⟩ := HMC.out _ X2.out
    go_wp2_with (first | (refine wpList_load_mid rfl _ _ rfl (w.heap.size + 1) 0 rfl L _ hrg Tryd.underlying47 rfl HLn.out ?_; go_frame) | fail)
    refine (HFi.out _ BW.out).mono ?_
    rintro e w2 ⟨rfl, hb⟩
    dsimp only
    have X1n := hideIt (blkK X1.out hb)
    have X2n := hideIt (blkK X2.out hb)
    have X3n := hideIt (blkK X3.out hb)
    have BWn := hideIt (below_via BW.out hb)
    clear X1 X2 X3 BW hb c0 c1 cf cz f0 f1 ff fz m0 m2 m19 m20 m21 m22 mf mz hrg
    have X1 := X1n
    have X2 := X2n
    have X3 := X3n
    have BW := BWn
    clear X1n X2n X3n BWn
    obtain ⟨⟨c0, c1⟩, cf, cz⟩ := at2 X1.out
    obtain ⟨⟨f0, f1⟩, ff, fz⟩ := at2 X3.out
    obtain ⟨m0, m2, m19, m20, m21, m22, mf, mz, hrg⟩ := HMC.out _ X2.out
    go_wp2
    obtain ⟨hzz, hoo⟩ := puts2 _ (w.heap.size + 1 + 1) 25 (.int .i64 0) (.slice none 0 0) X3.out
    exact bodyPost_ret (v := .tuple #[.agg #[.int .i64 0, .slice none 0 0], .slice none 0 0, .int .i64 191]) (by simp [results, Tryd.results14, go_sem, cell_at hzz]) rfl (hea_no X3.out BW.out)
  · have hk6 : kind ≠ 6 := by
      rcases hno with h1 | h1
      · exact absurd h1 hfa
      · exact h1.2
    have hfp : fp < 0 := by
      rcases hno with h1 | h1
      · exact absurd h1 hfa
      · exact h1.1
    have hk62 : (kind == 6) = false := by simpa using hk6
    have hk63 : (kind != 6) = true := by simpa using hk6
    clear hno hk6
    go_enter Tryd.func14, Tryd.ntmps14
    go_upto_region 1 with fail
    generalize ((w.alloc (.cells #[.int .i64 g, .slice a l.length cp] 25)).alloc (.cells L.toArray 47)).alloc (.cells #[.int .i64 0, .slice none 0 0] 25) = W0 at *
    obtain ⟨⟨c0, c1⟩, cf, cz⟩ := at2 X1.out
    obtain ⟨⟨f0, f1⟩, ff, fz⟩ := at2 X3.out
    obtain ⟨m0, m2, m19, m20, m21, m22, mf, mz, hrg⟩ := HMC.out _ X2.out
    go_wp2_with fail
    refine (HIs.out _).mono ?_
    rintro e wq ⟨rfl, e2⟩
    obtain rfl := e2.symm
    dsimp only
    go_wp2_with fail
    refine (HAm.out _ BW.out).mono ?_
    rintro e w1 ⟨rfl, hb⟩
    dsimp only
    have X1n := hideIt (blkK X1.out hb)
    have X2n := hideIt (blkK X2.out hb)
    have X3n := hideIt (blkK X3.out hb)
    have BWn := hideIt (below_via BW.out hb)
    clear X1 X2 X3 BW hb c0 c1 cf cz f0 f1 ff fz m0 m2 m19 m20 m21 m22 mf mz hrg
    have X1 := X1n
    have X2 := X2n
    have X3 := X3n
    have BW := BWn
    clear X1n X2n X3n BWn
    obtain ⟨⟨c0, c1⟩, cf, cz⟩ := at2 X1.out
    obtain ⟨⟨f0, f1⟩, ff, fz⟩ := at2 X3.out
    obtain ⟨m0, m2, m19, m20, m21, m22, mf, mz, hrg⟩ := HMC.out _ X2.out
    go_wp2_with (first | (refine wpList_load_mid rfl _ _ rfl (w.heap.size + 1) 0 rfl L _ hrg Tryd.underlying47 rfl HLn.out ?_; go_frame) | fail)
    refine (HFi.out _ BW.out).mono ?_
    rintro e w2 ⟨rfl, hb⟩
    dsimp only
    have X1n := hideIt (blkK X1.out hb)
    have X2n := hideIt (blkK X2.out hb)
    have X3n := hideIt (blkK X3.out hb)
    have BWn := hideIt (below_via BW.out hb)
    clear X1 X2 X3 BW hb c0 c1 cf cz f0 f1 ff fz m0 m2 m19 m20 m21 m22 mf mz hrg
    have X1 := X1n
    have X2 := X2n
    have X3 := X3n
    have BW := BWn
    clear X1n X2n X3n BWn
    obtain ⟨⟨c0, c1⟩, cf, cz⟩ := at2 X1.out
    obtain ⟨⟨f0, f1⟩, ff, fz⟩ := at2 X3.out
    obtain ⟨m0, m2, m19, m20, m21, m22, mf, mz, hrg⟩ := HMC.out _ X2.out
    go_wp2
    obtain ⟨hzz, hoo⟩ := puts2 _ (w.heap.size + 1 + 1) 25 (.int .i64 0) (.slice none 0 0) X3.out
    exact bodyPost_ret (v := .tuple #[.agg #[.int .i64 0, .slice none 0 0], .slice none 0 0, .int .i64 191]) (by simp [results, Tryd.results14, go_sem, cell_at hzz]) rfl (hea_no X3.out BW.out)
theorem map_at {ys l : List TraX} (h : ys.map TraX.v = l.map TraX.v) {i : Nat} (hi : i < ys.length) (hl : i < l.length) : ys[i].v = l[i].v := by
  have := congrArg (fun x : List TraV => x[i]?) h
  simpa [hi, hl] using this
set_option maxHeartbeats 16000000 in
set_option maxRecDepth 100000 in
theorem hear_wound (g : Int) (a : Option Addr) (cp : Nat) (l : List TraX) (m : MesX) (w : World) (i : Nat) (hi : i < l.length) (h : Trs w (.slice a l.length cp) l) (hm : MesAt w m) (hok : m.dst = g ∧ heaB m.kind = true ∧ amsB m.x.v.am (-1) = true) (hat : (fndV m.c m.q m.k m.n m.frm (l.map TraX.v) 0 (-1)).1 = i) (hk6 : m.kind = 6) : Calls Tryd.prog 14 #[.agg #[.int .i64 g, .slice a l.length cp], .agg (mesE m).toArray] w (HeaBack g ((l.map TraX.v).set i (abtV l[i].v 4)) [] 0 w) := by
  have L0 : (mesE m)[0]? = some (.int .i64 m.kind) := rfl
  have L2 : (mesE m)[2]? = some (.int .i64 m.dst) := rfl
  have L19 : (mesE m)[19]? = some (.int .i64 m.x.v.code) := rfl
  have L20 : (mesE m)[20]? = some (.int .i64 m.x.v.num) := rfl
  have L21 : (mesE m)[21]? = some (.slice m.x.aa m.x.v.am.length m.x.ac) := rfl
  have L22 : (mesE m)[22]? = some (.slice m.x.fa m.x.v.fl.length m.x.fc) := rfl
  have HLn : Hid ((Tryd.prog.info? 47).map (·.size) = some (mesE m).length) := by
    show _ = _
    rw [mesK]
    kernel_rfl
  have HFi := hideIt (fun W (hW : Below w.heap.size w W) => findC_is g a cp l m W (h.keep hW))
  have HAm := hideIt (fun W (hW : Below w.heap.size w W) => areAmountsC_is (.slice m.x.aa m.x.v.am.length m.x.ac) m.x.v.am W (hm.keep hW).x.a)
  have HIs := hideIt (fun W => isHeard_is m.kind W)
  have HVt := hideIt (fun (B b n c i k j : Nat) (W : World) (ys : List TraX) (h1 : TrsOwn B W (.slice (some ⟨b, 0, none⟩) n c) ys) (hi : i < ys.length) (hk : k = i * 21) (hj : j < ys[i].ps.length) (hW : Below w.heap.size w W) (h0 : w.heap.size ≤ B) (hB : B ≤ W.heap.size) hs => vote_any m h1 hi hk hj hm hW h0 hB hs)
  have HAk := hideIt (fun (B b n c i k j : Nat) (W : World) (ys : List TraX) (h1 : TrsOwn B W (.slice (some ⟨b, 0, none⟩) n c) ys) (hi : i < ys.length) (hk : k = i * 21) (hj : j < ys[i].ps.length) (hW : Below w.heap.size w W) (h0 : w.heap.size ≤ B) (hB : B ≤ W.heap.size) hs => ack_any m h1 hi hk hj hm hW h0 hB hs)
  have HCo := hideIt (fun W (hW : Below w.heap.size w W) => coordF_is g a cp l W (h.keep hW))
  simp only [fnd_v] at HFi
  generalize mesE m = L at *
  have HMC : Hid (∀ W : World, W.heap[w.heap.size + 1]? = some (.cells L.toArray 47 (0, 0)) → W.cell? ⟨w.heap.size + 1, 0, none⟩ = some (.int .i64 m.kind) ∧ W.cell? ⟨w.heap.size + 1, 2, none⟩ = some (.int .i64 m.dst) ∧ W.cell? ⟨w.heap.size + 1, 19, none⟩ = some (.int .i64 m.x.v.code) ∧ W.cell? ⟨w.heap.size + 1, 20, none⟩ = some (.int .i64 m.x.v.num) ∧ W.cell? ⟨w.heap.size + 1, 21, none⟩ = some (.slice m.x.aa m.x.v.am.length m.x.ac) ∧ W.cell? ⟨w.heap.size + 1, 22, none⟩ = some (.slice m.x.fa m.x.v.fl.length m.x.fc) ∧ (∀ j, W.frozen? ⟨w.heap.size + 1, j, none⟩ = false) ∧ w.heap.size + 1 < W.heap.size ∧ W.rangeAt (w.heap.size + 1) 0 L) := fun W hX =>
    have hl : ∀ j v, L[j]? = some v → W.cell? ⟨w.heap.size + 1, j, none⟩ = some v := fun j v hv => by rw [cell_at hX]; simpa using hv
    ⟨hl 0 _ L0, hl 2 _ L2, hl 19 _ L19, hl 20 _ L20, hl 21 _ L21, hl 22 _ L22, fun j => free_at hX j, (Array.getElem?_eq_some_iff.1 hX).1, fun j v hv => by rw [Nat.zero_add]; exact hl j v hv⟩
  clear L0 L2 L19 L20 L21 L22
  have hX := three_heap w (.cells #[.int .i64 g, .slice a l.length cp] 25) (.cells L.toArray 47) (.cells #[.int .i64 0, .slice none 0 0] 25)
  have X1 := hideIt hX.1
  have X2 := hideIt hX.2.1
  have X3 : Hid ((((w.alloc (.cells #[.int .i64 g, .slice a l.length cp] 25)).alloc (.cells L.toArray 47)).alloc (.cells #[.int .i64 0, .slice none 0 0] 25)).heap[w.heap.size + 1 + 1]? = some (.cells #[.int .i64 0, .slice none 0 0] 25)) := hX.2.2.1
  have BW := hideIt (below3 w (.cells #[.int .i64 g, .slice a l.length cp] 25) (.cells L.toArray 47) (.cells #[.int .i64 0, .slice none 0 0] 25))
  clear hX
  clear HVt HAk
  obtain ⟨hd, hk, ha⟩ := hok
  rw [hk] at HIs
  rw [ha] at HAm
  generalize fndV m.c m.q m.k m.n m.frm (l.map TraX.v) 0 (-1) = FV at *
  obtain ⟨fa, fp⟩ := FV
  dsimp only at hat HFi
  subst hat
  rw [hk6] at HIs HMC
  generalize m.dst = dst at *
  clear h hm hk ha hk6
  obtain rfl : g = dst := hd.symm
  have hfa : ¬ ((i : Int) < 0) := by omega
  have HL : Hid (((l.map TraX.v).set i (abtV l[i].v 4)).length = l.length) := by show _ = _; simp
  by_cases hfp : fp < 0
  · go_enter Tryd.func14, Tryd.ntmps14
    go_upto_region 1 with fail
    generalize ((w.alloc (.cells #[.int .i64 g, .slice a l.length cp] 25)).alloc (.cells L.toArray 47)).alloc (.cells #[.int .i64 0, .slice none 0 0] 25) = W0 at *
    obtain ⟨⟨c0, c1⟩, cf, cz⟩ := at2 X1.out
    obtain ⟨⟨f0, f1⟩, ff, fz⟩ := at2 X3.out
    obtain ⟨m0, m2, m19, m20, m21, m22, mf, mz, hrg⟩ := HMC.out _ X2.out
    go_wp2_with fail
    refine (HIs.out _).mono ?_
    rintro e wq ⟨rfl, e2⟩
    obtain rfl := e2.symm
    dsimp only
    go_wp2_with fail
    refine (HAm.out _ BW.out).mono ?_
    rintro e w1 ⟨rfl, hb⟩
    dsimp only
    have X1n := hideIt (blkK X1.out hb)
    have X2n := hideIt (blkK X2.out hb)
    have X3n := hideIt (blkK X3.out hb)
    have BWn := hideIt (below_via BW.out hb)
    clear X1 X2 X3 BW hb c0 c1 cf cz f0 f1 ff fz m0 m2 m19 m20 m21 m22 mf mz hrg
    have X1 := X1n
    have X2 := X2n
    have X3 := X3n
    have BW := BWn
    clear X1n X2n X3n BWn
    obtain ⟨⟨c0, c1⟩, cf, cz⟩ := at2 X1.out
    obtain ⟨⟨f0, f1⟩, ff, fz⟩ := at2 X3.out
    obtain ⟨m0, m2, m19, m20, m21, m22, mf, mz, hrg⟩ := HMC.out _ X2.out
    go_wp2_with (first | (refine wpList_load_mid rfl _ _ rfl (w.heap.size + 1) 0 rfl L _ hrg Tryd.underlying47 rfl HLn.out ?_; go_frame) | fail)
    refine (HFi.out _ BW.out).mono ?_
    rintro e w2 ⟨rfl, hb⟩
    dsimp only
    have X1n := hideIt (blkK X1.out hb)
    have X2n := hideIt (blkK X2.out hb)
    have X3n := hideIt (blkK X3.out hb)
    have BWn := hideIt (below_via BW.out hb)
    clear X1 X2 X3 BW hb c0 c1 cf cz f0 f1 ff fz m0 m2 m19 m20 m21 m22 mf mz hrg
    have X1 := X1n
    have X2 := X2n
    have X3 := X3n
    have BW := BWn
    clear X1n X2n X3n BWn
    obtain ⟨⟨c0, c1⟩, cf, cz⟩ := at2 X1.out
    obtain ⟨⟨f0, f1⟩, ff, fz⟩ := at2 X3.out
    obtain ⟨m0, m2, m19, m20, m21, m22, mf, mz, hrg⟩ := HMC.out _ X2.out
    go_wp2_with fail
    refine (HCo.out _ BW.out).mono ?_
    rintro e w4 ⟨a', c', ys, rfl, hy, ho, hb⟩
    dsimp only
    have hyl : ys.length = l.length := by have := congrArg List.length hy; simpa using this
    obtain ⟨b, hab⟩ : ∃ b, a' = some ⟨b, 0, none⟩ := by
      obtain ⟨_, ⟨e0, _⟩ | ⟨gg, cap, cur, hv, _⟩⟩ := ho.row
      · simp only [Value.slice.injEq] at e0; omega
      · simp only [Value.slice.injEq] at hv; exact ⟨gg, hv.1⟩
    subst hab
    have hsz := BW.out.size
    have hz3 := (Array.getElem?_eq_some_iff.1 X3.out).1
    have hb9 := below1 w4 (.cells #[.int .i64 g, .slice (some ⟨b, 0, none⟩) l.length c'] 25)
    have hb := below_via hb hb9
    have X5 := hideIt (heap_alloc_new w4 (.cells #[.int .i64 g, .slice (some ⟨b, 0, none⟩) l.length c'] 25))
    have HO := hideIt (ho.keep hb9)
    have hBs : w.heap.size + 3 ≤ w2.heap.size := by omega
    have hBt : w2.heap.size ≤ (w4.alloc (.cells #[.int .i64 g, .slice (some ⟨b, 0, none⟩) l.length c'] 25)).heap.size := hb.size
    have HY := hideIt hy
    have hiy : i < ys.length := by omega
    have HYI := hideIt (map_at hy hiy hi)
    have hi0 : (0 : Int) ≤ (i : Int) := by omega
    have hi1 : (i : Int) < (l.length : Int) := by omega
    clear ho hy hb9 HCo hz3 hsz
    have X1n := hideIt (blkK X1.out hb)
    have X2n := hideIt (blkK X2.out hb)
    have X3n := hideIt (blkK X3.out hb)
    have BWn := hideIt (below_via BW.out hb)
    clear X1 X2 X3 BW hb c0 c1 cf cz f0 f1 ff fz m0 m2 m19 m20 m21 m22 mf mz hrg
    have X1 := X1n
    have X2 := X2n
    have X3 := X3n
    have BW := BWn
    clear X1n X2n X3n BWn
    obtain ⟨⟨c0, c1⟩, cf, cz⟩ := at2 X1.out
    obtain ⟨⟨f0, f1⟩, ff, fz⟩ := at2 X3.out
    obtain ⟨m0, m2, m19, m20, m21, m22, mf, mz, hrg⟩ := HMC.out _ X2.out
    generalize hD : w2.heap.size = D at *
    generalize hN : w4.heap.size = nx at *
    go_upto_region 9 with fail
    generalize w4.alloc (.cells #[.int .i64 g, .slice (some ⟨b, 0, none⟩) l.length c'] 25) = W5 at *
    obtain ⟨⟨n0, n1⟩, nf, nz⟩ := at2 X5.out
    clear hD hN
    have HAb := hideIt (abort_is 4 HO.out hiy rfl)
    go_wp2_with fail
    refine HAb.out.mono ?_
    rintro e w6 ⟨rfl, ht⟩
    dsimp only
    rw [HYI.out] at ht
    clear HAb
    have hX5 := ht.kp _ _ _ X5.out (by unfold noT; decide) (by decide)
    have hX3 := ht.kp _ _ _ X3.out (by unfold noT; decide) (by decide)
    have BW6 := hideIt (BW.out.trans (ht.bel.mono (show w.heap.size ≤ D by omega)))
    have X5' := hideIt hX5
    have X3' := hideIt hX3
    clear hX5 hX3 X5 X3 X1 X2 BW c0 c1 cf cz f0 f1 ff fz m0 m2 m19 m20 m21 m22 mf mz hrg n0 n1 nf nz
    obtain ⟨y, hyv, hyo⟩ := ht.own
    have HYV := hideIt hyv
    have HYO := hideIt hyo
    have hsD := ht.bel.size
    clear ht hyv hyo
    obtain ⟨⟨n0, n1⟩, nf, nz⟩ := at2 X5'.out
    obtain ⟨⟨f0, f1⟩, ff, fz⟩ := at2 X3'.out
    go_wp2
    obtain ⟨hzz, hoo⟩ := puts2 w6 (w.heap.size + 1 + 1) 25 (.int .i64 g) (.slice (some ⟨b, 0, none⟩) l.length c') X3'.out
    have hlen : ((l.map TraX.v).set i y.v).length = l.length := by simp
    have hmap : (ys.set i y).map TraX.v = (l.map TraX.v).set i y.v := by rw [List.map_set, HY.out]
    refine bodyPost_ret (v := .tuple #[.agg #[.int .i64 g, (.slice (some ⟨b, 0, none⟩) l.length c')], (.slice none 0 0), .int .i64 0]) (by simp [results, Tryd.results14, go_sem, cell_at hzz]) rfl ?_
    have hfin := (HYO.out.out hoo (fun k hk => by omega)).base (show w.heap.size ≤ D by omega)
    rw [← HYV.out]
    refine ⟨some ⟨b, 0, none⟩, c', ys.set i y, _, _, by rw [hlen]; rfl, hmap, by rw [hlen]; exact hfin, ?_, below_out BW6.out hoo (fun k hk => by omega)⟩
    exact own_nil _ _
  · go_enter Tryd.func14, Tryd.ntmps14
    go_upto_region 1 with fail
    generalize ((w.alloc (.cells #[.int .i64 g, .slice a l.length cp] 25)).alloc (.cells L.toArray 47)).alloc (.cells #[.int .i64 0, .slice none 0 0] 25) = W0 at *
    obtain ⟨⟨c0, c1⟩, cf, cz⟩ := at2 X1.out
    obtain ⟨⟨f0, f1⟩, ff, fz⟩ := at2 X3.out
    obtain ⟨m0, m2, m19, m20, m21, m22, mf, mz, hrg⟩ := HMC.out _ X2.out
    go_wp2_with fail
    refine (HIs.out _).mono ?_
    rintro e wq ⟨rfl, e2⟩
    obtain rfl := e2.symm
    dsimp only
    go_wp2_with fail
    refine (HAm.out _ BW.out).mono ?_
    rintro e w1 ⟨rfl, hb⟩
    dsimp only
    have X1n := hideIt (blkK X1.out hb)
    have X2n := hideIt (blkK X2.out hb)
    have X3n := hideIt (blkK X3.out hb)
    have BWn := hideIt (below_via BW.out hb)
    clear X1 X2 X3 BW hb c0 c1 cf cz f0 f1 ff fz m0 m2 m19 m20 m21 m22 mf mz hrg
    have X1 := X1n
    have X2 := X2n
    have X3 := X3n
    have BW := BWn
    clear X1n X2n X3n BWn
    obtain ⟨⟨c0, c1⟩, cf, cz⟩ := at2 X1.out
    obtain ⟨⟨f0, f1⟩, ff, fz⟩ := at2 X3.out
    obtain ⟨m0, m2, m19, m20, m21, m22, mf, mz, hrg⟩ := HMC.out _ X2.out
    go_wp2_with (first | (refine wpList_load_mid rfl _ _ rfl (w.heap.size + 1) 0 rfl L _ hrg Tryd.underlying47 rfl HLn.out ?_; go_frame) | fail)
    refine (HFi.out _ BW.out).mono ?_
    rintro e w2 ⟨rfl, hb⟩
    dsimp only
    have X1n := hideIt (blkK X1.out hb)
    have X2n := hideIt (blkK X2.out hb)
    have X3n := hideIt (blkK X3.out hb)
    have BWn := hideIt (below_via BW.out hb)
    clear X1 X2 X3 BW hb c0 c1 cf cz f0 f1 ff fz m0 m2 m19 m20 m21 m22 mf mz hrg
    have X1 := X1n
    have X2 := X2n
    have X3 := X3n
    have BW := BWn
    clear X1n X2n X3n BWn
    obtain ⟨⟨c0, c1⟩, cf, cz⟩ := at2 X1.out
    obtain ⟨⟨f0, f1⟩, ff, fz⟩ := at2 X3.out
    obtain ⟨m0, m2, m19, m20, m21, m22, mf, mz, hrg⟩ := HMC.out _ X2.out
    go_wp2_with fail
    refine (HCo.out _ BW.out).mono ?_
    rintro e w4 ⟨a', c', ys, rfl, hy, ho, hb⟩
    dsimp only
    have hyl : ys.length = l.length := by have := congrArg List.length hy; simpa using this
    obtain ⟨b, hab⟩ : ∃ b, a' = some ⟨b, 0, none⟩ := by
      obtain ⟨_, ⟨e0, _⟩ | ⟨gg, cap, cur, hv, _⟩⟩ := ho.row
      · simp only [Value.slice.injEq] at e0; omega
      · simp only [Value.slice.injEq] at hv; exact ⟨gg, hv.1⟩
    subst hab
    have hsz := BW.out.size
    have hz3 := (Array.getElem?_eq_some_iff.1 X3.out).1
    have hb9 := below1 w4 (.cells #[.int .i64 g, .slice (some ⟨b, 0, none⟩) l.length c'] 25)
    have hb := below_via hb hb9
    have X5 := hideIt (heap_alloc_new w4 (.cells #[.int .i64 g, .slice (some ⟨b, 0, none⟩) l.length c'] 25))
    have HO := hideIt (ho.keep hb9)
    have hBs : w.heap.size + 3 ≤ w2.heap.size := by omega
    have hBt : w2.heap.size ≤ (w4.alloc (.cells #[.int .i64 g, .slice (some ⟨b, 0, none⟩) l.length c'] 25)).heap.size := hb.size
    have HY := hideIt hy
    have hiy : i < ys.length := by omega
    have HYI := hideIt (map_at hy hiy hi)
    have hi0 : (0 : Int) ≤ (i : Int) := by omega
    have hi1 : (i : Int) < (l.length : Int) := by omega
    clear ho hy hb9 HCo hz3 hsz
    have X1n := hideIt (blkK X1.out hb)
    have X2n := hideIt (blkK X2.out hb)
    have X3n := hideIt (blkK X3.out hb)
    have BWn := hideIt (below_via BW.out hb)
    clear X1 X2 X3 BW hb c0 c1 cf cz f0 f1 ff fz m0 m2 m19 m20 m21 m22 mf mz hrg
    have X1 := X1n
    have X2 := X2n
    have X3 := X3n
    have BW := BWn
    clear X1n X2n X3n BWn
    obtain ⟨⟨c0, c1⟩, cf, cz⟩ := at2 X1.out
    obtain ⟨⟨f0, f1⟩, ff, fz⟩ := at2 X3.out
    obtain ⟨m0, m2, m19, m20, m21, m22, mf, mz, hrg⟩ := HMC.out _ X2.out
    generalize hD : w2.heap.size = D at *
    generalize hN : w4.heap.size = nx at *
    go_upto_region 9 with fail
    generalize w4.alloc (.cells #[.int .i64 g, .slice (some ⟨b, 0, none⟩) l.length c'] 25) = W5 at *
    obtain ⟨⟨n0, n1⟩, nf, nz⟩ := at2 X5.out
    clear hD hN
    have HAb := hideIt (abort_is 4 HO.out hiy rfl)
    go_wp2_with fail
    refine HAb.out.mono ?_
    rintro e w6 ⟨rfl, ht⟩
    dsimp only
    rw [HYI.out] at ht
    clear HAb
    have hX5 := ht.kp _ _ _ X5.out (by unfold noT; decide) (by decide)
    have hX3 := ht.kp _ _ _ X3.out (by unfold noT; decide) (by decide)
    have BW6 := hideIt (BW.out.trans (ht.bel.mono (show w.heap.size ≤ D by omega)))
    have X5' := hideIt hX5
    have X3' := hideIt hX3
    clear hX5 hX3 X5 X3 X1 X2 BW c0 c1 cf cz f0 f1 ff fz m0 m2 m19 m20 m21 m22 mf mz hrg n0 n1 nf nz
    obtain ⟨y, hyv, hyo⟩ := ht.own
    have HYV := hideIt hyv
    have HYO := hideIt hyo
    have hsD := ht.bel.size
    clear ht hyv hyo
    obtain ⟨⟨n0, n1⟩, nf, nz⟩ := at2 X5'.out
    obtain ⟨⟨f0, f1⟩, ff, fz⟩ := at2 X3'.out
    go_wp2
    obtain ⟨hzz, hoo⟩ := puts2 w6 (w.heap.size + 1 + 1) 25 (.int .i64 g) (.slice (some ⟨b, 0, none⟩) l.length c') X3'.out
    have hlen : ((l.map TraX.v).set i y.v).length = l.length := by simp
    have hmap : (ys.set i y).map TraX.v = (l.map TraX.v).set i y.v := by rw [List.map_set, HY.out]
    refine bodyPost_ret (v := .tuple #[.agg #[.int .i64 g, (.slice (some ⟨b, 0, none⟩) l.length c')], (.slice none 0 0), .int .i64 0]) (by simp [results, Tryd.results14, go_sem, cell_at hzz]) rfl ?_
    have hfin := (HYO.out.out hoo (fun k hk => by omega)).base (show w.heap.size ≤ D by omega)
    rw [← HYV.out]
    refine ⟨some ⟨b, 0, none⟩, c', ys.set i y, _, _, by rw [hlen]; rfl, hmap, by rw [hlen]; exact hfin, ?_, below_out BW6.out hoo (fun k hk => by omega)⟩
    exact own_nil _ _
end Go.Proofs.YtilinemcmgjiiaaDoor
namespace Go.Proofs.YtilinemcmgjiiaaDoor
open Go.RowKit
set_option linter.all false
set_option maxHeartbeats 16000000 in
set_option maxRecDepth 100000 in
theorem hear_vote (g : Int) (a : Option Addr) (cp : Nat) (l : List TraX) (m : MesX) (w : World) (i j : Nat) (hi : i < l.length) (hj : j < l[i].ps.length) (h : Trs w (.slice a l.length cp) l) (hm : MesAt w m) (hok : m.dst = g ∧ heaB m.kind = true ∧ amsB m.x.v.am (-1) = true) (hat : fndV m.c m.q m.k m.n m.frm (l.map TraX.v) 0 (-1) = ((i : Int), (j : Int))) (hk3 : m.kind = 3) (hs : (l[i].cx.length + m.cx.length) * 144 ≤ 140737488355328) : Calls Tryd.prog 14 #[.agg #[.int .i64 g, .slice a l.length cp], .agg (mesE m).toArray] w (HeaBack g ((l.map TraX.v).set i (vtV l[i].v j m).1) (if (vtV l[i].v j m).2 = true then [((vtV l[i].v j m).1.c, (vtV l[i].v j m).1.q)] else []) 0 w) := by
  have L0 : (mesE m)[0]? = some (.int .i64 m.kind) := rfl
  have L2 : (mesE m)[2]? = some (.int .i64 m.dst) := rfl
  have L19 : (mesE m)[19]? = some (.int .i64 m.x.v.code) := rfl
  have L20 : (mesE m)[20]? = some (.int .i64 m.x.v.num) := rfl
  have L21 : (mesE m)[21]? = some (.slice m.x.aa m.x.v.am.length m.x.ac) := rfl
  have L22 : (mesE m)[22]? = some (.slice m.x.fa m.x.v.fl.length m.x.fc) := rfl
  have HLn : Hid ((Tryd.prog.info? 47).map (·.size) = some (mesE m).length) := by
    show _ = _
    rw [mesK]
    kernel_rfl
  have HFi := hideIt (fun W (hW : Below w.heap.size w W) => findC_is g a cp l m W (h.keep hW))
  have HAm := hideIt (fun W (hW : Below w.heap.size w W) => areAmountsC_is (.slice m.x.aa m.x.v.am.length m.x.ac) m.x.v.am W (hm.keep hW).x.a)
  have HIs := hideIt (fun W => isHeard_is m.kind W)
  have HVt := hideIt (fun (B b n c i k j : Nat) (W : World) (ys : List TraX) (h1 : TrsOwn B W (.slice (some ⟨b, 0, none⟩) n c) ys) (hi : i < ys.length) (hk : k = i * 21) (hj : j < ys[i].ps.length) (hW : Below w.heap.size w W) (h0 : w.heap.size ≤ B) (hB : B ≤ W.heap.size) hs => vote_any m h1 hi hk hj hm hW h0 hB hs)
  have HAk := hideIt (fun (B b n c i k j : Nat) (W : World) (ys : List TraX) (h1 : TrsOwn B W (.slice (some ⟨b, 0, none⟩) n c) ys) (hi : i < ys.length) (hk : k = i * 21) (hj : j < ys[i].ps.length) (hW : Below w.heap.size w W) (h0 : w.heap.size ≤ B) (hB : B ≤ W.heap.size) hs => ack_any m h1 hi hk hj hm hW h0 hB hs)
  have HCo := hideIt (fun W (hW : Below w.heap.size w W) => coordF_is g a cp l W (h.keep hW))
  simp only [fnd_v] at HFi
  generalize mesE m = L at *
  have HMC : Hid (∀ W : World, W.heap[w.heap.size + 1]? = some (.cells L.toArray 47 (0, 0)) → W.cell? ⟨w.heap.size + 1, 0, none⟩ = some (.int .i64 m.kind) ∧ W.cell? ⟨w.heap.size + 1, 2, none⟩ = some (.int .i64 m.dst) ∧ W.cell? ⟨w.heap.size + 1, 19, none⟩ = some (.int .i64 m.x.v.code) ∧ W.cell? ⟨w.heap.size + 1, 20, none⟩ = some (.int .i64 m.x.v.num) ∧ W.cell? ⟨w.heap.size + 1, 21, none⟩ = some (.slice m.x.aa m.x.v.am.length m.x.ac) ∧ W.cell? ⟨w.heap.size + 1, 22, none⟩ = some (.slice m.x.fa m.x.v.fl.length m.x.fc) ∧ (∀ j, W.frozen? ⟨w.heap.size + 1, j, none⟩ = false) ∧ w.heap.size + 1 < W.heap.size ∧ W.rangeAt (w.heap.size + 1) 0 L) := fun W hX =>
    have hl : ∀ j v, L[j]? = some v → W.cell? ⟨w.heap.size + 1, j, none⟩ = some v := fun j v hv => by rw [cell_at hX]; simpa using hv
    ⟨hl 0 _ L0, hl 2 _ L2, hl 19 _ L19, hl 20 _ L20, hl 21 _ L21, hl 22 _ L22, fun j => free_at hX j, (Array.getElem?_eq_some_iff.1 hX).1, fun j v hv => by rw [Nat.zero_add]; exact hl j v hv⟩
  clear L0 L2 L19 L20 L21 L22
  have hX := three_heap w (.cells #[.int .i64 g, .slice a l.length cp] 25) (.cells L.toArray 47) (.cells #[.int .i64 0, .slice none 0 0] 25)
  have X1 := hideIt hX.1
  have X2 := hideIt hX.2.1
  have X3 : Hid ((((w.alloc (.cells #[.int .i64 g, .slice a l.length cp] 25)).alloc (.cells L.toArray 47)).alloc (.cells #[.int .i64 0, .slice none 0 0] 25)).heap[w.heap.size + 1 + 1]? = some (.cells #[.int .i64 0, .slice none 0 0] 25)) := hX.2.2.1
  have BW := hideIt (below3 w (.cells #[.int .i64 g, .slice a l.length cp] 25) (.cells L.toArray 47) (.cells #[.int .i64 0, .slice none 0 0] 25))
  clear hX
  clear HAk
  obtain ⟨hd, hk, ha⟩ := hok
  rw [hk] at HIs
  rw [ha] at HAm
  rw [hat] at HFi
  dsimp only at HFi
  rw [hk3] at HIs HMC
  generalize m.dst = dst at *
  clear h hm hk ha hk3 hat
  obtain rfl : g = dst := hd.symm
  have hfa : ¬ ((i : Int) < 0) := by omega
  have hfp : ¬ ((j : Int) < 0) := by omega
  have HJ : Hid (∀ x : TraX, x.v = l[i].v → j < x.ps.length ∧ (x.cx.length + m.cx.length) * 144 ≤ 140737488355328) := fun x hx => by
    have e1 : x.ps = l[i].ps := congrArg TraV.ps hx
    have e2 : x.cx.length = l[i].cx.length := by have := congrArg (fun t : TraV => t.ce.length) hx; simpa [TraX.v] using this
    rw [e1, e2]
    exact ⟨hj, hs⟩
  clear hj hs
  obtain ⟨VR, hV⟩ : ∃ VR, VR = vtV l[i].v j m := ⟨_, rfl⟩
  rw [← hV]
  have HVE := hideIt hV
  clear hV
  obtain ⟨T, r⟩ := VR
  dsimp only
  cases r
  · rw [if_neg (by decide)]
    go_enter Tryd.func14, Tryd.ntmps14
    go_upto_region 1 with fail
    generalize ((w.alloc (.cells #[.int .i64 g, .slice a l.length cp] 25)).alloc (.cells L.toArray 47)).alloc (.cells #[.int .i64 0, .slice none 0 0] 25) = W0 at *
    obtain ⟨⟨c0, c1⟩, cf, cz⟩ := at2 X1.out
    obtain ⟨⟨f0, f1⟩, ff, fz⟩ := at2 X3.out
    obtain ⟨m0, m2, m19, m20, m21, m22, mf, mz, hrg⟩ := HMC.out _ X2.out
    go_wp2_with fail
    refine (HIs.out _).mono ?_
    rintro e wq ⟨rfl, e2⟩
    obtain rfl := e2.symm
    dsimp only
    go_wp2_with fail
    refine (HAm.out _ BW.out).mono ?_
    rintro e w1 ⟨rfl, hb⟩
    dsimp only
    have X1n := hideIt (blkK X1.out hb)
    have X2n := hideIt (blkK X2.out hb)
    have X3n := hideIt (blkK X3.out hb)
    have BWn := hideIt (below_via BW.out hb)
    clear X1 X2 X3 BW hb c0 c1 cf cz f0 f1 ff fz m0 m2 m19 m20 m21 m22 mf mz hrg
    have X1 := X1n
    have X2 := X2n
    have X3 := X3n
    have BW := BWn
    clear X1n X2n X3n BWn
    obtain ⟨⟨c0, c1⟩, cf, cz⟩ := at2 X1.out
    obtain ⟨⟨f0, f1⟩, ff, fz⟩ := at2 X3.out
    obtain ⟨m0, m2, m19, m20, m21, m22, mf, mz, hrg⟩ := HMC.out _ X2.out
    go_wp2_with (first | (refine wpList_load_mid rfl _ _ rfl (w.heap.size + 1) 0 rfl L _ hrg Tryd.underlying47 rfl HLn.out ?_; go_frame) | fail)
    refine (HFi.out _ BW.out).mono ?_
    rintro e w2 ⟨rfl, hb⟩
    dsimp only
    have X1n := hideIt (blkK X1.out hb)
    have X2n := hideIt (blkK X2.out hb)
    have X3n := hideIt (blkK X3.out hb)
    have BWn := hideIt (below_via BW.out hb)
    clear X1 X2 X3 BW hb c0 c1 cf cz f0 f1 ff fz m0 m2 m19 m20 m21 m22 mf mz hrg
    have X1 := X1n
    have X2 := X2n
    have X3 := X3n
    have BW := BWn
    clear X1n X2n X3n BWn
    obtain ⟨⟨c0, c1⟩, cf, cz⟩ := at2 X1.out
    obtain ⟨⟨f0, f1⟩, ff, fz⟩ := at2 X3.out
    obtain ⟨m0, m2, m19, m20, m21, m22, mf, mz, hrg⟩ := HMC.out _ X2.out
    go_wp2_with fail
    refine (HCo.out _ BW.out).mono ?_
    rintro e w4 ⟨a', c', ys, rfl, hy, ho, hb⟩
    dsimp only
    have hyl : ys.length = l.length := by have := congrArg List.length hy; simpa using this
    obtain ⟨b, hab⟩ : ∃ b, a' = some ⟨b, 0, none⟩ := by
      obtain ⟨_, ⟨e0, _⟩ | ⟨gg, cap, cur, hv, _⟩⟩ := ho.row
      · simp only [Value.slice.injEq] at e0; omega
      · simp only [Value.slice.injEq] at hv; exact ⟨gg, hv.1⟩
    subst hab
    have hsz := BW.out.size
    have hz3 := (Array.getElem?_eq_some_iff.1 X3.out).1
    have hb9 := below1 w4 (.cells #[.int .i64 g, .slice (some ⟨b, 0, none⟩) l.length c'] 25)
    have hb := below_via hb hb9
    have X5 := hideIt (heap_alloc_new w4 (.cells #[.int .i64 g, .slice (some ⟨b, 0, none⟩) l.length c'] 25))
    have HO := hideIt (ho.keep hb9)
    have hBs : w.heap.size + 3 ≤ w2.heap.size := by omega
    have hBt : w2.heap.size ≤ (w4.alloc (.cells #[.int .i64 g, .slice (some ⟨b, 0, none⟩) l.length c'] 25)).heap.size := hb.size
    have HY := hideIt hy
    have hiy : i < ys.length := by omega
    have HYI := hideIt (map_at hy hiy hi)
    have hi0 : (0 : Int) ≤ (i : Int) := by omega
    have hi1 : (i : Int) < (l.length : Int) := by omega
    clear ho hy hb9 HCo hz3 hsz
    have X1n := hideIt (blkK X1.out hb)
    have X2n := hideIt (blkK X2.out hb)
    have X3n := hideIt (blkK X3.out hb)
    have BWn := hideIt (below_via BW.out hb)
    clear X1 X2 X3 BW hb c0 c1 cf cz f0 f1 ff fz m0 m2 m19 m20 m21 m22 mf mz hrg
    have X1 := X1n
    have X2 := X2n
    have X3 := X3n
    have BW := BWn
    clear X1n X2n X3n BWn
    obtain ⟨⟨c0, c1⟩, cf, cz⟩ := at2 X1.out
    obtain ⟨⟨f0, f1⟩, ff, fz⟩ := at2 X3.out
    obtain ⟨m0, m2, m19, m20, m21, m22, mf, mz, hrg⟩ := HMC.out _ X2.out
    generalize hD : w2.heap.size = D at *
    generalize hN : w4.heap.size = nx at *
    go_upto_region 9 with fail
    generalize w4.alloc (.cells #[.int .i64 g, .slice (some ⟨b, 0, none⟩) l.length c'] 25) = W5 at *
    obtain ⟨⟨n0, n1⟩, nf, nz⟩ := at2 X5.out
    clear hD hN
    have HVc := hideIt (HVt.out D b l.length c' i (i * 21) j W5 ys HO.out hiy rfl (HJ.out _ HYI.out).1 BW.out (by omega) hBt (HJ.out _ HYI.out).2)
    rw [HYI.out, ← HVE.out] at HVc
    clear HVt HJ HVE
    dsimp only at HVc
    go_wp2_with (first | (refine wpList_load_mid rfl _ _ rfl (w.heap.size + 1) 0 rfl L _ hrg Tryd.underlying47 rfl HLn.out ?_; go_frame) | fail)
    refine HVc.out.mono ?_
    rintro e w6 ⟨rfl, ht⟩
    dsimp only
    clear HVc
    have hX5 := ht.kp _ _ _ X5.out (by unfold noT; decide) (by decide)
    have hX3 := ht.kp _ _ _ X3.out (by unfold noT; decide) (by decide)
    have BW6 := hideIt (BW.out.trans (ht.bel.mono (show w.heap.size ≤ D by omega)))
    have X5' := hideIt hX5
    have X3' := hideIt hX3
    clear hX5 hX3 X5 X3 X1 X2 BW c0 c1 cf cz f0 f1 ff fz m0 m2 m19 m20 m21 m22 mf mz hrg n0 n1 nf nz
    obtain ⟨y, hyv, hyo⟩ := ht.own
    have HYV := hideIt hyv
    have HYO := hideIt hyo
    have hsD := ht.bel.size
    clear ht hyv hyo
    obtain ⟨⟨n0, n1⟩, nf, nz⟩ := at2 X5'.out
    obtain ⟨⟨f0, f1⟩, ff, fz⟩ := at2 X3'.out
    go_wp2
    obtain ⟨hzz, hoo⟩ := puts2 w6 (w.heap.size + 1 + 1) 25 (.int .i64 g) (.slice (some ⟨b, 0, none⟩) l.length c') X3'.out
    have hlen : ((l.map TraX.v).set i y.v).length = l.length := by simp
    have hmap : (ys.set i y).map TraX.v = (l.map TraX.v).set i y.v := by rw [List.map_set, HY.out]
    refine bodyPost_ret (v := .tuple #[.agg #[.int .i64 g, (.slice (some ⟨b, 0, none⟩) l.length c')], (.slice none 0 0), .int .i64 0]) (by simp [results, Tryd.results14, go_sem, cell_at hzz]) rfl ?_
    have hfin := (HYO.out.out hoo (fun k hk => by omega)).base (show w.heap.size ≤ D by omega)
    rw [← HYV.out]
    refine ⟨some ⟨b, 0, none⟩, c', ys.set i y, _, _, by rw [hlen]; rfl, hmap, by rw [hlen]; exact hfin, ?_, below_out BW6.out hoo (fun k hk => by omega)⟩
    exact own_nil _ _
  · rw [if_pos rfl]
    go_enter Tryd.func14, Tryd.ntmps14
    go_upto_region 1 with fail
    generalize ((w.alloc (.cells #[.int .i64 g, .slice a l.length cp] 25)).alloc (.cells L.toArray 47)).alloc (.cells #[.int .i64 0, .slice none 0 0] 25) = W0 at *
    obtain ⟨⟨c0, c1⟩, cf, cz⟩ := at2 X1.out
    obtain ⟨⟨f0, f1⟩, ff, fz⟩ := at2 X3.out
    obtain ⟨m0, m2, m19, m20, m21, m22, mf, mz, hrg⟩ := HMC.out _ X2.out
    go_wp2_with fail
    refine (HIs.out _).mono ?_
    rintro e wq ⟨rfl, e2⟩
    obtain rfl := e2.symm
    dsimp only
    go_wp2_with fail
    refine (HAm.out _ BW.out).mono ?_
    rintro e w1 ⟨rfl, hb⟩
    dsimp only
    have X1n := hideIt (blkK X1.out hb)
    have X2n := hideIt (blkK X2.out hb)
    have X3n := hideIt (blkK X3.out hb)
    have BWn := hideIt (below_via BW.out hb)
    clear X1 X2 X3 BW hb c0 c1 cf cz f0 f1 ff fz m0 m2 m19 m20 m21 m22 mf mz hrg
    have X1 := X1n
    have X2 := X2n
    have X3 := X3n
    have BW := BWn
    clear X1n X2n X3n BWn
    obtain ⟨⟨c0, c1⟩, cf, cz⟩ := at2 X1.out
    obtain ⟨⟨f0, f1⟩, ff, fz⟩ := at2 X3.out
    obtain ⟨m0, m2, m19, m20, m21, m22, mf, mz, hrg⟩ := HMC.out _ X2.out
    go_wp2_with (first | (refine wpList_load_mid rfl _ _ rfl (w.heap.size + 1) 0 rfl L _ hrg Tryd.underlying47 rfl HLn.out ?_; go_frame) | fail)
    refine (HFi.out _ BW.out).mono ?_
    rintro e w2 ⟨rfl, hb⟩
    dsimp only
    have X1n := hideIt (blkK X1.out hb)
    have X2n := hideIt (blkK X2.out hb)
    have X3n := hideIt (blkK X3.out hb)
    have BWn := hideIt (below_via BW.out hb)
    clear X1 X2 X3 BW hb c0 c1 cf cz f0 f1 ff fz m0 m2 m19 m20 m21 m22 mf mz hrg
    have X1 := X1n
    have X2 := X2n
    have X3 := X3n
    have BW := BWn
    clear X1n X2n X3n BWn
    obtain ⟨⟨c0, c1⟩, cf, cz⟩ := at2 X1.out
    obtain ⟨⟨f0, f1⟩, ff, fz⟩ := at2 X3.out
    obtain ⟨m0, m2, m19, m20, m21, m22, mf, mz, hrg⟩ := HMC.out _ X2.out
    go_wp2_with fail
    refine (HCo.out _ BW.out).mono ?_
    rintro e w4 ⟨a', c', ys, rfl, hy, ho, hb⟩
    dsimp only
    have hyl : ys.length = l.length := by have := congrArg List.length hy; simpa using this
    obtain ⟨b, hab⟩ : ∃ b, a' = some ⟨b, 0, none⟩ := by
      obtain ⟨_, ⟨e0, _⟩ | ⟨gg, cap, cur, hv, _⟩⟩ := ho.row
      · simp only [Value.slice.injEq] at e0; omega
      · simp only [Value.slice.injEq] at hv; exact ⟨gg, hv.1⟩
    subst hab
    have hsz := BW.out.size
    have hz3 := (Array.getElem?_eq_some_iff.1 X3.out).1
    have hb9 := below1 w4 (.cells #[.int .i64 g, .slice (some ⟨b, 0, none⟩) l.length c'] 25)
    have hb := below_via hb hb9
    have X5 := hideIt (heap_alloc_new w4 (.cells #[.int .i64 g, .slice (some ⟨b, 0, none⟩) l.length c'] 25))
    have HO := hideIt (ho.keep hb9)
    have hBs : w.heap.size + 3 ≤ w2.heap.size := by omega
    have hBt : w2.heap.size ≤ (w4.alloc (.cells #[.int .i64 g, .slice (some ⟨b, 0, none⟩) l.length c'] 25)).heap.size := hb.size
    have HY := hideIt hy
    have hiy : i < ys.length := by omega
    have HYI := hideIt (map_at hy hiy hi)
    have hi0 : (0 : Int) ≤ (i : Int) := by omega
    have hi1 : (i : Int) < (l.length : Int) := by omega
    clear ho hy hb9 HCo hz3 hsz
    have X1n := hideIt (blkK X1.out hb)
    have X2n := hideIt (blkK X2.out hb)
    have X3n := hideIt (blkK X3.out hb)
    have BWn := hideIt (below_via BW.out hb)
    clear X1 X2 X3 BW hb c0 c1 cf cz f0 f1 ff fz m0 m2 m19 m20 m21 m22 mf mz hrg
    have X1 := X1n
    have X2 := X2n
    have X3 := X3n
    have BW := BWn
    clear X1n X2n X3n BWn
    obtain ⟨⟨c0, c1⟩, cf, cz⟩ := at2 X1.out
    obtain ⟨⟨f0, f1⟩, ff, fz⟩ := at2 X3.out
    obtain ⟨m0, m2, m19, m20, m21, m22, mf, mz, hrg⟩ := HMC.out _ X2.out
    generalize hD : w2.heap.size = D at *
    generalize hN : w4.heap.size = nx at *
    go_upto_region 9 with fail
    generalize w4.alloc (.cells #[.int .i64 g, .slice (some ⟨b, 0, none⟩) l.length c'] 25) = W5 at *
    obtain ⟨⟨n0, n1⟩, nf, nz⟩ := at2 X5.out
    clear hD hN
    have HVc := hideIt (HVt.out D b l.length c' i (i * 21) j W5 ys HO.out hiy rfl (HJ.out _ HYI.out).1 BW.out (by omega) hBt (HJ.out _ HYI.out).2)
    rw [HYI.out, ← HVE.out] at HVc
    clear HVt HJ HVE
    dsimp only at HVc
    go_wp2_with (first | (refine wpList_load_mid rfl _ _ rfl (w.heap.size + 1) 0 rfl L _ hrg Tryd.underlying47 rfl HLn.out ?_; go_frame) | fail)
    refine HVc.out.mono ?_
    rintro e w6 ⟨rfl, ht⟩
    dsimp only
    clear HVc
    have hX5 := ht.kp _ _ _ X5.out (by unfold noT; decide) (by decide)
    have hX3 := ht.kp _ _ _ X3.out (by unfold noT; decide) (by decide)
    have BW6 := hideIt (BW.out.trans (ht.bel.mono (show w.heap.size ≤ D by omega)))
    have X5' := hideIt hX5
    have X3' := hideIt hX3
    clear hX5 hX3 X5 X3 X1 X2 BW c0 c1 cf cz f0 f1 ff fz m0 m2 m19 m20 m21 m22 mf mz hrg n0 n1 nf nz
    obtain ⟨y, hyv, hyo⟩ := ht.own
    have HYV := hideIt hyv
    have HYO := hideIt hyo
    have hsD := ht.bel.size
    clear ht hyv hyo
    have hiz : i < (ys.set i y).length := by rw [List.length_set]; exact hiy
    obtain ⟨hc, hf, hz⟩ := HYO.out.cellAt hiz
    rw [set_at hiz] at hc
    have t0 : w6.cell? ⟨b, i * 21, none⟩ = some (.int .i64 y.c) := hc 0 _ rfl
    have t1 : w6.cell? ⟨b, i * 21 + 1, none⟩ = some (.int .i64 y.q) := hc 1 _ rfl
    have hbA := below1 w6 (.cells #[.int .i64 y.c, .int .i64 y.q, .bool true] 57)
    obtain ⟨v', w', hrun, how, hgr⟩ := app1 (enc := marE) (t := 31) marK mar1 Tryd.underlying31 infoMar rfl (by omega) (w6.alloc (.cells #[.int .i64 y.c, .int .i64 y.q, .bool true] 57)) (w6.alloc (.cells #[.int .i64 y.c, .int .i64 y.q, .bool true] 57)).heap.size (.slice none 0 0) [] (y.c, y.q) w6.heap.size 1 (Nat.le_refl _) (own_nil _ _) (heap_alloc_new w6 _) (by simp) (by unfold maxLen; simp)
    have hbG : Below w6.heap.size w6 w' := below_via hbA (grown_own (e := 57) (z := 3) hgr (own_nil _ (w6.alloc (.cells #[.int .i64 y.c, .int .i64 y.q, .bool true] 57)).heap.size) (Nat.le_refl _) (Below.refl _ _))
    obtain ⟨va, vc, rfl⟩ := own_len how
    have HRUN := hideIt hrun
    have HOW := hideIt how
    have hX5 := hideIt (blkK X5'.out hbG)
    have hX3 := hideIt (blkK X3'.out hbG)
    have hYO := hideIt (HYO.out.keep hbG)
    have hBW := hideIt (below_via BW6.out hbG)
    have hs6 : w6.heap.size ≤ (w6.alloc (.cells #[.int .i64 y.c, .int .i64 y.q, .bool true] 57)).heap.size := hbA.size
    clear hrun how hgr hbA hbG hc X5' X3' HYO BW6
    go_upto_region 17 with (at_builtin; refine Lib.wpList_append_run _ rfl _ _ _ _ rfl _ _ rfl rfl _ _ HRUN.out ?_)
    clear HRUN t0 t1 hf hz
    have X5' := hX5
    have X3' := hX3
    have HYO := hYO
    have BW6 := hBW
    clear hX5 hX3 hYO hBW
    obtain ⟨⟨n0, n1⟩, nf, nz⟩ := at2 X5'.out
    obtain ⟨⟨f0, f1⟩, ff, fz⟩ := at2 X3'.out
    go_wp2
    obtain ⟨hzz, hoo⟩ := puts2 w' (w.heap.size + 1 + 1) 25 (.int .i64 g) (.slice (some ⟨b, 0, none⟩) l.length c') X3'.out
    have hlen : ((l.map TraX.v).set i y.v).length = l.length := by simp
    have hmap : (ys.set i y).map TraX.v = (l.map TraX.v).set i y.v := by rw [List.map_set, HY.out]
    refine bodyPost_ret (v := .tuple #[.agg #[.int .i64 g, (.slice (some ⟨b, 0, none⟩) l.length c')], (.slice va 1 vc), .int .i64 0]) (by simp [results, Tryd.results14, go_sem, cell_at hzz]) rfl ?_
    have hfin := (HYO.out.out hoo (fun k hk => by omega)).base (show w.heap.size ≤ D by omega)
    rw [← HYV.out]
    refine ⟨some ⟨b, 0, none⟩, c', ys.set i y, _, _, by rw [hlen]; rfl, hmap, by rw [hlen]; exact hfin, ?_, below_out BW6.out hoo (fun k hk => by omega)⟩
    have e1 : y.v.c = y.c := rfl
    have e2 : y.v.q = y.q := rfl
    rw [e1, e2]
    exact own_base (own_out HOW.out hoo (fun k hk => by omega)) (by omega)
set_option maxHeartbeats 16000000 in
set_option maxRecDepth 100000 in
theorem hear_ack (g : Int) (a : Option Addr) (cp : Nat) (l : List TraX) (m : MesX) (w : World) (i j : Nat) (hi : i < l.length) (hj : j < l[i].ps.length) (h : Trs w (.slice a l.length cp) l) (hm : MesAt w m) (hok : m.dst = g ∧ heaB m.kind = true ∧ amsB m.x.v.am (-1) = true) (hat : fndV m.c m.q m.k m.n m.frm (l.map TraX.v) 0 (-1) = ((i : Int), (j : Int))) (hk5 : m.kind = 5) (hs : (l[i].x.v.fl.length + m.x.v.fl.length) * 32 ≤ 140737488355328) : Calls Tryd.prog 14 #[.agg #[.int .i64 g, .slice a l.length cp], .agg (mesE m).toArray] w (HeaBack g ((l.map TraX.v).set i (akV l[i].v j m)) [] 0 w) := by
  have L0 : (mesE m)[0]? = some (.int .i64 m.kind) := rfl
  have L2 : (mesE m)[2]? = some (.int .i64 m.dst) := rfl
  have L19 : (mesE m)[19]? = some (.int .i64 m.x.v.code) := rfl
  have L20 : (mesE m)[20]? = some (.int .i64 m.x.v.num) := rfl
  have L21 : (mesE m)[21]? = some (.slice m.x.aa m.x.v.am.length m.x.ac) := rfl
  have L22 : (mesE m)[22]? = some (.slice m.x.fa m.x.v.fl.length m.x.fc) := rfl
  have HLn : Hid ((Tryd.prog.info? 47).map (·.size) = some (mesE m).length) := by
    show _ = _
    rw [mesK]
    kernel_rfl
  have HFi := hideIt (fun W (hW : Below w.heap.size w W) => findC_is g a cp l m W (h.keep hW))
  have HAm := hideIt (fun W (hW : Below w.heap.size w W) => areAmountsC_is (.slice m.x.aa m.x.v.am.length m.x.ac) m.x.v.am W (hm.keep hW).x.a)
  have HIs := hideIt (fun W => isHeard_is m.kind W)
  have HVt := hideIt (fun (B b n c i k j : Nat) (W : World) (ys : List TraX) (h1 : TrsOwn B W (.slice (some ⟨b, 0, none⟩) n c) ys) (hi : i < ys.length) (hk : k = i * 21) (hj : j < ys[i].ps.length) (hW : Below w.heap.size w W) (h0 : w.heap.size ≤ B) (hB : B ≤ W.heap.size) hs => vote_any m h1 hi hk hj hm hW h0 hB hs)
  have HAk := hideIt (fun (B b n c i k j : Nat) (W : World) (ys : List TraX) (h1 : TrsOwn B W (.slice (some ⟨b, 0, none⟩) n c) ys) (hi : i < ys.length) (hk : k = i * 21) (hj : j < ys[i].ps.length) (hW : Below w.heap.size w W) (h0 : w.heap.size ≤ B) (hB : B ≤ W.heap.size) hs => ack_any m h1 hi hk hj hm hW h0 hB hs)
  have HCo := hideIt (fun W (hW : Below w.heap.size w W) => coordF_is g a cp l W (h.keep hW))
  simp only [fnd_v] at HFi
  generalize mesE m = L at *
  have HMC : Hid (∀ W : World, W.heap[w.heap.size + 1]? = some (.cells L.toArray 47 (0, 0)) → W.cell? ⟨w.heap.size + 1, 0, none⟩ = some (.int .i64 m.kind) ∧ W.cell? ⟨w.heap.size + 1, 2, none⟩ = some (.int .i64 m.dst) ∧ W.cell? ⟨w.heap.size + 1, 19, none⟩ = some (.int .i64 m.x.v.code) ∧ W.cell? ⟨w.heap.size + 1, 20, none⟩ = some (.int .i64 m.x.v.num) ∧ W.cell? ⟨w.heap.size + 1, 21, none⟩ = some (.slice m.x.aa m.x.v.am.length m.x.ac) ∧ W.cell? ⟨w.heap.size + 1, 22, none⟩ = some (.slice m.x.fa m.x.v.fl.length m.x.fc) ∧ (∀ j, W.frozen? ⟨w.heap.size + 1, j, none⟩ = false) ∧ w.heap.size + 1 < W.heap.size ∧ W.rangeAt (w.heap.size + 1) 0 L) := fun W hX =>
    have hl : ∀ j v, L[j]? = some v → W.cell? ⟨w.heap.size + 1, j, none⟩ = some v := fun j v hv => by rw [cell_at hX]; simpa using hv
    ⟨hl 0 _ L0, hl 2 _ L2, hl 19 _ L19, hl 20 _ L20, hl 21 _ L21, hl 22 _ L22, fun j => free_at hX j, (Array.getElem?_eq_some_iff.1 hX).1, fun j v hv => by rw [Nat.zero_add]; exact hl j v hv⟩
  clear L0 L2 L19 L20 L21 L22
  have hX := three_heap w (.cells #[.int .i64 g, .slice a l.length cp] 25) (.cells L.toArray 47) (.cells #[.int .i64 0, .slice none 0 0] 25)
  have X1 := hideIt hX.1
  have X2 := hideIt hX.2.1
  have X3 : Hid ((((w.alloc (.cells #[.int .i64 g, .slice a l.length cp] 25)).alloc (.cells L.toArray 47)).alloc (.cells #[.int .i64 0, .slice none 0 0] 25)).heap[w.heap.size + 1 + 1]? = some (.cells #[.int .i64 0, .slice none 0 0] 25)) := hX.2.2.1
  have BW := hideIt (below3 w (.cells #[.int .i64 g, .slice a l.length cp] 25) (.cells L.toArray 47) (.cells #[.int .i64 0, .slice none 0 0] 25))
  clear hX
  clear HVt
  obtain ⟨hd, hk, ha⟩ := hok
  rw [hk] at HIs
  rw [ha] at HAm
  rw [hat] at HFi
  dsimp only at HFi
  rw [hk5] at HIs HMC
  generalize m.dst = dst at *
  clear h hm hk ha hk5 hat
  obtain rfl : g = dst := hd.symm
  have hfa : ¬ ((i : Int) < 0) := by omega
  have hfp : ¬ ((j : Int) < 0) := by omega
  have HJ : Hid (∀ x : TraX, x.v = l[i].v → j < x.ps.length ∧ (x.x.v.fl.length + m.x.v.fl.length) * 32 ≤ 140737488355328) := fun x hx => by
    have e1 : x.ps = l[i].ps := congrArg TraV.ps hx
    have e2 : x.x.v = l[i].x.v := congrArg TraV.an hx
    rw [e1, e2]
    exact ⟨hj, hs⟩
  clear hj hs
  obtain ⟨T, hV⟩ : ∃ T, T = akV l[i].v j m := ⟨_, rfl⟩
  rw [← hV]
  have HVE := hideIt hV
  clear hV
  go_enter Tryd.func14, Tryd.ntmps14
  go_upto_region 1 with fail
  generalize ((w.alloc (.cells #[.int .i64 g, .slice a l.length cp] 25)).alloc (.cells L.toArray 47)).alloc (.cells #[.int .i64 0, .slice none 0 0] 25) = W0 at *
  obtain ⟨⟨c0, c1⟩, cf, cz⟩ := at2 X1.out
  obtain ⟨⟨f0, f1⟩, ff, fz⟩ := at2 X3.out
  obtain ⟨m0, m2, m19, m20, m21, m22, mf, mz, hrg⟩ := HMC.out _ X2.out
  go_wp2_with fail
  refine (HIs.out _).mono ?_
  rintro e wq ⟨rfl, e2⟩
  obtain rfl := e2.symm
  dsimp only
  go_wp2_with fail
  refine (HAm.out _ BW.out).mono ?_
  rintro e w1 ⟨rfl, hb⟩
  dsimp only
  have X1n := hideIt (blkK X1.out hb)
  have X2n := hideIt (blkK X2.out hb)
  have X3n := hideIt (blkK X3.out hb)
  have BWn := hideIt (below_via BW.out hb)
  clear X1 X2 X3 BW hb c0 c1 cf cz f0 f1 ff fz m0 m2 m19 m20 m21 m22 mf mz hrg
  have X1 := X1n
  have X2 := X2n
  have X3 := X3n
  have BW := BWn
  clear X1n X2n X3n BWn
  obtain ⟨⟨c0, c1⟩, cf, cz⟩ := at2 X1.out
  obtain ⟨⟨f0, f1⟩, ff, fz⟩ := at2 X3.out
  obtain ⟨m0, m2, m19, m20, m21, m22, mf, mz, hrg⟩ := HMC.out _ X2.out
  go_wp2_with (first | (refine wpList_load_mid rfl _ _ rfl (w.heap.size + 1) 0 rfl L _ hrg Tryd.underlying47 rfl HLn.out ?_; go_frame) | fail)
  refine (HFi.out _ BW.out).mono ?_
  rintro e w2 ⟨rfl, hb⟩
  dsimp only
  have X1n := hideIt (blkK X1.out hb)
  have X2n := hideIt (blkK X2.out hb)
  have X3n := hideIt (blkK X3.out hb)
  have BWn := hideIt (below_via BW.out hb)
  clear X1 X2 X3 BW hb c0 c1 cf cz f0 f1 ff fz m0 m2 m19 m20 m21 m22 mf mz hrg
  have X1 := X1n
  have X2 := X2n
  have X3 := X3n
  have BW := BWn
  clear X1n X2n X3n BWn
  obtain ⟨⟨c0, c1⟩, cf, cz⟩ := at2 X1.out
  obtain ⟨⟨f0, f1⟩, ff, fz⟩ := at2 X3.out
  obtain ⟨m0, m2, m19, m20, m21, m22, mf, mz, hrg⟩ := HMC.out _ X2.out
  go_wp2_with fail
  refine (HCo.out _ BW.out).mono ?_
  rintro e w4 ⟨a', c', ys, rfl, hy, ho, hb⟩
  dsimp only
  have hyl : ys.length = l.length := by have := congrArg List.length hy; simpa using this
  obtain ⟨b, hab⟩ : ∃ b, a' = some ⟨b, 0, none⟩ := by
    obtain ⟨_, ⟨e0, _⟩ | ⟨gg, cap, cur, hv, _⟩⟩ := ho.row
    · simp only [Value.slice.injEq] at e0; omega
    · simp only [Value.slice.injEq] at hv; exact ⟨gg, hv.1⟩
  subst hab
  have hsz := BW.out.size
  have hz3 := (Array.getElem?_eq_some_iff.1 X3.out).1
  have hb9 := below1 w4 (.cells #[.int .i64 g, .slice (some ⟨b, 0, none⟩) l.length c'] 25)
  have hb := below_via hb hb9
  have X5 := hideIt (heap_alloc_new w4 (.cells #[.int .i64 g, .slice (some ⟨b, 0, none⟩) l.length c'] 25))
  have HO := hideIt (ho.keep hb9)
  have hBs : w.heap.size + 3 ≤ w2.heap.size := by omega
  have hBt : w2.heap.size ≤ (w4.alloc (.cells #[.int .i64 g, .slice (some ⟨b, 0, none⟩) l.length c'] 25)).heap.size := hb.size
  have HY := hideIt hy
  have hiy : i < ys.length := by omega
  have HYI := hideIt (map_at hy hiy hi)
  have hi0 : (0 : Int) ≤ (i : Int) := by omega
  have hi1 : (i : Int) < (l.length : Int) := by omega
  clear ho hy hb9 HCo hz3 hsz
  have X1n := hideIt (blkK X1.out hb)
  have X2n := hideIt (blkK X2.out hb)
  have X3n := hideIt (blkK X3.out hb)
  have BWn := hideIt (below_via BW.out hb)
  clear X1 X2 X3 BW hb c0 c1 cf cz f0 f1 ff fz m0 m2 m19 m20 m21 m22 mf mz hrg
  have X1 := X1n
  have X2 := X2n
  have X3 := X3n
  have BW := BWn
  clear X1n X2n X3n BWn
  obtain ⟨⟨c0, c1⟩, cf, cz⟩ := at2 X1.out
  obtain ⟨⟨f0, f1⟩, ff, fz⟩ := at2 X3.out
  obtain ⟨m0, m2, m19, m20, m21, m22, mf, mz, hrg⟩ := HMC.out _ X2.out
  generalize hD : w2.heap.size = D at *
  generalize hN : w4.heap.size = nx at *
  go_upto_region 9 with fail
  generalize w4.alloc (.cells #[.int .i64 g, .slice (some ⟨b, 0, none⟩) l.length c'] 25) = W5 at *
  obtain ⟨⟨n0, n1⟩, nf, nz⟩ := at2 X5.out
  clear hD hN
  have HVc := hideIt (HAk.out D b l.length c' i (i * 21) j W5 ys HO.out hiy rfl (HJ.out _ HYI.out).1 BW.out (by omega) hBt (HJ.out _ HYI.out).2)
  rw [HYI.out, ← HVE.out] at HVc
  clear HAk HJ HVE
  go_wp2_with fail
  refine HVc.out.mono ?_
  rintro e w6 ⟨rfl, ht⟩
  dsimp only
  clear HVc
  have hX5 := ht.kp _ _ _ X5.out (by unfold noT; decide) (by decide)
  have hX3 := ht.kp _ _ _ X3.out (by unfold noT; decide) (by decide)
  have BW6 := hideIt (BW.out.trans (ht.bel.mono (show w.heap.size ≤ D by omega)))
  have X5' := hideIt hX5
  have X3' := hideIt hX3
  clear hX5 hX3 X5 X3 X1 X2 BW c0 c1 cf cz f0 f1 ff fz m0 m2 m19 m20 m21 m22 mf mz hrg n0 n1 nf nz
  obtain ⟨y, hyv, hyo⟩ := ht.own
  have HYV := hideIt hyv
  have HYO := hideIt hyo
  have hsD := ht.bel.size
  clear ht hyv hyo
  obtain ⟨⟨n0, n1⟩, nf, nz⟩ := at2 X5'.out
  obtain ⟨⟨f0, f1⟩, ff, fz⟩ := at2 X3'.out
  go_wp2
  obtain ⟨hzz, hoo⟩ := puts2 w6 (w.heap.size + 1 + 1) 25 (.int .i64 g) (.slice (some ⟨b, 0, none⟩) l.length c') X3'.out
  have hlen : ((l.map TraX.v).set i y.v).length = l.length := by simp
  have hmap : (ys.set i y).map TraX.v = (l.map TraX.v).set i y.v := by rw [List.map_set, HY.out]
  refine bodyPost_ret (v := .tuple #[.agg #[.int .i64 g, (.slice (some ⟨b, 0, none⟩) l.length c')], (.slice none 0 0), .int .i64 0]) (by simp [results, Tryd.results14, go_sem, cell_at hzz]) rfl ?_
  have hfin := (HYO.out.out hoo (fun k hk => by omega)).base (show w.heap.size ≤ D by omega)
  rw [← HYV.out]
  refine ⟨some ⟨b, 0, none⟩, c', ys.set i y, _, _, by rw [hlen]; rfl, hmap, by rw [hlen]; exact hfin, ?_, below_out BW6.out hoo (fun k hk => by omega)⟩
  exact own_nil _ _
end Go.Proofs.YtilinemcmgjiiaaDoor
namespace Go.Proofs.YtilinemcmgjiiaaDoor
open Go.RowKit
set_option linter.all false
/-- Hear, in plain data. -/
def heaR (g : Int) (l : List TraV) (m : MesX) : Int × List TraV × List (Int × Int) × Int :=
  if m.dst = g ∧ heaB m.kind = true ∧ amsB m.x.v.am (-1) = true then
    (if (fndV m.c m.q m.k m.n m.frm l 0 (-1)).1 < 0 ∨ ((fndV m.c m.q m.k m.n m.frm l 0 (-1)).2 < 0 ∧ m.kind ≠ 6) then (0, [], [], 191)
     else match l[(fndV m.c m.q m.k m.n m.frm l 0 (-1)).1.toNat]? with
      | none => (g, l, [], 0)
      | some t =>
        if m.kind = 6 then (g, l.set (fndV m.c m.q m.k m.n m.frm l 0 (-1)).1.toNat (abtV t 4), [], 0)
        else if m.kind = 3 then (g, l.set (fndV m.c m.q m.k m.n m.frm l 0 (-1)).1.toNat (vtV t (fndV m.c m.q m.k m.n m.frm l 0 (-1)).2.toNat m).1, if (vtV t (fndV m.c m.q m.k m.n m.frm l 0 (-1)).2.toNat m).2 = true then [((vtV t (fndV m.c m.q m.k m.n m.frm l 0 (-1)).2.toNat m).1.c, (vtV t (fndV m.c m.q m.k m.n m.frm l 0 (-1)).2.toNat m).1.q)] else [], 0)
        else (g, l.set (fndV m.c m.q m.k m.n m.frm l 0 (-1)).1.toNat (akV t (fndV m.c m.q m.k m.n m.frm l 0 (-1)).2.toNat m), [], 0))
  else (0, [], [], 190)
/-- The state of the first of that name. -/
def stV (l : List TraV) (c q : Int) : Int := match l.find? (fun t => t.c == c && t.q == q) with | some t => t.st | none => 0
def difN (s t : TraV) : Prop := ¬ (s.c = t.c ∧ s.q = t.q)
/-- Names are unlike. -/
def NmL (l : List TraV) : Prop := l.Pairwise difN
theorem st_mem : ∀ {l : List TraV} (_ : NmL l) {t : TraV} (_ : t ∈ l), stV l t.c t.q = t.st
  | [], _, t, h => by cases h
  | x :: l, hn, t, h => by
    unfold stV
    rw [List.find?_cons]
    have hp := List.pairwise_cons.1 hn
    rcases List.mem_cons.1 h with rfl | h1
    · simp
    · have hd := hp.1 t h1
      have e : (x.c == t.c && x.q == t.q) = false := by
        cases he : (x.c == t.c && x.q == t.q) with
        | false => rfl
        | true => simp only [Bool.and_eq_true, beq_iff_eq] at he; exact absurd he hd
      rw [e]
      exact st_mem hp.2 h1
theorem st_none {l : List TraV} {c q : Int} (h : ∀ t ∈ l, ¬ (t.c = c ∧ t.q = q)) : stV l c q = 0 := by
  unfold stV
  have e : l.find? (fun t => t.c == c && t.q == q) = none := by
    rw [List.find?_eq_none]
    intro t ht he
    simp only [Bool.and_eq_true, beq_iff_eq] at he
    exact h t ht he
  rw [e]
theorem st_of {l : List TraV} (hn : NmL l) {c q : Int} {t : TraV} (ht : t ∈ l) (h1 : t.c = c) (h2 : t.q = q) : stV l c q = t.st := by
  subst h1 h2
  exact st_mem hn ht
/-- A list that has none but what another one has. -/
theorem st_sub {l d : List TraV} (hd : NmL d) (hs : ∀ t ∈ d, t ∈ l) (hl : NmL l) {t : TraV} (ht : t ∈ l) : stV d t.c t.q = 0 ∨ stV d t.c t.q = t.st := by
  by_cases h : ∃ s ∈ d, s.c = t.c ∧ s.q = t.q
  · obtain ⟨s, hs1, h1, h2⟩ := h
    right
    rw [st_of hd hs1 h1 h2, ← st_mem hl (hs s hs1), h1, h2]
    exact st_mem hl ht
  · left
    exact st_none (fun s hs1 he => h ⟨s, hs1, he⟩)
/-- What a message makes of one transaction. -/
structure Trn (t t' : TraV) (mk : List (Int × Int)) : Prop where
  c : t'.c = t.c
  q : t'.q = t.q
  len : t'.ps.length = t.ps.length
  key : ∀ i (h : i < t.ps.length) (h' : i < t'.ps.length), t'.ps[i].k = t.ps[i].k ∧ t'.ps[i].n = t.ps[i].n ∧ t'.ps[i].g = t.ps[i].g
  st : t.st ≠ 1 → t'.st = t.st
  mark : (mk = [] ∧ ¬ (t.st = 1 ∧ t'.st = 2)) ∨ (mk = [(t.c, t.q)] ∧ t.st = 1 ∧ t'.st = 2)
theorem Trn.same (t : TraV) : Trn t t [] := ⟨rfl, rfl, rfl, fun _ _ _ => ⟨rfl, rfl, rfl⟩, fun _ => rfl, .inl ⟨rfl, fun h => by have := h.1.symm.trans h.2; omega⟩⟩
theorem abt_trn (t : TraV) (code : Int) : Trn t (abtV t code) [] := by
  unfold abtV
  by_cases h : t.st = 1
  · rw [if_pos h]
    exact ⟨rfl, rfl, rfl, fun _ _ _ => ⟨rfl, rfl, rfl⟩, fun hn => absurd h hn, .inl ⟨rfl, fun h => by have := h.2; simp at this⟩⟩
  · rw [if_neg h]
    exact Trn.same t
theorem set_key {l : List PeeV} {j : Nat} {p p' : PeeV} (hp : l[j]? = some p) (h1 : p'.k = p.k) (h2 : p'.n = p.n) (h3 : p'.g = p.g) : ∀ i (h : i < l.length) (h' : i < (l.set j p').length), (l.set j p')[i].k = l[i].k ∧ (l.set j p')[i].n = l[i].n ∧ (l.set j p')[i].g = l[i].g := by
  intro i h h'
  rw [List.getElem_set]
  by_cases e : j = i
  · subst e
    rw [if_pos rfl]
    rw [List.getElem?_eq_getElem h] at hp
    cases hp
    exact ⟨h1, h2, h3⟩
  · rw [if_neg e]
    exact ⟨rfl, rfl, rfl⟩
theorem vt_eq (t : TraV) (j : Nat) (m : MesX) : vtV t j m = (abtV t m.x.v.code, false) ∨ vtV t j m = (t, false) ∨ ∃ p, t.ps[j]? = some p ∧ m.yes = true ∧ t.st = 1 ∧ p.vo = false ∧ vtV t j m = (yesV t (t.ps.set j { p with vo := true }) m.x.v.am (m.cx.map CelX.v), !((t.ps.set j { p with vo := true }).any (fun p => !p.vo))) := by
  unfold vtV
  by_cases hy : m.yes = false
  · rw [if_pos hy]
    exact .inl rfl
  · rw [if_neg hy]
    cases hp : t.ps[j]? with
    | none => exact .inr (.inl rfl)
    | some p =>
      dsimp only
      by_cases hc : t.st = 1 ∧ p.vo = false
      · rw [if_pos hc]
        exact .inr (.inr ⟨p, rfl, by simpa using hy, hc.1, hc.2, rfl⟩)
      · rw [if_neg hc]
        exact .inr (.inl rfl)
theorem vt_trn (t : TraV) (j : Nat) (m : MesX) : Trn t (vtV t j m).1 (if (vtV t j m).2 = true then [((vtV t j m).1.c, (vtV t j m).1.q)] else []) := by
  rcases vt_eq t j m with e | e | ⟨p, hp, hy, hs, hv, e⟩
  · rw [e]
    exact abt_trn t _
  · rw [e]
    exact Trn.same t
  · rw [e]
    dsimp only
    cases ha : (t.ps.set j { p with vo := true }).any (fun p => !p.vo) with
    | true =>
      simp only [Bool.not_true, Bool.false_eq_true, if_false]
      refine ⟨rfl, rfl, List.length_set, set_key hp rfl rfl rfl, fun hn => absurd hs hn, .inl ⟨rfl, fun h => ?_⟩⟩
      have h2 := h.2
      unfold yesV at h2
      simp only [ha, if_true] at h2
      omega
    | false =>
      simp only [Bool.not_false, if_true]
      refine ⟨rfl, rfl, List.length_set, set_key hp rfl rfl rfl, fun hn => absurd hs hn, .inr ⟨rfl, hs, ?_⟩⟩
      unfold yesV
      simp [ha]
theorem ak_trn (t : TraV) (j : Nat) (m : MesX) : Trn t (akV t j m) [] := by
  unfold akV
  cases hp : t.ps[j]? with
  | none => exact Trn.same t
  | some p =>
    dsimp only
    by_cases hc : t.st ≠ 1 ∧ p.ac = false
    · rw [if_pos hc]
      by_cases h2 : t.st = 2
      · rw [if_pos h2]
        exact ⟨rfl, rfl, List.length_set, set_key hp rfl rfl rfl, fun _ => rfl, .inl ⟨rfl, fun h => hc.1 h.1⟩⟩
      · rw [if_neg h2]
        exact ⟨rfl, rfl, List.length_set, set_key hp rfl rfl rfl, fun _ => rfl, .inl ⟨rfl, fun h => hc.1 h.1⟩⟩
    · rw [if_neg hc]
      exact Trn.same t
/-- A message that was heard. -/
theorem hea_cases {g : Int} {l : List TraV} {m : MesX} (h0 : (heaR g l m).2.2.2 = 0) : (heaR g l m).1 = g ∧ m.dst = g ∧ heaB m.kind = true ∧ amsB m.x.v.am (-1) = true ∧ ∃ i, ∃ hi : i < l.length, ∃ t', (fndV m.c m.q m.k m.n m.frm l 0 (-1)).1 = (i : Int) ∧ l[i].c = m.c ∧ l[i].q = m.q ∧ (heaR g l m).2.1 = l.set i t' ∧ Trn l[i] t' (heaR g l m).2.2.1 ∧
    ((m.kind = 6 ∧ t' = abtV l[i] 4) ∨ ∃ j, ∃ hj : j < l[i].ps.length, (fndV m.c m.q m.k m.n m.frm l 0 (-1)).2 = (j : Int) ∧ l[i].ps[j].k = m.k ∧ l[i].ps[j].n = m.n ∧ l[i].ps[j].g = m.frm ∧ ((m.kind = 3 ∧ t' = (vtV l[i] j m).1) ∨ (m.kind = 5 ∧ t' = akV l[i] j m))) := by
  unfold heaR at h0 ⊢
  by_cases hok : m.dst = g ∧ heaB m.kind = true ∧ amsB m.x.v.am (-1) = true
  · rw [if_pos hok] at h0 ⊢
    by_cases hno : (fndV m.c m.q m.k m.n m.frm l 0 (-1)).1 < 0 ∨ ((fndV m.c m.q m.k m.n m.frm l 0 (-1)).2 < 0 ∧ m.kind ≠ 6)
    · rw [if_pos hno] at h0
      exact absurd h0 (by decide)
    · rw [if_neg hno] at h0 ⊢
      rcases fnd_ok m.c m.q m.k m.n m.frm l 0 (-1) with hf | ⟨i, hi, hc, hq, h1, h2⟩
      · exact absurd (Or.inl (by rw [hf]; decide)) hno
      · rw [Nat.zero_add] at h1
        have hT : l[(fndV m.c m.q m.k m.n m.frm l 0 (-1)).1.toNat]? = some l[i] := by rw [h1]; exact List.getElem?_eq_getElem hi
        simp only [hT] at h0 ⊢
        have hti : (fndV m.c m.q m.k m.n m.frm l 0 (-1)).1.toNat = i := by omega
        rw [hti]
        have hj : m.kind = 6 ∨ ∃ j, ∃ hj : j < l[i].ps.length, (fndV m.c m.q m.k m.n m.frm l 0 (-1)).2 = (j : Int) ∧ l[i].ps[j].k = m.k ∧ l[i].ps[j].n = m.n ∧ l[i].ps[j].g = m.frm := by
          rcases h2 with h2 | ⟨p, hp, e1, e2⟩
          · left
            by_cases h6 : m.kind = 6
            · exact h6
            · exact absurd (Or.inr ⟨by omega, h6⟩) hno
          · exact .inr ⟨p, hp, e1, e2⟩
        by_cases h6 : m.kind = 6
        · rw [if_pos h6]
          exact ⟨rfl, hok.1, hok.2.1, hok.2.2, i, hi, _, h1, hc, hq, rfl, abt_trn _ _, .inl ⟨h6, rfl⟩⟩
        · rcases hj with hj | ⟨j, hj, e1, e2⟩
          · exact absurd hj h6
          · rw [if_neg h6]
            have htj : (fndV m.c m.q m.k m.n m.frm l 0 (-1)).2.toNat = j := by omega
            rw [htj]
            by_cases h3 : m.kind = 3
            · rw [if_pos h3]
              exact ⟨rfl, hok.1, hok.2.1, hok.2.2, i, hi, _, h1, hc, hq, rfl, vt_trn _ _ _, .inr ⟨j, hj, e1, e2.1, e2.2.1, e2.2.2, .inl ⟨h3, rfl⟩⟩⟩
            · rw [if_neg h3]
              have h5 : m.kind = 5 := by
                have := hok.2.1
                unfold heaB at this
                simp only [Bool.or_eq_true, beq_iff_eq] at this
                omega
              exact ⟨rfl, hok.1, hok.2.1, hok.2.2, i, hi, _, h1, hc, hq, rfl, ak_trn _ _ _, .inr ⟨j, hj, e1, e2.1, e2.2.1, e2.2.2, .inr ⟨h5, rfl⟩⟩⟩
  · rw [if_neg hok] at h0
    exact absurd h0 (by decide)
theorem hea_bad {g : Int} {l : List TraV} {m : MesX} (h0 : (heaR g l m).2.2.2 ≠ 0) : (heaR g l m).2.2.1 = [] := by
  unfold heaR at h0 ⊢
  by_cases hok : m.dst = g ∧ heaB m.kind = true ∧ amsB m.x.v.am (-1) = true
  · rw [if_pos hok] at h0 ⊢
    by_cases hno : (fndV m.c m.q m.k m.n m.frm l 0 (-1)).1 < 0 ∨ ((fndV m.c m.q m.k m.n m.frm l 0 (-1)).2 < 0 ∧ m.kind ≠ 6)
    · rw [if_pos hno]
    · rw [if_neg hno] at h0 ⊢
      cases hT : l[(fndV m.c m.q m.k m.n m.frm l 0 (-1)).1.toNat]? with
      | none => rfl
      | some t =>
        simp only [hT] at h0
        split at h0
        · simp at h0
        · split at h0 <;> simp at h0
  · rw [if_neg hok]
theorem fnd_neg (c q k n g : Int) : ∀ (l : List TraV) (i : Nat) (a0 : Int), (fndV c q k n g l i a0).1 < 0 → a0 < 0 ∧ ∀ t ∈ l, ¬ (t.c = c ∧ t.q = q)
  | [], i, a0, h => ⟨h, fun _ h => by cases h⟩
  | t :: l, i, a0, h => by
    unfold fndV at h
    by_cases ht : (t.c == c && t.q == q) = true
    · rw [if_pos ht] at h
      cases hp : pidL k n g t.ps 0 with
      | some j => rw [hp] at h; simp only at h; omega
      | none =>
        rw [hp] at h
        have := (fnd_neg c q k n g l (i + 1) i h).1
        omega
    · rw [if_neg ht] at h
      obtain ⟨h1, h2⟩ := fnd_neg c q k n g l (i + 1) a0 h
      refine ⟨h1, fun s hs => ?_⟩
      rcases List.mem_cons.1 hs with rfl | hs
      · intro he
        apply ht
        simp only [Bool.and_eq_true, beq_iff_eq]
        exact he
      · exact h2 s hs
theorem may_vo : ∀ (n t : Nat) (l : List PeeV), mayL l t n = true → ∀ i, t ≤ i → i < t + n → ∀ h : i < l.length, l[i].vo = false
  | 0, t, l, _, i, h1, h2, _ => by omega
  | n + 1, t, l, hm, i, h1, h2, h => by
    unfold mayL at hm
    simp only [Bool.and_eq_true] at hm
    rcases Nat.lt_or_ge t i with h3 | h3
    · exact may_vo n (t + 1) l hm.2 i h3 (by omega) h
    · have e : i = t := by omega
      subst e
      have h4 := hm.1
      rw [List.getElem?_eq_getElem h] at h4
      unfold pB at h4
      simp only [Bool.and_eq_true, Bool.not_eq_true'] at h4
      exact h4.2.2.1
/-- A transaction that began. -/
theorem beg_cases {l : List TraV} {c q : Int} {r : ReqV} {ps : List PeeV} (h0 : begE l c q r ps = 0) (g : Int) : begG g l c q r ps = g ∧ begT l c q r ps = l ++ [newV c q r ps] ∧ (∀ t ∈ l, ¬ (t.c = c ∧ t.q = q)) ∧ ps.length ≤ 5 ∧ ∀ p ∈ ps, p.vo = false := by
  have h1 := h0
  unfold begE at h1
  refine ⟨by unfold begG; rw [if_pos h0], by unfold begT; rw [if_pos h0], ?_⟩
  by_cases h2 : (nmB c q && fitsB r) = true
  · rw [if_pos h2] at h1
    by_cases h3 : 0 ≤ (fndV c q 0 0 0 l 0 (-1)).1
    · rw [if_pos h3] at h1
      exact absurd h1 (by decide)
    · rw [if_neg h3] at h1
      by_cases h4 : mayPB ps = true
      · refine ⟨(fnd_neg c q 0 0 0 l 0 (-1) (by omega)).2, ?_⟩
        unfold mayPB at h4
        simp only [Bool.and_eq_true] at h4
        obtain ⟨h5, h6⟩ := h4
        unfold wiB at h5
        simp only [Bool.and_eq_true, decide_eq_true_eq] at h5
        refine ⟨by omega, fun p hp => ?_⟩
        obtain ⟨i, hi, rfl⟩ := List.getElem_of_mem hp
        exact may_vo ps.length 0 ps h6 i (by omega) (by omega) hi
      · rw [if_neg h4] at h1
        exact absurd h1 (by decide)
  · rw [if_neg h2] at h1
    exact absurd h1 (by decide)
theorem end_cases (l : List TraV) : endL l = l ∨ ∃ i, endL l = l.take i ++ l.drop (i + 1) := by
  unfold endL
  cases endI l 0 with
  | none => exact .inl rfl
  | some i => exact .inr ⟨i, rfl⟩
theorem end_sub (l : List TraV) : (endL l).Sublist l := by
  rcases end_cases l with h | ⟨i, h⟩
  · rw [h]
    exact List.Sublist.refl l
  · rw [h]
    have e : l.take i ++ l.drop i = l := List.take_append_drop i l
    have h1 : (l.take i ++ l.drop (i + 1)).Sublist (l.take i ++ l.drop i) := List.Sublist.append (List.Sublist.refl _) (by rw [← List.drop_drop]; exact List.drop_sublist _ _)
    rwa [e] at h1
/-- One transaction's place. -/
theorem nm_set {l : List TraV} (hn : NmL l) {i : Nat} (hi : i < l.length) {t' : TraV} (h1 : t'.c = l[i].c) (h2 : t'.q = l[i].q) : NmL (l.set i t') := by
  unfold NmL at hn ⊢
  rw [List.pairwise_iff_getElem] at hn ⊢
  intro a b ha hb hab
  rw [List.length_set] at ha hb
  rw [List.getElem_set, List.getElem_set]
  by_cases e1 : i = a
  · subst e1
    rw [if_pos rfl, if_neg (by omega)]
    unfold difN
    rw [h1, h2]
    exact hn i b ha hb hab
  · rw [if_neg e1]
    by_cases e2 : i = b
    · subst e2
      rw [if_pos rfl]
      unfold difN
      rw [h1, h2]
      exact hn a i ha hb hab
    · rw [if_neg e2]
      exact hn a b ha hb hab
theorem nm_app {l : List TraV} (hn : NmL l) {t : TraV} (h : ∀ s ∈ l, ¬ (s.c = t.c ∧ s.q = t.q)) : NmL (l ++ [t]) := by
  unfold NmL
  rw [List.pairwise_append]
  exact ⟨hn, List.pairwise_singleton _ _, fun a ha b hb => by rw [List.mem_singleton] at hb; subst hb; exact h a ha⟩
theorem set_mem {l : List TraV} {i : Nat} {t' s : TraV} (h : s ∈ l.set i t') : s = t' ∨ ∃ k, ∃ hk : k < l.length, k ≠ i ∧ s = l[k] := by
  obtain ⟨k, hk, rfl⟩ := List.getElem_of_mem h
  rw [List.length_set] at hk
  rw [List.getElem_set]
  by_cases e : i = k
  · rw [if_pos e]; exact .inl rfl
  · rw [if_neg e]; exact .inr ⟨k, hk, fun e2 => e e2.symm, rfl⟩
theorem mem_set_self {l : List TraV} {i : Nat} (hi : i < l.length) (t' : TraV) : t' ∈ l.set i t' := by
  have h : i < (l.set i t').length := by rw [List.length_set]; exact hi
  have e : (l.set i t')[i] = t' := List.getElem_set_self h
  have h2 := List.getElem_mem h
  rwa [e] at h2
theorem mem_set_other {l : List TraV} {i k : Nat} (hk : k < l.length) (hne : k ≠ i) (t' : TraV) : l[k] ∈ l.set i t' := by
  have h : k < (l.set i t').length := by rw [List.length_set]; exact hk
  have e : (l.set i t')[k] = l[k] := List.getElem_set_ne (fun e => hne e.symm) h
  rw [← e]
  exact List.getElem_mem h
end Go.Proofs.YtilinemcmgjiiaaDoor
namespace Go.Proofs.YtilinemcmgjiiaaDoor
open Go.RowKit
set_option linter.all false
/-- A step: a transaction that begins, one that is taken out, or a message. -/
structure StpX where
  beg : Bool
  tak : Bool
  c : Int
  q : Int
  r : ReqV
  ps : List PeeV
  pa : Option Addr
  pc : Nat
  m : MesX
def stpR (g : Int) (l : List TraV) (s : StpX) : Int × List TraV × List (Int × Int) × Int :=
  if s.beg = true then (begG g l s.c s.q s.r s.ps, begT l s.c s.q s.r s.ps, [], begE l s.c s.q s.r s.ps) else if s.tak = true then (g, endL l, [], 0) else heaR g l s.m
/-- What a step makes of a coordinator's transactions. -/
def Chg (l d : List TraV) (mk : List (Int × Int)) : Prop :=
  (mk = [] ∧ d.Sublist l) ∨ (∃ c q r ps, mk = [] ∧ d = l ++ [newV c q r ps] ∧ (∀ t ∈ l, ¬ (t.c = c ∧ t.q = q)) ∧ ps.length ≤ 5 ∧ ∀ p ∈ ps, p.vo = false) ∨ ∃ i, ∃ hi : i < l.length, ∃ t', d = l.set i t' ∧ Trn l[i] t' mk
theorem stp_chg {g : Int} {l : List TraV} {s : StpX} (h0 : (stpR g l s).2.2.2 = 0) : (stpR g l s).1 = g ∧ Chg l (stpR g l s).2.1 (stpR g l s).2.2.1 := by
  unfold stpR at h0 ⊢
  by_cases hb : s.beg = true
  · rw [if_pos hb] at h0 ⊢
    obtain ⟨h1, h2, h3, h4, h5⟩ := beg_cases h0 g
    exact ⟨h1, .inr (.inl ⟨s.c, s.q, s.r, s.ps, rfl, h2, h3, h4, h5⟩)⟩
  · rw [if_neg hb] at h0 ⊢
    by_cases ht : s.tak = true
    · rw [if_pos ht]
      exact ⟨rfl, .inl ⟨rfl, end_sub l⟩⟩
    · rw [if_neg ht] at h0 ⊢
      obtain ⟨h1, _, _, _, i, hi, t', _, _, _, h2, h3, _⟩ := hea_cases h0
      exact ⟨h1, .inr (.inr ⟨i, hi, t', h2, h3⟩)⟩
theorem stp_bad {g : Int} {l : List TraV} {s : StpX} (h0 : (stpR g l s).2.2.2 ≠ 0) : (stpR g l s).2.2.1 = [] := by
  unfold stpR at h0 ⊢
  by_cases hb : s.beg = true
  · rw [if_pos hb]
  · rw [if_neg hb] at h0 ⊢
    by_cases ht : s.tak = true
    · rw [if_pos ht]
    · rw [if_neg ht] at h0 ⊢
      exact hea_bad h0
theorem chg_nm {l d : List TraV} {mk : List (Int × Int)} (hn : NmL l) (h : Chg l d mk) : NmL d := by
  rcases h with ⟨_, h⟩ | ⟨c, q, r, ps, _, rfl, h, _⟩ | ⟨i, hi, t', rfl, h⟩
  · exact List.Pairwise.sublist h hn
  · exact nm_app hn h
  · exact nm_set hn hi h.c h.q
theorem chg_len {l d : List TraV} {mk : List (Int × Int)} (h : Chg l d mk) : d.length ≤ l.length + 1 := by
  rcases h with ⟨_, h⟩ | ⟨c, q, r, ps, _, rfl, h, _⟩ | ⟨i, hi, t', rfl, h⟩
  · have := h.length_le; omega
  · simp
  · simp
theorem chg_ps {l d : List TraV} {mk : List (Int × Int)} (h : Chg l d mk) (h5 : ∀ t ∈ l, t.ps.length ≤ 5) : ∀ t ∈ d, t.ps.length ≤ 5 := by
  rcases h with ⟨_, h⟩ | ⟨c, q, r, ps, _, rfl, h, hp, _⟩ | ⟨i, hi, t', rfl, h⟩
  · exact fun t ht => h5 t (h.subset ht)
  · intro t ht
    rcases List.mem_append.1 ht with ht | ht
    · exact h5 t ht
    · rw [List.mem_singleton] at ht
      subst ht
      exact hp
  · intro t ht
    rcases set_mem ht with rfl | ⟨k, hk, _, rfl⟩
    · rw [h.len]; exact h5 _ (List.getElem_mem hi)
    · exact h5 _ (List.getElem_mem hk)
theorem cnt_five : ∀ {l : List TraV} (_ : ∀ t ∈ l, t.ps.length ≤ 5), cntL l ≤ 5 * l.length
  | [], _ => by simp [cntL]
  | t :: l, h => by
    have e : cntL (t :: l) = t.ps.length + cntL l := rfl
    have h1 := h t (List.mem_cons_self ..)
    have h2 := cnt_five (fun s hs => h s (List.mem_cons_of_mem _ hs))
    rw [e, List.length_cons]
    omega
/-- P19.6: a decision never turns. -/
theorem firm_step {l d : List TraV} {mk : List (Int × Int)} (hn : NmL l) (h : Chg l d mk) {t : TraV} (ht : t ∈ l) (h1 : t.st ≠ 1) : stV d t.c t.q = 0 ∨ stV d t.c t.q = t.st := by
  have hd := chg_nm hn h
  rcases h with ⟨_, h⟩ | ⟨c, q, r, ps, _, rfl, h, _⟩ | ⟨i, hi, t', rfl, h⟩
  · exact st_sub hd (fun s hs => h.subset hs) hn ht
  · exact .inr (st_mem hd (List.mem_append_left _ ht))
  · right
    obtain ⟨k, hk, rfl⟩ := List.getElem_of_mem ht
    by_cases e : k = i
    · subst e
      rw [st_of hd (mem_set_self hi t') h.c h.q]
      exact h.st h1
    · exact st_mem hd (mem_set_other hk e t')
theorem out_mem {l : List TraV} {o : Int × Int × Int × Bool} (h : o ∈ outL l) : ∃ t ∈ l, o.2.1 = t.c ∧ o.2.2.1 = t.q ∧ ((t.st = 1 ∧ o.1 = 2) ∨ (t.st ≠ 1 ∧ o.1 = 4 ∧ o.2.2.2 = (t.st == 2))) := by
  unfold outL at h
  obtain ⟨t, ht, h⟩ := List.mem_flatMap.1 h
  unfold outQ at h
  obtain ⟨p, _, h⟩ := List.mem_flatMap.1 h
  refine ⟨t, ht, ?_⟩
  unfold outP at h
  by_cases h1 : t.st = 1
  · rw [if_pos h1] at h
    split at h
    · cases h
    · rw [List.mem_singleton] at h
      subst h
      exact ⟨rfl, rfl, .inl ⟨h1, rfl⟩⟩
  · rw [if_neg h1] at h
    split at h
    · cases h
    · rw [List.mem_singleton] at h
      subst h
      exact ⟨rfl, rfl, .inr ⟨h1, rfl, rfl⟩⟩
theorem firm_out {l : List TraV} (hn : NmL l) {o : Int × Int × Int × Bool} (h : o ∈ outL l) : ((o.1 == 2) == (stV l o.2.1 o.2.2.1 == 1)) = true ∧ (o.1 = 4 → o.2.2.2 = (stV l o.2.1 o.2.2.1 == 2)) := by
  obtain ⟨t, ht, e1, e2, h⟩ := out_mem h
  rw [e1, e2, st_mem hn ht]
  rcases h with ⟨h1, h2⟩ | ⟨h1, h2, h3⟩
  · rw [h1, h2]
    exact ⟨by decide, fun h => absurd h (by decide)⟩
  · rw [h2, h3]
    have : (t.st == 1) = false := by simpa using h1
    rw [this]
    exact ⟨by decide, fun _ => rfl⟩
/-- P19.6: who is marked. -/
def comB (l : List TraV) (t : TraV) : Bool := t.st == 2 && stV l t.c t.q == 1
theorem com_none {l : List TraV} (hn : NmL l) {t : TraV} (ht : t ∈ l) : comB l t = false := by
  unfold comB
  rw [st_mem hn ht]
  cases h : (t.st == 2) with
  | false => rfl
  | true =>
    have h2 : t.st = 2 := by simpa using h
    rw [h2]
    rfl
theorem filter_none {l d : List TraV} (h : ∀ t ∈ d, comB l t = false) : d.filter (comB l) = [] := by
  rw [List.filter_eq_nil_iff]
  intro t ht he
  rw [h t ht] at he
  cases he
theorem marks_step {l d : List TraV} {mk : List (Int × Int)} (hn : NmL l) (h : Chg l d mk) : (d.filter (comB l)).length = mk.length ∧ ∀ t ∈ d, comB l t = true → mk = [(t.c, t.q)] := by
  have none : mk = [] → (∀ t ∈ d, comB l t = false) → (d.filter (comB l)).length = mk.length ∧ ∀ t ∈ d, comB l t = true → mk = [(t.c, t.q)] := fun e h => by
    rw [filter_none h, e]
    exact ⟨rfl, fun t ht he => by rw [h t ht] at he; cases he⟩
  rcases h with ⟨e, h⟩ | ⟨c, q, r, ps, e, rfl, h, _⟩ | ⟨i, hi, t', rfl, h⟩
  · exact none e (fun t ht => com_none hn (h.subset ht))
  · refine none e (fun t ht => ?_)
    rcases List.mem_append.1 ht with ht | ht
    · exact com_none hn ht
    · rw [List.mem_singleton] at ht
      subst ht
      rfl
  · have hc : comB l t' = (t'.st == 2 && l[i].st == 1) := by
      unfold comB
      rw [h.c, h.q, st_mem hn (List.getElem_mem hi)]
    rcases h.mark with ⟨e, hm⟩ | ⟨e, h1, h2⟩
    · refine none e (fun t ht => ?_)
      rcases set_mem ht with rfl | ⟨k, hk, _, rfl⟩
      · rw [hc]
        cases h3 : (t.st == 2 && l[i].st == 1) with
        | false => rfl
        | true =>
          simp only [Bool.and_eq_true, beq_iff_eq] at h3
          exact absurd ⟨h3.2, h3.1⟩ hm
      · exact com_none hn (List.getElem_mem hk)
    · have ht : comB l t' = true := by rw [hc, h1, h2]; rfl
      refine ⟨?_, fun t hm hct => ?_⟩
      · have e2 : l.set i t' = l.take i ++ t' :: l.drop (i + 1) := by rw [List.set_eq_take_append_cons_drop, if_pos hi]
        rw [e2, List.filter_append, filter_none (fun t ht => com_none hn (List.mem_of_mem_take ht)), List.filter_cons, if_pos ht, filter_none (fun t ht => com_none hn (List.mem_of_mem_drop ht)), e]
        rfl
      · rcases set_mem hm with rfl | ⟨k, hk, _, rfl⟩
        · rw [e, h.c, h.q]
        · rw [com_none hn (List.getElem_mem hk)] at hct
          cases hct
/-- P19.3: who said yes. -/
abbrev VotV := Int × Int × Int × Int × Int
def yesR (yes : List VotV) (s : StpX) : List VotV :=
  if s.beg = true then yes.filter (fun y => !(y.1 == s.c && y.2.1 == s.q)) else if s.tak = false ∧ s.m.kind = 3 ∧ s.m.yes = true then yes ++ [(s.m.c, s.m.q, s.m.k, s.m.n, s.m.frm)] else yes
def YesI (l : List TraV) (yes : List VotV) : Prop := ∀ t ∈ l, t.st = 1 → ∀ p ∈ t.ps, p.vo = true → (t.c, t.q, p.k, p.n, p.g) ∈ yes
theorem yes_more {yes : List VotV} {s : StpX} (hb : s.beg = false) {y : VotV} (h : y ∈ yes) : y ∈ yesR yes s := by
  unfold yesR
  rw [hb, if_neg (by decide)]
  split
  · exact List.mem_append_left _ h
  · exact h
theorem set_pee {l : List PeeV} {j : Nat} {p' p : PeeV} (h : p ∈ l.set j p') : p = p' ∨ p ∈ l := by
  rcases List.mem_or_eq_of_mem_set h with h | h
  · exact .inr h
  · exact .inl h
theorem all_step {g : Int} {l : List TraV} {yes : List VotV} {s : StpX} (hn : NmL l) (hy : YesI l yes) (h0 : (stpR g l s).2.2.2 = 0) :
    YesI (stpR g l s).2.1 (yesR yes s) ∧ ∀ x ∈ (stpR g l s).2.2.1, ∀ t ∈ (stpR g l s).2.1, t.c = x.1 → t.q = x.2 → ∀ p ∈ t.ps, (t.c, t.q, p.k, p.n, p.g) ∈ yesR yes s := by
  unfold stpR at h0 ⊢
  by_cases hb : s.beg = true
  · rw [if_pos hb] at h0 ⊢
    obtain ⟨h1, h2, h3, h4, h5⟩ := beg_cases h0 g
    refine ⟨?_, fun x hx => by cases hx⟩
    dsimp only
    rw [h2]
    intro t ht hs p hp hv
    rcases List.mem_append.1 ht with ht | ht
    · unfold yesR
      rw [if_pos hb, List.mem_filter]
      refine ⟨hy t ht hs p hp hv, ?_⟩
      cases he : (t.c == s.c && t.q == s.q) with
      | false => rfl
      | true =>
        simp only [Bool.and_eq_true, beq_iff_eq] at he
        exact absurd he (h3 t ht)
    · rw [List.mem_singleton] at ht
      subst ht
      rw [h5 p hp] at hv
      cases hv
  · have hbf : s.beg = false := by simpa using hb
    rw [if_neg hb] at h0 ⊢
    by_cases ht : s.tak = true
    · rw [if_pos ht]
      refine ⟨fun t ht hs p hp hv => yes_more hbf (hy t ((end_sub l).subset ht) hs p hp hv), fun x hx => by cases hx⟩
    · have htf : s.tak = false := by simpa using ht
      rw [if_neg ht] at h0 ⊢
      obtain ⟨_, _, _, _, i, hi, t', _, hc, hq, hd, htr, hk⟩ := hea_cases h0
      rw [hd]
      have hti := List.getElem_mem hi
      -- what the turned transaction's peers say
      have key : ∀ p ∈ t'.ps, l[i].st = 1 → p.vo = true → (t'.st = 1 ∨ t'.st = 2) → (t'.c, t'.q, p.k, p.n, p.g) ∈ yesR yes s := by
        intro p hp hs hv hst
        rw [htr.c, htr.q]
        rcases hk with ⟨_, rfl⟩ | ⟨j, hj, _, e1, e2, e3, ⟨hk3, rfl⟩ | ⟨hk5, rfl⟩⟩
        · unfold abtV at hst
          rw [if_pos hs] at hst
          simp at hst
        · rcases vt_eq l[i] j s.m with e | e | ⟨p0, hp0, hyes, _, _, e⟩
          · rw [e] at hst
            unfold abtV at hst
            simp only [if_pos hs] at hst
            simp at hst
          · rw [e] at hp
            exact yes_more hbf (hy _ hti hs p hp hv)
          · rw [e] at hp
            rcases set_pee hp with rfl | hp
            · rw [List.getElem?_eq_getElem hj] at hp0
              cases hp0
              unfold yesR
              rw [hbf, if_neg (by decide), if_pos ⟨htf, hk3, hyes⟩]
              refine List.mem_append_right _ ?_
              rw [List.mem_singleton, hc, hq]
              show (s.m.c, s.m.q, l[i].ps[j].k, l[i].ps[j].n, l[i].ps[j].g) = _
              rw [e1, e2, e3]
            · exact yes_more hbf (hy _ hti hs p hp hv)
        · have e : akV l[i] j s.m = l[i] := by
            unfold akV
            rw [List.getElem?_eq_getElem hj]
            exact if_neg (fun h => h.1 hs)
          rw [e] at hp
          exact yes_more hbf (hy _ hti hs p hp hv)
      refine ⟨fun t ht hs p hp hv => ?_, fun x hx t ht e1 e2 p hp => ?_⟩
      · rcases set_mem ht with rfl | ⟨k, hkk, hne, rfl⟩
        · by_cases hs1 : l[i].st = 1
          · exact key p hp hs1 hv (.inl hs)
          · exact absurd ((htr.st hs1).symm.trans hs) hs1
        · exact yes_more hbf (hy _ (List.getElem_mem hkk) hs p hp hv)
      · rcases htr.mark with ⟨e, _⟩ | ⟨e, h1, h2⟩
        · rw [e] at hx
          cases hx
        · rw [e, List.mem_singleton] at hx
          subst hx
          rcases set_mem ht with rfl | ⟨k, hkk, hne, rfl⟩
          · refine key p hp h1 ?_ (.inr h2)
            rcases hk with ⟨_, rfl⟩ | ⟨j, hj, _, _, _, _, ⟨hk3, rfl⟩ | ⟨hk5, rfl⟩⟩
            · unfold abtV at h2
              rw [if_pos h1] at h2
              simp at h2
            · rcases vt_eq l[i] j s.m with e | e | ⟨p0, hp0, hyes, _, _, e⟩
              · rw [e] at h2
                unfold abtV at h2
                simp only [if_pos h1] at h2
                simp at h2
              · rw [e] at h2
                have := h1.symm.trans h2
                omega
              · rw [e] at h2 hp
                unfold yesV at h2
                cases ha : (l[i].ps.set j { p0 with vo := true }).any (fun p => !p.vo) with
                | true =>
                  simp only [ha, if_true] at h2
                  have := h1.symm.trans h2
                  omega
                | false =>
                  rw [List.any_eq_false] at ha
                  have := ha p hp
                  simpa using this
            · have e : akV l[i] j s.m = l[i] := by
                unfold akV
                rw [List.getElem?_eq_getElem hj]
                exact if_neg (fun h => h.1 h1)
              rw [e] at h2
              have := h1.symm.trans h2
              omega
          · exfalso
            unfold NmL at hn
            rw [List.pairwise_iff_getElem] at hn
            rcases Nat.lt_or_gt_of_ne hne with h3 | h3
            · exact hn k i hkk hi h3 ⟨e1, e2⟩
            · exact hn i k hi hkk h3 ⟨e1.symm, e2.symm⟩
/-- P19.6: a message that comes again. -/
theorem pid_same (k n g : Int) : ∀ (a b : List PeeV) (o : Nat), a.length = b.length → (∀ i (h : i < a.length) (h' : i < b.length), b[i].k = a[i].k ∧ b[i].n = a[i].n ∧ b[i].g = a[i].g) → pidL k n g a o = pidL k n g b o
  | [], [], _, _, _ => rfl
  | [], _ :: _, _, h, _ => by simp at h
  | _ :: _, [], _, h, _ => by simp at h
  | p :: a, p' :: b, o, hl, h => by
    have h0 := h 0 (by simp) (by simp)
    simp only [List.getElem_cons_zero] at h0
    have hi : isP k n g p' = isP k n g p := by unfold isP; rw [h0.1, h0.2.1, h0.2.2]
    unfold pidL
    rw [hi, pid_same k n g a b (o + 1) (by simpa using hl) (fun i h1 h2 => by
      have := h (i + 1) (by simpa using h1) (by simpa using h2)
      simpa using this)]
theorem fnd_same (c q k n g : Int) : ∀ (l : List TraV) (i : Nat) (t' : TraV) (hi : i < l.length) (o : Nat) (a0 : Int), t'.c = l[i].c → t'.q = l[i].q → pidL k n g l[i].ps 0 = pidL k n g t'.ps 0 → fndV c q k n g (l.set i t') o a0 = fndV c q k n g l o a0
  | [], _, _, hi, _, _, _, _, _ => by simp at hi
  | x :: l, 0, t', _, o, a0, h1, h2, h3 => by
    simp only [List.getElem_cons_zero] at h1 h2 h3
    rw [List.set_cons_zero]
    unfold fndV
    rw [h1, h2, h3]
  | x :: l, i + 1, t', hi, o, a0, h1, h2, h3 => by
    simp only [List.getElem_cons_succ] at h1 h2 h3
    rw [List.set_cons_succ]
    have ih := fun o a0 => fnd_same c q k n g l i t' (by simpa using hi) o a0 h1 h2 h3
    unfold fndV
    rw [ih, ih]
theorem again_step {g : Int} {l : List TraV} {m : MesX} (h0 : (heaR g l m).2.2.2 = 0) : heaR g (heaR g l m).2.1 m = (g, (heaR g l m).2.1, [], 0) := by
  obtain ⟨_, hd1, hd2, hd3, i, hi, t', hf, hc, hq, hd, htr, hk⟩ := hea_cases h0
  rw [hd]
  have hfs := fnd_same m.c m.q m.k m.n m.frm l i t' hi 0 (-1) htr.c htr.q (pid_same _ _ _ _ _ 0 htr.len.symm htr.key)
  have hi2 : i < (l.set i t').length := by rw [List.length_set]; exact hi
  have hT : (l.set i t')[(fndV m.c m.q m.k m.n m.frm l 0 (-1)).1.toNat]? = some t' := by
    rw [hf, Int.toNat_natCast, List.getElem?_eq_getElem hi2, List.getElem_set_self hi2]
  have hset : ∀ t2, t2 = t' → (l.set i t').set i t2 = l.set i t' := fun t2 e => by rw [e, List.set_set]
  unfold heaR
  rw [hfs, if_pos ⟨hd1, hd2, hd3⟩]
  rcases hk with ⟨h6, rfl⟩ | ⟨j, hj, hfj, _, _, _, hk⟩
  · rw [if_neg (by rintro (h | ⟨_, h⟩) <;> omega)]
    simp only [hT]
    rw [if_pos h6, hf, Int.toNat_natCast, hset]
    unfold abtV
    by_cases h1 : l[i].st = 1
    · rw [if_pos h1]
      simp
    · rw [if_neg h1, if_neg h1]
  · rw [if_neg (by rintro (h | ⟨h, _⟩) <;> omega)]
    simp only [hT]
    rw [hf, hfj, Int.toNat_natCast, Int.toNat_natCast]
    rcases hk with ⟨h3, rfl⟩ | ⟨h5, rfl⟩
    · rw [if_neg (by omega), if_pos h3]
      have e2 : vtV (vtV l[i] j m).1 j m = ((vtV l[i] j m).1, false) := by
        rcases vt_eq l[i] j m with e | e | ⟨p0, hp0, hyes, hs, hv, e⟩
        · by_cases hy : m.yes = false
          · have e0 : (vtV l[i] j m).1 = abtV l[i] m.x.v.code := by rw [e]
            rw [e0]
            unfold vtV
            rw [if_pos hy]
            congr 1
            unfold abtV
            by_cases h1 : l[i].st = 1
            · rw [if_pos h1]
              simp
            · rw [if_neg h1, if_neg h1]
          · unfold vtV at e
            rw [if_neg hy, List.getElem?_eq_getElem hj] at e
            dsimp only at e
            by_cases hc2 : l[i].st = 1 ∧ l[i].ps[j].vo = false
            · rw [if_pos hc2] at e
              have e3 := congrArg (fun x => x.1.st) e
              simp only [yesV, abtV, if_pos hc2.1] at e3
              exfalso
              split at e3 <;> omega
            · rw [if_neg hc2] at e
              have e4 : vtV l[i] j m = (l[i], false) := by
                unfold vtV
                rw [if_neg hy, List.getElem?_eq_getElem hj]
                exact if_neg hc2
              rw [e4]
              exact e4
        · have e0 : (vtV l[i] j m).1 = l[i] := by rw [e]
          rw [e0]
          exact e
        · have e0 : (vtV l[i] j m).1 = yesV l[i] (l[i].ps.set j { p0 with vo := true }) m.x.v.am (m.cx.map CelX.v) := by rw [e]
          rw [e0]
          have hy : ¬ m.yes = false := by rw [hyes]; decide
          have hg : (yesV l[i] (l[i].ps.set j { p0 with vo := true }) m.x.v.am (m.cx.map CelX.v)).ps[j]? = some { p0 with vo := true } := by
            show (l[i].ps.set j { p0 with vo := true })[j]? = _
            rw [List.getElem?_set_self hj]
          generalize yesV l[i] (l[i].ps.set j { p0 with vo := true }) m.x.v.am (m.cx.map CelX.v) = T at *
          unfold vtV
          rw [if_neg hy, hg]
          exact if_neg (fun h => by simp at h)
      rw [e2, hset _ rfl]
      simp
    · rw [if_neg (by omega), if_neg (by omega)]
      rw [hset]
      cases hp : l[i].ps[j]? with
      | none =>
        have e : akV l[i] j m = l[i] := by unfold akV; rw [hp]
        rw [e, e]
      | some p =>
        by_cases hc2 : l[i].st ≠ 1 ∧ p.ac = false
        · have hg : (akV l[i] j m).ps[j]? = some { p with ac := true } := by
            unfold akV
            rw [hp]
            dsimp only
            rw [if_pos hc2]
            split
            · show (l[i].ps.set j { p with ac := true })[j]? = _
              rw [List.getElem?_set_self hj]
            · show (l[i].ps.set j { p with ac := true })[j]? = _
              rw [List.getElem?_set_self hj]
          generalize akV l[i] j m = T at *
          unfold akV
          rw [hg]
          exact if_neg (fun h => by simp at h)
        · have e : akV l[i] j m = l[i] := by
            unfold akV
            rw [hp]
            exact if_neg hc2
          rw [e, e]
end Go.Proofs.YtilinemcmgjiiaaDoor
namespace Go.Proofs.YtilinemcmgjiiaaDoor
open Go.RowKit
set_option linter.all false
theorem hear_is (g : Int) (a : Option Addr) (cp : Nat) (l : List TraX) (m : MesX) (w : World) (h : Trs w (.slice a l.length cp) l) (hm : MesAt w m) (hs : ∀ t ∈ l.map TraX.v, (t.ce.length + m.cx.length) * 144 ≤ 140737488355328 ∧ (t.an.fl.length + m.x.v.fl.length) * 32 ≤ 140737488355328) : Calls Tryd.prog 14 #[.agg #[.int .i64 g, .slice a l.length cp], .agg (mesE m).toArray] w (HeaBack (heaR g (l.map TraX.v) m).1 (heaR g (l.map TraX.v) m).2.1 (heaR g (l.map TraX.v) m).2.2.1 (heaR g (l.map TraX.v) m).2.2.2 w) := by
  by_cases hok : m.dst = g ∧ heaB m.kind = true ∧ amsB m.x.v.am (-1) = true
  · by_cases hno : (fndV m.c m.q m.k m.n m.frm (l.map TraX.v) 0 (-1)).1 < 0 ∨ ((fndV m.c m.q m.k m.n m.frm (l.map TraX.v) 0 (-1)).2 < 0 ∧ m.kind ≠ 6)
    · have e : heaR g (l.map TraX.v) m = (0, [], [], 191) := by unfold heaR; rw [if_pos hok, if_pos hno]
      rw [e]
      exact hear_none g a cp l m w h hm hok hno
    · rcases fnd_ok m.c m.q m.k m.n m.frm (l.map TraX.v) 0 (-1) with hf | ⟨i, hi, hc, hq, h1, h2⟩
      · exact absurd (Or.inl (by rw [hf]; decide)) hno
      · rw [Nat.zero_add] at h1
        have hi' : i < l.length := by simpa using hi
        have hv : (l.map TraX.v)[i] = l[i].v := List.getElem_map ..
        have hT : (l.map TraX.v)[(fndV m.c m.q m.k m.n m.frm (l.map TraX.v) 0 (-1)).1.toNat]? = some l[i].v := by rw [h1, ← hv]; exact List.getElem?_eq_getElem hi
        have hti : (fndV m.c m.q m.k m.n m.frm (l.map TraX.v) 0 (-1)).1.toNat = i := by omega
        have hz := hs _ (List.getElem_mem hi)
        rw [hv] at hz
        have hz1 : (l[i].cx.length + m.cx.length) * 144 ≤ 140737488355328 := by have := hz.1; simpa [TraX.v] using this
        have hz2 : (l[i].x.v.fl.length + m.x.v.fl.length) * 32 ≤ 140737488355328 := hz.2
        by_cases h6 : m.kind = 6
        · have e : heaR g (l.map TraX.v) m = (g, (l.map TraX.v).set i (abtV l[i].v 4), [], 0) := by
            unfold heaR
            rw [if_pos hok, if_neg hno]
            simp only [hT]
            rw [if_pos h6, hti]
          rw [e]
          exact hear_wound g a cp l m w i hi' h hm hok h1 h6
        · rcases h2 with h2 | ⟨j, hj, h2, -⟩
          · exact absurd (Or.inr ⟨by omega, h6⟩) hno
          · have hj' : j < l[i].ps.length := by rw [hv] at hj; exact hj
            have htj : (fndV m.c m.q m.k m.n m.frm (l.map TraX.v) 0 (-1)).2.toNat = j := by omega
            have hat : fndV m.c m.q m.k m.n m.frm (l.map TraX.v) 0 (-1) = ((i : Int), (j : Int)) := Prod.ext h1 h2
            by_cases h3 : m.kind = 3
            · have e : heaR g (l.map TraX.v) m = (g, (l.map TraX.v).set i (vtV l[i].v j m).1, if (vtV l[i].v j m).2 = true then [((vtV l[i].v j m).1.c, (vtV l[i].v j m).1.q)] else [], 0) := by
                unfold heaR
                rw [if_pos hok, if_neg hno]
                simp only [hT]
                rw [if_neg h6, if_pos h3, hti, htj]
              rw [e]
              exact hear_vote g a cp l m w i j hi' hj' h hm hok hat h3 hz1
            · have h5 : m.kind = 5 := by
                have := hok.2.1
                unfold heaB at this
                simp only [Bool.or_eq_true, beq_iff_eq] at this
                omega
              have e : heaR g (l.map TraX.v) m = (g, (l.map TraX.v).set i (akV l[i].v j m), [], 0) := by
                unfold heaR
                rw [if_pos hok, if_neg hno]
                simp only [hT]
                rw [if_neg h6, if_neg h3, hti, htj]
              rw [e]
              exact hear_ack g a cp l m w i j hi' hj' h hm hok hat h5 hz2
  · have e : heaR g (l.map TraX.v) m = (0, [], [], 190) := by unfold heaR; rw [if_neg hok]
    rw [e]
    exact hear_bad g a cp l m w h hm hok
end Go.Proofs.YtilinemcmgjiiaaDoor
namespace Go.Proofs.YtilinemcmgjiiaaDoor
open Go.RowKit
set_option linter.all false
def stpE (s : StpX) : List Value := [.bool s.beg, .bool s.tak, .int .i64 s.c, .int .i64 s.q] ++ (reqC s.r).toList ++ [.slice s.pa s.ps.length s.pc] ++ mesE s.m
theorem stpK (s : StpX) : (stpE s).length = 40 := rfl
theorem infoStp : (Tryd.prog.info? 49).map (fun i => (i.size, i.bytes)) = some (40, 376) := by kernel_rfl
structure StpAt (w : World) (s : StpX) : Prop where
  p : Pees w (.slice s.pa s.ps.length s.pc) s.ps
  m : MesAt w s.m
theorem StpAt.keep {w w' : World} {s : StpX} (h : StpAt w s) (hb : Below w.heap.size w w') : StpAt w' s := ⟨h.p.keep hb, h.m.keep hb⟩
/-- What a step brings is small. -/
def smlS (s : StpX) : Prop := s.m.cx.length ≤ 1048576 ∧ s.m.x.v.fl.length ≤ 1048576
structure Stps (w : World) (v : Value) (l : List StpX) : Prop where
  row : SGot 40 376 stpE w v l
  at_ : ∀ s ∈ l, StpAt w s
  sml : ∀ s ∈ l, smlS s
theorem Stps.keep {w w' : World} {v : Value} {l : List StpX} (h : Stps w v l) (hb : Below w.heap.size w w') : Stps w' v l := ⟨h.row.keep hb, fun s hs => (h.at_ s hs).keep hb, h.sml⟩
theorem Stps.cells {w : World} {v : Value} {l : List StpX} (h : Stps w v l) : ∃ a c, v = .slice a l.length c ∧ l.length * 376 ≤ 140737488355328 ∧ ∀ i (h : i < l.length), ∃ b off, a = some ⟨b, off, none⟩ ∧ b < w.heap.size ∧ w.rangeAt b (off + i * 40) (stpE l[i]) := by
  obtain ⟨h8, a, c, e, hc, hr⟩ := h.row
  refine ⟨a, c, e, h8, fun i hi => ?_⟩
  obtain ⟨b, off, ha, hb, hcell⟩ := hr (by omega)
  refine ⟨b, off, ha, hb, fun j v hv => ?_⟩
  have hj : j < 40 := by
    have := (List.getElem?_eq_some_iff.1 hv).1
    rwa [stpK] at this
  rw [Nat.add_assoc, hcell (i * 40 + j) (by omega), celC_get stpK l i hi j hj, hv]
theorem sgot_upto {α : Type} {k bytes : Nat} {enc : α → List Value} {w : World} {a : Option Addr} {c : Nat} {l : List α} (hk : ∀ x, (enc x).length = k) (h : SGot k bytes enc w (.slice a l.length c) l) (t : Nat) (ht : t ≤ l.length) : SGot k bytes enc w (.slice a t c) (l.take t) := by
  obtain ⟨h8, a', c', e, hc, hr⟩ := h
  simp only [Value.slice.injEq, true_and] at e
  obtain ⟨rfl, rfl⟩ := e
  have hl : (l.take t).length = t := by rw [List.length_take]; omega
  refine ⟨by rw [hl]; exact Nat.le_trans (Nat.mul_le_mul_right _ ht) h8, a, c, by rw [hl], ⟨by rw [hl]; omega, hc.2⟩, fun hp => ?_⟩
  rw [hl] at hp
  obtain ⟨b, off, ha, hb, hcell⟩ := hr (by omega)
  refine ⟨b, off, ha, hb, fun j hj => ?_⟩
  rw [hl] at hj
  have h1 : t * k ≤ l.length * k := Nat.mul_le_mul_right _ ht
  rw [hcell j (by omega), ← celC_take hk l t, List.getElem?_take, if_pos hj]
set_option maxHeartbeats 4000000 in
theorem fewS_is (v : Value) (l : List StpX) (w : World) (h : Stps w v l) : Calls Tryd.prog 9 #[v, .int .i64 40] w fun e w' => (∃ v', e = .returned v' ∧ ∀ w0, Stps w0 v l → Stps w0 v' (l.take 40)) ∧ w' = w := by
  obtain ⟨a, c, rfl, h8, -⟩ := h.cells
  obtain ⟨-, a1, c1, e1, hc, -⟩ := h.row
  simp only [Value.slice.injEq, true_and] at e1
  obtain ⟨rfl, rfl⟩ := e1
  have hm : maxLen = 9223372036854775807 := by decide
  rw [hm] at hc
  obtain ⟨hc1, hc2⟩ := hc
  by_cases hl : 40 < l.length
  · have H := hideIt (fun w0 (h0 : Stps w0 (.slice a l.length c) l) => (⟨sgot_upto stpK h0.row 40 (by omega), fun s hs => h0.at_ s (List.mem_of_mem_take hs), fun s hs => h0.sml s (List.mem_of_mem_take hs)⟩ : Stps w0 (.slice a 40 c) (l.take 40)))
    have hI : (40 : Int) < (l.length : Int) := by omega
    have h40 : (40 : Int) ≤ (c : Int) := by omega
    clear h
    go_enter Tryd.func9, Tryd.ntmps9
    go_wp2
    go_ret
    exact ⟨⟨_, rfl, H.out⟩, rfl⟩
  · have H := hideIt (fun w0 (h0 : Stps w0 (.slice a l.length c) l) => h0)
    have hI : ¬ (40 : Int) < (l.length : Int) := by omega
    have ht : l.take 40 = l := List.take_of_length_le (by omega)
    rw [ht]
    clear h
    go_enter Tryd.func9, Tryd.ntmps9
    go_wp2
    go_ret
    exact ⟨⟨_, rfl, H.out⟩, rfl⟩
/-- What a step leaves. -/
theorem hea_fin {w W1 : World} {g : Int} {a : Option Addr} {c k : Nat} {l : List TraV} {ys : List TraX} {B : Nat} (hx : W1.heap[k]? = some (.cells #[.int .i64 0, .slice none 0 0] 25 (0, 0))) (hk : w.heap.size ≤ k) (hB : w.heap.size ≤ B) (hy : ys.map TraX.v = l) (ho : TrsOwn B W1 (.slice a l.length c) ys) (hb : Below w.heap.size w W1) : Below w.heap.size w ((W1.setCell ⟨k, 0, none⟩ (.int .i64 g)).setCell ⟨k, 1, none⟩ (.slice a l.length c)) ∧ TrsOwn w.heap.size ((W1.setCell ⟨k, 0, none⟩ (.int .i64 g)).setCell ⟨k, 1, none⟩ (.slice a l.length c)) (.slice a l.length c) ys := by
  have h1 := heap_set hx 0 (.int .i64 g)
  have o1 := ho.ty (j := 0) (u := .int .i64 g) hx (by unfold noT; decide) (by decide)
  have o2 := o1.ty (j := 1) (u := .slice a l.length c) h1 (by unfold noT; decide) (by decide)
  exact ⟨belowSet _ (belowSet _ hb hk) hk, o2.base hB⟩
set_option maxHeartbeats 8000000 in
set_option maxRecDepth 100000 in
theorem step_is (g : Int) (a : Option Addr) (cp : Nat) (l : List TraX) (s : StpX) (w : World) (h : Trs w (.slice a l.length cp) l) (hst : StpAt w s) (hF : Forms w) (hz1 : (l.length + 1) * 248 ≤ 140737488355328) (hz2 : ∀ t ∈ l.map TraX.v, (t.ce.length + s.m.cx.length) * 144 ≤ 140737488355328 ∧ (t.an.fl.length + s.m.x.v.fl.length) * 32 ≤ 140737488355328) : Calls Tryd.prog 10 #[.agg #[.int .i64 g, .slice a l.length cp], .agg (stpE s).toArray] w (HeaBack (stpR g (l.map TraX.v) s).1 (stpR g (l.map TraX.v) s).2.1 (stpR g (l.map TraX.v) s).2.2.1 (stpR g (l.map TraX.v) s).2.2.2 w) := by
  have HBg := hideIt (fun W (hW : Below w.heap.size w W) => beginC_is g a cp l s.c s.q s.r (.slice s.pa s.ps.length s.pc) s.ps W (h.keep hW) (hst.p.keep hW) (hF.keep hW) hz1)
  have HEn := hideIt (fun W (hW : Below w.heap.size w W) => ended_is g a cp l W (h.keep hW))
  have HHe := hideIt (fun W (hW : Below w.heap.size w W) => hear_is g a cp l s.m W (h.keep hW) (hst.m.keep hW) hz2)
  have eR : reqC s.r = (reqC s.r).toList.toArray := rfl
  unfold CorBack at HBg
  unfold EnBack at HEn
  unfold HeaBack at HHe
  rw [eR] at HBg
  clear eR
  have HLr : Hid ((Tryd.prog.info? 39).map (·.size) = some (reqC s.r).toList.length) := by
    show _ = _
    rw [show (reqC s.r).toList.length = 11 from rfl]
    kernel_rfl
  have HLm : Hid ((Tryd.prog.info? 47).map (·.size) = some (mesE s.m).length) := by
    show _ = _
    rw [mesK]
    kernel_rfl
  have L0 : (stpE s)[0]? = some (.bool s.beg) := rfl
  have L1 : (stpE s)[1]? = some (.bool s.tak) := rfl
  have L2 : (stpE s)[2]? = some (.int .i64 s.c) := rfl
  have L3 : (stpE s)[3]? = some (.int .i64 s.q) := rfl
  have L15 : (stpE s)[15]? = some (.slice s.pa s.ps.length s.pc) := rfl
  have LR : ∀ j v, (reqC s.r).toList[j]? = some v → (stpE s)[4 + j]? = some v := fun j v hv => by
    unfold stpE
    rw [List.append_assoc, List.append_assoc, List.getElem?_append_right (by simp), List.getElem?_append_left (by have := (List.getElem?_eq_some_iff.1 hv).1; simp only [List.length_cons, List.length_nil]; omega)]
    simpa using hv
  have LM : ∀ j v, (mesE s.m)[j]? = some v → (stpE s)[16 + j]? = some v := fun j v hv => by
    unfold stpE
    rw [List.getElem?_append_right (by simp [reqC])]
    simpa [reqC] using hv
  generalize stpE s = L at *
  have HMC : Hid (∀ W : World, W.heap[w.heap.size + 1]? = some (.cells L.toArray 49 (0, 0)) → W.cell? ⟨w.heap.size + 1, 0, none⟩ = some (.bool s.beg) ∧ W.cell? ⟨w.heap.size + 1, 1, none⟩ = some (.bool s.tak) ∧ W.cell? ⟨w.heap.size + 1, 2, none⟩ = some (.int .i64 s.c) ∧ W.cell? ⟨w.heap.size + 1, 3, none⟩ = some (.int .i64 s.q) ∧ W.cell? ⟨w.heap.size + 1, 15, none⟩ = some (.slice s.pa s.ps.length s.pc) ∧ (∀ j, W.frozen? ⟨w.heap.size + 1, j, none⟩ = false) ∧ w.heap.size + 1 < W.heap.size ∧ W.rangeAt (w.heap.size + 1) 4 (reqC s.r).toList ∧ W.rangeAt (w.heap.size + 1) 16 (mesE s.m)) := fun W hX =>
    have hl : ∀ j v, L[j]? = some v → W.cell? ⟨w.heap.size + 1, j, none⟩ = some v := fun j v hv => by rw [cell_at hX]; simpa using hv
    ⟨hl 0 _ L0, hl 1 _ L1, hl 2 _ L2, hl 3 _ L3, hl 15 _ L15, fun j => free_at hX j, (Array.getElem?_eq_some_iff.1 hX).1, fun j v hv => hl _ v (LR j v hv), fun j v hv => hl _ v (LM j v hv)⟩
  clear L0 L1 L2 L3 L15 LR LM
  have hX := three_heap w (.cells #[.int .i64 g, .slice a l.length cp] 25) (.cells L.toArray 49) (.cells #[.int .i64 0, .slice none 0 0] 25)
  have X1 := hideIt hX.1
  have X2 := hideIt hX.2.1
  have X3 : Hid ((((w.alloc (.cells #[.int .i64 g, .slice a l.length cp] 25)).alloc (.cells L.toArray 49)).alloc (.cells #[.int .i64 0, .slice none 0 0] 25)).heap[w.heap.size + 1 + 1]? = some (.cells #[.int .i64 0, .slice none 0 0] 25)) := hX.2.2.1
  have BW := hideIt (below3 w (.cells #[.int .i64 g, .slice a l.length cp] 25) (.cells L.toArray 49) (.cells #[.int .i64 0, .slice none 0 0] 25))
  clear hX
  cases hb0 : s.beg
  · cases ht0 : s.tak
    · have e : stpR g (l.map TraX.v) s = heaR g (l.map TraX.v) s.m := by unfold stpR; rw [hb0, ht0, if_neg (by decide), if_neg (by decide)]
      rw [e]
      clear e HBg HEn h hst hF hz1 hz2 HLr
      rw [hb0, ht0] at HMC
      clear hb0 ht0
      generalize heaR g (l.map TraX.v) s.m = R at *
      obtain ⟨g', d, mk, n⟩ := R
      dsimp only at HHe ⊢
      generalize mesE s.m = LMs at *
      generalize (reqC s.r).toList = LRq at *
      go_enter Tryd.func10, Tryd.ntmps10
      go_upto_region 1 with fail
      generalize ((w.alloc (.cells #[.int .i64 g, .slice a l.length cp] 25)).alloc (.cells L.toArray 49)).alloc (.cells #[.int .i64 0, .slice none 0 0] 25) = W0 at *
      obtain ⟨⟨c0, c1⟩, cf, cz⟩ := at2 X1.out
      obtain ⟨⟨f0, f1⟩, ff, fz⟩ := at2 X3.out
      obtain ⟨m0, m1, m2, m3, m15, mf, mz, hrR, hrM⟩ := HMC.out _ X2.out
      go_wp2_with (first | (refine wpList_load_mid rfl _ _ rfl (w.heap.size + 1) 16 rfl LMs _ hrM Tryd.underlying47 rfl HLm.out ?_; go_frame) | fail)
      refine (HHe.out _ BW.out).mono ?_
      rintro e w1 ⟨a', c', ys, ma, mc, rfl, hy, ho, hmo, hb⟩
      dsimp only
      have HY := hideIt hy
      have HO := hideIt ho
      have HM := hideIt hmo
      have X3n := hideIt (blkK X3.out hb)
      have B1 := hideIt (below_via BW.out hb)
      have hsz := BW.out.size
      clear hy ho hmo hb c0 c1 cf cz f0 f1 ff fz m0 m1 m2 m3 m15 mf mz hrR hrM X1 X2 X3 BW HHe HMC
      obtain ⟨⟨f0, f1⟩, ff, fz⟩ := at2 X3n.out
      go_wp2
      obtain ⟨hzz, hoo⟩ := puts2 _ (w.heap.size + 1 + 1) 25 (.int .i64 g') (.slice a' d.length c') X3n.out
      obtain ⟨q1, q2⟩ := hea_fin (g := g') X3n.out (by omega) (by omega) HY.out HO.out B1.out
      exact bodyPost_ret (v := .tuple #[.agg #[.int .i64 g', .slice a' d.length c'], .slice ma mk.length mc, .int .i64 n]) (by simp [results, Tryd.results10, go_sem, cell_at hzz]) rfl ⟨a', c', ys, ma, mc, rfl, HY.out, q2, own_base (own_cell (own_cell HM.out X3n.out (by decide)) (heap_set X3n.out 0 _) (by decide)) (by omega), q1⟩
    · have e : stpR g (l.map TraX.v) s = (g, endL (l.map TraX.v), [], 0) := by unfold stpR; rw [hb0, ht0, if_neg (by decide), if_pos rfl]
      rw [e]
      clear e HBg HHe h hst hF hz1 hz2 HLr HLm
      rw [hb0, ht0] at HMC
      clear hb0 ht0
      dsimp only
      generalize endL (l.map TraX.v) = d at *
      generalize (endI (l.map TraX.v) 0).isSome = eb at *
      generalize mesE s.m = LMs at *
      generalize (reqC s.r).toList = LRq at *
      go_enter Tryd.func10, Tryd.ntmps10
      go_upto_region 1 with fail
      generalize ((w.alloc (.cells #[.int .i64 g, .slice a l.length cp] 25)).alloc (.cells L.toArray 49)).alloc (.cells #[.int .i64 0, .slice none 0 0] 25) = W0 at *
      obtain ⟨⟨c0, c1⟩, cf, cz⟩ := at2 X1.out
      obtain ⟨⟨f0, f1⟩, ff, fz⟩ := at2 X3.out
      obtain ⟨m0, m1, m2, m3, m15, mf, mz, hrR, hrM⟩ := HMC.out _ X2.out
      go_wp2_with fail
      refine (HEn.out _ BW.out).mono ?_
      rintro e w1 ⟨a', c', ys, y, rfl, hy, ho, -, hb⟩
      dsimp only
      have HY := hideIt hy
      have Z3 := hideIt (blkK X3.out hb)
      have B1 := hideIt (below_via BW.out hb)
      have hsz := BW.out.size
      have hone : Hid ((traE y).toArray.all (·.oneCell') = true) := all_oneCell_toArray (tra1 y)
      have hS1 : Hid ((Tryd.prog.info? 52).map (·.size) = some (traE y).toArray.size) := by
        show _ = _
        rw [List.size_toArray, traK]
        kernel_rfl
      have hS2 : Hid (21 = (traE y).toArray.size) := by
        show _ = _
        rw [List.size_toArray, traK]
      have HO := hideIt ho
      have hs1 := hb.size
      generalize traE y = LT at *
      clear hy ho hb c0 c1 cf cz f0 f1 ff fz m0 m1 m2 m3 m15 mf mz hrR hrM X1 X2 X3 BW HEn HMC
      have y2 := two_heap w1 (.cells #[.int .i64 g, .slice a' d.length c'] 25) (.cells #[.int .i64 0, .int .i64 0, .int .i64 0, .int .i64 0, .int .i64 0, .int .i64 0, .int .i64 0, .int .i64 0, .int .i64 0, .bool false, .int .i64 0, .int .i64 0, .int .i64 0, .slice none 0 0, .int .i64 0, .slice none 0 0, .slice none 0 0, .int .i64 0, .int .i64 0, .slice none 0 0, .slice none 0 0] 52)
      have Y1 := hideIt y2.1
      have y3 : ((w1.alloc (.cells #[.int .i64 g, .slice a' d.length c'] 25)).alloc (.cells #[.int .i64 0, .int .i64 0, .int .i64 0, .int .i64 0, .int .i64 0, .int .i64 0, .int .i64 0, .int .i64 0, .int .i64 0, .bool false, .int .i64 0, .int .i64 0, .int .i64 0, .slice none 0 0, .int .i64 0, .slice none 0 0, .slice none 0 0, .int .i64 0, .int .i64 0, .slice none 0 0, .slice none 0 0] 52)).heap[w1.heap.size + 1]? = some (.cells #[.int .i64 0, .int .i64 0, .int .i64 0, .int .i64 0, .int .i64 0, .int .i64 0, .int .i64 0, .int .i64 0, .int .i64 0, .bool false, .int .i64 0, .int .i64 0, .int .i64 0, .slice none 0 0, .int .i64 0, .slice none 0 0, .slice none 0 0, .int .i64 0, .int .i64 0, .slice none 0 0, .slice none 0 0] 52) := y2.2.1
      have hbA := below2 w1 (.cells #[.int .i64 g, .slice a' d.length c'] 25) (.cells #[.int .i64 0, .int .i64 0, .int .i64 0, .int .i64 0, .int .i64 0, .int .i64 0, .int .i64 0, .int .i64 0, .int .i64 0, .bool false, .int .i64 0, .int .i64 0, .int .i64 0, .slice none 0 0, .int .i64 0, .slice none 0 0, .slice none 0 0, .int .i64 0, .int .i64 0, .slice none 0 0, .slice none 0 0] 52)
      have hb2 := below_out hbA (out_row ((w1.alloc (.cells #[.int .i64 g, .slice a' d.length c'] 25)).alloc (.cells #[.int .i64 0, .int .i64 0, .int .i64 0, .int .i64 0, .int .i64 0, .int .i64 0, .int .i64 0, .int .i64 0, .int .i64 0, .bool false, .int .i64 0, .int .i64 0, .int .i64 0, .slice none 0 0, .int .i64 0, .slice none 0 0, .slice none 0 0, .int .i64 0, .int .i64 0, .slice none 0 0, .slice none 0 0] 52)) (w1.heap.size + 1) LT.toArray) (fun k hk => by omega)
      have Z3b := hideIt (blkK Z3.out hb2)
      have Y1b := hideIt ((setRow_other ((w1.alloc (.cells #[.int .i64 g, .slice a' d.length c'] 25)).alloc (.cells #[.int .i64 0, .int .i64 0, .int .i64 0, .int .i64 0, .int .i64 0, .int .i64 0, .int .i64 0, .int .i64 0, .int .i64 0, .bool false, .int .i64 0, .int .i64 0, .int .i64 0, .slice none 0 0, .int .i64 0, .slice none 0 0, .slice none 0 0, .int .i64 0, .int .i64 0, .slice none 0 0, .slice none 0 0] 52)) (w1.heap.size + 1) w1.heap.size LT.toArray (by omega)).trans Y1.out)
      have HOb := hideIt (HO.out.keep hb2)
      have B2 := hideIt (below_via B1.out hb2)
      clear y2 Y1 hbA hb2 Z3 HO B1
      go_upto_region 6 with (first | (refine wpList_store_row rfl _ _ _ rfl (w1.heap.size + 1) LT.toArray rfl rfl _ _ y3 hS1.out hS2.out hone.out ?_; go_frame) | fail)
      clear y3 hone
      generalize ((w1.alloc (.cells #[.int .i64 g, .slice a' d.length c'] 25)).alloc (.cells #[.int .i64 0, .int .i64 0, .int .i64 0, .int .i64 0, .int .i64 0, .int .i64 0, .int .i64 0, .int .i64 0, .int .i64 0, .bool false, .int .i64 0, .int .i64 0, .int .i64 0, .slice none 0 0, .int .i64 0, .slice none 0 0, .slice none 0 0, .int .i64 0, .int .i64 0, .slice none 0 0, .slice none 0 0] 52)).setRow (w1.heap.size + 1) LT.toArray = W2 at *
      obtain ⟨⟨f0, f1⟩, ff, fz⟩ := at2 Z3b.out
      obtain ⟨⟨c0, c1⟩, cf, cz⟩ := at2 Y1b.out
      go_wp2
      obtain ⟨hzz, hoo⟩ := puts2 _ (w.heap.size + 1 + 1) 25 (.int .i64 g) (.slice a' d.length c') Z3b.out
      obtain ⟨q1, q2⟩ := hea_fin (g := g) Z3b.out (by omega) (by omega) HY.out HOb.out B2.out
      exact bodyPost_ret (v := .tuple #[.agg #[.int .i64 g, .slice a' d.length c'], .slice none 0 0, .int .i64 0]) (by simp [results, Tryd.results10, go_sem, cell_at hzz]) rfl ⟨a', c', ys, none, 0, rfl, HY.out, q2, own_nil _ _, q1⟩
  · have e : stpR g (l.map TraX.v) s = (begG g (l.map TraX.v) s.c s.q s.r s.ps, begT (l.map TraX.v) s.c s.q s.r s.ps, [], begE (l.map TraX.v) s.c s.q s.r s.ps) := by unfold stpR; rw [hb0, if_pos rfl]
    rw [e]
    clear e HEn HHe h hst hF hz1 hz2 HLm
    rw [hb0] at HMC
    clear hb0
    dsimp only
    generalize begG g (l.map TraX.v) s.c s.q s.r s.ps = g' at *
    generalize begT (l.map TraX.v) s.c s.q s.r s.ps = d at *
    generalize begE (l.map TraX.v) s.c s.q s.r s.ps = n at *
    generalize mesE s.m = LMs at *
    generalize (reqC s.r).toList = LRq at *
    go_enter Tryd.func10, Tryd.ntmps10
    go_upto_region 1 with fail
    generalize ((w.alloc (.cells #[.int .i64 g, .slice a l.length cp] 25)).alloc (.cells L.toArray 49)).alloc (.cells #[.int .i64 0, .slice none 0 0] 25) = W0 at *
    obtain ⟨⟨c0, c1⟩, cf, cz⟩ := at2 X1.out
    obtain ⟨⟨f0, f1⟩, ff, fz⟩ := at2 X3.out
    obtain ⟨m0, m1, m2, m3, m15, mf, mz, hrR, hrM⟩ := HMC.out _ X2.out
    go_wp2_with (first | (refine wpList_load_mid rfl _ _ rfl (w.heap.size + 1) 4 rfl LRq _ hrR Tryd.underlying39 rfl HLr.out ?_; go_frame) | fail)
    refine (HBg.out _ BW.out).mono ?_
    rintro e w1 ⟨a', c', ys, rfl, hy, ho, hb⟩
    dsimp only
    have hbA := below1 w1 (.cells #[.int .i64 g', .slice a' d.length c'] 25)
    have HY := hideIt hy
    have HO := hideIt (ho.keep hbA)
    have Z3 := hideIt (blkK (blkK X3.out hb) hbA)
    have Y1 := hideIt (heap_alloc_new w1 (.cells #[.int .i64 g', .slice a' d.length c'] 25))
    have B1 := hideIt (below_via (below_via BW.out hb) hbA)
    have hsz := BW.out.size
    have hs1 := hb.size
    clear hy ho hb hbA c0 c1 cf cz f0 f1 ff fz m0 m1 m2 m3 m15 mf mz hrR hrM X1 X2 X3 BW HBg HMC
    go_upto_region 3 with fail
    generalize w1.alloc (.cells #[.int .i64 g', .slice a' d.length c'] 25) = W2 at *
    obtain ⟨⟨f0, f1⟩, ff, fz⟩ := at2 Z3.out
    obtain ⟨⟨c0, c1⟩, cf, cz⟩ := at2 Y1.out
    go_wp2
    obtain ⟨hzz, hoo⟩ := puts2 _ (w.heap.size + 1 + 1) 25 (.int .i64 g') (.slice a' d.length c') Z3.out
    obtain ⟨q1, q2⟩ := hea_fin (g := g') Z3.out (by omega) (by omega) HY.out HO.out B1.out
    exact bodyPost_ret (v := .tuple #[.agg #[.int .i64 g', .slice a' d.length c'], .slice none 0 0, .int .i64 n]) (by simp [results, Tryd.results10, go_sem, cell_at hzz]) rfl ⟨a', c', ys, none, 0, rfl, HY.out, q2, own_nil _ _, q1⟩
end Go.Proofs.YtilinemcmgjiiaaDoor
namespace Go.Proofs.YtilinemcmgjiiaaDoor
open Go.RowKit
set_option linter.all false
/-- So much at most behind so many steps. -/
def SzL (n : Nat) (l : List TraV) : Prop := l.length ≤ n ∧ ∀ t ∈ l, t.ps.length ≤ 5 ∧ t.ce.length ≤ n * 1048576 ∧ t.an.fl.length ≤ n * 1048576
theorem SzL.nil : SzL 0 [] := ⟨Nat.le_refl _, fun _ h => by cases h⟩
theorem SzL.more {n : Nat} {l : List TraV} (h : SzL n l) : SzL (n + 1) l := ⟨Nat.le_succ_of_le h.1, fun t ht => ⟨(h.2 t ht).1, Nat.le_trans (h.2 t ht).2.1 (Nat.mul_le_mul_right _ (Nat.le_succ _)), Nat.le_trans (h.2 t ht).2.2 (Nat.mul_le_mul_right _ (Nat.le_succ _))⟩⟩
theorem sz_step {g : Int} {n : Nat} {l : List TraV} {s : StpX} (h : SzL n l) (hs : smlS s) (h0 : (stpR g l s).2.2.2 = 0) : SzL (n + 1) (stpR g l s).2.1 := by
  have hc := (stp_chg h0).2
  have hl := chg_len hc
  have hp := chg_ps hc (fun t ht => (h.2 t ht).1)
  obtain ⟨s1, s2⟩ := hs
  have h1 := h.1
  refine ⟨by omega, fun t ht => ⟨hp t ht, ?_⟩⟩
  clear hc hl hp
  unfold stpR at h0 ht
  by_cases hb : s.beg = true
  · rw [if_pos hb] at h0 ht
    obtain ⟨-, h2, -⟩ := beg_cases h0 g
    rw [h2] at ht
    rcases List.mem_append.1 ht with ht | ht
    · have := h.2 t ht
      omega
    · rw [List.mem_singleton] at ht
      subst ht
      exact ⟨Nat.zero_le _, Nat.zero_le _⟩
  · rw [if_neg hb] at h0 ht
    by_cases htk : s.tak = true
    · rw [if_pos htk] at ht
      have := h.2 t ((end_sub l).subset ht)
      omega
    · rw [if_neg htk] at h0 ht
      obtain ⟨-, -, -, -, i, hi, t', -, -, -, hd, -, hk⟩ := hea_cases h0
      rw [hd] at ht
      have hq := h.2 _ (List.getElem_mem hi)
      have abt : ∀ (x : TraV) (c : Int), (abtV x c).ce = x.ce ∧ (abtV x c).an.fl = x.an.fl := fun x c => by
        unfold abtV
        split <;> exact ⟨rfl, rfl⟩
      rcases set_mem ht with rfl | ⟨k, hkk, _, rfl⟩
      · rcases hk with ⟨-, rfl⟩ | ⟨j, hj, -, -, -, -, ⟨-, rfl⟩ | ⟨-, rfl⟩⟩
        · rw [(abt _ _).1, (abt _ _).2]
          omega
        · rcases vt_eq l[i] j s.m with e | e | ⟨p, -, -, -, -, e⟩
          · rw [e]
            dsimp only
            rw [(abt _ _).1, (abt _ _).2]
            omega
          · rw [e]
            dsimp only
            omega
          · rw [e]
            dsimp only
            show (l[i].ce ++ s.m.cx.map CelX.v).length ≤ _ ∧ l[i].an.fl.length ≤ _
            rw [List.length_append, List.length_map]
            omega
        · unfold akV
          split
          · omega
          · split
            · split
              · show l[i].ce.length ≤ _ ∧ (l[i].an.fl ++ s.m.x.v.fl).length ≤ _
                rw [List.length_append]
                omega
              · show l[i].ce.length ≤ _ ∧ l[i].an.fl.length ≤ _
                omega
            · omega
      · have := h.2 _ (List.getElem_mem hkk)
        omega
theorem SzL.room {n : Nat} {l : List TraV} {s : StpX} (h : SzL n l) (hn : n ≤ 40) (hs : smlS s) : (l.length + 1) * 248 ≤ 140737488355328 ∧ (∀ t ∈ l, (t.ce.length + s.m.cx.length) * 144 ≤ 140737488355328 ∧ (t.an.fl.length + s.m.x.v.fl.length) * 32 ≤ 140737488355328) ∧ cntL l ≤ 100000 := by
  obtain ⟨h1, h2⟩ := h
  obtain ⟨s1, s2⟩ := hs
  refine ⟨by omega, fun t ht => ?_, ?_⟩
  · have := h2 t ht
    omega
  · have := cnt_five (fun t ht => (h2 t ht).1)
    omega
/-- A coordinator in a box. -/
structure CoB (B : Nat) (w : World) (k : Nat) (g : Int) (a : Option Addr) (c : Nat) (ys : List TraX) : Prop where
  box : w.heap[k]? = some (.cells #[.int .i64 g, .slice a ys.length c] 25 (0, 0))
  own : TrsOwn B w (.slice a ys.length c) ys
theorem CoB.keep {B k c : Nat} {w w' : World} {g : Int} {a : Option Addr} {ys : List TraX} (h : CoB B w k g a c ys) (hb : Below w.heap.size w w') : CoB B w' k g a c ys := ⟨blkK h.box hb, h.own.keep hb⟩
theorem CoB.put {B k k2 c c2 : Nat} {w : World} {g g2 : Int} {a a2 : Option Addr} {ys zs : List TraX} (h : CoB B w k g a c ys) (h2 : CoB B w k2 g2 a2 c2 zs) : CoB B ((w.setCell ⟨k, 0, none⟩ (.int .i64 g2)).setCell ⟨k, 1, none⟩ (.slice a2 zs.length c2)) k g2 a2 c2 zs := by
  have h1 := heap_set h.box 0 (.int .i64 g2)
  have h3 := heap_set h1 1 (.slice a2 zs.length c2)
  have o1 := h2.own.ty (j := 0) (u := .int .i64 g2) h.box (by unfold noT; decide) (by decide)
  have o2 := o1.ty (j := 1) (u := .slice a2 zs.length c2) h1 (by unfold noT; decide) (by decide)
  exact ⟨h3, o2⟩
/-- Hear, Out, Ended of a coordinator whose transactions are known. -/
theorem hear_at {B c : Nat} {g : Int} {a : Option Addr} {ys : List TraX} {m : MesX} {W : World} {l : List TraV} {R : Int × List TraV × List (Int × Int) × Int} (hy : ys.map TraX.v = l) (ho : TrsOwn B W (.slice a l.length c) ys) (hm : MesAt W m) (hs : ∀ t ∈ l, (t.ce.length + m.cx.length) * 144 ≤ 140737488355328 ∧ (t.an.fl.length + m.x.v.fl.length) * 32 ≤ 140737488355328) (hR : heaR g l m = R) : Calls Tryd.prog 14 #[.agg #[.int .i64 g, .slice a l.length c], .agg (mesE m).toArray] W (HeaBack R.1 R.2.1 R.2.2.1 R.2.2.2 W) := by
  subst hy hR
  rw [List.length_map] at *
  exact hear_is g a c ys m W ho.at_ hm hs
theorem out_at {B c : Nat} {g : Int} {a : Option Addr} {ys : List TraX} {W : World} {l : List TraV} (hy : ys.map TraX.v = l) (ho : TrsOwn B W (.slice a l.length c) ys) (hs : cntL l ≤ 100000) : Calls Tryd.prog 12 #[.agg #[.int .i64 g, .slice a l.length c]] W (OutBack l W) := by
  subst hy
  rw [List.length_map] at *
  exact out_is g a c ys W ho.at_ hs
theorem ended_at {B c : Nat} {g : Int} {a : Option Addr} {ys : List TraX} {W : World} {l : List TraV} (hy : ys.map TraX.v = l) (ho : TrsOwn B W (.slice a l.length c) ys) : Calls Tryd.prog 18 #[.agg #[.int .i64 g, .slice a l.length c]] W (EnBack g l W) := by
  subst hy
  rw [List.length_map] at *
  exact ended_is g a c ys W ho.at_
end Go.Proofs.YtilinemcmgjiiaaDoor
namespace Go.Proofs.YtilinemcmgjiiaaDoor
open Go.ChangeShapes Go.WideShapes Go.ChangeAt Go.WideMaps Go.WideElems Go.RowKit
set_option linter.all false
theorem ownK : ownKnob Tryd.prog.godebug = none := by kernel_rfl
abbrev laidF : List (String × DataW Unit) := [("rialto/session.forms", Rows.laid_rialto_session_forms)]
theorem gForms : Tryd.prog.globalNamed "rialto/session.forms" = some 0 := by kernel_rfl
theorem tForms : (Tryd.prog.globals[0]?).map (·.type) = some 114 := by kernel_rfl
theorem door_met (os : Os) (args : Array Value) : laidMetH Tryd.prog laidF ((World.doorLaid Tryd.prog 400 os).forCall (fun _ _ => 0) ⟨#[], args, []⟩).memory :=
  laidMetH_of_parts3 (fuel := 8) (laidMet_of_run' 8 (by kernel_rfl) (by kernel_rfl)) (by kernel_rfl) (by kernel_rfl)
theorem cellsF : Tryd.prog.cellsOf 113 = 2 := by kernel_rfl
theorem cellsA : Tryd.prog.cellsOf 114 = 20 := by kernel_rfl
theorem cells3 : Tryd.prog.cellsOf 3 = 1 := by kernel_rfl
theorem twoL {α : Type} (l : List α) (h : l.length = 2) : ∃ a b, l = [a, b] := by
  match l, h with
  | [a, b], _ => exact ⟨a, b, rfl⟩
theorem form_cells {H : Type} {enc : TypeId × Value → H} {W : World} {f : Nat → Bool} {hd : Bool} {n : Nat} {cs : List Value} {a b : Int} {p : List MemPlace} (hl : cs.length = 2)
    (h : DataW.trod enc Tryd.prog W 0 f hd n 113 cs = some (.agg [.lit (.int .i64 a), .lit (.int .i64 b)], p)) : cs = [.int .i64 a, .int .i64 b] := by
  obtain ⟨xs, n', _, hx, _, hxl, hfs⟩ := DataW.trod_struct Tryd.underlying113 h
  have f0 : DataW.trod enc Tryd.prog W 0 f hd n' 3 ((cs.drop 0).take (Tryd.prog.cellsOf 3)) = xs[0]? := hfs 0 _ rfl
  have f1 : DataW.trod enc Tryd.prog W 0 f hd n' 3 ((cs.drop 1).take (Tryd.prog.cellsOf 3)) = xs[1]? := hfs 1 _ rfl
  rw [cells3] at f0 f1
  obtain ⟨v0, v1, rfl⟩ := twoL cs hl
  obtain ⟨y0, y1, rfl⟩ := twoL xs hxl
  simp only [List.drop_zero, List.drop_succ_cons, List.take_succ_cons, List.take_zero, List.getElem?_cons_zero, List.getElem?_cons_succ] at f0 f1
  obtain ⟨k0, e0, rfl, _⟩ := DataW.trod_int Tryd.underlying3 f0
  obtain ⟨k1, e1, rfl, _⟩ := DataW.trod_int Tryd.underlying3 f1
  simp only [List.cons.injEq, and_true] at e0 e1
  simp at hx
  obtain ⟨⟨rfl, rfl⟩, _⟩ := hx
  rw [e0, e1]
set_option maxRecDepth 100000 in
theorem of_laid {W : World} (h : laidMetH Tryd.prog laidF W) : Forms W := by
  rw [MakeChecks.laidMetH_plain _ _ _ (by kernel_rfl)] at h
  obtain ⟨ps, ⟨g0, t0, cs0, f0, p0, q0, hg0, ht0, hv0, hd0, _, _⟩, _, _⟩ := h
  obtain rfl := Option.some.inj (gForms.symm.trans hg0)
  obtain rfl := Option.some.inj (tForms.symm.trans ht0)
  obtain ⟨xs, m1, rfl, hx1, hlen, hn, hel⟩ := DataW.trod_array Tryd.underlying114 hd0
  rw [cellsA] at hlen
  simp only [cellsF] at hel
  simp only [Prod.mk.injEq, Rows.laid_rialto_session_forms, DataW.agg.injEq] at hx1
  have key : ∀ i, i < 10 → cs0[i * 2]? = some (.int .i64 (formT.getD i (0, 0)).1) ∧ cs0[i * 2 + 1]? = some (.int .i64 (formT.getD i (0, 0)).2) := by
    intro i hi
    have hE := hel i hi
    have hxi : xs[i]? = some (.agg [.lit (.int .i64 (formT.getD i (0, 0)).1), .lit (.int .i64 (formT.getD i (0, 0)).2)], (xs[i]'(by omega)).2) := by
      have hm : (xs.map (fun x => x.fst))[i]? = some (.agg [.lit (.int .i64 (formT.getD i (0, 0)).1), .lit (.int .i64 (formT.getD i (0, 0)).2)]) := by
        rw [← hx1.1]
        match i, hi with
        | 0, _ => rfl
        | 1, _ => rfl
        | 2, _ => rfl
        | 3, _ => rfl
        | 4, _ => rfl
        | 5, _ => rfl
        | 6, _ => rfl
        | 7, _ => rfl
        | 8, _ => rfl
        | 9, _ => rfl
      rw [List.getElem?_map, List.getElem?_eq_getElem (by omega)] at hm
      rw [List.getElem?_eq_getElem (by omega)]
      simp only [Option.map_some, Option.some.injEq] at hm
      rw [← hm]
    rw [hxi] at hE
    have hl2 : (List.take 2 (List.drop (i * 2) cs0.toList)).length = 2 := by
      rw [List.length_take, List.length_drop, hlen]
      omega
    have hc := form_cells hl2 hE
    have g0 : (List.take 2 (List.drop (i * 2) cs0.toList))[0]? = cs0.toList[i * 2]? := by simp
    have g1 : (List.take 2 (List.drop (i * 2) cs0.toList))[1]? = cs0.toList[i * 2 + 1]? := by simp
    rw [hc] at g0 g1
    exact ⟨by simpa using g0.symm, by simpa using g1.symm⟩
  have hc : ∀ i, W.cell? ⟨0, i, none⟩ = cs0[i]? := World.var?_cell gForms hv0
  refine ⟨?_, fun k h1 h9 => ?_⟩
  · have := (hc 0).trans (key 0 (by omega)).1
    rcases Nat.eq_zero_or_pos W.heap.size with h0 | h0
    · simp [World.cell?, Array.getElem?_eq_none (show W.heap.size ≤ 0 by omega)] at this
    · exact h0
  · have hk := key k.toNat (by omega)
    exact ⟨(hc _).trans hk.1, (hc _).trans hk.2⟩
theorem laidOut : laidOutB Tryd.prog = true := by kernel_rfl
end Go.Proofs.YtilinemcmgjiiaaDoor
namespace Go.Proofs.YtilinemcmgjiiaaDoor
open Go.ChangeShapes Go.WideShapes Go.ChangeAt Go.WideMaps Go.WideElems Go.RowKit
set_option linter.all false
theorem bulk_one {H : Type} (d : DataW H) : 1 ≤ Rows.uptoBulk d := by
  cases d with
  | lit l => cases l <;> simp [Rows.uptoBulk]
  | nil => simp [Rows.uptoBulk]
  | ptr d => simp [Rows.uptoBulk]
  | slice elems spare => simp [Rows.uptoBulk]
  | agg parts => simp [Rows.uptoBulk]
  | iface t d => simp [Rows.uptoBulk]
  | map entries => simp [Rows.uptoBulk]
  | held h => simp [Rows.uptoBulk]
theorem bulk_mem {H : Type} {d : DataW H} : ∀ {l : List (DataW H)}, d ∈ l → Rows.uptoBulk d ≤ Rows.uptoBulkAll l
  | x :: r, h => by
    simp only [Rows.uptoBulkAll]
    rcases List.mem_cons.1 h with rfl | h
    · omega
    · have := bulk_mem h
      omega
theorem bulk_len {H : Type} : ∀ (l : List (DataW H)), l.length ≤ Rows.uptoBulkAll l
  | [] => by simp [Rows.uptoBulkAll]
  | x :: r => by
    have h1 := bulk_one x
    have h2 := bulk_len r
    simp only [Rows.uptoBulkAll, List.length_cons]
    omega
theorem bulk_part {H : Type} {x : DataW H × List MemPlace} {xs : List (DataW H × List MemPlace)} {pl : List MemPlace} (hx : x = (.agg (xs.map (fun x => x.1)), pl)) {m : Nat} (hk : Rows.uptoBulk x.1 ≤ m) (i : Nat) (hi : i < xs.length) : Rows.uptoBulk xs[i].1 ≤ m := by
  have h1 : Rows.uptoBulk xs[i].1 ≤ Rows.uptoBulkAll (xs.map (fun x => x.1)) := bulk_mem (List.mem_map_of_mem (List.getElem_mem hi))
  rw [hx] at hk
  simp only [Rows.uptoBulk] at hk
  omega
theorem cut_at (cs : List Value) (o k o' : Nat) (h : o' = o + k) : cs.drop o = (cs.drop o).take k ++ cs.drop o' := by
  rw [h, ← List.drop_drop, List.take_append_drop]
theorem one_of {α : Type} {l : List α} (h : l.length = 1) : ∃ v, l = [v] := List.length_eq_one_iff.1 h
theorem part_len {cs : List Value} {n : Nat} (h : cs.length = n) (o k : Nat) (hk : o + k ≤ n) : ((cs.drop o).take k).length = k := by
  rw [List.length_take, List.length_drop, h]
  omega
/-- What reads as a value of that type is such a one. -/
def Reads (T : TypeId) (k : Nat) {α : Type} (enc : α → List Value) (P : World → α → Prop) : Prop :=
  ∀ (H : Type) (encH : TypeId × Value → H) (W : World) (n : Nat) (cs : List Value) (x : DataW H × List MemPlace), cs.length = k → DataW.trod encH Tryd.prog W 0 (fun _ => true) true n T cs = some x → Rows.uptoBulk x.1 ≤ 1048576 → ∃ o, cs = enc o ∧ P W o
def SReads (S : TypeId) (k bytes : Nat) {α : Type} (enc : α → List Value) (P : World → α → Prop) : Prop :=
  ∀ (H : Type) (encH : TypeId × Value → H) (W : World) (n : Nat) (v : Value) (x : DataW H × List MemPlace), DataW.trod encH Tryd.prog W 0 (fun _ => true) true n S [v] = some x → Rows.uptoBulk x.1 ≤ 1048576 →
    ∃ a c, ∃ l : List α, v = .slice a l.length c ∧ SGot k bytes enc W (.slice a l.length c) l ∧ (∀ o ∈ l, P W o) ∧ l.length ≤ 1048576
set_option maxRecDepth 100000 in
theorem slice_reads {S E : TypeId} {k bytes : Nat} {α : Type} {enc : α → List Value} {P : World → α → Prop} (z : α) (hu : Tryd.prog.underlying S = some (.slice E)) (hc : Tryd.prog.cellsOf E = k) (h0 : 0 < k) (hbt : bytes ≤ 4096) (hK : ∀ o, (enc o).length = k) (R : Reads E k enc P) : SReads S k bytes enc P := by
  intro H encH W n v x h hk
  rcases Deep.open_slice hu h with ⟨hcs, hx⟩ | ⟨x0, len, c, m, n0, D, Pl, hcs, _, hl, hm, hmm, hxe, hx⟩
  · have : v = .slice none 0 0 := by simpa using hcs
    subst this
    exact ⟨none, 0, [], rfl, SGot.nil _ _ _ _ _ _ (Nat.zero_le _), (fun _ h => by cases h), Nat.zero_le _⟩
  · have : v = .slice (some x0) len c := by simpa using hcs
    subst this
    simp only [if_true] at hmm
    rw [hc] at hx
    have hd : x.1 = .slice ((List.range len).map D) ((List.range (m - len)).map fun j => D (len + j)) := by rw [hxe]
    rw [hd] at hk
    simp only [Rows.uptoBulk] at hk
    have hlen : len ≤ 1048576 := by
      have := bulk_len ((List.range len).map D)
      rw [List.length_map, List.length_range] at this
      omega
    obtain ⟨b, off, spot⟩ := x0
    have hspot0 : 0 < len → spot = none := by
      intro hpos
      obtain ⟨cs', h1, _⟩ := hx 0 (by omega)
      obtain ⟨_, hlen, hcell⟩ := World.cells?_some h1
      have h5 : 0 < cs'.length := by omega
      have g := World.cell?_spot ((hcell 0 (by omega)).trans (List.getElem?_eq_getElem h5))
      simpa [Addr.add] using g
    have key : ∀ i, i < len → ∃ o : α, (spot = none ∧ b < W.heap.size ∧ ∀ j, j < k → W.cell? ⟨b, off + i * k + j, none⟩ = (enc o)[j]?) ∧ P W o := by
      intro i hi
      obtain ⟨cs', h1, h2⟩ := hx i (by omega)
      obtain ⟨_, hlen, hcell⟩ := World.cells?_some h1
      have hbi : Rows.uptoBulk (D i) ≤ 1048576 := by
        have := bulk_mem (List.mem_map_of_mem (f := D) (List.mem_range.2 hi))
        omega
      obtain ⟨o, rfl, hP⟩ := R H encH W _ _ _ hlen h2 hbi
      have hspot : spot = none := hspot0 (by omega)
      subst hspot
      refine ⟨o, ⟨rfl, ?_, fun j hj => ?_⟩, hP⟩
      · have k0 := hcell 0 (by omega)
        rw [addN, addN] at k0
        rcases Nat.lt_or_ge b W.heap.size with h' | h'
        · exact h'
        · have e0 : (enc o)[0]? = some ((enc o)[0]'(by omega)) := List.getElem?_eq_getElem (by omega)
          rw [e0] at k0
          simp [World.cell?, Array.getElem?_eq_none h'] at k0
      · have k0 := hcell j (by omega)
        rw [addN, addN] at k0
        rw [k0]
    obtain ⟨f, hfo⟩ := @Deep.choose_lt α ⟨z⟩ len (fun i o => (spot = none ∧ b < W.heap.size ∧ ∀ j, j < k → W.cell? ⟨b, off + i * k + j, none⟩ = (enc o)[j]?) ∧ P W o) key
    refine ⟨some ⟨b, off, spot⟩, c, (List.range len).map f, by simp, ⟨?_, some ⟨b, off, spot⟩, c, rfl, ⟨by simpa using hl, hm⟩, fun hp => ?_⟩, fun o ho => ?_, by simpa using hlen⟩
    · simp only [List.length_map, List.length_range]
      exact Nat.le_trans (Nat.mul_le_mul hlen hbt) (by decide)
    · have hp' : 0 < len := by simpa using hp
      have hsp := hspot0 hp'
      subst hsp
      refine ⟨b, off, rfl, (hfo 0 hp').1.2.1, fun j hj => ?_⟩
      have hj' : j < len * k := by simpa using hj
      have hi : j / k < len := Nat.div_lt_of_lt_mul (by rw [Nat.mul_comm]; exact hj')
      have hmk : j % k < k := Nat.mod_lt _ h0
      have q0 := (hfo (j / k) hi).1.2.2 (j % k) hmk
      have g0 := celC_get hK ((List.range len).map f) (j / k) (by simpa using hi) (j % k) hmk
      simp only [List.getElem_map, List.getElem_range] at g0
      have e1 : j / k * k + j % k = j := Nat.div_add_mod' j k
      have e : off + j = off + j / k * k + j % k := by rw [Nat.add_assoc, e1]
      rw [e, q0, ← g0, e1]
    · obtain ⟨i, hi, rfl⟩ := List.mem_map.1 ho
      exact (hfo i (List.mem_range.1 hi)).2
set_option maxRecDepth 100000 in
theorem am_reads : Reads 72 2 (α := AmV) amE (fun _ _ => True) := by
  intro H encH W n cs x hl h hk
  obtain ⟨xs, n', _, hx, _, hxl, hfs⟩ := DataW.trod_struct Tryd.underlying72 h
  have hb := bulk_part hx hk
  have hxl2 : xs.length = 2 := hxl
  have f0 : DataW.trod encH Tryd.prog W 0 (fun _ => true) true n' 3 ((cs.drop 0).take (Tryd.prog.cellsOf 3)) = xs[0]? := hfs 0 _ rfl
  rw [show Tryd.prog.cellsOf 3 = 1 by kernel_rfl, List.getElem?_eq_getElem (by omega)] at f0
  obtain ⟨k0, e0, _, _⟩ := DataW.trod_int Tryd.underlying3 f0
  have f1 : DataW.trod encH Tryd.prog W 0 (fun _ => true) true n' 3 ((cs.drop 1).take (Tryd.prog.cellsOf 3)) = xs[1]? := hfs 1 _ rfl
  rw [show Tryd.prog.cellsOf 3 = 1 by kernel_rfl, List.getElem?_eq_getElem (by omega)] at f1
  obtain ⟨k1, e1, _, _⟩ := DataW.trod_int Tryd.underlying3 f1
  refine ⟨(k0, k1), ?_, trivial⟩
  have eN : cs.drop 2 = [] := List.drop_eq_nil_of_le (by omega)
  show cs.drop 0 = _
  rw [cut_at cs 0 1 1 rfl, e0, cut_at cs 1 1 2 rfl, e1, eN]
  rfl
set_option maxRecDepth 100000 in
theorem fil_reads : Reads 146 4 (α := FilV) filE (fun _ _ => True) := by
  intro H encH W n cs x hl h hk
  obtain ⟨xs, n', _, hx, _, hxl, hfs⟩ := DataW.trod_struct Tryd.underlying146 h
  have hb := bulk_part hx hk
  have hxl2 : xs.length = 4 := hxl
  have f0 : DataW.trod encH Tryd.prog W 0 (fun _ => true) true n' 3 ((cs.drop 0).take (Tryd.prog.cellsOf 3)) = xs[0]? := hfs 0 _ rfl
  rw [show Tryd.prog.cellsOf 3 = 1 by kernel_rfl, List.getElem?_eq_getElem (by omega)] at f0
  obtain ⟨k0, e0, _, _⟩ := DataW.trod_int Tryd.underlying3 f0
  have f1 : DataW.trod encH Tryd.prog W 0 (fun _ => true) true n' 3 ((cs.drop 1).take (Tryd.prog.cellsOf 3)) = xs[1]? := hfs 1 _ rfl
  rw [show Tryd.prog.cellsOf 3 = 1 by kernel_rfl, List.getElem?_eq_getElem (by omega)] at f1
  obtain ⟨k1, e1, _, _⟩ := DataW.trod_int Tryd.underlying3 f1
  have f2 : DataW.trod encH Tryd.prog W 0 (fun _ => true) true n' 3 ((cs.drop 2).take (Tryd.prog.cellsOf 3)) = xs[2]? := hfs 2 _ rfl
  rw [show Tryd.prog.cellsOf 3 = 1 by kernel_rfl, List.getElem?_eq_getElem (by omega)] at f2
  obtain ⟨k2, e2, _, _⟩ := DataW.trod_int Tryd.underlying3 f2
  have f3 : DataW.trod encH Tryd.prog W 0 (fun _ => true) true n' 3 ((cs.drop 3).take (Tryd.prog.cellsOf 3)) = xs[3]? := hfs 3 _ rfl
  rw [show Tryd.prog.cellsOf 3 = 1 by kernel_rfl, List.getElem?_eq_getElem (by omega)] at f3
  obtain ⟨k3, e3, _, _⟩ := DataW.trod_int Tryd.underlying3 f3
  refine ⟨(k0, k1, k2, k3), ?_, trivial⟩
  have eN : cs.drop 4 = [] := List.drop_eq_nil_of_le (by omega)
  show cs.drop 0 = _
  rw [cut_at cs 0 1 1 rfl, e0, cut_at cs 1 1 2 rfl, e1, cut_at cs 2 1 3 rfl, e2, cut_at cs 3 1 4 rfl, e3, eN]
  rfl
set_option maxRecDepth 100000 in
theorem ord_reads : Reads 121 4 (α := OrdV) ordE (fun _ _ => True) := by
  intro H encH W n cs x hl h hk
  obtain ⟨xs, n', _, hx, _, hxl, hfs⟩ := DataW.trod_struct Tryd.underlying121 h
  have hb := bulk_part hx hk
  have hxl2 : xs.length = 4 := hxl
  have f0 : DataW.trod encH Tryd.prog W 0 (fun _ => true) true n' 3 ((cs.drop 0).take (Tryd.prog.cellsOf 3)) = xs[0]? := hfs 0 _ rfl
  rw [show Tryd.prog.cellsOf 3 = 1 by kernel_rfl, List.getElem?_eq_getElem (by omega)] at f0
  obtain ⟨k0, e0, _, _⟩ := DataW.trod_int Tryd.underlying3 f0
  have f1 : DataW.trod encH Tryd.prog W 0 (fun _ => true) true n' 3 ((cs.drop 1).take (Tryd.prog.cellsOf 3)) = xs[1]? := hfs 1 _ rfl
  rw [show Tryd.prog.cellsOf 3 = 1 by kernel_rfl, List.getElem?_eq_getElem (by omega)] at f1
  obtain ⟨k1, e1, _, _⟩ := DataW.trod_int Tryd.underlying3 f1
  have f2 : DataW.trod encH Tryd.prog W 0 (fun _ => true) true n' 3 ((cs.drop 2).take (Tryd.prog.cellsOf 3)) = xs[2]? := hfs 2 _ rfl
  rw [show Tryd.prog.cellsOf 3 = 1 by kernel_rfl, List.getElem?_eq_getElem (by omega)] at f2
  obtain ⟨k2, e2, _, _⟩ := DataW.trod_int Tryd.underlying3 f2
  have f3 : DataW.trod encH Tryd.prog W 0 (fun _ => true) true n' 3 ((cs.drop 3).take (Tryd.prog.cellsOf 3)) = xs[3]? := hfs 3 _ rfl
  rw [show Tryd.prog.cellsOf 3 = 1 by kernel_rfl, List.getElem?_eq_getElem (by omega)] at f3
  obtain ⟨k3, e3, _, _⟩ := DataW.trod_int Tryd.underlying3 f3
  refine ⟨(k0, k1, k2, k3), ?_, trivial⟩
  have eN : cs.drop 4 = [] := List.drop_eq_nil_of_le (by omega)
  show cs.drop 0 = _
  rw [cut_at cs 0 1 1 rfl, e0, cut_at cs 1 1 2 rfl, e1, cut_at cs 2 1 3 rfl, e2, cut_at cs 3 1 4 rfl, e3, eN]
  rfl
set_option maxRecDepth 100000 in
theorem owd_reads : Reads 124 3 (α := OwdV) owdE (fun _ _ => True) := by
  intro H encH W n cs x hl h hk
  obtain ⟨xs, n', _, hx, _, hxl, hfs⟩ := DataW.trod_struct Tryd.underlying124 h
  have hb := bulk_part hx hk
  have hxl2 : xs.length = 3 := hxl
  have f0 : DataW.trod encH Tryd.prog W 0 (fun _ => true) true n' 3 ((cs.drop 0).take (Tryd.prog.cellsOf 3)) = xs[0]? := hfs 0 _ rfl
  rw [show Tryd.prog.cellsOf 3 = 1 by kernel_rfl, List.getElem?_eq_getElem (by omega)] at f0
  obtain ⟨k0, e0, _, _⟩ := DataW.trod_int Tryd.underlying3 f0
  have f1 : DataW.trod encH Tryd.prog W 0 (fun _ => true) true n' 3 ((cs.drop 1).take (Tryd.prog.cellsOf 3)) = xs[1]? := hfs 1 _ rfl
  rw [show Tryd.prog.cellsOf 3 = 1 by kernel_rfl, List.getElem?_eq_getElem (by omega)] at f1
  obtain ⟨k1, e1, _, _⟩ := DataW.trod_int Tryd.underlying3 f1
  have f2 : DataW.trod encH Tryd.prog W 0 (fun _ => true) true n' 3 ((cs.drop 2).take (Tryd.prog.cellsOf 3)) = xs[2]? := hfs 2 _ rfl
  rw [show Tryd.prog.cellsOf 3 = 1 by kernel_rfl, List.getElem?_eq_getElem (by omega)] at f2
  obtain ⟨k2, e2, _, _⟩ := DataW.trod_int Tryd.underlying3 f2
  refine ⟨(k0, k1, k2), ?_, trivial⟩
  have eN : cs.drop 3 = [] := List.drop_eq_nil_of_le (by omega)
  show cs.drop 0 = _
  rw [cut_at cs 0 1 1 rfl, e0, cut_at cs 1 1 2 rfl, e1, cut_at cs 2 1 3 rfl, e2, eN]
  rfl
def prE (p : Int × Int) : List Value := [.int .i64 p.1, .int .i64 p.2]
set_option maxRecDepth 100000 in
theorem key_reads : Reads 37 2 (α := Int × Int) prE (fun _ _ => True) := by
  intro H encH W n cs x hl h hk
  obtain ⟨xs, n', _, hx, _, hxl, hfs⟩ := DataW.trod_struct Tryd.underlying37 h
  have hb := bulk_part hx hk
  have hxl2 : xs.length = 2 := hxl
  have f0 : DataW.trod encH Tryd.prog W 0 (fun _ => true) true n' 3 ((cs.drop 0).take (Tryd.prog.cellsOf 3)) = xs[0]? := hfs 0 _ rfl
  rw [show Tryd.prog.cellsOf 3 = 1 by kernel_rfl, List.getElem?_eq_getElem (by omega)] at f0
  obtain ⟨k0, e0, _, _⟩ := DataW.trod_int Tryd.underlying3 f0
  have f1 : DataW.trod encH Tryd.prog W 0 (fun _ => true) true n' 3 ((cs.drop 1).take (Tryd.prog.cellsOf 3)) = xs[1]? := hfs 1 _ rfl
  rw [show Tryd.prog.cellsOf 3 = 1 by kernel_rfl, List.getElem?_eq_getElem (by omega)] at f1
  obtain ⟨k1, e1, _, _⟩ := DataW.trod_int Tryd.underlying3 f1
  refine ⟨(k0, k1), ?_, trivial⟩
  have eN : cs.drop 2 = [] := List.drop_eq_nil_of_le (by omega)
  show cs.drop 0 = _
  rw [cut_at cs 0 1 1 rfl, e0, cut_at cs 1 1 2 rfl, e1, eN]
  rfl
set_option maxRecDepth 100000 in
theorem txn_reads : Reads 35 2 (α := Int × Int) prE (fun _ _ => True) := by
  intro H encH W n cs x hl h hk
  obtain ⟨xs, n', _, hx, _, hxl, hfs⟩ := DataW.trod_struct Tryd.underlying35 h
  have hb := bulk_part hx hk
  have hxl2 : xs.length = 2 := hxl
  have f0 : DataW.trod encH Tryd.prog W 0 (fun _ => true) true n' 3 ((cs.drop 0).take (Tryd.prog.cellsOf 3)) = xs[0]? := hfs 0 _ rfl
  rw [show Tryd.prog.cellsOf 3 = 1 by kernel_rfl, List.getElem?_eq_getElem (by omega)] at f0
  obtain ⟨k0, e0, _, _⟩ := DataW.trod_int Tryd.underlying3 f0
  have f1 : DataW.trod encH Tryd.prog W 0 (fun _ => true) true n' 3 ((cs.drop 1).take (Tryd.prog.cellsOf 3)) = xs[1]? := hfs 1 _ rfl
  rw [show Tryd.prog.cellsOf 3 = 1 by kernel_rfl, List.getElem?_eq_getElem (by omega)] at f1
  obtain ⟨k1, e1, _, _⟩ := DataW.trod_int Tryd.underlying3 f1
  refine ⟨(k0, k1), ?_, trivial⟩
  have eN : cs.drop 2 = [] := List.drop_eq_nil_of_le (by omega)
  show cs.drop 0 = _
  rw [cut_at cs 0 1 1 rfl, e0, cut_at cs 1 1 2 rfl, e1, eN]
  rfl
set_option maxRecDepth 100000 in
theorem req_reads : Reads 39 11 (α := ReqV) (fun r => (reqC r).toList) (fun _ _ => True) := by
  intro H encH W n cs x hl h hk
  obtain ⟨xs, n', _, hx, _, hxl, hfs⟩ := DataW.trod_struct Tryd.underlying39 h
  have hb := bulk_part hx hk
  have hxl2 : xs.length = 10 := hxl
  have f0 : DataW.trod encH Tryd.prog W 0 (fun _ => true) true n' 3 ((cs.drop 0).take (Tryd.prog.cellsOf 3)) = xs[0]? := hfs 0 _ rfl
  rw [show Tryd.prog.cellsOf 3 = 1 by kernel_rfl, List.getElem?_eq_getElem (by omega)] at f0
  obtain ⟨k0, e0, _, _⟩ := DataW.trod_int Tryd.underlying3 f0
  have f1 : DataW.trod encH Tryd.prog W 0 (fun _ => true) true n' 3 ((cs.drop 1).take (Tryd.prog.cellsOf 3)) = xs[1]? := hfs 1 _ rfl
  rw [show Tryd.prog.cellsOf 3 = 1 by kernel_rfl, List.getElem?_eq_getElem (by omega)] at f1
  obtain ⟨k1, e1, _, _⟩ := DataW.trod_int Tryd.underlying3 f1
  have f2 : DataW.trod encH Tryd.prog W 0 (fun _ => true) true n' 3 ((cs.drop 2).take (Tryd.prog.cellsOf 3)) = xs[2]? := hfs 2 _ rfl
  rw [show Tryd.prog.cellsOf 3 = 1 by kernel_rfl, List.getElem?_eq_getElem (by omega)] at f2
  obtain ⟨k2, e2, _, _⟩ := DataW.trod_int Tryd.underlying3 f2
  have f3 : DataW.trod encH Tryd.prog W 0 (fun _ => true) true n' 3 ((cs.drop 3).take (Tryd.prog.cellsOf 3)) = xs[3]? := hfs 3 _ rfl
  rw [show Tryd.prog.cellsOf 3 = 1 by kernel_rfl, List.getElem?_eq_getElem (by omega)] at f3
  obtain ⟨k3, e3, _, _⟩ := DataW.trod_int Tryd.underlying3 f3
  have f4 : DataW.trod encH Tryd.prog W 0 (fun _ => true) true n' 3 ((cs.drop 4).take (Tryd.prog.cellsOf 3)) = xs[4]? := hfs 4 _ rfl
  rw [show Tryd.prog.cellsOf 3 = 1 by kernel_rfl, List.getElem?_eq_getElem (by omega)] at f4
  obtain ⟨k4, e4, _, _⟩ := DataW.trod_int Tryd.underlying3 f4
  have f5 : DataW.trod encH Tryd.prog W 0 (fun _ => true) true n' 3 ((cs.drop 5).take (Tryd.prog.cellsOf 3)) = xs[5]? := hfs 5 _ rfl
  rw [show Tryd.prog.cellsOf 3 = 1 by kernel_rfl, List.getElem?_eq_getElem (by omega)] at f5
  obtain ⟨k5, e5, _, _⟩ := DataW.trod_int Tryd.underlying3 f5
  have f6 : DataW.trod encH Tryd.prog W 0 (fun _ => true) true n' 3 ((cs.drop 6).take (Tryd.prog.cellsOf 3)) = xs[6]? := hfs 6 _ rfl
  rw [show Tryd.prog.cellsOf 3 = 1 by kernel_rfl, List.getElem?_eq_getElem (by omega)] at f6
  obtain ⟨k6, e6, _, _⟩ := DataW.trod_int Tryd.underlying3 f6
  have f7 : DataW.trod encH Tryd.prog W 0 (fun _ => true) true n' 4 ((cs.drop 7).take (Tryd.prog.cellsOf 4)) = xs[7]? := hfs 7 _ rfl
  rw [show Tryd.prog.cellsOf 4 = 1 by kernel_rfl, List.getElem?_eq_getElem (by omega)] at f7
  obtain ⟨k7, e7, _⟩ := DataW.trod_bool Tryd.underlying4 f7
  have f8 : DataW.trod encH Tryd.prog W 0 (fun _ => true) true n' 37 ((cs.drop 8).take (Tryd.prog.cellsOf 37)) = xs[8]? := hfs 8 _ rfl
  rw [show Tryd.prog.cellsOf 37 = 2 by kernel_rfl, List.getElem?_eq_getElem (by omega)] at f8
  obtain ⟨k8, e8, p8⟩ := key_reads H encH W _ _ _ (part_len hl 8 2 (by omega)) f8 (hb 8 (by omega))
  have f9 : DataW.trod encH Tryd.prog W 0 (fun _ => true) true n' 3 ((cs.drop 10).take (Tryd.prog.cellsOf 3)) = xs[9]? := hfs 9 _ rfl
  rw [show Tryd.prog.cellsOf 3 = 1 by kernel_rfl, List.getElem?_eq_getElem (by omega)] at f9
  obtain ⟨k9, e9, _, _⟩ := DataW.trod_int Tryd.underlying3 f9
  refine ⟨⟨k0, k1, k2, k3, k4, k5, k6, k7, k8, k9⟩, ?_, trivial⟩
  have eN : cs.drop 11 = [] := List.drop_eq_nil_of_le (by omega)
  show cs.drop 0 = _
  rw [cut_at cs 0 1 1 rfl, e0, cut_at cs 1 1 2 rfl, e1, cut_at cs 2 1 3 rfl, e2, cut_at cs 3 1 4 rfl, e3, cut_at cs 4 1 5 rfl, e4, cut_at cs 5 1 6 rfl, e5, cut_at cs 6 1 7 rfl, e6, cut_at cs 7 1 8 rfl, e7, cut_at cs 8 2 10 rfl, e8, cut_at cs 10 1 11 rfl, e9, eN]
  rfl
set_option maxRecDepth 100000 in
theorem pee_reads : Reads 67 5 (α := PeeV) peeE (fun _ _ => True) := by
  intro H encH W n cs x hl h hk
  obtain ⟨xs, n', _, hx, _, hxl, hfs⟩ := DataW.trod_struct Tryd.underlying67 h
  have hb := bulk_part hx hk
  have hxl2 : xs.length = 4 := hxl
  have f0 : DataW.trod encH Tryd.prog W 0 (fun _ => true) true n' 37 ((cs.drop 0).take (Tryd.prog.cellsOf 37)) = xs[0]? := hfs 0 _ rfl
  rw [show Tryd.prog.cellsOf 37 = 2 by kernel_rfl, List.getElem?_eq_getElem (by omega)] at f0
  obtain ⟨k0, e0, p0⟩ := key_reads H encH W _ _ _ (part_len hl 0 2 (by omega)) f0 (hb 0 (by omega))
  have f1 : DataW.trod encH Tryd.prog W 0 (fun _ => true) true n' 3 ((cs.drop 2).take (Tryd.prog.cellsOf 3)) = xs[1]? := hfs 1 _ rfl
  rw [show Tryd.prog.cellsOf 3 = 1 by kernel_rfl, List.getElem?_eq_getElem (by omega)] at f1
  obtain ⟨k1, e1, _, _⟩ := DataW.trod_int Tryd.underlying3 f1
  have f2 : DataW.trod encH Tryd.prog W 0 (fun _ => true) true n' 4 ((cs.drop 3).take (Tryd.prog.cellsOf 4)) = xs[2]? := hfs 2 _ rfl
  rw [show Tryd.prog.cellsOf 4 = 1 by kernel_rfl, List.getElem?_eq_getElem (by omega)] at f2
  obtain ⟨k2, e2, _⟩ := DataW.trod_bool Tryd.underlying4 f2
  have f3 : DataW.trod encH Tryd.prog W 0 (fun _ => true) true n' 4 ((cs.drop 4).take (Tryd.prog.cellsOf 4)) = xs[3]? := hfs 3 _ rfl
  rw [show Tryd.prog.cellsOf 4 = 1 by kernel_rfl, List.getElem?_eq_getElem (by omega)] at f3
  obtain ⟨k3, e3, _⟩ := DataW.trod_bool Tryd.underlying4 f3
  refine ⟨⟨k0.1, k0.2, k1, k2, k3⟩, ?_, trivial⟩
  have eN : cs.drop 5 = [] := List.drop_eq_nil_of_le (by omega)
  show cs.drop 0 = _
  rw [cut_at cs 0 2 2 rfl, e0, cut_at cs 2 1 3 rfl, e1, cut_at cs 3 1 4 rfl, e2, cut_at cs 4 1 5 rfl, e3, eN]
  rfl
theorem am_slice : SReads 41 2 16 (α := AmV) amE (fun _ _ => True) := slice_reads (0, 0) Tryd.underlying41 (by kernel_rfl) (by omega) (by omega) amK am_reads
theorem fil_slice : SReads 42 4 32 (α := FilV) filE (fun _ _ => True) := slice_reads (0, 0, 0, 0) Tryd.underlying42 (by kernel_rfl) (by omega) (by omega) filK fil_reads
theorem ord_slice : SReads 76 4 32 (α := OrdV) ordE (fun _ _ => True) := slice_reads (0, 0, 0, 0) Tryd.underlying76 (by kernel_rfl) (by omega) (by omega) ordK ord_reads
theorem owd_slice : SReads 77 3 24 (α := OwdV) owdE (fun _ _ => True) := slice_reads (0, 0, 0) Tryd.underlying77 (by kernel_rfl) (by omega) (by omega) owdK owd_reads
theorem pee_slice : SReads 40 5 32 (α := PeeV) peeE (fun _ _ => True) := slice_reads ⟨0, 0, 0, false, false⟩ Tryd.underlying40 (by kernel_rfl) (by omega) (by omega) peeK pee_reads
set_option maxRecDepth 100000 in
theorem ans_reads : Reads 44 4 (α := AnsX) (fun y => y.cs.toList) (fun W y => AnsAt W y ∧ y.v.fl.length ≤ 1048576) := by
  intro H encH W n cs x hl h hk
  obtain ⟨xs, n', _, hx, _, hxl, hfs⟩ := DataW.trod_struct Tryd.underlying44 h
  have hb := bulk_part hx hk
  have hxl2 : xs.length = 4 := hxl
  have f0 : DataW.trod encH Tryd.prog W 0 (fun _ => true) true n' 26 ((cs.drop 0).take (Tryd.prog.cellsOf 26)) = xs[0]? := hfs 0 _ rfl
  rw [show Tryd.prog.cellsOf 26 = 1 by kernel_rfl, List.getElem?_eq_getElem (by omega)] at f0
  obtain ⟨k0, e0, _, _⟩ := DataW.trod_int Tryd.underlying26 f0
  have f1 : DataW.trod encH Tryd.prog W 0 (fun _ => true) true n' 3 ((cs.drop 1).take (Tryd.prog.cellsOf 3)) = xs[1]? := hfs 1 _ rfl
  rw [show Tryd.prog.cellsOf 3 = 1 by kernel_rfl, List.getElem?_eq_getElem (by omega)] at f1
  obtain ⟨k1, e1, _, _⟩ := DataW.trod_int Tryd.underlying3 f1
  have f2 : DataW.trod encH Tryd.prog W 0 (fun _ => true) true n' 41 ((cs.drop 2).take (Tryd.prog.cellsOf 41)) = xs[2]? := hfs 2 _ rfl
  rw [show Tryd.prog.cellsOf 41 = 1 by kernel_rfl, List.getElem?_eq_getElem (by omega)] at f2
  obtain ⟨v2, ev2⟩ := one_of (part_len hl 2 1 (by omega))
  rw [ev2] at f2
  obtain ⟨a2, c2, l2, rfl, g2, p2, z2⟩ := am_slice H encH W _ _ _ f2 (hb 2 (by omega))
  have e2 := ev2
  have f3 : DataW.trod encH Tryd.prog W 0 (fun _ => true) true n' 42 ((cs.drop 3).take (Tryd.prog.cellsOf 42)) = xs[3]? := hfs 3 _ rfl
  rw [show Tryd.prog.cellsOf 42 = 1 by kernel_rfl, List.getElem?_eq_getElem (by omega)] at f3
  obtain ⟨v3, ev3⟩ := one_of (part_len hl 3 1 (by omega))
  rw [ev3] at f3
  obtain ⟨a3, c3, l3, rfl, g3, p3, z3⟩ := fil_slice H encH W _ _ _ f3 (hb 3 (by omega))
  have e3 := ev3
  refine ⟨⟨⟨k0, k1, l2, l3⟩, a2, c2, a3, c3⟩, ?_, ⟨⟨g2, g3⟩, z3⟩⟩
  have eN : cs.drop 4 = [] := List.drop_eq_nil_of_le (by omega)
  show cs.drop 0 = _
  rw [cut_at cs 0 1 1 rfl, e0, cut_at cs 1 1 2 rfl, e1, cut_at cs 2 1 3 rfl, e2, cut_at cs 3 1 4 rfl, e3, eN]
  rfl
structure AccX where
  fr : List AmV
  fa : Option Addr
  fc : Nat
  cnt : Int
def accE (x : AccX) : List Value := [.slice x.fa x.fr.length x.fc, .int .i64 x.cnt]
set_option maxRecDepth 100000 in
theorem acc_reads : Reads 75 2 (α := AccX) accE (fun W x => Ams W (.slice x.fa x.fr.length x.fc) x.fr) := by
  intro H encH W n cs x hl h hk
  obtain ⟨xs, n', _, hx, _, hxl, hfs⟩ := DataW.trod_struct Tryd.underlying75 h
  have hb := bulk_part hx hk
  have hxl2 : xs.length = 2 := hxl
  have f0 : DataW.trod encH Tryd.prog W 0 (fun _ => true) true n' 41 ((cs.drop 0).take (Tryd.prog.cellsOf 41)) = xs[0]? := hfs 0 _ rfl
  rw [show Tryd.prog.cellsOf 41 = 1 by kernel_rfl, List.getElem?_eq_getElem (by omega)] at f0
  obtain ⟨v0, ev0⟩ := one_of (part_len hl 0 1 (by omega))
  rw [ev0] at f0
  obtain ⟨a0, c0, l0, rfl, g0, p0, z0⟩ := am_slice H encH W _ _ _ f0 (hb 0 (by omega))
  have e0 := ev0
  have f1 : DataW.trod encH Tryd.prog W 0 (fun _ => true) true n' 3 ((cs.drop 1).take (Tryd.prog.cellsOf 3)) = xs[1]? := hfs 1 _ rfl
  rw [show Tryd.prog.cellsOf 3 = 1 by kernel_rfl, List.getElem?_eq_getElem (by omega)] at f1
  obtain ⟨k1, e1, _, _⟩ := DataW.trod_int Tryd.underlying3 f1
  refine ⟨⟨l0, a0, c0, k1⟩, ?_, g0⟩
  have eN : cs.drop 2 = [] := List.drop_eq_nil_of_le (by omega)
  show cs.drop 0 = _
  rw [cut_at cs 0 1 1 rfl, e0, cut_at cs 1 1 2 rfl, e1, eN]
  rfl
structure LanX where
  call : Bool
  next : Int
  bids : List OrdV
  ba : Option Addr
  bc : Nat
  asks : List OrdV
  aa : Option Addr
  ac : Nat
  owed : List OwdV
  oa : Option Addr
  oc : Nat
def lanE (x : LanX) : List Value := [.bool x.call, .int .i64 x.next, .slice x.ba x.bids.length x.bc, .slice x.aa x.asks.length x.ac, .slice x.oa x.owed.length x.oc]
set_option maxRecDepth 100000 in
theorem lan_reads : Reads 79 5 (α := LanX) lanE (fun W x => Ords W (.slice x.ba x.bids.length x.bc) x.bids ∧ Ords W (.slice x.aa x.asks.length x.ac) x.asks ∧ Owds W (.slice x.oa x.owed.length x.oc) x.owed) := by
  intro H encH W n cs x hl h hk
  obtain ⟨xs, n', _, hx, _, hxl, hfs⟩ := DataW.trod_struct Tryd.underlying79 h
  have hb := bulk_part hx hk
  have hxl2 : xs.length = 5 := hxl
  have f0 : DataW.trod encH Tryd.prog W 0 (fun _ => true) true n' 4 ((cs.drop 0).take (Tryd.prog.cellsOf 4)) = xs[0]? := hfs 0 _ rfl
  rw [show Tryd.prog.cellsOf 4 = 1 by kernel_rfl, List.getElem?_eq_getElem (by omega)] at f0
  obtain ⟨k0, e0, _⟩ := DataW.trod_bool Tryd.underlying4 f0
  have f1 : DataW.trod encH Tryd.prog W 0 (fun _ => true) true n' 3 ((cs.drop 1).take (Tryd.prog.cellsOf 3)) = xs[1]? := hfs 1 _ rfl
  rw [show Tryd.prog.cellsOf 3 = 1 by kernel_rfl, List.getElem?_eq_getElem (by omega)] at f1
  obtain ⟨k1, e1, _, _⟩ := DataW.trod_int Tryd.underlying3 f1
  have f2 : DataW.trod encH Tryd.prog W 0 (fun _ => true) true n' 76 ((cs.drop 2).take (Tryd.prog.cellsOf 76)) = xs[2]? := hfs 2 _ rfl
  rw [show Tryd.prog.cellsOf 76 = 1 by kernel_rfl, List.getElem?_eq_getElem (by omega)] at f2
  obtain ⟨v2, ev2⟩ := one_of (part_len hl 2 1 (by omega))
  rw [ev2] at f2
  obtain ⟨a2, c2, l2, rfl, g2, p2, z2⟩ := ord_slice H encH W _ _ _ f2 (hb 2 (by omega))
  have e2 := ev2
  have f3 : DataW.trod encH Tryd.prog W 0 (fun _ => true) true n' 76 ((cs.drop 3).take (Tryd.prog.cellsOf 76)) = xs[3]? := hfs 3 _ rfl
  rw [show Tryd.prog.cellsOf 76 = 1 by kernel_rfl, List.getElem?_eq_getElem (by omega)] at f3
  obtain ⟨v3, ev3⟩ := one_of (part_len hl 3 1 (by omega))
  rw [ev3] at f3
  obtain ⟨a3, c3, l3, rfl, g3, p3, z3⟩ := ord_slice H encH W _ _ _ f3 (hb 3 (by omega))
  have e3 := ev3
  have f4 : DataW.trod encH Tryd.prog W 0 (fun _ => true) true n' 77 ((cs.drop 4).take (Tryd.prog.cellsOf 77)) = xs[4]? := hfs 4 _ rfl
  rw [show Tryd.prog.cellsOf 77 = 1 by kernel_rfl, List.getElem?_eq_getElem (by omega)] at f4
  obtain ⟨v4, ev4⟩ := one_of (part_len hl 4 1 (by omega))
  rw [ev4] at f4
  obtain ⟨a4, c4, l4, rfl, g4, p4, z4⟩ := owd_slice H encH W _ _ _ f4 (hb 4 (by omega))
  have e4 := ev4
  refine ⟨⟨k0, k1, l2, a2, c2, l3, a3, c3, l4, a4, c4⟩, ?_, ⟨g2, g3, g4⟩⟩
  have eN : cs.drop 5 = [] := List.drop_eq_nil_of_le (by omega)
  show cs.drop 0 = _
  rw [cut_at cs 0 1 1 rfl, e0, cut_at cs 1 1 2 rfl, e1, cut_at cs 2 1 3 rfl, e2, cut_at cs 3 1 4 rfl, e3, cut_at cs 4 1 5 rfl, e4, eN]
  rfl
set_option maxRecDepth 100000 in
theorem cel_reads : Reads 81 10 (α := CelX) celE CelAt := by
  intro H encH W n cs x hl h hk
  obtain ⟨xs, n', _, hx, _, hxl, hfs⟩ := DataW.trod_struct Tryd.underlying81 h
  have hb := bulk_part hx hk
  have hxl2 : xs.length = 4 := hxl
  have f0 : DataW.trod encH Tryd.prog W 0 (fun _ => true) true n' 37 ((cs.drop 0).take (Tryd.prog.cellsOf 37)) = xs[0]? := hfs 0 _ rfl
  rw [show Tryd.prog.cellsOf 37 = 2 by kernel_rfl, List.getElem?_eq_getElem (by omega)] at f0
  obtain ⟨k0, e0, p0⟩ := key_reads H encH W _ _ _ (part_len hl 0 2 (by omega)) f0 (hb 0 (by omega))
  have f1 : DataW.trod encH Tryd.prog W 0 (fun _ => true) true n' 3 ((cs.drop 2).take (Tryd.prog.cellsOf 3)) = xs[1]? := hfs 1 _ rfl
  rw [show Tryd.prog.cellsOf 3 = 1 by kernel_rfl, List.getElem?_eq_getElem (by omega)] at f1
  obtain ⟨k1, e1, _, _⟩ := DataW.trod_int Tryd.underlying3 f1
  have f2 : DataW.trod encH Tryd.prog W 0 (fun _ => true) true n' 75 ((cs.drop 3).take (Tryd.prog.cellsOf 75)) = xs[2]? := hfs 2 _ rfl
  rw [show Tryd.prog.cellsOf 75 = 2 by kernel_rfl, List.getElem?_eq_getElem (by omega)] at f2
  obtain ⟨k2, e2, p2⟩ := acc_reads H encH W _ _ _ (part_len hl 3 2 (by omega)) f2 (hb 2 (by omega))
  have f3 : DataW.trod encH Tryd.prog W 0 (fun _ => true) true n' 79 ((cs.drop 5).take (Tryd.prog.cellsOf 79)) = xs[3]? := hfs 3 _ rfl
  rw [show Tryd.prog.cellsOf 79 = 5 by kernel_rfl, List.getElem?_eq_getElem (by omega)] at f3
  obtain ⟨k3, e3, p3⟩ := lan_reads H encH W _ _ _ (part_len hl 5 5 (by omega)) f3 (hb 3 (by omega))
  refine ⟨⟨⟨k0.1, k0.2, k1, k2.fr, k2.cnt, k3.call, k3.next, k3.bids, k3.asks, k3.owed⟩, k2.fa, k2.fc, k3.ba, k3.bc, k3.aa, k3.ac, k3.oa, k3.oc⟩, ?_, ⟨p2, p3.1, p3.2.1, p3.2.2⟩⟩
  have eN : cs.drop 10 = [] := List.drop_eq_nil_of_le (by omega)
  show cs.drop 0 = _
  rw [cut_at cs 0 2 2 rfl, e0, cut_at cs 2 1 3 rfl, e1, cut_at cs 3 2 5 rfl, e2, cut_at cs 5 5 10 rfl, e3, eN]
  rfl
def zCel : CelX := ⟨⟨0, 0, 0, [], 0, false, 0, [], [], []⟩, none, 0, none, 0, none, 0, none, 0⟩
theorem cel_slice : SReads 45 10 144 (α := CelX) celE CelAt := slice_reads zCel Tryd.underlying45 (by kernel_rfl) (by omega) (by omega) celK cel_reads
set_option maxRecDepth 100000 in
theorem mes_reads : Reads 47 24 (α := MesX) mesE (fun W m => MesAt W m ∧ m.cx.length ≤ 1048576 ∧ m.x.v.fl.length ≤ 1048576) := by
  intro H encH W n cs x hl h hk
  obtain ⟨xs, n', _, hx, _, hxl, hfs⟩ := DataW.trod_struct Tryd.underlying47 h
  have hb := bulk_part hx hk
  have hxl2 : xs.length = 9 := hxl
  have f0 : DataW.trod encH Tryd.prog W 0 (fun _ => true) true n' 3 ((cs.drop 0).take (Tryd.prog.cellsOf 3)) = xs[0]? := hfs 0 _ rfl
  rw [show Tryd.prog.cellsOf 3 = 1 by kernel_rfl, List.getElem?_eq_getElem (by omega)] at f0
  obtain ⟨k0, e0, _, _⟩ := DataW.trod_int Tryd.underlying3 f0
  have f1 : DataW.trod encH Tryd.prog W 0 (fun _ => true) true n' 3 ((cs.drop 1).take (Tryd.prog.cellsOf 3)) = xs[1]? := hfs 1 _ rfl
  rw [show Tryd.prog.cellsOf 3 = 1 by kernel_rfl, List.getElem?_eq_getElem (by omega)] at f1
  obtain ⟨k1, e1, _, _⟩ := DataW.trod_int Tryd.underlying3 f1
  have f2 : DataW.trod encH Tryd.prog W 0 (fun _ => true) true n' 3 ((cs.drop 2).take (Tryd.prog.cellsOf 3)) = xs[2]? := hfs 2 _ rfl
  rw [show Tryd.prog.cellsOf 3 = 1 by kernel_rfl, List.getElem?_eq_getElem (by omega)] at f2
  obtain ⟨k2, e2, _, _⟩ := DataW.trod_int Tryd.underlying3 f2
  have f3 : DataW.trod encH Tryd.prog W 0 (fun _ => true) true n' 35 ((cs.drop 3).take (Tryd.prog.cellsOf 35)) = xs[3]? := hfs 3 _ rfl
  rw [show Tryd.prog.cellsOf 35 = 2 by kernel_rfl, List.getElem?_eq_getElem (by omega)] at f3
  obtain ⟨k3, e3, p3⟩ := txn_reads H encH W _ _ _ (part_len hl 3 2 (by omega)) f3 (hb 3 (by omega))
  have f4 : DataW.trod encH Tryd.prog W 0 (fun _ => true) true n' 37 ((cs.drop 5).take (Tryd.prog.cellsOf 37)) = xs[4]? := hfs 4 _ rfl
  rw [show Tryd.prog.cellsOf 37 = 2 by kernel_rfl, List.getElem?_eq_getElem (by omega)] at f4
  obtain ⟨k4, e4, p4⟩ := key_reads H encH W _ _ _ (part_len hl 5 2 (by omega)) f4 (hb 4 (by omega))
  have f5 : DataW.trod encH Tryd.prog W 0 (fun _ => true) true n' 39 ((cs.drop 7).take (Tryd.prog.cellsOf 39)) = xs[5]? := hfs 5 _ rfl
  rw [show Tryd.prog.cellsOf 39 = 11 by kernel_rfl, List.getElem?_eq_getElem (by omega)] at f5
  obtain ⟨k5, e5, p5⟩ := req_reads H encH W _ _ _ (part_len hl 7 11 (by omega)) f5 (hb 5 (by omega))
  have f6 : DataW.trod encH Tryd.prog W 0 (fun _ => true) true n' 4 ((cs.drop 18).take (Tryd.prog.cellsOf 4)) = xs[6]? := hfs 6 _ rfl
  rw [show Tryd.prog.cellsOf 4 = 1 by kernel_rfl, List.getElem?_eq_getElem (by omega)] at f6
  obtain ⟨k6, e6, _⟩ := DataW.trod_bool Tryd.underlying4 f6
  have f7 : DataW.trod encH Tryd.prog W 0 (fun _ => true) true n' 44 ((cs.drop 19).take (Tryd.prog.cellsOf 44)) = xs[7]? := hfs 7 _ rfl
  rw [show Tryd.prog.cellsOf 44 = 4 by kernel_rfl, List.getElem?_eq_getElem (by omega)] at f7
  obtain ⟨k7, e7, p7⟩ := ans_reads H encH W _ _ _ (part_len hl 19 4 (by omega)) f7 (hb 7 (by omega))
  have f8 : DataW.trod encH Tryd.prog W 0 (fun _ => true) true n' 45 ((cs.drop 23).take (Tryd.prog.cellsOf 45)) = xs[8]? := hfs 8 _ rfl
  rw [show Tryd.prog.cellsOf 45 = 1 by kernel_rfl, List.getElem?_eq_getElem (by omega)] at f8
  obtain ⟨v8, ev8⟩ := one_of (part_len hl 23 1 (by omega))
  rw [ev8] at f8
  obtain ⟨a8, c8, l8, rfl, g8, p8, z8⟩ := cel_slice H encH W _ _ _ f8 (hb 8 (by omega))
  have e8 := ev8
  refine ⟨⟨k0, k1, k2, k3.1, k3.2, k4.1, k4.2, k5, k6, k7, l8, a8, c8⟩, ?_, ⟨⟨p7.1, ⟨g8, p8⟩⟩, z8, p7.2⟩⟩
  have eN : cs.drop 24 = [] := List.drop_eq_nil_of_le (by omega)
  show cs.drop 0 = _
  rw [cut_at cs 0 1 1 rfl, e0, cut_at cs 1 1 2 rfl, e1, cut_at cs 2 1 3 rfl, e2, cut_at cs 3 2 5 rfl, e3, cut_at cs 5 2 7 rfl, e4, cut_at cs 7 11 18 rfl, e5, cut_at cs 18 1 19 rfl, e6, cut_at cs 19 4 23 rfl, e7, cut_at cs 23 1 24 rfl, e8, eN]
  rfl
set_option maxRecDepth 100000 in
theorem stp_reads : Reads 49 40 (α := StpX) stpE (fun W s => StpAt W s ∧ smlS s) := by
  intro H encH W n cs x hl h hk
  obtain ⟨xs, n', _, hx, _, hxl, hfs⟩ := DataW.trod_struct Tryd.underlying49 h
  have hb := bulk_part hx hk
  have hxl2 : xs.length = 6 := hxl
  have f0 : DataW.trod encH Tryd.prog W 0 (fun _ => true) true n' 4 ((cs.drop 0).take (Tryd.prog.cellsOf 4)) = xs[0]? := hfs 0 _ rfl
  rw [show Tryd.prog.cellsOf 4 = 1 by kernel_rfl, List.getElem?_eq_getElem (by omega)] at f0
  obtain ⟨k0, e0, _⟩ := DataW.trod_bool Tryd.underlying4 f0
  have f1 : DataW.trod encH Tryd.prog W 0 (fun _ => true) true n' 4 ((cs.drop 1).take (Tryd.prog.cellsOf 4)) = xs[1]? := hfs 1 _ rfl
  rw [show Tryd.prog.cellsOf 4 = 1 by kernel_rfl, List.getElem?_eq_getElem (by omega)] at f1
  obtain ⟨k1, e1, _⟩ := DataW.trod_bool Tryd.underlying4 f1
  have f2 : DataW.trod encH Tryd.prog W 0 (fun _ => true) true n' 35 ((cs.drop 2).take (Tryd.prog.cellsOf 35)) = xs[2]? := hfs 2 _ rfl
  rw [show Tryd.prog.cellsOf 35 = 2 by kernel_rfl, List.getElem?_eq_getElem (by omega)] at f2
  obtain ⟨k2, e2, p2⟩ := txn_reads H encH W _ _ _ (part_len hl 2 2 (by omega)) f2 (hb 2 (by omega))
  have f3 : DataW.trod encH Tryd.prog W 0 (fun _ => true) true n' 39 ((cs.drop 4).take (Tryd.prog.cellsOf 39)) = xs[3]? := hfs 3 _ rfl
  rw [show Tryd.prog.cellsOf 39 = 11 by kernel_rfl, List.getElem?_eq_getElem (by omega)] at f3
  obtain ⟨k3, e3, p3⟩ := req_reads H encH W _ _ _ (part_len hl 4 11 (by omega)) f3 (hb 3 (by omega))
  have f4 : DataW.trod encH Tryd.prog W 0 (fun _ => true) true n' 40 ((cs.drop 15).take (Tryd.prog.cellsOf 40)) = xs[4]? := hfs 4 _ rfl
  rw [show Tryd.prog.cellsOf 40 = 1 by kernel_rfl, List.getElem?_eq_getElem (by omega)] at f4
  obtain ⟨v4, ev4⟩ := one_of (part_len hl 15 1 (by omega))
  rw [ev4] at f4
  obtain ⟨a4, c4, l4, rfl, g4, p4, z4⟩ := pee_slice H encH W _ _ _ f4 (hb 4 (by omega))
  have e4 := ev4
  have f5 : DataW.trod encH Tryd.prog W 0 (fun _ => true) true n' 47 ((cs.drop 16).take (Tryd.prog.cellsOf 47)) = xs[5]? := hfs 5 _ rfl
  rw [show Tryd.prog.cellsOf 47 = 24 by kernel_rfl, List.getElem?_eq_getElem (by omega)] at f5
  obtain ⟨k5, e5, p5⟩ := mes_reads H encH W _ _ _ (part_len hl 16 24 (by omega)) f5 (hb 5 (by omega))
  refine ⟨⟨k0, k1, k2.1, k2.2, k3, l4, a4, c4, k5⟩, ?_, ⟨⟨g4, p5.1⟩, p5.2⟩⟩
  have eN : cs.drop 40 = [] := List.drop_eq_nil_of_le (by omega)
  show cs.drop 0 = _
  rw [cut_at cs 0 1 1 rfl, e0, cut_at cs 1 1 2 rfl, e1, cut_at cs 2 2 4 rfl, e2, cut_at cs 4 11 15 rfl, e3, cut_at cs 15 1 16 rfl, e4, cut_at cs 16 24 40 rfl, e5, eN]
  rfl
def zStp : StpX := ⟨false, false, 0, 0, ⟨0, 0, 0, 0, 0, 0, 0, false, (0, 0), 0⟩, [], none, 0, ⟨0, 0, 0, 0, 0, 0, 0, ⟨0, 0, 0, 0, 0, 0, 0, false, (0, 0), 0⟩, false, zAnsX, [], none, 0⟩⟩
theorem stp_slice : SReads 22 40 376 (α := StpX) stpE (fun W s => StpAt W s ∧ smlS s) := slice_reads zStp Tryd.underlying22 (by kernel_rfl) (by omega) (by omega) stpK stp_reads
set_option maxRecDepth 100000 in
/-- Steps among the arguments. -/
theorem open_stps {H : Type} {enc : TypeId × Value → H} {W : World} {b0 : Nat} {v : Value} {d : DataW H} {p : List MemPlace} (hv : Value.okWide Tryd.prog W .any b0 22 v) (h : DataW.Trod enc Tryd.prog W 0 (fun _ => true) true 22 v d p) (hk : Rows.uptoBulk d ≤ 1048576) : ∃ l, Stps W v l := by
  obtain ⟨fuel, hf⟩ := h
  obtain ⟨va, len, c0, rfl⟩ := okWide_slice Tryd.underlying22 hv
  obtain ⟨a, c, l, e, hg, hp, -⟩ := stp_slice H enc W _ _ (d, p) hf hk
  rw [e]
  exact ⟨l, hg, fun s hs => (hp s hs).1, fun s hs => (hp s hs).2⟩
end Go.Proofs.YtilinemcmgjiiaaDoor
namespace Go.Proofs.YtilinemcmgjiiaaDoor
open Go.RowKit
set_option linter.all false
def lvR : ReqV := ⟨1, 1, 0, 0, 0, 0, 5, false, (0, 0), 0⟩
def lvP (v a : Bool) : PeeV := ⟨1, 1, 3, v, a⟩
def lvM (k : Int) (y : Bool) : MesX := ⟨k, 3, 2, 1, 1, 1, 1, ⟨0, 0, 0, 0, 0, 0, 0, false, (0, 0), 0⟩, y, zAnsX, [], none, 0⟩
def lvT0 : TraV := newV 1 1 lvR [lvP false false]
def lvT1 : TraV := (vtV lvT0 0 (lvM 3 true)).1
def lvT2 : TraV := akV lvT1 0 (lvM 5 false)
theorem lv1 : begE [] 1 1 lvR [lvP false false] = 0 := by decide
theorem lv1g : begG 2 [] 1 1 lvR [lvP false false] = 2 := by unfold begG; rw [if_pos lv1]
theorem lv1t : begT [] 1 1 lvR [lvP false false] = [lvT0] := by unfold begT; rw [if_pos lv1]; rfl
theorem lv2 : heaR 2 [lvT0] (lvM 3 true) = (2, [lvT1], [(1, 1)], 0) := by rfl
theorem lv3 : outL [lvT1] = [(4, 1, 1, true)] := by rfl
theorem lv4 : heaR 2 [lvT1] (lvM 5 false) = (2, [lvT2], [], 0) := by rfl
theorem lv5 : endI [lvT2] 0 = some 0 := by rfl
theorem lv6 : endL [lvT2] = [] := by rfl
/-- Live's boxes: a key, a name, a coordinator. -/
structure LvB (w W : World) (C : Nat) (v : Value) : Prop where
  k : W.heap[w.heap.size]? = some (.cells #[.int .i64 1, .int .i64 1] 37 (0, 0))
  t : W.heap[w.heap.size + 1]? = some (.cells #[.int .i64 1, .int .i64 1] 35 (0, 0))
  c : W.heap[C]? = some (.cells #[.int .i64 2, v] 25 (0, 0))
  lt : w.heap.size + 1 < C
  bel : Below w.heap.size w W
theorem LvB.keep {w W W' : World} {C : Nat} {v : Value} (h : LvB w W C v) (hb : Below W.heap.size W W') : LvB w W' C v := ⟨blkK h.k hb, blkK h.t hb, blkK h.c hb, h.lt, below_via h.bel hb⟩
theorem LvB.set {w W : World} {C : Nat} {v : Value} (h : LvB w W C v) (v' : Value) : LvB w ((W.setCell ⟨C, 0, none⟩ (.int .i64 2)).setCell ⟨C, 1, none⟩ v') C v' := by
  have hl := h.lt
  exact ⟨setOther _ (setOther _ h.k (by omega)) (by omega), setOther _ (setOther _ h.t (by omega)) (by omega), heap_set (heap_set h.c 0 _) 1 _, hl, belowSet _ (belowSet _ h.bel (by omega)) (by omega)⟩
theorem pee_one (W : World) : Pees (W.alloc (.cells #[.int .i64 1, .int .i64 1, .int .i64 3, .bool false, .bool false] 67)) (.slice (some ⟨W.heap.size, 0, none⟩) 1 1) [lvP false false] := by
  have hX := heap_alloc_new W (.cells #[.int .i64 1, .int .i64 1, .int .i64 3, .bool false, .bool false] 67)
  refine ⟨by decide, _, _, rfl, ⟨Nat.le_refl _, by decide⟩, fun _ => ⟨W.heap.size, 0, rfl, (Array.getElem?_eq_some_iff.1 hX).1, fun j hj => ?_⟩⟩
  have hj' : j < 5 := hj
  rw [Nat.zero_add, cell_at hX]
  rcases j with _ | _ | _ | _ | _ | j
  · rfl
  · rfl
  · rfl
  · rfl
  · rfl
  · omega
theorem mes_zero (W : World) (k : Int) (y : Bool) : MesAt W (lvM k y) := ⟨⟨SGot.nil _ _ _ _ _ _ (Nat.zero_le _), SGot.nil _ _ _ _ _ _ (Nat.zero_le _)⟩, Cels.nil W⟩
set_option maxHeartbeats 16000000 in
set_option maxRecDepth 100000 in
theorem live_is (w : World) (hF : Forms w) : Calls Tryd.prog 8 #[] w fun e w' => e = .returned (.bool true) ∧ Below w.heap.size w w' := by
  have HFo := hideIt (fun W (hW : Below w.heap.size w W) => hF.keep hW)
  have h2 := two_heap w (.cells #[.int .i64 1, .int .i64 1] 37) (.cells #[.int .i64 1, .int .i64 1] 35)
  have XK := hideIt h2.1
  have XT := hideIt h2.2.1
  have BW := hideIt (below2 w (.cells #[.int .i64 1, .int .i64 1] 37) (.cells #[.int .i64 1, .int .i64 1] 35))
  have HN : Hid (∀ W, Calls Tryd.prog 7 #[.int .i64 2] W fun e w' => e = .returned (.tuple #[.agg #[.int .i64 2, .slice none 0 0], .int .i64 0]) ∧ Below W.heap.size W w') := fun W => by
    have := newC_is 2 W
    rwa [if_pos (by decide)] at this
  clear h2
  go_enter Tryd.func8, Tryd.ntmps8
  go_upto_region 3 with fail
  generalize (w.alloc (.cells #[.int .i64 1, .int .i64 1] 37)).alloc (.cells #[.int .i64 1, .int .i64 1] 35) = W0 at *
  go_wp2_with fail
  refine (HN.out _).mono ?_
  rintro e w1 ⟨rfl, hb⟩
  dsimp only
  have hbA := below1 w1 (.cells #[.int .i64 2, .slice none 0 0] 25)
  have L1 : Hid (LvB w (w1.alloc (.cells #[.int .i64 2, .slice none 0 0] 25)) w1.heap.size (.slice none 0 0)) := ⟨blkK (blkK XK.out hb) hbA, blkK (blkK XT.out hb) hbA, heap_alloc_new w1 (.cells #[.int .i64 2, .slice none 0 0] 25), by have := (Array.getElem?_eq_some_iff.1 XT.out).1; have := hb.size; omega, below_via (below_via BW.out hb) hbA⟩
  clear hb hbA XK XT BW HN
  go_upto_region 4 with fail
  generalize w1.alloc (.cells #[.int .i64 2, .slice none 0 0] 25) = W1 at *
  generalize w1.heap.size = C at *
  obtain ⟨⟨k0, k1⟩, kf, kz⟩ := at2 L1.out.k
  obtain ⟨⟨t0, t1⟩, tf, tz⟩ := at2 L1.out.t
  obtain ⟨⟨c0, c1⟩, cf, cz⟩ := at2 L1.out.c
  have L2 := hideIt (L1.out.keep (below1 W1 (.cells #[.int .i64 1, .int .i64 1, .int .i64 3, .bool false, .bool false] 67)))
  have HB := hideIt (beginC_is 2 none 0 [] 1 1 lvR (.slice (some ⟨W1.heap.size, 0, none⟩) 1 1) [lvP false false] (W1.alloc (.cells #[.int .i64 1, .int .i64 1, .int .i64 3, .bool false, .bool false] 67)) (TrsOwn.nil 0 _).at_ (pee_one W1) (HFo.out _ L2.out.bel) (by decide))
  rw [List.map_nil, lv1, lv1g, lv1t] at HB
  unfold CorBack at HB
  simp only [reqC, lvR, List.length_cons, List.length_nil, Nat.zero_add] at HB
  go_wp2_with fail
  refine HB.out.mono ?_
  rintro e w2 ⟨a1, p1, ys1, rfl, hy1, ho1, hb⟩
  dsimp only
  have L3 := hideIt ((L2.out.keep hb).set (.slice a1 1 p1))
  have HY1 := hideIt hy1
  have HO1 := hideIt ((ho1.ty (j := 0) (u := .int .i64 2) (L2.out.keep hb).c (by unfold noT; decide) (by decide)).ty (j := 1) (u := .slice a1 1 p1) (heap_set (L2.out.keep hb).c 0 _) (by unfold noT; decide) (by decide))
  have D2 := hideIt (L2.out.keep hb)
  clear k0 k1 kf kz t0 t1 tf tz c0 c1 cf cz
  clear hy1 ho1 hb HB L1 L2
  obtain ⟨⟨c0, c1⟩, cf, cz⟩ := at2 D2.out.c
  go_upto_region 5 with fail
  clear c0 c1 cf cz D2
  generalize (w2.setCell ⟨C, 0, none⟩ (.int .i64 2)).setCell ⟨C, 1, none⟩ (.slice a1 1 p1) = W2 at *
  obtain ⟨⟨k0, k1⟩, kf, kz⟩ := at2 L3.out.k
  obtain ⟨⟨t0, t1⟩, tf, tz⟩ := at2 L3.out.t
  obtain ⟨⟨c0, c1⟩, cf, cz⟩ := at2 L3.out.c
  have H1 := hideIt (hear_at HY1.out HO1.out (mes_zero W2 3 true) (fun t ht => by rw [List.mem_singleton] at ht; subst ht; exact ⟨by decide, by decide⟩) lv2)
  dsimp only at H1
  unfold HeaBack at H1
  simp only [mesE, lvM, reqC, zAnsX, zAns, AnsX.am, AnsX.fl, List.cons_append, List.nil_append, List.length_cons, List.length_nil, Nat.zero_add] at H1
  go_wp2_with fail
  refine H1.out.mono ?_
  rintro e w3 ⟨a2, p2, ys2, ma, mc, rfl, hy2, ho2, hm2, hb⟩
  dsimp only
  have D2 := hideIt (L3.out.keep hb)
  have L4 := hideIt (D2.out.set (.slice a2 1 p2))
  have HY2 := hideIt hy2
  have HO2 := hideIt ((ho2.ty (j := 0) (u := .int .i64 2) D2.out.c (by unfold noT; decide) (by decide)).ty (j := 1) (u := .slice a2 1 p2) (heap_set D2.out.c 0 _) (by unfold noT; decide) (by decide))
  have HM := hideIt (own_cell (own_cell hm2 (j := 0) (u := .int .i64 2) D2.out.c (by decide)) (j := 1) (u := .slice a2 1 p2) (heap_set D2.out.c 0 _) (by decide))
  clear k0 k1 kf kz t0 t1 tf tz c0 c1 cf cz
  clear hy2 ho2 hm2 hb H1 L3 HY1 HO1
  obtain ⟨⟨c0, c1⟩, cf, cz⟩ := at2 D2.out.c
  go_upto_region 6 with fail
  clear c0 c1 cf cz D2
  generalize (w3.setCell ⟨C, 0, none⟩ (.int .i64 2)).setCell ⟨C, 1, none⟩ (.slice a2 1 p2) = W3 at *
  obtain ⟨⟨k0, k1⟩, kf, kz⟩ := at2 L4.out.k
  obtain ⟨⟨t0, t1⟩, tf, tz⟩ := at2 L4.out.t
  obtain ⟨⟨c0, c1⟩, cf, cz⟩ := at2 L4.out.c
  have H2 : Hid (Calls Tryd.prog 12 #[.agg #[.int .i64 2, .slice a2 1 p2]] W3 fun e w' => ∃ oa oc z, e = .returned (.slice oa 1 oc) ∧ Hid ((z.kind = 4 ∧ z.yes = true) ∧ w'.ownsRow W3.heap.size 47 24 (.slice oa 1 oc) 1 (celC mesE [z]) ∧ Below W3.heap.size W3 w')) := by
    refine (out_at (g := 2) HY2.out HO2.out (by decide)).mono ?_
    rintro e w' ⟨oa, oc, zs, rfl, hz, hzo, -, hb⟩
    rw [lv3] at hz
    have hz1 : zs.length = 1 := by have := congrArg List.length hz; simpa using this
    obtain ⟨z, rfl⟩ := List.length_eq_one_iff.1 hz1
    refine ⟨oa, oc, z, rfl, ⟨?_, hzo, hb⟩⟩
    simp only [List.map_cons, List.map_nil, mkey, List.cons.injEq, Prod.mk.injEq, and_true] at hz
    exact ⟨hz.1, hz.2.2.2⟩
  go_wp2_with fail
  refine H2.out.mono ?_
  rintro e w4 ⟨oa, oc, z, rfl, HZ⟩
  dsimp only
  have L5 := hideIt (L4.out.keep HZ.out.2.2)
  have HO3 := hideIt (HO2.out.keep HZ.out.2.2)
  have HM3 := hideIt (own_keep HM.out HZ.out.2.2)
  have HZ3 := hideIt HZ.out.2.1
  have HZK := hideIt HZ.out.1
  clear k0 k1 kf kz t0 t1 tf tz c0 c1 cf cz
  clear H2 L4 HO2 HM HZ
  go_upto_region 7 with fail
  obtain ⟨⟨k0, k1⟩, kf, kz⟩ := at2 L5.out.k
  obtain ⟨⟨t0, t1⟩, tf, tz⟩ := at2 L5.out.t
  obtain ⟨⟨c0, c1⟩, cf, cz⟩ := at2 L5.out.c
  have H1 := hideIt (hear_at HY2.out HO3.out (mes_zero w4 5 false) (fun t ht => by rw [List.mem_singleton] at ht; subst ht; exact ⟨by decide, by decide⟩) lv4)
  dsimp only at H1
  unfold HeaBack at H1
  simp only [mesE, lvM, reqC, zAnsX, zAns, AnsX.am, AnsX.fl, List.cons_append, List.nil_append, List.length_cons, List.length_nil, Nat.zero_add] at H1
  go_wp2_with fail
  refine H1.out.mono ?_
  rintro e w5 ⟨a3, p3, ys3, na, nc, rfl, hy3, ho3, -, hb⟩
  dsimp only
  have D2 := hideIt (L5.out.keep hb)
  have L6 := hideIt (D2.out.set (.slice a3 1 p3))
  have HY3 := hideIt hy3
  have HO4 := hideIt ((ho3.ty (j := 0) (u := .int .i64 2) D2.out.c (by unfold noT; decide) (by decide)).ty (j := 1) (u := .slice a3 1 p3) (heap_set D2.out.c 0 _) (by unfold noT; decide) (by decide))
  have HM4 := hideIt (own_cell (own_cell (own_keep HM3.out hb) (j := 0) (u := .int .i64 2) D2.out.c (by decide)) (j := 1) (u := .slice a3 1 p3) (heap_set D2.out.c 0 _) (by decide))
  have HZ4 := hideIt (own_cell (own_cell (own_keep HZ3.out hb) (j := 0) (u := .int .i64 2) D2.out.c (by decide)) (j := 1) (u := .slice a3 1 p3) (heap_set D2.out.c 0 _) (by decide))
  clear k0 k1 kf kz t0 t1 tf tz c0 c1 cf cz
  clear hy3 ho3 hb H1 L5 HY2 HO3 HM3 HZ3
  obtain ⟨⟨c0, c1⟩, cf, cz⟩ := at2 D2.out.c
  go_upto_region 8 with fail
  clear c0 c1 cf cz D2
  generalize (w5.setCell ⟨C, 0, none⟩ (.int .i64 2)).setCell ⟨C, 1, none⟩ (.slice a3 1 p3) = W5 at *
  obtain ⟨⟨k0, k1⟩, kf, kz⟩ := at2 L6.out.k
  obtain ⟨⟨t0, t1⟩, tf, tz⟩ := at2 L6.out.t
  obtain ⟨⟨c0, c1⟩, cf, cz⟩ := at2 L6.out.c
  have H3 := hideIt (ended_at (g := 2) HY3.out HO4.out)
  unfold EnBack at H3
  rw [lv5, lv6] at H3
  simp only [List.length_cons, List.length_nil, Nat.zero_add, Option.isSome_some] at H3
  go_wp2_with fail
  refine H3.out.mono ?_
  rintro e w6 ⟨a4, p4, ys4, y, rfl, -, -, hyv, hb⟩
  dsimp only
  have hy1 : y.c = 1 ∧ y.q = 1 := by
    have e1 : some lvT2 = some y.v := hyv 0 rfl
    have e2 : lvT2 = y.v := Option.some.inj e1
    have e3 : lvT2.c = 1 := rfl
    have e4 : lvT2.q = 1 := rfl
    rw [e2] at e3 e4
    exact ⟨e3, e4⟩
  have hone : Hid ((traE y).toArray.all (·.oneCell') = true) := all_oneCell_toArray (tra1 y)
  have hS1 : Hid ((Tryd.prog.info? 52).map (·.size) = some (traE y).toArray.size) := by
    show _ = _
    rw [List.size_toArray, traK]
    kernel_rfl
  have hS2 : Hid (21 = (traE y).toArray.size) := by
    show _ = _
    rw [List.size_toArray, traK]
  have hT0 : (traE y).toArray[0]? = some (.int .i64 1) := by rw [← hy1.1]; rfl
  have hT1 : (traE y).toArray[1]? = some (.int .i64 1) := by rw [← hy1.2]; rfl
  have y2 := two_heap w6 (.cells #[.int .i64 2, .slice a4 0 p4] 25) (.cells #[.int .i64 0, .int .i64 0, .int .i64 0, .int .i64 0, .int .i64 0, .int .i64 0, .int .i64 0, .int .i64 0, .int .i64 0, .bool false, .int .i64 0, .int .i64 0, .int .i64 0, .slice none 0 0, .int .i64 0, .slice none 0 0, .slice none 0 0, .int .i64 0, .int .i64 0, .slice none 0 0, .slice none 0 0] 52)
  have y3 : ((w6.alloc (.cells #[.int .i64 2, .slice a4 0 p4] 25)).alloc (.cells #[.int .i64 0, .int .i64 0, .int .i64 0, .int .i64 0, .int .i64 0, .int .i64 0, .int .i64 0, .int .i64 0, .int .i64 0, .bool false, .int .i64 0, .int .i64 0, .int .i64 0, .slice none 0 0, .int .i64 0, .slice none 0 0, .slice none 0 0, .int .i64 0, .int .i64 0, .slice none 0 0, .slice none 0 0] 52)).heap[w6.heap.size + 1]? = some (.cells #[.int .i64 0, .int .i64 0, .int .i64 0, .int .i64 0, .int .i64 0, .int .i64 0, .int .i64 0, .int .i64 0, .int .i64 0, .bool false, .int .i64 0, .int .i64 0, .int .i64 0, .slice none 0 0, .int .i64 0, .slice none 0 0, .slice none 0 0, .int .i64 0, .int .i64 0, .slice none 0 0, .slice none 0 0] 52) := y2.2.1
  have hbA := below2 w6 (.cells #[.int .i64 2, .slice a4 0 p4] 25) (.cells #[.int .i64 0, .int .i64 0, .int .i64 0, .int .i64 0, .int .i64 0, .int .i64 0, .int .i64 0, .int .i64 0, .int .i64 0, .bool false, .int .i64 0, .int .i64 0, .int .i64 0, .slice none 0 0, .int .i64 0, .slice none 0 0, .slice none 0 0, .int .i64 0, .int .i64 0, .slice none 0 0, .slice none 0 0] 52)
  have hb2 := below_out hbA (out_row ((w6.alloc (.cells #[.int .i64 2, .slice a4 0 p4] 25)).alloc (.cells #[.int .i64 0, .int .i64 0, .int .i64 0, .int .i64 0, .int .i64 0, .int .i64 0, .int .i64 0, .int .i64 0, .int .i64 0, .bool false, .int .i64 0, .int .i64 0, .int .i64 0, .slice none 0 0, .int .i64 0, .slice none 0 0, .slice none 0 0, .int .i64 0, .int .i64 0, .slice none 0 0, .slice none 0 0] 52)) (w6.heap.size + 1) (traE y).toArray) (fun k hk => by omega)
  have XY := hideIt (setRow_heap ((w6.alloc (.cells #[.int .i64 2, .slice a4 0 p4] 25)).alloc (.cells #[.int .i64 0, .int .i64 0, .int .i64 0, .int .i64 0, .int .i64 0, .int .i64 0, .int .i64 0, .int .i64 0, .int .i64 0, .bool false, .int .i64 0, .int .i64 0, .int .i64 0, .slice none 0 0, .int .i64 0, .slice none 0 0, .slice none 0 0, .int .i64 0, .int .i64 0, .slice none 0 0, .slice none 0 0] 52)) (w6.heap.size + 1) _ (traE y).toArray 52 _ y3)
  have L7 := hideIt ((L6.out.keep hb).keep hb2)
  have HM5 := hideIt (own_sgot (bytes := 24) (own_keep (own_keep HM4.out hb) hb2) (by decide))
  have HZ5 := hideIt (own_sgot (bytes := 240) (own_keep (own_keep HZ4.out hb) hb2) (by show 1 * 240 ≤ 140737488355328; decide))
  clear k0 k1 kf kz t0 t1 tf tz c0 c1 cf cz
  generalize traE y = LT at *
  clear hyv hb hy1 y2 hbA hb2 H3 L6 HY3 HO4 HM4 HZ4
  go_upto_region 9 with (first | (refine wpList_store_row rfl _ _ _ rfl (w6.heap.size + 1) LT.toArray rfl rfl _ _ y3 hS1.out hS2.out hone.out ?_; go_frame) | fail)
  clear y3 hone hS1 hS2
  generalize ((w6.alloc (.cells #[.int .i64 2, .slice a4 0 p4] 25)).alloc (.cells #[.int .i64 0, .int .i64 0, .int .i64 0, .int .i64 0, .int .i64 0, .int .i64 0, .int .i64 0, .int .i64 0, .int .i64 0, .bool false, .int .i64 0, .int .i64 0, .int .i64 0, .slice none 0 0, .int .i64 0, .slice none 0 0, .slice none 0 0, .int .i64 0, .int .i64 0, .slice none 0 0, .slice none 0 0] 52)).setRow (w6.heap.size + 1) LT.toArray = W6 at *
  generalize w6.heap.size + 1 = Y at *
  obtain ⟨⟨k0, k1⟩, kf, kz⟩ := at2 L7.out.k
  obtain ⟨⟨t0, t1⟩, tf, tz⟩ := at2 L7.out.t
  obtain ⟨⟨c0, c1⟩, cf, cz⟩ := at2 L7.out.c
  have y0 : W6.cell? ⟨Y, 0, none⟩ = some (.int .i64 1) := by rw [cell_at XY.out]; exact hT0
  have y1 : W6.cell? ⟨Y, 1, none⟩ = some (.int .i64 1) := by rw [cell_at XY.out]; exact hT1
  have yz : Y < W6.heap.size := (Array.getElem?_eq_some_iff.1 XY.out).1
  clear XY hT0 hT1
  obtain ⟨-, ma', mc', e1, hmc, hmr⟩ := HM5.out
  simp only [Value.slice.injEq, List.length_cons, List.length_nil, Nat.zero_add, true_and] at e1
  obtain ⟨rfl, rfl⟩ := e1
  obtain ⟨mb, mo, rfl, hml, hmcell⟩ := hmr (by decide)
  have m0 : W6.cell? ⟨mb, mo, none⟩ = some (.int .i64 1) := hmcell 0 (by decide)
  have m1 : W6.cell? ⟨mb, mo + 1, none⟩ = some (.int .i64 1) := hmcell 1 (by decide)
  have m2 : W6.cell? ⟨mb, mo + 2, none⟩ = some (.bool true) := hmcell 2 (by decide)
  obtain ⟨-, za', zc', e1, hzc, hzr⟩ := HZ5.out
  simp only [Value.slice.injEq, List.length_cons, List.length_nil, Nat.zero_add, true_and] at e1
  obtain ⟨rfl, rfl⟩ := e1
  obtain ⟨zb, zo, rfl, hzl, hzcell⟩ := hzr (by simp)
  have z0 : W6.cell? ⟨zb, zo, none⟩ = some (.int .i64 4) := by have := hzcell 0 (by simp); rw [← HZK.out.1]; exact this
  have z18 : W6.cell? ⟨zb, zo + 18, none⟩ = some (.bool true) := by have := hzcell 18 (by simp); rw [← HZK.out.2]; exact this
  have BE := hideIt L7.out.bel
  clear hmr hmcell hzr hzcell hmc hzc HM5 HZ5 L7 HZK HFo
  have B9 := hideIt (fun m => below_drewN (w := w) (B := w.heap.size) BE.out m)
  go_quiet (fail)
  have B10 := hideIt (B9.out nq)
  clear B9 BE
  go_wp2
  go_ret
  exact ⟨rfl, B10.out⟩
end Go.Proofs.YtilinemcmgjiiaaDoor
namespace Go.Proofs.YtilinemcmgjiiaaDoor
open Go.RowKit
set_option linter.all false
/-- A coordinator on its way. -/
structure CoF (w : World) (k : Nat) (g : Int) (n : Nat) (wr : World) : Prop where
  co : ∃ a c ys, CoB w.heap.size wr k g a c ys ∧ NmL (ys.map TraX.v) ∧ SzL n (ys.map TraX.v)
  bel : Below w.heap.size w wr
/-- What a step left. -/
structure RS (w wr : World) (k8 : Nat) (g : Int) (d : List TraV) (ma : Option Addr) (mc : Nat) (mk : List (Int × Int)) (wx : World) : Prop where
  co : ∃ a c ys, CoB w.heap.size wx k8 g a c ys ∧ ys.map TraX.v = d
  mo : wx.ownsRow w.heap.size 57 3 (.slice ma mk.length mc) mk.length (celC marE mk)
  bel : Below wr.heap.size wr wx
  lt : wr.heap.size ≤ k8
theorem rs_new {w wr W w1 : World} {g : Int} {d : List TraV} {a ma : Option Addr} {c mc : Nat} {mk : List (Int × Int)} {ys : List TraX} (hW : w.heap.size ≤ W.heap.size) (hy : ys.map TraX.v = d) (ho : TrsOwn W.heap.size w1 (.slice a d.length c) ys) (hm : w1.ownsRow W.heap.size 57 3 (.slice ma mk.length mc) mk.length (celC marE mk)) (hb : Below wr.heap.size wr w1) : RS w wr w1.heap.size g d ma mc mk (w1.alloc (.cells #[.int .i64 g, .slice a d.length c] 25)) := by
  have hl : d.length = ys.length := by rw [← hy, List.length_map]
  have hbA := below1 w1 (.cells #[.int .i64 g, .slice a d.length c] 25)
  have hX := heap_alloc_new w1 (.cells #[.int .i64 g, .slice a d.length c] 25)
  have ho2 := (ho.keep hbA).base hW
  refine ⟨⟨a, c, ys, ⟨?_, ?_⟩, hy⟩, own_base (own_keep hm hbA) hW, below_via hb hbA, hb.size⟩
  · rw [← hl]; exact hX
  · rw [← hl]; exact ho2
theorem rs_set {w wr W w1 : World} {g : Int} {d : List TraV} {a ma : Option Addr} {c mc k8 : Nat} {mk : List (Int × Int)} {ys : List TraX} (hx : w1.heap[k8]? = some (.cells #[.int .i64 0, .slice none 0 0] 25 (0, 0))) (hk : wr.heap.size ≤ k8) (hW : w.heap.size ≤ W.heap.size) (hy : ys.map TraX.v = d) (ho : TrsOwn W.heap.size w1 (.slice a d.length c) ys) (hm : w1.ownsRow W.heap.size 57 3 (.slice ma mk.length mc) mk.length (celC marE mk)) (hb : Below wr.heap.size wr w1) : RS w wr k8 g d ma mc mk ((w1.setCell ⟨k8, 0, none⟩ (.int .i64 g)).setCell ⟨k8, 1, none⟩ (.slice a d.length c)) := by
  have hl : d.length = ys.length := by rw [← hy, List.length_map]
  have h1 := heap_set hx 0 (.int .i64 g)
  have h3 := heap_set h1 1 (.slice a d.length c)
  have o1 := ho.ty (j := 0) (u := .int .i64 g) hx (by unfold noT; decide) (by decide)
  have o2 := (o1.ty (j := 1) (u := .slice a d.length c) h1 (by unfold noT; decide) (by decide)).base hW
  refine ⟨⟨a, c, ys, ⟨?_, ?_⟩, hy⟩, own_base (own_cell (own_cell hm hx (by decide)) h1 (by decide)) hW, belowSet _ (belowSet _ hb hk) hk, hk⟩
  · rw [← hl]; exact h3
  · rw [← hl]; exact o2
theorem stL_v (l : List TraX) (c q : Int) : stL l c q = stV (l.map TraX.v) c q := by
  unfold stL stV
  rw [List.find?_map]
  have e : ((fun t : TraV => t.c == c && t.q == q) ∘ TraX.v) = fun t : TraX => t.c == c && t.q == q := rfl
  rw [e]
  cases l.find? (fun t => t.c == c && t.q == q) <;> rfl
end Go.Proofs.YtilinemcmgjiiaaDoor
