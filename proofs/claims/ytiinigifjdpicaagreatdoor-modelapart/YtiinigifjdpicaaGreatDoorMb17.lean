/- Texts of my own, laid together. -/
import Derived.Test.YtiinigifjdpicaaGreatDoorMb16
import Derived.Test.YtiinigifjdpicaaGreatDoorRows
import Derived.ProofKit
import Derived.LaidMore
import Derived.OpenShut
import Derived.Stop.Joined
import Derived.Below
import Derived.ChangeOld
import Derived.SizedLaws
namespace Go.Proofs.YtiinigifjdpicaaGreatDoor
open Go.RowKit
set_option linter.all false
theorem do_is (va vl : Value) (M : MdlV) (r : ReqV) (w : World) (h : Mdl w va vl M) (hF : Se.Forms w) : Calls Tryz.prog 10 #[.agg #[va, vl], .agg (Se.reqC r)] w (DoBack (doM M r) w) := by
 by_cases h1 : mayM M = true
 ·by_cases h2 : Se.fitsB r = true
  ·exact do_run va vl M r w h hF h1 h2
  ·have h2' : Se.fitsB r = false := by simpa using h2
   have e : doM M r = (M, ⟨1, 0, [], []⟩) := by unfold doM; rw [h1, h2']; rfl
   rw [e];exact do_bad va vl M r w h hF (Or.inr ⟨h1, h2'⟩)
 ·have h1' : mayM M = false := by simpa using h1
  have e : doM M r = (M, ⟨1, 0, [], []⟩) := by unfold doM; rw [h1']; rfl
  rw [e];exact do_bad va vl M r w h hF (Or.inl h1')
def reqE (r : ReqV) : List Value := [.int .i64 r.kind, .int .i64 r.acct, .int .i64 r.lane, .int .i64 r.asset, .int .i64 r.side, .int .i64 r.price, .int .i64 r.n, .bool r.now, .int .i64 r.key.1, .int .i64 r.key.2, .int .i64 r.dst]
theorem reqEK (r : ReqV) : (reqE r).length = 11 := rfl
theorem reqE_c (r : ReqV) : (reqE r).toArray = Se.reqC r := rfl
abbrev Reqs (w : World) (v : Value) (l : List ReqV) : Prop := SGot 11 88 reqE w v l
theorem SGot.first40 {w : World} {a : Option Addr} {c : Nat} {l : List ReqV} (h : Reqs w (.slice a l.length c) l) (hl : 40 < l.length) : Reqs w (.slice a 40 c) (l.take 40) := by
 have hc := h.cap;obtain ⟨h8, a', c', e, hcc, hr⟩ := h;simp only [Value.slice.injEq] at e;obtain ⟨rfl, _, rfl⟩ := e;have e60 : (l.take 40).length = 40 := by rw [List.length_take]; omega
 refine ⟨by rw [e60]; omega, a, c, by rw [e60], ⟨by omega, hcc.2⟩, fun _ => ?_⟩
 obtain ⟨b, off, e2, hlt, hcell⟩ := hr (by omega);refine ⟨b, off, e2, hlt, fun j hj => ?_⟩;rw [e60] at hj;rw [hcell j (by omega), ← celC_take reqEK l 40, List.getElem?_take, if_pos (by omega)]
set_option maxHeartbeats 4000000 in
theorem few_is (v : Value) (l : List ReqV) (w : World) (h : Reqs w v l) : Calls Tryz.prog 16 #[v, .int .i64 40] w fun e w' => (∃ v', e = .returned v' ∧ ∀ w0, Reqs w0 v l → Reqs w0 v' (l.take 40)) ∧ w' = w := by
 obtain ⟨a, c, rfl⟩ := h.slice;have hc := h.cap;have h8 : l.length * 88 ≤ 140737488355328 := h.1;have hm : maxLen = 9223372036854775807 := by decide
 rw [hm] at hc
 by_cases hl : 40 < l.length
 ·have H := hideIt (fun w0 (h0 : Reqs w0 (.slice a l.length c) l) => h0.first40 hl);have hI : (40 : Int) < (l.length : Int) := by omega
  have h60 : (40 : Int) ≤ (c : Int) := by omega
  clear h
  go_enter Tryz.func16, Tryz.ntmps16
  go_wp2;go_ret
  exact ⟨⟨_, rfl, H.out⟩, rfl⟩
 ·have H := hideIt (fun w0 (h0 : Reqs w0 (.slice a l.length c) l) => h0);have hI : ¬ (40 : Int) < (l.length : Int) := by omega
  have ht : l.take 40 = l := List.take_of_length_le (by omega);rw [ht];clear h
  go_enter Tryz.func16, Tryz.ntmps16
  go_wp2;go_ret
  exact ⟨⟨_, rfl, H.out⟩, rfl⟩
end Go.Proofs.YtiinigifjdpicaaGreatDoor
namespace Go.Proofs.YtiinigifjdpicaaGreatDoor
open Go.ChangeShapes Go.WideShapes Go.ChangeAt Go.WideMaps Go.WideElems Go.RowKit
set_option linter.all false
theorem ownK : ownKnob Tryz.prog.godebug = none := by kernel_rfl
theorem own : ownKnob Tryz.prog.godebug = none := ownK
abbrev laidF : List (String × DataW Unit) := [("rialto/session.forms", Rows.laid_rialto_session_forms)]
theorem gForms : Tryz.prog.globalNamed "rialto/session.forms" = some 0 := by kernel_rfl
theorem tForms : (Tryz.prog.globals[0]?).map (·.type) = some 91 := by kernel_rfl
theorem door_met (os : Os) (args : Array Value) : laidMetH Tryz.prog laidF ((World.doorLaid Tryz.prog 400 os).forCall (fun _ _ => 0) ⟨#[], args, []⟩).memory :=
 laidMetH_of_parts3 (fuel := 8) (laidMet_of_run' 8 (by kernel_rfl) (by kernel_rfl)) (by kernel_rfl) (by kernel_rfl)
theorem cellsF : Tryz.prog.cellsOf 90 = 2 := by kernel_rfl
theorem cellsA : Tryz.prog.cellsOf 91 = 20 := by kernel_rfl
theorem cells3 : Tryz.prog.cellsOf 3 = 1 := by kernel_rfl
theorem twoL {α : Type} (l : List α) (h : l.length = 2) : ∃ a b, l = [a, b] := by
 match l, h with
 | [a, b], _ => exact ⟨a, b, rfl⟩
theorem form_cells {H : Type} {enc : TypeId × Value → H} {W : World} {f : Nat → Bool} {hd : Bool} {n : Nat} {cs : List Value} {a b : Int} {p : List MemPlace} (hl : cs.length = 2)
  (h : DataW.trod enc Tryz.prog W 0 f hd n 90 cs = some (.agg [.lit (.int .i64 a), .lit (.int .i64 b)], p)) : cs = [.int .i64 a, .int .i64 b] := by
 obtain ⟨xs, n', _, hx, _, hxl, hfs⟩ := DataW.trod_struct Tryz.underlying90 h;have f0 : DataW.trod enc Tryz.prog W 0 f hd n' 3 ((cs.drop 0).take (Tryz.prog.cellsOf 3)) = xs[0]? := hfs 0 _ rfl;have f1 : DataW.trod enc Tryz.prog W 0 f hd n' 3 ((cs.drop 1).take (Tryz.prog.cellsOf 3)) = xs[1]? := hfs 1 _ rfl;rw [cells3] at f0 f1;obtain ⟨v0, v1, rfl⟩ := twoL cs hl;obtain ⟨y0, y1, rfl⟩ := twoL xs hxl;simp only [List.drop_zero, List.drop_succ_cons, List.take_succ_cons, List.take_zero, List.getElem?_cons_zero, List.getElem?_cons_succ] at f0 f1;obtain ⟨k0, e0, rfl, _⟩ := DataW.trod_int Tryz.underlying3 f0;obtain ⟨k1, e1, rfl, _⟩ := DataW.trod_int Tryz.underlying3 f1;simp only [List.cons.injEq, and_true] at e0 e1
 simp at hx
 obtain ⟨⟨rfl, rfl⟩, _⟩ := hx;rw [e0, e1]
set_option maxRecDepth 100000 in
theorem of_laid {W : World} (h : laidMetH Tryz.prog laidF W) : Se.Forms W := by
 rw [MakeChecks.laidMetH_plain _ _ _ (by kernel_rfl)] at h;obtain ⟨ps, ⟨g0, t0, cs0, f0, p0, q0, hg0, ht0, hv0, hd0, _, _⟩, _, _⟩ := h;obtain rfl := Option.some.inj (gForms.symm.trans hg0);obtain rfl := Option.some.inj (tForms.symm.trans ht0);obtain ⟨xs, m1, rfl, hx1, hlen, hn, hel⟩ := DataW.trod_array Tryz.underlying91 hd0;rw [cellsA] at hlen;simp only [cellsF] at hel;simp only [Prod.mk.injEq, Rows.laid_rialto_session_forms, DataW.agg.injEq] at hx1;have key : ∀ i, i < 10 → cs0[i * 2]? = some (.int .i64 (Se.formT.getD i (0, 0)).1) ∧ cs0[i * 2 + 1]? = some (.int .i64 (Se.formT.getD i (0, 0)).2) := by
  intro i hi;have hE := hel i hi;have hxi : xs[i]? = some (.agg [.lit (.int .i64 (Se.formT.getD i (0, 0)).1), .lit (.int .i64 (Se.formT.getD i (0, 0)).2)], (xs[i]'(by omega)).2) := by
   have hm : (xs.map (fun x => x.fst))[i]? = some (.agg [.lit (.int .i64 (Se.formT.getD i (0, 0)).1), .lit (.int .i64 (Se.formT.getD i (0, 0)).2)]) := by
    rw [← hx1.1]
    match i, hi with
    | 0, _ => rfl
    | 1, _ => rfl
    | 2, _ => rfl
    | 3, _ => rfl
    | 4, _ => rfl
    | 5, _ => rfl
    | 6, _ => rfl
    | 7, _ => rfl
    | 8, _ => rfl
    | 9, _ => rfl
   rw [List.getElem?_map, List.getElem?_eq_getElem (by omega)] at hm;rw [List.getElem?_eq_getElem (by omega)];simp only [Option.map_some, Option.some.injEq] at hm;rw [← hm]
  rw [hxi] at hE;have hl2 : (List.take 2 (List.drop (i * 2) cs0.toList)).length = 2 := by
   rw [List.length_take, List.length_drop, hlen];omega
  have hc := form_cells hl2 hE;have g0 : (List.take 2 (List.drop (i * 2) cs0.toList))[0]? = cs0.toList[i * 2]? := by simp
  have g1 : (List.take 2 (List.drop (i * 2) cs0.toList))[1]? = cs0.toList[i * 2 + 1]? := by simp
  rw [hc] at g0 g1
  exact ⟨by simpa using g0.symm, by simpa using g1.symm⟩
 have hc : ∀ i, W.cell? ⟨0, i, none⟩ = cs0[i]? := World.var?_cell gForms hv0;refine ⟨?_, fun k h1 h9 => ?_⟩
 ·have := (hc 0).trans (key 0 (by omega)).1
  rcases Nat.eq_zero_or_pos W.heap.size with h0 | h0
  ·simp [World.cell?, Array.getElem?_eq_none (show W.heap.size ≤ 0 by omega)] at this
  ·exact h0
 ·have hk := key k.toNat (by omega)
  exact ⟨(hc _).trans hk.1, (hc _).trans hk.2⟩
theorem laidOut : laidOutB Tryz.prog = true := by kernel_rfl
end Go.Proofs.YtiinigifjdpicaaGreatDoor
namespace Go.Proofs.YtiinigifjdpicaaGreatDoor
open Go.ChangeShapes Go.WideShapes Go.ChangeAt Go.WideMaps Go.WideElems Go.RowKit
set_option linter.all false
theorem cellsKy : Tryz.prog.cellsOf 24 = 2 := by kernel_rfl
theorem cellsR : Tryz.prog.cellsOf 26 = 11 := by kernel_rfl
theorem cells4 : Tryz.prog.cellsOf 4 = 1 := by kernel_rfl
theorem tenL {α : Type} (l : List α) (h : l.length = 10) : ∃ a b c d e f g i j k, l = [a, b, c, d, e, f, g, i, j, k] := by
 match l, h with
 | [a, b, c, d, e, f, g, i, j, k], _ => exact ⟨a, b, c, d, e, f, g, i, j, k, rfl⟩
theorem elevenL {α : Type} (l : List α) (h : l.length = 11) : ∃ a b c d e f g i j k m, l = [a, b, c, d, e, f, g, i, j, k, m] := by
 match l, h with
 | [a, b, c, d, e, f, g, i, j, k, m], _ => exact ⟨a, b, c, d, e, f, g, i, j, k, m, rfl⟩
theorem pairK {H : Type} {enc : TypeId × Value → H} {W : World} {n : Nat} {cs : List Value} {x : DataW H × List MemPlace} (hl : cs.length = 2)
  (h : DataW.trod enc Tryz.prog W 0 (fun _ => true) true n 24 cs = some x) : ∃ a b, cs = [.int .i64 a, .int .i64 b] := by
 obtain ⟨xs, n', _, _, _, hxl, hfs⟩ := DataW.trod_struct Tryz.underlying24 h;have f0 : DataW.trod enc Tryz.prog W 0 (fun _ => true) true n' 3 ((cs.drop 0).take (Tryz.prog.cellsOf 3)) = xs[0]? := hfs 0 _ rfl;have f1 : DataW.trod enc Tryz.prog W 0 (fun _ => true) true n' 3 ((cs.drop 1).take (Tryz.prog.cellsOf 3)) = xs[1]? := hfs 1 _ rfl;rw [cells3] at f0 f1;obtain ⟨v0, v1, rfl⟩ := twoL cs hl;obtain ⟨y0, y1, rfl⟩ := twoL xs hxl;simp only [List.drop_zero, List.drop_succ_cons, List.take_succ_cons, List.take_zero, List.getElem?_cons_zero, List.getElem?_cons_succ] at f0 f1;obtain ⟨k0, e0, _, _⟩ := DataW.trod_int Tryz.underlying3 f0;obtain ⟨k1, e1, _, _⟩ := DataW.trod_int Tryz.underlying3 f1;simp only [List.cons.injEq, and_true] at e0 e1
 exact ⟨k0, k1, by rw [e0, e1]⟩
set_option maxRecDepth 100000 in
theorem req_cells {H : Type} {enc : TypeId × Value → H} {W : World} {n : Nat} {cs : List Value} {x : DataW H × List MemPlace} (hl : cs.length = 11)
  (h : DataW.trod enc Tryz.prog W 0 (fun _ => true) true n 26 cs = some x) : ∃ r : ReqV, cs = reqE r := by
 obtain ⟨xs, n', _, _, _, hxl, hfs⟩ := DataW.trod_struct Tryz.underlying26 h;have f0 : DataW.trod enc Tryz.prog W 0 (fun _ => true) true n' 3 ((cs.drop 0).take (Tryz.prog.cellsOf 3)) = xs[0]? := hfs 0 _ rfl;have f1 : DataW.trod enc Tryz.prog W 0 (fun _ => true) true n' 3 ((cs.drop 1).take (Tryz.prog.cellsOf 3)) = xs[1]? := hfs 1 _ rfl;have f2 : DataW.trod enc Tryz.prog W 0 (fun _ => true) true n' 3 ((cs.drop 2).take (Tryz.prog.cellsOf 3)) = xs[2]? := hfs 2 _ rfl;have f3 : DataW.trod enc Tryz.prog W 0 (fun _ => true) true n' 3 ((cs.drop 3).take (Tryz.prog.cellsOf 3)) = xs[3]? := hfs 3 _ rfl;have f4 : DataW.trod enc Tryz.prog W 0 (fun _ => true) true n' 3 ((cs.drop 4).take (Tryz.prog.cellsOf 3)) = xs[4]? := hfs 4 _ rfl;have f5 : DataW.trod enc Tryz.prog W 0 (fun _ => true) true n' 3 ((cs.drop 5).take (Tryz.prog.cellsOf 3)) = xs[5]? := hfs 5 _ rfl;have f6 : DataW.trod enc Tryz.prog W 0 (fun _ => true) true n' 3 ((cs.drop 6).take (Tryz.prog.cellsOf 3)) = xs[6]? := hfs 6 _ rfl;have f7 : DataW.trod enc Tryz.prog W 0 (fun _ => true) true n' 4 ((cs.drop 7).take (Tryz.prog.cellsOf 4)) = xs[7]? := hfs 7 _ rfl;have f8 : DataW.trod enc Tryz.prog W 0 (fun _ => true) true n' 24 ((cs.drop 8).take (Tryz.prog.cellsOf 24)) = xs[8]? := hfs 8 _ rfl;have f9 : DataW.trod enc Tryz.prog W 0 (fun _ => true) true n' 3 ((cs.drop 10).take (Tryz.prog.cellsOf 3)) = xs[9]? := hfs 9 _ rfl;rw [cells3] at f0 f1 f2 f3 f4 f5 f6 f9;rw [cells4] at f7;rw [cellsKy] at f8;obtain ⟨v0, v1, v2, v3, v4, v5, v6, v7, v8, v9, v10, rfl⟩ := elevenL cs hl;obtain ⟨y0, y1, y2, y3, y4, y5, y6, y7, y8, y9, rfl⟩ := tenL xs hxl;simp only [List.drop_zero, List.drop_succ_cons, List.take_succ_cons, List.take_zero, List.getElem?_cons_zero, List.getElem?_cons_succ] at f0 f1 f2 f3 f4 f5 f6 f7 f8 f9;obtain ⟨k0, e0, _, _⟩ := DataW.trod_int Tryz.underlying3 f0;obtain ⟨k1, e1, _, _⟩ := DataW.trod_int Tryz.underlying3 f1;obtain ⟨k2, e2, _, _⟩ := DataW.trod_int Tryz.underlying3 f2;obtain ⟨k3, e3, _, _⟩ := DataW.trod_int Tryz.underlying3 f3;obtain ⟨k4, e4, _, _⟩ := DataW.trod_int Tryz.underlying3 f4;obtain ⟨k5, e5, _, _⟩ := DataW.trod_int Tryz.underlying3 f5;obtain ⟨k6, e6, _, _⟩ := DataW.trod_int Tryz.underlying3 f6;obtain ⟨k7, e7, _⟩ := DataW.trod_bool Tryz.underlying4 f7;obtain ⟨k8a, k8b, e8⟩ := pairK rfl f8;obtain ⟨k9, e9, _, _⟩ := DataW.trod_int Tryz.underlying3 f9;simp only [List.cons.injEq, and_true] at e0 e1 e2 e3 e4 e5 e6 e7 e8 e9;obtain ⟨e8a, e8b⟩ := e8
 exact ⟨⟨k0, k1, k2, k3, k4, k5, k6, k7, (k8a, k8b), k9⟩, by rw [e0, e1, e2, e3, e4, e5, e6, e7, e8a, e8b, e9]; rfl⟩
set_option maxRecDepth 100000 in
theorem open_req {H : Type} {enc : TypeId × Value → H} {W : World} {b0 : Nat} {v : Value} {d : DataW H} {p : List MemPlace}
  (hv : Value.okWide Tryz.prog W .any b0 26 v) (h : DataW.Trod enc Tryz.prog W 0 (fun _ => true) true 26 v d p) : ∃ r : ReqV, v = .agg (Se.reqC r) := by
 obtain ⟨cs, rfl, hsz⟩ := okWide_struct Tryz.underlying26 hv;rw [cellsR] at hsz;obtain ⟨fuel, hf⟩ := h;obtain ⟨r, e⟩ := req_cells (cs := (Value.agg cs).cells.toList) (by simpa [Value.cells] using hsz) hf;refine ⟨r, ?_⟩;have e2 : cs.toList = reqE r := by simpa [Value.cells] using e
 have : cs = Se.reqC r := by rw [← Array.toArray_toList (xs := cs), e2]; rfl
 rw [this]
theorem bytesR : Tryz.prog.bytesOf 26 = 88 := by kernel_rfl
def Light {H : Type} (t : TypeId) (d : DataW H) : Prop := ∀ n ∈ d.weights Tryz.prog t, n ≤ reachBytes
theorem light_each {H : Type} {ts : List TypeId} {ds : List (DataW H)} {j : Nat} {t : TypeId} {d : DataW H} (h : ∀ n ∈ DataW.weightsEach Tryz.prog ts ds, n ≤ reachBytes) (ht : ts[j]? = some t) (hd : ds[j]? = some d) : Light t d :=
 fun n hn => h n (DataW.weights_mem_each ht hd n hn)
theorem light_all {H : Type} {ts : List TypeId} {ds : List (DataW H)} {j : Nat} {t : TypeId} {d : DataW H} (hall : (DataW.weightsEach Tryz.prog ts ds).all (· ≤ reachBytes) = true) (ht : ts[j]? = some t) (hd : ds[j]? = some d) : Light t d :=
 light_each (fun n hn => by simpa using List.all_eq_true.1 hall n hn) ht hd
theorem reach_lt {n : Nat} (h : n ≤ reachBytes) : n ≤ 140737488355328 := by
 have hr : reachBytes < 2 ^ 47 := reachBytes_lt;have e3 : (2 : Nat) ^ 47 = 140737488355328 := by decide
 omega
set_option maxRecDepth 100000 in
theorem reqs_open {H : Type} {enc : TypeId × Value → H} {W : World} {n : Nat} {v : Value} {x : DataW H × List MemPlace}
  (h : DataW.trod enc Tryz.prog W 0 (fun _ => true) true n 22 [v] = some x) (hw : Light 22 x.1) : ∃ l, Reqs W v l := by
 rcases Deep.open_slice Tryz.underlying22 h with ⟨hcs, hx⟩ | ⟨x0, len, c, m, n0, D, Pl, hcs, _, hl, hm, hmm, hxe, hx⟩
 ·have : v = .slice none 0 0 := by simpa using hcs
  subst this
  exact ⟨[], SGot.nil _ _ _ _ _ _ (Nat.zero_le _)⟩
 ·have : v = .slice (some x0) len c := by simpa using hcs
  subst this;simp only [if_true] at hmm;rw [cellsR] at hx;obtain ⟨b, off, spot⟩ := x0;have hspot0 : 0 < len → spot = none := by
   intro hpos;obtain ⟨cs', h1, _⟩ := hx 0 (by omega);obtain ⟨_, hlen, hcell⟩ := World.cells?_some h1;obtain ⟨v0, v1, v2, v3, v4, v5, v6, v7, v8, v9, v10, rfl⟩ := elevenL cs' hlen;have g := World.cell?_spot (hcell 0 (by omega))
   simpa [Addr.add] using g
  have key : ∀ i, i < len → ∃ o : ReqV, spot = none ∧ b < W.heap.size ∧ ∀ j, j < 11 → W.cell? ⟨b, off + i * 11 + j, none⟩ = (reqE o)[j]? := by
   intro i hi;obtain ⟨cs', h1, h2⟩ := hx i (by omega);obtain ⟨_, hlen, hcell⟩ := World.cells?_some h1;obtain ⟨o, rfl⟩ := req_cells hlen h2;have hspot : spot = none := hspot0 (by omega);subst hspot;refine ⟨o, rfl, ?_, fun j hj => ?_⟩
   ·have k0 := hcell 0 (by omega);rw [addN, addN] at k0
    rcases Nat.lt_or_ge b W.heap.size with h' | h'
    ·exact h'
    ·simp [World.cell?, Array.getElem?_eq_none h', reqE] at k0
   ·have k0 := hcell j (by omega);rw [addN, addN] at k0;rw [k0]
  obtain ⟨f, hfo⟩ := @Deep.choose_lt ReqV ⟨⟨0, 0, 0, 0, 0, 0, 0, false, (0, 0), 0⟩⟩ len (fun i o => spot = none ∧ b < W.heap.size ∧ ∀ j, j < 11 → W.cell? ⟨b, off + i * 11 + j, none⟩ = (reqE o)[j]?) key;have hsz : len * 88 ≤ 140737488355328 := by
   have hd := hw ((len + (m - len)) * Tryz.prog.bytesOf 26) (by
    rw [hxe]
    simp [DataW.weights, Tryz.underlying22])
   rw [bytesR] at hd;have := reach_lt hd;omega
  refine ⟨(List.range len).map f, by simpa using hsz, some ⟨b, off, spot⟩, c, by simp, ⟨by simpa using hl, hm⟩, fun hp => ?_⟩;have hp' : 0 < len := by simpa using hp
  have hsp := hspot0 hp';subst hsp;refine ⟨b, off, rfl, (hfo 0 hp').2.1, fun j hj => ?_⟩;have hj' : j < len * 11 := by simpa using hj
  have hi : j / 11 < len := by omega
  have q0 := (hfo (j / 11) hi).2.2 (j % 11) (by omega);have g0 := celC_get reqEK ((List.range len).map f) (j / 11) (by simpa using hi) (j % 11) (by omega);simp only [List.getElem_map, List.getElem_range] at g0;have e : off + j = off + j / 11 * 11 + j % 11 := by omega
  rw [e, q0, ← g0, show j / 11 * 11 + j % 11 = j by omega]
set_option maxRecDepth 100000 in
theorem open_reqs {H : Type} {enc : TypeId × Value → H} {W : World} {b0 : Nat} {v : Value} {d : DataW H} {p : List MemPlace}
  (hv : Value.okWide Tryz.prog W .any b0 22 v) (h : DataW.Trod enc Tryz.prog W 0 (fun _ => true) true 22 v d p) (hw : Light 22 d) : ∃ l, Reqs W v l := by
 obtain ⟨fuel, hf⟩ := h;obtain ⟨va, len, c, rfl⟩ := okWide_slice Tryz.underlying22 hv;exact reqs_open (x := (d, p)) hf hw
theorem bnew_is (w : World) : Calls Tryz.prog 28 #[] w fun e w' => e = .returned (.agg #[.bool false, .int .i64 1, .slice none 0 0, .slice none 0 0, .slice none 0 0]) ∧ Below w.heap.size w w' := by
 have HB := hideIt (below1 w (.cells #[.bool false, .int .i64 1, .slice none 0 0, .slice none 0 0, .slice none 0 0] 59));have H2 := hideIt (heap_alloc_new w (.cells #[.bool false, .int .i64 1, .slice none 0 0, .slice none 0 0, .slice none 0 0] 59))
 go_enter Tryz.func28, Tryz.ntmps28
 go_wp2;exact bodyPost_ret (v := .agg #[.bool false, .int .i64 1, .slice none 0 0, .slice none 0 0, .slice none 0 0]) (by simp [results, Tryz.results28, go_sem, cell_at H2.out]) rfl ⟨rfl, HB.out⟩
def newL : LaneV := ⟨false, 1, [], [], []⟩
def newM : MdlV := ⟨List.replicate 8 Lg.zA, List.replicate 3 newL⟩
theorem new_may : mayM newM = true := by
 unfold mayM newM;simp only [List.length_replicate, decide_true, Bool.true_and, Bool.and_eq_true, List.all_eq_true, List.mem_replicate]
 exact ⟨fun x hx => by rw [hx.2]; kernel_rfl, fun x hx => by rw [hx.2]; kernel_rfl⟩
structure NX (w : World) (A : List AccX) (L : List LanX) (a : Option Addr) (c : Nat) (l : Option Addr) (d : Nat) (W : World) : Prop where
 r : W.heap[w.heap.size]? = some (.cells #[.slice none 0 0, .slice none 0 0] 30 (0, 0))
 m : W.heap[w.heap.size + 1]? = some (.cells #[.slice a A.length c, .slice l L.length d] 30 (0, 0))
 ac : AccsOwn w.heap.size W (.slice a A.length c) A
 ln : LnsOwn w.heap.size W (.slice l L.length d) L
 bel : Below w.heap.size w W
theorem NX.keep {w W W' : World} {A : List AccX} {L : List LanX} {a l : Option Addr} {c d : Nat} (h : NX w A L a c l d W) (hb : Below W.heap.size W W') : NX w A L a c l d W' :=
 ⟨blkK h.r hb, blkK h.m hb, h.ac.keep hb, h.ln.keep hb, below_via h.bel hb⟩
def zAX : AccX := ⟨Lg.zA, none, 0⟩
def zLX : LanX := ⟨newL, none, 0, none, 0, none, 0⟩
theorem zAX_own (B : Nat) (w : World) : AccOwn B w zAX := ⟨own_nil _ _, by simp [zAX, Lg.zA]⟩
theorem zLX_own (B : Nat) (w : World) : LanOwn B w zLX := ⟨own_nil _ _, own_nil _ _, own_nil _ _, by simp [zLX, newL], by simp [zLX, newL], by simp [zLX, newL]⟩
set_option maxRecDepth 100000 in
set_option maxHeartbeats 16000000 in
theorem mnew_is (w : World) : Calls Tryz.prog 15 #[] w (MdlBack newM w) := by
 obtain ⟨t1, t2, t3⟩ := two_heap w (.cells #[.slice none 0 0, .slice none 0 0] 30) (.cells #[.slice none 0 0, .slice none 0 0] 30);have N0 : Hid (NX w [] [] none 0 none 0 ((w.alloc (.cells #[.slice none 0 0, .slice none 0 0] 30)).alloc (.cells #[.slice none 0 0, .slice none 0 0] 30))) := ⟨t1, t2, AccsOwn.nil _ _, LnsOwn.nil _ _, below2 _ _ _⟩;clear t1 t2 t3
 go_enter Tryz.func15, Tryz.ntmps15
 go_upto_region 3 with fail
 generalize (w.alloc (.cells #[.slice none 0 0, .slice none 0 0] 30)).alloc (.cells #[.slice none 0 0, .slice none 0 0] 30) = W0 at *
 go_loopw [2] (fun v wr => ∃ (t : Nat) (A : List AccX) (a : Option Addr) (c : Nat), v = .int .i64 t ∧ t ≤ 8 ∧ Hid (A.map AccX.v = List.replicate t Lg.zA ∧ NX w A [] a c none 0 wr)) (fun v _ => 8 - (intOf v).toNat)
 case atStart => exact ⟨0, [], none, 0, rfl, by omega, hideIt ⟨rfl, N0.out⟩⟩
 case round =>
  clear N0;obtain ⟨t, A, a, c, rfl, ht, HR⟩ := hrel
  by_cases hlt : t < 8
  ·have hltI : (t : Int) < 8 := by omega
   have hal : A.length = t := by
    have := congrArg List.length HR.out.1
    simpa using this
   obtain ⟨⟨m0, m1⟩, mf, mz⟩ := at2 HR.out.2.m;have hb1 := below1 wr (.cells #[.slice none 0 0, .int .i64 0] 44);have NX1 := HR.out.2.keep hb1;obtain ⟨v', w', hrun, how, hgr⟩ := app1 (enc := accE) (t := 27) accK acc1 Tryz.underlying27 infoAcc rfl (by omega) (wr.alloc (.cells #[.slice none 0 0, .int .i64 0] 44)) w.heap.size (.slice a A.length c) A zAX wr.heap.size 1 NX1.bel.size NX1.ac.row (heap_alloc_new wr _) (by omega) (by unfold maxLen; omega)
   have hac := NX1.ac.app (zAX_own _ _) how hgr (by omega);have hln := NX1.ln.kept hgr NX1.ac.row (by decide) (by decide) (by decide);have hm := box_type hgr NX1.ac.row NX1.m (by decide);have hr := box_type hgr NX1.ac.row NX1.r (by decide);have hbw := grown_own hgr NX1.ac.row (Nat.le_refl _) NX1.bel;obtain ⟨a2, c2, rfl⟩ := own_len how;have hm2 := heap_set hm 0 (.slice a2 (A ++ [zAX]).length c2);have hne : w.heap.size ≠ w.heap.size + 1 := by omega
   have HN : Hid ((A ++ [zAX]).map AccX.v = List.replicate (t + 1) Lg.zA ∧ NX w (A ++ [zAX]) [] a2 c2 none 0 (w'.setCell ⟨w.heap.size + 1, 0, none⟩ (.slice a2 (A ++ [zAX]).length c2))) := by
    refine ⟨?_, setOther _ hr hne, hm2, hac.set hm (by decide) (by decide), hln.set hm (by decide) (by decide) (by decide), belowSet _ hbw (by omega)⟩;rw [List.map_append, HR.out.1, List.replicate_succ']
    rfl
   obtain ⟨⟨g0, g1⟩, gf, gz⟩ := at2 hm;have HRUN := hideIt hrun;clear hrun how hgr hac hln hm hr hbw hm2 NX1 hb1 HR hal hne;generalize A.length = n at *;generalize (A ++ [zAX]).length = n2 at *
   go_wp2_with (at_builtin; refine Lib.wpList_append_run _ rfl _ _ _ _ rfl _ _ rfl rfl _ _ HRUN.out ?_)
   clear HRUN;go_wp2
   go_roundw
   case rel => exact ⟨t + 1, A ++ [zAX], a2, c2, by go_num, by omega, HN⟩
   case measure => simp [intOf]; omega
  ·have hltI : ¬ (t : Int) < 8 := by omega
   obtain rfl : t = 8 := by omega
   have HA8 := hideIt HR.out.1;have HX := hideIt HR.out.2;clear HR ht
   go_upto_region 7 with fail
   clear hlt hltI
   go_loopw [11] (fun v wr => ∃ (t : Nat) (L : List LanX) (l : Option Addr) (d : Nat), v = .int .i64 t ∧ t ≤ 3 ∧ Hid (L.map LanX.v = List.replicate t newL ∧ NX w A L a c l d wr)) (fun v _ => 3 - (intOf v).toNat)
   case atStart => exact ⟨0, [], none, 0, rfl, by omega, hideIt ⟨rfl, HX.out⟩⟩
   case round =>
    clear HX;obtain ⟨t, L, l, d, rfl, ht, HR⟩ := hrel
    by_cases hlt : t < 3
    ·have hltI : (t : Int) < 3 := by omega
     have hal : L.length = t := by
      have := congrArg List.length HR.out.1
      simpa using this
     have HCY : Hid (∀ W, Below wr.heap.size wr W → Calls Tryz.prog 28 #[] W fun e w' => e = .returned (.agg #[.bool false, .int .i64 1, .slice none 0 0, .slice none 0 0, .slice none 0 0]) ∧ Hid (∃ v2 w2, (Builtin.append_ #[28, 28] 28 #[.slice l L.length d, .slice (some ⟨w'.heap.size, 0, none⟩) 1 1]).run Tryz.prog (w'.alloc (.cells #[.bool false, .int .i64 1, .slice none 0 0, .slice none 0 0, .slice none 0 0] 59)) = .ok v2 w2 ∧ (∃ l2 d2, v2 = .slice l2 (L ++ [zLX]).length d2 ∧ (w2.heap[w.heap.size + 1]? = some (.cells #[.slice a A.length c, .slice l L.length d] 30 (0, 0))) ∧ NX w A (L ++ [zLX]) a c l2 d2 (w2.setCell ⟨w.heap.size + 1, 1, none⟩ v2))) ∧ (w'.cell? ⟨w.heap.size + 1, 1, none⟩ = some (.slice l L.length d) ∧ w.heap.size + 1 < w'.heap.size)) := by
      intro W hW;refine (bnew_is W).mono ?_;rintro e w' ⟨rfl, hb⟩;have N1 := HR.out.2.keep (below_via hW hb);have hb1 := below1 w' (.cells #[.bool false, .int .i64 1, .slice none 0 0, .slice none 0 0, .slice none 0 0] 59);have NX1 := N1.keep hb1;obtain ⟨⟨-, m1⟩, -, mz⟩ := at2 N1.m;obtain ⟨v', w2, hrun, how, hgr⟩ := app1 (enc := lanE) (t := 28) lanK lan1 Tryz.underlying28 infoLan rfl (by omega) (w'.alloc (.cells #[.bool false, .int .i64 1, .slice none 0 0, .slice none 0 0, .slice none 0 0] 59)) w.heap.size (.slice l L.length d) L zLX w'.heap.size 1 NX1.bel.size NX1.ln.row (heap_alloc_new w' _) (by omega) (by unfold maxLen; omega)
      have hln := NX1.ln.app (zLX_own _ _) how hgr (by omega);have hac := NX1.ac.kept hgr NX1.ln.row (by decide) (by decide);have hm := box_type hgr NX1.ln.row NX1.m (by decide);have hr := box_type hgr NX1.ln.row NX1.r (by decide);have hbw := grown_own hgr NX1.ln.row (Nat.le_refl _) NX1.bel;obtain ⟨l2, d2, rfl⟩ := own_len how;have hm2 := heap_set hm 1 (.slice l2 (L ++ [zLX]).length d2);have hne : w.heap.size ≠ w.heap.size + 1 := by omega
      exact ⟨rfl, hideIt ⟨_, w2, hrun, l2, d2, rfl, hm, setOther _ hr hne, hm2, hac.set hm (by decide) (by decide), hln.set hm (by decide) (by decide) (by decide), belowSet _ hbw (by omega)⟩, m1, mz⟩
     have HN0 : Hid ((L ++ [zLX]).map LanX.v = List.replicate (t + 1) newL) := by
      show _ = _
      rw [List.map_append, HR.out.1, List.replicate_succ']
      rfl
     obtain ⟨⟨m0, m1⟩, mf, mz⟩ := at2 HR.out.2.m;have HLEN := hideIt hal;clear HR hal
     go_upto_region 8 with fail
     refine wp_region_held_drew (S := fun _ => True) (by rfl) trivial (fun hHeld => ?_);refine wpAnyH_take (i := 0) (oi := ⟨some 13, _, _, _, _, _⟩) (v := ?_) rfl (by kernel_rfl) (by kernel_rfl) (by kernel_rfl) (fun _ _ _ h => h) (Or.inl ⟨by rfl, ?_⟩) (by assumption) ?_
     rotate_left
     ·intro w5 hSw
      (try dsimp only at hSw)
      go_simp
      (try with_reducible rfl)
     try simp only [Act.put, List.setIfInBounds_toArray, List.set_cons_zero, List.set_cons_succ]
     refine wpAnyH_ready (rs := [1, 2]) (by kernel_rfl) (by simp) ?_;refine AllReadyH.cons (o := ⟨some 14, _, _, _, _, _⟩) rfl (fun Kx hK => ?_) (AllReadyH.cons (o := ⟨some 15, _, _, _, _, _⟩) rfl (fun Kx hK => ?_) AllReadyH.nil)
     ·go_simp;refine hK.out _ _ trivial (fun hHeld => ?_);clear hK Kx
      try simp only [Act.put, List.setIfInBounds_toArray, List.set_cons_zero, List.set_cons_succ]
      refine wpAnyH_ready (rs := [2]) (by kernel_rfl) (by simp) ?_;refine AllReadyH.cons (o := ⟨some 15, _, _, _, _, _⟩) rfl (fun Kx hK => ?_) AllReadyH.nil;go_simp
      go_at_call 28
      refine (HCY.out _ (by first | exact (Below.refl _ _).drew | exact Below.refl _ _)).mono ?_;rintro e w5 ⟨rfl, HQ, k1, kz⟩;obtain ⟨v2, w2, hrun, l2, d2, rfl, hm, HNX⟩ := HQ.out;refine hK.out _ _ trivial (fun hHeld => ?_);clear hK Kx
      try simp only [Act.put, List.setIfInBounds_toArray, List.set_cons_zero, List.set_cons_succ]
      refine wpAnyH_ready (rs := [3]) (by kernel_rfl) (by simp) ?_;refine AllReadyH.cons (o := ⟨some 16, _, _, _, _, _⟩) rfl (fun Kx hK => ?_) AllReadyH.nil;go_simp;refine hK.out _ _ trivial (fun hHeld => ?_);clear hK Kx
      try simp only [Act.put, List.setIfInBounds_toArray, List.set_cons_zero, List.set_cons_succ]
      refine wpAnyH_ready (rs := [4]) (by kernel_rfl) (by simp) ?_;refine AllReadyH.cons (o := ⟨some 17, _, _, _, _, _⟩) rfl (fun Kx hK => ?_) AllReadyH.nil;refine step_app_runK rfl _ _ 28 28 rfl _ _ rfl rfl hrun ?_;refine hK.out _ _ trivial (fun hHeld => ?_);clear hK Kx
      try simp only [Act.put, List.setIfInBounds_toArray, List.set_cons_zero, List.set_cons_succ]
      refine wpAnyH_take (i := 5) (oi := ⟨some 18, _, _, _, _, _⟩) (v := ?_) rfl (by kernel_rfl) (by kernel_rfl) (by kernel_rfl) (fun _ _ _ h => h) (Or.inl ⟨by rfl, ?_⟩) (by assumption) ?_
      rotate_left
      ·intro w5 hSw
       (try dsimp only at hSw)
       go_simp
       (try with_reducible rfl)
      try simp only [Act.put, List.setIfInBounds_toArray, List.set_cons_zero, List.set_cons_succ]
      refine wpAnyH_ready (rs := [6]) (by kernel_rfl) (by simp) ?_;refine AllReadyH.cons (o := ⟨none, _, _, _, _, _⟩) rfl (fun Kx hK => ?_) AllReadyH.nil;obtain ⟨⟨-, s1⟩, sf, sz⟩ := at2 hm;go_simp;refine hK.out _ _ trivial (fun hHeld => ?_);clear hK Kx
      try simp only [Act.put, List.setIfInBounds_toArray, List.set_cons_zero, List.set_cons_succ]
      refine wpAnyH_done (by kernel_rfl) ?_ _;clear HQ hrun hm s1 sf sz k1 kz HCY m0 m1 mf mz hHeld;go_wp2
      go_roundw
      case rel => exact ⟨t + 1, L ++ [zLX], l2, d2, by go_num, by omega, hideIt ⟨HN0.out, by rw [List.length_append] at HNX; exact HNX⟩⟩
      case measure => simp [intOf]; omega
     ·go_simp
      go_at_call 28
      refine (HCY.out _ (by first | exact (Below.refl _ _).drew | exact Below.refl _ _)).mono ?_;rintro e w5 ⟨rfl, HQ, k1, kz⟩;obtain ⟨v2, w2, hrun, l2, d2, rfl, hm, HNX⟩ := HQ.out;refine hK.out _ _ trivial (fun hHeld => ?_);clear hK Kx
      try simp only [Act.put, List.setIfInBounds_toArray, List.set_cons_zero, List.set_cons_succ]
      refine wpAnyH_ready (rs := [1, 3]) (by kernel_rfl) (by simp) ?_;refine AllReadyH.cons (o := ⟨some 14, _, _, _, _, _⟩) rfl (fun Kx hK => ?_) (AllReadyH.cons (o := ⟨some 16, _, _, _, _, _⟩) rfl (fun Kx hK => ?_) AllReadyH.nil)
      ·go_simp;refine hK.out _ _ trivial (fun hHeld => ?_);clear hK Kx
       try simp only [Act.put, List.setIfInBounds_toArray, List.set_cons_zero, List.set_cons_succ]
       refine wpAnyH_ready (rs := [3]) (by kernel_rfl) (by simp) ?_;refine AllReadyH.cons (o := ⟨some 16, _, _, _, _, _⟩) rfl (fun Kx hK => ?_) AllReadyH.nil;go_simp;refine hK.out _ _ trivial (fun hHeld => ?_);clear hK Kx
       try simp only [Act.put, List.setIfInBounds_toArray, List.set_cons_zero, List.set_cons_succ]
       refine wpAnyH_ready (rs := [4]) (by kernel_rfl) (by simp) ?_;refine AllReadyH.cons (o := ⟨some 17, _, _, _, _, _⟩) rfl (fun Kx hK => ?_) AllReadyH.nil;refine step_app_runK rfl _ _ 28 28 rfl _ _ rfl rfl hrun ?_;refine hK.out _ _ trivial (fun hHeld => ?_);clear hK Kx
       try simp only [Act.put, List.setIfInBounds_toArray, List.set_cons_zero, List.set_cons_succ]
       refine wpAnyH_take (i := 5) (oi := ⟨some 18, _, _, _, _, _⟩) (v := ?_) rfl (by kernel_rfl) (by kernel_rfl) (by kernel_rfl) (fun _ _ _ h => h) (Or.inl ⟨by rfl, ?_⟩) (by assumption) ?_
       rotate_left
       ·intro w5 hSw
        (try dsimp only at hSw)
        go_simp
        (try with_reducible rfl)
       try simp only [Act.put, List.setIfInBounds_toArray, List.set_cons_zero, List.set_cons_succ]
       refine wpAnyH_ready (rs := [6]) (by kernel_rfl) (by simp) ?_;refine AllReadyH.cons (o := ⟨none, _, _, _, _, _⟩) rfl (fun Kx hK => ?_) AllReadyH.nil;obtain ⟨⟨-, s1⟩, sf, sz⟩ := at2 hm;go_simp;refine hK.out _ _ trivial (fun hHeld => ?_);clear hK Kx
       try simp only [Act.put, List.setIfInBounds_toArray, List.set_cons_zero, List.set_cons_succ]
       refine wpAnyH_done (by kernel_rfl) ?_ _;clear HQ hrun hm s1 sf sz k1 kz HCY m0 m1 mf mz hHeld;go_wp2
       go_roundw
       case rel => exact ⟨t + 1, L ++ [zLX], l2, d2, by go_num, by omega, hideIt ⟨HN0.out, by rw [List.length_append] at HNX; exact HNX⟩⟩
       case measure => simp [intOf]; omega
      ·go_simp;refine hK.out _ _ trivial (fun hHeld => ?_);clear hK Kx
       try simp only [Act.put, List.setIfInBounds_toArray, List.set_cons_zero, List.set_cons_succ]
       refine wpAnyH_ready (rs := [1]) (by kernel_rfl) (by simp) ?_;refine AllReadyH.cons (o := ⟨some 14, _, _, _, _, _⟩) rfl (fun Kx hK => ?_) AllReadyH.nil;go_simp;refine hK.out _ _ trivial (fun hHeld => ?_);clear hK Kx
       try simp only [Act.put, List.setIfInBounds_toArray, List.set_cons_zero, List.set_cons_succ]
       refine wpAnyH_ready (rs := [4]) (by kernel_rfl) (by simp) ?_;refine AllReadyH.cons (o := ⟨some 17, _, _, _, _, _⟩) rfl (fun Kx hK => ?_) AllReadyH.nil;refine step_app_runK rfl _ _ 28 28 rfl _ _ rfl rfl hrun ?_;refine hK.out _ _ trivial (fun hHeld => ?_);clear hK Kx
       try simp only [Act.put, List.setIfInBounds_toArray, List.set_cons_zero, List.set_cons_succ]
       refine wpAnyH_take (i := 5) (oi := ⟨some 18, _, _, _, _, _⟩) (v := ?_) rfl (by kernel_rfl) (by kernel_rfl) (by kernel_rfl) (fun _ _ _ h => h) (Or.inl ⟨by rfl, ?_⟩) (by assumption) ?_
       rotate_left
       ·intro w5 hSw
        (try dsimp only at hSw)
        go_simp
        (try with_reducible rfl)
       try simp only [Act.put, List.setIfInBounds_toArray, List.set_cons_zero, List.set_cons_succ]
       refine wpAnyH_ready (rs := [6]) (by kernel_rfl) (by simp) ?_;refine AllReadyH.cons (o := ⟨none, _, _, _, _, _⟩) rfl (fun Kx hK => ?_) AllReadyH.nil;obtain ⟨⟨-, s1⟩, sf, sz⟩ := at2 hm;go_simp;refine hK.out _ _ trivial (fun hHeld => ?_);clear hK Kx
       try simp only [Act.put, List.setIfInBounds_toArray, List.set_cons_zero, List.set_cons_succ]
       refine wpAnyH_done (by kernel_rfl) ?_ _;clear HQ hrun hm s1 sf sz k1 kz HCY m0 m1 mf mz hHeld;go_wp2
       go_roundw
       case rel => exact ⟨t + 1, L ++ [zLX], l2, d2, by go_num, by omega, hideIt ⟨HN0.out, by rw [List.length_append] at HNX; exact HNX⟩⟩
       case measure => simp [intOf]; omega
    ·have hltI : ¬ (t : Int) < 3 := by omega
     obtain rfl : t = 3 := by omega
     have HXX := hideIt HR.out.2;have HL3 := hideIt HR.out.1;clear HR;obtain ⟨⟨m0, m1⟩, mf, mz⟩ := at2 HXX.out.m;obtain ⟨⟨e0, e1⟩, ef, ez⟩ := at2 HXX.out.r;obtain ⟨hzz, hoo⟩ := puts2 wr w.heap.size 30 (.slice a A.length c) (.slice l L.length d) HXX.out.r;have g1 := heap_set HXX.out.r 0 (.slice a A.length c);have hA : A.length = newM.a.length := by
      have := congrArg List.length HA8.out
      simpa [newM] using this
     have hL : L.length = newM.l.length := by
      have := congrArg List.length HL3.out
      simpa [newM] using this
     have HFIN : Hid (MdlBack newM w (.returned (.agg #[.slice a A.length c, .slice l L.length d])) ((wr.setCell ⟨w.heap.size, 0, none⟩ (.slice a A.length c)).setCell ⟨w.heap.size, 1, none⟩ (.slice l L.length d))) := by
      refine ⟨a, c, l, d, by rw [hA, hL], ⟨⟨A, HA8.out, ?_⟩, L, HL3.out, ?_⟩, belowSet _ (belowSet _ HXX.out.bel (Nat.le_refl _)) (Nat.le_refl _)⟩
      ·rw [← hA];exact (HXX.out.ac.set HXX.out.r (by decide) (by decide)).set g1 (by decide) (by decide)
      ·rw [← hL];exact (HXX.out.ln.set HXX.out.r (by decide) (by decide) (by decide)).set g1 (by decide) (by decide) (by decide)
     have HZZ := hideIt hzz;clear hzz hoo g1 hA hL HXX HL3 HA8;go_wp2;exact bodyPost_ret (v := .agg #[.slice a A.length c, .slice l L.length d]) (by simp [results, Tryz.results15, go_sem, cell_at HZZ.out]) rfl HFIN.out
def plyM (R : List ReqV) : MdlV := R.foldl (fun M r => (doM M r).1) newM
theorem ply_step (R : List ReqV) (t : Nat) (h : t < R.length) : plyM (R.take (t + 1)) = (doM (plyM (R.take t)) R[t]).1 := by
 unfold plyM;rw [List.take_add_one, List.getElem?_eq_getElem h, Option.toList_some, List.foldl_append]
 rfl
structure MB (B K : Nat) (M : MdlV) (a : Option Addr) (c : Nat) (b : Option Addr) (d : Nat) (W : World) : Prop where
 box : W.heap[K]? = some (.cells #[.slice a M.a.length c, .slice b M.l.length d] 30 (0, 0))
 md : MdlOwn B W (.slice a M.a.length c) (.slice b M.l.length d) M
theorem MB.keep {B K : Nat} {M : MdlV} {a : Option Addr} {c : Nat} {b : Option Addr} {d : Nat} {W W' : World} (h : MB B K M a c b d W) (hb : Below W.heap.size W W') : MB B K M a c b d W' := ⟨blkK h.box hb, h.md.keep hb⟩
def CtB (c : Int) (l : List AccV) : Prop := ∀ A ∈ l, A.ct ≤ c
theorem CtB.mono {c d : Int} {l : List AccV} (h : CtB c l) (hc : c ≤ d) : CtB d l := fun A hA => Int.le_trans (h A hA) hc
theorem CtB.set {c : Int} {l : List AccV} (h : CtB c l) {A : AccV} (hA : A.ct ≤ c) (i : Nat) : CtB c (l.set i A) := by
 intro x hx
 rcases List.mem_or_eq_of_mem_set hx with hx | rfl
 ·exact h x hx
 ·exact hA
theorem CtB.at_ {c : Int} {S : StV} (h : CtB c S.a) (hc : 0 ≤ c) (i : Nat) : (accD S i).ct ≤ c := by
 unfold accD;rw [List.getD_eq_getElem?_getD]
 rcases Nat.lt_or_ge i S.a.length with hi | hi
 ·rw [List.getElem?_eq_getElem hi];exact h _ (List.getElem_mem hi)
 ·rw [List.getElem?_eq_none hi];exact hc
theorem cred_ct {A : AccV} {a n c : Int} (hc : 0 ≤ c) (h : A.ct ≤ c) : (Lg.credL A a n).1.ct ≤ c + 1 := by
 by_cases h2 : (Lg.credL A a n).2 = 0
 ·rw [(Lg.cred_ok h2).2.2.2]
  show A.ct + 1 ≤ c + 1
  omega
 ·rw [Lg.cred_zero h2]
  show (0 : Int) ≤ c + 1
  omega
theorem deb_ct {A : AccV} {a n c : Int} (hc : 0 ≤ c) (h : A.ct ≤ c) : (Lg.debL A a n).1.ct ≤ c + 1 := by
 by_cases h2 : (Lg.debL A a n).2 = 0
 ·rw [(Lg.deb_ok h2).2.2.2]
  show A.ct + 1 ≤ c + 1
  omega
 ·rw [Lg.deb_zero h2]
  show (0 : Int) ≤ c + 1
  omega
theorem payF_ct : ∀ (l : List AmtV) (A : AccV) (c : Int), 0 ≤ c → A.ct ≤ c → (payF l A).1.ct ≤ c + l.length
 | [], A, c, _, h => by
  unfold payF
  simpa using h
 | e :: l, A, c, hc, h => by
  unfold payF;have h1 := cred_ct (a := e.k) (n := e.n) hc h
  split
  ·have := payF_ct l _ (c + 1) (by omega) h1;rw [List.length_cons];omega
  ·show A.ct ≤ _
   rw [List.length_cons];omega
theorem stAcc_ct {r : ReqV} {i : Nat} {S : StV} {c : Int} (hc : 0 ≤ c) (h : CtB c S.a) : CtB (c + 4) (stAcc r i S).1.a := by
 have ha := h.at_ hc i;have hm := h.mono (d := c + 4) (by omega);unfold stAcc
 by_cases h1 : r.kind = 1
 ·rw [if_pos h1];exact hm.set (by have := cred_ct (a := r.asset) (n := r.n) hc ha; omega) i
 ·rw [if_neg h1]
  by_cases h3 : r.kind = 3
  ·rw [if_pos h3];exact hm.set (by have := deb_ct (a := brA_ r) (n := brN_ r) hc ha; omega) i
  ·rw [if_neg h3]
   by_cases h2 : r.kind = 2
   ·rw [if_pos h2];exact hm.set (by have := deb_ct (a := r.asset) (n := r.n) hc ha; omega) i
   ·rw [if_neg h2]
    by_cases h7 : r.kind = 7
    ·rw [if_pos h7]
     split
     ·exact hm
     ·exact hm.set (by
       have := payF_ct (Lg.pre S.s 4) _ c hc ha;have hl := Lg.pre_len S.s 4
       omega) i
    ·rw [if_neg h7]
     split <;> exact hm
theorem stAt_ct {r : ReqV} {k : Int × Int} {S : StV} {c : Int} (hc : 0 ≤ c) (h : CtB c S.a) : CtB (c + 4) (stAt r k S).1.a := by
 unfold stAt
 split
 ·exact h.mono (by omega)
 ·split
  ·exact stAcc_ct hc h
  ·rw [stLan_a];exact h.mono (by omega)
theorem runT_ct {r : ReqV} : ∀ (ks : List (Int × Int)) (S : StV) (c : Int), 0 ≤ c → CtB c S.a → CtB (c + 4 * ks.length) (runT r ks S).1.a
 | [], S, c, _, h => by
  unfold runT;exact h.mono (by simp)
 | k :: ks, S, c, hc, h => by
  unfold runT;have h1 := stAt_ct (r := r) (k := k) hc h
  split
  ·have := runT_ct (r := r) ks _ (c + 4) (by omega) h1;exact this.mono (by rw [List.length_cons]; omega)
  ·exact h1.mono (by rw [List.length_cons]; omega)
theorem doM_ct {M : MdlV} {r : ReqV} {c : Int} (hc : 0 ≤ c) (h : CtB c M.a) : CtB (c + 16) (doM M r).1.a := by
 have hl := tur_len r;unfold doM
 split
 ·split
  ·have := runT_ct (r := r) (turL r) (st0 M) c hc h;exact this.mono (by omega)
  ·exact h.mono (by omega)
 ·exact h.mono (by omega)
theorem do_acc {M : MdlV} {r : ReqV} (hm : mayM M = true) (hf : Se.fitsB r = true) (hk : r.kind = 1 ∨ r.kind = 2) : doM M r = if (stAcc r (r.acct - 1).toNat (st0 M)).2 = 0 then (⟨(stAcc r (r.acct - 1).toNat (st0 M)).1.a, M.l⟩, ⟨0, 0, [], []⟩) else (M, ⟨6, 0, [], []⟩) := by
 have hkeys : turL r = [((1 : Int), r.acct)] := by
  unfold turL;rw [if_neg (by omega)];unfold Se.keysB;rw [if_pos hf]
  rcases hk with e | e <;> rw [e] <;> rfl
 have hst : stAt r (1, r.acct) (st0 M) = stAcc r (r.acct - 1).toNat (st0 M) := by
  unfold stAt;rw [if_neg (by omega), if_pos rfl]
 have hl : (stAcc r (r.acct - 1).toNat (st0 M)).1 = {st0 M with a := (stAcc r (r.acct - 1).toNat (st0 M)).1.a} := by
  unfold stAcc
  rcases hk with e | e
  ·simp only [e, if_true]
  ·rw [if_neg (by omega), if_neg (by omega), if_pos e]
 unfold doM;rw [hm, hf, hkeys];simp only [Bool.and_self, if_true, runT, hst]
 by_cases h0 : (stAcc r (r.acct - 1).toNat (st0 M)).2 = 0
 ·rw [if_pos h0, if_pos h0];simp only [if_true];rw [hl]
  rfl
 ·rw [if_neg h0, if_neg h0, if_neg h0]
end Go.Proofs.YtiinigifjdpicaaGreatDoor
