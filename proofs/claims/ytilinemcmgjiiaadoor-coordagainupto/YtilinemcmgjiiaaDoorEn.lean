/- Ended: walked. -/
import Derived.Test.YtilinemcmgjiiaaDoorDe
import Derived.WalkMore
import Derived.Deep.LoopGhost
namespace Go.Proofs.YtilinemcmgjiiaaDoor
open Go.RowKit
set_option linter.all false
def endI : List TraV → Nat → Option Nat
  | [], _ => none
  | t :: l, i => if t.ps.all (fun p => p.ac) = true then some i else endI l (i + 1)
theorem endI_at {l : List TraX} {t : Nat} (h : t < l.length) : endI ((l.map TraX.v).drop t) t = if l[t].ps.all (fun p => p.ac) = true then some t else endI ((l.map TraX.v).drop (t + 1)) (t + 1) := by
  have h2 : t < (l.map TraX.v).length := by simpa using h
  rw [List.drop_eq_getElem_cons h2, List.getElem_map]
  rfl
def endL (l : List TraV) : List TraV := match endI l 0 with | some i => l.take i ++ l.drop (i + 1) | none => l
def EnBack (g : Int) (l : List TraV) (w : World) (e : Ending) (w' : World) : Prop := ∃ a c ys y, e = .returned (.tuple #[.agg #[.int .i64 g, .slice a (endL l).length c], .agg (traE y).toArray, .bool (endI l 0).isSome]) ∧ ys.map TraX.v = endL l ∧ TrsOwn w.heap.size w' (.slice a (endL l).length c) ys ∧ (∀ i, endI l 0 = some i → l[i]? = some y.v) ∧ Below w.heap.size w w'
theorem all_at {l : List PeeV} {t : Nat} (h : t < l.length) : (l.drop t).all (fun p => p.ac) = (l[t].ac && (l.drop (t + 1)).all (fun p => p.ac)) := by
  rw [List.drop_eq_getElem_cons h, List.all_cons]
def zTra : TraX := ⟨0, 0, ⟨0, 0, 0, 0, 0, 0, 0, false, ⟨0, 0⟩, 0⟩, [], none, 0, 0, [], none, 0, [], none, 0, zAnsX⟩
theorem out_row (w : World) (g : Nat) (R : Array Value) : Out (fun k => k = g) w (w.setRow g R) := ⟨rfl, rfl, rfl, by simp [World.setRow], fun k _ hk => setRow_other _ g k _ hk⟩
theorem results_cct {P : Program} {fn : Func} {k1 k2 k3 : Nat} {t1 t2 : TypeId} (hf : fn.results = #[.cell k1 t1, .cell k2 t2, .tmp k3]) {tmps : Array Value} {g1 g2 : Nat} {v3 : Value} (h1 : tmps.getD k1 undef = .pointer (some ⟨g1, 0, none⟩)) (h2 : tmps.getD k2 undef = .pointer (some ⟨g2, 0, none⟩)) (h3 : tmps.getD k3 undef = v3) {w : World} {cs1 cs2 : Array Value} {s1 s2 : TypeId} (hg1 : w.heap[g1]? = some (.cells cs1 s1 (0, 0))) (hg2 : w.heap[g2]? = some (.cells cs2 s2 (0, 0))) {d1 d2 : TypeDesc} (hu1 : P.underlying t1 = some d1) (hd1 : (match d1 with | .struct _ | .array _ _ => true | _ => false) = true) (hi1 : (P.info? t1).map (·.size) = some cs1.size) (hu2 : P.underlying t2 = some d2) (hd2 : (match d2 with | .struct _ | .array _ _ => true | _ => false) = true) (hi2 : (P.info? t2).map (·.size) = some cs2.size) : (results fn tmps).run P w = .ok (.tuple #[.agg cs1, .agg cs2, v3]) w := by
  have a := run_loadVar_row (P := P) w g1 s1 t1 cs1 (0, 0) d1 hg1 hu1 hd1 hi1
  have b := run_loadVar_row (P := P) w g2 s2 t2 cs2 (0, 0) d2 hg2 hu2 hd2 hi2
  unfold results
  rw [hf]
  rw [Array.getD_eq_getD_getElem?] at h1 h2 h3
  simp [h1, h2, h3, a, b, asAddr]
theorem step_store_rowK {ops : Array Oper} {o : Oper} {a : Act} {w : World} {K : Act → World → Prop} {Q : Exit → Act → World → Prop} {E : Prop} (hg : o.guard = none) (ty : TypeId) (x y : Operand) (hop : o.op = .store ty x y)
    (g : Nat) (cells : Array Value) (hx : a.eval x = .pointer (some ⟨g, 0, none⟩)) (hy : a.eval y = .agg cells) (t : TypeId) (old : Array Value) (hgb : w.heap[g]? = some (.cells old t (0, 0))) (hi : (Tryd.prog.info? ty).map (·.size) = some cells.size) (hold : old.size = cells.size) (h1 : cells.all (·.oneCell') = true)
    (hK : K (a.put o.dst undef) (w.setRow g cells)) : if Region.wanted o (yielded ops a.tmps) = true then Oper.wp Tryd.prog o a w K Q else E := by
  have hw : Region.wanted o (yielded ops a.tmps) = true := by simp [Region.wanted, hg]
  rw [if_pos hw]
  exact wp_store_row ty x y hop g cells hx hy t old hgb hi hold h1 hK
theorem TrsOwn.drop {B : Nat} {w w' : World} {v v' : Value} {ys : List TraX} (h : TrsOwn B w v ys) (i : Nat) (how : w'.ownsRow B 52 21 v' (ys.take i ++ ys.drop (i + 1)).length (celC traE (ys.take i ++ ys.drop (i + 1)))) (hgr : w.grownBy w' v.ownBlock) : TrsOwn B w' v' (ys.take i ++ ys.drop (i + 1)) := by
  have hsub : (ys.take i ++ ys.drop (i + 1)).Sublist ys := by
    have h1 : (ys.take i ++ ys.drop (i + 1)).Sublist (ys.take i ++ ys.drop i) := (List.Sublist.refl _).append (by rw [show ys.drop (i + 1) = (ys.drop i).drop 1 by rw [List.drop_drop]]; exact List.drop_sublist ..)
    rwa [List.take_append_drop] at h1
  exact ⟨how, fun t ht => (h.own t (hsub.subset ht)).kept hgr h.row, h.dj.sublist hsub, Nat.le_trans (Nat.mul_le_mul_right _ hsub.length_le) h.siz⟩
set_option maxHeartbeats 16000000 in
set_option maxRecDepth 100000 in
theorem ended_is (g : Int) (a : Option Addr) (cp : Nat) (l : List TraX) (w : World) (h : Trs w (.slice a l.length cp) l) : Calls Tryd.prog 18 #[.agg #[.int .i64 g, .slice a l.length cp]] w (EnBack g (l.map TraX.v) w) := by
  have HCo := hideIt (fun W (hW : Below w.heap.size w W) => coordF_is g a cp l W (h.keep hW))
  obtain ⟨t1, t2, t3, -⟩ := three_heap w (.cells #[.int .i64 g, .slice a l.length cp] 25) (.cells #[.int .i64 0, .slice none 0 0] 25) (.cells #[.int .i64 0, .int .i64 0, .int .i64 0, .int .i64 0, .int .i64 0, .int .i64 0, .int .i64 0, .int .i64 0, .int .i64 0, .bool false, .int .i64 0, .int .i64 0, .int .i64 0, .slice none 0 0, .int .i64 0, .slice none 0 0, .slice none 0 0, .int .i64 0, .int .i64 0, .slice none 0 0, .slice none 0 0] 52)
  have X1 := hideIt t1
  have X2 := hideIt t2
  have X3 : Hid ((((w.alloc (.cells #[.int .i64 g, .slice a l.length cp] 25)).alloc (.cells #[.int .i64 0, .slice none 0 0] 25)).alloc (.cells #[.int .i64 0, .int .i64 0, .int .i64 0, .int .i64 0, .int .i64 0, .int .i64 0, .int .i64 0, .int .i64 0, .int .i64 0, .bool false, .int .i64 0, .int .i64 0, .int .i64 0, .slice none 0 0, .int .i64 0, .slice none 0 0, .slice none 0 0, .int .i64 0, .int .i64 0, .slice none 0 0, .slice none 0 0] 52)).heap[w.heap.size + 1 + 1]? = some (.cells #[.int .i64 0, .int .i64 0, .int .i64 0, .int .i64 0, .int .i64 0, .int .i64 0, .int .i64 0, .int .i64 0, .int .i64 0, .bool false, .int .i64 0, .int .i64 0, .int .i64 0, .slice none 0 0, .int .i64 0, .slice none 0 0, .slice none 0 0, .int .i64 0, .int .i64 0, .slice none 0 0, .slice none 0 0] 52)) := t3
  have BW := hideIt (below3 w (.cells #[.int .i64 g, .slice a l.length cp] 25) (.cells #[.int .i64 0, .slice none 0 0] 25) (.cells #[.int .i64 0, .int .i64 0, .int .i64 0, .int .i64 0, .int .i64 0, .int .i64 0, .int .i64 0, .int .i64 0, .int .i64 0, .bool false, .int .i64 0, .int .i64 0, .int .i64 0, .slice none 0 0, .int .i64 0, .slice none 0 0, .slice none 0 0, .int .i64 0, .int .i64 0, .slice none 0 0, .slice none 0 0] 52))
  clear t1 t2 t3 h
  go_enter Tryd.func18, Tryd.ntmps18
  go_upto_region 1 with fail
  generalize ((w.alloc (.cells #[.int .i64 g, .slice a l.length cp] 25)).alloc (.cells #[.int .i64 0, .slice none 0 0] 25)).alloc (.cells #[.int .i64 0, .int .i64 0, .int .i64 0, .int .i64 0, .int .i64 0, .int .i64 0, .int .i64 0, .int .i64 0, .int .i64 0, .bool false, .int .i64 0, .int .i64 0, .int .i64 0, .slice none 0 0, .int .i64 0, .slice none 0 0, .slice none 0 0, .int .i64 0, .int .i64 0, .slice none 0 0, .slice none 0 0] 52) = W0 at *
  obtain ⟨⟨c0, c1⟩, cf, cz⟩ := at2 X1.out
  go_wp2_with fail
  go_step3
  go_wp2_with fail
  refine (HCo.out _ BW.out).mono ?_
  rintro e w4 ⟨a', c', ys, rfl, hy, ho, hb⟩
  dsimp only
  clear c0 c1 cf cz X1
  have hyl : ys.length = l.length := by have := congrArg List.length hy; simpa using this
  have hb9 := below1 w4 (.cells #[.int .i64 g, .slice a' l.length c'] 25)
  have hbb := below_via hb hb9
  have X5 := hideIt (heap_alloc_new w4 (.cells #[.int .i64 g, .slice a' l.length c'] 25))
  have HO := hideIt (ho.keep hb9)
  have X2' := hideIt (blkK X2.out hbb)
  have X3' := hideIt (blkK X3.out hbb)
  have hz3 := (Array.getElem?_eq_some_iff.1 X3.out).1
  have BW' := hideIt (below_via BW.out hbb)
  have HY := hideIt hy
  have hbs := hb.size
  clear hy ho hb9 hbb HCo X2 X3 BW
  generalize hD : W0.heap.size = D at *
  go_upto_region 2 with fail
  generalize hN : w4.heap.size = nx at *
  generalize w4.alloc (.cells #[.int .i64 g, .slice a' l.length c'] 25) = W5 at *
  clear hb
  obtain ⟨⟨n0, n1⟩, nf, nz⟩ := at2 X5.out
  have HST : Hid (∀ t (ht : t < ys.length), endI ((ys.map TraX.v).drop t) t = if ys[t].ps.all (fun p => p.ac) = true then some t else endI ((ys.map TraX.v).drop (t + 1)) (t + 1)) := fun t ht => endI_at ht
  have HE0 : Hid (endI ((ys.map TraX.v).drop l.length) l.length = none) := by show _ = _; rw [List.drop_of_length_le (by rw [List.length_map]; omega)]; rfl
  obtain ⟨E, hE⟩ : ∃ E, E = endI (l.map TraX.v) 0 := ⟨_, rfl⟩
  have H0 : Hid (endI ((ys.map TraX.v).drop 0) 0 = E) := by show _ = _; rw [List.drop_zero, HY.out, hE]
  have HEE := hideIt hE
  clear hE
  have HTR := hideIt HO.out.at_
  obtain ⟨a2, c2, e2, h8, hr⟩ := HO.out.at_.cells
  rw [hyl] at e2
  simp only [Value.slice.injEq, true_and] at e2
  obtain ⟨rfl, rfl⟩ := e2
  have HH := hideIt hr
  have HPS := hideIt (fun (t : Nat) (ht : t < ys.length) => (HTR.out.at_ ys[t] (List.getElem_mem ht)).p)
  clear hr HTR
  have hnx5 := nz
  go_step3
  go_wp2
  clear n0 n1 nf nz
  go_loopg [15] l.length (fun gg s15 wx => ∃ t : Nat, t + gg = l.length ∧ s15 = .int .i64 t ∧ Hid (endI ((ys.map TraX.v).drop t) t = E ∧ Below W5.heap.size W5 wx))
  case atStart => exact ⟨0, by omega, rfl, ⟨H0.out, Below.refl _ _⟩⟩
  case round =>
    obtain ⟨t, htg, rfl, HR⟩ := hrel
    cases gk with
    | zero =>
      have hltI : ¬ (t : Int) < (l.length : Int) := by omega
      have het : t = l.length := by omega
      subst het
      have HN0 : Hid (E = none) := by show _ = _; rw [← HR.out.1]; exact HE0.out
      have B2 := hideIt (below_via BW'.out HR.out.2)
      have Y2 := hideIt (blkK X2'.out HR.out.2)
      have Y3 := hideIt (blkK X3'.out HR.out.2)
      have Y5 := hideIt (blkK X5.out HR.out.2)
      have OY := hideIt (HO.out.keep HR.out.2)
      clear HR HH HST HE0 H0 HPS X2' X3' X5 HO BW'
      obtain ⟨⟨n0, n1⟩, nf, nz⟩ := at2 Y5.out
      obtain ⟨⟨k0, k1⟩, kf, kz⟩ := at2 Y2.out
      obtain ⟨hzz, hoo⟩ := puts2 wr (w.heap.size + 1) 25 (.int .i64 g) (.slice a' l.length c') Y2.out
      have y3 : ((wr.setCell ⟨w.heap.size + 1, 0, none⟩ (.int .i64 g)).setCell ⟨w.heap.size + 1, 1, none⟩ (.slice a' l.length c')).heap[w.heap.size + 1 + 1]? = some (.cells #[.int .i64 0, .int .i64 0, .int .i64 0, .int .i64 0, .int .i64 0, .int .i64 0, .int .i64 0, .int .i64 0, .int .i64 0, .bool false, .int .i64 0, .int .i64 0, .int .i64 0, .slice none 0 0, .int .i64 0, .slice none 0 0, .slice none 0 0, .int .i64 0, .int .i64 0, .slice none 0 0, .slice none 0 0] 52) := setOther _ (setOther _ Y3.out (by omega)) (by omega)
      have hone : (#[.int .i64 0, .int .i64 0, .int .i64 0, .int .i64 0, .int .i64 0, .int .i64 0, .int .i64 0, .int .i64 0, .int .i64 0, .bool false, .int .i64 0, .int .i64 0, .int .i64 0, .slice none 0 0, .int .i64 0, .slice none 0 0, .slice none 0 0, .int .i64 0, .int .i64 0, .slice none 0 0, .slice none 0 0] : Array Value).all (·.oneCell') = true := by simp [Value.oneCell']
      go_wp2_with (first | (refine wpList_store_row rfl _ _ _ rfl (w.heap.size + 1 + 1) #[.int .i64 0, .int .i64 0, .int .i64 0, .int .i64 0, .int .i64 0, .int .i64 0, .int .i64 0, .int .i64 0, .int .i64 0, .bool false, .int .i64 0, .int .i64 0, .int .i64 0, .slice none 0 0, .int .i64 0, .slice none 0 0, .slice none 0 0, .int .i64 0, .int .i64 0, .slice none 0 0, .slice none 0 0] rfl rfl _ _ y3 (by kernel_rfl) rfl hone ?_; go_frame) | fail)
      have hB := ((Out.refl (fun k => k = w.heap.size + 1 ∨ k = w.heap.size + 1 + 1) wr).trans hoo (fun _ _ h => .inl h)).trans (out_row _ (w.heap.size + 1 + 1) #[.int .i64 0, .int .i64 0, .int .i64 0, .int .i64 0, .int .i64 0, .int .i64 0, .int .i64 0, .int .i64 0, .int .i64 0, .bool false, .int .i64 0, .int .i64 0, .int .i64 0, .slice none 0 0, .int .i64 0, .slice none 0 0, .slice none 0 0, .int .i64 0, .int .i64 0, .slice none 0 0, .slice none 0 0]) (fun _ _ h => .inr h)
      have z1 := (setRow_other ((wr.setCell ⟨w.heap.size + 1, 0, none⟩ (.int .i64 g)).setCell ⟨w.heap.size + 1, 1, none⟩ (.slice a' l.length c')) (w.heap.size + 1 + 1) (w.heap.size + 1) #[.int .i64 0, .int .i64 0, .int .i64 0, .int .i64 0, .int .i64 0, .int .i64 0, .int .i64 0, .int .i64 0, .int .i64 0, .bool false, .int .i64 0, .int .i64 0, .int .i64 0, .slice none 0 0, .int .i64 0, .slice none 0 0, .slice none 0 0, .int .i64 0, .int .i64 0, .slice none 0 0, .slice none 0 0] (by omega)).trans hzz
      have z2 := setRow_heap ((wr.setCell ⟨w.heap.size + 1, 0, none⟩ (.int .i64 g)).setCell ⟨w.heap.size + 1, 1, none⟩ (.slice a' l.length c')) (w.heap.size + 1 + 1) _ #[.int .i64 0, .int .i64 0, .int .i64 0, .int .i64 0, .int .i64 0, .int .i64 0, .int .i64 0, .int .i64 0, .int .i64 0, .bool false, .int .i64 0, .int .i64 0, .int .i64 0, .slice none 0 0, .int .i64 0, .slice none 0 0, .slice none 0 0, .int .i64 0, .int .i64 0, .slice none 0 0, .slice none 0 0] 52 _ y3
      refine bodyPost_ret (results_cct (k1 := 2) (k2 := 3) (k3 := 4) rfl rfl rfl rfl z1 z2 Tryd.underlying25 rfl (by kernel_rfl) Tryd.underlying52 rfl (by kernel_rfl)) rfl ?_
      have hL : endL (l.map TraX.v) = l.map TraX.v := by unfold endL; rw [← HEE.out, HN0.out]
      unfold EnBack
      rw [hL, List.length_map, ← HEE.out, HN0.out]
      exact ⟨a', c', ys, zTra, rfl, HY.out, (OY.out.out hB (fun k hk => by omega)).base (by omega), (fun i h => by cases h), below_out B2.out hB (fun k hk => by omega)⟩
    | succ gg =>
      have hlt : t < ys.length := by omega
      have hltI : (t : Int) < (l.length : Int) := by omega
      have ht0 : (0 : Int) ≤ (t : Int) := by omega
      have hw : IntKind.i64.wrap ((t : Int) + 1) = ((t + 1 : Nat) : Int) := by rw [IntKind.wrap_i64]; omega
      obtain ⟨b, off, hab, hgl, hq⟩ := HH.out t hlt
      have hgr : b < wr.heap.size := Nat.lt_of_lt_of_le hgl HR.out.2.size
      have HS := hideIt (HST.out t hlt)
      have HPV := hideIt ((HPS.out t hlt).keep HR.out.2)
      have hc : ∀ j v, (traE ys[t])[j]? = some v → wr.cell? ⟨b, off + t * 21 + j, none⟩ = some v := fun j v hv => (HR.out.2.cell (p := ⟨b, off + t * 21 + j, none⟩) hgl).trans (hq j v hv)
      obtain ⟨s, hs⟩ : ∃ s, s = ys[t] := ⟨_, rfl⟩
      have HSS := hideIt hs
      rw [← hs] at HS HPV hc
      clear hq hgl hs
      obtain ⟨c1, q1, ⟨rk, ra, rl, rs, rd, rp, rn, ro, ⟨rkk, rkn⟩, rt⟩, ps, pa, pc, st, am, ma, mc, cx, ca, cc, ⟨⟨code, num, aam, fl⟩, aa, ac, fa, fc⟩⟩ := s
      have hrg : wr.rangeAt b (off + t * 21) [.int .i64 c1, .int .i64 q1, .int .i64 rk, .int .i64 ra, .int .i64 rl, .int .i64 rs, .int .i64 rd, .int .i64 rp, .int .i64 rn, .bool ro, .int .i64 rkk, .int .i64 rkn, .int .i64 rt, .slice pa ps.length pc, .int .i64 st, .slice ma am.length mc, .slice ca cx.length cc, .int .i64 code, .int .i64 num, .slice aa aam.length ac, .slice fa fl.length fc] := fun j v hv => hc j v hv
      clear hc
      dsimp only at HS HPV
      have hone : (#[.int .i64 c1, .int .i64 q1, .int .i64 rk, .int .i64 ra, .int .i64 rl, .int .i64 rs, .int .i64 rd, .int .i64 rp, .int .i64 rn, .bool ro, .int .i64 rkk, .int .i64 rkn, .int .i64 rt, .slice pa ps.length pc, .int .i64 st, .slice ma am.length mc, .slice ca cx.length cc, .int .i64 code, .int .i64 num, .slice aa aam.length ac, .slice fa fl.length fc] : Array Value).all (·.oneCell') = true := by simp [Value.oneCell']
      have hb1 := below1 wr (.cells #[.int .i64 c1, .int .i64 q1, .int .i64 rk, .int .i64 ra, .int .i64 rl, .int .i64 rs, .int .i64 rd, .int .i64 rp, .int .i64 rn, .bool ro, .int .i64 rkk, .int .i64 rkn, .int .i64 rt, .slice pa ps.length pc, .int .i64 st, .slice ma am.length mc, .slice ca cx.length cc, .int .i64 code, .int .i64 num, .slice aa aam.length ac, .slice fa fl.length fc] 52)
      have TN := hideIt (heap_alloc_new wr (.cells #[.int .i64 c1, .int .i64 q1, .int .i64 rk, .int .i64 ra, .int .i64 rl, .int .i64 rs, .int .i64 rd, .int .i64 rp, .int .i64 rn, .bool ro, .int .i64 rkk, .int .i64 rkn, .int .i64 rt, .slice pa ps.length pc, .int .i64 st, .slice ma am.length mc, .slice ca cx.length cc, .int .i64 code, .int .i64 num, .slice aa aam.length ac, .slice fa fl.length fc] 52))
      have HRR := hideIt HR.out.1
      have B1 := hideIt (below_via HR.out.2 hb1)
      have HPW := hideIt (HPV.out.keep hb1)
      have htb := HR.out.2.size
      clear hb1 HR HPV
      subst hab
      go_upto_region 5 with (first | (refine wpList_load_mid rfl _ _ rfl b (off + t * 21) rfl [.int .i64 c1, .int .i64 q1, .int .i64 rk, .int .i64 ra, .int .i64 rl, .int .i64 rs, .int .i64 rd, .int .i64 rp, .int .i64 rn, .bool ro, .int .i64 rkk, .int .i64 rkn, .int .i64 rt, .slice pa ps.length pc, .int .i64 st, .slice ma am.length mc, .slice ca cx.length cc, .int .i64 code, .int .i64 num, .slice aa aam.length ac, .slice fa fl.length fc] _ hrg Tryd.underlying52 rfl (by kernel_rfl) ?_; go_frame) | (refine wpList_store_row rfl _ _ _ rfl wr.heap.size #[.int .i64 c1, .int .i64 q1, .int .i64 rk, .int .i64 ra, .int .i64 rl, .int .i64 rs, .int .i64 rd, .int .i64 rp, .int .i64 rn, .bool ro, .int .i64 rkk, .int .i64 rkn, .int .i64 rt, .slice pa ps.length pc, .int .i64 st, .slice ma am.length mc, .slice ca cx.length cc, .int .i64 code, .int .i64 num, .slice aa aam.length ac, .slice fa fl.length fc] rfl rfl _ _ (heap_alloc_new wr _) (by kernel_rfl) rfl hone ?_; rw [World.setRow_alloc_new]; go_frame))
      clear hrg hone
      generalize hN2 : wr.heap.size = tb at *
      generalize wr.alloc (.cells #[.int .i64 c1, .int .i64 q1, .int .i64 rk, .int .i64 ra, .int .i64 rl, .int .i64 rs, .int .i64 rd, .int .i64 rp, .int .i64 rn, .bool ro, .int .i64 rkk, .int .i64 rkn, .int .i64 rt, .slice pa ps.length pc, .int .i64 st, .slice ma am.length mc, .slice ca cx.length cc, .int .i64 code, .int .i64 num, .slice aa aam.length ac, .slice fa fl.length fc] 52) = W1 at *
      obtain ⟨⟨g0, g1, g2, g3, g4, g5, g6, g7, g8, g9, g10, g11, g12, g13, g14, g15, g16, g17, g18, g19, g20⟩, cf, cz⟩ := at21 TN.out
      clear g0 g1 g2 g3 g4 g5 g6 g7 g8 g9 g10 g11 g12 g14 g15 g16 g17 g18 g19 g20 cf hN2
      have hps := HPW.out.1
      have HPT := hideIt (fun j (hj : j < ps.length) => all_at hj)
      have HP0 : Hid ((ps.drop 0).all (fun p => p.ac) = ps.all (fun p => p.ac)) := by show _ = _; rw [List.drop_zero]
      have HP1 : Hid ((ps.drop ps.length).all (fun p => p.ac) = true) := by show _ = _; rw [List.drop_length]; rfl
      generalize ps.all (fun p => p.ac) = P at *
      go_wp2
      clear g13 cz
      go_loopg [23] ps.length (fun g2 s23 wy => ∃ j : Nat, j + g2 = ps.length ∧ s23 = .int .i64 j ∧ Hid ((ps.drop j).all (fun p => p.ac) = P ∧ Below W1.heap.size W1 wy))
      case atStart => exact ⟨0, by omega, rfl, ⟨HP0.out, Below.refl _ _⟩⟩
      case round =>
        obtain ⟨j, hjg, rfl, HJ⟩ := hrel
        cases gk with
        | zero =>
          have hjI : ¬ (j : Int) < (ps.length : Int) := by omega
          have hej : j = ps.length := by omega
          have hP : P = true := by rw [← HJ.out.1, hej]; exact HP1.out
          have HEt : Hid (E = some t) := by show _ = _; rw [← HRR.out, HS.out, hP, if_pos rfl]
          have hbW := below_via B1.out HJ.out.2
          have Y2 := hideIt (blkK X2'.out hbW)
          have Y3 := hideIt (blkK X3'.out hbW)
          have Y5 := hideIt (blkK X5.out hbW)
          have YT := hideIt (blkK TN.out HJ.out.2)
          have OY := hideIt (HO.out.keep hbW)
          have HLT : Hid (∀ k, (Value.slice (some ⟨b, off, none⟩) l.length c').ownBlock = some k → k < W5.heap.size) := fun k hk => own_lt HO.out.row hk
          have B2 := hideIt (below_via BW'.out hbW)
          have HD := hideIt (deleteO_is D t (t + 1) rfl (.slice (some ⟨b, off, none⟩) l.length c') ys wr OY.out.row hlt)
          obtain ⟨⟨n0, n1⟩, nf, nz⟩ := at2 Y5.out
          clear hP HRR HS HJ hbW X2' X3' X5 TN HO BW' HPT HP0 HP1 HPW B1 HST HH HPS H0 HE0 hej
          generalize hdl : (ys.take t ++ ys.drop (t + 1)).length = dl at *
          go_wp2_with fail
          refine HD.out.mono ?_
          rintro e w6 ⟨v', rfl, how, hgr, hob⟩
          dsimp only
          obtain ⟨va, vc, rfl⟩ := own_len how
          have o6 := OY.out.drop t (by rw [hdl]; exact how) hgr
          have kA : KP wr w6 := KP.app hgr OY.out.row notT1
          have bA := grown_own hgr OY.out.row (show w.heap.size ≤ D by omega) B2.out
          have x5 := kA _ _ _ Y5.out (by unfold noT; decide) (by decide)
          have x2 := kA _ _ _ Y2.out (by unfold noT; decide) (by decide)
          have x3 : w6.heap[w.heap.size + 1 + 1]? = some (.cells #[.int .i64 0, .int .i64 0, .int .i64 0, .int .i64 0, .int .i64 0, .int .i64 0, .int .i64 0, .int .i64 0, .int .i64 0, .bool false, .int .i64 0, .int .i64 0, .int .i64 0, .slice none 0 0, .int .i64 0, .slice none 0 0, .slice none 0 0, .int .i64 0, .int .i64 0, .slice none 0 0, .slice none 0 0] 52) := by
            obtain ⟨_, ⟨e0, _⟩ | ⟨gg0, cap, cur, hv, hb0, hg0, _⟩⟩ := OY.out.row
            · simp only [Value.slice.injEq] at e0; omega
            · refine (hgr.block _ (Array.getElem?_eq_some_iff.1 Y3.out).1 (fun e => ?_)).trans Y3.out
              rw [hv] at e
              have e3 : gg0 = w.heap.size + 1 + 1 := by simpa [Value.ownBlock] using e.symm
              omega
          have xT : w6.heap[tb]? = some (.cells #[.int .i64 c1, .int .i64 q1, .int .i64 rk, .int .i64 ra, .int .i64 rl, .int .i64 rs, .int .i64 rd, .int .i64 rp, .int .i64 rn, .bool ro, .int .i64 rkk, .int .i64 rkn, .int .i64 rt, .slice pa ps.length pc, .int .i64 st, .slice ma am.length mc, .slice ca cx.length cc, .int .i64 code, .int .i64 num, .slice aa aam.length ac, .slice fa fl.length fc] 52 (0, 0)) := by
            obtain ⟨_, ⟨e0, _⟩ | ⟨gg0, cap, cur, hv, hb0, hg0, _⟩⟩ := OY.out.row
            · simp only [Value.slice.injEq] at e0; omega
            · refine (hgr.block _ (Array.getElem?_eq_some_iff.1 YT.out).1 (fun e => ?_)).trans YT.out
              have hlt2 := HLT.out gg0 (by rw [hv]; rfl)
              rw [hv] at e
              have e3 : gg0 = tb := by simpa [Value.ownBlock] using e.symm
              omega
          obtain ⟨⟨m0, m1⟩, mf, mz⟩ := at2 x5
          have enx : nx ≠ tb := by
            intro e
            rw [e, xT] at x5
            simp at x5
          have O6 := hideIt o6
          have X5n : Hid ((w6.setCell ⟨nx, 1, none⟩ (.slice va dl vc)).heap[nx]? = some (.cells #[.int .i64 g, .slice va dl vc] 25 (0, 0))) := heap_set x5 1 _
          have X2n := hideIt (setOther (b := nx) (j := 1) (.slice va dl vc) x2 (by omega))
          have X3n := hideIt (setOther (b := nx) (j := 1) (.slice va dl vc) x3 (by omega))
          have XTn := hideIt (setOther (b := nx) (j := 1) (.slice va dl vc) xT (fun e => enx e.symm))
          have On := hideIt (o6.ty (b := nx) (j := 1) (u := .slice va dl vc) x5 (by unfold noT; decide) (by decide))
          have Bn := hideIt (belowSet (b := nx) (j := 1) (.slice va dl vc) bA (by omega))
          clear n0 n1 nf nz how hgr hob o6 kA bA x5 x2 x3 xT O6 OY Y5 Y2 Y3 YT HD HLT B2
          go_upto_region 11 with fail
          generalize w6.setCell ⟨nx, 1, none⟩ (.slice va dl vc) = W7 at *
          clear m0 m1 mf mz
          obtain ⟨⟨m0, m1⟩, mf, mz⟩ := at2 X5n.out
          obtain ⟨⟨f0, f1⟩, ff, fz⟩ := at2 X2n.out
          have hrT : W7.rangeAt tb 0 [.int .i64 c1, .int .i64 q1, .int .i64 rk, .int .i64 ra, .int .i64 rl, .int .i64 rs, .int .i64 rd, .int .i64 rp, .int .i64 rn, .bool ro, .int .i64 rkk, .int .i64 rkn, .int .i64 rt, .slice pa ps.length pc, .int .i64 st, .slice ma am.length mc, .slice ca cx.length cc, .int .i64 code, .int .i64 num, .slice aa aam.length ac, .slice fa fl.length fc] := fun j v hv => by rw [Nat.zero_add, cell_at XTn.out]; simpa using hv
          have hone : (#[.int .i64 c1, .int .i64 q1, .int .i64 rk, .int .i64 ra, .int .i64 rl, .int .i64 rs, .int .i64 rd, .int .i64 rp, .int .i64 rn, .bool ro, .int .i64 rkk, .int .i64 rkn, .int .i64 rt, .slice pa ps.length pc, .int .i64 st, .slice ma am.length mc, .slice ca cx.length cc, .int .i64 code, .int .i64 num, .slice aa aam.length ac, .slice fa fl.length fc] : Array Value).all (·.oneCell') = true := by simp [Value.oneCell']
          obtain ⟨hzz, hoo⟩ := puts2 W7 (w.heap.size + 1) 25 (.int .i64 g) (.slice va dl vc) X2n.out
          have y3 : ((W7.setCell ⟨w.heap.size + 1, 0, none⟩ (.int .i64 g)).setCell ⟨w.heap.size + 1, 1, none⟩ (.slice va dl vc)).drew.heap[w.heap.size + 1 + 1]? = some (.cells #[.int .i64 0, .int .i64 0, .int .i64 0, .int .i64 0, .int .i64 0, .int .i64 0, .int .i64 0, .int .i64 0, .int .i64 0, .bool false, .int .i64 0, .int .i64 0, .int .i64 0, .slice none 0 0, .int .i64 0, .slice none 0 0, .slice none 0 0, .int .i64 0, .int .i64 0, .slice none 0 0, .slice none 0 0] 52) := setOther _ (setOther _ X3n.out (by omega)) (by omega)
          have y5 : ((W7.setCell ⟨w.heap.size + 1, 0, none⟩ (.int .i64 g)).setCell ⟨w.heap.size + 1, 1, none⟩ (.slice va dl vc)).drew.heap[nx]? = _ := setOther _ (setOther _ X5n.out (by omega)) (by omega)
          have yT : ((W7.setCell ⟨w.heap.size + 1, 0, none⟩ (.int .i64 g)).setCell ⟨w.heap.size + 1, 1, none⟩ (.slice va dl vc)).drew.heap[tb]? = _ := setOther _ (setOther _ XTn.out (by omega)) (by omega)
          refine wp_region_held_drew (S := fun W => W.cell? ⟨nx, 0, none⟩ = some (.int .i64 g) ∧ W.cell? ⟨nx, 1, none⟩ = some (.slice va dl vc) ∧ W.heap[tb]? = some (.cells #[.int .i64 c1, .int .i64 q1, .int .i64 rk, .int .i64 ra, .int .i64 rl, .int .i64 rs, .int .i64 rd, .int .i64 rp, .int .i64 rn, .bool ro, .int .i64 rkk, .int .i64 rkn, .int .i64 rt, .slice pa ps.length pc, .int .i64 st, .slice ma am.length mc, .slice ca cx.length cc, .int .i64 code, .int .i64 num, .slice aa aam.length ac, .slice fa fl.length fc] 52 (0, 0))) (by kernel_rfl) ⟨m0, m1, XTn.out⟩ (fun hHeld => ?_)
          refine wpAnyH_take (i := 0) (oi := ⟨some 38, _, _, _, _, _⟩) (v := ?_) rfl (by kernel_rfl) (by kernel_rfl) (by kernel_rfl) (fun _ _ _ h => h) (Or.inl ⟨by rfl, ?_⟩) (by assumption) ?_
          rotate_left
          · intro w5 hSw
            (try dsimp only at hSw)
            go_simp
            (try with_reducible rfl)
          try simp only [Act.put, List.setIfInBounds_toArray, List.set_cons_zero, List.set_cons_succ]
          refine wpAnyH_take (i := 1) (oi := ⟨some 39, _, _, _, _, _⟩) (v := .agg #[.int .i64 c1, .int .i64 q1, .int .i64 rk, .int .i64 ra, .int .i64 rl, .int .i64 rs, .int .i64 rd, .int .i64 rp, .int .i64 rn, .bool ro, .int .i64 rkk, .int .i64 rkn, .int .i64 rt, .slice pa ps.length pc, .int .i64 st, .slice ma am.length mc, .slice ca cx.length cc, .int .i64 code, .int .i64 num, .slice aa aam.length ac, .slice fa fl.length fc]) rfl (by kernel_rfl) (by kernel_rfl) (by kernel_rfl) (fun _ _ _ h => h) (yieldsIf_load_mid (by rfl) _ _ rfl tb 0 rfl [.int .i64 c1, .int .i64 q1, .int .i64 rk, .int .i64 ra, .int .i64 rl, .int .i64 rs, .int .i64 rd, .int .i64 rp, .int .i64 rn, .bool ro, .int .i64 rkk, .int .i64 rkn, .int .i64 rt, .slice pa ps.length pc, .int .i64 st, .slice ma am.length mc, .slice ca cx.length cc, .int .i64 code, .int .i64 num, .slice aa aam.length ac, .slice fa fl.length fc] _ (fun W h j v hv => by rw [Nat.zero_add, cell_at h.2.2]; simpa using hv) Tryd.underlying52 rfl (by kernel_rfl)) (by assumption) ?_
          try simp only [Act.put, List.setIfInBounds_toArray, List.set_cons_zero, List.set_cons_succ]
          refine wpAnyH_ready (rs := [2]) (by kernel_rfl) (by simp) ?_
          refine (AllReadyH.cons (o := ⟨none, _, _, _, _, _⟩) rfl (fun Kx hK => ?_) AllReadyH.nil)
          go_simp
          refine hK.out _ _ ⟨by rw [cell_at y5]; rfl, by rw [cell_at y5]; rfl, yT⟩ (fun hHeld => ?_)
          clear hK Kx
          try simp only [Act.put, List.setIfInBounds_toArray, List.set_cons_zero, List.set_cons_succ]
          refine wpAnyH_ready (rs := [3]) (by kernel_rfl) (by simp) ?_
          refine (AllReadyH.cons (o := ⟨none, _, _, _, _, _⟩) rfl (fun Kx hK => ?_) AllReadyH.nil)
          refine step_store_rowK rfl _ _ _ rfl (w.heap.size + 1 + 1) #[.int .i64 c1, .int .i64 q1, .int .i64 rk, .int .i64 ra, .int .i64 rl, .int .i64 rs, .int .i64 rd, .int .i64 rp, .int .i64 rn, .bool ro, .int .i64 rkk, .int .i64 rkn, .int .i64 rt, .slice pa ps.length pc, .int .i64 st, .slice ma am.length mc, .slice ca cx.length cc, .int .i64 code, .int .i64 num, .slice aa aam.length ac, .slice fa fl.length fc] rfl rfl _ _ y3 (by kernel_rfl) rfl hone ?_
          refine hK.out _ _ ⟨by rw [cell_at ((setRow_other _ (w.heap.size + 1 + 1) nx #[.int .i64 c1, .int .i64 q1, .int .i64 rk, .int .i64 ra, .int .i64 rl, .int .i64 rs, .int .i64 rd, .int .i64 rp, .int .i64 rn, .bool ro, .int .i64 rkk, .int .i64 rkn, .int .i64 rt, .slice pa ps.length pc, .int .i64 st, .slice ma am.length mc, .slice ca cx.length cc, .int .i64 code, .int .i64 num, .slice aa aam.length ac, .slice fa fl.length fc] (by omega)).trans y5)]; rfl, by rw [cell_at ((setRow_other _ (w.heap.size + 1 + 1) nx #[.int .i64 c1, .int .i64 q1, .int .i64 rk, .int .i64 ra, .int .i64 rl, .int .i64 rs, .int .i64 rd, .int .i64 rp, .int .i64 rn, .bool ro, .int .i64 rkk, .int .i64 rkn, .int .i64 rt, .slice pa ps.length pc, .int .i64 st, .slice ma am.length mc, .slice ca cx.length cc, .int .i64 code, .int .i64 num, .slice aa aam.length ac, .slice fa fl.length fc] (by omega)).trans y5)]; rfl, (setRow_other _ (w.heap.size + 1 + 1) tb #[.int .i64 c1, .int .i64 q1, .int .i64 rk, .int .i64 ra, .int .i64 rl, .int .i64 rs, .int .i64 rd, .int .i64 rp, .int .i64 rn, .bool ro, .int .i64 rkk, .int .i64 rkn, .int .i64 rt, .slice pa ps.length pc, .int .i64 st, .slice ma am.length mc, .slice ca cx.length cc, .int .i64 code, .int .i64 num, .slice aa aam.length ac, .slice fa fl.length fc] (by omega)).trans yT⟩ (fun hHeld => ?_)
          clear hK Kx
          try simp only [Act.put, List.setIfInBounds_toArray, List.set_cons_zero, List.set_cons_succ]
          refine wpAnyH_take (i := 4) (oi := ⟨some 4, _, _, _, _, _⟩) (v := ?_) rfl (by kernel_rfl) (by kernel_rfl) (by kernel_rfl) (fun _ _ _ h => h) (Or.inl ⟨by rfl, ?_⟩) (by assumption) ?_
          rotate_left
          · intro w5 hSw
            (try dsimp only at hSw)
            go_simp
            (try with_reducible rfl)
          try simp only [Act.put, List.setIfInBounds_toArray, List.set_cons_zero, List.set_cons_succ]
          refine wpAnyH_done (by kernel_rfl) ?_ _
          have hB := (((Out.refl (fun k => k = w.heap.size + 1 ∨ k = w.heap.size + 1 + 1) W7).trans hoo (fun _ _ h => .inl h)).trans (G := fun _ => False) (c := ((W7.setCell ⟨w.heap.size + 1, 0, none⟩ (.int .i64 g)).setCell ⟨w.heap.size + 1, 1, none⟩ (.slice va dl vc)).drew) ⟨rfl, rfl, rfl, Nat.le_refl _, fun _ _ _ => rfl⟩ (fun _ _ h => h.elim)).trans (out_row ((W7.setCell ⟨w.heap.size + 1, 0, none⟩ (.int .i64 g)).setCell ⟨w.heap.size + 1, 1, none⟩ (.slice va dl vc)).drew (w.heap.size + 1 + 1) #[.int .i64 c1, .int .i64 q1, .int .i64 rk, .int .i64 ra, .int .i64 rl, .int .i64 rs, .int .i64 rd, .int .i64 rp, .int .i64 rn, .bool ro, .int .i64 rkk, .int .i64 rkn, .int .i64 rt, .slice pa ps.length pc, .int .i64 st, .slice ma am.length mc, .slice ca cx.length cc, .int .i64 code, .int .i64 num, .slice aa aam.length ac, .slice fa fl.length fc]) (fun _ _ h => .inr h)
          have z1 := (setRow_other ((W7.setCell ⟨w.heap.size + 1, 0, none⟩ (.int .i64 g)).setCell ⟨w.heap.size + 1, 1, none⟩ (.slice va dl vc)).drew (w.heap.size + 1 + 1) (w.heap.size + 1) #[.int .i64 c1, .int .i64 q1, .int .i64 rk, .int .i64 ra, .int .i64 rl, .int .i64 rs, .int .i64 rd, .int .i64 rp, .int .i64 rn, .bool ro, .int .i64 rkk, .int .i64 rkn, .int .i64 rt, .slice pa ps.length pc, .int .i64 st, .slice ma am.length mc, .slice ca cx.length cc, .int .i64 code, .int .i64 num, .slice aa aam.length ac, .slice fa fl.length fc] (by omega)).trans hzz
          have z2 := setRow_heap ((W7.setCell ⟨w.heap.size + 1, 0, none⟩ (.int .i64 g)).setCell ⟨w.heap.size + 1, 1, none⟩ (.slice va dl vc)).drew (w.heap.size + 1 + 1) _ #[.int .i64 c1, .int .i64 q1, .int .i64 rk, .int .i64 ra, .int .i64 rl, .int .i64 rs, .int .i64 rd, .int .i64 rp, .int .i64 rn, .bool ro, .int .i64 rkk, .int .i64 rkn, .int .i64 rt, .slice pa ps.length pc, .int .i64 st, .slice ma am.length mc, .slice ca cx.length cc, .int .i64 code, .int .i64 num, .slice aa aam.length ac, .slice fa fl.length fc] 52 _ y3
          have Z1 := hideIt z1
          have Z2 := hideIt z2
          have HB := hideIt hB
          clear z1 z2 hB hoo hzz y3 y5 yT m0 m1 mf mz f0 f1 ff fz hrT hone
          (repeat clear hHeld)
          generalize ((W7.setCell ⟨w.heap.size + 1, 0, none⟩ (.int .i64 g)).setCell ⟨w.heap.size + 1, 1, none⟩ (.slice va dl vc)).drew.setRow (w.heap.size + 1 + 1) #[.int .i64 c1, .int .i64 q1, .int .i64 rk, .int .i64 ra, .int .i64 rl, .int .i64 rs, .int .i64 rd, .int .i64 rp, .int .i64 rn, .bool ro, .int .i64 rkk, .int .i64 rkn, .int .i64 rt, .slice pa ps.length pc, .int .i64 st, .slice ma am.length mc, .slice ca cx.length cc, .int .i64 code, .int .i64 num, .slice aa aam.length ac, .slice fa fl.length fc] = W9 at *
          go_wp2
          try rw [Exit.noGoto_ret]
          refine bodyPost_ret (results_cct (k1 := 2) (k2 := 3) (k3 := 4) rfl rfl rfl rfl Z1.out Z2.out Tryd.underlying25 rfl (by kernel_rfl) Tryd.underlying52 rfl (by kernel_rfl)) rfl ?_
          have hlm : (l.map TraX.v).length = l.length := List.length_map ..
          have hmm : (ys.take t ++ ys.drop (t + 1)).map TraX.v = (l.map TraX.v).take t ++ (l.map TraX.v).drop (t + 1) := by rw [List.map_append, List.map_take, List.map_drop, HY.out]
          have hL : endL (l.map TraX.v) = (l.map TraX.v).take t ++ (l.map TraX.v).drop (t + 1) := by unfold endL; rw [← HEE.out, HEt.out]
          have hlen : (endL (l.map TraX.v)).length = dl := by rw [hL, ← hmm, List.length_map, hdl]
          unfold EnBack
          rw [hlen, ← HEE.out, HEt.out]
          refine ⟨va, vc, ys.take t ++ ys.drop (t + 1), ys[t], by rw [← HSS.out]; rfl, by rw [hL, hmm], (On.out.out HB.out (fun k hk => by omega)).base (by omega), fun i h => ?_, below_out Bn.out HB.out (fun k hk => by omega)⟩
          obtain rfl : t = i := Option.some.inj h
          rw [← HY.out, List.getElem?_map, List.getElem?_eq_getElem hlt]
          rfl
        | succ g2 =>
          have hlj : j < ps.length := by omega
          have hjI : (j : Int) < (ps.length : Int) := by omega
          have hj0 : (0 : Int) ≤ (j : Int) := by omega
          have hwj : IntKind.i64.wrap ((j : Int) + 1) = ((j + 1 : Nat) : Int) := by rw [IntKind.wrap_i64]; omega
          obtain ⟨-, a3, c3, e, hcap, hr⟩ := HPW.out
          simp only [Value.slice.injEq, true_and] at e
          obtain ⟨rfl, rfl⟩ := e
          obtain ⟨pb, po, rfl, hpl, hcc⟩ := hr (by omega)
          have hgr2 : pb < wr.heap.size := Nat.lt_of_lt_of_le hpl HJ.out.2.size
          have pq : ∀ i v, (peeE ps[j])[i]? = some v → wr.cell? ⟨pb, po + j * 5 + i, none⟩ = some v := fun i v hv => by
            have hi : i < 5 := (List.getElem?_eq_some_iff.1 hv).1
            rw [HJ.out.2.cell (p := ⟨pb, po + j * 5 + i, none⟩) hpl, show po + j * 5 + i = po + (j * 5 + i) by omega, hcc (j * 5 + i) (by omega), celC_get peeK ps j hlj i hi]
            exact hv
          have HQ := hideIt (HPT.out j hlj)
          clear hcc hr hcap hpl HPT
          generalize ps[j] = p at *
          obtain ⟨p1, p2, p3, p4, p5⟩ := p
          have p0c : wr.cell? ⟨pb, po + j * 5, none⟩ = some (.int .i64 p1) := pq 0 _ rfl
          have p1c : wr.cell? ⟨pb, po + j * 5 + 1, none⟩ = some (.int .i64 p2) := pq 1 _ rfl
          have p2c : wr.cell? ⟨pb, po + j * 5 + 2, none⟩ = some (.int .i64 p3) := pq 2 _ rfl
          have p3c : wr.cell? ⟨pb, po + j * 5 + 3, none⟩ = some (.bool p4) := pq 3 _ rfl
          have p4c : wr.cell? ⟨pb, po + j * 5 + 4, none⟩ = some (.bool p5) := pq 4 _ rfl
          have hb5 := below1 wr (.cells #[.int .i64 p1, .int .i64 p2, .int .i64 p3, .bool p4, .bool p5] 67)
          have B3 := hideIt (And.intro (below_via HJ.out.2 hb5) (below_via B1.out (below_via HJ.out.2 hb5)))
          have HJ1 := hideIt HJ.out.1
          clear pq hb5 HJ
          dsimp only at HQ
          cases p5
          · have HX : Hid (endI ((ys.map TraX.v).drop (t + 1)) (t + 1) = E) := by
              show _ = _
              have hp : P = false := by rw [← HJ1.out, HQ.out]; rfl
              rw [← HRR.out, HS.out, hp, if_neg (by decide)]
            clear HQ HJ1 HS HRR HPW HST HH HPS
            go_wp2
            try rw [Exit.noGoto_ret]
            go_roundg gg
            case measure => omega
            case rel => exact ⟨t + 1, by omega, by go_num, ⟨HX.out, B3.out.2⟩⟩
          · have HN : Hid ((ps.drop (j + 1)).all (fun p => p.ac) = P) := by show _ = _; rw [← HJ1.out, HQ.out]; rfl
            clear HQ HJ1 HS HRR HPW HST HH HPS
            go_wp2
            go_roundg g2
            case measure => omega
            case rel => exact ⟨j + 1, by omega, by go_num, ⟨HN.out, B3.out.1⟩⟩
end Go.Proofs.YtilinemcmgjiiaaDoor
