/- Texts of my own, laid together. -/
import Derived.Test.YtcaehfkfohianaaGreatPz14
set_option linter.all false
namespace Go.Proofs.YtcaehfkfohianaaGreat
open Go.RowKit
theorem infoRec : (Tryz.prog.info? 63).map (fun i => (i.zero, i.size, i.bytes)) = some (some (.agg #[.int .i64 0, .int .i64 0, .int .i64 0, .int .i64 0, .slice none 0 0, .int .i64 0, .int .i64 0, .string ⟨#[]⟩]), 8, 88) := by kernel_rfl
theorem rec_app {X : WkX} {K b : Nat} {w V : World} (h : WK w K X V) (x : RecX) (hb : V.heap[b]? = some (.cells (recE x).toArray 63 (0, 0))) (hx : EntO w.heap.size V x.a x.c x.r.es) (hs : X.R.length < 1000000) : ∃ a c w', (Builtin.append_ #[43, 43] 43 #[.slice X.ra X.R.length X.rc, .slice (some ⟨b, 0, none⟩) 1 1]).run Tryz.prog V = .ok (.slice a (X.R.length + 1) c) w' ∧ Hid (w'.heap[K]? = some (.cells (wkA X) 78 (0, 0)) ∧ WK w K {X with R := X.R ++ [x], ra := a, rc := c} (w'.setCell ⟨K, 14, none⟩ (.slice a (X.R.length + 1) c))) := by
 obtain ⟨v', w', hrun, how, hgr⟩ := app1 (enc := recE) (t := 43) recK rec1 Tryz.underlying43 infoRec rfl (by omega) V w.heap.size (.slice X.ra X.R.length X.rc) X.R x b 1 h.bel.size h.rows.rs hb (by omega) (by unfold maxLen; omega)
 obtain ⟨a', c', rfl⟩ := own_len how;have hlen : (X.R ++ [x]).length = X.R.length + 1 := by simp
 have hbox := box_type hgr h.rows.rs h.box (by decide);refine ⟨a', c', w', by rw [← hlen]; exact hrun, hideIt ⟨hbox, ?_⟩⟩
 have hr := h.rows.addR x hgr hx how hs;have hh := heap_set hbox 14 (.slice a' (X.R.length + 1) c');refine ⟨?_, hr.cell hbox (by decide) (by decide) (by decide) (by decide), h.hK, belowSet _ (below_out h.bel (Out.ofGrown (F := fun k => w.heap.size ≤ k) hgr (fun k hk => (h.rows.rs.lt k hk).1)) (fun _ h => h)) h.hK⟩;rw [hh];unfold wkA;simp only [hlen]
 rfl
theorem fromL_len (L : LogV) (i m : Int) (hm : m ≤ 1000000) : (fromL L i m).length ≤ 1000000 := by
 unfold fromL
 split
 ·rw [List.length_take];omega
 ·simp
set_option maxRecDepth 100000 in
set_option maxHeartbeats 4000000 in
theorem keepTail_is {X : WkX} {K : Nat} {w wx : World} (h : WK w K X wx) (i : Int) (hi : i64B i) (hs : X.R.length < 1000000) : Calls Tryz.prog 137 #[.pointer (some ⟨K, 0, none⟩), .int .i64 i] wx fun e w' => ∃ fa fc a c, e = .returned (.tuple #[]) ∧ WK w K {X with R := X.R ++ [⟨⟨2, 0, 0, i, fromL X.d.L i 400, 0, 0, noT⟩, fa, fc⟩], ra := a, rc := c} w' := by
 obtain ⟨⟨k0, k1, k2, k3, k4, k5, k6, k7, k8, k9, k10, k11, k12, k13, k14, k15, k16, k17⟩, kf, kz⟩ := at18 h.box;have HL := hideIt (from_is X.d.L X.gl i 400 wx h.rows.at_.2 ⟨hi, by unfold i64B; omega⟩)
 have hfl := fromL_len X.d.L i 400 (by omega);have HX := hideIt h;clear h;unfold EntsBack logV logA WkX.gl at HL;generalize fromL X.d.L i 400 = F at *
 go_enter Tryz.func137, Tryz.ntmps137
 go_wp2_with fail
 refine HL.out.mono ?_;rintro e w1 ⟨g, rfl, ho, hb⟩;dsimp only;obtain ⟨fa, fc, rfl⟩ := own_len ho;have h1 := HX.out.keep hb;have hbb := below1 w1 (.cells (recE ⟨⟨2, 0, 0, i, F, 0, 0, noT⟩, fa, fc⟩).toArray 63);obtain ⟨a', c', w2, hrun, HW⟩ := rec_app (h1.keep hbb) ⟨⟨2, 0, 0, i, F, 0, 0, noT⟩, fa, fc⟩ (heap_alloc_new w1 _) ⟨own_keep (own_base ho HX.out.bel.size) hbb, hfl⟩ hs;unfold recE noT at hrun;dsimp only at hrun;have HRUN := hideIt hrun;obtain ⟨⟨q0, q1, q2, q3, q4, q5, q6, q7, q8, q9, q10, q11, q12, q13, q14, q15, q16, q17⟩, qf, qz⟩ := at18 h1.box;obtain ⟨⟨-, -, -, -, -, -, -, -, -, -, -, -, -, -, r14, -, -, -⟩, rf, rz⟩ := at18 HW.out.1;clear hrun h1 hbb ho hb HX HL k0 k1 k2 k3 k4 k5 k6 k7 k8 k9 k10 k11 k12 k13 k14 k15 k16 k17 kf kz hs hi hfl;generalize F.length = fl at *
 go_wp2_with (at_builtin; go_loud (refine Lib.wpList_append_run _ rfl _ _ _ _ rfl _ _ rfl rfl _ _ HRUN.out ?_))
 clear HRUN;go_wp2
 go_end0
 exact ⟨_, _, _, _, rfl, HW.out.2⟩
set_option maxRecDepth 100000 in
set_option maxHeartbeats 8000000 in
theorem keepSnap_is {X : WkX} {K : Nat} {w wx : World} (h : WK w K X wx) (hs : X.R.length < 1000000) : Calls Tryz.prog 100 #[.pointer (some ⟨K, 0, none⟩)] wx fun e w' => ∃ a c, e = .returned (.tuple #[]) ∧ WK w K {X with R := X.R ++ [⟨⟨3, 0, 0, 0, [], X.d.L.bi, X.d.L.bt, X.d.tx⟩, none, 0⟩], ra := a, rc := c} w' := by
 obtain ⟨⟨k0, k1, k2, k3, k4, k5, k6, k7, k8, k9, k10, k11, k12, k13, k14, k15, k16, k17⟩, kf, kz⟩ := at18 h.box;have HS := hideIt (fun W (hW : Below wx.heap.size wx W) => snapV_is (h.keep hW));have HR : Hid (∀ W, Below wx.heap.size wx W → (∃ a c w2, (Builtin.append_ #[43, 43] 43 #[.slice X.ra X.R.length X.rc, .slice (some ⟨W.heap.size, 0, none⟩) 1 1]).run Tryz.prog (W.alloc (.cells #[.int .i64 3, .int .i64 0, .int .i64 0, .int .i64 0, .slice none 0 0, .int .i64 X.d.L.bi, .int .i64 X.d.L.bt, .string X.d.tx] 63)) = .ok (.slice a (X.R.length + 1) c) w2 ∧ w2.cell? ⟨K, 14, none⟩ = some (.slice X.ra X.R.length X.rc) ∧ (∀ j, w2.frozen? ⟨K, j, none⟩ = false) ∧ K < w2.heap.size ∧ Hid (WK w K {X with R := X.R ++ [⟨⟨3, 0, 0, 0, [], X.d.L.bi, X.d.L.bt, X.d.tx⟩, none, 0⟩], ra := a, rc := c} (w2.setCell ⟨K, 14, none⟩ (.slice a (X.R.length + 1) c)))) ∧ W.cell? ⟨K, 14, none⟩ = some (.slice X.ra X.R.length X.rc) ∧ K < W.heap.size) := by
  intro W hW;have h1 := h.keep hW;have hbb := below1 W (.cells (recE ⟨⟨3, 0, 0, 0, [], X.d.L.bi, X.d.L.bt, X.d.tx⟩, none, 0⟩).toArray 63);obtain ⟨a', c', w2, hrun, HW⟩ := rec_app (h1.keep hbb) ⟨⟨3, 0, 0, 0, [], X.d.L.bi, X.d.L.bt, X.d.tx⟩, none, 0⟩ (heap_alloc_new W _) (EntO.nil _ _) hs;obtain ⟨⟨-, -, -, -, -, -, -, -, -, -, -, -, -, -, r14, -, -, -⟩, rf, rz⟩ := at18 HW.out.1;obtain ⟨⟨-, -, -, -, -, -, -, -, -, -, -, -, -, -, q14, -, -, -⟩, qf, qz⟩ := at18 h1.box
  exact ⟨⟨a', c', w2, hrun, r14, rf, rz, HW.out.2⟩, q14, qz⟩
 clear h hs
 go_enter Tryz.func100, Tryz.ntmps100
 go_region_law (first
  | (refine step_run rfl _ _ 43 43 rfl rfl rfl rfl hrun ?_)
  | (go_simp; refine (HS.out wx.drew (Below.refl _ _).drew).mono ?_; rintro e w1 ⟨rfl, hb⟩; dsimp only; obtain ⟨⟨a', c', w2, hrun, r14, rf, rz, HW⟩, q14, qz⟩ := HR.out w1 (below_via (Below.refl _ _).drew hb); clear hb))
 all_goals go_wp2
 all_goals go_end0
 all_goals exact ⟨_, _, rfl, HW.out⟩
set_option maxRecDepth 100000 in
set_option maxHeartbeats 4000000 in
theorem answer_is {X : WkX} {K : Nat} {w wx : World} (h : WK w K X wx) (y : MsgX) (ok : Bool) (mt : Int) (hs : X.M.length < 1000000) : Calls Tryz.prog 164 #[.pointer (some ⟨K, 0, none⟩), .agg (msgE y).toArray, .bool ok, .int .i64 mt] wx fun e w' => ∃ a c, e = .returned (.tuple #[]) ∧ WK w K {X with M := X.M ++ [⟨{msg0 4 y.m.frm with frm := X.d.me, term := X.d.b.t, ok := ok, mtch := mt}, none, 0⟩], qa := a, qc := c} w' := by
 have HB := hideIt (heap_alloc_new wx (.cells (msgE y).toArray 50));have HT := hideIt (tell_is (h.keep (below1 wx (.cells (msgE y).toArray 50))) ⟨{msg0 4 y.m.frm with ok := ok, mtch := mt}, none, 0⟩ (EntO.nil _ _) hs);clear h hs;unfold msgE msg0 noT at HT;unfold msgE at *;simp only [List.length_nil] at HT
 go_enter Tryz.func164, Tryz.ntmps164
 go_upto_region 1 with fail
 generalize (World.alloc wx _) = W0 at *;obtain ⟨⟨m0, m1, m2, m3, m4, m5, m6, m7, m8, m9, m10, m11, m12⟩, mf, mz⟩ := at13 HB.out
 go_wp2_with fail
 refine HT.out.mono ?_;rintro e w2 ⟨a, c, rfl, hw⟩;dsimp only;have HW := hideIt hw;clear hw HT;go_wp2
 go_end0
 exact ⟨a, c, rfl, HW.out⟩
theorem WK.setLog {X : WkX} {K : Nat} {w wx : World} (h : WK w K X wx) (L : LogV) (a : Option Addr) (c : Nat) (ho : wx.ownsRow w.heap.size 55 3 (.slice a L.l.length c) L.l.length (entC L.l)) (hl : L.l.length ≤ 1000000) : WK w K {X with d := {X.d with L := L}, la := a, lc := c} ((((wx.setCell ⟨K, 7, none⟩ (.int .i64 L.bi)).setCell ⟨K, 8, none⟩ (.int .i64 L.bt)).setCell ⟨K, 9, none⟩ (.slice a L.l.length c)).setCell ⟨K, 10, none⟩ (.int .i64 L.cm)) := by
 have b0 : (wx.setCell ⟨K, 7, none⟩ (.int .i64 L.bi)).heap[K]? = some (.cells #[.int .i64 X.d.me, .int .i64 X.d.n, .int .i64 X.d.b.t, .int .i64 X.d.b.v, .int .i64 X.d.b.r, .slice X.ba X.d.b.l.length X.bc, .int .i64 X.d.ld, .int .i64 L.bi, .int .i64 X.d.L.bt, .slice X.la X.d.L.l.length X.lc, .int .i64 X.d.L.cm, .string X.d.tx, .slice X.na X.d.nx.length X.nc, .slice X.ma X.d.mt.length X.mc, .slice X.ra X.R.length X.rc, .slice X.qa X.M.length X.qc, .int .i64 X.ix, .bool X.wt] 78 (0, 0)) := heap_set h.box 7 (.int .i64 L.bi);have r0 : WR w.heap.size (wx.setCell ⟨K, 7, none⟩ (.int .i64 L.bi)) X := h.rows.cell h.box (by decide) (by decide) (by decide) (by decide);have o0 : (wx.setCell ⟨K, 7, none⟩ (.int .i64 L.bi)).ownsRow w.heap.size 55 3 (.slice a L.l.length c) L.l.length (entC L.l) := own_cell ho h.box (by decide);have l0 : Below w.heap.size w (wx.setCell ⟨K, 7, none⟩ (.int .i64 L.bi)) := belowSet _ h.bel h.hK;have b1 : ((wx.setCell ⟨K, 7, none⟩ (.int .i64 L.bi)).setCell ⟨K, 8, none⟩ (.int .i64 L.bt)).heap[K]? = some (.cells #[.int .i64 X.d.me, .int .i64 X.d.n, .int .i64 X.d.b.t, .int .i64 X.d.b.v, .int .i64 X.d.b.r, .slice X.ba X.d.b.l.length X.bc, .int .i64 X.d.ld, .int .i64 L.bi, .int .i64 L.bt, .slice X.la X.d.L.l.length X.lc, .int .i64 X.d.L.cm, .string X.d.tx, .slice X.na X.d.nx.length X.nc, .slice X.ma X.d.mt.length X.mc, .slice X.ra X.R.length X.rc, .slice X.qa X.M.length X.qc, .int .i64 X.ix, .bool X.wt] 78 (0, 0)) := heap_set b0 8 (.int .i64 L.bt);have r1 : WR w.heap.size ((wx.setCell ⟨K, 7, none⟩ (.int .i64 L.bi)).setCell ⟨K, 8, none⟩ (.int .i64 L.bt)) X := r0.cell b0 (by decide) (by decide) (by decide) (by decide);have o1 : ((wx.setCell ⟨K, 7, none⟩ (.int .i64 L.bi)).setCell ⟨K, 8, none⟩ (.int .i64 L.bt)).ownsRow w.heap.size 55 3 (.slice a L.l.length c) L.l.length (entC L.l) := own_cell o0 b0 (by decide);have l1 : Below w.heap.size w ((wx.setCell ⟨K, 7, none⟩ (.int .i64 L.bi)).setCell ⟨K, 8, none⟩ (.int .i64 L.bt)) := belowSet _ l0 h.hK;have b2 : (((wx.setCell ⟨K, 7, none⟩ (.int .i64 L.bi)).setCell ⟨K, 8, none⟩ (.int .i64 L.bt)).setCell ⟨K, 9, none⟩ (.slice a L.l.length c)).heap[K]? = some (.cells #[.int .i64 X.d.me, .int .i64 X.d.n, .int .i64 X.d.b.t, .int .i64 X.d.b.v, .int .i64 X.d.b.r, .slice X.ba X.d.b.l.length X.bc, .int .i64 X.d.ld, .int .i64 L.bi, .int .i64 L.bt, .slice a L.l.length c, .int .i64 X.d.L.cm, .string X.d.tx, .slice X.na X.d.nx.length X.nc, .slice X.ma X.d.mt.length X.mc, .slice X.ra X.R.length X.rc, .slice X.qa X.M.length X.qc, .int .i64 X.ix, .bool X.wt] 78 (0, 0)) := heap_set b1 9 (.slice a L.l.length c);have r2 : WR w.heap.size (((wx.setCell ⟨K, 7, none⟩ (.int .i64 L.bi)).setCell ⟨K, 8, none⟩ (.int .i64 L.bt)).setCell ⟨K, 9, none⟩ (.slice a L.l.length c)) X := r1.cell b1 (by decide) (by decide) (by decide) (by decide);have o2 : (((wx.setCell ⟨K, 7, none⟩ (.int .i64 L.bi)).setCell ⟨K, 8, none⟩ (.int .i64 L.bt)).setCell ⟨K, 9, none⟩ (.slice a L.l.length c)).ownsRow w.heap.size 55 3 (.slice a L.l.length c) L.l.length (entC L.l) := own_cell o1 b1 (by decide);have l2 : Below w.heap.size w (((wx.setCell ⟨K, 7, none⟩ (.int .i64 L.bi)).setCell ⟨K, 8, none⟩ (.int .i64 L.bt)).setCell ⟨K, 9, none⟩ (.slice a L.l.length c)) := belowSet _ l1 h.hK;have b3 : ((((wx.setCell ⟨K, 7, none⟩ (.int .i64 L.bi)).setCell ⟨K, 8, none⟩ (.int .i64 L.bt)).setCell ⟨K, 9, none⟩ (.slice a L.l.length c)).setCell ⟨K, 10, none⟩ (.int .i64 L.cm)).heap[K]? = some (.cells #[.int .i64 X.d.me, .int .i64 X.d.n, .int .i64 X.d.b.t, .int .i64 X.d.b.v, .int .i64 X.d.b.r, .slice X.ba X.d.b.l.length X.bc, .int .i64 X.d.ld, .int .i64 L.bi, .int .i64 L.bt, .slice a L.l.length c, .int .i64 L.cm, .string X.d.tx, .slice X.na X.d.nx.length X.nc, .slice X.ma X.d.mt.length X.mc, .slice X.ra X.R.length X.rc, .slice X.qa X.M.length X.qc, .int .i64 X.ix, .bool X.wt] 78 (0, 0)) := heap_set b2 10 (.int .i64 L.cm);have r3 : WR w.heap.size ((((wx.setCell ⟨K, 7, none⟩ (.int .i64 L.bi)).setCell ⟨K, 8, none⟩ (.int .i64 L.bt)).setCell ⟨K, 9, none⟩ (.slice a L.l.length c)).setCell ⟨K, 10, none⟩ (.int .i64 L.cm)) X := r2.cell b2 (by decide) (by decide) (by decide) (by decide);have o3 : ((((wx.setCell ⟨K, 7, none⟩ (.int .i64 L.bi)).setCell ⟨K, 8, none⟩ (.int .i64 L.bt)).setCell ⟨K, 9, none⟩ (.slice a L.l.length c)).setCell ⟨K, 10, none⟩ (.int .i64 L.cm)).ownsRow w.heap.size 55 3 (.slice a L.l.length c) L.l.length (entC L.l) := own_cell o2 b2 (by decide);have l3 : Below w.heap.size w ((((wx.setCell ⟨K, 7, none⟩ (.int .i64 L.bi)).setCell ⟨K, 8, none⟩ (.int .i64 L.bt)).setCell ⟨K, 9, none⟩ (.slice a L.l.length c)).setCell ⟨K, 10, none⟩ (.int .i64 L.cm)) := belowSet _ l2 h.hK
 exact ⟨b3, ⟨⟨r3.nd.b, o3, r3.nd.n, r3.nd.m⟩, r3.rs, r3.ro, r3.ms, r3.mo, r3.nm, r3.nb, r3.mb, r3.sb, hl, r3.sn, r3.sm, r3.st, r3.sr, r3.sq⟩, h.hK, l3⟩
theorem advL_len (L : LogV) (t : Int) (m : List Int) (h : L.l.length ≤ 1000000) : (advL L t m).1.l.length ≤ 1000000 := by
 unfold advL
 split
 ·simp [zL]
 ·split
  ·simp [zL]
  ·split
   ·exact h
   ·exact h
theorem WR.rest {B : Nat} {wx : World} {X : WkX} (h : WR B wx X) (hm : 2 ≤ X.d.mt.length) : ∃ g, X.ma = some ⟨g, 0, none⟩ ∧ X.d.mt.length ≤ X.mc ∧ X.mc ≤ maxLen ∧ NGot wx (.slice (some ⟨g, 1, none⟩) (X.d.mt.length - 1) (X.mc - 1)) (X.d.mt.drop 1) := by
 have hg := Tm.own_got h.nd.m (by have := h.sm; omega)
 obtain ⟨_, ⟨hv, h0⟩ | ⟨g, cap, cur, hv, hB, hb, hn, hc, _, _⟩⟩ := h.nd.m
 ·omega
 ·unfold WkX.gm at hv;simp only [Value.slice.injEq] at hv;obtain ⟨ha, -, hcap⟩ := hv;refine ⟨g, ha, by omega, by omega, by rw [List.length_drop]; have := h.sm; omega, _, _, by rw [List.length_drop], fun _ => ⟨g, 1, rfl, (Array.getElem?_eq_some_iff.1 hb).1, fun j hj => ?_⟩⟩
  obtain ⟨_, a', c', e', hr⟩ := hg;obtain ⟨b, off, hab, _, hcell⟩ := hr (by omega);unfold WkX.gm at e';simp only [Value.slice.injEq] at e';rw [← e'.1, ha] at hab;simp only [Option.some.injEq, Addr.mk.injEq] at hab;obtain ⟨rfl, rfl, _⟩ := hab;rw [List.length_drop] at hj;have := hcell (1 + j) (by omega);rw [Nat.zero_add] at this;rw [this]
  simp [List.getD_eq_getElem?_getD, List.getElem?_drop, Nat.add_comm]
set_option maxRecDepth 100000 in
set_option maxHeartbeats 8000000 in
theorem advW_is {X : WkX} {K : Nat} {w wx : World} (h : WK w K X wx) (hm : 2 ≤ X.d.mt.length) : Calls Tryz.prog 138 #[.pointer (some ⟨K, 0, none⟩)] wx fun e w' => ∃ a c, e = .returned (.tuple #[]) ∧ WK w K {X with d := {X.d with L := (advL X.d.L X.d.b.t (X.d.mt.drop 1)).1}, la := a, lc := c} w' := by
 obtain ⟨g, hma, hmc, hmm, hN⟩ := h.rows.rest hm;have HT := hideIt (termW_is (wx := wx.drew) h.box);have hL := advL_len X.d.L X.d.b.t (X.d.mt.drop 1) h.rows.sl;have HA := hideIt (advance_is X.d.L X.gl (.slice (some ⟨g, 1, none⟩) (X.d.mt.length - 1) (X.mc - 1)) X.d.b.t (X.d.mt.drop 1) wx.drew (h.keep (Below.refl _ _).drew).rows.at_.2 (hN.keep (Below.refl _ _).drew));have HX := hideIt (h.keep (Below.refl _ _).drew);obtain ⟨⟨k0, k1, k2, k3, k4, k5, k6, k7, k8, k9, k10, k11, k12, k13, k14, k15, k16, k17⟩, kf, kz⟩ := at18 h.box;rw [hma] at k13;clear h hN hma;unfold LogErr logV logA WkX.gl at HA;generalize advL X.d.L X.d.b.t (X.d.mt.drop 1) = Z at *;have e1 : (1 : Int) ≤ (X.d.mt.length : Int) := by omega
 have e2 : (X.d.mt.length : Int) ≤ (X.mc : Int) := by omega
 have e3 : (1 : Int) ≤ (X.mc : Int) := by omega
 have e4 : ¬ (X.mc = 1) := by omega
 have e5 : X.mc - 1 ≠ 0 := by omega
 go_enter Tryz.func138, Tryz.ntmps138
 go_region_law (first
  | (go_simp; refine HT.out.mono ?_; rintro e w5 ⟨rfl, rfl⟩; dsimp only)
  | (go_simp; refine HA.out.mono ?_; rintro e w1 ⟨g1, rfl, ho, hb⟩; dsimp only; obtain ⟨a1, c1, rfl⟩ := own_len ho; have HW := hideIt ((HX.out.keep hb).setLog Z.1 a1 c1 (own_base ho HX.out.bel.size) hL); obtain ⟨⟨q0, q1, q2, q3, q4, q5, q6, q7, q8, q9, q10, q11, q12, q13, q14, q15, q16, q17⟩, qf, qz⟩ := at18 (HX.out.keep hb).box; clear ho hb))
 all_goals go_wp2
 all_goals go_end0
 all_goals first | exact ⟨_, _, rfl, HW.out⟩ | exact ⟨rfl, _, _, HW.out⟩
set_option maxRecDepth 100000 in
set_option maxHeartbeats 4000000 in
theorem sentW_is (y : MsgX) (w : World) (h : EGot w (.slice y.a y.m.es.length y.c) y.m.es) : Calls Tryz.prog 96 #[.agg (msgE y).toArray] w fun e w' => e = .returned (.bool (sentB y.m)) ∧ Below w.heap.size w w' := by
 have HB := hideIt (And.intro (heap_alloc_new w (.cells (msgE y).toArray 50)) (below1 w (.cells (msgE y).toArray 50)));obtain ⟨a', c', e', _, hr⟩ := (h.keep HB.out.2).open;simp only [Value.slice.injEq] at e';have HE := hideIt (Nt.encode_is ⟨y.m.kind, y.m.frm, y.m.dst, y.m.term, y.m.pi, y.m.pt, y.a, y.m.es.length, y.c, y.m.cm, y.m.ok, y.m.mtch, y.m.si, y.m.st, y.m.tx⟩ (y.m.es.map (fun e => ⟨e.term, e.kind, e.text⟩)) (w.alloc (.cells (msgE y).toArray 50)) (fun i hi => by
  rw [List.length_map] at hi;obtain ⟨b, off, h1, h2, h3, h4, h5⟩ := hr i hi
  exact ⟨b, off, by rw [e'.1]; exact h1, h2, by simpa using h3, by simpa using h4, by simpa using h5⟩) (by simp))
 have HS : Hid ((Nt.encE ⟨y.m.kind, y.m.frm, y.m.dst, y.m.term, y.m.pi, y.m.pt, y.a, y.m.es.length, y.c, y.m.cm, y.m.ok, y.m.mtch, y.m.si, y.m.st, y.m.tx⟩ (y.m.es.map (fun e => ⟨e.term, e.kind, e.text⟩)) : Nat) = if sentB y.m then 0 else 52) := hideIt rfl;clear h hr e';generalize Nt.encE _ _ = n at *;generalize (Nt.encL _ _).toArray = bs at *;generalize sentB y.m = B at *;unfold msgE Nt.msgC at *
 go_enter Tryz.func96, Tryz.ntmps96
 go_upto_region 1 with fail
 generalize (World.alloc w _) = W0 at *;obtain ⟨⟨m0, m1, m2, m3, m4, m5, m6, m7, m8, m9, m10, m11, m12⟩, mf, mz⟩ := at13 HB.out.1
 go_wp2_with fail
 refine HE.out.mono ?_;rintro e w2 ⟨rfl, hb⟩;dsimp only;have HW := hideIt (below_via HB.out.2 hb);have hS := HS.out;clear hb HE HB HS m0 m1 m2 m3 m4 m5 m6 m7 m8 m9 m10 m11 m12 mf mz;cases B
 ·rw [if_neg (by decide)] at hS;subst hS;go_wp2;go_ret
  exact ⟨rfl, HW.out⟩
 ·rw [if_pos rfl] at hS;subst hS;go_wp2;go_ret
  exact ⟨rfl, HW.out⟩
theorem apart_new {W W' : World} {B z z' n n' : Nat} {e e' : TypeId} {v u : Value} {xs xs' : List Value} (h : W.ownsRow B e z v n xs) (k : W'.ownsRow W.heap.size e' z' u n' xs') : v.ownBlock = none ∨ v.ownBlock ≠ u.ownBlock := by
 cases hv : v.ownBlock with
 | none => exact .inl rfl
 | some g =>
  refine .inr (fun e => ?_);have h1 := (h.lt g hv).2;have h2 := (k.lt g e.symm).1;omega
theorem WK.setBal {X : WkX} {K : Nat} {w wx : World} (h : WK w K X wx) (b : Tm.Bal) (a : Option Addr) (c : Nat) (ho : wx.ownsRow w.heap.size 3 1 (.slice a b.l.length c) b.l.length (b.l.map Tm.iv)) (hl : b.l.length ≤ 1000000) (hn : X.gn.ownBlock = none ∨ X.gn.ownBlock ≠ (Value.slice a b.l.length c).ownBlock) (hm : X.gm.ownBlock = none ∨ X.gm.ownBlock ≠ (Value.slice a b.l.length c).ownBlock) : WK w K {X with d := {X.d with b := b}, ba := a, bc := c} ((((wx.setCell ⟨K, 2, none⟩ (.int .i64 b.t)).setCell ⟨K, 3, none⟩ (.int .i64 b.v)).setCell ⟨K, 4, none⟩ (.int .i64 b.r)).setCell ⟨K, 5, none⟩ (.slice a b.l.length c)) := by
 have b0 : (wx.setCell ⟨K, 2, none⟩ (.int .i64 b.t)).heap[K]? = some (.cells #[.int .i64 X.d.me, .int .i64 X.d.n, .int .i64 b.t, .int .i64 X.d.b.v, .int .i64 X.d.b.r, .slice X.ba X.d.b.l.length X.bc, .int .i64 X.d.ld, .int .i64 X.d.L.bi, .int .i64 X.d.L.bt, .slice X.la X.d.L.l.length X.lc, .int .i64 X.d.L.cm, .string X.d.tx, .slice X.na X.d.nx.length X.nc, .slice X.ma X.d.mt.length X.mc, .slice X.ra X.R.length X.rc, .slice X.qa X.M.length X.qc, .int .i64 X.ix, .bool X.wt] 78 (0, 0)) := heap_set h.box 2 (.int .i64 b.t);have r0 : WR w.heap.size (wx.setCell ⟨K, 2, none⟩ (.int .i64 b.t)) X := h.rows.cell h.box (by decide) (by decide) (by decide) (by decide);have o0 : (wx.setCell ⟨K, 2, none⟩ (.int .i64 b.t)).ownsRow w.heap.size 3 1 (.slice a b.l.length c) b.l.length (b.l.map Tm.iv) := own_cell ho h.box (by decide);have l0 : Below w.heap.size w (wx.setCell ⟨K, 2, none⟩ (.int .i64 b.t)) := belowSet _ h.bel h.hK;have b1 : ((wx.setCell ⟨K, 2, none⟩ (.int .i64 b.t)).setCell ⟨K, 3, none⟩ (.int .i64 b.v)).heap[K]? = some (.cells #[.int .i64 X.d.me, .int .i64 X.d.n, .int .i64 b.t, .int .i64 b.v, .int .i64 X.d.b.r, .slice X.ba X.d.b.l.length X.bc, .int .i64 X.d.ld, .int .i64 X.d.L.bi, .int .i64 X.d.L.bt, .slice X.la X.d.L.l.length X.lc, .int .i64 X.d.L.cm, .string X.d.tx, .slice X.na X.d.nx.length X.nc, .slice X.ma X.d.mt.length X.mc, .slice X.ra X.R.length X.rc, .slice X.qa X.M.length X.qc, .int .i64 X.ix, .bool X.wt] 78 (0, 0)) := heap_set b0 3 (.int .i64 b.v);have r1 : WR w.heap.size ((wx.setCell ⟨K, 2, none⟩ (.int .i64 b.t)).setCell ⟨K, 3, none⟩ (.int .i64 b.v)) X := r0.cell b0 (by decide) (by decide) (by decide) (by decide);have o1 : ((wx.setCell ⟨K, 2, none⟩ (.int .i64 b.t)).setCell ⟨K, 3, none⟩ (.int .i64 b.v)).ownsRow w.heap.size 3 1 (.slice a b.l.length c) b.l.length (b.l.map Tm.iv) := own_cell o0 b0 (by decide);have l1 : Below w.heap.size w ((wx.setCell ⟨K, 2, none⟩ (.int .i64 b.t)).setCell ⟨K, 3, none⟩ (.int .i64 b.v)) := belowSet _ l0 h.hK;have b2 : (((wx.setCell ⟨K, 2, none⟩ (.int .i64 b.t)).setCell ⟨K, 3, none⟩ (.int .i64 b.v)).setCell ⟨K, 4, none⟩ (.int .i64 b.r)).heap[K]? = some (.cells #[.int .i64 X.d.me, .int .i64 X.d.n, .int .i64 b.t, .int .i64 b.v, .int .i64 b.r, .slice X.ba X.d.b.l.length X.bc, .int .i64 X.d.ld, .int .i64 X.d.L.bi, .int .i64 X.d.L.bt, .slice X.la X.d.L.l.length X.lc, .int .i64 X.d.L.cm, .string X.d.tx, .slice X.na X.d.nx.length X.nc, .slice X.ma X.d.mt.length X.mc, .slice X.ra X.R.length X.rc, .slice X.qa X.M.length X.qc, .int .i64 X.ix, .bool X.wt] 78 (0, 0)) := heap_set b1 4 (.int .i64 b.r);have r2 : WR w.heap.size (((wx.setCell ⟨K, 2, none⟩ (.int .i64 b.t)).setCell ⟨K, 3, none⟩ (.int .i64 b.v)).setCell ⟨K, 4, none⟩ (.int .i64 b.r)) X := r1.cell b1 (by decide) (by decide) (by decide) (by decide);have o2 : (((wx.setCell ⟨K, 2, none⟩ (.int .i64 b.t)).setCell ⟨K, 3, none⟩ (.int .i64 b.v)).setCell ⟨K, 4, none⟩ (.int .i64 b.r)).ownsRow w.heap.size 3 1 (.slice a b.l.length c) b.l.length (b.l.map Tm.iv) := own_cell o1 b1 (by decide);have l2 : Below w.heap.size w (((wx.setCell ⟨K, 2, none⟩ (.int .i64 b.t)).setCell ⟨K, 3, none⟩ (.int .i64 b.v)).setCell ⟨K, 4, none⟩ (.int .i64 b.r)) := belowSet _ l1 h.hK;have b3 : ((((wx.setCell ⟨K, 2, none⟩ (.int .i64 b.t)).setCell ⟨K, 3, none⟩ (.int .i64 b.v)).setCell ⟨K, 4, none⟩ (.int .i64 b.r)).setCell ⟨K, 5, none⟩ (.slice a b.l.length c)).heap[K]? = some (.cells #[.int .i64 X.d.me, .int .i64 X.d.n, .int .i64 b.t, .int .i64 b.v, .int .i64 b.r, .slice a b.l.length c, .int .i64 X.d.ld, .int .i64 X.d.L.bi, .int .i64 X.d.L.bt, .slice X.la X.d.L.l.length X.lc, .int .i64 X.d.L.cm, .string X.d.tx, .slice X.na X.d.nx.length X.nc, .slice X.ma X.d.mt.length X.mc, .slice X.ra X.R.length X.rc, .slice X.qa X.M.length X.qc, .int .i64 X.ix, .bool X.wt] 78 (0, 0)) := heap_set b2 5 (.slice a b.l.length c);have r3 : WR w.heap.size ((((wx.setCell ⟨K, 2, none⟩ (.int .i64 b.t)).setCell ⟨K, 3, none⟩ (.int .i64 b.v)).setCell ⟨K, 4, none⟩ (.int .i64 b.r)).setCell ⟨K, 5, none⟩ (.slice a b.l.length c)) X := r2.cell b2 (by decide) (by decide) (by decide) (by decide);have o3 : ((((wx.setCell ⟨K, 2, none⟩ (.int .i64 b.t)).setCell ⟨K, 3, none⟩ (.int .i64 b.v)).setCell ⟨K, 4, none⟩ (.int .i64 b.r)).setCell ⟨K, 5, none⟩ (.slice a b.l.length c)).ownsRow w.heap.size 3 1 (.slice a b.l.length c) b.l.length (b.l.map Tm.iv) := own_cell o2 b2 (by decide);have l3 : Below w.heap.size w ((((wx.setCell ⟨K, 2, none⟩ (.int .i64 b.t)).setCell ⟨K, 3, none⟩ (.int .i64 b.v)).setCell ⟨K, 4, none⟩ (.int .i64 b.r)).setCell ⟨K, 5, none⟩ (.slice a b.l.length c)) := belowSet _ l2 h.hK
 exact ⟨b3, ⟨⟨o3, r3.nd.l, r3.nd.n, r3.nd.m⟩, r3.rs, r3.ro, r3.ms, r3.mo, r3.nm, hn, hm, hl, r3.sl, r3.sn, r3.sm, r3.st, r3.sr, r3.sq⟩, h.hK, l3⟩
theorem hear_few (b : Tm.Bal) (t : Int) (h : b.l.length ≤ 1000000) : (Tm.hear2L b t).1.l.length ≤ 1000000 := by
 unfold Tm.hear2L
 split
 ·simp [Tm.zB]
 ·split
  ·simp [Tm.zB]
  ·unfold Tm.hearL
   split
   ·simp
   ·exact h
structure LBox (V0 : World) (P : Nat) (L : LogV) (a : Option Addr) (c : Nat) (wy : World) : Prop where
 box : wy.heap[P]? = some (.cells #[.int .i64 L.bi, .int .i64 L.bt, .slice a L.l.length c, .int .i64 L.cm] 36 (0, 0))
 own : wy.ownsRow V0.heap.size 55 3 (.slice a L.l.length c) L.l.length (entC L.l)
 bel : Below V0.heap.size V0 wy
 hP : V0.heap.size ≤ P
theorem LBox.new {V0 w5 : World} {L : LogV} {a : Option Addr} {c : Nat} (ho : w5.ownsRow V0.heap.size 55 3 (.slice a L.l.length c) L.l.length (entC L.l)) (hb : Below V0.heap.size V0 w5) : LBox V0 w5.heap.size L a c (w5.alloc (.cells #[.int .i64 L.bi, .int .i64 L.bt, .slice a L.l.length c, .int .i64 L.cm] 36)) :=
 ⟨heap_alloc_new w5 _, own_keep ho (below1 w5 _), below_via hb (below1 w5 _), hb.size⟩
theorem LBox.put {V0 w5 : World} {L : LogV} {a : Option Addr} {c : Nat} {P : Nat} {z0 z1 z2 z3 : Value} (hz : w5.heap[P]? = some (.cells #[z0, z1, z2, z3] 36 (0, 0))) (ho : w5.ownsRow V0.heap.size 55 3 (.slice a L.l.length c) L.l.length (entC L.l)) (hb : Below V0.heap.size V0 w5) (hP : V0.heap.size ≤ P) : LBox V0 P L a c ((((w5.setCell ⟨P, 0, none⟩ (.int .i64 L.bi)).setCell ⟨P, 1, none⟩ (.int .i64 L.bt)).setCell ⟨P, 2, none⟩ (.slice a L.l.length c)).setCell ⟨P, 3, none⟩ (.int .i64 L.cm)) := by
 have h0 := heap_set hz 0 (.int .i64 L.bi);have o0 := own_cell (u := .int .i64 L.bi) (j := 0) ho hz (by decide);have l0 := belowSet (j := 0) (.int .i64 L.bi) hb hP;have h1 := heap_set h0 1 (.int .i64 L.bt);have o1 := own_cell (u := .int .i64 L.bt) (j := 1) o0 h0 (by decide);have l1 := belowSet (j := 1) (.int .i64 L.bt) l0 hP;have h2 := heap_set h1 2 (.slice a L.l.length c);have o2 := own_cell (u := .slice a L.l.length c) (j := 2) o1 h1 (by decide);have l2 := belowSet (j := 2) (.slice a L.l.length c) l1 hP
 exact ⟨heap_set h2 3 (.int .i64 L.cm), own_cell (u := .int .i64 L.cm) (j := 3) o2 h2 (by decide), belowSet (j := 3) (.int .i64 L.cm) l2 hP, hP⟩
structure BBox (V0 : World) (P : Nat) (b : Tm.Bal) (a : Option Addr) (c : Nat) (wy : World) : Prop where
 box : wy.heap[P]? = some (.cells #[.int .i64 b.t, .int .i64 b.v, .int .i64 b.r, .slice a b.l.length c] 34 (0, 0))
 own : wy.ownsRow V0.heap.size 3 1 (.slice a b.l.length c) b.l.length (b.l.map Tm.iv)
 bel : Below V0.heap.size V0 wy
 hP : V0.heap.size ≤ P
theorem BBox.new {V0 w5 : World} {b : Tm.Bal} {a : Option Addr} {c : Nat} (ho : w5.ownsRow V0.heap.size 3 1 (.slice a b.l.length c) b.l.length (b.l.map Tm.iv)) (hb : Below V0.heap.size V0 w5) : BBox V0 w5.heap.size b a c (w5.alloc (.cells #[.int .i64 b.t, .int .i64 b.v, .int .i64 b.r, .slice a b.l.length c] 34)) :=
 ⟨heap_alloc_new w5 _, own_keep ho (below1 w5 _), below_via hb (below1 w5 _), hb.size⟩
theorem BBox.put {V0 w5 : World} {b : Tm.Bal} {a : Option Addr} {c : Nat} {P : Nat} {z0 z1 z2 z3 : Value} (hz : w5.heap[P]? = some (.cells #[z0, z1, z2, z3] 34 (0, 0))) (ho : w5.ownsRow V0.heap.size 3 1 (.slice a b.l.length c) b.l.length (b.l.map Tm.iv)) (hb : Below V0.heap.size V0 w5) (hP : V0.heap.size ≤ P) : BBox V0 P b a c ((((w5.setCell ⟨P, 0, none⟩ (.int .i64 b.t)).setCell ⟨P, 1, none⟩ (.int .i64 b.v)).setCell ⟨P, 2, none⟩ (.int .i64 b.r)).setCell ⟨P, 3, none⟩ (.slice a b.l.length c)) := by
 have h0 := heap_set hz 0 (.int .i64 b.t);have o0 := own_cell (u := .int .i64 b.t) (j := 0) ho hz (by decide);have l0 := belowSet (j := 0) (.int .i64 b.t) hb hP;have h1 := heap_set h0 1 (.int .i64 b.v);have o1 := own_cell (u := .int .i64 b.v) (j := 1) o0 h0 (by decide);have l1 := belowSet (j := 1) (.int .i64 b.v) l0 hP;have h2 := heap_set h1 2 (.int .i64 b.r);have o2 := own_cell (u := .int .i64 b.r) (j := 2) o1 h1 (by decide);have l2 := belowSet (j := 2) (.int .i64 b.r) l1 hP
 exact ⟨heap_set h2 3 (.slice a b.l.length c), own_cell (u := .slice a b.l.length c) (j := 3) o2 h2 (by decide), belowSet (j := 3) (.slice a b.l.length c) l2 hP, hP⟩
theorem at4 {w : World} {p : Nat} {ty : TypeId} {z0 z1 z2 z3 : Value} (h : w.heap[p]? = some (.cells #[z0, z1, z2, z3] ty (0, 0))) : (w.cell? ⟨p, 0, none⟩ = some z0 ∧ w.cell? ⟨p, 1, none⟩ = some z1 ∧ w.cell? ⟨p, 2, none⟩ = some z2 ∧ w.cell? ⟨p, 3, none⟩ = some z3) ∧ (∀ j, w.frozen? ⟨p, j, none⟩ = false) ∧ p < w.heap.size :=
 ⟨⟨by rw [Tm.cell_at h]; rfl, by rw [Tm.cell_at h]; rfl, by rw [Tm.cell_at h]; rfl, by rw [Tm.cell_at h]; rfl⟩, fun j => Tm.free_at h j, (Array.getElem?_eq_some_iff.1 h).1⟩
theorem WK.putM {X : WkX} {K : Nat} {w wx : World} (h : WK w K X wx) {g : Nat} (hg : X.ma = some ⟨g, 0, none⟩) (k : Nat) (x : Int) : WK w K {X with d := {X.d with mt := X.d.mt.set k x}} (wx.setCell ⟨g, k, none⟩ (.int .i64 x)) := by
 have ho : wx.ownsRow w.heap.size 3 1 (.slice (some ⟨g, 0, none⟩) X.d.mt.length X.mc) X.d.mt.length (X.d.mt.map Tm.iv) := by
  have := h.rows.nd.m;unfold WkX.gm at this;rw [hg] at this;exact this
 have hgb : X.gm.ownBlock = some g := by
  unfold WkX.gm;rw [hg]
  rfl
 obtain ⟨s1, s2⟩ := ho.stored k (.int .i64 x);have hgr : wx.grownBy (wx.setCell ⟨g, k, none⟩ (.int .i64 x)) (Value.slice (some ⟨g, 0, none⟩) X.d.mt.length X.mc).ownBlock := s2;have hlt := (ho.lt g rfl).1;have hr := h.rows;have hbox := box_type hgr ho h.box (by decide);have e1 : (X.d.mt.set k x).length = X.d.mt.length := List.length_set ..;have e2 : (X.d.mt.map Tm.iv).set k (.int .i64 x) = (X.d.mt.set k x).map Tm.iv := by
  rw [List.map_set]
  rfl
 rw [e2] at s1;have hb : (wx.setCell ⟨g, k, none⟩ (.int .i64 x)).ownsRow w.heap.size 3 1 X.gb X.d.b.l.length (X.d.b.l.map Tm.iv) := Tm.ownOther _ hr.nd.b (fun j hj e => by
  subst e
  rcases hr.mb with h1 | h1
  ·rw [hgb] at h1;cases h1
  ·exact h1 (hgb.trans hj.symm))
 have hq : (wx.setCell ⟨g, k, none⟩ (.int .i64 x)).ownsRow w.heap.size 3 1 X.gn X.d.nx.length (X.d.nx.map Tm.iv) := Tm.ownOther _ hr.nd.n (fun j hj e => by
  subst e
  rcases hr.nm with h1 | h1
  ·rw [hj] at h1;cases h1
  ·exact h1 (hj.trans hgb.symm))
 have hl : (wx.setCell ⟨g, k, none⟩ (.int .i64 x)).ownsRow w.heap.size 55 3 X.gl X.d.L.l.length (entC X.d.L.l) := own_type hgr ho hr.nd.l (by decide);have eo : (Value.slice X.ma (X.d.mt.set k x).length X.mc).ownBlock = X.gm.ownBlock := by
  unfold WkX.gm;rw [e1]
 have nmY : X.gn.ownBlock = none ∨ X.gn.ownBlock ≠ (Value.slice X.ma (X.d.mt.set k x).length X.mc).ownBlock := by
  rw [eo];exact hr.nm
 have mbY : (Value.slice X.ma (X.d.mt.set k x).length X.mc).ownBlock = none ∨ (Value.slice X.ma (X.d.mt.set k x).length X.mc).ownBlock ≠ X.gb.ownBlock := by
  rw [eo];exact hr.mb
 refine ⟨?_, ⟨⟨hb, hl, hq, ?_⟩, own_type hgr ho hr.rs (by decide), fun y hy => (hr.ro y hy).kept hgr ho (by decide), own_type hgr ho hr.ms (by decide), fun y hy => (hr.mo y hy).kept hgr ho (by decide), nmY, hr.nb, mbY, hr.sb, hr.sl, hr.sn, ?_, hr.st, hr.sr, hr.sq⟩, h.hK, belowSet _ h.bel hlt⟩
 ·rw [hbox];unfold wkA;simp only [e1]
 ·unfold WkX.gm;simp only [e1, hg];exact s1
 ·simp only [e1];exact hr.sm
theorem WK.putX {X : WkX} {K : Nat} {w wx : World} (h : WK w K X wx) {g : Nat} (hg : X.na = some ⟨g, 0, none⟩) (k : Nat) (x : Int) : WK w K {X with d := {X.d with nx := X.d.nx.set k x}} (wx.setCell ⟨g, k, none⟩ (.int .i64 x)) := by
 have ho : wx.ownsRow w.heap.size 3 1 (.slice (some ⟨g, 0, none⟩) X.d.nx.length X.nc) X.d.nx.length (X.d.nx.map Tm.iv) := by
  have := h.rows.nd.n;unfold WkX.gn at this;rw [hg] at this;exact this
 have hgb : X.gn.ownBlock = some g := by
  unfold WkX.gn;rw [hg]
  rfl
 obtain ⟨s1, s2⟩ := ho.stored k (.int .i64 x);have hgr : wx.grownBy (wx.setCell ⟨g, k, none⟩ (.int .i64 x)) (Value.slice (some ⟨g, 0, none⟩) X.d.nx.length X.nc).ownBlock := s2;have hlt := (ho.lt g rfl).1;have hr := h.rows;have hbox := box_type hgr ho h.box (by decide);have e1 : (X.d.nx.set k x).length = X.d.nx.length := List.length_set ..;have e2 : (X.d.nx.map Tm.iv).set k (.int .i64 x) = (X.d.nx.set k x).map Tm.iv := by
  rw [List.map_set]
  rfl
 rw [e2] at s1;have hb : (wx.setCell ⟨g, k, none⟩ (.int .i64 x)).ownsRow w.heap.size 3 1 X.gb X.d.b.l.length (X.d.b.l.map Tm.iv) := Tm.ownOther _ hr.nd.b (fun j hj e => by
  subst e
  rcases hr.nb with h1 | h1
  ·rw [hgb] at h1;cases h1
  ·exact h1 (hgb.trans hj.symm))
 have hq : (wx.setCell ⟨g, k, none⟩ (.int .i64 x)).ownsRow w.heap.size 3 1 X.gm X.d.mt.length (X.d.mt.map Tm.iv) := Tm.ownOther _ hr.nd.m (fun j hj e => by
  subst e
  rcases hr.nm with h1 | h1
  ·rw [hgb] at h1;cases h1
  ·exact h1 (hgb.trans hj.symm))
 have hl : (wx.setCell ⟨g, k, none⟩ (.int .i64 x)).ownsRow w.heap.size 55 3 X.gl X.d.L.l.length (entC X.d.L.l) := own_type hgr ho hr.nd.l (by decide);have eo : (Value.slice X.na (X.d.nx.set k x).length X.nc).ownBlock = X.gn.ownBlock := by
  unfold WkX.gn;rw [e1]
 have nmY : (Value.slice X.na (X.d.nx.set k x).length X.nc).ownBlock = none ∨ (Value.slice X.na (X.d.nx.set k x).length X.nc).ownBlock ≠ X.gm.ownBlock := by
  rw [eo];exact hr.nm
 have nbY : (Value.slice X.na (X.d.nx.set k x).length X.nc).ownBlock = none ∨ (Value.slice X.na (X.d.nx.set k x).length X.nc).ownBlock ≠ X.gb.ownBlock := by
  rw [eo];exact hr.nb
 refine ⟨?_, ⟨⟨hb, hl, ?_, hq⟩, own_type hgr ho hr.rs (by decide), fun y hy => (hr.ro y hy).kept hgr ho (by decide), own_type hgr ho hr.ms (by decide), fun y hy => (hr.mo y hy).kept hgr ho (by decide), nmY, nbY, hr.mb, hr.sb, hr.sl, ?_, hr.sm, hr.st, hr.sr, hr.sq⟩, h.hK, belowSet _ h.bel hlt⟩
 ·rw [hbox];unfold wkA;simp only [e1]
 ·unfold WkX.gn;simp only [e1, hg];exact s1
 ·simp only [e1];exact hr.sn
theorem WR.mcell {B : Nat} {wx : World} {X : WkX} (h : WR B wx X) (k : Nat) (hk : k < X.d.mt.length) : ∃ g, X.ma = some ⟨g, 0, none⟩ ∧ wx.cell? ⟨g, k, none⟩ = some (.int .i64 (X.d.mt.getD k 0)) ∧ wx.frozen? ⟨g, k, none⟩ = false ∧ g < wx.heap.size := by
 have ho := h.nd.m;obtain ⟨_, ⟨hv, h0⟩ | ⟨g, cap, cur, hv, hB, hb, hn, hc, _, _⟩⟩ := ho
 ·omega
 ·have ho := h.nd.m;unfold WkX.gm at hv ho;simp only [Value.slice.injEq] at hv;rw [hv.1] at ho;refine ⟨g, hv.1, ?_, ho.frozenAt k, (Array.getElem?_eq_some_iff.1 hb).1⟩;rw [ho.cellAt k (by omega), Tm.map_get _ _ hk]
theorem WR.ncell {B : Nat} {wx : World} {X : WkX} (h : WR B wx X) (k : Nat) (hk : k < X.d.nx.length) : ∃ g, X.na = some ⟨g, 0, none⟩ ∧ wx.cell? ⟨g, k, none⟩ = some (.int .i64 (X.d.nx.getD k 0)) ∧ wx.frozen? ⟨g, k, none⟩ = false ∧ g < wx.heap.size := by
 have ho := h.nd.n;obtain ⟨_, ⟨hv, h0⟩ | ⟨g, cap, cur, hv, hB, hb, hn, hc, _, _⟩⟩ := ho
 ·omega
 ·have ho := h.nd.n;unfold WkX.gn at hv ho;simp only [Value.slice.injEq] at hv;rw [hv.1] at ho;refine ⟨g, hv.1, ?_, ho.frozenAt k, (Array.getElem?_eq_some_iff.1 hb).1⟩;rw [ho.cellAt k (by omega), Tm.map_get _ _ hk]
set_option maxRecDepth 100000 in
set_option maxHeartbeats 8000000 in
theorem eachS_is {X : WkX} {K : Nat} {w wx : World} {f : WkV → Nat → WkV} (h : WK w K X wx) (hn : 1 ≤ X.d.n ∧ X.d.n ≤ 7) (hM : X.M.length + 10 ≤ 1000000) (hc : ∀ (Y : WkX) (wy : World) (k : Nat), WK w K Y wy → Y.d = X.d → Y.M.length < 1000000 → 1 ≤ k → (k : Int) ≤ X.d.n → (k : Int) ≠ X.d.me → Calls Tryz.prog 89 #[.pointer (some ⟨K, 0, none⟩), .int .i64 (k : Int)] wy fun e w' => ∃ Y' : WkX, e = .returned (.tuple #[]) ∧ Y'.v = f Y.v k ∧ Y'.d = Y.d ∧ Y'.M.length = Y.M.length + 1 ∧ Y'.R = Y.R ∧ WK w K Y' w') : Calls Tryz.prog 88 #[.pointer (some ⟨K, 0, none⟩), .func (.func 89) #[.pointer (some ⟨K, 0, none⟩)] #[]] wx fun e w' => ∃ X' : WkX, e = .returned (.tuple #[]) ∧ X'.v = allW f X.v ∧ X'.d = X.d ∧ X'.M.length ≤ X.M.length + 7 ∧ X'.R = X.R ∧ WK w K X' w' := by
 have HX0 := hideIt h;have HC := hideIt hc;clear h hc
 go_enter Tryz.func88, Tryz.ntmps88
 go_wp2
 go_loopw [4] (fun v wr => ∃ (t : Nat) (Y : WkX), v = .int .i64 ((t : Int) + 1) ∧ (t : Int) ≤ X.d.n ∧ Hid (Y.v = eachW f t X.v ∧ Y.d = X.d ∧ Y.M.length ≤ X.M.length + t ∧ Y.R = X.R ∧ WK w K Y wr)) (fun v _ => (X.d.n + 1 - intOf v).toNat)
 case atStart => exact ⟨0, X, rfl, by omega, hideIt ⟨rfl, rfl, by omega, rfl, HX0.out⟩⟩
 case round =>
  clear HX0;obtain ⟨t, Y, rfl, ht, HY⟩ := hrel;obtain ⟨⟨k0, k1, k2, k3, k4, k5, k6, k7, k8, k9, k10, k11, k12, k13, k14, k15, k16, k17⟩, kf, kz⟩ := at18 HY.out.2.2.2.2.box;rw [HY.out.2.1] at k0 k1;clear k2 k3 k4 k5 k6 k7 k8 k9 k10 k11 k12 k13 k14 k15 k16 k17
  by_cases hlt : (t : Int) + 1 ≤ X.d.n
  ·by_cases hme : (t : Int) + 1 = X.d.me
   ·have HN : Hid (Y.v = eachW f (t + 1) X.v ∧ Y.d = X.d ∧ Y.M.length ≤ X.M.length + (t + 1) ∧ Y.R = X.R ∧ WK w K Y wr) := by
     obtain ⟨h1, h2, h3, hq, h4⟩ := HY.out;refine ⟨?_, h2, by omega, hq, h4⟩;unfold eachW;rw [← h1, if_pos]
     ·show ((t + 1 : Nat) : Int) = Y.d.me
      rw [h2, ← hme];omega
    clear HY;go_wp2
    go_roundw
    case rel => exact ⟨t + 1, Y, by go_num, by omega, HN⟩
    case measure => simp [intOf]; omega
   ·have HK := hideIt (HC.out Y wr (t + 1) HY.out.2.2.2.2 HY.out.2.1 (by have := HY.out.2.2.1; omega) (by omega) (by omega) (by omega))
    rw [show ((t + 1 : Nat) : Int) = (t : Int) + 1 by omega] at HK
    go_wp2_with fail
    refine HK.out.mono ?_;rintro e w1 ⟨Y', rfl, hv, hd, hl, hr, hw⟩;dsimp only;have HN : Hid (Y'.v = eachW f (t + 1) X.v ∧ Y'.d = X.d ∧ Y'.M.length ≤ X.M.length + (t + 1) ∧ Y'.R = X.R ∧ WK w K Y' w1) := by
     obtain ⟨h1, h2, h3, hq, h4⟩ := HY.out;refine ⟨?_, hd.trans h2, by omega, hr.trans hq, hw⟩;unfold eachW;rw [← h1, if_neg, hv]
     ·show ¬ ((t + 1 : Nat) : Int) = Y.d.me
      rw [h2];omega
    clear HK HY hv hd hl hr hw k0 k1 kf kz;go_wp2
    go_roundw
    case rel => exact ⟨t + 1, Y', by go_num, by omega, HN⟩
    case measure => simp [intOf]; omega
  ·have e : X.d.n.toNat = t := by omega
   have HN : Hid (Y.v = allW f X.v ∧ Y.d = X.d ∧ Y.M.length ≤ X.M.length + 7 ∧ Y.R = X.R ∧ WK w K Y wr) := by
    obtain ⟨h1, h2, h3, hq, h4⟩ := HY.out;refine ⟨?_, h2, by omega, hq, h4⟩;unfold allW;rw [h1]
    show _ = eachW f X.d.n.toNat X.v
    rw [e]
   clear HY;go_wp2
   go_end0
   first | exact ⟨Y, rfl, HN.out⟩ | exact ⟨rfl, Y, HN.out⟩
set_option maxRecDepth 100000 in
set_option maxHeartbeats 8000000 in
theorem eachP_is {X : WkX} {K : Nat} {w wx : World} {f : WkV → Nat → WkV} (h : WK w K X wx) (hn : 1 ≤ X.d.n ∧ X.d.n ≤ 7) (hM : X.M.length + 10 ≤ 1000000) (hc : ∀ (Y : WkX) (wy : World) (k : Nat), WK w K Y wy → Y.d = X.d → Y.M.length < 1000000 → 1 ≤ k → (k : Int) ≤ X.d.n → (k : Int) ≠ X.d.me → Calls Tryz.prog 92 #[.pointer (some ⟨K, 0, none⟩), .int .i64 (k : Int)] wy fun e w' => ∃ Y' : WkX, e = .returned (.tuple #[]) ∧ Y'.v = f Y.v k ∧ Y'.d = Y.d ∧ Y'.M.length = Y.M.length + 1 ∧ Y'.R = Y.R ∧ WK w K Y' w') : Calls Tryz.prog 88 #[.pointer (some ⟨K, 0, none⟩), .func (.func 92) #[.pointer (some ⟨K, 0, none⟩)] #[]] wx fun e w' => ∃ X' : WkX, e = .returned (.tuple #[]) ∧ X'.v = allW f X.v ∧ X'.d = X.d ∧ X'.M.length ≤ X.M.length + 7 ∧ X'.R = X.R ∧ WK w K X' w' := by
 have HX0 := hideIt h;have HC := hideIt hc;clear h hc
 go_enter Tryz.func88, Tryz.ntmps88
 go_wp2
 go_loopw [4] (fun v wr => ∃ (t : Nat) (Y : WkX), v = .int .i64 ((t : Int) + 1) ∧ (t : Int) ≤ X.d.n ∧ Hid (Y.v = eachW f t X.v ∧ Y.d = X.d ∧ Y.M.length ≤ X.M.length + t ∧ Y.R = X.R ∧ WK w K Y wr)) (fun v _ => (X.d.n + 1 - intOf v).toNat)
 case atStart => exact ⟨0, X, rfl, by omega, hideIt ⟨rfl, rfl, by omega, rfl, HX0.out⟩⟩
 case round =>
  clear HX0;obtain ⟨t, Y, rfl, ht, HY⟩ := hrel;obtain ⟨⟨k0, k1, k2, k3, k4, k5, k6, k7, k8, k9, k10, k11, k12, k13, k14, k15, k16, k17⟩, kf, kz⟩ := at18 HY.out.2.2.2.2.box;rw [HY.out.2.1] at k0 k1;clear k2 k3 k4 k5 k6 k7 k8 k9 k10 k11 k12 k13 k14 k15 k16 k17
  by_cases hlt : (t : Int) + 1 ≤ X.d.n
  ·by_cases hme : (t : Int) + 1 = X.d.me
   ·have HN : Hid (Y.v = eachW f (t + 1) X.v ∧ Y.d = X.d ∧ Y.M.length ≤ X.M.length + (t + 1) ∧ Y.R = X.R ∧ WK w K Y wr) := by
     obtain ⟨h1, h2, h3, hq, h4⟩ := HY.out;refine ⟨?_, h2, by omega, hq, h4⟩;unfold eachW;rw [← h1, if_pos]
     ·show ((t + 1 : Nat) : Int) = Y.d.me
      rw [h2, ← hme];omega
    clear HY;go_wp2
    go_roundw
    case rel => exact ⟨t + 1, Y, by go_num, by omega, HN⟩
    case measure => simp [intOf]; omega
   ·have HK := hideIt (HC.out Y wr (t + 1) HY.out.2.2.2.2 HY.out.2.1 (by have := HY.out.2.2.1; omega) (by omega) (by omega) (by omega))
    rw [show ((t + 1 : Nat) : Int) = (t : Int) + 1 by omega] at HK
    go_wp2_with fail
    refine HK.out.mono ?_;rintro e w1 ⟨Y', rfl, hv, hd, hl, hr, hw⟩;dsimp only;have HN : Hid (Y'.v = eachW f (t + 1) X.v ∧ Y'.d = X.d ∧ Y'.M.length ≤ X.M.length + (t + 1) ∧ Y'.R = X.R ∧ WK w K Y' w1) := by
     obtain ⟨h1, h2, h3, hq, h4⟩ := HY.out;refine ⟨?_, hd.trans h2, by omega, hr.trans hq, hw⟩;unfold eachW;rw [← h1, if_neg, hv]
     ·show ¬ ((t + 1 : Nat) : Int) = Y.d.me
      rw [h2];omega
    clear HK HY hv hd hl hr hw k0 k1 kf kz;go_wp2
    go_roundw
    case rel => exact ⟨t + 1, Y', by go_num, by omega, HN⟩
    case measure => simp [intOf]; omega
  ·have e : X.d.n.toNat = t := by omega
   have HN : Hid (Y.v = allW f X.v ∧ Y.d = X.d ∧ Y.M.length ≤ X.M.length + 7 ∧ Y.R = X.R ∧ WK w K Y wr) := by
    obtain ⟨h1, h2, h3, hq, h4⟩ := HY.out;refine ⟨?_, h2, by omega, hq, h4⟩;unfold allW;rw [h1]
    show _ = eachW f X.d.n.toNat X.v
    rw [e]
   clear HY;go_wp2
   go_end0
   first | exact ⟨Y, rfl, HN.out⟩ | exact ⟨rfl, Y, HN.out⟩
theorem pollK_is {X : WkX} {K : Nat} {w wx : World} (h : WK w K X wx) (k : Nat) (hs : X.M.length < 1000000) : Calls Tryz.prog 92 #[.pointer (some ⟨K, 0, none⟩), .int .i64 (k : Int)] wx fun e w' => ∃ Y' : WkX, e = .returned (.tuple #[]) ∧ Y'.v = pollW X.v k ∧ Y'.d = X.d ∧ Y'.M.length = X.M.length + 1 ∧ Y'.R = X.R ∧ WK w K Y' w' := by
 refine (poll_is h (k : Int) hs).mono ?_;rintro e w' ⟨a, c, rfl, hw⟩
 exact ⟨{X with M := X.M ++ [⟨{msg0 1 k with frm := X.d.me, term := X.d.b.t, pi := (lastL X.d.L).1, pt := (lastL X.d.L).2}, none, 0⟩], qa := a, qc := c}, rfl, by simp [WkX.v, pollW, tellW], rfl, by simp, rfl, hw⟩
set_option maxRecDepth 100000 in
set_option maxHeartbeats 8000000 in
theorem sendK_is {X : WkX} {K : Nat} {w wx : World} (h : WK w K X wx) (k : Nat) (hk : k < X.d.nx.length) (hb : 0 ≤ X.d.nx.getD k 0 ∧ X.d.nx.getD k 0 ≤ 1000001) (hs : X.M.length < 1000000) : Calls Tryz.prog 89 #[.pointer (some ⟨K, 0, none⟩), .int .i64 (k : Int)] wx fun e w' => ∃ Y' : WkX, e = .returned (.tuple #[]) ∧ Y'.v = sendW X.v k ∧ Y'.d = X.d ∧ Y'.M.length = X.M.length + 1 ∧ Y'.R = X.R ∧ WK w K Y' w' := by
 obtain ⟨⟨k0, k1, k2, k3, k4, k5, k6, k7, k8, k9, k10, k11, k12, k13, k14, k15, k16, k17⟩, kf, kz⟩ := at18 h.box;obtain ⟨g, hg, n0, nf, nz⟩ := h.rows.ncell k hk;rw [hg] at k12;have hsz := h.rows.sn;obtain ⟨hcap1, hcap2⟩ : X.d.nx.length ≤ X.nc ∧ X.nc ≤ maxLen := by
  obtain ⟨_, ⟨hv, h0⟩ | ⟨g', cap, cur, hv, hB, hb, hn, hc, _, _⟩⟩ := h.rows.nd.n
  ·omega
  ·unfold WkX.gn at hv;simp only [Value.slice.injEq] at hv;omega
 have hk0 : (0 : Int) ≤ (k : Int) := by omega
 have hkl : (k : Int) < (X.d.nx.length : Int) := by omega
 have HV : Hid (sendW X.v k = if X.d.nx.getD k 0 ≤ X.d.L.bi then tellW X.v {msg0 5 k with si := X.d.L.bi, st := X.d.L.bt, tx := X.d.tx} else tellW X.v {msg0 3 k with pi := X.d.nx.getD k 0 - 1, pt := (termL X.d.L (X.d.nx.getD k 0 - 1)).1, es := fromL X.d.L (X.d.nx.getD k 0) 16, cm := X.d.L.cm}) := hideIt rfl;have HX := hideIt h
 by_cases c : X.d.nx.getD k 0 ≤ X.d.L.bi
 ·rw [if_pos c] at HV;have HS := hideIt (snapV_is h);have HT := hideIt (fun W (hW : Below wx.heap.size wx W) => tell_is (h.keep hW) ⟨{msg0 5 k with si := X.d.L.bi, st := X.d.L.bt, tx := X.d.tx}, none, 0⟩ (EntO.nil _ _) hs);clear h hs;unfold msgE msg0 noT at HT;simp only [List.length_nil] at HT;generalize X.d.nx.getD k 0 = nxt at *
  go_enter Tryz.func89, Tryz.ntmps89
  go_wp2_with fail
  refine HS.out.mono ?_;rintro e w1 ⟨rfl, hb1⟩;dsimp only;have HT1 := hideIt (HT.out w1 hb1);clear hb1 HT HS k0 k1 k2 k3 k4 k5 k6 k7 k8 k9 k10 k11 k12 k13 k14 k15 k16 k17 kf kz n0 nf nz HX
  go_wp2_with fail
  refine HT1.out.mono ?_;rintro e w2 ⟨a, c, rfl, hw⟩;dsimp only;have HW := hideIt hw;clear hw HT1;go_wp2;refine bodyPost_ret (v := .tuple #[]) (by simp [results, Tryz.results89, go_sem]) rfl ?_;refine ⟨{X with M := X.M ++ [⟨{msg0 5 k with frm := X.d.me, term := X.d.b.t, si := X.d.L.bi, st := X.d.L.bt, tx := X.d.tx}, none, 0⟩], qa := a, qc := c}, rfl, ?_, rfl, by simp, rfl, HW.out⟩;rw [HV.out]
  simp [WkX.v, tellW, msg0, noT]
 ·rw [if_neg c] at HV;have HA := hideIt (termAt_is X.d.L X.gl (X.d.nx.getD k 0 - 1) wx h.rows.at_.2);have HF := hideIt (fun W (hW : Below wx.heap.size wx W) => from_is X.d.L X.gl (X.d.nx.getD k 0) 16 W (h.keep hW).rows.at_.2 ⟨by unfold i64B; omega, by unfold i64B; omega⟩)
  have hfl := fromL_len X.d.L (X.d.nx.getD k 0) 16 (by omega);clear h;unfold EntsBack at HF;unfold logV logA WkX.gl at HA HF;generalize X.d.nx.getD k 0 = nxt at *;generalize fromL X.d.L nxt 16 = F at *;generalize (termL X.d.L (nxt - 1)).1 = pt at *;generalize (termL X.d.L (nxt - 1)).2 = pok at *
  go_enter Tryz.func89, Tryz.ntmps89
  go_wp2_with fail
  refine HA.out.mono ?_;rintro e w1 ⟨rfl, hb1⟩;dsimp only;have hwr : IntKind.i64.wrap (nxt - 1) = nxt - 1 := by rw [IntKind.wrap_i64]; omega
  have HX1 := hideIt (HX.out.keep hb1);have HF2 : Hid (∀ W, Below w1.heap.size w1 W → Calls Tryz.prog 51 #[.agg #[.int .i64 X.d.L.bi, .int .i64 X.d.L.bt, .slice X.la X.d.L.l.length X.lc, .int .i64 X.d.L.cm], .int .i64 nxt, .int .i64 16] W fun e w' => ∃ fa fc, e = .returned (.slice fa F.length fc) ∧ Hid (w'.ownsRow w1.heap.size 55 3 (.slice fa F.length fc) F.length (entC F) ∧ Below w1.heap.size w1 w') ∧ (w'.cell? ⟨K, 7, none⟩ = some (.int .i64 X.d.L.bi) ∧ w'.cell? ⟨K, 8, none⟩ = some (.int .i64 X.d.L.bt) ∧ w'.cell? ⟨K, 9, none⟩ = some (.slice X.la X.d.L.l.length X.lc) ∧ w'.cell? ⟨K, 10, none⟩ = some (.int .i64 X.d.L.cm))) := by
   intro W hW;refine (HF.out W (below_via hb1 hW)).mono ?_;rintro e w' ⟨r, rfl, ho, hbl⟩;obtain ⟨fa, fc, rfl⟩ := own_len ho;have hb2 := below_via hW hbl;obtain ⟨⟨k0, k1, k2, k3, k4, k5, k6, k7, k8, k9, k10, k11, k12, k13, k14, k15, k16, k17⟩, kf, kz⟩ := at18 (HX1.out.keep hb2).box
   exact ⟨fa, fc, rfl, hideIt ⟨own_base ho hW.size, hb2⟩, k7, k8, k9, k10⟩
  have HTT : Hid (∀ W fa fc, Hid (W.ownsRow w1.heap.size 55 3 (.slice fa F.length fc) F.length (entC F) ∧ Below w1.heap.size w1 W) → Calls Tryz.prog 130 #[.pointer (some ⟨K, 0, none⟩), .agg #[.int .i64 3, .int .i64 0, .int .i64 (k : Int), .int .i64 0, .int .i64 (nxt - 1), .int .i64 pt, .slice fa F.length fc, .int .i64 X.d.L.cm, .bool false, .int .i64 0, .int .i64 0, .int .i64 0, .string ⟨#[]⟩]] W fun e w' => e = .returned (.tuple #[]) ∧ Hid (∃ a c, WK w K {X with M := X.M ++ [⟨{msg0 3 k with frm := X.d.me, term := X.d.b.t, pi := nxt - 1, pt := pt, es := F, cm := X.d.L.cm}, fa, fc⟩], qa := a, qc := c} w') ∧ (w'.cell? ⟨K, 7, none⟩ = some (.int .i64 X.d.L.bi) ∧ w'.cell? ⟨K, 8, none⟩ = some (.int .i64 X.d.L.bt) ∧ w'.cell? ⟨K, 9, none⟩ = some (.slice X.la X.d.L.l.length X.lc) ∧ w'.cell? ⟨K, 10, none⟩ = some (.int .i64 X.d.L.cm))) := by
   intro W fa fc hQ;refine (tell_is (HX1.out.keep hQ.out.2) ⟨{msg0 3 k with pi := nxt - 1, pt := pt, es := F, cm := X.d.L.cm}, fa, fc⟩ ⟨own_base hQ.out.1 HX1.out.bel.size, hfl⟩ hs).mono ?_;rintro e w' ⟨a, c, rfl, hw⟩;obtain ⟨⟨k0, k1, k2, k3, k4, k5, k6, k7, k8, k9, k10, k11, k12, k13, k14, k15, k16, k17⟩, kf, kz⟩ := at18 hw.box
   exact ⟨rfl, hideIt ⟨a, c, hw⟩, k7, k8, k9, k10⟩
  clear HA HF k0 k1 k2 k3 k4 k5 k6 k7 k8 k9 k10 k11 k12 k13 k14 k15 k16 k17 kf kz n0 nf nz hb1;obtain ⟨⟨-, -, -, -, -, -, -, k7, k8, k9, k10, -, -, -, -, -, -, -⟩, kf, kz⟩ := at18 HX1.out.box
  go_upto_region 4 with fail
  go_region_held3 (fun W => W.cell? ⟨K, 7, none⟩ = some (.int .i64 X.d.L.bi) ∧ W.cell? ⟨K, 8, none⟩ = some (.int .i64 X.d.L.bt) ∧ W.cell? ⟨K, 9, none⟩ = some (.slice X.la X.d.L.l.length X.lc) ∧ W.cell? ⟨K, 10, none⟩ = some (.int .i64 X.d.L.cm)) (go_keep) (first | (go_at_call 51; refine (HF2.out _ (by first | exact (Below.refl _ _).drew | exact Below.refl _ _)).mono ?_; rintro e w2 ⟨fa, fc, rfl, HQ, ⟨i0, i1, i2, i3⟩⟩) | (go_at_call 130; refine (HTT.out w2 fa fc HQ).mono ?_; rintro e w3 ⟨rfl, HW, ⟨m0, m1, m2, m3⟩⟩))
  all_goals go_wp2
  all_goals go_end0
  all_goals (obtain ⟨a, c, hw⟩ := HW.out; refine ⟨{X with M := X.M ++ [⟨{msg0 3 k with frm := X.d.me, term := X.d.b.t, pi := nxt - 1, pt := pt, es := F, cm := X.d.L.cm}, fa, fc⟩], qa := a, qc := c}, rfl, ?_, rfl, by simp, rfl, hw⟩; rw [HV.out]; simp [WkX.v, tellW, msg0, noT])
end Go.Proofs.YtcaehfkfohianaaGreat
