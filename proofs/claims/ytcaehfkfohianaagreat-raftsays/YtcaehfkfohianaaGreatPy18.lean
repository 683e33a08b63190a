/- Texts of my own, laid together. -/
import Derived.Test.YtcaehfkfohianaaGreatPy15
import Derived.Test.YtcaehfkfohianaaGreatPy17
import Derived.Test.YtcaehfkfohianaaGreatPy16
set_option linter.all false
namespace Go.Proofs.YtcaehfkfohianaaGreat
open Go.RowKit
def Kp (K : Nat) (a b : World) : Prop := ∀ p cs t, a.heap[p]? = some (.cells cs t (0, 0)) → p ≠ K → (63 : TypeId) ≠ t → b.heap[p]? = some (.cells cs t (0, 0))
theorem Kp.below (K : Nat) {a b : World} (h : Below a.heap.size a b) : Kp K a b := fun p cs t hh _ _ => blkK hh h
theorem Kp.set (K : Nat) (a : World) (j : Nat) (v : Value) : Kp K a (a.setCell ⟨K, j, none⟩ v) := fun p cs t hh hp _ => setOther v hh hp
theorem Kp.trans {K : Nat} {a b c : World} (h : Kp K a b) (k : Kp K b c) : Kp K a c := fun p cs t hh hp ht => k p cs t (h p cs t hh hp ht) hp ht
theorem Kp.grown (K : Nat) {a b : World} {B n : Nat} {v : Value} {xs : List Value} (hg : a.grownBy b v.ownBlock) (ho : a.ownsRow B 63 8 v n xs) : Kp K a b := fun p cs t hh _ ht => box_type hg ho hh ht
set_option maxRecDepth 100000 in
set_option maxHeartbeats 4000000 in
theorem follow_is2 {X : WkX} {K : Nat} {w wx : World} (h : WK w K X wx) (ld : Int) : Calls Tryz.prog 140 #[.pointer (some ⟨K, 0, none⟩), .int .i64 ld] wx fun e w' => e = .returned (.tuple #[]) ∧ WK w K {X with d := {X.d with b := ⟨X.d.b.t, X.d.b.v, 1, []⟩, ld := ld, nx := [], mt := []}, ba := none, bc := 0, na := none, nc := 0, ma := none, mc := 0} w' ∧ Kp K wx w' := by
 obtain ⟨⟨k0, k1, k2, k3, k4, k5, k6, k7, k8, k9, k10, k11, k12, k13, k14, k15, k16, k17⟩, kf, kz⟩ := at18 h.box;have b0 : (wx.setCell ⟨K, 4, none⟩ (.int .i64 1)).heap[K]? = some (.cells #[.int .i64 X.d.me, .int .i64 X.d.n, .int .i64 X.d.b.t, .int .i64 X.d.b.v, .int .i64 1, .slice X.ba X.d.b.l.length X.bc, .int .i64 X.d.ld, .int .i64 X.d.L.bi, .int .i64 X.d.L.bt, .slice X.la X.d.L.l.length X.lc, .int .i64 X.d.L.cm, .string X.d.tx, .slice X.na X.d.nx.length X.nc, .slice X.ma X.d.mt.length X.mc, .slice X.ra X.R.length X.rc, .slice X.qa X.M.length X.qc, .int .i64 X.ix, .bool X.wt] 78 (0, 0)) := heap_set h.box 4 (.int .i64 1);have r0 : WR w.heap.size (wx.setCell ⟨K, 4, none⟩ (.int .i64 1)) X := h.rows.cell h.box (by decide) (by decide) (by decide) (by decide);have l0 : Below w.heap.size w (wx.setCell ⟨K, 4, none⟩ (.int .i64 1)) := belowSet _ h.bel h.hK;have b1 : ((wx.setCell ⟨K, 4, none⟩ (.int .i64 1)).setCell ⟨K, 5, none⟩ (.slice none 0 0)).heap[K]? = some (.cells #[.int .i64 X.d.me, .int .i64 X.d.n, .int .i64 X.d.b.t, .int .i64 X.d.b.v, .int .i64 1, .slice none 0 0, .int .i64 X.d.ld, .int .i64 X.d.L.bi, .int .i64 X.d.L.bt, .slice X.la X.d.L.l.length X.lc, .int .i64 X.d.L.cm, .string X.d.tx, .slice X.na X.d.nx.length X.nc, .slice X.ma X.d.mt.length X.mc, .slice X.ra X.R.length X.rc, .slice X.qa X.M.length X.qc, .int .i64 X.ix, .bool X.wt] 78 (0, 0)) := heap_set b0 5 (.slice none 0 0);have r1 : WR w.heap.size ((wx.setCell ⟨K, 4, none⟩ (.int .i64 1)).setCell ⟨K, 5, none⟩ (.slice none 0 0)) X := r0.cell b0 (by decide) (by decide) (by decide) (by decide);have l1 : Below w.heap.size w ((wx.setCell ⟨K, 4, none⟩ (.int .i64 1)).setCell ⟨K, 5, none⟩ (.slice none 0 0)) := belowSet _ l0 h.hK;have b2 : (((wx.setCell ⟨K, 4, none⟩ (.int .i64 1)).setCell ⟨K, 5, none⟩ (.slice none 0 0)).setCell ⟨K, 6, none⟩ (.int .i64 ld)).heap[K]? = some (.cells #[.int .i64 X.d.me, .int .i64 X.d.n, .int .i64 X.d.b.t, .int .i64 X.d.b.v, .int .i64 1, .slice none 0 0, .int .i64 ld, .int .i64 X.d.L.bi, .int .i64 X.d.L.bt, .slice X.la X.d.L.l.length X.lc, .int .i64 X.d.L.cm, .string X.d.tx, .slice X.na X.d.nx.length X.nc, .slice X.ma X.d.mt.length X.mc, .slice X.ra X.R.length X.rc, .slice X.qa X.M.length X.qc, .int .i64 X.ix, .bool X.wt] 78 (0, 0)) := heap_set b1 6 (.int .i64 ld);have r2 : WR w.heap.size (((wx.setCell ⟨K, 4, none⟩ (.int .i64 1)).setCell ⟨K, 5, none⟩ (.slice none 0 0)).setCell ⟨K, 6, none⟩ (.int .i64 ld)) X := r1.cell b1 (by decide) (by decide) (by decide) (by decide);have l2 : Below w.heap.size w (((wx.setCell ⟨K, 4, none⟩ (.int .i64 1)).setCell ⟨K, 5, none⟩ (.slice none 0 0)).setCell ⟨K, 6, none⟩ (.int .i64 ld)) := belowSet _ l1 h.hK;have b3 : ((((wx.setCell ⟨K, 4, none⟩ (.int .i64 1)).setCell ⟨K, 5, none⟩ (.slice none 0 0)).setCell ⟨K, 6, none⟩ (.int .i64 ld)).setCell ⟨K, 12, none⟩ (.slice none 0 0)).heap[K]? = some (.cells #[.int .i64 X.d.me, .int .i64 X.d.n, .int .i64 X.d.b.t, .int .i64 X.d.b.v, .int .i64 1, .slice none 0 0, .int .i64 ld, .int .i64 X.d.L.bi, .int .i64 X.d.L.bt, .slice X.la X.d.L.l.length X.lc, .int .i64 X.d.L.cm, .string X.d.tx, .slice none 0 0, .slice X.ma X.d.mt.length X.mc, .slice X.ra X.R.length X.rc, .slice X.qa X.M.length X.qc, .int .i64 X.ix, .bool X.wt] 78 (0, 0)) := heap_set b2 12 (.slice none 0 0);have r3 : WR w.heap.size ((((wx.setCell ⟨K, 4, none⟩ (.int .i64 1)).setCell ⟨K, 5, none⟩ (.slice none 0 0)).setCell ⟨K, 6, none⟩ (.int .i64 ld)).setCell ⟨K, 12, none⟩ (.slice none 0 0)) X := r2.cell b2 (by decide) (by decide) (by decide) (by decide);have l3 : Below w.heap.size w ((((wx.setCell ⟨K, 4, none⟩ (.int .i64 1)).setCell ⟨K, 5, none⟩ (.slice none 0 0)).setCell ⟨K, 6, none⟩ (.int .i64 ld)).setCell ⟨K, 12, none⟩ (.slice none 0 0)) := belowSet _ l2 h.hK;have b4 : (((((wx.setCell ⟨K, 4, none⟩ (.int .i64 1)).setCell ⟨K, 5, none⟩ (.slice none 0 0)).setCell ⟨K, 6, none⟩ (.int .i64 ld)).setCell ⟨K, 12, none⟩ (.slice none 0 0)).setCell ⟨K, 13, none⟩ (.slice none 0 0)).heap[K]? = some (.cells #[.int .i64 X.d.me, .int .i64 X.d.n, .int .i64 X.d.b.t, .int .i64 X.d.b.v, .int .i64 1, .slice none 0 0, .int .i64 ld, .int .i64 X.d.L.bi, .int .i64 X.d.L.bt, .slice X.la X.d.L.l.length X.lc, .int .i64 X.d.L.cm, .string X.d.tx, .slice none 0 0, .slice none 0 0, .slice X.ra X.R.length X.rc, .slice X.qa X.M.length X.qc, .int .i64 X.ix, .bool X.wt] 78 (0, 0)) := heap_set b3 13 (.slice none 0 0);have r4 : WR w.heap.size (((((wx.setCell ⟨K, 4, none⟩ (.int .i64 1)).setCell ⟨K, 5, none⟩ (.slice none 0 0)).setCell ⟨K, 6, none⟩ (.int .i64 ld)).setCell ⟨K, 12, none⟩ (.slice none 0 0)).setCell ⟨K, 13, none⟩ (.slice none 0 0)) X := r3.cell b3 (by decide) (by decide) (by decide) (by decide);have l4 : Below w.heap.size w (((((wx.setCell ⟨K, 4, none⟩ (.int .i64 1)).setCell ⟨K, 5, none⟩ (.slice none 0 0)).setCell ⟨K, 6, none⟩ (.int .i64 ld)).setCell ⟨K, 12, none⟩ (.slice none 0 0)).setCell ⟨K, 13, none⟩ (.slice none 0 0)) := belowSet _ l3 h.hK;have HF : Hid (WK w K {X with d := {X.d with b := ⟨X.d.b.t, X.d.b.v, 1, []⟩, ld := ld, nx := [], mt := []}, ba := none, bc := 0, na := none, nc := 0, ma := none, mc := 0} (((((wx.setCell ⟨K, 4, none⟩ (.int .i64 1)).setCell ⟨K, 5, none⟩ (.slice none 0 0)).setCell ⟨K, 6, none⟩ (.int .i64 ld)).setCell ⟨K, 12, none⟩ (.slice none 0 0)).setCell ⟨K, 13, none⟩ (.slice none 0 0))) := hideIt ⟨b4, ⟨⟨nil_own _ _, r4.nd.l, nil_own _ _, nil_own _ _⟩, r4.rs, r4.ro, r4.ms, r4.mo, .inl rfl, .inl rfl, .inl rfl, by simp, r4.sl, by simp, by simp, r4.st, r4.sr, r4.sq⟩, h.hK, l4⟩;have HKP : Hid (Kp K wx (((((wx.setCell ⟨K, 4, none⟩ (.int .i64 1)).setCell ⟨K, 5, none⟩ (.slice none 0 0)).setCell ⟨K, 6, none⟩ (.int .i64 ld)).setCell ⟨K, 12, none⟩ (.slice none 0 0)).setCell ⟨K, 13, none⟩ (.slice none 0 0))) := hideIt (((((Kp.set K wx 4 _).trans (Kp.set K _ 5 _)).trans (Kp.set K _ 6 _)).trans (Kp.set K _ 12 _)).trans (Kp.set K _ 13 _));clear b0 b1 b2 b3 b4 r0 r1 r2 r3 r4 l0 l1 l2 l3 l4 h
 go_enter Tryz.func140, Tryz.ntmps140
 go_wp2
 go_end0
 exact ⟨rfl, HF.out, HKP.out⟩
theorem rec_app2 {X : WkX} {K b : Nat} {w V : World} (h : WK w K X V) (x : RecX) (hb : V.heap[b]? = some (.cells (recE x).toArray 63 (0, 0))) (hx : EntO w.heap.size V x.a x.c x.r.es) (hs : X.R.length < 1000000) : ∃ a c w', (Builtin.append_ #[43, 43] 43 #[.slice X.ra X.R.length X.rc, .slice (some ⟨b, 0, none⟩) 1 1]).run Tryz.prog V = .ok (.slice a (X.R.length + 1) c) w' ∧ Hid (w'.heap[K]? = some (.cells (wkA X) 78 (0, 0)) ∧ WK w K {X with R := X.R ++ [x], ra := a, rc := c} (w'.setCell ⟨K, 14, none⟩ (.slice a (X.R.length + 1) c)) ∧ Kp K V (w'.setCell ⟨K, 14, none⟩ (.slice a (X.R.length + 1) c))) := by
 obtain ⟨v', w', hrun, how, hgr⟩ := app1 (enc := recE) (t := 43) recK rec1 Tryz.underlying43 infoRec rfl (by omega) V w.heap.size (.slice X.ra X.R.length X.rc) X.R x b 1 h.bel.size h.rows.rs hb (by omega) (by unfold maxLen; omega)
 obtain ⟨a', c', rfl⟩ := own_len how;have hlen : (X.R ++ [x]).length = X.R.length + 1 := by simp
 have hbox := box_type hgr h.rows.rs h.box (by decide);refine ⟨a', c', w', by rw [← hlen]; exact hrun, hideIt ⟨hbox, ?_⟩⟩
 have hr := h.rows.addR x hgr hx how hs;have hh := heap_set hbox 14 (.slice a' (X.R.length + 1) c');refine ⟨⟨?_, hr.cell hbox (by decide) (by decide) (by decide) (by decide), h.hK, belowSet _ (below_out h.bel (Out.ofGrown (F := fun k => w.heap.size ≤ k) hgr (fun k hk => (h.rows.rs.lt k hk).1)) (fun _ h => h)) h.hK⟩, (Kp.grown K hgr h.rows.rs).trans (Kp.set K w' 14 _)⟩;rw [hh];unfold wkA;simp only [hlen]
 rfl
set_option maxRecDepth 100000 in
set_option maxHeartbeats 4000000 in
theorem keepTail_is2 {X : WkX} {K : Nat} {w wx : World} (h : WK w K X wx) (i : Int) (hi : i64B i) (hs : X.R.length < 1000000) : Calls Tryz.prog 137 #[.pointer (some ⟨K, 0, none⟩), .int .i64 i] wx fun e w' => ∃ fa fc a c, e = .returned (.tuple #[]) ∧ WK w K {X with R := X.R ++ [⟨⟨2, 0, 0, i, fromL X.d.L i 400, 0, 0, noT⟩, fa, fc⟩], ra := a, rc := c} w' ∧ Kp K wx w' := by
 obtain ⟨⟨k0, k1, k2, k3, k4, k5, k6, k7, k8, k9, k10, k11, k12, k13, k14, k15, k16, k17⟩, kf, kz⟩ := at18 h.box;have HL := hideIt (from_is X.d.L X.gl i 400 wx h.rows.at_.2 ⟨hi, by unfold i64B; omega⟩)
 have hfl := fromL_len X.d.L i 400 (by omega);have HX := hideIt h;clear h;unfold EntsBack logV logA WkX.gl at HL;generalize fromL X.d.L i 400 = F at *
 go_enter Tryz.func137, Tryz.ntmps137
 go_wp2_with fail
 refine HL.out.mono ?_;rintro e w1 ⟨g, rfl, ho, hb⟩;dsimp only;obtain ⟨fa, fc, rfl⟩ := own_len ho;have h1 := HX.out.keep hb;have hbb := below1 w1 (.cells (recE ⟨⟨2, 0, 0, i, F, 0, 0, noT⟩, fa, fc⟩).toArray 63);obtain ⟨a', c', w2, hrun, HW⟩ := rec_app2 (h1.keep hbb) ⟨⟨2, 0, 0, i, F, 0, 0, noT⟩, fa, fc⟩ (heap_alloc_new w1 _) ⟨own_keep (own_base ho HX.out.bel.size) hbb, hfl⟩ hs;have HKP := hideIt (((Kp.below K hb).trans (Kp.below K hbb)).trans HW.out.2.2);unfold recE noT at hrun;dsimp only at hrun;have HRUN := hideIt hrun;obtain ⟨⟨q0, q1, q2, q3, q4, q5, q6, q7, q8, q9, q10, q11, q12, q13, q14, q15, q16, q17⟩, qf, qz⟩ := at18 h1.box;obtain ⟨⟨-, -, -, -, -, -, -, -, -, -, -, -, -, -, r14, -, -, -⟩, rf, rz⟩ := at18 HW.out.1;clear hrun h1 hbb ho hb HX HL k0 k1 k2 k3 k4 k5 k6 k7 k8 k9 k10 k11 k12 k13 k14 k15 k16 k17 kf kz hs hi hfl;generalize F.length = fl at *
 go_wp2_with (at_builtin; go_loud (refine Lib.wpList_append_run _ rfl _ _ _ _ rfl _ _ rfl rfl _ _ HRUN.out ?_))
 clear HRUN;go_wp2
 go_end0
 exact ⟨_, _, _, _, rfl, HW.out.2.1, HKP.out⟩
set_option maxRecDepth 100000 in
set_option maxHeartbeats 8000000 in
theorem keepSnap_is2 {X : WkX} {K : Nat} {w wx : World} (h : WK w K X wx) (hs : X.R.length < 1000000) : Calls Tryz.prog 100 #[.pointer (some ⟨K, 0, none⟩)] wx fun e w' => ∃ a c, e = .returned (.tuple #[]) ∧ WK w K {X with R := X.R ++ [⟨⟨3, 0, 0, 0, [], X.d.L.bi, X.d.L.bt, X.d.tx⟩, none, 0⟩], ra := a, rc := c} w' ∧ Kp K wx w' := by
 obtain ⟨⟨k0, k1, k2, k3, k4, k5, k6, k7, k8, k9, k10, k11, k12, k13, k14, k15, k16, k17⟩, kf, kz⟩ := at18 h.box;have HS := hideIt (fun W (hW : Below wx.heap.size wx W) => snapV_is (h.keep hW));have HR : Hid (∀ W, Below wx.heap.size wx W → (∃ a c w2, (Builtin.append_ #[43, 43] 43 #[.slice X.ra X.R.length X.rc, .slice (some ⟨W.heap.size, 0, none⟩) 1 1]).run Tryz.prog (W.alloc (.cells #[.int .i64 3, .int .i64 0, .int .i64 0, .int .i64 0, .slice none 0 0, .int .i64 X.d.L.bi, .int .i64 X.d.L.bt, .string X.d.tx] 63)) = .ok (.slice a (X.R.length + 1) c) w2 ∧ w2.cell? ⟨K, 14, none⟩ = some (.slice X.ra X.R.length X.rc) ∧ (∀ j, w2.frozen? ⟨K, j, none⟩ = false) ∧ K < w2.heap.size ∧ Hid (WK w K {X with R := X.R ++ [⟨⟨3, 0, 0, 0, [], X.d.L.bi, X.d.L.bt, X.d.tx⟩, none, 0⟩], ra := a, rc := c} (w2.setCell ⟨K, 14, none⟩ (.slice a (X.R.length + 1) c)) ∧ Kp K wx (w2.setCell ⟨K, 14, none⟩ (.slice a (X.R.length + 1) c)))) ∧ W.cell? ⟨K, 14, none⟩ = some (.slice X.ra X.R.length X.rc) ∧ K < W.heap.size) := by
  intro W hW;have h1 := h.keep hW;have hbb := below1 W (.cells (recE ⟨⟨3, 0, 0, 0, [], X.d.L.bi, X.d.L.bt, X.d.tx⟩, none, 0⟩).toArray 63);obtain ⟨a', c', w2, hrun, HW⟩ := rec_app2 (h1.keep hbb) ⟨⟨3, 0, 0, 0, [], X.d.L.bi, X.d.L.bt, X.d.tx⟩, none, 0⟩ (heap_alloc_new W _) (EntO.nil _ _) hs;obtain ⟨⟨-, -, -, -, -, -, -, -, -, -, -, -, -, -, r14, -, -, -⟩, rf, rz⟩ := at18 HW.out.1;obtain ⟨⟨-, -, -, -, -, -, -, -, -, -, -, -, -, -, q14, -, -, -⟩, qf, qz⟩ := at18 h1.box
  exact ⟨⟨a', c', w2, hrun, r14, rf, rz, hideIt ⟨HW.out.2.1, ((Kp.below K hW).trans (Kp.below K hbb)).trans HW.out.2.2⟩⟩, q14, qz⟩
 clear h hs
 go_enter Tryz.func100, Tryz.ntmps100
 go_region_law (first
  | (refine step_run rfl _ _ 43 43 rfl rfl rfl rfl hrun ?_)
  | (go_simp; refine (HS.out wx.drew (Below.refl _ _).drew).mono ?_; rintro e w1 ⟨rfl, hb⟩; dsimp only; obtain ⟨⟨a', c', w2, hrun, r14, rf, rz, HW⟩, q14, qz⟩ := HR.out w1 (below_via (Below.refl _ _).drew hb); clear hb))
 all_goals go_wp2
 all_goals go_end0
 all_goals exact ⟨_, _, rfl, HW.out.1, HW.out.2⟩
set_option maxRecDepth 100000 in
set_option maxHeartbeats 8000000 in
theorem hearW_is2 {X : WkX} {K : Nat} {w wx : World} (h : WK w K X wx) (t : Int) : Calls Tryz.prog 97 #[.pointer (some ⟨K, 0, none⟩), .int .i64 t] wx fun e w' => ∃ X' : WkX, e = .returned (.tuple #[]) ∧ X'.v = hearW X.v t ∧ WK w K X' w' ∧ Kp K wx w' := by
 have HE := hideIt (Tm.hear_is X.d.b X.gb t wx h.rows.at_.1);have hl := hear_few X.d.b t h.rows.sb;have HH : Hid (hearW X.v t = if (Tm.hear2L X.d.b t).1.t = X.d.b.t ∧ (Tm.hear2L X.d.b t).1.v = X.d.b.v then X.v else follW {X.v with d := {X.v.d with b := (Tm.hear2L X.d.b t).1}} 0) := hideIt rfl;obtain ⟨⟨k0, k1, k2, k3, k4, k5, k6, k7, k8, k9, k10, k11, k12, k13, k14, k15, k16, k17⟩, kf, kz⟩ := at18 h.box;have HX0 := hideIt h;clear h;unfold Tm.BalErr Tm.balV WkX.gb at HE;generalize Tm.hear2L X.d.b t = Z at *
 go_enter Tryz.func97, Tryz.ntmps97
 go_wp2_with fail
 refine HE.out.mono ?_;rintro e w1 ⟨g, rfl, ho, hb⟩;dsimp only;obtain ⟨fa, fc, rfl⟩ := Tm.own_len ho;have HN := hideIt (apart_new HX0.out.rows.nd.n ho);have HM := hideIt (apart_new HX0.out.rows.nd.m ho);have hbb := below1 w1 (.cells #[.int .i64 Z.1.t, .int .i64 Z.1.v, .int .i64 Z.1.r, .slice fa Z.1.l.length fc] 34);have HX := hideIt (((HX0.out.keep hb).keep hbb).keep (Below.refl _ _).drew);have HO := hideIt (own_keep (own_keep (own_base ho HX0.out.bel.size) hbb) (Below.refl _ _).drew);have HP := hideIt (heap_alloc_new w1 (.cells #[.int .i64 Z.1.t, .int .i64 Z.1.v, .int .i64 Z.1.r, .slice fa Z.1.l.length fc] 34));have HKP := hideIt (((Kp.below K hb).trans (Kp.below K hbb)).trans (Kp.below K (Below.refl _ _).drew));clear ho hb hbb HX0 HE k0 k1 k2 k3 k4 k5 k6 k7 k8 k9 k10 k11 k12 k13 k14 k15 k16 k17 kf kz
 go_upto_region 1 with fail
 generalize (World.alloc w1 _) = W0 at *;generalize w1.heap.size = P at *;obtain ⟨⟨k0, k1, k2, k3, k4, k5, k6, k7, k8, k9, k10, k11, k12, k13, k14, k15, k16, k17⟩, kf, kz⟩ := at18 (w := W0) HX.out.box;have pz := (Array.getElem?_eq_some_iff.1 HP.out).1;have p0 : W0.cell? ⟨P, 0, none⟩ = some (.int .i64 Z.1.t) := by rw [Tm.cell_at HP.out]; rfl
 have p1 : W0.cell? ⟨P, 1, none⟩ = some (.int .i64 Z.1.v) := by rw [Tm.cell_at HP.out]; rfl
 have p2 : W0.cell? ⟨P, 2, none⟩ = some (.int .i64 Z.1.r) := by rw [Tm.cell_at HP.out]; rfl
 have p3 : W0.cell? ⟨P, 3, none⟩ = some (.slice fa Z.1.l.length fc) := by rw [Tm.cell_at HP.out]; rfl
 by_cases h1 : Z.1.t = X.d.b.t
 ·have b1 : (Z.1.t == X.d.b.t) = true := beq_iff_eq.2 h1
  by_cases h2 : Z.1.v = X.d.b.v
  ·have b2 : (Z.1.v == X.d.b.v) = true := beq_iff_eq.2 h2;have H12 := hideIt (And.intro h1 h2);clear h1 h2
   go_region
   go_wp2;exact bodyPost_ret (v := .tuple #[]) (by simp [results, Tryz.results97, go_sem]) rfl ⟨X, rfl, by rw [HH.out, if_pos H12.out], HX.out, HKP.out⟩
  ·have b2 : (Z.1.v == X.d.b.v) = false := beq_eq_false_iff_ne.2 h2;have H12 := hideIt h2;clear h1 h2;have HU := hideIt (follow_is2 (HX.out.setBal Z.1 fa fc HO.out hl HN.out HM.out) 0)
   go_region
   go_wp2_with fail
   refine HU.out.mono ?_;rintro e w2 ⟨rfl, hw, hkp⟩;dsimp only;have HW := hideIt (And.intro hw ((((((HKP.out).trans (Kp.set K W0.drew 2 _)).trans (Kp.set K _ 3 _)).trans (Kp.set K _ 4 _)).trans (Kp.set K _ 5 _)).trans hkp));clear hw HU hkp;go_wp2
   go_end0
   refine ⟨_, rfl, ?_, HW.out.1, HW.out.2⟩;rw [HH.out];rw [if_neg (fun hh => H12.out hh.2)]
   rfl
 ·have b1 : (Z.1.t == X.d.b.t) = false := beq_eq_false_iff_ne.2 h1;have H12 := hideIt h1;clear h1;have HU := hideIt (follow_is2 (HX.out.setBal Z.1 fa fc HO.out hl HN.out HM.out) 0)
  go_region
  go_wp2_with fail
  refine HU.out.mono ?_;rintro e w2 ⟨rfl, hw, hkp⟩;dsimp only;have HW := hideIt (And.intro hw ((((((HKP.out).trans (Kp.set K W0.drew 2 _)).trans (Kp.set K _ 3 _)).trans (Kp.set K _ 4 _)).trans (Kp.set K _ 5 _)).trans hkp));clear hw HU hkp;go_wp2
  go_end0
  refine ⟨_, rfl, ?_, HW.out.1, HW.out.2⟩;rw [HH.out];rw [if_neg (fun hh => H12.out hh.1)]
  rfl
theorem WK.logStay {X : WkX} {K : Nat} {w wx : World} (h : WK w K X wx) (v7 v8 v9 v10 : Value) : ((((wx.setCell ⟨K, 7, none⟩ v7).setCell ⟨K, 8, none⟩ v8).setCell ⟨K, 9, none⟩ v9).setCell ⟨K, 10, none⟩ v10).ownsRow w.heap.size 55 3 X.gl X.d.L.l.length (entC X.d.L.l) :=
 own_cell (own_cell (own_cell (own_cell h.rows.nd.l h.box (by decide)) (heap_set h.box 7 v7) (by decide)) (heap_set (heap_set h.box 7 v7) 8 v8) (by decide)) (heap_set (heap_set (heap_set h.box 7 v7) 8 v8) 9 v9) (by decide)
theorem acc_len6 {L : LogV} (pi pt : Int) (es : List EntV) (cc : Int) (h : L.l.length ≤ 1000000) : (accL L pi pt es cc).1.l.length ≤ 1000000 := by
 rcases acc_len L pi pt es cc with h1 | h1 <;> omega
set_option maxRecDepth 100000 in
set_option maxHeartbeats 16000000 in
theorem acceptK_is {X : WkX} {K : Nat} {w wx : World} (h : WK w K X wx) (y : MsgX) (hm : EGot wx (.slice y.a y.m.es.length y.c) y.m.es) (hL : mayB X.d.L = true) (hpi : 0 ≤ y.m.pi ∧ y.m.pi ≤ 1000000) (hs : X.M.length < 1000000) (hR : X.R.length < 1000000) : Calls Tryz.prog 165 #[.pointer (some ⟨K, 0, none⟩), .agg (msgE y).toArray] wx fun r w' => ∃ Y' : WkX, r = .returned (.tuple #[]) ∧ Y'.v = accW X.v y.m ∧ WK w K Y' w' := by
 have HG := hideIt (hm.keep (below1 wx (.cells (msgE y).toArray 50)));have hlA := acc_len6 y.m.pi y.m.pt y.m.es y.m.cm h.rows.sl;have HV1 : Hid ((accL X.d.L y.m.pi y.m.pt y.m.es y.m.cm).2.2.2 ≠ 0 → accW X.v y.m = answW X.v y.m false X.d.L.cm) := hideIt (acc_c1 (W := X.v) (m := y.m));have HV2 : Hid (¬ (accL X.d.L y.m.pi y.m.pt y.m.es y.m.cm).2.2.2 ≠ 0 → (accL X.d.L y.m.pi y.m.pt y.m.es y.m.cm).2.2.1 = false → accW X.v y.m = answW X.v y.m false (min (lastL X.d.L).1 (y.m.pi - 1))) := hideIt (acc_c2 (W := X.v) (m := y.m));have HV3 : Hid (¬ (accL X.d.L y.m.pi y.m.pt y.m.es y.m.cm).2.2.2 ≠ 0 → ¬ (accL X.d.L y.m.pi y.m.pt y.m.es y.m.cm).2.2.1 = false → accW X.v y.m = answW (if sameN X.d.L.l (accL X.d.L y.m.pi y.m.pt y.m.es y.m.cm).1.l < max X.d.L.l.length (accL X.d.L y.m.pi y.m.pt y.m.es y.m.cm).1.l.length then tailW {X.v with d := {X.d with L := (accL X.d.L y.m.pi y.m.pt y.m.es y.m.cm).1}} ((accL X.d.L y.m.pi y.m.pt y.m.es y.m.cm).1.bi + 1 + (sameN X.d.L.l (accL X.d.L y.m.pi y.m.pt y.m.es y.m.cm).1.l : Nat)) else {X.v with d := {X.d with L := (accL X.d.L y.m.pi y.m.pt y.m.es y.m.cm).1}}) y.m true (accL X.d.L y.m.pi y.m.pt y.m.es y.m.cm).2.1) := hideIt (acc_c3 (W := X.v) (m := y.m));have HAL : Hid ((accL X.d.L y.m.pi y.m.pt y.m.es y.m.cm).2.2.2 = 0 → (accL X.d.L y.m.pi y.m.pt y.m.es y.m.cm).1.bi = X.d.L.bi) := hideIt (fun h0 => (acc_log hL h0).2.1);have hin := mayB_in hL;have hli := lastL_in X.d.L;have hsl := h.rows.sl;have HV : Hid True := hideIt trivial;clear hm;have HX0 := hideIt (h.keep (below1 wx (.cells (msgE y).toArray 50)));have HP := hideIt (heap_alloc_new wx (.cells (msgE y).toArray 50));have hKP : K ≠ wx.heap.size := by
  have := (Array.getElem?_eq_some_iff.1 h.box).1;omega
 clear h;unfold msgE at *
 go_enter Tryz.func165, Tryz.ntmps165
 go_upto_region 1 with fail
 generalize (World.alloc wx _) = W0 at *;generalize wx.heap.size = P at *;have HCY : Hid (∀ W, Below W0.heap.size W0 W → Calls Tryz.prog 195 #[.agg #[.int .i64 X.d.L.bi, .int .i64 X.d.L.bt, .slice X.la X.d.L.l.length X.lc, .int .i64 X.d.L.cm], .agg #[.int .i64 y.m.pi, .int .i64 y.m.pt], .slice y.a y.m.es.length y.c, .int .i64 y.m.cm] W fun r w' => ∃ a c, r = .returned (.tuple #[.agg #[.int .i64 (accL X.d.L y.m.pi y.m.pt y.m.es y.m.cm).1.bi, .int .i64 (accL X.d.L y.m.pi y.m.pt y.m.es y.m.cm).1.bt, .slice a (accL X.d.L y.m.pi y.m.pt y.m.es y.m.cm).1.l.length c, .int .i64 (accL X.d.L y.m.pi y.m.pt y.m.es y.m.cm).1.cm], .int .i64 (accL X.d.L y.m.pi y.m.pt y.m.es y.m.cm).2.1, .bool (accL X.d.L y.m.pi y.m.pt y.m.es y.m.cm).2.2.1, .int .i64 (accL X.d.L y.m.pi y.m.pt y.m.es y.m.cm).2.2.2]) ∧ Hid (w'.ownsRow W0.heap.size 55 3 (.slice a (accL X.d.L y.m.pi y.m.pt y.m.es y.m.cm).1.l.length c) (accL X.d.L y.m.pi y.m.pt y.m.es y.m.cm).1.l.length (entC (accL X.d.L y.m.pi y.m.pt y.m.es y.m.cm).1.l) ∧ Below W0.heap.size W0 w' ∧ Below W.heap.size W w') ∧ (w'.cell? ⟨K, 7, none⟩ = some (.int .i64 X.d.L.bi) ∧ w'.cell? ⟨K, 8, none⟩ = some (.int .i64 X.d.L.bt) ∧ w'.cell? ⟨K, 9, none⟩ = some (.slice X.la X.d.L.l.length X.lc) ∧ w'.cell? ⟨K, 10, none⟩ = some (.int .i64 X.d.L.cm) ∧ w'.cell? ⟨P, 4, none⟩ = some (.int .i64 y.m.pi) ∧ w'.cell? ⟨P, 5, none⟩ = some (.int .i64 y.m.pt) ∧ w'.cell? ⟨P, 6, none⟩ = some (.slice y.a y.m.es.length y.c) ∧ w'.cell? ⟨P, 7, none⟩ = some (.int .i64 y.m.cm))) := by
  intro W hW;refine (accept_is X.d.L X.gl (.slice y.a y.m.es.length y.c) y.m.pi y.m.pt y.m.es y.m.cm W (HX0.out.keep hW).rows.at_.2 (HG.out.keep hW)).mono ?_;rintro r w' ⟨g, rfl, ho, hbl⟩;obtain ⟨a, c, rfl⟩ := own_len ho;have hb2 := below_via hW hbl;obtain ⟨⟨k0, k1, k2, k3, k4, k5, k6, k7, k8, k9, k10, k11, k12, k13, k14, k15, k16, k17⟩, kf, kz⟩ := at18 (HX0.out.keep hb2).box;obtain ⟨⟨m0, m1, m2, m3, m4, m5, m6, m7, m8, m9, m10, m11, m12⟩, mf, mz⟩ := at13 (blkK HP.out hb2)
  exact ⟨a, c, rfl, hideIt ⟨own_base ho hW.size, hb2, hbl⟩, k7, k8, k9, k10, m4, m5, m6, m7⟩
 have ZF : Hid (∀ w', Below (W0.alloc (.cells #[.int .i64 0, .int .i64 0, .slice none 0 0, .int .i64 0] 36)).heap.size (W0.alloc (.cells #[.int .i64 0, .int .i64 0, .slice none 0 0, .int .i64 0] 36)) w' → (w'.cell? ⟨W0.heap.size, 0, none⟩ = some (.int .i64 0) ∧ w'.cell? ⟨W0.heap.size, 1, none⟩ = some (.int .i64 0) ∧ w'.cell? ⟨W0.heap.size, 2, none⟩ = some (.slice none 0 0) ∧ w'.cell? ⟨W0.heap.size, 3, none⟩ = some (.int .i64 0)) ∧ (∀ j, w'.frozen? ⟨W0.heap.size, j, none⟩ = false) ∧ W0.heap.size < w'.heap.size) := by
  intro w' hb;exact at4 ((hb.block W0.heap.size (by simp)).trans (heap_alloc_new W0 _))
 obtain ⟨⟨k0, k1, k2, k3, k4, k5, k6, k7, k8, k9, k10, k11, k12, k13, k14, k15, k16, k17⟩, kf, kz⟩ := at18 HX0.out.box;obtain ⟨⟨m0, m1, m2, m3, m4, m5, m6, m7, m8, m9, m10, m11, m12⟩, mf, mz⟩ := at13 HP.out;have y1 : W0.heap.size ≠ K := by omega
 have y2 : W0.heap.size ≠ P := by omega
 have y3 : K ≠ W0.heap.size := by omega
 have y4 : P ≠ W0.heap.size := by omega
 clear k0 k1 k2 k3 k4 k5 k6 k11 k12 k13 k14 k15 k16 k17 m0 m1 m2 m3 m8 m9 m10 m11 m12 HG;generalize accL X.d.L y.m.pi y.m.pt y.m.es y.m.cm = A at *
 go_cut [4, 5, 6, 7] from 12 to 27 (fun x y z u wy => ∃ B a c, x = .pointer (some ⟨B, 0, none⟩) ∧ y = .int .i64 A.2.1 ∧ z = .bool A.2.2.1 ∧ u = .int .i64 A.2.2.2 ∧ Hid (LBox W0 B A.1 a c wy))
 case first =>
  clear HV
  go_region_held3 (fun W => W.cell? ⟨K, 7, none⟩ = some (.int .i64 X.d.L.bi) ∧ W.cell? ⟨K, 8, none⟩ = some (.int .i64 X.d.L.bt) ∧ W.cell? ⟨K, 9, none⟩ = some (.slice X.la X.d.L.l.length X.lc) ∧ W.cell? ⟨K, 10, none⟩ = some (.int .i64 X.d.L.cm) ∧ W.cell? ⟨P, 4, none⟩ = some (.int .i64 y.m.pi) ∧ W.cell? ⟨P, 5, none⟩ = some (.int .i64 y.m.pt) ∧ W.cell? ⟨P, 6, none⟩ = some (.slice y.a y.m.es.length y.c) ∧ W.cell? ⟨P, 7, none⟩ = some (.int .i64 y.m.cm)) (go_keep) (first | (go_at_call 195; refine (HCY.out (W0.alloc (.cells #[.int .i64 0, .int .i64 0, .slice none 0 0, .int .i64 0] 36)).drew (below1 _ _).drew).mono ?_; rintro r w5 ⟨a, c, rfl, HQ, ⟨i0, i1, i2, i3, i4, i5, i6, i7⟩⟩; obtain ⟨⟨n0, n1, n2, n3⟩, nf, nz⟩ := ZF.out w5 (below_via (Below.refl _ _).drew HQ.out.2.2)) | (go_at_call 195; refine (HCY.out W0.drew (Below.refl _ _).drew).mono ?_; rintro r w5 ⟨a, c, rfl, HQ, ⟨i0, i1, i2, i3, i4, i5, i6, i7⟩⟩))
  all_goals go_wp2_with fail
  all_goals go_meet
  ·exact ⟨w5.heap.size, a, c, rfl, rfl, rfl, rfl, hideIt (LBox.new HQ.out.1 HQ.out.2.1)⟩
  ·have hz := (HQ.out.2.2.block W0.heap.size (show W0.heap.size < (W0.alloc (.cells #[.int .i64 0, .int .i64 0, .slice none 0 0, .int .i64 0] 36)).heap.size by simp)).trans (heap_alloc_new W0 _)
   exact ⟨W0.heap.size, a, c, rfl, rfl, rfl, rfl, hideIt (LBox.put hz HQ.out.1 HQ.out.2.1 (Nat.le_refl _))⟩
 case rest =>
  obtain ⟨B, a, c, rfl, rfl, rfl, rfl, HB⟩ := hcut;clear HCY ZF y1 y2 y3 y4 k7 k8 k9 k10 kf kz m4 m5 m6 m7 mf mz HV;have HX3 := hideIt (HX0.out.keep HB.out.bel);have HP3 := hideIt (blkK HP.out HB.out.bel)
  by_cases hz0 : A.2.2.2 = 0
  ·have hz1 : (A.2.2.2 == 0) = true := beq_iff_eq.2 hz0;have HBI := hideIt (HAL.out hz0);cases hok : A.2.2.1
   ·have HV := hideIt (HV2.out (fun h => h hz0) hok);clear HV1 HV2 HV3 HAL hz0 HBI;have HL := hideIt (lastW_is (HX3.out.keep (Below.refl _ _).drew));obtain ⟨⟨m0, m1, m2, m3, m4, m5, m6, m7, m8, m9, m10, m11, m12⟩, mf, mz⟩ := at13 HP3.out;have hw1 : IntKind.i64.wrap (y.m.pi - 1) = y.m.pi - 1 := by rw [IntKind.wrap_i64]; omega
    have HAN := hideIt (fun W (hW : Below wc.drew.heap.size wc.drew W) => answer_is ((HX3.out.keep (Below.refl _ _).drew).keep hW) y false (min (lastL X.d.L).1 (y.m.pi - 1)) hs);have HPP : Hid (∀ W, Below wc.drew.heap.size wc.drew W → W.heap[P]? = some (.cells #[.int .i64 y.m.kind, .int .i64 y.m.frm, .int .i64 y.m.dst, .int .i64 y.m.term, .int .i64 y.m.pi, .int .i64 y.m.pt, .slice y.a y.m.es.length y.c, .int .i64 y.m.cm, .bool y.m.ok, .int .i64 y.m.mtch, .int .i64 y.m.si, .int .i64 y.m.st, .string y.m.tx] 50 (0, 0))) := hideIt (fun W hW => blkK (w := wc.drew) HP3.out hW);unfold msgE at HAN
    go_upto_region 5 with fail
    go_region_law (first
     | (go_simp; refine HL.out.mono ?_; rintro r w7 ⟨rfl, hb7⟩; dsimp only; have HB7 := hideIt hb7; obtain ⟨⟨q0, q1, q2, q3, q4, q5, q6, q7, q8, q9, q10, q11, q12⟩, qf, qz⟩ := at13 (HPP.out w7 hb7); clear hb7)
     | (go_simp; refine (HAN.out w7 HB7.out).mono ?_; rintro r w9 ⟨a9, c9, rfl, hw⟩; dsimp only; have HW := hideIt hw; clear hw))
    all_goals go_wp2
    all_goals (refine bodyPost_ret (v := .tuple #[]) (by simp [results, Tryz.results165, go_sem]) rfl ?_)
    all_goals ((first | refine ⟨_, rfl, ?_, HW.out⟩ | refine ⟨rfl, _, ?_, HW.out⟩); rw [HV.out]; simp [WkX.v, answW, tellW, msg0, noT])
   ·have HV := hideIt (HV3.out (fun h => h hz0) (by rw [hok]; simp))
    clear HV1 HV2 HV3 HAL hz0
    -- the log as it was lies in a box of its own
    have hbl := below1 wc (.cells #[.int .i64 X.d.L.bi, .int .i64 X.d.L.bt, .slice X.la X.d.L.l.length X.lc, .int .i64 X.d.L.cm] 36);have HD := hideIt (heap_alloc_new wc (.cells #[.int .i64 X.d.L.bi, .int .i64 X.d.L.bt, .slice X.la X.d.L.l.length X.lc, .int .i64 X.d.L.cm] 36));have HX4 := hideIt (HX3.out.keep hbl);have HB4 := hideIt (blkK HB.out.box hbl);have HO4 := hideIt (own_keep HB.out.own (show Below wc.heap.size wc _ from hbl));have HP4 := hideIt (blkK HP3.out hbl);obtain ⟨⟨k0, k1, k2, k3, k4, k5, k6, k7, k8, k9, k10, k11, k12, k13, k14, k15, k16, k17⟩, kf, kz⟩ := at18 HX3.out.box;have hKD : K ≠ wc.heap.size := by omega
    have hBD : B ≠ wc.heap.size := by
     have := (Array.getElem?_eq_some_iff.1 HB.out.box).1;omega
    go_upto_region 7 with fail
    generalize hW4 : (World.alloc wc _) = W4 at *;generalize wc.heap.size = D at *;clear k0 k1 k2 k3 k4 k5 k6 k7 k8 k9 k10 k11 k12 k13 k14 k15 k16 k17 kf kz;obtain ⟨⟨k0, k1, k2, k3, k4, k5, k6, k7, k8, k9, k10, k11, k12, k13, k14, k15, k16, k17⟩, kf, kz⟩ := at18 HX4.out.box;obtain ⟨⟨n0, n1, n2, n3⟩, nf, nz⟩ := at4 HB4.out;have hBK : B ≠ K := by
     intro e1;have h1 := HX4.out.box;have h2 := HB4.out;rw [e1, h1] at h2
     simp at h2
    have HX5 := hideIt (HX4.out.setLog A.1 a c (own_base HO4.out HX0.out.bel.size) hlA);have HS5 := hideIt (HX4.out.logStay (.int .i64 A.1.bi) (.int .i64 A.1.bt) (.slice a A.1.l.length c) (.int .i64 A.1.cm));have hDK : D ≠ K := fun e1 => hKD e1.symm
    have hPK : P ≠ K := fun e1 => hKP e1.symm
    have HD5 := hideIt (setOther (b := K) (j := 10) (.int .i64 A.1.cm) (setOther (b := K) (j := 9) (.slice a A.1.l.length c) (setOther (b := K) (j := 8) (.int .i64 A.1.bt) (setOther (b := K) (j := 7) (.int .i64 A.1.bi) HD.out hDK) hDK) hDK) hDK);have HB5 := hideIt (setOther (b := K) (j := 10) (.int .i64 A.1.cm) (setOther (b := K) (j := 9) (.slice a A.1.l.length c) (setOther (b := K) (j := 8) (.int .i64 A.1.bt) (setOther (b := K) (j := 7) (.int .i64 A.1.bi) HB4.out hBK) hBK) hBK) hBK);have HP5 := hideIt (setOther (b := K) (j := 10) (.int .i64 A.1.cm) (setOther (b := K) (j := 9) (.slice a A.1.l.length c) (setOther (b := K) (j := 8) (.int .i64 A.1.bt) (setOther (b := K) (j := 7) (.int .i64 A.1.bi) HP4.out hPK) hPK) hPK) hPK)
    go_upto_region 8 with fail
    generalize (World.setCell _ ⟨K, 10, none⟩ _) = W5 at *;clear n0 n1 n2 n3 nf nz k0 k1 k2 k3 k4 k5 k6 k7 k8 k9 k10 k11 k12 k13 k14 k15 k16 k17 kf kz HX4 HB4 HO4 HP4 HD hW4 HB HX3 HP3 hbl;obtain ⟨⟨n0, n1, n2, n3⟩, nf, nz⟩ := at4 HD5.out;obtain ⟨⟨q0, q1, q2, q3⟩, qf, qz⟩ := at4 HB5.out;have hlA2 : ({X.d with L := A.1} : NodeV).L.l.length ≤ 1000000 := hlA;have HT := hideIt (turnedAt_is X.d.L A.1 X.gl (.slice a A.1.l.length c) W5 (own_egot HS5.out (by omega)) (HX5.out.rows.at_.2) hsl hlA (by rw [HBI.out]; exact hin.1))
    unfold logV logA WkX.gl at HT
    go_wp2_with fail
    refine HT.out.mono ?_;rintro r w6 ⟨rfl, hb6⟩;dsimp only;have HX6 := hideIt (HX5.out.keep hb6);have HP6 := hideIt (blkK HP5.out hb6);have hsn := sameN_le X.d.L.l A.1.l;clear hb6 HT HX5 HP5 HS5 HD5 HB5 n0 n1 n2 n3 nf nz q0 q1 q2 q3 qf qz;generalize sameN X.d.L.l A.1.l = sn at *
    by_cases ht : sn < max X.d.L.l.length A.1.l.length
    ·have hd : decide (sn < max X.d.L.l.length A.1.l.length) = true := decide_eq_true ht;rw [if_pos ht] at HV;have HKT := hideIt (keepTail_is2 HX6.out (A.1.bi + 1 + (sn : Int)) (by unfold i64B; rw [HBI.out]; omega) (by first | omega | (simp only; omega)))
     clear ht
     go_wp2_with fail
     refine HKT.out.mono ?_;rintro r w7 ⟨fa, fc, a7, c7, rfl, hw7, hkp⟩;dsimp only;have HX7 := hideIt hw7;have HP7 := hideIt (hkp P _ _ HP6.out hPK (by decide));clear hw7 hkp HKT HX6 HP6;have HAN := hideIt (answer_is HX7.out y true A.2.1 (by first | omega | (simp only; omega)))
     unfold msgE at HAN;obtain ⟨⟨m0, m1, m2, m3, m4, m5, m6, m7, m8, m9, m10, m11, m12⟩, mf, mz⟩ := at13 HP7.out
     go_wp2_with fail
     refine HAN.out.mono ?_;rintro r w9 ⟨a9, c9, rfl, hw⟩;dsimp only;have HW := hideIt hw;clear hw HAN;go_wp2
     go_end0
     first
      | refine ⟨_, rfl, ?_, HW.out⟩
      | refine ⟨rfl, _, ?_, HW.out⟩
     rw [HV.out]
     simp [WkX.v, answW, tellW, tailW, msg0, noT]
    ·have hd : decide (sn < max X.d.L.l.length A.1.l.length) = false := decide_eq_false ht;rw [if_neg ht] at HV;clear ht;have HAN := hideIt (answer_is HX6.out y true A.2.1 (by first | omega | (simp only; omega)))
     unfold msgE at HAN;obtain ⟨⟨m0, m1, m2, m3, m4, m5, m6, m7, m8, m9, m10, m11, m12⟩, mf, mz⟩ := at13 HP6.out
     go_wp2_with fail
     refine HAN.out.mono ?_;rintro r w9 ⟨a9, c9, rfl, hw⟩;dsimp only;have HW := hideIt hw;clear hw HAN;go_wp2
     go_end0
     first
      | refine ⟨_, rfl, ?_, HW.out⟩
      | refine ⟨rfl, _, ?_, HW.out⟩
     rw [HV.out]
     simp [WkX.v, answW, tellW, msg0, noT]
  ·have hz1 : (A.2.2.2 == 0) = false := beq_eq_false_iff_ne.2 hz0;have HV := hideIt (HV1.out hz0);clear HV1 HV2 HV3 HAL hz0;obtain ⟨⟨k0, k1, k2, k3, k4, k5, k6, k7, k8, k9, k10, k11, k12, k13, k14, k15, k16, k17⟩, kf, kz⟩ := at18 HX3.out.box;obtain ⟨⟨m0, m1, m2, m3, m4, m5, m6, m7, m8, m9, m10, m11, m12⟩, mf, mz⟩ := at13 HP3.out;have HAN := hideIt (answer_is (HX3.out.keep (Below.refl _ _).drew) y false X.d.L.cm hs);unfold msgE at HAN
   go_upto_region 3 with fail
   go_region_law (first
    | (go_simp; refine (HAN.out).mono ?_; rintro r w9 ⟨a9, c9, rfl, hw⟩; dsimp only; have HW := hideIt hw; clear hw))
   all_goals go_wp2
   all_goals (refine bodyPost_ret (v := .tuple #[]) (by simp [results, Tryz.results165, go_sem]) rfl ?_)
   all_goals ((first | refine ⟨_, rfl, ?_, HW.out⟩ | refine ⟨rfl, _, ?_, HW.out⟩); rw [HV.out]; simp [WkX.v, answW, tellW, msg0, noT])
theorem inst_len {L : LogV} (i t : Int) (h : L.l.length ≤ 1000000) : (instL L i t).1.l.length ≤ 1000000 := by
 unfold instL
 split
 ·split
  ·split
   ·exact h
   ·simp only
    split
    ·rw [List.length_drop];omega
    ·simp
  ·simp [zL]
 ·simp [zL]
theorem inst_c1 {W : WkV} {m : MsgW} (h : (instL W.d.L m.si m.st).2.1 = true) : instW W m = answW (snapW {W with d := {W.d with L := (instL W.d.L m.si m.st).1, tx := m.tx}}) m true (min m.si (instL W.d.L m.si m.st).1.cm) := by
 unfold instW;rw [if_pos h, if_pos h]
theorem inst_c2 {W : WkV} {m : MsgW} (h : (instL W.d.L m.si m.st).2.1 = false) : instW W m = answW W m true (min m.si W.d.L.cm) := by
 unfold instW;rw [if_neg (by rw [h]; simp), if_neg (by rw [h]; simp)]
set_option maxRecDepth 100000 in
set_option maxHeartbeats 16000000 in
theorem installK_is {X : WkX} {K : Nat} {w wx : World} (h : WK w K X wx) (y : MsgX) (htx : y.m.tx.size ≤ 60000) (hs : X.M.length < 1000000) (hR : X.R.length < 1000000) : Calls Tryz.prog 166 #[.pointer (some ⟨K, 0, none⟩), .agg (msgE y).toArray] wx fun r w' => ∃ Y' : WkX, r = .returned (.tuple #[]) ∧ Y'.v = instW X.v y.m ∧ WK w K Y' w' := by
 have hlA := inst_len y.m.si y.m.st h.rows.sl;have HV1 : Hid ((instL X.d.L y.m.si y.m.st).2.1 = true → instW X.v y.m = answW (snapW {X.v with d := {X.d with L := (instL X.d.L y.m.si y.m.st).1, tx := y.m.tx}}) y.m true (min y.m.si (instL X.d.L y.m.si y.m.st).1.cm)) := hideIt (inst_c1 (W := X.v) (m := y.m));have HV2 : Hid ((instL X.d.L y.m.si y.m.st).2.1 = false → instW X.v y.m = answW X.v y.m true (min y.m.si X.d.L.cm)) := hideIt (inst_c2 (W := X.v) (m := y.m));have HV : Hid True := hideIt trivial;have HX0 := hideIt (h.keep (below1 wx (.cells (msgE y).toArray 50)));have HP := hideIt (heap_alloc_new wx (.cells (msgE y).toArray 50));have hKP : K ≠ wx.heap.size := by
  have := (Array.getElem?_eq_some_iff.1 h.box).1;omega
 clear h;unfold msgE at *
 go_enter Tryz.func166, Tryz.ntmps166
 go_upto_region 1 with fail
 generalize (World.alloc wx _) = W0 at *;generalize wx.heap.size = P at *;have HCY : Hid (∀ W, Below W0.heap.size W0 W → Calls Tryz.prog 197 #[.agg #[.int .i64 X.d.L.bi, .int .i64 X.d.L.bt, .slice X.la X.d.L.l.length X.lc, .int .i64 X.d.L.cm], .agg #[.int .i64 y.m.si, .int .i64 y.m.st]] W fun r w' => ∃ a c, r = .returned (.tuple #[.agg #[.int .i64 (instL X.d.L y.m.si y.m.st).1.bi, .int .i64 (instL X.d.L y.m.si y.m.st).1.bt, .slice a (instL X.d.L y.m.si y.m.st).1.l.length c, .int .i64 (instL X.d.L y.m.si y.m.st).1.cm], .bool (instL X.d.L y.m.si y.m.st).2.1, .int .i64 (instL X.d.L y.m.si y.m.st).2.2]) ∧ Hid (w'.ownsRow W0.heap.size 55 3 (.slice a (instL X.d.L y.m.si y.m.st).1.l.length c) (instL X.d.L y.m.si y.m.st).1.l.length (entC (instL X.d.L y.m.si y.m.st).1.l) ∧ Below W0.heap.size W0 w' ∧ Below W.heap.size W w') ∧ (w'.cell? ⟨K, 7, none⟩ = some (.int .i64 X.d.L.bi) ∧ w'.cell? ⟨K, 8, none⟩ = some (.int .i64 X.d.L.bt) ∧ w'.cell? ⟨K, 9, none⟩ = some (.slice X.la X.d.L.l.length X.lc) ∧ w'.cell? ⟨K, 10, none⟩ = some (.int .i64 X.d.L.cm) ∧ w'.cell? ⟨P, 10, none⟩ = some (.int .i64 y.m.si) ∧ w'.cell? ⟨P, 11, none⟩ = some (.int .i64 y.m.st))) := by
  intro W hW;refine (install_is X.d.L X.gl y.m.si y.m.st W (HX0.out.keep hW).rows.at_.2).mono ?_;rintro r w' ⟨g, rfl, ho, hbl⟩;obtain ⟨a, c, rfl⟩ := own_len ho;have hb2 := below_via hW hbl;obtain ⟨⟨k0, k1, k2, k3, k4, k5, k6, k7, k8, k9, k10, k11, k12, k13, k14, k15, k16, k17⟩, kf, kz⟩ := at18 (HX0.out.keep hb2).box;obtain ⟨⟨m0, m1, m2, m3, m4, m5, m6, m7, m8, m9, m10, m11, m12⟩, mf, mz⟩ := at13 (blkK HP.out hb2)
  exact ⟨a, c, rfl, hideIt ⟨own_base ho hW.size, hb2, hbl⟩, k7, k8, k9, k10, m10, m11⟩
 have ZF : Hid (∀ w', Below (W0.alloc (.cells #[.int .i64 0, .int .i64 0, .slice none 0 0, .int .i64 0] 36)).heap.size (W0.alloc (.cells #[.int .i64 0, .int .i64 0, .slice none 0 0, .int .i64 0] 36)) w' → (w'.cell? ⟨W0.heap.size, 0, none⟩ = some (.int .i64 0) ∧ w'.cell? ⟨W0.heap.size, 1, none⟩ = some (.int .i64 0) ∧ w'.cell? ⟨W0.heap.size, 2, none⟩ = some (.slice none 0 0) ∧ w'.cell? ⟨W0.heap.size, 3, none⟩ = some (.int .i64 0)) ∧ (∀ j, w'.frozen? ⟨W0.heap.size, j, none⟩ = false) ∧ W0.heap.size < w'.heap.size) := by
  intro w' hb;exact at4 ((hb.block W0.heap.size (by simp)).trans (heap_alloc_new W0 _))
 obtain ⟨⟨k0, k1, k2, k3, k4, k5, k6, k7, k8, k9, k10, k11, k12, k13, k14, k15, k16, k17⟩, kf, kz⟩ := at18 HX0.out.box;obtain ⟨⟨m0, m1, m2, m3, m4, m5, m6, m7, m8, m9, m10, m11, m12⟩, mf, mz⟩ := at13 HP.out;have y1 : W0.heap.size ≠ K := by omega
 have y2 : W0.heap.size ≠ P := by omega
 have y3 : K ≠ W0.heap.size := by omega
 have y4 : P ≠ W0.heap.size := by omega
 clear k0 k1 k2 k3 k4 k5 k6 k11 k12 k13 k14 k15 k16 k17 m0 m1 m2 m3 m4 m5 m6 m7 m8 m9 m12;generalize instL X.d.L y.m.si y.m.st = A at *
 go_cut [4, 5, 6] from 8 to 19 (fun x y z wy => ∃ B a c, x = .pointer (some ⟨B, 0, none⟩) ∧ y = .bool A.2.1 ∧ z = .int .i64 A.2.2 ∧ Hid (LBox W0 B A.1 a c wy))
 case first =>
  clear HV
  go_region_held3 (fun W => W.cell? ⟨K, 7, none⟩ = some (.int .i64 X.d.L.bi) ∧ W.cell? ⟨K, 8, none⟩ = some (.int .i64 X.d.L.bt) ∧ W.cell? ⟨K, 9, none⟩ = some (.slice X.la X.d.L.l.length X.lc) ∧ W.cell? ⟨K, 10, none⟩ = some (.int .i64 X.d.L.cm) ∧ W.cell? ⟨P, 10, none⟩ = some (.int .i64 y.m.si) ∧ W.cell? ⟨P, 11, none⟩ = some (.int .i64 y.m.st)) (go_keep) (first | (go_at_call 197; refine (HCY.out (W0.alloc (.cells #[.int .i64 0, .int .i64 0, .slice none 0 0, .int .i64 0] 36)).drew (below1 _ _).drew).mono ?_; rintro r w5 ⟨a, c, rfl, HQ, ⟨i0, i1, i2, i3, i4, i5⟩⟩; obtain ⟨⟨n0, n1, n2, n3⟩, nf, nz⟩ := ZF.out w5 (below_via (Below.refl _ _).drew HQ.out.2.2)) | (go_at_call 197; refine (HCY.out W0.drew (Below.refl _ _).drew).mono ?_; rintro r w5 ⟨a, c, rfl, HQ, ⟨i0, i1, i2, i3, i4, i5⟩⟩))
  all_goals go_wp2_with fail
  all_goals go_meet
  ·exact ⟨w5.heap.size, a, c, rfl, rfl, rfl, hideIt (LBox.new HQ.out.1 HQ.out.2.1)⟩
  ·have hz := (HQ.out.2.2.block W0.heap.size (show W0.heap.size < (W0.alloc (.cells #[.int .i64 0, .int .i64 0, .slice none 0 0, .int .i64 0] 36)).heap.size by simp)).trans (heap_alloc_new W0 _)
   exact ⟨W0.heap.size, a, c, rfl, rfl, rfl, hideIt (LBox.put hz HQ.out.1 HQ.out.2.1 (Nat.le_refl _))⟩
 case rest =>
  obtain ⟨B, a, c, rfl, rfl, rfl, HB⟩ := hcut;clear HCY ZF y1 y2 y3 y4 k7 k8 k9 k10 kf kz m10 m11 mf mz HV;have HX3 := hideIt (HX0.out.keep HB.out.bel);have HP3 := hideIt (blkK HP.out HB.out.bel);have hPK : P ≠ K := fun e1 => hKP e1.symm
  cases hok : A.2.1
  ·have HV := hideIt (HV2.out hok);have HX9 := HX3;have HP9 := HP3;clear HV1 HV2 HX3 HP3 HB;obtain ⟨⟨m0, m1, m2, m3, m4, m5, m6, m7, m8, m9, m10, m11, m12⟩, mf, mz⟩ := at13 HP9.out;obtain ⟨⟨k0, k1, k2, k3, k4, k5, k6, k7, k8, k9, k10, k11, k12, k13, k14, k15, k16, k17⟩, kf, kz⟩ := at18 HX9.out.box;have HAN := hideIt (answer_is (HX9.out.keep (Below.refl _ _).drew) y true (min y.m.si X.d.L.cm) (by first | omega | (simp only; omega)))
   unfold msgE at HAN
   go_upto_region 5 with fail
   go_region_law (first
    | (go_simp; refine (HAN.out).mono ?_; rintro r w9 ⟨a9, c9, rfl, hw⟩; dsimp only; have HW := hideIt hw; clear hw))
   all_goals go_wp2
   all_goals go_end0
   all_goals ((first | refine ⟨_, rfl, ?_, HW.out⟩ | refine ⟨rfl, _, ?_, HW.out⟩); rw [HV.out]; simp [WkX.v, snapW, answW, tellW, msg0, noT])
  ·have HV := hideIt (HV1.out hok);clear HV1 HV2;have hBK : B ≠ K := by
    intro e1;have h1 := HX3.out.box;have h2 := HB.out.box;rw [e1, h1] at h2
    simp at h2
   have hBP : B ≠ P := by
    have h1 := (Array.getElem?_eq_some_iff.1 HP.out).1;have h2 := HB.out.hP;omega
   have hKB : K ≠ B := fun e1 => hBK e1.symm
   have hPB : P ≠ B := fun e1 => hBP e1.symm
   have HCL : Hid (∀ W, Below wc.heap.size wc W → Calls Tryz.prog 52 #[.string y.m.tx] W fun r w' => r = .returned (.string y.m.tx) ∧ Hid (Below wc.heap.size wc w') ∧ (w'.cell? ⟨P, 12, none⟩ = some (.string y.m.tx) ∧ w'.cell? ⟨B, 0, none⟩ = some (.int .i64 A.1.bi) ∧ w'.cell? ⟨B, 1, none⟩ = some (.int .i64 A.1.bt) ∧ w'.cell? ⟨B, 2, none⟩ = some (.slice a A.1.l.length c) ∧ w'.cell? ⟨B, 3, none⟩ = some (.int .i64 A.1.cm)) ∧ (w'.cell? ⟨K, 7, none⟩ = some (.int .i64 X.d.L.bi) ∧ w'.cell? ⟨K, 8, none⟩ = some (.int .i64 X.d.L.bt) ∧ w'.cell? ⟨K, 9, none⟩ = some (.slice X.la X.d.L.l.length X.lc) ∧ w'.cell? ⟨K, 10, none⟩ = some (.int .i64 X.d.L.cm) ∧ w'.cell? ⟨K, 11, none⟩ = some (.string X.d.tx) ∧ (∀ j, w'.frozen? ⟨K, j, none⟩ = false) ∧ K < w'.heap.size)) := by
    intro W hW;refine (clone_any y.m.tx W htx).mono ?_;rintro r w' ⟨rfl, hbl⟩;have hb2 := below_via hW hbl;obtain ⟨⟨k0, k1, k2, k3, k4, k5, k6, k7, k8, k9, k10, k11, k12, k13, k14, k15, k16, k17⟩, kf, kz⟩ := at18 (HX3.out.keep hb2).box;obtain ⟨⟨n0, n1, n2, n3⟩, nf, nz⟩ := at4 (blkK HB.out.box hb2);obtain ⟨⟨m0, m1, m2, m3, m4, m5, m6, m7, m8, m9, m10, m11, m12⟩, mf, mz⟩ := at13 (blkK HP3.out hb2)
    exact ⟨rfl, hideIt hb2, ⟨m12, n0, n1, n2, n3⟩, k7, k8, k9, k10, k11, kf, kz⟩
   obtain ⟨⟨n0, n1, n2, n3⟩, nf, nz⟩ := at4 HB.out.box;obtain ⟨⟨m0, m1, m2, m3, m4, m5, m6, m7, m8, m9, m10, m11, m12⟩, mf, mz⟩ := at13 HP3.out;clear m0 m1 m2 m3 m4 m5 m6 m7 m8 m9 m10 m11
   go_upto_region 3 with fail
   go_cut [] from 21 to 33 (fun wy => Hid (WK w K {X with d := {X.d with L := A.1, tx := y.m.tx}, la := a, lc := c} wy ∧ wy.heap[P]? = some (.cells #[.int .i64 y.m.kind, .int .i64 y.m.frm, .int .i64 y.m.dst, .int .i64 y.m.term, .int .i64 y.m.pi, .int .i64 y.m.pt, .slice y.a y.m.es.length y.c, .int .i64 y.m.cm, .bool y.m.ok, .int .i64 y.m.mtch, .int .i64 y.m.si, .int .i64 y.m.st, .string y.m.tx] 50 (0, 0))))
   case first =>
    clear HV
    go_region_held3 (fun W => W.cell? ⟨P, 12, none⟩ = some (.string y.m.tx) ∧ W.cell? ⟨B, 0, none⟩ = some (.int .i64 A.1.bi) ∧ W.cell? ⟨B, 1, none⟩ = some (.int .i64 A.1.bt) ∧ W.cell? ⟨B, 2, none⟩ = some (.slice a A.1.l.length c) ∧ W.cell? ⟨B, 3, none⟩ = some (.int .i64 A.1.cm)) (go_keep) (first | (go_at_call 52; refine (HCL.out _ (by first | exact (Below.refl _ _).drew | exact Below.refl _ _)).mono ?_; rintro r w5 ⟨rfl, HQ, ⟨i0, i1, i2, i3, i4⟩, ⟨j7, j8, j9, j10, j11, jf, jz⟩⟩))
    all_goals go_wp2_with fail
    all_goals go_meet
    all_goals exact hideIt ⟨((HX3.out.keep HQ.out).setLog A.1 a c (own_keep (own_base HB.out.own HX0.out.bel.size) HQ.out) hlA).setTx y.m.tx htx, setOther _ (setOther _ (setOther _ (setOther _ (setOther _ (blkK HP3.out HQ.out) hPK) hPK) hPK) hPK) hPK⟩
   case rest =>
    have HX5 := hideIt hcut.out.1;have HP5 := hideIt hcut.out.2;clear hcut HCL n0 n1 n2 n3 nf nz m12 mf mz hBK hBP hKB hPB HX3 HP3 HB;have HS := hideIt (keepSnap_is2 HX5.out (by first | omega | (simp only; omega)))
    go_wp2_with fail
    refine HS.out.mono ?_;rintro r w7 ⟨a7, c7, rfl, hw, hkp⟩;dsimp only;have HX9 := hideIt hw;have HP9 := hideIt (hkp P _ _ HP5.out hPK (by decide));clear hw hkp HS HX5 HP5;obtain ⟨⟨m0, m1, m2, m3, m4, m5, m6, m7, m8, m9, m10, m11, m12⟩, mf, mz⟩ := at13 HP9.out;obtain ⟨⟨k0, k1, k2, k3, k4, k5, k6, k7, k8, k9, k10, k11, k12, k13, k14, k15, k16, k17⟩, kf, kz⟩ := at18 HX9.out.box;have HAN := hideIt (answer_is (HX9.out.keep (Below.refl _ _).drew) y true (min y.m.si A.1.cm) (by first | omega | (simp only; omega)))
    unfold msgE at HAN
    go_upto_region 5 with fail
    go_region_law (first
     | (go_simp; refine (HAN.out).mono ?_; rintro r w9 ⟨a9, c9, rfl, hw⟩; dsimp only; have HW := hideIt hw; clear hw))
    all_goals go_wp2
    all_goals go_end0
    all_goals ((first | refine ⟨_, rfl, ?_, HW.out⟩ | refine ⟨rfl, _, ?_, HW.out⟩); rw [HV.out]; simp [WkX.v, snapW, answW, tellW, msg0, noT])
set_option maxRecDepth 100000 in
set_option maxHeartbeats 16000000 in
theorem ledK_is {X : WkX} {K : Nat} {w wx : World} (h : WK w K X wx) (y : MsgX) (hm : EGot w (.slice y.a y.m.es.length y.c) y.m.es) (hL : mayB X.d.L = true) (hpi : y.m.kind = 3 → 0 ≤ y.m.pi ∧ y.m.pi ≤ 1000000) (htx : y.m.kind ≠ 3 → y.m.tx.size ≤ 60000) (hs : X.M.length < 1000000) (hR : X.R.length < 1000000) : Calls Tryz.prog 143 #[.pointer (some ⟨K, 0, none⟩), .agg (msgE y).toArray] wx fun r w' => ∃ Y' : WkX, r = .returned (.int .i64 0) ∧ Y'.v = ledW X.v y.m ∧ WK w K Y' w' := by
 have HX0 := hideIt (h.keep (below1 wx (.cells (msgE y).toArray 50)));have HP := hideIt (heap_alloc_new wx (.cells (msgE y).toArray 50));have HV : Hid (ledW X.v y.m = if y.m.term < X.d.b.t then answW X.v y.m false 0 else if X.d.b.r = 3 then X.v else if y.m.kind = 3 then accW {follW X.v y.m.frm with wt := true} y.m else instW {follW X.v y.m.frm with wt := true} y.m) := hideIt rfl;have hKP : K ≠ wx.heap.size := by
  have := (Array.getElem?_eq_some_iff.1 h.box).1;omega
 clear h;unfold msgE at *
 go_enter Tryz.func143, Tryz.ntmps143
 go_upto_region 1 with fail
 generalize (World.alloc wx _) = W0 at *;generalize wx.heap.size = P at *;have hPK : P ≠ K := fun e1 => hKP e1.symm
 have HT : Hid (∀ W, Below W0.heap.size W0 W → Calls Tryz.prog 94 #[.pointer (some ⟨K, 0, none⟩)] W fun r w' => r = .returned (.int .i64 X.d.b.t) ∧ w' = W) := hideIt (fun W hW => termW_is (HX0.out.keep hW).box);obtain ⟨⟨m0, m1, m2, m3, m4, m5, m6, m7, m8, m9, m10, m11, m12⟩, mf, mz⟩ := at13 HP.out;clear m0 m1 m2 m4 m5 m6 m7 m8 m9 m10 m11 m12
 go_cut [9] from 5 to 9 (fun x wy => x = .bool (decide (y.m.term < X.d.b.t)) ∧ Hid (Below W0.heap.size W0 wy))
 case first =>
  clear HV
  go_region_held3 (fun W => W.cell? ⟨P, 3, none⟩ = some (.int .i64 y.m.term)) (go_keep) (first | (go_at_call 94; refine (HT.out _ (by first | exact (Below.refl _ _).drew | exact Below.refl _ _)).mono ?_; rintro r w5 ⟨rfl, rfl⟩))
  all_goals go_wp2_with fail
  all_goals go_meet
  all_goals exact ⟨rfl, hideIt (Below.refl _ _).drew⟩
 case rest =>
  obtain ⟨rfl, HB⟩ := hcut;have HX1 := hideIt (HX0.out.keep HB.out);have HP1 := hideIt (blkK HP.out HB.out);clear HT HX0 HP HB m3 mf mz
  by_cases h1 : y.m.term < X.d.b.t
  ·have hd : decide (y.m.term < X.d.b.t) = true := decide_eq_true h1;rw [if_pos h1] at HV;have HAN := hideIt (answer_is HX1.out y false 0 hs);unfold msgE at HAN;obtain ⟨⟨m0, m1, m2, m3, m4, m5, m6, m7, m8, m9, m10, m11, m12⟩, mf, mz⟩ := at13 HP1.out
   go_wp2_with fail
   refine HAN.out.mono ?_;rintro r w9 ⟨a9, c9, rfl, hw⟩;dsimp only;have HW := hideIt hw;clear hw HAN;go_wp2;go_ret
   first
    | refine ⟨_, rfl, ?_, HW.out⟩
    | refine ⟨rfl, _, ?_, HW.out⟩
    | refine ⟨_, ?_, HW.out⟩
   rw [HV.out]
   simp [WkX.v, answW, tellW, msg0, noT]
  ·have hd : decide (y.m.term < X.d.b.t) = false := decide_eq_false h1;rw [if_neg h1] at HV
   by_cases hr : X.d.b.r = 3
   ·rw [if_pos hr] at HV;have HLe : Hid (Calls Tryz.prog 87 #[.pointer (some ⟨K, 0, none⟩)] wc fun r w' => r = .returned (.bool true) ∧ w' = wc) := hideIt (by
     have := leadsW_is HX1.out.box;rw [show decide (X.d.b.r = 3) = true from decide_eq_true hr] at this;exact this)
    clear hr
    go_wp2_with fail
    refine HLe.out.mono ?_;rintro r w2 ⟨rfl, rfl⟩;dsimp only;go_wp2;go_ret;have hh : X.v = ledW X.v y.m := HV.out.symm
    first
     | exact ⟨X, rfl, hh, HX1.out⟩
     | exact ⟨rfl, X, hh, HX1.out⟩
     | exact ⟨X, hh, HX1.out⟩
   ·rw [if_neg hr] at HV;have HLe : Hid (Calls Tryz.prog 87 #[.pointer (some ⟨K, 0, none⟩)] wc fun r w' => r = .returned (.bool false) ∧ w' = wc) := hideIt (by
     have := leadsW_is HX1.out.box;rw [show decide (X.d.b.r = 3) = false from decide_eq_false hr] at this;exact this)
    have HF := hideIt (follow_is2 HX1.out y.m.frm);obtain ⟨⟨m0, m1, m2, m3, m4, m5, m6, m7, m8, m9, m10, m11, m12⟩, mf, mz⟩ := at13 HP1.out;clear hr m0 m2 m3 m4 m5 m6 m7 m8 m9 m10 m11 m12
    go_wp2_with fail
    refine HLe.out.mono ?_;rintro r w2 ⟨rfl, rfl⟩;dsimp only
    go_wp2_with fail
    refine HF.out.mono ?_;rintro r w3 ⟨rfl, hw3, hkp⟩;dsimp only;have HX3 := hideIt hw3;have HP3 := hideIt (hkp P _ _ HP1.out hPK (by decide));clear hw3 hkp HF HLe HX1 HP1 m1 mf mz;have HX4 := hideIt (HX3.out.setWt true);have HP4 := hideIt (setOther (b := K) (j := 17) (.bool true) HP3.out hPK);obtain ⟨⟨k0, k1, k2, k3, k4, k5, k6, k7, k8, k9, k10, k11, k12, k13, k14, k15, k16, k17⟩, kf, kz⟩ := at18 HX3.out.box
    go_upto_region 8 with fail
    generalize (World.setCell _ ⟨K, 17, none⟩ _) = W4 at *;clear k0 k1 k2 k3 k4 k5 k6 k7 k8 k9 k10 k11 k12 k13 k14 k15 k16 k17 kf kz HX3 HP3;obtain ⟨⟨m0, m1, m2, m3, m4, m5, m6, m7, m8, m9, m10, m11, m12⟩, mf, mz⟩ := at13 HP4.out
    by_cases hk : y.m.kind = 3
    ·have hb1 : (y.m.kind == 3) = true := beq_iff_eq.2 hk;rw [if_pos hk] at HV;have HA := hideIt (acceptK_is HX4.out y (hm.keep HX4.out.bel) hL (hpi hk) hs hR);unfold msgE at HA;clear hk
     go_wp2_with fail
     refine HA.out.mono ?_;rintro r w9 ⟨Y9, rfl, hv9, hw⟩;dsimp only;have HW := hideIt hw;clear hw HA;go_wp2;go_ret;have hh : Y9.v = ledW X.v y.m := by
      rw [HV.out, hv9]
      rfl
     first
      | exact ⟨Y9, rfl, hh, HW.out⟩
      | exact ⟨rfl, Y9, hh, HW.out⟩
      | exact ⟨Y9, hh, HW.out⟩
    ·have hb1 : (y.m.kind == 3) = false := beq_eq_false_iff_ne.2 hk;rw [if_neg hk] at HV;have HA := hideIt (installK_is HX4.out y (htx hk) hs hR);unfold msgE at HA;clear hk
     go_wp2_with fail
     refine HA.out.mono ?_;rintro r w9 ⟨Y9, rfl, hv9, hw⟩;dsimp only;have HW := hideIt hw;clear hw HA;go_wp2;go_ret;have hh : Y9.v = ledW X.v y.m := by
      rw [HV.out, hv9]
      rfl
     first
      | exact ⟨Y9, rfl, hh, HW.out⟩
      | exact ⟨rfl, Y9, hh, HW.out⟩
      | exact ⟨Y9, hh, HW.out⟩
end Go.Proofs.YtcaehfkfohianaaGreat
