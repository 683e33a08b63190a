/- Texts of my own, laid together. -/
import Derived.Test.YtcaehfkfohianaaGreatPz13
import Derived.Test.YtcaehfkfohianaaGreatPz22
import Derived.Test.YtcaehfkfohianaaGreatPz14
import Derived.Test.YtcaehfkfohianaaGreatPz18
import Derived.Test.YtcaehfkfohianaaGreatChecked
import Derived.ProofKit
import Derived.OpenShut
import Derived.Below
import Derived.ChangeOld
import Derived.SizedLaws
set_option linter.all false
namespace Go.Proofs.YtcaehfkfohianaaGreat
open Go.RowKit
theorem own_igot {w : World} {B : Nat} {v : Value} {l : List Int} (h : w.ownsRow B 3 1 v l.length (l.map Tm.iv)) (h8 : l.length ≤ 1000000) : IGot w v l := by
 refine ⟨Tm.own_got h (by omega), ?_⟩;obtain ⟨_, ⟨rfl, h0⟩ | ⟨g, cap, cur, rfl, hB, hg, hn, hc, hs, ht⟩⟩ := h
 ·exact ⟨none, 0, by rw [h0], by omega, by unfold maxLen; omega⟩
 ·exact ⟨_, cap, rfl, hn, hc⟩
theorem WR.node {B : Nat} {w : World} {X : WkX} (h : WR B w X) : NodAt w X.d X.gb X.gl X.gn X.gm :=
 ⟨h.at_.1, h.at_.2, own_igot h.nd.n h.sn, own_igot h.nd.m h.sm, by have := h.st; omega⟩
theorem setRow_comm (w : World) (g h : Nat) (c d : Array Value) (hne : g ≠ h) : (w.setRow g c).setRow h d = (w.setRow h d).setRow g c := by
 unfold World.setRow
 simp only
 congr 1
 apply Array.ext_getElem?
 intro i;simp only [Array.getElem?_modify]
 by_cases h1 : h = i
 ·have h2 : ¬ g = i := fun e => hne (e.trans h1.symm)
  simp [h1, h2]
 ·by_cases h2 : g = i
  ·simp [h1, h2]
  ·simp [h1, h2]
theorem laid_two {w w2 : World} {N : Nat} {X : WkX} {old : Array Value} {t : TypeId} {B : Nat} (co cn co0 : Array Value) (hr : WR B w2 X) (hN : w2.heap[N]? = some (.cells old t (0, 0))) (hNB : N < B) (hb : Below w.heap.size w w2) (hw : w.heap.size ≤ N) : Hid ((((w2.alloc (.cells co0 46)).setRow N cn).setRow w2.heap.size co).heap[N]? = some (.cells cn t (0, 0)) ∧ (((w2.alloc (.cells co0 46)).setRow N cn).setRow w2.heap.size co).heap[w2.heap.size]? = some (.cells co 46 (0, 0)) ∧ WR B (((w2.alloc (.cells co0 46)).setRow N cn).setRow w2.heap.size co) X ∧ Below w.heap.size w (((w2.alloc (.cells co0 46)).setRow N cn).setRow w2.heap.size co)) := by
 apply hideIt
 have hlt := (Array.getElem?_eq_some_iff.1 hN).1;have hne : N ≠ w2.heap.size := by omega
 rw [setRow_comm _ _ _ _ _ hne, World.setRow_alloc_new];have hbl := below1 w2 (.cells co 46);refine ⟨setRow_heap _ N old cn t _ (blkK hN hbl), (setRow_other _ N _ _ (fun e => hne e.symm)).trans (heap_alloc_new w2 _), (hr.keep hbl).row cn hNB, ?_⟩;exact below_out (below_via hb hbl) (setRow_out _ N cn) (fun k e => by omega)
set_option maxRecDepth 100000 in
set_option maxHeartbeats 16000000 in
theorem live_is (w : World) : Calls Tryz.prog 10 #[] w fun e w' => e = .returned (.bool true) ∧ Below w.heap.size w w' := by
 have HS : Hid (Calls Tryz.prog 9 #[.int .i64 1, .int .i64 1, .agg #[.int .i64 0, .int .i64 0], .agg #[.int .i64 0, .int .i64 0, .string ⟨#[]⟩], .slice none 0 0] w fun e w' => ∃ gb gl gn gm, e = .returned (.tuple #[.agg (nodA lvD gb gl gn gm), .int .i64 0]) ∧ NodeOwn w.heap.size w' lvD gb gl gn gm ∧ Below w.heap.size w w') := hideIt (by
  have := startN_is 1 1 0 0 0 0 noT [] (.slice none 0 0) w (EGot.nil w none 0 (by unfold maxLen; omega)) (show (0 : Nat) ≤ 140737488355328 by omega)
  rw [lv_start] at this;exact this)
 go_enter Tryz.func10, Tryz.ntmps10
 go_wp2_with fail
 refine HS.out.mono ?_;rintro r w1 ⟨gb, gl, gn, gm, rfl, ho, hb1⟩;dsimp only;obtain ⟨ba, bc, rfl⟩ := Tm.own_len ho.b;obtain ⟨la, lc, rfl⟩ := own_len ho.l;obtain ⟨na, nc, rfl⟩ := Tm.own_len ho.n;obtain ⟨ma, mc, rfl⟩ := Tm.own_len ho.m;have HND1 : Hid (∀ W, Below w1.heap.size w1 W → NodAt W lvD (.slice ba lvD.b.l.length bc) (.slice la lvD.L.l.length lc) (.slice na lvD.nx.length nc) (.slice ma lvD.mt.length mc)) := hideIt (fun W hW => ⟨Tm.own_got (ho.keep hW).b (by simp [lvD]), own_egot (ho.keep hW).l (by simp [lvD]), own_igot (ho.keep hW).n (by simp [lvD]), own_igot (ho.keep hW).m (by simp [lvD]), by simp [lvD, noT, ByteArray.size]⟩);have hbn := below1 w1 (.cells #[.int .i64 1, .int .i64 1, .int .i64 0, .int .i64 0, .int .i64 1, .slice ba 0 bc, .int .i64 0, .int .i64 0, .int .i64 0, .slice la 0 lc, .int .i64 0, .string ⟨#[]⟩, .slice na 0 nc, .slice ma 0 mc] 38);have HB1 := hideIt (below_via hb1 hbn);have HN1 := hideIt (heap_alloc_new w1 (.cells #[.int .i64 1, .int .i64 1, .int .i64 0, .int .i64 0, .int .i64 1, .slice ba 0 bc, .int .i64 0, .int .i64 0, .int .i64 0, .slice la 0 lc, .int .i64 0, .string ⟨#[]⟩, .slice na 0 nc, .slice ma 0 mc] 38));have hsz : w.heap.size ≤ w1.heap.size := hb1.size;have HS1 : Hid (Calls Tryz.prog 11 #[.agg #[.int .i64 1, .int .i64 1, .int .i64 0, .int .i64 0, .int .i64 1, .slice ba 0 bc, .int .i64 0, .int .i64 0, .int .i64 0, .slice la 0 lc, .int .i64 0, .string ⟨#[]⟩, .slice na 0 nc, .slice ma 0 mc], .agg #[.int .i64 1, .int .i64 0, .string ⟨#[]⟩, .int .i64 0, .int .i64 0, .int .i64 0, .int .i64 0, .int .i64 0, .int .i64 0, .slice none 0 0, .int .i64 0, .bool false, .int .i64 0, .int .i64 0, .int .i64 0, .string ⟨#[]⟩]] (w1.alloc (.cells #[.int .i64 1, .int .i64 1, .int .i64 0, .int .i64 0, .int .i64 1, .slice ba 0 bc, .int .i64 0, .int .i64 0, .int .i64 0, .slice la 0 lc, .int .i64 0, .string ⟨#[]⟩, .slice na 0 nc, .slice ma 0 mc] 38)) fun r w' => ∃ X : WkX, r = .returned (.tuple #[.agg #[.int .i64 X.d.me, .int .i64 X.d.n, .int .i64 X.d.b.t, .int .i64 X.d.b.v, .int .i64 X.d.b.r, .slice X.ba X.d.b.l.length X.bc, .int .i64 X.d.ld, .int .i64 X.d.L.bi, .int .i64 X.d.L.bt, .slice X.la X.d.L.l.length X.lc, .int .i64 X.d.L.cm, .string X.d.tx, .slice X.na X.d.nx.length X.nc, .slice X.ma X.d.mt.length X.mc], .agg #[.slice X.ra X.R.length X.rc, .slice X.qa X.M.length X.qc, .int .i64 X.ix, .bool X.wt], .int .i64 0]) ∧ X.v = (stepN lvD lvT).1 ∧ WR (w1.alloc (.cells #[.int .i64 1, .int .i64 1, .int .i64 0, .int .i64 0, .int .i64 1, .slice ba 0 bc, .int .i64 0, .int .i64 0, .int .i64 0, .slice la 0 lc, .int .i64 0, .string ⟨#[]⟩, .slice na 0 nc, .slice ma 0 mc] 38)).heap.size w' X ∧ Below (w1.alloc (.cells #[.int .i64 1, .int .i64 1, .int .i64 0, .int .i64 0, .int .i64 1, .slice ba 0 bc, .int .i64 0, .int .i64 0, .int .i64 0, .slice la 0 lc, .int .i64 0, .string ⟨#[]⟩, .slice na 0 nc, .slice ma 0 mc] 38)).heap.size (w1.alloc (.cells #[.int .i64 1, .int .i64 1, .int .i64 0, .int .i64 0, .int .i64 1, .slice ba 0 bc, .int .i64 0, .int .i64 0, .int .i64 0, .slice la 0 lc, .int .i64 0, .string ⟨#[]⟩, .slice na 0 nc, .slice ma 0 mc] 38)) w') := hideIt (by
  have := stepK_is lvD (.slice ba lvD.b.l.length bc) (.slice la lvD.L.l.length lc) (.slice na lvD.nx.length nc) (.slice ma lvD.mt.length mc) lvT none 0 (w1.alloc (.cells #[.int .i64 1, .int .i64 1, .int .i64 0, .int .i64 0, .int .i64 1, .slice ba 0 bc, .int .i64 0, .int .i64 0, .int .i64 0, .slice la 0 lc, .int .i64 0, .string ⟨#[]⟩, .slice na 0 nc, .slice ma 0 mc] 38)) (HND1.out _ hbn) (EGot.nil _ none 0 (by unfold maxLen; omega)) lv_inv (by unfold i64B lvT; simp)
  rw [lv_t.1] at this;exact this)
 have hlt1 : w1.heap.size < (w1.alloc (.cells #[.int .i64 1, .int .i64 1, .int .i64 0, .int .i64 0, .int .i64 1, .slice ba 0 bc, .int .i64 0, .int .i64 0, .int .i64 0, .slice la 0 lc, .int .i64 0, .string ⟨#[]⟩, .slice na 0 nc, .slice ma 0 mc] 38)).heap.size := by simp
 clear HS ho hb1 hbn HND1;unfold nodA lvD noT
 go_upto_region 2 with (refine wpList_store_row rfl 38 _ _ rfl w1.heap.size #[.int .i64 1, .int .i64 1, .int .i64 0, .int .i64 0, .int .i64 1, .slice ba 0 bc, .int .i64 0, .int .i64 0, .int .i64 0, .slice la 0 lc, .int .i64 0, .string ⟨#[]⟩, .slice na 0 nc, .slice ma 0 mc] rfl rfl 38 #[.int .i64 0, .int .i64 0, .int .i64 0, .int .i64 0, .int .i64 0, .slice none 0 0, .int .i64 0, .int .i64 0, .int .i64 0, .slice none 0 0, .int .i64 0, .string ⟨#[]⟩, .slice none 0 0, .slice none 0 0] (heap_alloc_new w1 _) (by kernel_rfl) (by rfl) (by simp [Value.oneCell']) ?_; rw [World.setRow_alloc_new])
 generalize (World.alloc w1 _) = W1 at *;generalize w1.heap.size = N at *;obtain ⟨⟨d0, d1, d2, d3, d4, d5, d6, d7, d8, d9, d10, d11, d12, d13⟩, df, dz⟩ := at14 HN1.out
 go_wp2_with fail
 refine HS1.out.mono ?_;rintro r w2 ⟨X, rfl, hv, hr, hb2⟩;dsimp only;have hnX := blkK HN1.out hb2;have hNXlt := (Array.getElem?_eq_some_iff.1 hnX).1;have hneX : N ≠ w2.heap.size := by omega
 have HLX := laid_two (w := w) #[.slice X.ra X.R.length X.rc, .slice X.qa X.M.length X.qc, .int .i64 X.ix, .bool X.wt] #[.int .i64 X.d.me, .int .i64 X.d.n, .int .i64 X.d.b.t, .int .i64 X.d.b.v, .int .i64 X.d.b.r, .slice X.ba X.d.b.l.length X.bc, .int .i64 X.d.ld, .int .i64 X.d.L.bi, .int .i64 X.d.L.bt, .slice X.la X.d.L.l.length X.lc, .int .i64 X.d.L.cm, .string X.d.tx, .slice X.na X.d.nx.length X.nc, .slice X.ma X.d.mt.length X.mc] #[.slice none 0 0, .slice none 0 0, .int .i64 0, .bool false] hr hnX hlt1 (below_via HB1.out hb2) hsz;have HNX := hideIt (blkK hnX (below1 w2 (.cells #[.slice none 0 0, .slice none 0 0, .int .i64 0, .bool false] 46)));have HOX := hideIt ((setRow_other _ N w2.heap.size #[.int .i64 X.d.me, .int .i64 X.d.n, .int .i64 X.d.b.t, .int .i64 X.d.b.v, .int .i64 X.d.b.r, .slice X.ba X.d.b.l.length X.bc, .int .i64 X.d.ld, .int .i64 X.d.L.bi, .int .i64 X.d.L.bt, .slice X.la X.d.L.l.length X.lc, .int .i64 X.d.L.cm, .string X.d.tx, .slice X.na X.d.nx.length X.nc, .slice X.ma X.d.mt.length X.mc] (fun e => hneX e.symm)).trans (heap_alloc_new w2 (.cells #[.slice none 0 0, .slice none 0 0, .int .i64 0, .bool false] 46)));clear d0 d1 d2 d3 d4 d5 d6 d7 d8 d9 d10 d11 d12 d13 df dz HS1 hnX hNXlt hneX hb2 hr
 go_upto_region 3 with (first
  | (refine wpList_store_row rfl 38 _ _ rfl N #[.int .i64 X.d.me, .int .i64 X.d.n, .int .i64 X.d.b.t, .int .i64 X.d.b.v, .int .i64 X.d.b.r, .slice X.ba X.d.b.l.length X.bc, .int .i64 X.d.ld, .int .i64 X.d.L.bi, .int .i64 X.d.L.bt, .slice X.la X.d.L.l.length X.lc, .int .i64 X.d.L.cm, .string X.d.tx, .slice X.na X.d.nx.length X.nc, .slice X.ma X.d.mt.length X.mc] rfl rfl 38 _ HNX.out (by kernel_rfl) (by rfl) (by simp [Value.oneCell']) ?_)
  | (refine wpList_store_row rfl 46 _ _ rfl w2.heap.size #[.slice X.ra X.R.length X.rc, .slice X.qa X.M.length X.qc, .int .i64 X.ix, .bool X.wt] rfl rfl 46 #[.slice none 0 0, .slice none 0 0, .int .i64 0, .bool false] HOX.out (by kernel_rfl) (by rfl) (by simp [Value.oneCell']) ?_))
 generalize (World.setRow _ w2.heap.size _) = W3 at *;generalize w2.heap.size = O1 at *;obtain ⟨g1, g2, g3, g4⟩ := HLX.out;have HG1 := hideIt g1;have HG2 := hideIt g2;have HG3 := hideIt g3;have HG4 := hideIt g4;have hXd : X.d = (stepN lvD lvT).1.d := by rw [← hv]; rfl
 have HXR : Hid (X.R.length = 2) := hideIt (by rw [← X.rlen, hv]; exact lv_t.2.1)
 have HXW : Hid (X.wt = true) := hideIt (by rw [show X.wt = X.v.wt from rfl, hv]; exact lv_t.2.2)
 have HS2 : Hid (Calls Tryz.prog 11 #[.agg #[.int .i64 X.d.me, .int .i64 X.d.n, .int .i64 X.d.b.t, .int .i64 X.d.b.v, .int .i64 X.d.b.r, .slice X.ba X.d.b.l.length X.bc, .int .i64 X.d.ld, .int .i64 X.d.L.bi, .int .i64 X.d.L.bt, .slice X.la X.d.L.l.length X.lc, .int .i64 X.d.L.cm, .string X.d.tx, .slice X.na X.d.nx.length X.nc, .slice X.ma X.d.mt.length X.mc], .agg #[.int .i64 2, .int .i64 0, .string ⟨#[97]⟩, .int .i64 0, .int .i64 0, .int .i64 0, .int .i64 0, .int .i64 0, .int .i64 0, .slice none 0 0, .int .i64 0, .bool false, .int .i64 0, .int .i64 0, .int .i64 0, .string ⟨#[]⟩]] W3 fun r w' => ∃ Y : WkX, r = .returned (.tuple #[.agg #[.int .i64 Y.d.me, .int .i64 Y.d.n, .int .i64 Y.d.b.t, .int .i64 Y.d.b.v, .int .i64 Y.d.b.r, .slice Y.ba Y.d.b.l.length Y.bc, .int .i64 Y.d.ld, .int .i64 Y.d.L.bi, .int .i64 Y.d.L.bt, .slice Y.la Y.d.L.l.length Y.lc, .int .i64 Y.d.L.cm, .string Y.d.tx, .slice Y.na Y.d.nx.length Y.nc, .slice Y.ma Y.d.mt.length Y.mc], .agg #[.slice Y.ra Y.R.length Y.rc, .slice Y.qa Y.M.length Y.qc, .int .i64 Y.ix, .bool Y.wt], .int .i64 0]) ∧ Y.v = (stepN (stepN lvD lvT).1.d lvQ).1 ∧ WR W3.heap.size w' Y ∧ Below W3.heap.size W3 w') := hideIt (by
  have := stepK_is X.d X.gb X.gl X.gn X.gm lvQ none 0 W3 g3.node (EGot.nil _ none 0 (by unfold maxLen; omega)) (by rw [hXd]; exact (step_go lv_inv lv_t.1).2) (by unfold i64B lvQ; simp)
  rw [show stepN X.d lvQ = stepN (stepN lvD lvT).1.d lvQ by rw [hXd], lv_q.1] at this;exact this)
 have hlt3 : N < W3.heap.size := (Array.getElem?_eq_some_iff.1 g1).1;clear HLX HNX HOX g1 g2 g3 g4 hXd hv HN1 HB1 hlt1;obtain ⟨⟨d0, d1, d2, d3, d4, d5, d6, d7, d8, d9, d10, d11, d12, d13⟩, df, dz⟩ := at14 HG1.out
 go_wp2_with fail
 refine HS2.out.mono ?_;rintro r w4 ⟨Y, rfl, hv, hr, hb2⟩;dsimp only;have hnY := blkK HG1.out hb2;have hNYlt := (Array.getElem?_eq_some_iff.1 hnY).1;have hneY : N ≠ w4.heap.size := by omega
 have HLY := laid_two (w := w) #[.slice Y.ra Y.R.length Y.rc, .slice Y.qa Y.M.length Y.qc, .int .i64 Y.ix, .bool Y.wt] #[.int .i64 Y.d.me, .int .i64 Y.d.n, .int .i64 Y.d.b.t, .int .i64 Y.d.b.v, .int .i64 Y.d.b.r, .slice Y.ba Y.d.b.l.length Y.bc, .int .i64 Y.d.ld, .int .i64 Y.d.L.bi, .int .i64 Y.d.L.bt, .slice Y.la Y.d.L.l.length Y.lc, .int .i64 Y.d.L.cm, .string Y.d.tx, .slice Y.na Y.d.nx.length Y.nc, .slice Y.ma Y.d.mt.length Y.mc] #[.slice none 0 0, .slice none 0 0, .int .i64 0, .bool false] hr hnY hlt3 (below_via HG4.out hb2) hsz;have HNY := hideIt (blkK hnY (below1 w4 (.cells #[.slice none 0 0, .slice none 0 0, .int .i64 0, .bool false] 46)));have HOY := hideIt ((setRow_other _ N w4.heap.size #[.int .i64 Y.d.me, .int .i64 Y.d.n, .int .i64 Y.d.b.t, .int .i64 Y.d.b.v, .int .i64 Y.d.b.r, .slice Y.ba Y.d.b.l.length Y.bc, .int .i64 Y.d.ld, .int .i64 Y.d.L.bi, .int .i64 Y.d.L.bt, .slice Y.la Y.d.L.l.length Y.lc, .int .i64 Y.d.L.cm, .string Y.d.tx, .slice Y.na Y.d.nx.length Y.nc, .slice Y.ma Y.d.mt.length Y.mc] (fun e => hneY e.symm)).trans (heap_alloc_new w4 (.cells #[.slice none 0 0, .slice none 0 0, .int .i64 0, .bool false] 46)));have HOO := hideIt (blkK (blkK HG2.out hb2) (below1 w4 (.cells #[.slice none 0 0, .slice none 0 0, .int .i64 0, .bool false] 46)));have hO1 : O1 ≠ N ∧ O1 ≠ w4.heap.size := by
  have h1 := (Array.getElem?_eq_some_iff.1 (blkK HG2.out hb2)).1;refine ⟨fun e => ?_, by omega⟩;have h2 := HG2.out;rw [e, HG1.out] at h2
  simp at h2
 have HOZ := hideIt ((setRow_other _ w4.heap.size O1 #[.slice Y.ra Y.R.length Y.rc, .slice Y.qa Y.M.length Y.qc, .int .i64 Y.ix, .bool Y.wt] hO1.2).trans ((setRow_other _ N O1 #[.int .i64 Y.d.me, .int .i64 Y.d.n, .int .i64 Y.d.b.t, .int .i64 Y.d.b.v, .int .i64 Y.d.b.r, .slice Y.ba Y.d.b.l.length Y.bc, .int .i64 Y.d.ld, .int .i64 Y.d.L.bi, .int .i64 Y.d.L.bt, .slice Y.la Y.d.L.l.length Y.lc, .int .i64 Y.d.L.cm, .string Y.d.tx, .slice Y.na Y.d.nx.length Y.nc, .slice Y.ma Y.d.mt.length Y.mc] hO1.1).trans HOO.out));clear d0 d1 d2 d3 d4 d5 d6 d7 d8 d9 d10 d11 d12 d13 df dz HS2 hnY hNYlt hneY hb2 hr HOO hO1
 go_upto_region 4 with (first
  | (refine wpList_store_row rfl 38 _ _ rfl N #[.int .i64 Y.d.me, .int .i64 Y.d.n, .int .i64 Y.d.b.t, .int .i64 Y.d.b.v, .int .i64 Y.d.b.r, .slice Y.ba Y.d.b.l.length Y.bc, .int .i64 Y.d.ld, .int .i64 Y.d.L.bi, .int .i64 Y.d.L.bt, .slice Y.la Y.d.L.l.length Y.lc, .int .i64 Y.d.L.cm, .string Y.d.tx, .slice Y.na Y.d.nx.length Y.nc, .slice Y.ma Y.d.mt.length Y.mc] rfl rfl 38 _ HNY.out (by kernel_rfl) (by rfl) (by simp [Value.oneCell']) ?_)
  | (refine wpList_store_row rfl 46 _ _ rfl w4.heap.size #[.slice Y.ra Y.R.length Y.rc, .slice Y.qa Y.M.length Y.qc, .int .i64 Y.ix, .bool Y.wt] rfl rfl 46 #[.slice none 0 0, .slice none 0 0, .int .i64 0, .bool false] HOY.out (by kernel_rfl) (by rfl) (by simp [Value.oneCell']) ?_))
 generalize (World.setRow _ w4.heap.size _) = W5 at *;generalize w4.heap.size = O2 at *;obtain ⟨f1, f2, f3, f4⟩ := HLY.out;have HF4 := hideIt f4;obtain ⟨q1, q2, q3, q4, q5, q6⟩ := lv_q;have y1 : Y.d.b.r = 3 := by rw [← Y.vd, hv]; exact q2
 have y2 : Y.ix = 2 := by rw [show Y.ix = Y.v.ix from rfl, hv]; exact q3
 have y3 : Y.d.L.cm = 2 := by rw [← Y.vd, hv]; exact q4
 have y4 : Y.d.L.l.length = 2 := by rw [← Y.vd, hv]; exact q5
 have y5 : (Y.d.L.l.getD 1 noE).text = txA := by rw [← Y.vd, hv]; exact q6
 obtain ⟨ea, ec, e1, ⟨e2, e3⟩, e4⟩ := f3.node.l.opend;obtain ⟨eb, eo, rfl, e5, e6, e7, e8⟩ := e4 1 (by omega);unfold WkX.gl at e1;rw [y4] at e1 e2;simp only [Value.slice.injEq] at e1;obtain ⟨e1, -, e9⟩ := e1;rw [y5] at e8;unfold txA at e8;obtain ⟨⟨d0, d1, d2, d3, d4, d5, d6, d7, d8, d9, d10, d11, d12, d13⟩, df, dz⟩ := at14 f1;obtain ⟨⟨o0, o1, o2, o3⟩, of, oz⟩ := at4 HOZ.out;obtain ⟨⟨u0, u1, u2, u3⟩, uf, uz⟩ := at4 f2;rw [y1] at d4;rw [y3] at d10;rw [y4, e1, e9] at d9;rw [HXR.out] at o0;rw [HXW.out] at o3;rw [y2] at u2;have e8' : W5.cell? ⟨eb, eo + 3 + 2, none⟩ = some (.string ⟨#[97]⟩) := e8;have e8'' : W5.cell? ⟨eb, eo + 5, none⟩ = some (.string ⟨#[97]⟩) := e8;clear f1 f2 f3 f4 y1 y2 y3 y4 y5 e1 e4 e6 e7 e8 e9 q1 q2 q3 q4 q5 q6 HLY HNY HOY HOZ hv;go_wp2;go_ret
 exact ⟨rfl, HF4.out⟩
structure EvX where
 e : EvV
 a : Option Addr
 c : Nat
def zEv : EvX := ⟨⟨0, 0, noT, msgZ⟩, none, 0⟩
structure EvAt (w : World) (b o : Nat) (x : EvX) : Prop where
 lt : b < w.heap.size
 c0 : w.cell? ⟨b, o, none⟩ = some (.int .i64 x.e.kind)
 c1 : w.cell? ⟨b, o + 1, none⟩ = some (.int .i64 x.e.idx)
 c2 : w.cell? ⟨b, o + 2, none⟩ = some (.string x.e.tx)
 c3 : w.cell? ⟨b, o + 3, none⟩ = some (.int .i64 x.e.m.kind)
 c4 : w.cell? ⟨b, o + 4, none⟩ = some (.int .i64 x.e.m.frm)
 c5 : w.cell? ⟨b, o + 5, none⟩ = some (.int .i64 x.e.m.dst)
 c6 : w.cell? ⟨b, o + 6, none⟩ = some (.int .i64 x.e.m.term)
 c7 : w.cell? ⟨b, o + 7, none⟩ = some (.int .i64 x.e.m.pi)
 c8 : w.cell? ⟨b, o + 8, none⟩ = some (.int .i64 x.e.m.pt)
 c9 : w.cell? ⟨b, o + 9, none⟩ = some (.slice x.a x.e.m.es.length x.c)
 c10 : w.cell? ⟨b, o + 10, none⟩ = some (.int .i64 x.e.m.cm)
 c11 : w.cell? ⟨b, o + 11, none⟩ = some (.bool x.e.m.ok)
 c12 : w.cell? ⟨b, o + 12, none⟩ = some (.int .i64 x.e.m.mtch)
 c13 : w.cell? ⟨b, o + 13, none⟩ = some (.int .i64 x.e.m.si)
 c14 : w.cell? ⟨b, o + 14, none⟩ = some (.int .i64 x.e.m.st)
 c15 : w.cell? ⟨b, o + 15, none⟩ = some (.string x.e.m.tx)
 es : EGot w (.slice x.a x.e.m.es.length x.c) x.e.m.es
 k : i64B x.e.kind
theorem EvAt.keep {w w' : World} {b o : Nat} {x : EvX} (h : EvAt w b o x) (hb : Below w.heap.size w w') : EvAt w' b o x :=
 ⟨Nat.lt_of_lt_of_le h.lt hb.size, (hb.cell h.lt).trans h.c0, (hb.cell h.lt).trans h.c1, (hb.cell h.lt).trans h.c2, (hb.cell h.lt).trans h.c3, (hb.cell h.lt).trans h.c4, (hb.cell h.lt).trans h.c5, (hb.cell h.lt).trans h.c6, (hb.cell h.lt).trans h.c7, (hb.cell h.lt).trans h.c8, (hb.cell h.lt).trans h.c9, (hb.cell h.lt).trans h.c10, (hb.cell h.lt).trans h.c11, (hb.cell h.lt).trans h.c12, (hb.cell h.lt).trans h.c13, (hb.cell h.lt).trans h.c14, (hb.cell h.lt).trans h.c15, h.es.keep hb, h.k⟩
def EvsGot (w : World) (v : Value) (l : List EvX) : Prop := ∃ a c, v = .slice a l.length c ∧ (l.length ≤ c ∧ c ≤ maxLen) ∧ ∀ i, i < l.length → ∃ b off, a = some ⟨b, off, none⟩ ∧ EvAt w b (off + i * 16) (l.getD i zEv)
theorem EvsGot.keep {w w' : World} {v : Value} {l : List EvX} (h : EvsGot w v l) (hb : Below w.heap.size w w') : EvsGot w' v l := by
 obtain ⟨a, c, e, hc, hr⟩ := h;refine ⟨a, c, e, hc, fun i hi => ?_⟩;obtain ⟨b, off, e2, h2⟩ := hr i hi
 exact ⟨b, off, e2, h2.keep hb⟩
theorem two_old {V w5 : World} {p q B : Nat} {X : WkX} {o1 o2 : Array Value} (cn co : Array Value) (hr : WR B w5 X) (hp : w5.heap[p]? = some (.cells o1 38 (0, 0))) (hq : w5.heap[q]? = some (.cells o2 46 (0, 0))) (hpq : p ≠ q) (h1 : p < B) (h2 : q < B) (hb : Below V.heap.size V w5) (h3 : V.heap.size ≤ p) (h4 : V.heap.size ≤ q) : Hid (((((w5).setRow p cn).setRow q co)).heap[p]? = some (.cells cn 38 (0, 0)) ∧ ((((w5).setRow p cn).setRow q co)).heap[q]? = some (.cells co 46 (0, 0)) ∧ WR B ((((w5).setRow p cn).setRow q co)) X ∧ Below V.heap.size V ((((w5).setRow p cn).setRow q co))) := by
 obtain ⟨f1, f2, f3, f4⟩ := (fin2 cn co hp hq hpq).out;exact hideIt ⟨f1, f2, f3 _ _ hr h1 h2, f4 _ hb h3 h4⟩
theorem two_q {V w5 : World} {p B : Nat} {X : WkX} {o1 : Array Value} (cn co z : Array Value) (hr : WR B w5 X) (hp : w5.heap[p]? = some (.cells o1 38 (0, 0))) (h1 : p < B) (hb : Below V.heap.size V w5) (h3 : V.heap.size ≤ p) : Hid (((((w5.alloc (.cells z 46)).setRow p cn).setRow w5.heap.size co)).heap[p]? = some (.cells cn 38 (0, 0)) ∧ ((((w5.alloc (.cells z 46)).setRow p cn).setRow w5.heap.size co)).heap[w5.heap.size]? = some (.cells co 46 (0, 0)) ∧ WR B ((((w5.alloc (.cells z 46)).setRow p cn).setRow w5.heap.size co)) X ∧ Below V.heap.size V ((((w5.alloc (.cells z 46)).setRow p cn).setRow w5.heap.size co))) :=
 laid_two co cn z hr hp h1 hb h3
theorem two_p {V w5 : World} {q B : Nat} {X : WkX} {o2 : Array Value} (cn co z : Array Value) (hr : WR B w5 X) (hq : w5.heap[q]? = some (.cells o2 46 (0, 0))) (h1 : q < B) (hb : Below V.heap.size V w5) (h3 : V.heap.size ≤ q) : Hid (((((w5.alloc (.cells z 38)).setRow w5.heap.size cn).setRow q co)).heap[w5.heap.size]? = some (.cells cn 38 (0, 0)) ∧ ((((w5.alloc (.cells z 38)).setRow w5.heap.size cn).setRow q co)).heap[q]? = some (.cells co 46 (0, 0)) ∧ WR B ((((w5.alloc (.cells z 38)).setRow w5.heap.size cn).setRow q co)) X ∧ Below V.heap.size V ((((w5.alloc (.cells z 38)).setRow w5.heap.size cn).setRow q co))) := by
 apply hideIt
 have hlt := (Array.getElem?_eq_some_iff.1 hq).1;rw [World.setRow_alloc_new];have hbl := below1 w5 (.cells cn 38)
 exact ⟨(setRow_other _ q _ _ (by omega)).trans (heap_alloc_new w5 _), setRow_heap _ q o2 co _ _ (blkK hq hbl), (hr.keep hbl).row co h1, below_out (below_via hb hbl) (setRow_out _ q co) (fun k e => by omega)⟩
theorem two_new {V w5 : World} {B : Nat} {X : WkX} (cn co z y : Array Value) (hr : WR B w5 X) (hb : Below V.heap.size V w5) : Hid ((((((w5.alloc (.cells z 38)).alloc (.cells y 46)).setRow w5.heap.size cn).setRow (w5.heap.size + 1) co)).heap[w5.heap.size]? = some (.cells cn 38 (0, 0)) ∧ (((((w5.alloc (.cells z 38)).alloc (.cells y 46)).setRow w5.heap.size cn).setRow (w5.heap.size + 1) co)).heap[w5.heap.size + 1]? = some (.cells co 46 (0, 0)) ∧ WR B (((((w5.alloc (.cells z 38)).alloc (.cells y 46)).setRow w5.heap.size cn).setRow (w5.heap.size + 1) co)) X ∧ Below V.heap.size V (((((w5.alloc (.cells z 38)).alloc (.cells y 46)).setRow w5.heap.size cn).setRow (w5.heap.size + 1) co))) := by
 have s1 : (w5.alloc (.cells z 38)).heap.size = w5.heap.size + 1 := by simp
 have hbl := below1 w5 (.cells z 38);have h1 := heap_alloc_new w5 (.cells z 38);have hV := hb.size;have hl := laid_two (w := w5) (N := w5.heap.size) (B := w5.heap.size + 1) (X := zX) co cn y (zX_wr _ (w5.alloc (.cells z 38))) h1 (by omega) (hbl) (Nat.le_refl _);rw [s1] at hl;obtain ⟨g1, g2, g3, g4⟩ := hl.out;exact hideIt ⟨g1, g2, hr.keep g4, below_via hb g4⟩
theorem two_wen {V w5 : World} {B : Nat} {X : WkX} (cn co z y : Array Value) (hr : WR B w5 X) (hb : Below V.heap.size V w5) : Hid ((((((w5.alloc (.cells y 46)).alloc (.cells z 38)).setRow (w5.heap.size + 1) cn).setRow w5.heap.size co)).heap[w5.heap.size + 1]? = some (.cells cn 38 (0, 0)) ∧ (((((w5.alloc (.cells y 46)).alloc (.cells z 38)).setRow (w5.heap.size + 1) cn).setRow w5.heap.size co)).heap[w5.heap.size]? = some (.cells co 46 (0, 0)) ∧ WR B (((((w5.alloc (.cells y 46)).alloc (.cells z 38)).setRow (w5.heap.size + 1) cn).setRow w5.heap.size co)) X ∧ Below V.heap.size V (((((w5.alloc (.cells y 46)).alloc (.cells z 38)).setRow (w5.heap.size + 1) cn).setRow w5.heap.size co))) := by
 have s1 : (w5.alloc (.cells y 46)).heap.size = w5.heap.size + 1 := by simp
 have hbl := below1 w5 (.cells y 46);have h1 := heap_alloc_new w5 (.cells y 46);have hV := hb.size;have hl := two_p (V := w5) (q := w5.heap.size) (B := w5.heap.size + 1) (X := zX) cn co z (zX_wr _ (w5.alloc (.cells y 46))) h1 (by omega) hbl (Nat.le_refl _);rw [s1] at hl;obtain ⟨g1, g2, g3, g4⟩ := hl.out;exact hideIt ⟨g1, g2, hr.keep g4, below_via hb g4⟩
theorem alloc2_new (w : World) (x : Obj) (y : Array Value) (t : TypeId) : ((w.alloc x).alloc (.cells y t)).heap[w.heap.size + 1]? = some (.cells y t (0, 0)) := by
 have h := heap_alloc_new (w.alloc x) (.cells y t)
 rwa [show (w.alloc x).heap.size = w.heap.size + 1 by simp] at h
structure NIn (w : World) (N : Nat) (d : NodeV) (gb gl gn gm : Value) (wr : World) : Prop where
 box : wr.heap[N]? = some (.cells (nodA d gb gl gn gm) 38 (0, 0))
 at_ : NodAt wr d gb gl gn gm
 inv : Inv d
 bel : Below w.heap.size w wr
 hN : w.heap.size ≤ N
theorem start_at {B : Nat} {w1 W : World} {d : NodeV} {gb gl gn gm : Value} {me n t v si st : Int} {tx : ByteArray} {l : List EntV} (ho : NodeOwn B w1 d gb gl gn gm) (hI : Inv d) (hd : d = ⟨me, n, ⟨t, v, 1, []⟩, 0, ⟨si, st, l, si⟩, tx, [], []⟩) (hW : Below w1.heap.size w1 W) : NodAt W d gb gl gn gm := by
 have h1 := nodeB_L hI.1;have h4 : d.L.l.length ≤ 400 := by
  have h := h1.1;unfold mayB at h
  simp at h
  omega
 have k := ho.keep hW
 exact ⟨Tm.own_got k.b (by rw [hd]; simp), own_egot k.l (by omega), own_igot k.n (by rw [hd]; simp), own_igot k.m (by rw [hd]; simp), by have := h1.2; omega⟩
structure NIx (w : World) (N : Nat) (d : NodeV) (gb gl gn gm : Value) (me n : Int) (E : Array Value) (wr : World) : Prop where
 nin : NIn w N d gb gl gn gm wr
 bx : wr.heap[w.heap.size]? = some (.cells E 30 (0, 0))
 lt : w.heap.size < N
 me : d.me = me
 n : d.n = n
theorem at6 {w : World} {p : Nat} {ty : TypeId} {z0 z1 z2 z3 z4 z5 : Value} (h : w.heap[p]? = some (.cells #[z0, z1, z2, z3, z4, z5] ty (0, 0))) : (w.cell? ⟨p, 0, none⟩ = some z0 ∧ w.cell? ⟨p, 1, none⟩ = some z1 ∧ w.cell? ⟨p, 2, none⟩ = some z2 ∧ w.cell? ⟨p, 3, none⟩ = some z3 ∧ w.cell? ⟨p, 4, none⟩ = some z4 ∧ w.cell? ⟨p, 5, none⟩ = some z5) ∧ (∀ j, w.frozen? ⟨p, j, none⟩ = false) ∧ p < w.heap.size :=
 ⟨⟨by rw [Tm.cell_at h]; rfl, by rw [Tm.cell_at h]; rfl, by rw [Tm.cell_at h]; rfl, by rw [Tm.cell_at h]; rfl, by rw [Tm.cell_at h]; rfl, by rw [Tm.cell_at h]; rfl⟩, fun j => Tm.free_at h j, (Array.getElem?_eq_some_iff.1 h).1⟩
theorem at8 {w : World} {p : Nat} {ty : TypeId} {z0 z1 z2 z3 z4 z5 z6 z7 : Value} (h : w.heap[p]? = some (.cells #[z0, z1, z2, z3, z4, z5, z6, z7] ty (0, 0))) : (w.cell? ⟨p, 0, none⟩ = some z0 ∧ w.cell? ⟨p, 1, none⟩ = some z1 ∧ w.cell? ⟨p, 2, none⟩ = some z2 ∧ w.cell? ⟨p, 3, none⟩ = some z3 ∧ w.cell? ⟨p, 4, none⟩ = some z4 ∧ w.cell? ⟨p, 5, none⟩ = some z5 ∧ w.cell? ⟨p, 6, none⟩ = some z6 ∧ w.cell? ⟨p, 7, none⟩ = some z7) ∧ (∀ j, w.frozen? ⟨p, j, none⟩ = false) ∧ p < w.heap.size :=
 ⟨⟨by rw [Tm.cell_at h]; rfl, by rw [Tm.cell_at h]; rfl, by rw [Tm.cell_at h]; rfl, by rw [Tm.cell_at h]; rfl, by rw [Tm.cell_at h]; rfl, by rw [Tm.cell_at h]; rfl, by rw [Tm.cell_at h]; rfl, by rw [Tm.cell_at h]; rfl⟩, fun j => Tm.free_at h j, (Array.getElem?_eq_some_iff.1 h).1⟩
theorem WR.rec_at {B : Nat} {w : World} {X : WkX} (h : WR B w X) {k : Nat} (hk : k < X.R.length) : ∃ b off, X.ra = some ⟨b, off, none⟩ ∧ b < w.heap.size ∧ ∀ j, j < 8 → w.cell? ⟨b, off + k * 8 + j, none⟩ = (recE X.R[k])[j]? := by
 obtain ⟨_, qa, qc, qe, -, hrow⟩ := own_sgot (bytes := 88) h.rs (by have := h.sr; omega)
 obtain ⟨b, off, hb, hlt, hc⟩ := hrow (by omega);simp only [Value.slice.injEq] at qe;refine ⟨b, off, by rw [qe.1, hb], hlt, fun j hj => ?_⟩;rw [← celC_get recK X.R k hk j hj, ← hc (k * 8 + j) (by omega), Nat.add_assoc]
theorem EntO.got {B : Nat} {w : World} {a : Option Addr} {c : Nat} {l : List EntV} (h : EntO B w a c l) : EGot w (.slice a l.length c) l := own_egot h.o (by have := h.s; omega)
end Go.Proofs.YtcaehfkfohianaaGreat
namespace Go.Proofs.YtcaehfkfohianaaGreat
open Go.ChangeShapes Go.WideShapes Go.ChangeAt Go.RowKit
theorem laidOut : laidOutB Tryz.prog = true := by kernel_rfl
theorem wfB {x : Int} (h : (Lit.int .i64 x).wf = true) : i64B x := by
 have e1 : IntKind.i64.min = -9223372036854775808 := by decide
 have e2 : IntKind.i64.max = 9223372036854775807 := by decide
 simpa [Lit.wf, e1, e2, i64B] using h
theorem cells3 : Tryz.prog.cellsOf 3 = 1 := by kernel_rfl
theorem cells4 : Tryz.prog.cellsOf 4 = 1 := by kernel_rfl
theorem cells9 : Tryz.prog.cellsOf 9 = 1 := by kernel_rfl
theorem cells23 : Tryz.prog.cellsOf 23 = 2 := by kernel_rfl
theorem cells25 : Tryz.prog.cellsOf 25 = 2 := by kernel_rfl
theorem cells27 : Tryz.prog.cellsOf 27 = 3 := by kernel_rfl
theorem cells28 : Tryz.prog.cellsOf 28 = 1 := by kernel_rfl
theorem cells30 : Tryz.prog.cellsOf 30 = 8 := by kernel_rfl
theorem cells50 : Tryz.prog.cellsOf 50 = 13 := by kernel_rfl
theorem cells52 : Tryz.prog.cellsOf 52 = 16 := by kernel_rfl
theorem cells55 : Tryz.prog.cellsOf 55 = 3 := by kernel_rfl
theorem bytes55 : Tryz.prog.bytesOf 55 = 32 := by kernel_rfl
theorem many2 {α : Type} (l : List α) (h : l.length = 2) : ∃ a0 a1, l = [a0, a1] := by
 match l, h with
 | [a0, a1], _ => exact ⟨a0, a1, rfl⟩
theorem many3 {α : Type} (l : List α) (h : l.length = 3) : ∃ a0 a1 a2, l = [a0, a1, a2] := by
 match l, h with
 | [a0, a1, a2], _ => exact ⟨a0, a1, a2, rfl⟩
theorem many4 {α : Type} (l : List α) (h : l.length = 4) : ∃ a0 a1 a2 a3, l = [a0, a1, a2, a3] := by
 match l, h with
 | [a0, a1, a2, a3], _ => exact ⟨a0, a1, a2, a3, rfl⟩
theorem many5 {α : Type} (l : List α) (h : l.length = 5) : ∃ a0 a1 a2 a3 a4, l = [a0, a1, a2, a3, a4] := by
 match l, h with
 | [a0, a1, a2, a3, a4], _ => exact ⟨a0, a1, a2, a3, a4, rfl⟩
theorem many8 {α : Type} (l : List α) (h : l.length = 8) : ∃ a0 a1 a2 a3 a4 a5 a6 a7, l = [a0, a1, a2, a3, a4, a5, a6, a7] := by
 match l, h with
 | [a0, a1, a2, a3, a4, a5, a6, a7], _ => exact ⟨a0, a1, a2, a3, a4, a5, a6, a7, rfl⟩
theorem many10 {α : Type} (l : List α) (h : l.length = 10) : ∃ a0 a1 a2 a3 a4 a5 a6 a7 a8 a9, l = [a0, a1, a2, a3, a4, a5, a6, a7, a8, a9] := by
 match l, h with
 | [a0, a1, a2, a3, a4, a5, a6, a7, a8, a9], _ => exact ⟨a0, a1, a2, a3, a4, a5, a6, a7, a8, a9, rfl⟩
theorem many13 {α : Type} (l : List α) (h : l.length = 13) : ∃ a0 a1 a2 a3 a4 a5 a6 a7 a8 a9 a10 a11 a12, l = [a0, a1, a2, a3, a4, a5, a6, a7, a8, a9, a10, a11, a12] := by
 match l, h with
 | [a0, a1, a2, a3, a4, a5, a6, a7, a8, a9, a10, a11, a12], _ => exact ⟨a0, a1, a2, a3, a4, a5, a6, a7, a8, a9, a10, a11, a12, rfl⟩
theorem many16 {α : Type} (l : List α) (h : l.length = 16) : ∃ a0 a1 a2 a3 a4 a5 a6 a7 a8 a9 a10 a11 a12 a13 a14 a15, l = [a0, a1, a2, a3, a4, a5, a6, a7, a8, a9, a10, a11, a12, a13, a14, a15] := by
 match l, h with
 | [a0, a1, a2, a3, a4, a5, a6, a7, a8, a9, a10, a11, a12, a13, a14, a15], _ => exact ⟨a0, a1, a2, a3, a4, a5, a6, a7, a8, a9, a10, a11, a12, a13, a14, a15, rfl⟩
def Light {H : Type} (t : TypeId) (d : DataW H) : Prop := ∀ n ∈ d.weights Tryz.prog t, n ≤ reachBytes
theorem light_each {H : Type} {ts : List TypeId} {ds : List (DataW H)} {j : Nat} {t : TypeId} {d : DataW H} (h : ∀ n ∈ DataW.weightsEach Tryz.prog ts ds, n ≤ reachBytes) (ht : ts[j]? = some t) (hd : ds[j]? = some d) : Light t d :=
 fun n hn => h n (DataW.weights_mem_each ht hd n hn)
theorem light_all {H : Type} {ts : List TypeId} {ds : List (DataW H)} {j : Nat} {t : TypeId} {d : DataW H} (hall : (DataW.weightsEach Tryz.prog ts ds).all (· ≤ reachBytes) = true) (ht : ts[j]? = some t) (hd : ds[j]? = some d) : Light t d :=
 light_each (fun n hn => by simpa using List.all_eq_true.1 hall n hn) ht hd
theorem mem_all {H : Type} {P : Program} {e : TypeId} : ∀ {ds : List (DataW H)} {d : DataW H}, d ∈ ds → ∀ n ∈ d.weights P e, n ∈ DataW.weightsAll P e ds
 | c :: ds, d, h, n, hn => by
  simp only [DataW.weightsAll, List.mem_append]
  rcases List.mem_cons.1 h with rfl | h
  ·exact .inl hn
  ·exact .inr (mem_all h n hn)
 | [], _, h, _, _ => by cases h
theorem reach_lt {n : Nat} (h : n ≤ reachBytes) : n ≤ 140737488355328 := by
 have hr : reachBytes < 2 ^ 47 := reachBytes_lt;have e3 : (2 : Nat) ^ 47 = 140737488355328 := by decide
 omega
theorem light_text {H : Type} {s : ByteArray} (h : Light (H := H) 9 (.lit (.string s.data.toList))) : s.size ≤ 140737488355328 := by
 refine reach_lt (h s.size ?_)
 simp [DataW.weights]
theorem pair23 {H : Type} {enc : TypeId × Value → H} {W : World} {n : Nat} {cs : List Value} {x : DataW H × List MemPlace} (hl : cs.length = 2)
  (h : DataW.trod enc Tryz.prog W 0 (fun _ => true) true n 23 cs = some x) : ∃ a b, cs = [.int .i64 a, .int .i64 b] := by
 obtain ⟨xs, n1, _, _, _, hxl, hfs⟩ := DataW.trod_struct Tryz.underlying23 h;have f0 : DataW.trod enc Tryz.prog W 0 (fun _ => true) true n1 3 ((cs.drop 0).take (Tryz.prog.cellsOf 3)) = xs[0]? := hfs 0 _ rfl;have f1 : DataW.trod enc Tryz.prog W 0 (fun _ => true) true n1 3 ((cs.drop 1).take (Tryz.prog.cellsOf 3)) = xs[1]? := hfs 1 _ rfl;rw [cells3] at f0 f1;obtain ⟨v0, v1, rfl⟩ := many2 cs hl;obtain ⟨y0, y1, rfl⟩ := many2 xs hxl;simp only [List.drop_zero, List.drop_succ_cons, List.take_succ_cons, List.take_zero, List.getElem?_cons_zero, List.getElem?_cons_succ] at f0 f1;obtain ⟨k0, e0, _, _⟩ := DataW.trod_int Tryz.underlying3 f0;obtain ⟨k1, e1, _, _⟩ := DataW.trod_int Tryz.underlying3 f1;simp only [List.cons.injEq, and_true] at e0 e1
 exact ⟨k0, k1, by rw [e0, e1]⟩
theorem pair25 {H : Type} {enc : TypeId × Value → H} {W : World} {n : Nat} {cs : List Value} {x : DataW H × List MemPlace} (hl : cs.length = 2)
  (h : DataW.trod enc Tryz.prog W 0 (fun _ => true) true n 25 cs = some x) : ∃ a b, cs = [.int .i64 a, .int .i64 b] := by
 obtain ⟨xs, n1, _, _, _, hxl, hfs⟩ := DataW.trod_struct Tryz.underlying25 h;have f0 : DataW.trod enc Tryz.prog W 0 (fun _ => true) true n1 3 ((cs.drop 0).take (Tryz.prog.cellsOf 3)) = xs[0]? := hfs 0 _ rfl;have f1 : DataW.trod enc Tryz.prog W 0 (fun _ => true) true n1 3 ((cs.drop 1).take (Tryz.prog.cellsOf 3)) = xs[1]? := hfs 1 _ rfl;rw [cells3] at f0 f1;obtain ⟨v0, v1, rfl⟩ := many2 cs hl;obtain ⟨y0, y1, rfl⟩ := many2 xs hxl;simp only [List.drop_zero, List.drop_succ_cons, List.take_succ_cons, List.take_zero, List.getElem?_cons_zero, List.getElem?_cons_succ] at f0 f1;obtain ⟨k0, e0, _, _⟩ := DataW.trod_int Tryz.underlying3 f0;obtain ⟨k1, e1, _, _⟩ := DataW.trod_int Tryz.underlying3 f1;simp only [List.cons.injEq, and_true] at e0 e1
 exact ⟨k0, k1, by rw [e0, e1]⟩
theorem snap_cells {H : Type} {enc : TypeId × Value → H} {W : World} {n : Nat} {cs : List Value} {x : DataW H × List MemPlace} (hl : cs.length = 3)
  (h : DataW.trod enc Tryz.prog W 0 (fun _ => true) true n 27 cs = some x) (hw : Light 27 x.1) : ∃ a b tx, cs = [.int .i64 a, .int .i64 b, .string tx] ∧ tx.size ≤ 140737488355328 := by
 obtain ⟨xs, n1, _, hd, _, hxl, hfs⟩ := DataW.trod_struct Tryz.underlying27 h;have f0 : DataW.trod enc Tryz.prog W 0 (fun _ => true) true n1 25 ((cs.drop 0).take (Tryz.prog.cellsOf 25)) = xs[0]? := hfs 0 _ rfl;rw [cells25] at f0;have f1 : DataW.trod enc Tryz.prog W 0 (fun _ => true) true n1 9 ((cs.drop 2).take (Tryz.prog.cellsOf 9)) = xs[1]? := hfs 1 _ rfl;rw [cells9] at f1;obtain ⟨v0, v1, v2, rfl⟩ := many3 cs hl;obtain ⟨y0, y1, rfl⟩ := many2 xs hxl;simp only [List.drop_zero, List.drop_succ_cons, List.take_succ_cons, List.take_zero, List.getElem?_cons_zero, List.getElem?_cons_succ] at f0 f1;have hd2 : x.1 = .agg [y0.1, y1.1] := by
  rw [hd]
  rfl
 have hE : ∀ n ∈ DataW.weightsEach Tryz.prog [25, 9] [y0.1, y1.1], n ≤ reachBytes := fun n hn => hw n (by
  rw [hd2]
  simpa [DataW.weights, Tryz.underlying27] using hn)
 obtain ⟨z0, u0, e0⟩ := pair25 rfl f0;have wt := light_each (j := 1) hE rfl rfl;obtain ⟨z1, e1, q1, _⟩ := DataW.trod_string Tryz.underlying9 f1;rw [q1] at wt;simp only [List.cons.injEq, and_true] at e0 e1
 exact ⟨z0, u0, z1, by rw [e0.1, e0.2, e1], light_text wt⟩
def EntAt (w : World) (b off : Nat) (e : EntV) : Prop := w.cell? ⟨b, off, none⟩ = some (.int .i64 e.term) ∧ w.cell? ⟨b, off + 1, none⟩ = some (.int .i64 e.kind) ∧ w.cell? ⟨b, off + 2, none⟩ = some (.string e.text)
set_option maxRecDepth 100000 in
theorem ents_cells {H : Type} {enc : TypeId × Value → H} {W : World} {n : Nat} {v : Value} {x : DataW H × List MemPlace}
  (h : DataW.trod enc Tryz.prog W 0 (fun _ => true) true n 28 [v] = some x) :
  ∃ a c l, v = .slice a l.length c ∧ (l.length ≤ c ∧ c ≤ maxLen) ∧ (0 < l.length → ∃ b off, a = some ⟨b, off, none⟩ ∧ b < W.heap.size ∧ ∀ j, j < l.length * 3 → W.cell? ⟨b, off + j, none⟩ = (entC l)[j]?) ∧
   (x.1 = .nil ∧ l = [] ∨ ∃ el sp, x.1 = .slice el sp ∧ l.length = el.length) := by
 rcases Deep.open_slice Tryz.underlying28 h with ⟨hcs, hx⟩ | ⟨x0, len, c, m, n0, D, Pl, hcs, _, hl, hm, hmm, hxe, hx⟩
 ·have : v = .slice none 0 0 := by simpa using hcs
  subst this
  exact ⟨none, 0, [], rfl, ⟨Nat.le_refl _, Nat.zero_le _⟩, fun h => absurd h (by simp), .inl ⟨by rw [hx], rfl⟩⟩
 ·have : v = .slice (some x0) len c := by simpa using hcs
  subst this;simp only [if_true] at hmm;rw [cells55] at hx;obtain ⟨b, off, spot⟩ := x0;have hspot0 : 0 < len → spot = none := by
   intro hpos;obtain ⟨cs', h1, _⟩ := hx 0 (by omega);obtain ⟨_, hlen, hcell⟩ := World.cells?_some h1;obtain ⟨v0, v1, v2, rfl⟩ := many3 cs' hlen;have g := World.cell?_spot (hcell 0 (by omega))
   simpa [Addr.add] using g
  have key : ∀ i, i < len → ∃ o : EntV, spot = none ∧ b < W.heap.size ∧ EntAt W b (off + i * 3) o := by
   intro i hi;obtain ⟨cs', h1, h2⟩ := hx i (by omega);obtain ⟨_, hlen, hcell⟩ := World.cells?_some h1;obtain ⟨xs, n', _, _, _, hxl, hfs⟩ := DataW.trod_struct Tryz.underlying55 h2;have f0 : DataW.trod enc Tryz.prog W 0 (fun _ => true) true n' 3 ((cs'.drop 0).take (Tryz.prog.cellsOf 3)) = xs[0]? := hfs 0 _ rfl;have f1 : DataW.trod enc Tryz.prog W 0 (fun _ => true) true n' 3 ((cs'.drop 1).take (Tryz.prog.cellsOf 3)) = xs[1]? := hfs 1 _ rfl;have f2 : DataW.trod enc Tryz.prog W 0 (fun _ => true) true n' 9 ((cs'.drop 2).take (Tryz.prog.cellsOf 9)) = xs[2]? := hfs 2 _ rfl;rw [cells3] at f0 f1;rw [cells9] at f2;obtain ⟨v0, v1, v2, rfl⟩ := many3 cs' hlen;obtain ⟨y0, y1, y2, rfl⟩ := many3 xs hxl;simp only [List.drop_zero, List.drop_succ_cons, List.take_succ_cons, List.take_zero, List.getElem?_cons_zero, List.getElem?_cons_succ] at f0 f1 f2;obtain ⟨z0, e0, _, _⟩ := DataW.trod_int Tryz.underlying3 f0;obtain ⟨z1, e1, _, _⟩ := DataW.trod_int Tryz.underlying3 f1;obtain ⟨z2, e2, _, _⟩ := DataW.trod_string Tryz.underlying9 f2;simp only [List.cons.injEq, and_true] at e0 e1 e2;subst e0 e1 e2;have hspot : spot = none := hspot0 (by omega);subst hspot;have k0 := hcell 0 (by omega);have k1 := hcell 1 (by omega);have k2 := hcell 2 (by omega);rw [addN, addN] at k0 k1 k2;refine ⟨⟨z0, z1, z2⟩, rfl, ?_, by simpa using k0, by simpa using k1, by simpa using k2⟩
   rcases Nat.lt_or_ge b W.heap.size with h' | h'
   ·exact h'
   ·simp [World.cell?, Array.getElem?_eq_none h'] at k0
  obtain ⟨f, hfo⟩ := @Deep.choose_lt EntV ⟨noE⟩ len (fun i o => spot = none ∧ b < W.heap.size ∧ EntAt W b (off + i * 3) o) key;refine ⟨some ⟨b, off, spot⟩, c, (List.range len).map f, by simp, ⟨by simpa using hl, hm⟩, fun hp => ?_, .inr ⟨_, _, by rw [hxe], by simp⟩⟩;have hp' : 0 < len := by simpa using hp
  have hsp := hspot0 hp';subst hsp;refine ⟨b, off, rfl, (hfo 0 hp').2.1, fun j hj => ?_⟩;have hj' : j < len * 3 := by simpa using hj
  have hi : j / 3 < len := by omega
  obtain ⟨_, _, q0, q1, q2⟩ := hfo (j / 3) hi;obtain ⟨g0, g1, g2⟩ := entC_get ((List.range len).map f) (j / 3) (by simpa using hi);simp only [List.getElem_map, List.getElem_range] at g0 g1 g2
  rcases (by omega : j = j / 3 * 3 ∨ j = j / 3 * 3 + 1 ∨ j = j / 3 * 3 + 2) with e | e | e
  ·rw [e, g0];exact q0
  ·rw [e, g1];exact q1
  ·rw [e, g2];exact q2
theorem ents_got {H : Type} {enc : TypeId × Value → H} {W : World} {n : Nat} {x : DataW H × List MemPlace} {v : Value}
  (h : DataW.trod enc Tryz.prog W 0 (fun _ => true) true n 28 [v] = some x) (hw : Light 28 x.1) : ∃ a c l, [v] = [.slice a (List.length l) c] ∧ EGot W (.slice a l.length c) l := by
 obtain ⟨a, c, l, rfl, hcc, hg, hx⟩ := ents_cells h;refine ⟨a, c, l, rfl, ?_, a, c, rfl, hcc, hg⟩
 rcases hx with ⟨_, hl⟩ | ⟨el, sp, hx, hle⟩
 ·rw [hl]
  simp
 ·have h1 := hw ((el.length + sp.length) * Tryz.prog.bytesOf 55) (by rw [hx]; simp [DataW.weights, Tryz.underlying28])
  rw [bytes55] at h1;have := reach_lt h1;omega
set_option maxRecDepth 100000 in
theorem msg_cells {H : Type} {enc : TypeId × Value → H} {W : World} {n : Nat} {cs : List Value} {x : DataW H × List MemPlace} (hl : cs.length = 13)
  (h : DataW.trod enc Tryz.prog W 0 (fun _ => true) true n 50 cs = some x) (hw : Light 50 x.1) : ∃ m a c, cs = msgE ⟨m, a, c⟩ ∧ EGot W (.slice a m.es.length c) m.es := by
 obtain ⟨xs, n1, _, hd, _, hxl, hfs⟩ := DataW.trod_struct Tryz.underlying50 h;have f0 : DataW.trod enc Tryz.prog W 0 (fun _ => true) true n1 3 ((cs.drop 0).take (Tryz.prog.cellsOf 3)) = xs[0]? := hfs 0 _ rfl;rw [cells3] at f0;have f1 : DataW.trod enc Tryz.prog W 0 (fun _ => true) true n1 3 ((cs.drop 1).take (Tryz.prog.cellsOf 3)) = xs[1]? := hfs 1 _ rfl;rw [cells3] at f1;have f2 : DataW.trod enc Tryz.prog W 0 (fun _ => true) true n1 3 ((cs.drop 2).take (Tryz.prog.cellsOf 3)) = xs[2]? := hfs 2 _ rfl;rw [cells3] at f2;have f3 : DataW.trod enc Tryz.prog W 0 (fun _ => true) true n1 3 ((cs.drop 3).take (Tryz.prog.cellsOf 3)) = xs[3]? := hfs 3 _ rfl;rw [cells3] at f3;have f4 : DataW.trod enc Tryz.prog W 0 (fun _ => true) true n1 25 ((cs.drop 4).take (Tryz.prog.cellsOf 25)) = xs[4]? := hfs 4 _ rfl;rw [cells25] at f4;have f5 : DataW.trod enc Tryz.prog W 0 (fun _ => true) true n1 28 ((cs.drop 6).take (Tryz.prog.cellsOf 28)) = xs[5]? := hfs 5 _ rfl;rw [cells28] at f5;have f6 : DataW.trod enc Tryz.prog W 0 (fun _ => true) true n1 3 ((cs.drop 7).take (Tryz.prog.cellsOf 3)) = xs[6]? := hfs 6 _ rfl;rw [cells3] at f6;have f7 : DataW.trod enc Tryz.prog W 0 (fun _ => true) true n1 4 ((cs.drop 8).take (Tryz.prog.cellsOf 4)) = xs[7]? := hfs 7 _ rfl;rw [cells4] at f7;have f8 : DataW.trod enc Tryz.prog W 0 (fun _ => true) true n1 3 ((cs.drop 9).take (Tryz.prog.cellsOf 3)) = xs[8]? := hfs 8 _ rfl;rw [cells3] at f8;have f9 : DataW.trod enc Tryz.prog W 0 (fun _ => true) true n1 27 ((cs.drop 10).take (Tryz.prog.cellsOf 27)) = xs[9]? := hfs 9 _ rfl;rw [cells27] at f9;obtain ⟨v0, v1, v2, v3, v4, v5, v6, v7, v8, v9, v10, v11, v12, rfl⟩ := many13 cs hl;obtain ⟨y0, y1, y2, y3, y4, y5, y6, y7, y8, y9, rfl⟩ := many10 xs hxl;simp only [List.drop_zero, List.drop_succ_cons, List.take_succ_cons, List.take_zero, List.getElem?_cons_zero, List.getElem?_cons_succ] at f0 f1 f2 f3 f4 f5 f6 f7 f8 f9;have hd2 : x.1 = .agg [y0.1, y1.1, y2.1, y3.1, y4.1, y5.1, y6.1, y7.1, y8.1, y9.1] := by
  rw [hd]
  rfl
 have hE : ∀ n ∈ DataW.weightsEach Tryz.prog [3, 3, 3, 3, 25, 28, 3, 4, 3, 27] [y0.1, y1.1, y2.1, y3.1, y4.1, y5.1, y6.1, y7.1, y8.1, y9.1], n ≤ reachBytes := fun n hn => hw n (by
  rw [hd2]
  simpa [DataW.weights, Tryz.underlying50] using hn)
 obtain ⟨z0, e0, _, w0⟩ := DataW.trod_int Tryz.underlying3 f0;obtain ⟨z1, e1, _, w1⟩ := DataW.trod_int Tryz.underlying3 f1;obtain ⟨z2, e2, _, w2⟩ := DataW.trod_int Tryz.underlying3 f2;obtain ⟨z3, e3, _, w3⟩ := DataW.trod_int Tryz.underlying3 f3;obtain ⟨z4, u4, e4⟩ := pair25 rfl f4;obtain ⟨a, c, l, e5, hg⟩ := ents_got f5 (light_each (j := 5) hE rfl rfl);obtain ⟨z6, e6, _, w6⟩ := DataW.trod_int Tryz.underlying3 f6;obtain ⟨z7, e7, _⟩ := DataW.trod_bool Tryz.underlying4 f7;obtain ⟨z8, e8, _, w8⟩ := DataW.trod_int Tryz.underlying3 f8;obtain ⟨si, st, tx, e9, ht⟩ := snap_cells rfl f9 (light_each (j := 9) hE rfl rfl);simp only [List.cons.injEq, and_true] at e0 e1 e2 e3 e4 e5 e6 e7 e8 e9
 exact ⟨⟨z0, z1, z2, z3, z4, u4, l, z6, z7, z8, si, st, tx⟩, a, c, by rw [e0, e1, e2, e3, e4.1, e4.2, e5, e6, e7, e8, e9.1, e9.2.1, e9.2.2]; rfl, hg⟩
def evE (x : EvX) : List Value := [.int .i64 x.e.kind, .int .i64 x.e.idx, .string x.e.tx, .int .i64 x.e.m.kind, .int .i64 x.e.m.frm, .int .i64 x.e.m.dst, .int .i64 x.e.m.term, .int .i64 x.e.m.pi, .int .i64 x.e.m.pt, .slice x.a x.e.m.es.length x.c, .int .i64 x.e.m.cm, .bool x.e.m.ok, .int .i64 x.e.m.mtch, .int .i64 x.e.m.si, .int .i64 x.e.m.st, .string x.e.m.tx]
set_option maxRecDepth 100000 in
theorem ev_cells {H : Type} {enc : TypeId × Value → H} {W : World} {n : Nat} {cs : List Value} {x : DataW H × List MemPlace} (hl : cs.length = 16)
  (h : DataW.trod enc Tryz.prog W 0 (fun _ => true) true n 52 cs = some x) (hw : Light 52 x.1) : ∃ y : EvX, cs = evE y ∧ EGot W (.slice y.a y.e.m.es.length y.c) y.e.m.es ∧ i64B y.e.kind := by
 obtain ⟨xs, n1, _, hd, _, hxl, hfs⟩ := DataW.trod_struct Tryz.underlying52 h;have f0 : DataW.trod enc Tryz.prog W 0 (fun _ => true) true n1 3 ((cs.drop 0).take (Tryz.prog.cellsOf 3)) = xs[0]? := hfs 0 _ rfl;rw [cells3] at f0;have f1 : DataW.trod enc Tryz.prog W 0 (fun _ => true) true n1 3 ((cs.drop 1).take (Tryz.prog.cellsOf 3)) = xs[1]? := hfs 1 _ rfl;rw [cells3] at f1;have f2 : DataW.trod enc Tryz.prog W 0 (fun _ => true) true n1 9 ((cs.drop 2).take (Tryz.prog.cellsOf 9)) = xs[2]? := hfs 2 _ rfl;rw [cells9] at f2;have f3 : DataW.trod enc Tryz.prog W 0 (fun _ => true) true n1 50 ((cs.drop 3).take (Tryz.prog.cellsOf 50)) = xs[3]? := hfs 3 _ rfl;rw [cells50] at f3;obtain ⟨v0, v1, v2, v3, v4, v5, v6, v7, v8, v9, v10, v11, v12, v13, v14, v15, rfl⟩ := many16 cs hl;obtain ⟨y0, y1, y2, y3, rfl⟩ := many4 xs hxl;simp only [List.drop_zero, List.drop_succ_cons, List.take_succ_cons, List.take_zero, List.getElem?_cons_zero, List.getElem?_cons_succ] at f0 f1 f2 f3;have hd2 : x.1 = .agg [y0.1, y1.1, y2.1, y3.1] := by
  rw [hd]
  rfl
 have hE : ∀ n ∈ DataW.weightsEach Tryz.prog [3, 3, 9, 50] [y0.1, y1.1, y2.1, y3.1], n ≤ reachBytes := fun n hn => hw n (by
  rw [hd2]
  simpa [DataW.weights, Tryz.underlying52] using hn)
 obtain ⟨z0, e0, _, w0⟩ := DataW.trod_int Tryz.underlying3 f0;obtain ⟨z1, e1, _, w1⟩ := DataW.trod_int Tryz.underlying3 f1;have wt := light_each (j := 2) hE rfl rfl;obtain ⟨z2, e2, q2, _⟩ := DataW.trod_string Tryz.underlying9 f2;rw [q2] at wt;obtain ⟨m, a, c, e3, hg⟩ := msg_cells rfl f3 (light_each (j := 3) hE rfl rfl);simp only [msgE] at e3;simp only [List.cons.injEq, and_true] at e0 e1 e2 e3
 exact ⟨⟨⟨z0, z1, z2, m⟩, a, c⟩, by rw [e0, e1, e2, e3.1, e3.2.1, e3.2.2.1, e3.2.2.2.1, e3.2.2.2.2.1, e3.2.2.2.2.2.1, e3.2.2.2.2.2.2.1, e3.2.2.2.2.2.2.2.1, e3.2.2.2.2.2.2.2.2.1, e3.2.2.2.2.2.2.2.2.2.1, e3.2.2.2.2.2.2.2.2.2.2.1, e3.2.2.2.2.2.2.2.2.2.2.2.1, e3.2.2.2.2.2.2.2.2.2.2.2.2]; rfl, hg, wfB w0⟩
set_option maxRecDepth 100000 in
theorem open_evs {H : Type} {enc : TypeId × Value → H} {W : World} {b0 : Nat} {v : Value} {d : DataW H} {p : List MemPlace}
  (hv : Value.okWide Tryz.prog W .any b0 31 v) (h : DataW.Trod enc Tryz.prog W 0 (fun _ => true) true 31 v d p) (hw : Light 31 d) : ∃ ev, EvsGot W v ev := by
 obtain ⟨fuel, hf⟩ := h;obtain ⟨va, len, c, rfl⟩ := okWide_slice Tryz.underlying31 hv
 rcases Deep.open_slice Tryz.underlying31 hf with ⟨hcs, hx⟩ | ⟨x0, vl, vc, m, n0, D, Pl, hcs, _, hl, hm, hmm, hxe, hx⟩
 ·simp only [Value.cells, List.cons.injEq, and_true, Value.slice.injEq] at hcs;obtain ⟨rfl, rfl, rfl⟩ := hcs
  exact ⟨[], none, 0, rfl, ⟨Nat.le_refl _, Nat.zero_le _⟩, fun i hi => absurd hi (by simp)⟩
 ·simp only [Value.cells, List.cons.injEq, and_true, Value.slice.injEq] at hcs;obtain ⟨rfl, rfl, rfl⟩ := hcs;simp only [if_true] at hmm;rw [cells52] at hx;have hd : d = .slice ((List.range len).map D) ((List.range (m - len)).map fun j => D (len + j)) := by
   have := congrArg Prod.fst hxe;exact this
  have hLi : ∀ i, i < len → Light 52 (D i) := fun i hi n hn => hw n (by
   rw [hd];simp only [DataW.weights, Tryz.underlying31, List.mem_cons, List.mem_append];exact .inr (.inl (mem_all (List.mem_map.2 ⟨i, List.mem_range.2 hi, rfl⟩) n hn)))
  obtain ⟨b, off, spot⟩ := x0;have hspot0 : 0 < len → spot = none := by
   intro hpos;obtain ⟨cs', h1, _⟩ := hx 0 (by omega);obtain ⟨_, hlen, hcell⟩ := World.cells?_some h1;have h5 : 0 < cs'.length := by omega
   have g := World.cell?_spot ((hcell 0 (by omega)).trans (List.getElem?_eq_getElem h5))
   simpa [Addr.add] using g
  have key : ∀ i, i < len → ∃ o : EvX, spot = none ∧ EvAt W b (off + i * 16) o := by
   intro i hi;obtain ⟨cs', h1, h2⟩ := hx i (by omega);obtain ⟨_, hlen, hcell⟩ := World.cells?_some h1;obtain ⟨y, rfl, hg, hk⟩ := ev_cells hlen h2 (hLi i hi);have hspot : spot = none := hspot0 (by omega);subst hspot;have k : ∀ j, j < 16 → W.cell? ⟨b, off + i * 16 + j, none⟩ = (evE y)[j]? := by
    intro j hj;have k0 := hcell j (by omega);rw [addN, addN] at k0;exact k0
   refine ⟨y, rfl, ?_, k 0 (by omega), k 1 (by omega), k 2 (by omega), k 3 (by omega), k 4 (by omega), k 5 (by omega), k 6 (by omega), k 7 (by omega), k 8 (by omega), k 9 (by omega), k 10 (by omega), k 11 (by omega), k 12 (by omega), k 13 (by omega), k 14 (by omega), k 15 (by omega), hg, hk⟩;have k0 := k 0 (by omega)
   rcases Nat.lt_or_ge b W.heap.size with h' | h'
   ·exact h'
   ·simp [World.cell?, Array.getElem?_eq_none h', evE] at k0
  obtain ⟨f, hfo⟩ := @Deep.choose_lt EvX ⟨zEv⟩ len (fun i o => spot = none ∧ EvAt W b (off + i * 16) o) key;refine ⟨(List.range len).map f, some ⟨b, off, spot⟩, c, by simp, ⟨by simpa using hl, hm⟩, fun i hi => ?_⟩;have hi' : i < len := by simpa using hi
  obtain ⟨hs, hE⟩ := hfo i hi';subst hs
  exact ⟨b, off, rfl, by simpa [hi'] using hE⟩
set_option maxRecDepth 100000 in
theorem begin_cells {H : Type} {enc : TypeId × Value → H} {W : World} {n : Nat} {cs : List Value} {x : DataW H × List MemPlace} (hl : cs.length = 8)
  (h : DataW.trod enc Tryz.prog W 0 (fun _ => true) true n 30 cs = some x) (hw : Light 30 x.1) : ∃ me n t0 v si st tx gl0 l, cs = [.int .i64 me, .int .i64 n, .int .i64 t0, .int .i64 v, .int .i64 si, .int .i64 st, .string tx, gl0] ∧ EGot W gl0 l ∧ tx.size ≤ 140737488355328 := by
 obtain ⟨xs, n1, _, hd, _, hxl, hfs⟩ := DataW.trod_struct Tryz.underlying30 h;have f0 : DataW.trod enc Tryz.prog W 0 (fun _ => true) true n1 3 ((cs.drop 0).take (Tryz.prog.cellsOf 3)) = xs[0]? := hfs 0 _ rfl;rw [cells3] at f0;have f1 : DataW.trod enc Tryz.prog W 0 (fun _ => true) true n1 3 ((cs.drop 1).take (Tryz.prog.cellsOf 3)) = xs[1]? := hfs 1 _ rfl;rw [cells3] at f1;have f2 : DataW.trod enc Tryz.prog W 0 (fun _ => true) true n1 23 ((cs.drop 2).take (Tryz.prog.cellsOf 23)) = xs[2]? := hfs 2 _ rfl;rw [cells23] at f2;have f3 : DataW.trod enc Tryz.prog W 0 (fun _ => true) true n1 27 ((cs.drop 4).take (Tryz.prog.cellsOf 27)) = xs[3]? := hfs 3 _ rfl;rw [cells27] at f3;have f4 : DataW.trod enc Tryz.prog W 0 (fun _ => true) true n1 28 ((cs.drop 7).take (Tryz.prog.cellsOf 28)) = xs[4]? := hfs 4 _ rfl;rw [cells28] at f4;obtain ⟨v0, v1, v2, v3, v4, v5, v6, v7, rfl⟩ := many8 cs hl;obtain ⟨y0, y1, y2, y3, y4, rfl⟩ := many5 xs hxl;simp only [List.drop_zero, List.drop_succ_cons, List.take_succ_cons, List.take_zero, List.getElem?_cons_zero, List.getElem?_cons_succ] at f0 f1 f2 f3 f4;have hd2 : x.1 = .agg [y0.1, y1.1, y2.1, y3.1, y4.1] := by
  rw [hd]
  rfl
 have hE : ∀ n ∈ DataW.weightsEach Tryz.prog [3, 3, 23, 27, 28] [y0.1, y1.1, y2.1, y3.1, y4.1], n ≤ reachBytes := fun n hn => hw n (by
  rw [hd2]
  simpa [DataW.weights, Tryz.underlying30] using hn)
 obtain ⟨z0, e0, _, w0⟩ := DataW.trod_int Tryz.underlying3 f0;obtain ⟨z1, e1, _, w1⟩ := DataW.trod_int Tryz.underlying3 f1;obtain ⟨z2, u2, e2⟩ := pair23 rfl f2;obtain ⟨si, st, tx, e3, ht⟩ := snap_cells rfl f3 (light_each (j := 3) hE rfl rfl);obtain ⟨a, c, l, e4, hg⟩ := ents_got f4 (light_each (j := 4) hE rfl rfl);simp only [List.cons.injEq, and_true] at e0 e1 e2 e3 e4
 exact ⟨z0, z1, z2, u2, si, st, tx, _, l, by rw [e0, e1, e2.1, e2.2, e3.1, e3.2.1, e3.2.2, e4], hg, ht⟩
set_option maxRecDepth 100000 in
theorem open_begin {H : Type} {enc : TypeId × Value → H} {W : World} {b0 : Nat} {v : Value} {d : DataW H} {p : List MemPlace}
  (hv : Value.okWide Tryz.prog W .any b0 30 v) (h : DataW.Trod enc Tryz.prog W 0 (fun _ => true) true 30 v d p) (hw : Light 30 d) :
  ∃ me n t0 v0 si st tx gl0 l, v = .agg #[.int .i64 me, .int .i64 n, .int .i64 t0, .int .i64 v0, .int .i64 si, .int .i64 st, .string tx, gl0] ∧ EGot W gl0 l ∧ tx.size ≤ 140737488355328 := by
 obtain ⟨cs, rfl, hsz⟩ := okWide_struct Tryz.underlying30 hv;rw [cells30] at hsz;obtain ⟨fuel, hf⟩ := h;obtain ⟨me, n, t0, v0, si, st, tx, gl0, l, e, hg, ht⟩ := begin_cells (cs := (Value.agg cs).cells.toList) (by simpa [Value.cells] using hsz) hf hw;refine ⟨me, n, t0, v0, si, st, tx, gl0, l, ?_, hg, ht⟩;have e2 : cs.toList = [.int .i64 me, .int .i64 n, .int .i64 t0, .int .i64 v0, .int .i64 si, .int .i64 st, .string tx, gl0] := by simpa [Value.cells] using e
 rw [← Array.toArray_toList (xs := cs), e2]
end Go.Proofs.YtcaehfkfohianaaGreat
