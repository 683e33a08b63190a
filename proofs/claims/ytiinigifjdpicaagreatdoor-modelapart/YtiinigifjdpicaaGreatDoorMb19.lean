/- Texts of my own, laid together. -/
import Derived.Test.YtiinigifjdpicaaGreatDoorMb16
import Derived.Test.YtiinigifjdpicaaGreatDoorMb17
import Derived.Test.YtiinigifjdpicaaGreatDoorMb06
import Derived.Deep.QuietTactic
import Derived.BigQuiet
import Derived.Test.YtiinigifjdpicaaGreatDoorMb05
import Derived.Test.YtiinigifjdpicaaGreatDoorMb00
namespace Go.Proofs.YtiinigifjdpicaaGreatDoor
open Go.RowKit
set_option linter.all false
def lq1 : ReqV := ⟨1, 1, 0, 0, 0, 0, 100, false, (0, 0), 0⟩
def lq2 : ReqV := ⟨1, 2, 0, 1, 0, 0, 5, false, (0, 0), 0⟩
def lq3 : ReqV := ⟨3, 2, 1, 0, 2, 10, 5, false, (0, 0), 0⟩
def lq4 : ReqV := ⟨3, 1, 1, 0, 1, 12, 5, false, (0, 0), 0⟩
def lq5 : ReqV := ⟨7, 1, 0, 0, 0, 0, 0, false, (0, 0), 0⟩
def lq6 : ReqV := ⟨2, 1, 0, 0, 0, 0, 41, false, (0, 0), 0⟩
def lm1 : MdlV := (doM newM lq1).1
def lm2 : MdlV := (doM lm1 lq2).1
def lm3 : MdlV := (doM lm2 lq3).1
def lm4 : MdlV := (doM lm3 lq4).1
theorem lv_one : (doM newM lq1).2.code = 0 := by kernel_rfl
theorem lv_two : (doM lm1 lq2).2.code = 0 := by kernel_rfl
theorem lv_three : (doM lm2 lq3).2.num = 1 := by kernel_rfl
theorem lv_four : (doM lm3 lq4).2.num = 2 ∧ (doM lm3 lq4).2.fl.length = 1 := ⟨by kernel_rfl, by kernel_rfl⟩
theorem lv_five : (doM lm4 lq5).2.am.map (·.n) = [10, 5] := by kernel_rfl
theorem lv_six : (doM lm4 lq6).2.code = 6 := by kernel_rfl
theorem map_two {l : List AmtV} {x y : Int} (h : l.map (·.n) = [x, y]) : ∃ i j, l = [⟨i, x⟩, ⟨j, y⟩] := by
 match l, h with
 | [⟨i, a⟩, ⟨j, b⟩], h =>
  simp only [List.map_cons, List.map_nil, List.cons.injEq, and_true] at h;obtain ⟨rfl, rfl⟩ := h
  exact ⟨i, j, rfl⟩
def DoH (M : MdlV) (r : ReqV) (Z : MdlV × AnsV) : Prop := ∀ va vl W, Mdl W va vl M → Se.Forms W → Calls Tryz.prog 10 #[.agg #[va, vl], .agg (Se.reqC r)] W (DoBack Z W)
abbrev ansC (A : AnsV) (f1 : Option Addr) (f2 : Nat) (g1 : Option Addr) (g2 : Nat) : Array Value := #[.int .i64 A.code, .int .i64 A.num, .slice f1 A.am.length f2, .slice g1 A.fl.length g2]
theorem lv_step {K : Nat} {w0 W V : World} {M : MdlV} {Z : MdlV × AnsV} {a b a1 b1 f1 g1 : Option Addr} {c d c1 d1 f2 g2 : Nat} (hM : MB w0.heap.size K M a c b d W) (hB : Below w0.heap.size w0 W) (hK : w0.heap.size ≤ K) (ho : DoOwn W.heap.size V (.slice a1 Z.1.a.length c1) (.slice b1 Z.1.l.length d1) (.slice f1 Z.2.am.length f2) (.slice g1 Z.2.fl.length g2) Z ∧ Below W.heap.size W V) :
  ∀ G, G = ((V.setCell ⟨K, 0, none⟩ (.slice a1 Z.1.a.length c1)).setCell ⟨K, 1, none⟩ (.slice b1 Z.1.l.length d1)).alloc (.cells (ansC Z.2 f1 f2 g1 g2) 36) →
  MB w0.heap.size K Z.1 a1 c1 b1 d1 G ∧ G.heap[V.heap.size]? = some (.cells (ansC Z.2 f1 f2 g1 g2) 36 (0, 0)) ∧ Below w0.heap.size w0 G ∧ ∀ (A : Nat) (cs : Array Value), W.heap[A]? = some (Obj.cells cs 36 (0, 0)) → G.heap[A]? = some (Obj.cells cs 36 (0, 0)) := by
 rintro G rfl;have hkz := (Array.getElem?_eq_some_iff.1 hM.box).1;have hbx := (ho.2.block K hkz).trans hM.box;have k1 := heap_set hbx 0 (.slice a1 Z.1.a.length c1);obtain ⟨hz, -⟩ := puts2 V K 30 (.slice a1 Z.1.a.length c1) (.slice b1 Z.1.l.length d1) hbx;have hm2 := (ho.1.m.set (j := 0) (u := .slice a1 Z.1.a.length c1) hbx (by decide) (by decide) (by decide) (by decide) (by decide)).set (j := 1) (u := .slice b1 Z.1.l.length d1) k1 (by decide) (by decide) (by decide) (by decide) (by decide);have hb2 := below1 ((V.setCell ⟨K, 0, none⟩ (.slice a1 Z.1.a.length c1)).setCell ⟨K, 1, none⟩ (.slice b1 Z.1.l.length d1)) (.cells (ansC Z.2 f1 f2 g1 g2) 36);have hbb := belowSet (j := 1) (.slice b1 Z.1.l.length d1) (belowSet (j := 0) (.slice a1 Z.1.a.length c1) (below_via hB ho.2) hK) hK;have hh := heap_alloc_new ((V.setCell ⟨K, 0, none⟩ (.slice a1 Z.1.a.length c1)).setCell ⟨K, 1, none⟩ (.slice b1 Z.1.l.length d1)) (.cells (ansC Z.2 f1 f2 g1 g2) 36);rw [show ((V.setCell ⟨K, 0, none⟩ (.slice a1 Z.1.a.length c1)).setCell ⟨K, 1, none⟩ (.slice b1 Z.1.l.length d1)).heap.size = V.heap.size by simp] at hh;refine ⟨⟨blkK hz hb2, (hm2.keep hb2).base hB.size⟩, hh, below_via hbb hb2, fun A cs hA => ?_⟩;have hne := ty_ne hA hM.box (by decide);exact blkK (setOther _ (setOther _ ((ho.2.block A (Array.getElem?_eq_some_iff.1 hA).1).trans hA) hne) hne) hb2
set_option maxRecDepth 100000 in
set_option maxHeartbeats 32000000 in
theorem live_is (w : World) (hF : Se.Forms w) : Calls Tryz.prog 11 #[] w fun e w' => e = .returned (.bool true) ∧ Below w.heap.size w w' := by
 have H0 := hideIt (mnew_is w);have HFO := hideIt (fun W (hW : Below w.heap.size w W) => hF.keep hW);have HFC : Hid (∃ Z1 Z2 Z3 Z4 Z5 Z6, DoH newM lq1 Z1 ∧ DoH Z1.1 lq2 Z2 ∧ DoH Z2.1 lq3 Z3 ∧ DoH Z3.1 lq4 Z4 ∧ DoH Z4.1 lq5 Z5 ∧ DoH Z4.1 lq6 Z6 ∧ Z1.2.code = 0 ∧ Z2.2.code = 0 ∧ Z3.2.num = 1 ∧ Z4.2.num = 2 ∧ Z4.2.fl.length = 1 ∧ (∃ i j, Z5.2.am = [⟨i, 10⟩, ⟨j, 5⟩]) ∧ Z6.2.code = 6) :=
  ⟨doM newM lq1, doM lm1 lq2, doM lm2 lq3, doM lm3 lq4, doM lm4 lq5, doM lm4 lq6, fun _ _ _ h hf => do_is _ _ _ _ _ h hf, fun _ _ _ h hf => do_is _ _ _ _ _ h hf, fun _ _ _ h hf => do_is _ _ _ _ _ h hf, fun _ _ _ h hf => do_is _ _ _ _ _ h hf, fun _ _ _ h hf => do_is _ _ _ _ _ h hf, fun _ _ _ h hf => do_is _ _ _ _ _ h hf, lv_one, lv_two, lv_three, lv_four.1, lv_four.2, map_two lv_five, lv_six⟩
 obtain ⟨Z1, Z2, Z3, Z4, Z5, Z6, d1, d2, d3, d4, d5, d6, FC⟩ := HFC.out;clear HFC hF;have HC := hideIt FC;clear FC;unfold DoH at d1 d2 d3 d4 d5 d6;simp only [Se.reqC, lq1, lq2, lq3, lq4, lq5, lq6] at d1 d2 d3 d4 d5 d6;have D1 := hideIt d1;have D2 := hideIt d2;have D3 := hideIt d3;have D4 := hideIt d4;have D5 := hideIt d5;have D6 := hideIt d6;clear d1 d2 d3 d4 d5 d6
 go_enter Tryz.func11, Tryz.ntmps11
 go_wp2_with fail
 refine H0.out.mono ?_;rintro e w1 ⟨a, c, b, d, rfl, ho, hb⟩;dsimp only;have hb1 := below1 w1 (.cells #[.slice a newM.a.length c, .slice b newM.l.length d] 30);have HM : Hid (MB w.heap.size w1.heap.size newM a c b d (w1.alloc (.cells #[.slice a newM.a.length c, .slice b newM.l.length d] 30))) := ⟨heap_alloc_new w1 _, ho.keep hb1⟩;have HK := hideIt hb.size;have HB := hideIt (below_via hb hb1);clear hb hb1 ho H0
 go_upto_region 2 with fail
 generalize w1.alloc (.cells #[.slice a newM.a.length c, .slice b newM.l.length d] 30) = W1 at *;obtain ⟨⟨p0, p1⟩, pf, pz⟩ := at2 HM.out.box
 go_wp2_with fail
 refine (D1.out _ _ _ HM.out.md.at_ (HFO.out _ HB.out)).mono ?_;rintro e V1 ⟨a1, c1, b1, d1, f1, i1, g1, j1, rfl, HDO⟩;dsimp only;have hx5 := (HDO.out.2.block w1.heap.size pz).trans HM.out.box;clear p0 p1 pf;obtain ⟨⟨p0, p1⟩, pf, pz'⟩ := at2 hx5;obtain ⟨hm, ha1, hb, hk⟩ := lv_step HM.out HB.out HK.out HDO.out _ rfl
 go_upto_region 3 with fail
 generalize (World.alloc (World.setCell _ _ _) (.cells #[.int .i64 Z1.2.code, .int .i64 Z1.2.num, .slice f1 Z1.2.am.length i1, .slice g1 Z1.2.fl.length j1] 36)) = W2 at *;have HM' := hideIt hm;have HB' := hideIt hb;have HA1 := hideIt ha1;clear hm hb ha1 hk HM HB HDO hx5 p0 p1 pf pz pz' D1;have HM := HM';have HB := HB';clear HM' HB';obtain ⟨⟨p0, p1⟩, pf, pz⟩ := at2 HM.out.box
 go_wp2_with fail
 refine (D2.out _ _ _ HM.out.md.at_ (HFO.out _ HB.out)).mono ?_;rintro e V2 ⟨a2, c2, b2, d2, f2, i2, g2, j2, rfl, HDO⟩;dsimp only;have hx5 := (HDO.out.2.block w1.heap.size pz).trans HM.out.box;clear p0 p1 pf;obtain ⟨⟨p0, p1⟩, pf, pz'⟩ := at2 hx5;obtain ⟨hm, ha2, hb, hk⟩ := lv_step HM.out HB.out HK.out HDO.out _ rfl
 go_upto_region 4 with fail
 generalize (World.alloc (World.setCell _ _ _) (.cells #[.int .i64 Z2.2.code, .int .i64 Z2.2.num, .slice f2 Z2.2.am.length i2, .slice g2 Z2.2.fl.length j2] 36)) = W3 at *;have HM' := hideIt hm;have HB' := hideIt hb;have HA2 := hideIt ha2;have HA1' := hideIt (hk _ _ HA1.out);clear hm hb ha2 hk HM HB HDO hx5 p0 p1 pf pz pz' D2 HA1;have HA1 := HA1';clear HA1';have HM := HM';have HB := HB';clear HM' HB';obtain ⟨⟨p0, p1⟩, pf, pz⟩ := at2 HM.out.box
 go_wp2_with fail
 refine (D3.out _ _ _ HM.out.md.at_ (HFO.out _ HB.out)).mono ?_;rintro e V3 ⟨a3, c3, b3, d3, f3, i3, g3, j3, rfl, HDO⟩;dsimp only;have hx5 := (HDO.out.2.block w1.heap.size pz).trans HM.out.box;clear p0 p1 pf;obtain ⟨⟨p0, p1⟩, pf, pz'⟩ := at2 hx5;obtain ⟨hm, ha3, hb, hk⟩ := lv_step HM.out HB.out HK.out HDO.out _ rfl
 go_upto_region 5 with fail
 generalize (World.alloc (World.setCell _ _ _) (.cells #[.int .i64 Z3.2.code, .int .i64 Z3.2.num, .slice f3 Z3.2.am.length i3, .slice g3 Z3.2.fl.length j3] 36)) = W4 at *;have HM' := hideIt hm;have HB' := hideIt hb;have HA3 := hideIt ha3;have HA1' := hideIt (hk _ _ HA1.out);have HA2' := hideIt (hk _ _ HA2.out);clear hm hb ha3 hk HM HB HDO hx5 p0 p1 pf pz pz' D3 HA1 HA2;have HA1 := HA1';clear HA1';have HA2 := HA2';clear HA2';have HM := HM';have HB := HB';clear HM' HB';obtain ⟨⟨p0, p1⟩, pf, pz⟩ := at2 HM.out.box
 go_wp2_with fail
 refine (D4.out _ _ _ HM.out.md.at_ (HFO.out _ HB.out)).mono ?_;rintro e V4 ⟨a4, c4, b4, d4, f4, i4, g4, j4, rfl, HDO⟩;dsimp only;have hx5 := (HDO.out.2.block w1.heap.size pz).trans HM.out.box;clear p0 p1 pf;obtain ⟨⟨p0, p1⟩, pf, pz'⟩ := at2 hx5;obtain ⟨hm, ha4, hb, hk⟩ := lv_step HM.out HB.out HK.out HDO.out _ rfl
 go_upto_region 6 with fail
 generalize (World.alloc (World.setCell _ _ _) (.cells #[.int .i64 Z4.2.code, .int .i64 Z4.2.num, .slice f4 Z4.2.am.length i4, .slice g4 Z4.2.fl.length j4] 36)) = W5 at *;have HM' := hideIt hm;have HB' := hideIt hb;have HA4 := hideIt ha4;have HA1' := hideIt (hk _ _ HA1.out);have HA2' := hideIt (hk _ _ HA2.out);have HA3' := hideIt (hk _ _ HA3.out);clear hm hb ha4 hk HM HB HDO hx5 p0 p1 pf pz pz' D4 HA1 HA2 HA3;have HA1 := HA1';clear HA1';have HA2 := HA2';clear HA2';have HA3 := HA3';clear HA3';have HM := HM';have HB := HB';clear HM' HB';obtain ⟨⟨p0, p1⟩, pf, pz⟩ := at2 HM.out.box
 go_wp2_with fail
 refine (D5.out _ _ _ HM.out.md.at_ (HFO.out _ HB.out)).mono ?_;rintro e V5 ⟨a5, c5, b5, d5, f5, i5, g5, j5, rfl, HDO⟩;dsimp only;have hb2 := below2 V5 (.cells #[.slice a5 Z5.1.a.length c5, .slice b5 Z5.1.l.length d5] 30) (.cells (ansC Z5.2 f5 i5 g5 j5) 36);obtain ⟨t1, t2, t3⟩ := two_heap V5 (.cells #[.slice a5 Z5.1.a.length c5, .slice b5 Z5.1.l.length d5] 30) (.cells (ansC Z5.2 f5 i5 g5 j5) 36);have hbw := below_via HDO.out.2 hb2;have HM' := hideIt (HM.out.keep hbw);have HB' := hideIt (below_via HB.out hbw);have HA1' := hideIt (blkK HA1.out hbw);have HA2' := hideIt (blkK HA2.out hbw);have HA3' := hideIt (blkK HA3.out hbw);have HA4' := hideIt (blkK HA4.out hbw);have HA5 := hideIt t2;have HAM := hideIt (own_sgot (bytes := 16) (own_keep HDO.out.1.am hb2) HDO.out.1.sa);clear p0 p1 pf pz t1 t2 t3 HM HB HA1 HA2 HA3 HA4 HDO hb2 hbw D5;have HA1 := HA1';have HA2 := HA2';have HA3 := HA3';have HA4 := HA4';have HM := HM';have HB := HB';clear HM' HB' HA1' HA2' HA3' HA4';obtain ⟨⟨p0, p1⟩, pf, pz⟩ := at2 HM.out.box
 go_upto_region 7 with fail
 generalize (World.alloc (World.alloc _ _) (.cells #[.int .i64 Z5.2.code, .int .i64 Z5.2.num, .slice f5 Z5.2.am.length i5, .slice g5 Z5.2.fl.length j5] 36)) = W6 at *
 go_wp2_with fail
 refine (D6.out _ _ _ HM.out.md.at_ (HFO.out _ HB.out)).mono ?_;rintro e V6 ⟨a6, c6, b6, d6, f6, i6, g6, j6, rfl, HDO⟩;dsimp only;have hb2 := below2 V6 (.cells #[.slice a6 Z6.1.a.length c6, .slice b6 Z6.1.l.length d6] 30) (.cells (ansC Z6.2 f6 i6 g6 j6) 36);obtain ⟨t1, t2, t3⟩ := two_heap V6 (.cells #[.slice a6 Z6.1.a.length c6, .slice b6 Z6.1.l.length d6] 30) (.cells (ansC Z6.2 f6 i6 g6 j6) 36);have hbw := below_via HDO.out.2 hb2;have HB' := hideIt (below_via HB.out hbw);have q1 := cell_at (blkK HA1.out hbw) 0;have q2 := cell_at (blkK HA2.out hbw) 0;have q3 := cell_at (blkK HA3.out hbw) 1;have q4 := cell_at (blkK HA4.out hbw) 1;have q5 := cell_at (blkK HA4.out hbw) 3;have q6 := cell_at (blkK HA5.out hbw) 2;have q7 := cell_at t2 0;have ham := HAM.out.keep hbw;clear p0 p1 pf pz t1 t2 t3 HM HB HA1 HA2 HA3 HA4 HA5 HDO hb2 hbw D6 HFO HAM;unfold ansC at q1 q2 q3 q4 q5 q6 q7 ham HB'
 go_upto_region 8 with fail
 generalize (World.alloc (World.alloc _ _) (.cells #[.int .i64 Z6.2.code, .int .i64 Z6.2.num, .slice f6 Z6.2.am.length i6, .slice g6 Z6.2.fl.length j6] 36)) = W7 at *;obtain ⟨e1, e2, e3, e4, e5, ⟨mi, mj, e6⟩, e7⟩ := HC.out;rw [e6] at ham q6;obtain ⟨_, fa, fc, ef, _, hr⟩ := ham;simp only [Value.slice.injEq] at ef;obtain ⟨rfl, _, rfl⟩ := ef;obtain ⟨gm, om, rfl, _, hmc⟩ := hr (by simp);have m1 : World.cell? _ ⟨gm, om + 1, none⟩ = some (.int .i64 10) := hmc 1 (by simp);have m3 : World.cell? _ ⟨gm, om + 3, none⟩ = some (.int .i64 5) := hmc 3 (by simp);simp only [e1, e2, e3, e4, e5, e7, List.getElem?_toArray, List.getElem?_cons_zero, List.getElem?_cons_succ, List.length_cons, List.length_nil] at q1 q2 q3 q4 q5 q6 q7;clear hmc hr HC
 go_wp2;go_ret
 exact ⟨rfl, HB'.out⟩
theorem neq36 (a b c d : Int) (w : World) : (binOp .neq 115 (.agg #[.int .i64 a, .int .i64 b, .int .i64 c, .int .i64 d]) (.agg #[.int .i64 a, .int .i64 b, .int .i64 c, .int .i64 d])).run Tryz.prog w = .ok (.bool false) w := by
 simp [go_sem]
theorem neq63 (a b c : Int) (w : World) : (binOp .neq 61 (.agg #[.int .i64 a, .int .i64 b, .int .i64 c]) (.agg #[.int .i64 a, .int .i64 b, .int .i64 c])).run Tryz.prog w = .ok (.bool false) w := by
 simp [go_sem]
set_option maxHeartbeats 4000000 in
set_option maxRecDepth 100000 in
theorem sameO_is (v v' : Value) (l : List OrdV) (w : World) (h : Ords w v l) (h' : Ords w v' l) : Calls Tryz.prog 53 #[v, v'] w fun e w' => e = .returned (.bool true) ∧ Below w.heap.size w w' := by
 obtain ⟨a, c, rfl, h8, hr⟩ := h.ords;obtain ⟨a', c', rfl, h8', hr'⟩ := h'.ords;have HH := hideIt hr;have HM := hideIt hr';clear hr hr' h h'
 go_enter Tryz.func53, Tryz.ntmps53
 go_wp2
 go_loopw [5] (fun v wr => ∃ t : Nat, v = .int .i64 t ∧ t ≤ l.length ∧ Hid (Below w.heap.size w wr)) (fun v _ => l.length - (intOf v).toNat)
 case atStart => exact ⟨0, rfl, Nat.zero_le _, hideIt (Below.refl _ _)⟩
 case round =>
  obtain ⟨t, rfl, ht, HR⟩ := hrel
  by_cases hlt : t < l.length
  ·have hltI : (t : Int) < (l.length : Int) := by omega
   have ht0 : (0 : Int) ≤ (t : Int) := by omega
   have hw : IntKind.i64.wrap ((t : Int) + 1) = ((t + 1 : Nat) : Int) := by rw [IntKind.wrap_i64]; omega
   have hB := HR.out;obtain ⟨b, off, rfl, hbl, q0, q1, q2, q3⟩ := HH.out t hlt;have hblr : b < wr.heap.size := Nat.lt_of_lt_of_le hbl hB.size;have c0 := (hB.cell (p := ⟨b, off + t * 4, none⟩) hbl).trans q0;have c1 := (hB.cell (p := ⟨b, off + t * 4 + 1, none⟩) hbl).trans q1;have c2 := (hB.cell (p := ⟨b, off + t * 4 + 2, none⟩) hbl).trans q2;have c3 := (hB.cell (p := ⟨b, off + t * 4 + 3, none⟩) hbl).trans q3;clear q0 q1 q2 q3;obtain ⟨b', off', rfl, hbl', q0, q1, q2, q3⟩ := HM.out t hlt;have hblr' : b' < wr.heap.size := Nat.lt_of_lt_of_le hbl' hB.size;have d0 := (hB.cell (p := ⟨b', off' + t * 4, none⟩) hbl').trans q0;have d1 := (hB.cell (p := ⟨b', off' + t * 4 + 1, none⟩) hbl').trans q1;have d2 := (hB.cell (p := ⟨b', off' + t * 4 + 2, none⟩) hbl').trans q2;have d3 := (hB.cell (p := ⟨b', off' + t * 4 + 3, none⟩) hbl').trans q3;clear q0 q1 q2 q3 hB HH HM;generalize l[t] = en at *;obtain ⟨x, y, z, u⟩ := en;dsimp only at c0 c1 c2 c3 d0 d1 d2 d3;have q1 := fun W => neq36 x y z u W
   go_wp2_with fail
   go_quiet (fail)
   go_wp2
   go_roundw
   case rel => exact ⟨t + 1, by go_num, by omega, hideIt (below_drewN HR.out _)⟩
   case measure => simp [intOf]; omega
  ·have hltI : ¬ (t : Int) < (l.length : Int) := by omega
   clear HH HM;go_wp2;go_ret
   exact ⟨rfl, HR.out⟩
structure B2 (w : World) (L : LaneV) (b a o b' a' o' : Value) (W : World) : Prop where
 b0 : W.heap[w.heap.size]? = some (.cells #[.bool L.call, .int .i64 L.next, b, a, o] 59 (0, 0))
 b1 : W.heap[w.heap.size + 1]? = some (.cells #[.bool L.call, .int .i64 L.next, b', a', o'] 59 (0, 0))
 bel : Below w.heap.size w W
theorem B2.keep {w W W' : World} {L : LaneV} {b a o b' a' o' : Value} (h : B2 w L b a o b' a' o' W) (hb : Below W.heap.size W W') : B2 w L b a o b' a' o' W' :=
 ⟨(hb.block _ (Array.getElem?_eq_some_iff.1 h.b0).1).trans h.b0, (hb.block _ (Array.getElem?_eq_some_iff.1 h.b1).1).trans h.b1, below_via h.bel hb⟩
theorem B2.first (w : World) (L : LaneV) (b a o b' a' o' : Value) : B2 w L b a o b' a' o' ((w.alloc (.cells #[.bool L.call, .int .i64 L.next, b, a, o] 59)).alloc (.cells #[.bool L.call, .int .i64 L.next, b', a', o'] 59)) :=
 ⟨(two_heap w _ _).1, (two_heap w _ _).2.1, below2 w _ _⟩
set_option maxHeartbeats 8000000 in
set_option maxRecDepth 100000 in
theorem sameL_is (L : LaneV) (b a o b' a' o' : Value) (w : World) (h : Lan w L b a o) (h' : Lan w L b' a' o') : Calls Tryz.prog 26 #[laneV L b a o, laneV L b' a' o'] w fun e w' => e = .returned (.bool true) ∧ Below w.heap.size w w' := by
 have X0 := hideIt (B2.first w L b a o b' a' o');have H1 := hideIt (fun W (hW : Below w.heap.size w W) => sameO_is b b' L.bids W (h.keep hW).bids (h'.keep hW).bids);have H2 := hideIt (fun W (hW : Below w.heap.size w W) => sameO_is a a' L.asks W (h.keep hW).asks (h'.keep hW).asks);obtain ⟨ba, bc, rfl⟩ := h.bids.slice;obtain ⟨aa, ac, rfl⟩ := h.asks.slice;obtain ⟨oa, oc, rfl, h8, hr⟩ := h.owed.owes;obtain ⟨ba', bc', rfl⟩ := h'.bids.slice;obtain ⟨aa', ac', rfl⟩ := h'.asks.slice;obtain ⟨oa', oc', rfl, h8', hr'⟩ := h'.owed.owes;have HH := hideIt hr;have HM := hideIt hr';clear h h' hr hr';unfold laneV laneA;obtain ⟨cl, nx, bids, asks, owed⟩ := L;simp only at *;have qb : ∀ W, (binOp .neq 4 (.bool cl) (.bool cl)).run Tryz.prog W = .ok (.bool false) W := fun W => by cases cl <;> simp [go_sem]
 go_enter Tryz.func26, Tryz.ntmps26
 go_upto_region 1 with fail
 generalize (w.alloc (.cells #[.bool cl, .int .i64 nx, .slice ba bids.length bc, .slice aa asks.length ac, .slice oa owed.length oc] 59)).alloc (.cells #[.bool cl, .int .i64 nx, .slice ba' bids.length bc', .slice aa' asks.length ac', .slice oa' owed.length oc'] 59) = W0 at *;obtain ⟨⟨x0, x1, x2, x3, x4⟩, -, xl⟩ := five_at X0.out.b0;obtain ⟨⟨y0, y1, y2, y3, y4⟩, -, yl⟩ := five_at X0.out.b1;dsimp only at x0 x1 y0 y1
 go_wp2_with fail
 refine (H1.out _ X0.out.bel).mono ?_;rintro e w1 ⟨rfl, hb⟩;dsimp only;have X1 := hideIt (X0.out.keep hb);clear x0 x1 x2 x3 x4 xl y0 y1 y2 y3 y4 yl;clear hb X0 H1;obtain ⟨⟨x0, x1, x2, x3, x4⟩, -, xl⟩ := five_at X1.out.b0;obtain ⟨⟨y0, y1, y2, y3, y4⟩, -, yl⟩ := five_at X1.out.b1
 go_wp2_with fail
 refine (H2.out _ X1.out.bel).mono ?_;rintro e w2 ⟨rfl, hb⟩;dsimp only;have X2 := hideIt (X1.out.keep hb);clear x0 x1 x2 x3 x4 xl y0 y1 y2 y3 y4 yl;clear hb X1 H2;obtain ⟨⟨x0, x1, x2, x3, x4⟩, -, xl⟩ := five_at X2.out.b0;obtain ⟨⟨y0, y1, y2, y3, y4⟩, -, yl⟩ := five_at X2.out.b1
 go_upto_region 4 with fail
 clear x0 x1 x2 x3 x4 xl y0 y1 y2 y3 y4 yl
 go_loopw [5] (fun v wr => ∃ t : Nat, v = .int .i64 t ∧ t ≤ owed.length ∧ Hid (B2 w ⟨cl, nx, bids, asks, owed⟩ (.slice ba bids.length bc) (.slice aa asks.length ac) (.slice oa owed.length oc) (.slice ba' bids.length bc') (.slice aa' asks.length ac') (.slice oa' owed.length oc') wr)) (fun v _ => owed.length - (intOf v).toNat)
 case atStart => exact ⟨0, rfl, Nat.zero_le _, X2⟩
 case round =>
  clear X2;obtain ⟨t, rfl, ht, HR⟩ := hrel;obtain ⟨⟨x0, x1, x2, x3, x4⟩, -, xl⟩ := five_at HR.out.b0;obtain ⟨⟨y0, y1, y2, y3, y4⟩, -, yl⟩ := five_at HR.out.b1
  by_cases hlt : t < owed.length
  ·have hltI : (t : Int) < (owed.length : Int) := by omega
   have ht0 : (0 : Int) ≤ (t : Int) := by omega
   have hw : IntKind.i64.wrap ((t : Int) + 1) = ((t + 1 : Nat) : Int) := by rw [IntKind.wrap_i64]; omega
   have hB := HR.out.bel;obtain ⟨b, off, rfl, hbl, q0, q1, q2⟩ := HH.out t hlt;have hblr : b < wr.heap.size := Nat.lt_of_lt_of_le hbl hB.size;have c0 := (hB.cell (p := ⟨b, off + t * 3, none⟩) hbl).trans q0;have c1 := (hB.cell (p := ⟨b, off + t * 3 + 1, none⟩) hbl).trans q1;have c2 := (hB.cell (p := ⟨b, off + t * 3 + 2, none⟩) hbl).trans q2;clear q0 q1 q2;obtain ⟨b', off', rfl, hbl', q0, q1, q2⟩ := HM.out t hlt;have hblr' : b' < wr.heap.size := Nat.lt_of_lt_of_le hbl' hB.size;have d0 := (hB.cell (p := ⟨b', off' + t * 3, none⟩) hbl').trans q0;have d1 := (hB.cell (p := ⟨b', off' + t * 3 + 1, none⟩) hbl').trans q1;have d2 := (hB.cell (p := ⟨b', off' + t * 3 + 2, none⟩) hbl').trans q2;clear q0 q1 q2 hB HH HM;generalize owed[t] = en at *;obtain ⟨x, y, z⟩ := en;dsimp only at c0 c1 c2 d0 d1 d2;have q1 := fun W => neq63 x y z W
   go_wp2_with fail
   go_quiet (fail)
   go_wp2
   go_roundw
   case rel => exact ⟨t + 1, by go_num, by omega, hideIt (HR.out.keep (below_drewN (Below.refl _ _) _))⟩
   case measure => simp [intOf]; omega
  ·have hltI : ¬ (t : Int) < (owed.length : Int) := by omega
   clear HH HM;go_wp2;go_ret
   exact ⟨rfl, HR.out.bel⟩
theorem neq68 (a b c d : Int) (w : World) : (binOp .neq 106 (.agg #[.int .i64 a, .int .i64 b, .int .i64 c, .int .i64 d]) (.agg #[.int .i64 a, .int .i64 b, .int .i64 c, .int .i64 d])).run Tryz.prog w = .ok (.bool false) w := by
 simp [go_sem]
set_option maxHeartbeats 4000000 in
set_option maxRecDepth 100000 in
theorem sameF_is (v v' : Value) (l : List FillV) (w : World) (h : Fils w v l) (h' : Fils w v' l) : Calls Tryz.prog 27 #[v, v'] w fun e w' => e = .returned (.bool true) ∧ Below w.heap.size w w' := by
 obtain ⟨a, c, rfl, h8, hr⟩ := h.fils;obtain ⟨a', c', rfl, h8', hr'⟩ := h'.fils;have HH := hideIt hr;have HM := hideIt hr';clear hr hr' h h'
 go_enter Tryz.func27, Tryz.ntmps27
 go_wp2
 go_loopw [5] (fun v wr => ∃ t : Nat, v = .int .i64 t ∧ t ≤ l.length ∧ Hid (Below w.heap.size w wr)) (fun v _ => l.length - (intOf v).toNat)
 case atStart => exact ⟨0, rfl, Nat.zero_le _, hideIt (Below.refl _ _)⟩
 case round =>
  obtain ⟨t, rfl, ht, HR⟩ := hrel
  by_cases hlt : t < l.length
  ·have hltI : (t : Int) < (l.length : Int) := by omega
   have ht0 : (0 : Int) ≤ (t : Int) := by omega
   have hw : IntKind.i64.wrap ((t : Int) + 1) = ((t + 1 : Nat) : Int) := by rw [IntKind.wrap_i64]; omega
   have hB := HR.out;obtain ⟨b, off, rfl, hbl, q0, q1, q2, q3⟩ := HH.out t hlt;have hblr : b < wr.heap.size := Nat.lt_of_lt_of_le hbl hB.size;have c0 := (hB.cell (p := ⟨b, off + t * 4, none⟩) hbl).trans q0;have c1 := (hB.cell (p := ⟨b, off + t * 4 + 1, none⟩) hbl).trans q1;have c2 := (hB.cell (p := ⟨b, off + t * 4 + 2, none⟩) hbl).trans q2;have c3 := (hB.cell (p := ⟨b, off + t * 4 + 3, none⟩) hbl).trans q3;clear q0 q1 q2 q3;obtain ⟨b', off', rfl, hbl', q0, q1, q2, q3⟩ := HM.out t hlt;have hblr' : b' < wr.heap.size := Nat.lt_of_lt_of_le hbl' hB.size;have d0 := (hB.cell (p := ⟨b', off' + t * 4, none⟩) hbl').trans q0;have d1 := (hB.cell (p := ⟨b', off' + t * 4 + 1, none⟩) hbl').trans q1;have d2 := (hB.cell (p := ⟨b', off' + t * 4 + 2, none⟩) hbl').trans q2;have d3 := (hB.cell (p := ⟨b', off' + t * 4 + 3, none⟩) hbl').trans q3;clear q0 q1 q2 q3 hB HH HM;generalize l[t] = en at *;obtain ⟨x, y, z, u⟩ := en;dsimp only at c0 c1 c2 c3 d0 d1 d2 d3;have q1 := fun W => neq68 x y z u W
   go_wp2_with fail
   go_quiet (fail)
   go_wp2
   go_roundw
   case rel => exact ⟨t + 1, by go_num, by omega, hideIt (below_drewN HR.out _)⟩
   case measure => simp [intOf]; omega
  ·have hltI : ¬ (t : Int) < (l.length : Int) := by omega
   clear HH HM;go_wp2;go_ret
   exact ⟨rfl, HR.out⟩
theorem sameAc (x y : AccX) (w : World) (h : AccAt w x) (h' : AccAt w y) (e : x.v = y.v) : Calls Tryz.prog 25 #[.agg #[.slice x.fa x.v.l.length x.fc, .int .i64 x.v.ct], .agg #[.slice y.fa y.v.l.length y.fc, .int .i64 y.v.ct]] w fun e w' => e = .returned (.bool true) ∧ Below w.heap.size w w' := by
 obtain ⟨xv, xa, xc⟩ := x;obtain ⟨yv, ya, yc⟩ := y;simp only at e;subst e;exact Lg.same_is xv _ _ w h h'
theorem sameLn (x y : LanX) (w : World) (h : LanAt w x) (h' : LanAt w y) (e : x.v = y.v) : Calls Tryz.prog 26 #[.agg #[.bool x.v.call, .int .i64 x.v.next, .slice x.ba x.v.bids.length x.bc, .slice x.aa x.v.asks.length x.ac, .slice x.oa x.v.owed.length x.oc], .agg #[.bool y.v.call, .int .i64 y.v.next, .slice y.ba y.v.bids.length y.bc, .slice y.aa y.v.asks.length y.ac, .slice y.oa y.v.owed.length y.oc]] w fun e w' => e = .returned (.bool true) ∧ Below w.heap.size w w' := by
 obtain ⟨xv, _, _, _, _, _, _⟩ := x;obtain ⟨yv, _, _, _, _, _, _⟩ := y;simp only at e;subst e;exact sameL_is xv _ _ _ _ _ _ w h h'
theorem map_at {α β : Type} {f : α → β} {xs ys : List α} (h : xs.map f = ys.map f) {t : Nat} (h1 : t < xs.length) (h2 : t < ys.length) : f xs[t] = f ys[t] := by
 have := congrArg (fun l => l[t]?) h
 simpa [List.getElem?_map, List.getElem?_eq_getElem h1, List.getElem?_eq_getElem h2] using this
set_option maxRecDepth 100000 in
set_option maxHeartbeats 16000000 in
theorem sameM_is (va vl va' vl' : Value) (M : MdlV) (w : World) (h : Mdl w va vl M) (h' : Mdl w va' vl' M) : Calls Tryz.prog 12 #[.agg #[va, vl], .agg #[va', vl']] w fun e w' => e = .returned (.bool true) ∧ Below w.heap.size w w' := by
 obtain ⟨⟨xs, hx, h1⟩, ys, hy, h2⟩ := h;obtain ⟨⟨us, hu, h3⟩, vs, hv, h4⟩ := h';have hxu : xs.length = us.length := by rw [← List.length_map (f := AccX.v), hx, ← hu, List.length_map]
 have hyv : ys.length = vs.length := by rw [← List.length_map (f := LanX.v), hy, ← hv, List.length_map]
 have EX := hideIt (fun t (k1 : t < xs.length) (k2 : t < us.length) => map_at (hx.trans hu.symm) k1 k2);have EY := hideIt (fun t (k1 : t < ys.length) (k2 : t < vs.length) => map_at (hy.trans hv.symm) k1 k2);obtain ⟨t1, t2, t3⟩ := two_heap w (.cells #[va, vl] 30) (.cells #[va', vl'] 30);have HBW := hideIt (below2 w (.cells #[va, vl] 30) (.cells #[va', vl'] 30));have HA := hideIt (fun (t : Nat) (k1 : t < xs.length) (k2 : t < us.length) W (hW : Below w.heap.size w W) => sameAc xs[t] us[t] W ((h1.at_ _ (List.getElem_mem k1)).keep hW) ((h3.at_ _ (List.getElem_mem k2)).keep hW) (EX.out t k1 k2));have HL := hideIt (fun (t : Nat) (k1 : t < ys.length) (k2 : t < vs.length) W (hW : Below w.heap.size w W) => sameLn ys[t] vs[t] W ((h2.at_ _ (List.getElem_mem k1)).keep hW) ((h4.at_ _ (List.getElem_mem k2)).keep hW) (EY.out t k1 k2));obtain ⟨xa, xc, rfl, _, hr1⟩ := h1.two;obtain ⟨ua, uc, rfl, _, hr3⟩ := h3.two;obtain ⟨ya, yc, rfl, _, hr2⟩ := h2.five;obtain ⟨za, zc, rfl, _, hr4⟩ := h4.five;have R1 := hideIt hr1;have R2 := hideIt hr2;have R3 := hideIt hr3;have R4 := hideIt hr4;have HXU := hideIt hxu;have HYV := hideIt hyv;have HT1 := hideIt t1;have HT2 := hideIt t2;have HT3 := hideIt t3;clear hr1 hr2 hr3 hr4 hx hy hu hv h1 h2 h3 h4 EX EY t1 t2 t3;rw [← hxu, ← hyv] at HBW HT1 HT2 HT3 ⊢;clear hxu hyv;have hn8 : ∀ n : Nat, ((n : Int) != (n : Int)) = false := fun n => by simp
 go_enter Tryz.func12, Tryz.ntmps12
 go_upto_region 1 with fail
 generalize (w.alloc (.cells #[.slice xa xs.length xc, .slice ya ys.length yc] 30)).alloc (.cells #[.slice ua xs.length uc, .slice za ys.length zc] 30) = W0 at *;have HF : Hid (∀ W, Below W0.heap.size W0 W → (W.cell? ⟨w.heap.size, 0, none⟩ = some (.slice xa xs.length xc) ∧ W.cell? ⟨w.heap.size, 1, none⟩ = some (.slice ya ys.length yc)) ∧ (W.cell? ⟨w.heap.size + 1, 0, none⟩ = some (.slice ua xs.length uc) ∧ W.cell? ⟨w.heap.size + 1, 1, none⟩ = some (.slice za ys.length zc))) := fun W hW => ⟨(at2 (blkK HT1.out hW)).1, (at2 (blkK HT2.out hW)).1⟩
 obtain ⟨⟨c0, c1⟩, e0, e1⟩ := HF.out W0 (Below.refl _ _);have z0 : w.heap.size < W0.heap.size := by have := HT3.out; omega
 have z1 : w.heap.size + 1 < W0.heap.size := by have := HT3.out; omega
 clear HT1 HT2 HT3;generalize w.heap.size + 1 = P1 at *;have HN1 := hideIt (hn8 xs.length);have HN2 := hideIt (hn8 ys.length);have n1 := HN1.out;have n2 := HN2.out
 go_upto_region 4 with fail
 clear n1 n2 HN1 HN2 hn8 c0 c1 e0 e1
 go_loopw [5] (fun v wr => ∃ t : Nat, v = .int .i64 t ∧ t ≤ xs.length ∧ Hid (Below W0.heap.size W0 wr)) (fun v _ => xs.length - (intOf v).toNat)
 case atStart => exact ⟨0, rfl, Nat.zero_le _, hideIt (Below.refl _ _)⟩
 case round =>
  obtain ⟨t, rfl, ht, HR⟩ := hrel;obtain ⟨⟨c0, c1⟩, e0, e1⟩ := HF.out wr HR.out;have z0' : w.heap.size < wr.heap.size := Nat.lt_of_lt_of_le z0 HR.out.size;have z1' : P1 < wr.heap.size := Nat.lt_of_lt_of_le z1 HR.out.size
  by_cases hlt : t < xs.length
  ·have hltI : (t : Int) < (xs.length : Int) := by omega
   have ht0 : (0 : Int) ≤ (t : Int) := by omega
   have hlt2 : t < us.length := by have := HXU.out; omega
   obtain ⟨b, off, rfl, hbl, q0, q1⟩ := R1.out t hlt;obtain ⟨b2, off2, rfl, hbl2, p0, p1⟩ := R3.out t hlt2;have HBR := hideIt (HBW.out.trans (HR.out.mono HBW.out.size));have HCC := hideIt (HA.out t hlt hlt2);have hbr : b < wr.heap.size := Nat.lt_of_lt_of_le hbl HBR.out.size;have hbr2 : b2 < wr.heap.size := Nat.lt_of_lt_of_le hbl2 HBR.out.size;have k0 := (HBR.out.cell (p := ⟨b, off + t * 2, none⟩) hbl).trans q0;have m0 := (HBR.out.cell (p := ⟨b2, off2 + t * 2, none⟩) hbl2).trans p0;have k1 := (HBR.out.cell (p := ⟨b, off + t * 2 + 1, none⟩) hbl).trans q1;have m1 := (HBR.out.cell (p := ⟨b2, off2 + t * 2 + 1, none⟩) hbl2).trans p1;clear q0 q1 p0 p1 hbl hbl2;generalize (.slice (xs[t]).fa (xs[t]).v.l.length (xs[t]).fc : Value) = x0 at *;generalize (.slice (us[t]).fa (us[t]).v.l.length (us[t]).fc : Value) = y0 at *;generalize (.int .i64 (xs[t]).v.ct : Value) = x1 at *;generalize (.int .i64 (us[t]).v.ct : Value) = y1 at *;have HFA : Hid (∀ W, Below wr.heap.size wr W → W.cell? ⟨w.heap.size, 0, none⟩ = some (.slice (some ⟨b, off, none⟩) xs.length xc) ∧ W.cell? ⟨P1, 0, none⟩ = some (.slice (some ⟨b2, off2, none⟩) xs.length uc) ∧ W.cell? ⟨b, off + t * 2, none⟩ = some x0 ∧ W.cell? ⟨b, off + t * 2 + 1, none⟩ = some x1 ∧ W.cell? ⟨b2, off2 + t * 2, none⟩ = some y0 ∧ W.cell? ⟨b2, off2 + t * 2 + 1, none⟩ = some y1) := fun W hW => ⟨(hW.cell (p := ⟨w.heap.size, 0, none⟩) z0').trans c0, (hW.cell (p := ⟨P1, 0, none⟩) z1').trans e0, (hW.cell (p := ⟨b, off + t * 2, none⟩) hbr).trans k0, (hW.cell (p := ⟨b, off + t * 2 + 1, none⟩) hbr).trans k1, (hW.cell (p := ⟨b2, off2 + t * 2, none⟩) hbr2).trans m0, (hW.cell (p := ⟨b2, off2 + t * 2 + 1, none⟩) hbr2).trans m1⟩
   have HCY : Hid (∀ W, Below wr.heap.size wr W → Calls Tryz.prog 25 #[.agg #[x0, x1], .agg #[y0, y1]] W fun e w' => e = .returned (.bool true) ∧ Hid (Below wr.heap.size wr w') ∧ (w'.cell? ⟨w.heap.size, 0, none⟩ = some (.slice (some ⟨b, off, none⟩) xs.length xc) ∧ w'.cell? ⟨P1, 0, none⟩ = some (.slice (some ⟨b2, off2, none⟩) xs.length uc) ∧ w'.cell? ⟨b, off + t * 2, none⟩ = some x0 ∧ w'.cell? ⟨b, off + t * 2 + 1, none⟩ = some x1 ∧ w'.cell? ⟨b2, off2 + t * 2, none⟩ = some y0 ∧ w'.cell? ⟨b2, off2 + t * 2 + 1, none⟩ = some y1)) := by
    intro W hW;refine (HCC.out W (below_via HBR.out hW)).mono ?_;rintro e w' ⟨rfl, hb⟩
    exact ⟨rfl, hideIt (below_via hW hb), HFA.out w' (below_via hW hb)⟩
   clear HCC HFA
   go_upto_region 6 with fail
   go_cut [6] from 32 to 42 (fun v wx => v = .bool true ∧ Hid (Below wr.heap.size wr wx))
   case first =>
    clear HA HL R1 R2 R3 R4 HF HBR HR
    go_region_held3 (fun W => W.cell? ⟨w.heap.size, 0, none⟩ = some (.slice (some ⟨b, off, none⟩) xs.length xc) ∧ W.cell? ⟨P1, 0, none⟩ = some (.slice (some ⟨b2, off2, none⟩) xs.length uc) ∧ W.cell? ⟨b, off + t * 2, none⟩ = some x0 ∧ W.cell? ⟨b, off + t * 2 + 1, none⟩ = some x1 ∧ W.cell? ⟨b2, off2 + t * 2, none⟩ = some y0 ∧ W.cell? ⟨b2, off2 + t * 2 + 1, none⟩ = some y1) (go_keep) (first | (go_at_call 25; refine (HCY.out wr.drew (Below.refl _ _).drew).mono ?_; rintro e w5 ⟨rfl, HQ, ⟨i0, i1, i2, i3, i4, i5⟩⟩))
    all_goals go_wp2_with fail
    all_goals go_meet
    all_goals exact ⟨rfl, HQ⟩
   case rest =>
   obtain ⟨rfl, HQ⟩ := hcut;have HN := hideIt (below_via HR.out HQ.out);clear HCY c0 c1 e0 e1 k0 m0 k1 m1 HBR HR;go_wp2
   go_roundw
   case rel => exact ⟨t + 1, by go_num, by omega, HN⟩
   case measure => simp [intOf]; omega
  ·have hltI : ¬ (t : Int) < (xs.length : Int) := by omega
   have HG := hideIt HR.out;clear HR ht
   go_upto_region 10 with fail
   clear c0 c1 e0 e1 hlt hltI
   go_loopw [7] (fun v wr => ∃ t : Nat, v = .int .i64 t ∧ t ≤ ys.length ∧ Hid (Below W0.heap.size W0 wr)) (fun v _ => ys.length - (intOf v).toNat)
   case atStart => exact ⟨0, rfl, Nat.zero_le _, HG⟩
   case round =>
    obtain ⟨t, rfl, ht, HR⟩ := hrel;obtain ⟨⟨c0, c1⟩, e0, e1⟩ := HF.out wr HR.out;have z0' : w.heap.size < wr.heap.size := Nat.lt_of_lt_of_le z0 HR.out.size;have z1' : P1 < wr.heap.size := Nat.lt_of_lt_of_le z1 HR.out.size
    by_cases hlt : t < ys.length
    ·have hltI : (t : Int) < (ys.length : Int) := by omega
     have ht0 : (0 : Int) ≤ (t : Int) := by omega
     have hlt2 : t < vs.length := by have := HYV.out; omega
     obtain ⟨b, off, rfl, hbl, q0, q1, q2, q3, q4⟩ := R2.out t hlt;obtain ⟨b2, off2, rfl, hbl2, p0, p1, p2, p3, p4⟩ := R4.out t hlt2;have HBR := hideIt (HBW.out.trans (HR.out.mono HBW.out.size));have HCC := hideIt (HL.out t hlt hlt2);have hbr : b < wr.heap.size := Nat.lt_of_lt_of_le hbl HBR.out.size;have hbr2 : b2 < wr.heap.size := Nat.lt_of_lt_of_le hbl2 HBR.out.size;have k0 := (HBR.out.cell (p := ⟨b, off + t * 5, none⟩) hbl).trans q0;have m0 := (HBR.out.cell (p := ⟨b2, off2 + t * 5, none⟩) hbl2).trans p0;have k1 := (HBR.out.cell (p := ⟨b, off + t * 5 + 1, none⟩) hbl).trans q1;have m1 := (HBR.out.cell (p := ⟨b2, off2 + t * 5 + 1, none⟩) hbl2).trans p1;have k2 := (HBR.out.cell (p := ⟨b, off + t * 5 + 2, none⟩) hbl).trans q2;have m2 := (HBR.out.cell (p := ⟨b2, off2 + t * 5 + 2, none⟩) hbl2).trans p2;have k3 := (HBR.out.cell (p := ⟨b, off + t * 5 + 3, none⟩) hbl).trans q3;have m3 := (HBR.out.cell (p := ⟨b2, off2 + t * 5 + 3, none⟩) hbl2).trans p3;have k4 := (HBR.out.cell (p := ⟨b, off + t * 5 + 4, none⟩) hbl).trans q4;have m4 := (HBR.out.cell (p := ⟨b2, off2 + t * 5 + 4, none⟩) hbl2).trans p4;clear q0 q1 q2 q3 q4 p0 p1 p2 p3 p4 hbl hbl2;generalize (.bool (ys[t]).v.call : Value) = x0 at *;generalize (.bool (vs[t]).v.call : Value) = y0 at *;generalize (.int .i64 (ys[t]).v.next : Value) = x1 at *;generalize (.int .i64 (vs[t]).v.next : Value) = y1 at *;generalize (.slice (ys[t]).ba (ys[t]).v.bids.length (ys[t]).bc : Value) = x2 at *;generalize (.slice (vs[t]).ba (vs[t]).v.bids.length (vs[t]).bc : Value) = y2 at *;generalize (.slice (ys[t]).aa (ys[t]).v.asks.length (ys[t]).ac : Value) = x3 at *;generalize (.slice (vs[t]).aa (vs[t]).v.asks.length (vs[t]).ac : Value) = y3 at *;generalize (.slice (ys[t]).oa (ys[t]).v.owed.length (ys[t]).oc : Value) = x4 at *;generalize (.slice (vs[t]).oa (vs[t]).v.owed.length (vs[t]).oc : Value) = y4 at *;have HFA : Hid (∀ W, Below wr.heap.size wr W → W.cell? ⟨w.heap.size, 1, none⟩ = some (.slice (some ⟨b, off, none⟩) ys.length yc) ∧ W.cell? ⟨P1, 1, none⟩ = some (.slice (some ⟨b2, off2, none⟩) ys.length zc) ∧ W.cell? ⟨b, off + t * 5, none⟩ = some x0 ∧ W.cell? ⟨b, off + t * 5 + 1, none⟩ = some x1 ∧ W.cell? ⟨b, off + t * 5 + 2, none⟩ = some x2 ∧ W.cell? ⟨b, off + t * 5 + 3, none⟩ = some x3 ∧ W.cell? ⟨b, off + t * 5 + 4, none⟩ = some x4 ∧ W.cell? ⟨b2, off2 + t * 5, none⟩ = some y0 ∧ W.cell? ⟨b2, off2 + t * 5 + 1, none⟩ = some y1 ∧ W.cell? ⟨b2, off2 + t * 5 + 2, none⟩ = some y2 ∧ W.cell? ⟨b2, off2 + t * 5 + 3, none⟩ = some y3 ∧ W.cell? ⟨b2, off2 + t * 5 + 4, none⟩ = some y4) := fun W hW => ⟨(hW.cell (p := ⟨w.heap.size, 1, none⟩) z0').trans c1, (hW.cell (p := ⟨P1, 1, none⟩) z1').trans e1, (hW.cell (p := ⟨b, off + t * 5, none⟩) hbr).trans k0, (hW.cell (p := ⟨b, off + t * 5 + 1, none⟩) hbr).trans k1, (hW.cell (p := ⟨b, off + t * 5 + 2, none⟩) hbr).trans k2, (hW.cell (p := ⟨b, off + t * 5 + 3, none⟩) hbr).trans k3, (hW.cell (p := ⟨b, off + t * 5 + 4, none⟩) hbr).trans k4, (hW.cell (p := ⟨b2, off2 + t * 5, none⟩) hbr2).trans m0, (hW.cell (p := ⟨b2, off2 + t * 5 + 1, none⟩) hbr2).trans m1, (hW.cell (p := ⟨b2, off2 + t * 5 + 2, none⟩) hbr2).trans m2, (hW.cell (p := ⟨b2, off2 + t * 5 + 3, none⟩) hbr2).trans m3, (hW.cell (p := ⟨b2, off2 + t * 5 + 4, none⟩) hbr2).trans m4⟩
     have HCY : Hid (∀ W, Below wr.heap.size wr W → Calls Tryz.prog 26 #[.agg #[x0, x1, x2, x3, x4], .agg #[y0, y1, y2, y3, y4]] W fun e w' => e = .returned (.bool true) ∧ Hid (Below wr.heap.size wr w') ∧ (w'.cell? ⟨w.heap.size, 1, none⟩ = some (.slice (some ⟨b, off, none⟩) ys.length yc) ∧ w'.cell? ⟨P1, 1, none⟩ = some (.slice (some ⟨b2, off2, none⟩) ys.length zc) ∧ w'.cell? ⟨b, off + t * 5, none⟩ = some x0 ∧ w'.cell? ⟨b, off + t * 5 + 1, none⟩ = some x1 ∧ w'.cell? ⟨b, off + t * 5 + 2, none⟩ = some x2 ∧ w'.cell? ⟨b, off + t * 5 + 3, none⟩ = some x3 ∧ w'.cell? ⟨b, off + t * 5 + 4, none⟩ = some x4 ∧ w'.cell? ⟨b2, off2 + t * 5, none⟩ = some y0 ∧ w'.cell? ⟨b2, off2 + t * 5 + 1, none⟩ = some y1 ∧ w'.cell? ⟨b2, off2 + t * 5 + 2, none⟩ = some y2 ∧ w'.cell? ⟨b2, off2 + t * 5 + 3, none⟩ = some y3 ∧ w'.cell? ⟨b2, off2 + t * 5 + 4, none⟩ = some y4)) := by
      intro W hW;refine (HCC.out W (below_via HBR.out hW)).mono ?_;rintro e w' ⟨rfl, hb⟩
      exact ⟨rfl, hideIt (below_via hW hb), HFA.out w' (below_via hW hb)⟩
     clear HCC HFA
     go_upto_region 12 with fail
     go_cut [8] from 52 to 62 (fun v wx => v = .bool true ∧ Hid (Below wr.heap.size wr wx))
     case first =>
      clear HA HL R1 R2 R3 R4 HF HBR HR
      go_region_held3 (fun W => W.cell? ⟨w.heap.size, 1, none⟩ = some (.slice (some ⟨b, off, none⟩) ys.length yc) ∧ W.cell? ⟨P1, 1, none⟩ = some (.slice (some ⟨b2, off2, none⟩) ys.length zc) ∧ W.cell? ⟨b, off + t * 5, none⟩ = some x0 ∧ W.cell? ⟨b, off + t * 5 + 1, none⟩ = some x1 ∧ W.cell? ⟨b, off + t * 5 + 2, none⟩ = some x2 ∧ W.cell? ⟨b, off + t * 5 + 3, none⟩ = some x3 ∧ W.cell? ⟨b, off + t * 5 + 4, none⟩ = some x4 ∧ W.cell? ⟨b2, off2 + t * 5, none⟩ = some y0 ∧ W.cell? ⟨b2, off2 + t * 5 + 1, none⟩ = some y1 ∧ W.cell? ⟨b2, off2 + t * 5 + 2, none⟩ = some y2 ∧ W.cell? ⟨b2, off2 + t * 5 + 3, none⟩ = some y3 ∧ W.cell? ⟨b2, off2 + t * 5 + 4, none⟩ = some y4) (go_keep) (first | (go_at_call 26; refine (HCY.out wr.drew (Below.refl _ _).drew).mono ?_; rintro e w5 ⟨rfl, HQ, ⟨i0, i1, i2, i3, i4, i5, i6, i7, i8, i9, i10, i11⟩⟩))
      all_goals go_wp2_with fail
      all_goals go_meet
      all_goals exact ⟨rfl, HQ⟩
     case rest =>
     obtain ⟨rfl, HQ⟩ := hcut;have HN := hideIt (below_via HR.out HQ.out);clear HCY c0 c1 e0 e1 k0 m0 k1 m1 k2 m2 k3 m3 k4 m4 HBR HR;go_wp2
     go_roundw
     case rel => exact ⟨t + 1, by go_num, by omega, HN⟩
     case measure => simp [intOf]; omega
    ·have hltI : ¬ (t : Int) < (ys.length : Int) := by omega
     have HE := hideIt (below_via HBW.out HR.out);go_wp2;go_ret
     exact ⟨rfl, HE.out⟩
set_option maxRecDepth 100000 in
set_option maxHeartbeats 4000000 in
theorem sameAn_is (code num : Int) (f f' g g' : Value) (am : List AmtV) (fl : List FillV) (w : World) (h1 : Amts w f am) (h2 : Amts w f' am) (h3 : Fils w g fl) (h4 : Fils w g' fl) : Calls Tryz.prog 13 #[.agg #[.int .i64 code, .int .i64 num, f, g], .agg #[.int .i64 code, .int .i64 num, f', g']] w fun e w' => e = .returned (.bool true) ∧ Below w.heap.size w w' := by
 obtain ⟨t1, t2, t3⟩ := two_heap w (.cells #[.int .i64 code, .int .i64 num, f, g] 36) (.cells #[.int .i64 code, .int .i64 num, f', g'] 36);have HB := hideIt (below2 w (.cells #[.int .i64 code, .int .i64 num, f, g] 36) (.cells #[.int .i64 code, .int .i64 num, f', g'] 36));have HA := hideIt (Lg.sameAm_is f f' am _ (SGot.keep h1 HB.out) (SGot.keep h2 HB.out));have HF := hideIt (fun W (hW : Below w.heap.size w W) => sameF_is g g' fl W (h3.keep hW) (h4.keep hW));have T1 := hideIt t1;have T2 := hideIt t2;clear t1 t2 t3 h1 h2 h3 h4
 go_enter Tryz.func13, Tryz.ntmps13
 go_upto_region 1 with fail
 generalize (w.alloc (.cells #[.int .i64 code, .int .i64 num, f, g] 36)).alloc (.cells #[.int .i64 code, .int .i64 num, f', g'] 36) = W0 at *;obtain ⟨t3, t4⟩ := And.intro T1.out T2.out;have c0 : W0.cell? ⟨w.heap.size, 0, none⟩ = some (.int .i64 code) := (cell_at t3 0).trans rfl;have c1 : W0.cell? ⟨w.heap.size, 1, none⟩ = some (.int .i64 num) := (cell_at t3 1).trans rfl;have c2 : W0.cell? ⟨w.heap.size, 2, none⟩ = some f := (cell_at t3 2).trans rfl;have e0 : W0.cell? ⟨w.heap.size + 1, 0, none⟩ = some (.int .i64 code) := (cell_at t4 0).trans rfl;have e1 : W0.cell? ⟨w.heap.size + 1, 1, none⟩ = some (.int .i64 num) := (cell_at t4 1).trans rfl;have e2 : W0.cell? ⟨w.heap.size + 1, 2, none⟩ = some f' := (cell_at t4 2).trans rfl;clear t3 t4
 go_wp2_with fail
 refine HA.out.mono ?_;rintro e w1 ⟨rfl, hb⟩;dsimp only;have c3 : w1.cell? ⟨w.heap.size, 3, none⟩ = some g := (cell_at (blkK T1.out hb) 3).trans rfl;have e3 : w1.cell? ⟨w.heap.size + 1, 3, none⟩ = some g' := (cell_at (blkK T2.out hb) 3).trans rfl;have HB2 := hideIt (below_via HB.out hb);clear hb HA c0 c1 c2 e0 e1 e2 HB
 go_wp2_with fail
 refine (HF.out _ HB2.out).mono ?_;rintro e w2 ⟨rfl, hb⟩;dsimp only;go_wp2;go_ret
 exact ⟨rfl, below_via HB2.out hb⟩
structure AB (B Q : Nat) (A : AnsV) (f : Option Addr) (fc : Nat) (g : Option Addr) (gc : Nat) (W : World) : Prop where
 box : W.heap[Q]? = some (.cells (ansC A f fc g gc) 36 (0, 0))
 am : W.ownsRow B 53 2 (.slice f A.am.length fc) A.am.length (celC amtE A.am)
 fl : W.ownsRow B 106 4 (.slice g A.fl.length gc) A.fl.length (celC filE A.fl)
 sa : A.am.length * 16 ≤ 140737488355328
 sf : A.fl.length * 32 ≤ 140737488355328
theorem AB.keep {B Q : Nat} {A : AnsV} {f g : Option Addr} {fc gc : Nat} {W W' : World} (h : AB B Q A f fc g gc W) (hb : Below W.heap.size W W') : AB B Q A f fc g gc W' := ⟨blkK h.box hb, own_keep h.am hb, own_keep h.fl hb, h.sa, h.sf⟩
theorem AB.set {B Q K j : Nat} {A : AnsV} {f g : Option Addr} {fc gc : Nat} {W : World} {cs : Array Value} {u : Value} (h : AB B Q A f fc g gc W) (hd : W.heap[K]? = some (.cells cs 30 (0, 0))) : AB B Q A f fc g gc (W.setCell ⟨K, j, none⟩ u) :=
 ⟨setOther _ h.box (ty_ne h.box hd (by decide)), own_cell h.am hd (by decide), own_cell h.fl hd (by decide), h.sa, h.sf⟩
theorem AB.amts {B Q : Nat} {A : AnsV} {f g : Option Addr} {fc gc : Nat} {W : World} (h : AB B Q A f fc g gc W) : Amts W (.slice f A.am.length fc) A.am := own_sgot (bytes := 16) h.am h.sa
theorem AB.fils {B Q : Nat} {A : AnsV} {f g : Option Addr} {fc gc : Nat} {W : World} (h : AB B Q A f fc g gc W) : Fils W (.slice g A.fl.length gc) A.fl := own_sgot (bytes := 32) h.fl h.sf
theorem MB.set {B K K2 j : Nat} {M : MdlV} {a : Option Addr} {c : Nat} {b : Option Addr} {d : Nat} {W : World} {cs : Array Value} {u : Value} (h : MB B K M a c b d W) (hd : W.heap[K2]? = some (.cells cs 30 (0, 0))) (hne : K ≠ K2) : MB B K M a c b d (W.setCell ⟨K2, j, none⟩ u) :=
 ⟨setOther _ h.box hne, h.md.set hd (by decide) (by decide) (by decide) (by decide) (by decide)⟩
theorem do_nw {w0 W V : World} {Z : MdlV × AnsV} {a1 b1 f1 g1 : Option Addr} {c1 d1 f2 g2 : Nat} (hB : Below w0.heap.size w0 W) (ho : DoOwn W.heap.size V (.slice a1 Z.1.a.length c1) (.slice b1 Z.1.l.length d1) (.slice f1 Z.2.am.length f2) (.slice g1 Z.2.fl.length g2) Z ∧ Below W.heap.size W V) :
  ∀ G, G = (V.alloc (.cells #[.slice a1 Z.1.a.length c1, .slice b1 Z.1.l.length d1] 30)).alloc (.cells (ansC Z.2 f1 f2 g1 g2) 36) →
  MB w0.heap.size V.heap.size Z.1 a1 c1 b1 d1 G ∧ AB w0.heap.size (V.heap.size + 1) Z.2 f1 f2 g1 g2 G ∧ Below W.heap.size W G := by
 rintro G rfl;have hb2 := below2 V (.cells #[.slice a1 Z.1.a.length c1, .slice b1 Z.1.l.length d1] 30) (.cells (ansC Z.2 f1 f2 g1 g2) 36);obtain ⟨t1, t2, t3⟩ := two_heap V (.cells #[.slice a1 Z.1.a.length c1, .slice b1 Z.1.l.length d1] 30) (.cells (ansC Z.2 f1 f2 g1 g2) 36)
 exact ⟨⟨t1, (ho.1.m.keep hb2).base hB.size⟩, ⟨t2, own_base (own_keep ho.1.am hb2) hB.size, own_base (own_keep ho.1.fl hb2) hB.size, ho.1.sa, ho.1.sf⟩, below_via ho.2 hb2⟩
theorem do_re {K : Nat} {w0 W V : World} {M : MdlV} {Z : MdlV × AnsV} {a b a1 b1 f1 g1 : Option Addr} {c d c1 d1 f2 g2 : Nat} (hM : MB w0.heap.size K M a c b d W) (hB : Below w0.heap.size w0 W) (hK : w0.heap.size ≤ K) (ho : DoOwn W.heap.size V (.slice a1 Z.1.a.length c1) (.slice b1 Z.1.l.length d1) (.slice f1 Z.2.am.length f2) (.slice g1 Z.2.fl.length g2) Z ∧ Below W.heap.size W V) :
  ∀ G, G = ((V.setCell ⟨K, 0, none⟩ (.slice a1 Z.1.a.length c1)).setCell ⟨K, 1, none⟩ (.slice b1 Z.1.l.length d1)).alloc (.cells (ansC Z.2 f1 f2 g1 g2) 36) →
  MB w0.heap.size K Z.1 a1 c1 b1 d1 G ∧ AB w0.heap.size V.heap.size Z.2 f1 f2 g1 g2 G ∧ Below w0.heap.size w0 G ∧
  (∀ (Q : Nat) (A : AnsV) (f : Option Addr) (fc : Nat) (g : Option Addr) (gc : Nat), AB w0.heap.size Q A f fc g gc W → AB w0.heap.size Q A f fc g gc G) ∧
  (∀ (K2 : Nat) (M2 : MdlV) (a2 : Option Addr) (c2 : Nat) (b2 : Option Addr) (d2 : Nat), K2 ≠ K → MB w0.heap.size K2 M2 a2 c2 b2 d2 W → MB w0.heap.size K2 M2 a2 c2 b2 d2 G) ∧
  ∀ (P : Nat) (cs : Array Value), W.heap[P]? = some (Obj.cells cs 26 (0, 0)) → G.heap[P]? = some (Obj.cells cs 26 (0, 0)) := by
 rintro G rfl;have hkz := (Array.getElem?_eq_some_iff.1 hM.box).1;have hbx := (ho.2.block K hkz).trans hM.box;have k1 := heap_set hbx 0 (.slice a1 Z.1.a.length c1);obtain ⟨hz, -⟩ := puts2 V K 30 (.slice a1 Z.1.a.length c1) (.slice b1 Z.1.l.length d1) hbx;have hm2 := (ho.1.m.set (j := 0) (u := .slice a1 Z.1.a.length c1) hbx (by decide) (by decide) (by decide) (by decide) (by decide)).set (j := 1) (u := .slice b1 Z.1.l.length d1) k1 (by decide) (by decide) (by decide) (by decide) (by decide);have ham := own_cell (j := 1) (u := .slice b1 Z.1.l.length d1) (own_cell (j := 0) (u := .slice a1 Z.1.a.length c1) ho.1.am hbx (by decide)) k1 (by decide);have hfl := own_cell (j := 1) (u := .slice b1 Z.1.l.length d1) (own_cell (j := 0) (u := .slice a1 Z.1.a.length c1) ho.1.fl hbx (by decide)) k1 (by decide);have hb2 := below1 ((V.setCell ⟨K, 0, none⟩ (.slice a1 Z.1.a.length c1)).setCell ⟨K, 1, none⟩ (.slice b1 Z.1.l.length d1)) (.cells (ansC Z.2 f1 f2 g1 g2) 36);have hbb := belowSet (j := 1) (.slice b1 Z.1.l.length d1) (belowSet (j := 0) (.slice a1 Z.1.a.length c1) (below_via hB ho.2) hK) hK;have hh := heap_alloc_new ((V.setCell ⟨K, 0, none⟩ (.slice a1 Z.1.a.length c1)).setCell ⟨K, 1, none⟩ (.slice b1 Z.1.l.length d1)) (.cells (ansC Z.2 f1 f2 g1 g2) 36);rw [show ((V.setCell ⟨K, 0, none⟩ (.slice a1 Z.1.a.length c1)).setCell ⟨K, 1, none⟩ (.slice b1 Z.1.l.length d1)).heap.size = V.heap.size by simp] at hh;refine ⟨⟨blkK hz hb2, (hm2.keep hb2).base hB.size⟩, ⟨hh, own_base (own_keep ham hb2) hB.size, own_base (own_keep hfl hb2) hB.size, ho.1.sa, ho.1.sf⟩, below_via hbb hb2, fun Q A f fc g gc h => ?_, fun K2 M2 a2 c2 b2 d2 hne h => ?_, fun P cs h => ?_⟩
 ·exact (((h.keep ho.2).set hbx).set k1).keep hb2
 ·exact (((h.keep ho.2).set hbx hne).set k1 hne).keep hb2
 ·have hne := ty_ne h hM.box (by decide);exact blkK (setOther _ (setOther _ ((ho.2.block P (Array.getElem?_eq_some_iff.1 h).1).trans h) hne) hne) hb2
end Go.Proofs.YtiinigifjdpicaaGreatDoor
