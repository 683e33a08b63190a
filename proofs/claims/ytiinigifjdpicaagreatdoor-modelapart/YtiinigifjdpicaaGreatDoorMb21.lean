/- Texts of my own, laid together. -/
import Derived.Test.YtiinigifjdpicaaGreatDoorMb18
import Derived.Test.YtiinigifjdpicaaGreatDoorMb19
import Derived.Test.YtiinigifjdpicaaGreatDoorMb20
namespace Go.Proofs.YtiinigifjdpicaaGreatDoor
open Go.RowKit
set_option linter.all false
theorem eqTrueK {a b : Int × Int} (h : a = b) (W : World) : (binOp .eql 24 (.agg #[.int .i64 a.1, .int .i64 a.2]) (.agg #[.int .i64 b.1, .int .i64 b.2])).run Tryz.prog W = .ok (.bool true) W := by
 rw [Se.eq26, h]
 simp
set_option maxRecDepth 100000 in
set_option maxHeartbeats 64000000 in
theorem apart_walk (v : Value) (l : List ReqV) (qa qb : ReqV) (w : World) (h : Reqs w v l) (hF : Se.Forms w) : Calls Tryz.prog 6 #[v, .agg (Se.reqC qa), .agg (Se.reqC qb)] w fun e w' => e = .returned (.bool true) ∧ Below w.heap.size w w' := by
 obtain ⟨X0, hX0⟩ : ∃ X, X = (w.alloc (.cells (Se.reqC qa) 26)).alloc (.cells (Se.reqC qb) 26) := ⟨_, rfl⟩;obtain ⟨t1, t2, t3⟩ := two_heap w (.cells (Se.reqC qa) 26) (.cells (Se.reqC qb) 26);have hb0 := below2 w (.cells (Se.reqC qa) 26) (.cells (Se.reqC qb) 26);rw [← hX0] at t1 t2 hb0;have HXA := hideIt t1;have HXB := hideIt t2;have HB0 := hideIt hb0;have H0 := hideIt (fun W => mnew_is W);have HQ := hideIt (fun W (hW : Below X0.heap.size X0 W) => (h.keep hb0).keep hW);have H1 := hideIt (fun W (hW : Below X0.heap.size X0 W) => few_is v l W ((h.keep hb0).keep hW));have HFO := hideIt (fun W (hW : Below X0.heap.size X0 W) => (hF.keep hb0).keep hW);have HL := hideIt (fun W (hW : Below X0.heap.size X0 W) => live_is W ((hF.keep hb0).keep hW));have HKA := hideIt (fun W => Se.rKeys_is qa W);have HKB := hideIt (fun W => Se.rKeys_is qb W);have hlen : (l.take 40).length ≤ 40 := by rw [List.length_take]; omega
 have HPL := hideIt (fun hk => apart_plain (a := qa) (b := qb) (inv_ply (l.take 40) (by omega)) hk);have HDA := hideIt (fun N va vl W (hm : Mdl W va vl N) (hf : Se.Forms W) => do_is va vl N qa W hm hf);have HDB := hideIt (fun N va vl W (hm : Mdl W va vl N) (hf : Se.Forms W) => do_is va vl N qb W hm hf);clear h hF t1 t2 t3 hb0 hlen;subst hX0;unfold Se.reqC at *
 go_enter Tryz.func6, Tryz.ntmps6
 go_upto_region 1 with fail
 generalize (World.alloc (World.alloc w (.cells #[.int .i64 qa.kind, .int .i64 qa.acct, .int .i64 qa.lane, .int .i64 qa.asset, .int .i64 qa.side, .int .i64 qa.price, .int .i64 qa.n, .bool qa.now, .int .i64 qa.key.1, .int .i64 qa.key.2, .int .i64 qa.dst] 26)) (.cells #[.int .i64 qb.kind, .int .i64 qb.acct, .int .i64 qb.lane, .int .i64 qb.asset, .int .i64 qb.side, .int .i64 qb.price, .int .i64 qb.n, .bool qb.now, .int .i64 qb.key.1, .int .i64 qb.key.2, .int .i64 qb.dst] 26)) = W0 at *
 go_wp2_with fail
 refine (H0.out _).mono ?_;rintro e w1 ⟨a, c, b, d, rfl, ho, hb⟩;dsimp only;have hb2 := below1 w1 (.cells #[.slice a newM.a.length c, .slice b newM.l.length d] 30);have hMB : Hid (MB W0.heap.size w1.heap.size newM a c b d (w1.alloc (.cells #[.slice a newM.a.length c, .slice b newM.l.length d] 30))) := ⟨heap_alloc_new w1 _, ho.keep hb2⟩;have hB2 := hideIt (below_via hb hb2);have HK := hideIt hb.size;clear ho hb2 hb H0
 go_upto_region 2 with fail
 generalize w1.alloc (.cells #[.slice a newM.a.length c, .slice b newM.l.length d] 30) = w2 at *;generalize w1.heap.size = K at *
 go_wp2_with fail
 refine (H1.out _ hB2.out).mono ?_;rintro e w3 ⟨⟨v', rfl, hv⟩, rfl⟩;dsimp only;have HR := hideIt (fun W (hW : Below W0.heap.size W0 W) => hv W (HQ.out W hW));clear hv HQ H1;generalize l.take 40 = R at *;have h8 := (HR.out _ hB2.out).1;obtain ⟨ra, rc, rfl⟩ := (HR.out _ hB2.out).slice;have hcap := (HR.out _ hB2.out).cap;have hmx : maxLen = 9223372036854775807 := by decide
 rw [hmx] at hcap;have H8 := hideIt (And.intro h8 hcap);clear h8 hcap hmx
 go_upto_region 4 with fail
 go_loopw [8] (fun v wr => ∃ (t : Nat) (a : Option Addr) (c : Nat) (b : Option Addr) (d : Nat), v = .int .i64 t ∧ t ≤ R.length ∧ Hid (MB W0.heap.size K (plyM (R.take t)) a c b d wr ∧ Below W0.heap.size W0 wr)) (fun v _ => R.length - (intOf v).toNat)
 case atStart => exact ⟨0, a, c, b, d, rfl, Nat.zero_le _, hideIt ⟨by rw [List.take_zero]; exact hMB.out, hB2.out⟩⟩
 case round =>
  clear hMB hB2;generalize (Value.agg #[.slice a newM.a.length c, .slice b newM.l.length d]) = u5 at *;clear a c b d;obtain ⟨t, a, c, b, d, rfl, ht, HX⟩ := hrel;have h8 := H8.out
  by_cases hlt : t < R.length
  ·have hltI : (t : Int) < (R.length : Int) := by omega
   have ht0 : (0 : Int) ≤ (t : Int) := by omega
   have hrq := HR.out _ HX.out.2;obtain ⟨_, ra', rc', e, _, hr⟩ := hrq;simp only [Value.slice.injEq] at e;obtain ⟨rfl, _, rfl⟩ := e;obtain ⟨rb, off, rfl, hrl, hrc⟩ := hr (by omega);have HPS := hideIt (ply_step R t hlt);have HRE := hideIt (reqE_c R[t]);have HCD : Hid (∀ W, Below wr.heap.size wr W → Calls Tryz.prog 10 #[.agg #[.slice a (plyM (R.take t)).a.length c, .slice b (plyM (R.take t)).l.length d], .agg (Se.reqC R[t])] W (DoBack (doM (plyM (R.take t)) R[t]) W)) := fun W hW => do_is _ _ _ _ W (HX.out.1.keep hW).md.at_ (HFO.out W (below_via HX.out.2 hW))
   have HBX := hideIt HX.out.1.box;have HBW := hideIt HX.out.2;have HKL := hideIt (And.intro hrl (And.intro (Array.getElem?_eq_some_iff.1 HX.out.1.box).1 HX.out.2.size));have hS : Hid (∀ W, Below W0.heap.size W0 W → W.cell? ⟨rb, off + t * 11, none⟩ = some (.int .i64 (R[t]).kind) ∧ W.cell? ⟨rb, off + t * 11 + 1, none⟩ = some (.int .i64 (R[t]).acct) ∧ W.cell? ⟨rb, off + t * 11 + 2, none⟩ = some (.int .i64 (R[t]).lane) ∧ W.cell? ⟨rb, off + t * 11 + 3, none⟩ = some (.int .i64 (R[t]).asset) ∧ W.cell? ⟨rb, off + t * 11 + 4, none⟩ = some (.int .i64 (R[t]).side) ∧ W.cell? ⟨rb, off + t * 11 + 5, none⟩ = some (.int .i64 (R[t]).price) ∧ W.cell? ⟨rb, off + t * 11 + 6, none⟩ = some (.int .i64 (R[t]).n) ∧ W.cell? ⟨rb, off + t * 11 + 7, none⟩ = some (.bool (R[t]).now) ∧ W.cell? ⟨rb, off + t * 11 + 8, none⟩ = some (.int .i64 (R[t]).key.1) ∧ W.cell? ⟨rb, off + t * 11 + 9, none⟩ = some (.int .i64 (R[t]).key.2) ∧ W.cell? ⟨rb, off + t * 11 + 10, none⟩ = some (.int .i64 (R[t]).dst)) := by
    intro W hW;obtain ⟨_, ra', rc', e, _, hr⟩ := HR.out _ hW;simp only [Value.slice.injEq] at e;obtain ⟨e1, _, rfl⟩ := e;obtain ⟨rb', off', e2, _, hrc⟩ := hr (by omega);rw [← e1] at e2;simp only [Option.some.injEq, Addr.mk.injEq] at e2;obtain ⟨rfl, rfl, _⟩ := e2;have q := fun j (hj : j < 11) => (hrc (t * 11 + j) (by omega)).trans (celC_get reqEK R t hlt j hj)
    simp only [← Nat.add_assoc] at q
    exact ⟨q 0 (by omega), q 1 (by omega), q 2 (by omega), q 3 (by omega), q 4 (by omega), q 5 (by omega), q 6 (by omega), q 7 (by omega), q 8 (by omega), q 9 (by omega), q 10 (by omega)⟩
   obtain ⟨⟨p0, p1⟩, pf, pz⟩ := at2 HX.out.1.box;clear HX hrc hr HRE;generalize doM (plyM (R.take t)) R[t] = Z at *;generalize plyM (R.take t) = M at *;generalize R[t] = rq at *;unfold Se.reqC at HCD
   go_upto_region 6 with fail
   refine wp_region_held_drew (S := fun W => W.cell? ⟨rb, off + t * 11, none⟩ = some (.int .i64 rq.kind) ∧ W.cell? ⟨rb, off + t * 11 + 1, none⟩ = some (.int .i64 rq.acct) ∧ W.cell? ⟨rb, off + t * 11 + 2, none⟩ = some (.int .i64 rq.lane) ∧ W.cell? ⟨rb, off + t * 11 + 3, none⟩ = some (.int .i64 rq.asset) ∧ W.cell? ⟨rb, off + t * 11 + 4, none⟩ = some (.int .i64 rq.side) ∧ W.cell? ⟨rb, off + t * 11 + 5, none⟩ = some (.int .i64 rq.price) ∧ W.cell? ⟨rb, off + t * 11 + 6, none⟩ = some (.int .i64 rq.n) ∧ W.cell? ⟨rb, off + t * 11 + 7, none⟩ = some (.bool rq.now) ∧ W.cell? ⟨rb, off + t * 11 + 8, none⟩ = some (.int .i64 rq.key.1) ∧ W.cell? ⟨rb, off + t * 11 + 9, none⟩ = some (.int .i64 rq.key.2) ∧ W.cell? ⟨rb, off + t * 11 + 10, none⟩ = some (.int .i64 rq.dst)) (by rfl) (hS.out _ HBW.out.drew) (fun hHeld => ?_);refine wpAnyH_take (i := 1) (oi := ⟨some 30, _, _, _, _, _⟩) (v := ?_) rfl (by kernel_rfl) (by kernel_rfl) (by kernel_rfl) (fun _ _ _ h => h) (Or.inl ⟨by rfl, ?_⟩) (by assumption) ?_
   rotate_left
   ·intro w5 hSw
    (try dsimp only at hSw)
    go_simp
    (try with_reducible rfl)
   try simp only [Act.put, List.setIfInBounds_toArray, List.set_cons_zero, List.set_cons_succ]
   refine wpAnyH_take (i := 2) (oi := ⟨some 31, _, _, _, _, _⟩) (v := ?_) rfl (by kernel_rfl) (by kernel_rfl) (by kernel_rfl) (fun _ _ _ h => h) (Or.inl ⟨by rfl, ?_⟩) (by assumption) ?_
   rotate_left
   ·intro w5 hSw
    (try dsimp only at hSw)
    go_simp
    (try with_reducible rfl)
   try simp only [Act.put, List.setIfInBounds_toArray, List.set_cons_zero, List.set_cons_succ]
   refine wpAnyH_take (i := 3) (oi := ⟨some 32, _, _, _, _, _⟩) (v := ?_) rfl (by kernel_rfl) (by kernel_rfl) (by kernel_rfl) (fun _ _ _ h => h) (Or.inl ⟨by rfl, ?_⟩) (by assumption) ?_
   rotate_left
   ·intro w5 hSw
    (try dsimp only at hSw)
    go_simp
    (try with_reducible rfl)
   try simp only [Act.put, List.setIfInBounds_toArray, List.set_cons_zero, List.set_cons_succ]
   refine wpAnyH_take (i := 4) (oi := ⟨some 33, _, _, _, _, _⟩) (v := ?_) rfl (by kernel_rfl) (by kernel_rfl) (by kernel_rfl) (fun _ _ _ h => h) (Or.inl ⟨by rfl, ?_⟩) (by assumption) ?_
   rotate_left
   ·intro w5 hSw
    (try dsimp only at hSw)
    go_simp
    (try with_reducible rfl)
   try simp only [Act.put, List.setIfInBounds_toArray, List.set_cons_zero, List.set_cons_succ]
   refine wpAnyH_ready (rs := [0]) (by kernel_rfl) (by simp) ?_;refine AllReadyH.cons (o := ⟨some 29, _, _, _, _, _⟩) rfl (fun Kx hK => ?_) AllReadyH.nil;go_simp;refine hK.out _ _ (by first | exact hS.out _ HBW.out.drew | exact hS.out _ HBW.out) (fun hHeld => ?_);clear hK Kx
   try simp only [Act.put, List.setIfInBounds_toArray, List.set_cons_zero, List.set_cons_succ]
   refine wpAnyH_ready (rs := [5]) (by kernel_rfl) (by simp) ?_;refine AllReadyH.cons (o := ⟨some 34, _, _, _, _, _⟩) rfl (fun Kx hK => ?_) AllReadyH.nil;go_simp
   go_at_call 10
   refine (HCD.out _ (by first | exact (Below.refl _ _).drew | exact Below.refl _ _)).mono ?_;rintro e w5 ⟨a2, c2, b2, d2, f1, f2, g1, g2, rfl, HDO⟩;have HB5 := hideIt (below_via (by first | exact HBW.out.drew | exact HBW.out) HDO.out.2);have HX5 := hideIt (HDO.out.2.block K HKL.out.2.1);refine hK.out _ _ (hS.out _ HB5.out) (fun hHeld => ?_);clear hK Kx
   try simp only [Act.put, List.setIfInBounds_toArray, List.set_cons_zero, List.set_cons_succ]
   refine wpAnyH_take (i := 6) (oi := ⟨some 28, _, _, _, _, _⟩) (v := ?_) rfl (by kernel_rfl) (by kernel_rfl) (by kernel_rfl) (fun _ _ _ h => h) (Or.inl ⟨by rfl, ?_⟩) (by assumption) ?_
   rotate_left
   ·intro w5 hSw
    (try dsimp only at hSw)
    go_simp
    (try with_reducible rfl)
   try simp only [Act.put, List.setIfInBounds_toArray, List.set_cons_zero, List.set_cons_succ]
   refine wpAnyH_take (i := 7) (oi := ⟨some 35, _, _, _, _, _⟩) (v := ?_) rfl (by kernel_rfl) (by kernel_rfl) (by kernel_rfl) (fun _ _ _ h => h) (Or.inl ⟨by rfl, ?_⟩) (by assumption) ?_
   rotate_left
   ·intro w5 hSw
    (try dsimp only at hSw)
    go_simp
    (try with_reducible rfl)
   try simp only [Act.put, List.setIfInBounds_toArray, List.set_cons_zero, List.set_cons_succ]
   refine wpAnyH_take (i := 8) (oi := ⟨some 36, _, _, _, _, _⟩) (v := ?_) rfl (by kernel_rfl) (by kernel_rfl) (by kernel_rfl) (fun _ _ _ h => h) (Or.inl ⟨by rfl, ?_⟩) (by assumption) ?_
   rotate_left
   ·intro w5 hSw
    (try dsimp only at hSw)
    go_simp
    (try with_reducible rfl)
   try simp only [Act.put, List.setIfInBounds_toArray, List.set_cons_zero, List.set_cons_succ]
   refine wpAnyH_ready (rs := [9]) (by kernel_rfl) (by simp) ?_;refine AllReadyH.cons (o := ⟨none, _, _, _, _, _⟩) rfl (fun Kx hK => ?_) AllReadyH.nil;have hx5 := HX5.out.trans HBX.out;obtain ⟨⟨y0, y1⟩, yf, yz⟩ := at2 hx5;refine step_store_rowK rfl 30 _ _ rfl K #[.slice a2 Z.1.a.length c2, .slice b2 Z.1.l.length d2] rfl rfl 30 #[.slice a M.a.length c, .slice b M.l.length d] hx5 (by kernel_rfl) rfl (by simp [Value.oneCell']) ?_;have hout := setRow_out w5 K #[.slice a2 Z.1.a.length c2, .slice b2 Z.1.l.length d2];have hrow := setRow_heap w5 K #[.slice a M.a.length c, .slice b M.l.length d] #[.slice a2 Z.1.a.length c2, .slice b2 Z.1.l.length d2] 30 (0, 0) hx5;have hbz : Below W0.heap.size W0 (w5.setRow K #[.slice a2 Z.1.a.length c2, .slice b2 Z.1.l.length d2]) := below_out HB5.out hout (fun k e => by have := HK.out; omega)
   refine hK.out _ _ (hS.out _ hbz) (fun hHeld => ?_);clear hK Kx
   try simp only [Act.put, List.setIfInBounds_toArray, List.set_cons_zero, List.set_cons_succ]
   refine wpAnyH_done (by kernel_rfl) ?_ _;have HN : Hid (MB W0.heap.size K Z.1 a2 c2 b2 d2 (w5.setRow K #[.slice a2 Z.1.a.length c2, .slice b2 Z.1.l.length d2]) ∧ Below W0.heap.size W0 (w5.setRow K #[.slice a2 Z.1.a.length c2, .slice b2 Z.1.l.length d2])) := by
    obtain ⟨⟨xs, hx, ha⟩, ys, hy, hl⟩ := HDO.out.1.m;have hkl := HKL.out
    exact ⟨⟨hrow, ⟨xs, hx, (ha.out hout (fun k e => by subst e; exact hkl.2.1)).base hkl.2.2⟩, ys, hy, (hl.out hout (fun k e => by subst e; exact hkl.2.1)).base hkl.2.2⟩, hbz⟩
   clear hHeld HDO HB5 HX5 hx5 hout hrow hbz HBX HBW hS HCD p0 p1 pf pz y0 y1 yf yz;go_wp2
   go_roundw
   case rel => exact ⟨t + 1, a2, c2, b2, d2, by go_num, by omega, hideIt (by rw [HPS.out]; exact HN.out)⟩
   case measure => simp [intOf]; omega
  ·have hltI : ¬ (t : Int) < (R.length : Int) := by omega
   obtain rfl : t = R.length := by omega
   have HX' := HX;rw [List.take_length] at HX';have HMB := hideIt HX'.out.1;have HBW := hideIt HX'.out.2;clear HX HX' H8 HK ht hltI h8;obtain ⟨⟨r0, r1, r2, r3, r4, r5, r6, r7, r8, r9, r10⟩, rf, rz⟩ := at11 (blkK HXA.out HBW.out)
   go_wp2_with fail
   refine (HKA.out _).mono ?_;rintro e w4 ⟨xa, xc, rfl, hgx, hb⟩;dsimp only;have HB4 := hideIt (below_via HBW.out hb);have HGX := hideIt hgx;have HM4 := hideIt (HMB.out.keep hb);clear r0 r1 r2 r3 r4 r5 r6 r7 r8 r9 r10 rf rz;clear hb hgx HMB HBW HKA;obtain ⟨⟨r0, r1, r2, r3, r4, r5, r6, r7, r8, r9, r10⟩, rf, rz⟩ := at11 (blkK HXB.out HB4.out)
   go_wp2_with fail
   refine (HKB.out _).mono ?_;rintro e w5 ⟨ya, yc, rfl, hgy, hb⟩;dsimp only;have HB5 := hideIt (below_via HB4.out hb);have HM5 := hideIt (HM4.out.keep hb);have hgx := HGX.out.keep hb;clear r0 r1 r2 r3 r4 r5 r6 r7 r8 r9 r10 rf rz;generalize Se.keysB qa = X at *;generalize Se.keysB qb = Y at *;obtain ⟨xa', xc', e0, h8x, hrx⟩ := Se.SGot.keys hgx;simp only [Value.slice.injEq] at e0;obtain ⟨rfl, -, rfl⟩ := e0;obtain ⟨ya', yc', e0, h8y, hry⟩ := Se.SGot.keys hgy;simp only [Value.slice.injEq] at e0;obtain ⟨rfl, -, rfl⟩ := e0;have HRX := hideIt hrx;have HRY := hideIt hry;have H8 := hideIt (And.intro h8x h8y);clear hb hgx hgy hrx hry HGX HM4 HB4 HKB
   go_upto_region 10 with fail
   go_loopw [11] (fun v wr => ∃ i : Nat, v = .int .i64 i ∧ i ≤ X.length ∧ Hid ((∀ m (hm : m < X.length), m < i → X[m] ∉ Y) ∧ Below w5.heap.size w5 wr)) (fun v _ => X.length - (intOf v).toNat)
   case atStart => exact ⟨0, rfl, Nat.zero_le _, hideIt ⟨fun m _ hm => absurd hm (Nat.not_lt_zero _), Below.refl _ _⟩⟩
   case round =>
    obtain ⟨i, rfl, hi, HW⟩ := hrel
    by_cases hlt : i < X.length
    ·have hltI : (i : Int) < (X.length : Int) := by omega
     have hi0 : (0 : Int) ≤ (i : Int) := by omega
     obtain ⟨b1, off1, rfl, hbl, q0, q1⟩ := HRX.out i hlt;have HA := hideIt HW.out.1;have HW2 := hideIt HW.out.2;have HQX := hideIt (And.intro hbl (And.intro q0 q1));clear HW q0 q1 hbl
     go_upto_region 13 with fail
     go_loopw [12] (fun v wr => ∃ k : Nat, v = .int .i64 k ∧ k ≤ Y.length ∧ Hid ((∀ m (hm : m < Y.length), m < k → X[i] ≠ Y[m]) ∧ Below w5.heap.size w5 wr)) (fun v _ => Y.length - (intOf v).toNat)
     case atStart => exact ⟨0, rfl, Nat.zero_le _, hideIt ⟨fun m _ hm => absurd hm (Nat.not_lt_zero _), HW2.out⟩⟩
     case round =>
      clear HW2;obtain ⟨k, rfl, hk, HW⟩ := hrel
      by_cases hkt : k < Y.length
      ·have hktI : (k : Int) < (Y.length : Int) := by omega
       have hk0 : (0 : Int) ≤ (k : Int) := by omega
       obtain ⟨b2, off2, rfl, hbl2, p0, p1⟩ := HRY.out k hkt;have hbw := HW.out.2;have i0 := (hbw.cell (p := ⟨b1, off1 + i * 2, none⟩) HQX.out.1).trans HQX.out.2.1;have i1 := (hbw.cell (p := ⟨b1, off1 + i * 2 + 1, none⟩) HQX.out.1).trans HQX.out.2.2;have j0 := (hbw.cell (p := ⟨b2, off2 + k * 2, none⟩) hbl2).trans p0;have j1 := (hbw.cell (p := ⟨b2, off2 + k * 2 + 1, none⟩) hbl2).trans p1;have z1 : b1 < wr.heap.size := Nat.lt_of_lt_of_le HQX.out.1 hbw.size;have z2 : b2 < wr.heap.size := Nat.lt_of_lt_of_le hbl2 hbw.size;have HE := hideIt HW.out.1;have HBK := hideIt hbw;have HAE := hideIt (fun (e : X[i] = Y[k]) => eqTrueK e);have HAN := hideIt (fun (e : (X[i] == Y[k]) = false) => Se.eqFalse e);have HST : Hid (X[i] ≠ Y[k] → ∀ m (hm : m < Y.length), m < k + 1 → X[i] ≠ Y[m]) := fun hne m hm hmk => by
        rcases Nat.lt_succ_iff_lt_or_eq.1 hmk with e | e
        ·exact HE.out m hm e
        ·subst e;exact hne
       clear HW hbw p0 p1 hbl2 HE;generalize Y[k] = x2 at *;generalize X[i] = x1 at *
       by_cases he : x1 = x2
       ·have hqf := HAE.out he;clear HST HAN HAE he
        go_upto_region 15 with fail
        go_quiet (fail)
        have HB6 := hideIt (below_via HB5.out (below_drewN HBK.out nq));clear i0 i1 j0 j1 z1 z2 HBK;generalize wr.drewN nq = wx at *
        go_wp2_with fail
        refine (HL.out _ HB6.out).mono ?_;rintro e w6 ⟨rfl, hb⟩;have HF := hideIt (below_via HB0.out (below_via HB6.out hb));clear hb;go_wp2;go_ret
        exact ⟨rfl, HF.out⟩
       ·have hqf := HAN.out (beq_eq_false_iff_ne.2 he);have HST2 := hideIt (HST.out he);clear HST HAN HAE he
        go_upto_region 15 with fail
        go_quiet (fail)
        have HW3 := hideIt (below_drewN HBK.out nq);clear i0 i1 j0 j1 z1 z2 HBK hqf;generalize wr.drewN nq = wx at *;go_wp2
        go_roundw
        case rel => exact ⟨k + 1, by go_num, by omega, hideIt ⟨HST2.out, HW3.out⟩⟩
        case measure => simp [intOf]; omega
      ·have hktI : ¬ (k : Int) < (Y.length : Int) := by omega
       have HST : Hid (∀ m (hm : m < X.length), m < i + 1 → X[m] ∉ Y) := fun m hm hmk => by
        rcases Nat.lt_succ_iff_lt_or_eq.1 hmk with e | e
        ·exact HA.out m hm e
        ·subst e;intro hmem;obtain ⟨n, hn, en⟩ := List.getElem_of_mem hmem;exact HW.out.1 n hn (by omega) en.symm
       have HW3 := hideIt HW.out.2;clear HW HA HQX;go_wp2
       go_roundw
       case rel => exact ⟨i + 1, by go_num, by omega, hideIt ⟨HST.out, HW3.out⟩⟩
       case measure => simp [intOf]; omega
    ·have hltI : ¬ (i : Int) < (X.length : Int) := by omega
     obtain ⟨g1, g2, g3⟩ := HPL.out (fun k hk => by
      obtain ⟨n, hn, en⟩ := List.getElem_of_mem hk;rw [← en];exact HW.out.1 n hn (by omega))
     have HMB := hideIt (HM5.out.keep HW.out.2);have HB6 := hideIt (below_via HB5.out HW.out.2);clear HW HM5 HB5 HRX HRY H8 hltI hi;have HR1 := hideIt (blkK HXA.out HB6.out);have HR2 := hideIt (blkK HXB.out HB6.out);clear HXA HXB;have HD1 := hideIt (fun va vl W hm hf => HDA.out (plyM R) va vl W hm hf);have HD2 := hideIt (fun va vl W hm hf => HDB.out (doM (plyM R) qa).1 va vl W hm hf);have HD3 := hideIt (fun va vl W hm hf => HDB.out (plyM R) va vl W hm hf);have HD4 := hideIt (fun va vl W hm hf => HDA.out (doM (plyM R) qb).1 va vl W hm hf);clear HDA HDB HPL;generalize doM (doM (plyM R) qa).1 qb = Z2 at *;generalize doM (doM (plyM R) qb).1 qa = Z4 at *;generalize doM (plyM R) qa = Z1 at *;generalize doM (plyM R) qb = Z3 at *;generalize plyM R = M at *;obtain ⟨M1, A1⟩ := Z1;obtain ⟨M2, A2⟩ := Z2;obtain ⟨M3, A3⟩ := Z3;obtain ⟨M4, A4⟩ := Z4;simp only at g1 g2 g3 HD1 HD2 HD3 HD4;subst g1 g2 g3;obtain ⟨⟨p0, p1⟩, pf, pz⟩ := at2 HMB.out.box;obtain ⟨⟨r0, r1, r2, r3, r4, r5, r6, r7, r8, r9, r10⟩, rf, rz⟩ := at11 HR1.out
     go_wp2_with fail
     refine (HD1.out _ _ _ HMB.out.md.at_ (HFO.out _ HB6.out)).mono ?_;rintro e V ⟨a1, c1, b1, d1, f1, i1, j1, k1, rfl, HDO⟩;dsimp only;obtain ⟨n1, n2, n3⟩ := do_nw (Z := (M1, A1)) HB6.out HDO.out _ rfl;have HP := hideIt n1;have HU := hideIt n2;have HMC := hideIt (HMB.out.keep n3);have HS1 := hideIt (blkK HR1.out n3);have HS2 := hideIt (blkK HR2.out n3);have HB7 := hideIt (below_via HB6.out n3);have HNE := hideIt (Nat.ne_of_lt (Nat.lt_of_lt_of_le (Array.getElem?_eq_some_iff.1 HMB.out.box).1 HDO.out.2.size));have HPS := hideIt (Nat.le_trans HB6.out.size HDO.out.2.size);clear r0 r1 r2 r3 r4 r5 r6 r7 r8 r9 r10 rf rz p0 p1 pf pz;clear n1 n2 n3 HDO HMB HR1 HR2 HB6 HD1;unfold ansC at HP HU HMC HS1 HS2 HB7;simp only at HP HU HMC HS1 HS2 HB7
     go_upto_region 18 with fail
     generalize (World.alloc (World.alloc V _) (.cells #[.int .i64 A1.code, .int .i64 A1.num, .slice f1 A1.am.length i1, .slice j1 A1.fl.length k1] 36)) = W7 at *;generalize V.heap.size = P at *;obtain ⟨⟨p0, p1⟩, pf, pz⟩ := at2 HP.out.box;obtain ⟨⟨r0, r1, r2, r3, r4, r5, r6, r7, r8, r9, r10⟩, rf, rz⟩ := at11 HS2.out
     go_wp2_with fail
     refine (HD2.out _ _ _ HP.out.md.at_ (HFO.out _ HB7.out)).mono ?_;rintro e V ⟨a2, c2, b2, d2, f2, i2, j2, k2, rfl, HDO⟩;dsimp only;obtain ⟨n1, n2, n3, n4, n5, n6⟩ := do_re (Z := (M2, A2)) HP.out HB7.out HPS.out HDO.out _ rfl;have HP8 := hideIt n1;have HV := hideIt n2;have HB8 := hideIt n3;have HU8 := hideIt (n4 _ _ _ _ _ _ HU.out);have HMD := hideIt (n5 _ _ _ _ _ _ HNE.out HMC.out);have HT1 := hideIt (n6 _ _ HS1.out);have HT2 := hideIt (n6 _ _ HS2.out);have hpx := (HDO.out.2.block P (Array.getElem?_eq_some_iff.1 HP.out.box).1).trans HP.out.box;clear r0 r1 r2 r3 r4 r5 r6 r7 r8 r9 r10 rf rz;obtain ⟨⟨y0, y1⟩, yf, yz⟩ := at2 hpx;clear p0 p1 pf pz n1 n2 n3 n4 n5 n6 HDO HP HU HMC HS1 HS2 HB7 HD2 HPS hpx;simp only at HP8 HV HB8 HU8 HMD HT1 HT2
     go_upto_region 19 with fail
     unfold ansC at HP8 HV HB8 HU8 HMD HT1 HT2;clear y0 y1 yf yz;generalize (World.alloc (World.setCell (World.setCell V _ _) _ _) _) = W8 at *;generalize V.heap.size = Q2 at *;obtain ⟨⟨p0, p1⟩, pf, pz⟩ := at2 HMD.out.box;obtain ⟨⟨r0, r1, r2, r3, r4, r5, r6, r7, r8, r9, r10⟩, rf, rz⟩ := at11 HT2.out
     go_wp2_with fail
     refine (HD3.out _ _ _ HMD.out.md.at_ (HFO.out _ HB8.out)).mono ?_;rintro e V ⟨a3, c3, b3, d3, f3, i3, j3, k3, rfl, HDO⟩;dsimp only;obtain ⟨n1, n2, n3⟩ := do_nw (Z := (M3, A2)) HB8.out HDO.out _ rfl;have HQ := hideIt n1;have HY := hideIt n2;have HP9 := hideIt (HP8.out.keep n3);have HV9 := hideIt (HV.out.keep n3);have HU9 := hideIt (HU8.out.keep n3);have HS1 := hideIt (blkK HT1.out n3);have HB9 := hideIt (below_via HB8.out n3);have HNE2 := hideIt (Nat.ne_of_lt (Nat.lt_of_lt_of_le (Array.getElem?_eq_some_iff.1 HP8.out.box).1 HDO.out.2.size));have HPS := hideIt (Nat.le_trans HB8.out.size HDO.out.2.size);clear r0 r1 r2 r3 r4 r5 r6 r7 r8 r9 r10 rf rz p0 p1 pf pz;clear n1 n2 n3 HDO HMD HT1 HT2 HB8 HD3 HP8 HV HU8;unfold ansC at HQ HY HP9 HV9 HU9 HS1 HB9;simp only at HQ HY HP9 HV9 HU9 HS1 HB9
     go_upto_region 20 with fail
     generalize (World.alloc (World.alloc V _) (.cells #[.int .i64 A2.code, .int .i64 A2.num, .slice f3 A2.am.length i3, .slice j3 A2.fl.length k3] 36)) = W9 at *;generalize V.heap.size = P2 at *;obtain ⟨⟨p0, p1⟩, pf, pz⟩ := at2 HQ.out.box;obtain ⟨⟨r0, r1, r2, r3, r4, r5, r6, r7, r8, r9, r10⟩, rf, rz⟩ := at11 HS1.out
     go_wp2_with fail
     refine (HD4.out _ _ _ HQ.out.md.at_ (HFO.out _ HB9.out)).mono ?_;rintro e V ⟨a4, c4, b4, d4, f4, i4, j4, k4, rfl, HDO⟩;dsimp only;obtain ⟨n1, n2, n3, n4, n5, n6⟩ := do_re (Z := (M2, A1)) HQ.out HB9.out HPS.out HDO.out _ rfl;have HQA := hideIt n1;have HZ := hideIt n2;have HBA := hideIt n3;have HU := hideIt (n4 _ _ _ _ _ _ HU9.out);have HV := hideIt (n4 _ _ _ _ _ _ HV9.out);have HYA := hideIt (n4 _ _ _ _ _ _ HY.out);have HP := hideIt (n5 _ _ _ _ _ _ HNE2.out HP9.out);have hpx := (HDO.out.2.block P2 (Array.getElem?_eq_some_iff.1 HQ.out.box).1).trans HQ.out.box;clear r0 r1 r2 r3 r4 r5 r6 r7 r8 r9 r10 rf rz;obtain ⟨⟨y0, y1⟩, yf, yz⟩ := at2 hpx;clear p0 p1 pf pz n1 n2 n3 n4 n5 n6 HDO HP9 HU9 HV9 HY HQ HS1 HB9 HD4 HPS hpx;simp only at HQA HZ HBA HU HV HYA HP
     go_upto_region 21 with fail
     unfold ansC at HQA HZ HBA HU HV HYA HP;clear y0 y1 yf yz;generalize (World.alloc (World.setCell (World.setCell V _ _) _ _) _) = WA at *;generalize V.heap.size = Q4 at *;obtain ⟨⟨p0, p1⟩, pf, pz⟩ := at2 HP.out.box;obtain ⟨⟨s0, s1⟩, sf, sz⟩ := at2 HQA.out.box
     go_wp2_with fail
     refine (sameM_is _ _ _ _ M2 _ HP.out.md.at_ HQA.out.md.at_).mono ?_;rintro e WB ⟨rfl, hb⟩;dsimp only;have HBB := hideIt (below_via HBA.out hb);have HU1 := hideIt (HU.out.keep hb);have HZ1 := hideIt (HZ.out.keep hb);have HV1 := hideIt (HV.out.keep hb);have HY1 := hideIt (HYA.out.keep hb);clear p0 p1 pf pz s0 s1 sf sz hb HP HQA HU HZ HV HYA HBA;obtain ⟨⟨s0, s1, s2, s3⟩, sf, sz⟩ := at4 HU1.out.box;obtain ⟨⟨u0, u1, u2, u3⟩, uf, uz⟩ := at4 HZ1.out.box
     go_wp2_with fail
     refine (sameAn_is _ _ _ _ _ _ A1.am A1.fl _ HU1.out.amts HZ1.out.amts HU1.out.fils HZ1.out.fils).mono ?_;rintro e WC ⟨rfl, hb⟩;dsimp only;have HBC := hideIt (below_via HBB.out hb);have HV2 := hideIt (HV1.out.keep hb);have HY2 := hideIt (HY1.out.keep hb);clear s0 s1 s2 s3 sf sz u0 u1 u2 u3 uf uz hb HU1 HZ1 HV1 HY1 HBB;obtain ⟨⟨s0, s1, s2, s3⟩, sf, sz⟩ := at4 HV2.out.box;obtain ⟨⟨u0, u1, u2, u3⟩, uf, uz⟩ := at4 HY2.out.box
     go_wp2_with fail
     refine (sameAn_is _ _ _ _ _ _ A2.am A2.fl _ HV2.out.amts HY2.out.amts HV2.out.fils HY2.out.fils).mono ?_;rintro e WD ⟨rfl, hb⟩;dsimp only;have HBD := hideIt (below_via HBC.out hb);clear s0 s1 s2 s3 sf sz u0 u1 u2 u3 uf uz hb HV2 HY2 HBC
     go_wp2_with fail
     refine (HL.out _ HBD.out).mono ?_;rintro e WE ⟨rfl, hb⟩;have HF := hideIt (below_via HB0.out (below_via HBD.out hb));clear hb;go_wp2;go_ret
     exact ⟨rfl, HF.out⟩
end Go.Proofs.YtiinigifjdpicaaGreatDoor
