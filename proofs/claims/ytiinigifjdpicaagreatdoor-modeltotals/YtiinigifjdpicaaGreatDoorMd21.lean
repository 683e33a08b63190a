/- Texts of my own, laid together. -/
import Derived.Test.YtiinigifjdpicaaGreatDoorMd20
import Derived.BigRegion
import Derived.Deep.RegionHeld3
namespace Go.Proofs.YtiinigifjdpicaaGreatDoor
open Go.RowKit
set_option linter.all false
set_option maxRecDepth 100000 in
set_option maxHeartbeats 64000000 in
theorem totals_walk (v : Value) (l : List ReqV) (w : World) (h : Reqs w v l) (hF : Se.Forms w) : Calls Tryz.prog 7 #[v] w fun e w' => e = .returned (.bool true) ∧ Below w.heap.size w w' := by
 have H0 := hideIt (mnew_is w);have HQ := hideIt (fun W (hW : Below w.heap.size w W) => h.keep hW);have H1 := hideIt (fun W (hW : Below w.heap.size w W) => few60_is v l W (h.keep hW));have HFO := hideIt (fun W (hW : Below w.heap.size w W) => hF.keep hW);have HL := hideIt (fun W (hW : Below w.heap.size w W) => live_is W (hF.keep hW));have hlen : (l.take 60).length ≤ 60 := by rw [List.length_take]; omega
 have HINV : Hid (∀ t, Inv 100000000 (plyM ((l.take 60).take t))) := fun t => inv_ply _ (by rw [List.length_take]; omega)
 clear h hF hlen
 go_enter Tryz.func7, Tryz.ntmps7
 go_wp2_with fail
 refine H0.out.mono ?_;rintro e w1 ⟨a, c, b, d, rfl, ho, hb⟩;dsimp only;have hb2 := below2 w1 (.cells #[.slice a newM.a.length c, .slice b newM.l.length d] 30) (.cells #[.int .i64 0, .int .i64 0, .int .i64 0, .int .i64 0] 51);obtain ⟨t1, t2, t3⟩ := two_heap w1 (.cells #[.slice a newM.a.length c, .slice b newM.l.length d] 30) (.cells #[.int .i64 0, .int .i64 0, .int .i64 0, .int .i64 0] 51);have hz0 : (#[.int .i64 0, .int .i64 0, .int .i64 0, .int .i64 0] : Array Value) = Lg.shA (totS newM) := by
  unfold Lg.shA totS;rw [tot_new, tot_new, tot_new, tot_new]
 rw [hz0] at hb2 t1 t2 t3;have hMB : Hid (MB w.heap.size w1.heap.size newM a c b d _) := ⟨t1, ho.keep hb2⟩;have hIN := hideIt t2;have hB2 := hideIt (below_via hb hb2);have HK := hideIt hb.size;have HJL : Hid (w.heap.size ≤ w1.heap.size + 1) := Nat.le_succ_of_le hb.size
 go_upto_region 3 with fail
 try rw [hz0]
 clear ho hb hb2 t1 t2 t3 H0 hz0;generalize (World.alloc (World.alloc w1 (.cells #[.slice a newM.a.length c, .slice b newM.l.length d] 30)) (.cells (Lg.shA (totS newM)) 51)) = w2 at *;generalize w1.heap.size + 1 = J at *;generalize w1.heap.size = K at *
 go_wp2_with fail
 refine (H1.out _ hB2.out).mono ?_;rintro e w3 ⟨⟨v', rfl, hv⟩, rfl⟩;dsimp only;have HR := hideIt (fun W (hW : Below w.heap.size w W) => hv W (HQ.out W hW));clear hv HQ H1;generalize l.take 60 = R at *;have h8 := (HR.out _ hB2.out).1;obtain ⟨ra, rc, rfl⟩ := (HR.out _ hB2.out).slice;have hcap := (HR.out _ hB2.out).cap;have hmx : maxLen = 9223372036854775807 := by decide
 rw [hmx] at hcap;have H8 := hideIt (And.intro h8 hcap);clear h8 hcap hmx
 go_upto_region 5 with fail
 go_loopw [5] (fun v wr => ∃ (t : Nat) (a : Option Addr) (c : Nat) (b : Option Addr) (d : Nat), v = .int .i64 t ∧ t ≤ R.length ∧ Hid (MB w.heap.size K (plyM (R.take t)) a c b d wr ∧ wr.heap[J]? = some (.cells (Lg.shA (totS (plyM (R.take t)))) 51 (0, 0)) ∧ Below w.heap.size w wr)) (fun v _ => R.length - (intOf v).toNat)
 case atStart => exact ⟨0, a, c, b, d, rfl, Nat.zero_le _, hideIt ⟨by rw [List.take_zero]; exact hMB.out, by rw [List.take_zero]; exact hIN.out, hB2.out⟩⟩
 case round =>
  clear hMB hB2 hIN;generalize (Value.agg #[.slice a newM.a.length c, .slice b newM.l.length d]) = u5 at *;clear a c b d;obtain ⟨t, a, c, b, d, rfl, ht, HX⟩ := hrel;have h8 := H8.out
  by_cases hlt : t < R.length
  ·have hltI : (t : Int) < (R.length : Int) := by omega
   have ht0 : (0 : Int) ≤ (t : Int) := by omega
   have hrq := HR.out _ HX.out.2.2;obtain ⟨_, ra', rc', e, _, hr⟩ := hrq;simp only [Value.slice.injEq] at e;obtain ⟨rfl, _, rfl⟩ := e;obtain ⟨rb, off, rfl, hrl, hrc⟩ := hr (by omega);have HPS := hideIt (ply_step R t hlt);have HTS := hideIt (tot_step (r := R[t]) (HINV.out t));have HRJ := hideIt (fun (h0 : (doM (plyM (R.take t)) R[t]).2.code ≠ 0) => (do_rej h0).1);have HCD : Hid (∀ W, Below wr.heap.size wr W → Calls Tryz.prog 10 #[.agg #[.slice a (plyM (R.take t)).a.length c, .slice b (plyM (R.take t)).l.length d], .agg (Se.reqC R[t])] W (DoBack (doM (plyM (R.take t)) R[t]) W)) := fun W hW => do_is _ _ _ _ W (HX.out.1.keep hW).md.at_ (HFO.out W (below_via HX.out.2.2 hW))
   have HMK := hideIt HX.out.1;have HIK := hideIt HX.out.2.1;have HBW := hideIt HX.out.2.2;have hS0 : Hid (∀ W, Below w.heap.size w W → W.cell? ⟨rb, off + t * 11, none⟩ = some (.int .i64 (R[t]).kind) ∧ W.cell? ⟨rb, off + t * 11 + 1, none⟩ = some (.int .i64 (R[t]).acct) ∧ W.cell? ⟨rb, off + t * 11 + 2, none⟩ = some (.int .i64 (R[t]).lane) ∧ W.cell? ⟨rb, off + t * 11 + 3, none⟩ = some (.int .i64 (R[t]).asset) ∧ W.cell? ⟨rb, off + t * 11 + 4, none⟩ = some (.int .i64 (R[t]).side) ∧ W.cell? ⟨rb, off + t * 11 + 5, none⟩ = some (.int .i64 (R[t]).price) ∧ W.cell? ⟨rb, off + t * 11 + 6, none⟩ = some (.int .i64 (R[t]).n) ∧ W.cell? ⟨rb, off + t * 11 + 7, none⟩ = some (.bool (R[t]).now) ∧ W.cell? ⟨rb, off + t * 11 + 8, none⟩ = some (.int .i64 (R[t]).key.1) ∧ W.cell? ⟨rb, off + t * 11 + 9, none⟩ = some (.int .i64 (R[t]).key.2) ∧ W.cell? ⟨rb, off + t * 11 + 10, none⟩ = some (.int .i64 (R[t]).dst)) := by
    intro W hW;obtain ⟨_, ra', rc', e, _, hr⟩ := HR.out _ hW;simp only [Value.slice.injEq] at e;obtain ⟨e1, _, rfl⟩ := e;obtain ⟨rb', off', e2, _, hrc⟩ := hr (by omega);rw [← e1] at e2;simp only [Option.some.injEq, Addr.mk.injEq] at e2;obtain ⟨rfl, rfl, _⟩ := e2;have q := fun j (hj : j < 11) => (hrc (t * 11 + j) (by omega)).trans (celC_get reqEK R t hlt j hj)
    simp only [← Nat.add_assoc] at q
    exact ⟨q 0 (by omega), q 1 (by omega), q 2 (by omega), q 3 (by omega), q 4 (by omega), q 5 (by omega), q 6 (by omega), q 7 (by omega), q 8 (by omega), q 9 (by omega), q 10 (by omega)⟩
   clear HX hrc hr;generalize doM (plyM (R.take t)) R[t] = Z at *;generalize plyM (R.take t) = M at *;generalize R[t] = rq at *;unfold Se.reqC at HCD;have HC : Hid (∀ W, Below wr.heap.size wr W → (W.cell? ⟨K, 0, none⟩ = some (.slice a M.a.length c) ∧ W.cell? ⟨K, 1, none⟩ = some (.slice b M.l.length d)) ∧ W.cell? ⟨rb, off + t * 11, none⟩ = some (.int .i64 rq.kind) ∧ W.cell? ⟨rb, off + t * 11 + 1, none⟩ = some (.int .i64 rq.acct) ∧ W.cell? ⟨rb, off + t * 11 + 2, none⟩ = some (.int .i64 rq.lane) ∧ W.cell? ⟨rb, off + t * 11 + 3, none⟩ = some (.int .i64 rq.asset) ∧ W.cell? ⟨rb, off + t * 11 + 4, none⟩ = some (.int .i64 rq.side) ∧ W.cell? ⟨rb, off + t * 11 + 5, none⟩ = some (.int .i64 rq.price) ∧ W.cell? ⟨rb, off + t * 11 + 6, none⟩ = some (.int .i64 rq.n) ∧ W.cell? ⟨rb, off + t * 11 + 7, none⟩ = some (.bool rq.now) ∧ W.cell? ⟨rb, off + t * 11 + 8, none⟩ = some (.int .i64 rq.key.1) ∧ W.cell? ⟨rb, off + t * 11 + 9, none⟩ = some (.int .i64 rq.key.2) ∧ W.cell? ⟨rb, off + t * 11 + 10, none⟩ = some (.int .i64 rq.dst)) := fun W hW => ⟨(at2 (blkK HMK.out.box hW)).1, hS0.out W (below_via HBW.out hW)⟩
   have hrw : rb < w.heap.size := by
    obtain ⟨_, ra', rc', e, _, hr⟩ := HR.out w (Below.refl _ _);simp only [Value.slice.injEq] at e;obtain ⟨e1, _, rfl⟩ := e;obtain ⟨rb', off', e2, h9, _⟩ := hr (by omega);rw [← e1] at e2;simp only [Option.some.injEq, Addr.mk.injEq] at e2;omega
   have HRL := hideIt hrw;clear hrl hrw
   go_upto_region 7 with fail
   go_cut [6, 7] from 19 to 27 (fun x y wx => ∃ P Q a2 c2 b2 d2 f1 f2 g1 g2, x = .pointer (some ⟨P, 0, none⟩) ∧ y = .pointer (some ⟨Q, 0, none⟩) ∧ Hid (RG wr (some (P, .slice a2 Z.1.a.length c2, .slice b2 Z.1.l.length d2)) (some (Q, .int .i64 Z.2.code, .int .i64 Z.2.num, .slice f1 Z.2.am.length f2, .slice g1 Z.2.fl.length g2)) (some (.slice a2 Z.1.a.length c2, .slice b2 Z.1.l.length d2, Z.1)) wx))
   case first =>
    clear HTS HRJ HPS HMK HIK hS0;refine wp_region_held_drew (S := fun W => Below wr.heap.size wr W) (by rfl) (Below.refl _ _).drew (fun hHeld => ?_);have HG : Hid (RG wr none none none wr.drew) := ⟨(Below.refl _ _).drew, (fun _ _ _ e => by cases e), (fun _ _ _ _ _ e => by cases e), (fun _ _ _ e => by cases e)⟩;generalize wr.drew = X0 at *;refine wpAnyH_take (i := 1) (oi := ⟨some 21, _, _, _, _, _⟩) (v := ?_) rfl (by kernel_rfl) (by kernel_rfl) (by kernel_rfl) (fun _ _ _ h => h) (Or.inl ⟨by rfl, ?_⟩) (by assumption) ?_
    rotate_left
    ·intro w5 hSw
     (try dsimp only at hSw)
     go_simp
     (try with_reducible rfl)
    try simp only [Act.put, List.setIfInBounds_toArray, List.set_cons_zero, List.set_cons_succ]
    refine wpAnyH_take (i := 2) (oi := ⟨some 22, _, _, _, _, _⟩) (v := ?_) rfl (by kernel_rfl) (by kernel_rfl) (by kernel_rfl) (fun _ _ _ h => h) (Or.inl ⟨by rfl, ?_⟩) (by assumption) ?_
    rotate_left
    ·intro w5 hSw
     (try dsimp only at hSw)
     go_simp
     (try with_reducible rfl)
    try simp only [Act.put, List.setIfInBounds_toArray, List.set_cons_zero, List.set_cons_succ]
    refine wpAnyH_take (i := 3) (oi := ⟨some 23, _, _, _, _, _⟩) (v := ?_) rfl (by kernel_rfl) (by kernel_rfl) (by kernel_rfl) (fun _ _ _ h => h) (Or.inl ⟨by rfl, ?_⟩) (by assumption) ?_
    rotate_left
    ·intro w5 hSw
     (try dsimp only at hSw)
     go_simp
     (try with_reducible rfl)
    try simp only [Act.put, List.setIfInBounds_toArray, List.set_cons_zero, List.set_cons_succ]
    refine wpAnyH_take (i := 0) (oi := ⟨some 20, _, _, _, _, _⟩) (v := ?_) rfl (by kernel_rfl) (by kernel_rfl) (by kernel_rfl) (fun _ _ _ h => h) (Or.inl ⟨by rfl, ?_⟩) (by assumption) ?_
    rotate_left
    ·intro w5 hSw;obtain ⟨⟨m0, m1⟩, y0, y1, y2, y3, y4, y5, y6, y7, y8, y9, y10⟩ := HC.out w5 hSw;go_simp
     (try with_reducible rfl)
    try simp only [Act.put, List.setIfInBounds_toArray, List.set_cons_zero, List.set_cons_succ]
    refine wpAnyH_take (i := 4) (oi := ⟨some 24, _, _, _, _, _⟩) (v := ?_) rfl (by kernel_rfl) (by kernel_rfl) (by kernel_rfl) (fun _ _ _ h => h) (Or.inl ⟨by rfl, ?_⟩) (by assumption) ?_
    rotate_left
    ·intro w5 hSw;obtain ⟨⟨m0, m1⟩, y0, y1, y2, y3, y4, y5, y6, y7, y8, y9, y10⟩ := HC.out w5 hSw;go_simp
     (try with_reducible rfl)
    try simp only [Act.put, List.setIfInBounds_toArray, List.set_cons_zero, List.set_cons_succ]
    refine wpAnyH_ready (rs := [5, 9, 10]) (by kernel_rfl) (by simp) ?_;refine AllReadyH.cons (o := ⟨some 25, _, _, _, _, _⟩) rfl (fun Kx hK => ?_) (AllReadyH.cons (o := ⟨some 6, _, _, _, _, _⟩) rfl (fun Kx hK => ?_) (AllReadyH.cons (o := ⟨some 7, _, _, _, _, _⟩) rfl (fun Kx hK => ?_) AllReadyH.nil))
    ·go_simp
     go_at_call 10
     refine (HCD.out _ HG.out.bel).mono ?_;rintro e X1 ⟨a2, c2, b2, d2, f1, f2, g1, g2, rfl, HDO⟩;replace HG := hideIt (HG.out.call HDO.out.1.m HDO.out.2);clear HDO;refine hK.out _ _ HG.out.bel (fun hHeld => ?_);clear hK Kx
     try simp only [Act.put, List.setIfInBounds_toArray, List.set_cons_zero, List.set_cons_succ]
     refine wpAnyH_take (i := 6) (oi := ⟨some 19, _, _, _, _, _⟩) (v := ?_) rfl (by kernel_rfl) (by kernel_rfl) (by kernel_rfl) (fun _ _ _ h => h) (Or.inl ⟨by rfl, ?_⟩) (by assumption) ?_
     rotate_left
     ·intro w5 hSw
      (try dsimp only at hSw)
      go_simp
      (try with_reducible rfl)
     try simp only [Act.put, List.setIfInBounds_toArray, List.set_cons_zero, List.set_cons_succ]
     refine wpAnyH_take (i := 7) (oi := ⟨some 26, _, _, _, _, _⟩) (v := ?_) rfl (by kernel_rfl) (by kernel_rfl) (by kernel_rfl) (fun _ _ _ h => h) (Or.inl ⟨by rfl, ?_⟩) (by assumption) ?_
     rotate_left
     ·intro w5 hSw
      (try dsimp only at hSw)
      go_simp
      (try with_reducible rfl)
     try simp only [Act.put, List.setIfInBounds_toArray, List.set_cons_zero, List.set_cons_succ]
     refine wpAnyH_take (i := 8) (oi := ⟨some 27, _, _, _, _, _⟩) (v := ?_) rfl (by kernel_rfl) (by kernel_rfl) (by kernel_rfl) (fun _ _ _ h => h) (Or.inl ⟨by rfl, ?_⟩) (by assumption) ?_
     rotate_left
     ·intro w5 hSw
      (try dsimp only at hSw)
      go_simp
      (try with_reducible rfl)
     try simp only [Act.put, List.setIfInBounds_toArray, List.set_cons_zero, List.set_cons_succ]
     refine wpAnyH_ready (rs := [9, 10]) (by kernel_rfl) (by simp) ?_;refine AllReadyH.cons (o := ⟨some 6, _, _, _, _, _⟩) rfl (fun Kx hK => ?_) (AllReadyH.cons (o := ⟨some 7, _, _, _, _, _⟩) rfl (fun Kx hK => ?_) AllReadyH.nil)
     ·go_simp;replace HG := hideIt HG.out.newP;refine hK.out _ _ HG.out.bel (fun hHeld => ?_);clear hK Kx
      try simp only [Act.put, List.setIfInBounds_toArray, List.set_cons_zero, List.set_cons_succ]
      generalize X1.heap.size = P at *;generalize X1.alloc (.cells #[.slice none 0 0, .slice none 0 0] 30) = X2 at *;refine wpAnyH_ready (rs := [10]) (by kernel_rfl) (by simp) ?_;refine AllReadyH.cons (o := ⟨some 7, _, _, _, _, _⟩) rfl (fun Kx hK => ?_) AllReadyH.nil;go_simp;replace HG := hideIt HG.out.newQ;refine hK.out _ _ HG.out.bel (fun hHeld => ?_);clear hK Kx
      try simp only [Act.put, List.setIfInBounds_toArray, List.set_cons_zero, List.set_cons_succ]
      generalize X2.heap.size = Q at *;generalize X2.alloc (.cells #[.int .i64 0, .int .i64 0, .slice none 0 0, .slice none 0 0] 36) = X3 at *;refine wpAnyH_ready (rs := [11]) (by kernel_rfl) (by simp) ?_;refine AllReadyH.cons (o := ⟨none, _, _, _, _, _⟩) rfl (fun Kx hK => ?_) AllReadyH.nil;obtain ⟨⟨y0, y1⟩, yf, yz⟩ := at2 (HG.out.p _ _ _ rfl).2;go_simp;replace HG := hideIt (HG.out.stP (.slice a2 Z.1.a.length c2) (.slice b2 Z.1.l.length d2));refine hK.out _ _ HG.out.bel (fun hHeld => ?_);clear hK Kx y0 y1 yf yz
      try simp only [Act.put, List.setIfInBounds_toArray, List.set_cons_zero, List.set_cons_succ]
      generalize World.setCell (World.setCell X3 _ _) _ _ = X4 at *;refine wpAnyH_ready (rs := [12]) (by kernel_rfl) (by simp) ?_;refine AllReadyH.cons (o := ⟨none, _, _, _, _, _⟩) rfl (fun Kx hK => ?_) AllReadyH.nil;obtain ⟨⟨y0, y1, y2, y3⟩, yf, yz⟩ := at4 (HG.out.q _ _ _ _ _ rfl).2;go_simp;replace HG := hideIt (HG.out.stQ (.int .i64 Z.2.code) (.int .i64 Z.2.num) (.slice f1 Z.2.am.length f2) (.slice g1 Z.2.fl.length g2));refine hK.out _ _ HG.out.bel (fun hHeld => ?_);clear hK Kx y0 y1 y2 y3 yf yz
      try simp only [Act.put, List.setIfInBounds_toArray, List.set_cons_zero, List.set_cons_succ]
      generalize World.setCell (World.setCell (World.setCell (World.setCell X4 _ _) _ _) _ _) _ _ = X5 at *;refine wpAnyH_done (by kernel_rfl) ?_ _
      go_wp2_with fail
      go_meet
      exact ⟨P, Q, a2, c2, b2, d2, f1, f2, g1, g2, rfl, rfl, HG⟩
     ·go_simp;replace HG := hideIt HG.out.newQ;refine hK.out _ _ HG.out.bel (fun hHeld => ?_);clear hK Kx
      try simp only [Act.put, List.setIfInBounds_toArray, List.set_cons_zero, List.set_cons_succ]
      generalize X1.heap.size = Q at *;generalize X1.alloc (.cells #[.int .i64 0, .int .i64 0, .slice none 0 0, .slice none 0 0] 36) = X2 at *;refine wpAnyH_ready (rs := [9]) (by kernel_rfl) (by simp) ?_;refine AllReadyH.cons (o := ⟨some 6, _, _, _, _, _⟩) rfl (fun Kx hK => ?_) AllReadyH.nil;go_simp;replace HG := hideIt HG.out.newP;refine hK.out _ _ HG.out.bel (fun hHeld => ?_);clear hK Kx
      try simp only [Act.put, List.setIfInBounds_toArray, List.set_cons_zero, List.set_cons_succ]
      generalize X2.heap.size = P at *;generalize X2.alloc (.cells #[.slice none 0 0, .slice none 0 0] 30) = X3 at *;refine wpAnyH_ready (rs := [11]) (by kernel_rfl) (by simp) ?_;refine AllReadyH.cons (o := ⟨none, _, _, _, _, _⟩) rfl (fun Kx hK => ?_) AllReadyH.nil;obtain ⟨⟨y0, y1⟩, yf, yz⟩ := at2 (HG.out.p _ _ _ rfl).2;go_simp;replace HG := hideIt (HG.out.stP (.slice a2 Z.1.a.length c2) (.slice b2 Z.1.l.length d2));refine hK.out _ _ HG.out.bel (fun hHeld => ?_);clear hK Kx y0 y1 yf yz
      try simp only [Act.put, List.setIfInBounds_toArray, List.set_cons_zero, List.set_cons_succ]
      generalize World.setCell (World.setCell X3 _ _) _ _ = X4 at *;refine wpAnyH_ready (rs := [12]) (by kernel_rfl) (by simp) ?_;refine AllReadyH.cons (o := ⟨none, _, _, _, _, _⟩) rfl (fun Kx hK => ?_) AllReadyH.nil;obtain ⟨⟨y0, y1, y2, y3⟩, yf, yz⟩ := at4 (HG.out.q _ _ _ _ _ rfl).2;go_simp;replace HG := hideIt (HG.out.stQ (.int .i64 Z.2.code) (.int .i64 Z.2.num) (.slice f1 Z.2.am.length f2) (.slice g1 Z.2.fl.length g2));refine hK.out _ _ HG.out.bel (fun hHeld => ?_);clear hK Kx y0 y1 y2 y3 yf yz
      try simp only [Act.put, List.setIfInBounds_toArray, List.set_cons_zero, List.set_cons_succ]
      generalize World.setCell (World.setCell (World.setCell (World.setCell X4 _ _) _ _) _ _) _ _ = X5 at *;refine wpAnyH_done (by kernel_rfl) ?_ _
      go_wp2_with fail
      go_meet
      exact ⟨P, Q, a2, c2, b2, d2, f1, f2, g1, g2, rfl, rfl, HG⟩
    ·go_simp;replace HG := hideIt HG.out.newP;refine hK.out _ _ HG.out.bel (fun hHeld => ?_);clear hK Kx
     try simp only [Act.put, List.setIfInBounds_toArray, List.set_cons_zero, List.set_cons_succ]
     generalize X0.heap.size = P at *;generalize X0.alloc (.cells #[.slice none 0 0, .slice none 0 0] 30) = X1 at *;refine wpAnyH_ready (rs := [5, 10]) (by kernel_rfl) (by simp) ?_;refine AllReadyH.cons (o := ⟨some 25, _, _, _, _, _⟩) rfl (fun Kx hK => ?_) (AllReadyH.cons (o := ⟨some 7, _, _, _, _, _⟩) rfl (fun Kx hK => ?_) AllReadyH.nil)
     ·go_simp
      go_at_call 10
      refine (HCD.out _ HG.out.bel).mono ?_;rintro e X2 ⟨a2, c2, b2, d2, f1, f2, g1, g2, rfl, HDO⟩;replace HG := hideIt (HG.out.call HDO.out.1.m HDO.out.2);clear HDO;refine hK.out _ _ HG.out.bel (fun hHeld => ?_);clear hK Kx
      try simp only [Act.put, List.setIfInBounds_toArray, List.set_cons_zero, List.set_cons_succ]
      refine wpAnyH_take (i := 6) (oi := ⟨some 19, _, _, _, _, _⟩) (v := ?_) rfl (by kernel_rfl) (by kernel_rfl) (by kernel_rfl) (fun _ _ _ h => h) (Or.inl ⟨by rfl, ?_⟩) (by assumption) ?_
      rotate_left
      ·intro w5 hSw
       (try dsimp only at hSw)
       go_simp
       (try with_reducible rfl)
      try simp only [Act.put, List.setIfInBounds_toArray, List.set_cons_zero, List.set_cons_succ]
      refine wpAnyH_take (i := 7) (oi := ⟨some 26, _, _, _, _, _⟩) (v := ?_) rfl (by kernel_rfl) (by kernel_rfl) (by kernel_rfl) (fun _ _ _ h => h) (Or.inl ⟨by rfl, ?_⟩) (by assumption) ?_
      rotate_left
      ·intro w5 hSw
       (try dsimp only at hSw)
       go_simp
       (try with_reducible rfl)
      try simp only [Act.put, List.setIfInBounds_toArray, List.set_cons_zero, List.set_cons_succ]
      refine wpAnyH_take (i := 8) (oi := ⟨some 27, _, _, _, _, _⟩) (v := ?_) rfl (by kernel_rfl) (by kernel_rfl) (by kernel_rfl) (fun _ _ _ h => h) (Or.inl ⟨by rfl, ?_⟩) (by assumption) ?_
      rotate_left
      ·intro w5 hSw
       (try dsimp only at hSw)
       go_simp
       (try with_reducible rfl)
      try simp only [Act.put, List.setIfInBounds_toArray, List.set_cons_zero, List.set_cons_succ]
      refine wpAnyH_ready (rs := [10]) (by kernel_rfl) (by simp) ?_;refine AllReadyH.cons (o := ⟨some 7, _, _, _, _, _⟩) rfl (fun Kx hK => ?_) AllReadyH.nil;go_simp;replace HG := hideIt HG.out.newQ;refine hK.out _ _ HG.out.bel (fun hHeld => ?_);clear hK Kx
      try simp only [Act.put, List.setIfInBounds_toArray, List.set_cons_zero, List.set_cons_succ]
      generalize X2.heap.size = Q at *;generalize X2.alloc (.cells #[.int .i64 0, .int .i64 0, .slice none 0 0, .slice none 0 0] 36) = X3 at *;refine wpAnyH_ready (rs := [11]) (by kernel_rfl) (by simp) ?_;refine AllReadyH.cons (o := ⟨none, _, _, _, _, _⟩) rfl (fun Kx hK => ?_) AllReadyH.nil;obtain ⟨⟨y0, y1⟩, yf, yz⟩ := at2 (HG.out.p _ _ _ rfl).2;go_simp;replace HG := hideIt (HG.out.stP (.slice a2 Z.1.a.length c2) (.slice b2 Z.1.l.length d2));refine hK.out _ _ HG.out.bel (fun hHeld => ?_);clear hK Kx y0 y1 yf yz
      try simp only [Act.put, List.setIfInBounds_toArray, List.set_cons_zero, List.set_cons_succ]
      generalize World.setCell (World.setCell X3 _ _) _ _ = X4 at *;refine wpAnyH_ready (rs := [12]) (by kernel_rfl) (by simp) ?_;refine AllReadyH.cons (o := ⟨none, _, _, _, _, _⟩) rfl (fun Kx hK => ?_) AllReadyH.nil;obtain ⟨⟨y0, y1, y2, y3⟩, yf, yz⟩ := at4 (HG.out.q _ _ _ _ _ rfl).2;go_simp;replace HG := hideIt (HG.out.stQ (.int .i64 Z.2.code) (.int .i64 Z.2.num) (.slice f1 Z.2.am.length f2) (.slice g1 Z.2.fl.length g2));refine hK.out _ _ HG.out.bel (fun hHeld => ?_);clear hK Kx y0 y1 y2 y3 yf yz
      try simp only [Act.put, List.setIfInBounds_toArray, List.set_cons_zero, List.set_cons_succ]
      generalize World.setCell (World.setCell (World.setCell (World.setCell X4 _ _) _ _) _ _) _ _ = X5 at *;refine wpAnyH_done (by kernel_rfl) ?_ _
      go_wp2_with fail
      go_meet
      exact ⟨P, Q, a2, c2, b2, d2, f1, f2, g1, g2, rfl, rfl, HG⟩
     ·go_simp;replace HG := hideIt HG.out.newQ;refine hK.out _ _ HG.out.bel (fun hHeld => ?_);clear hK Kx
      try simp only [Act.put, List.setIfInBounds_toArray, List.set_cons_zero, List.set_cons_succ]
      generalize X1.heap.size = Q at *;generalize X1.alloc (.cells #[.int .i64 0, .int .i64 0, .slice none 0 0, .slice none 0 0] 36) = X2 at *;refine wpAnyH_ready (rs := [5]) (by kernel_rfl) (by simp) ?_;refine AllReadyH.cons (o := ⟨some 25, _, _, _, _, _⟩) rfl (fun Kx hK => ?_) AllReadyH.nil;go_simp
      go_at_call 10
      refine (HCD.out _ HG.out.bel).mono ?_;rintro e X3 ⟨a2, c2, b2, d2, f1, f2, g1, g2, rfl, HDO⟩;replace HG := hideIt (HG.out.call HDO.out.1.m HDO.out.2);clear HDO;refine hK.out _ _ HG.out.bel (fun hHeld => ?_);clear hK Kx
      try simp only [Act.put, List.setIfInBounds_toArray, List.set_cons_zero, List.set_cons_succ]
      refine wpAnyH_take (i := 6) (oi := ⟨some 19, _, _, _, _, _⟩) (v := ?_) rfl (by kernel_rfl) (by kernel_rfl) (by kernel_rfl) (fun _ _ _ h => h) (Or.inl ⟨by rfl, ?_⟩) (by assumption) ?_
      rotate_left
      ·intro w5 hSw
       (try dsimp only at hSw)
       go_simp
       (try with_reducible rfl)
      try simp only [Act.put, List.setIfInBounds_toArray, List.set_cons_zero, List.set_cons_succ]
      refine wpAnyH_take (i := 7) (oi := ⟨some 26, _, _, _, _, _⟩) (v := ?_) rfl (by kernel_rfl) (by kernel_rfl) (by kernel_rfl) (fun _ _ _ h => h) (Or.inl ⟨by rfl, ?_⟩) (by assumption) ?_
      rotate_left
      ·intro w5 hSw
       (try dsimp only at hSw)
       go_simp
       (try with_reducible rfl)
      try simp only [Act.put, List.setIfInBounds_toArray, List.set_cons_zero, List.set_cons_succ]
      refine wpAnyH_take (i := 8) (oi := ⟨some 27, _, _, _, _, _⟩) (v := ?_) rfl (by kernel_rfl) (by kernel_rfl) (by kernel_rfl) (fun _ _ _ h => h) (Or.inl ⟨by rfl, ?_⟩) (by assumption) ?_
      rotate_left
      ·intro w5 hSw
       (try dsimp only at hSw)
       go_simp
       (try with_reducible rfl)
      try simp only [Act.put, List.setIfInBounds_toArray, List.set_cons_zero, List.set_cons_succ]
      refine wpAnyH_ready (rs := [11]) (by kernel_rfl) (by simp) ?_;refine AllReadyH.cons (o := ⟨none, _, _, _, _, _⟩) rfl (fun Kx hK => ?_) AllReadyH.nil;obtain ⟨⟨y0, y1⟩, yf, yz⟩ := at2 (HG.out.p _ _ _ rfl).2;go_simp;replace HG := hideIt (HG.out.stP (.slice a2 Z.1.a.length c2) (.slice b2 Z.1.l.length d2));refine hK.out _ _ HG.out.bel (fun hHeld => ?_);clear hK Kx y0 y1 yf yz
      try simp only [Act.put, List.setIfInBounds_toArray, List.set_cons_zero, List.set_cons_succ]
      generalize World.setCell (World.setCell X3 _ _) _ _ = X4 at *;refine wpAnyH_ready (rs := [12]) (by kernel_rfl) (by simp) ?_;refine AllReadyH.cons (o := ⟨none, _, _, _, _, _⟩) rfl (fun Kx hK => ?_) AllReadyH.nil;obtain ⟨⟨y0, y1, y2, y3⟩, yf, yz⟩ := at4 (HG.out.q _ _ _ _ _ rfl).2;go_simp;replace HG := hideIt (HG.out.stQ (.int .i64 Z.2.code) (.int .i64 Z.2.num) (.slice f1 Z.2.am.length f2) (.slice g1 Z.2.fl.length g2));refine hK.out _ _ HG.out.bel (fun hHeld => ?_);clear hK Kx y0 y1 y2 y3 yf yz
      try simp only [Act.put, List.setIfInBounds_toArray, List.set_cons_zero, List.set_cons_succ]
      generalize World.setCell (World.setCell (World.setCell (World.setCell X4 _ _) _ _) _ _) _ _ = X5 at *;refine wpAnyH_done (by kernel_rfl) ?_ _
      go_wp2_with fail
      go_meet
      exact ⟨P, Q, a2, c2, b2, d2, f1, f2, g1, g2, rfl, rfl, HG⟩
    ·go_simp;replace HG := hideIt HG.out.newQ;refine hK.out _ _ HG.out.bel (fun hHeld => ?_);clear hK Kx
     try simp only [Act.put, List.setIfInBounds_toArray, List.set_cons_zero, List.set_cons_succ]
     generalize X0.heap.size = Q at *;generalize X0.alloc (.cells #[.int .i64 0, .int .i64 0, .slice none 0 0, .slice none 0 0] 36) = X1 at *;refine wpAnyH_ready (rs := [5, 9]) (by kernel_rfl) (by simp) ?_;refine AllReadyH.cons (o := ⟨some 25, _, _, _, _, _⟩) rfl (fun Kx hK => ?_) (AllReadyH.cons (o := ⟨some 6, _, _, _, _, _⟩) rfl (fun Kx hK => ?_) AllReadyH.nil)
     ·go_simp
      go_at_call 10
      refine (HCD.out _ HG.out.bel).mono ?_;rintro e X2 ⟨a2, c2, b2, d2, f1, f2, g1, g2, rfl, HDO⟩;replace HG := hideIt (HG.out.call HDO.out.1.m HDO.out.2);clear HDO;refine hK.out _ _ HG.out.bel (fun hHeld => ?_);clear hK Kx
      try simp only [Act.put, List.setIfInBounds_toArray, List.set_cons_zero, List.set_cons_succ]
      refine wpAnyH_take (i := 6) (oi := ⟨some 19, _, _, _, _, _⟩) (v := ?_) rfl (by kernel_rfl) (by kernel_rfl) (by kernel_rfl) (fun _ _ _ h => h) (Or.inl ⟨by rfl, ?_⟩) (by assumption) ?_
      rotate_left
      ·intro w5 hSw
       (try dsimp only at hSw)
       go_simp
       (try with_reducible rfl)
      try simp only [Act.put, List.setIfInBounds_toArray, List.set_cons_zero, List.set_cons_succ]
      refine wpAnyH_take (i := 7) (oi := ⟨some 26, _, _, _, _, _⟩) (v := ?_) rfl (by kernel_rfl) (by kernel_rfl) (by kernel_rfl) (fun _ _ _ h => h) (Or.inl ⟨by rfl, ?_⟩) (by assumption) ?_
      rotate_left
      ·intro w5 hSw
       (try dsimp only at hSw)
       go_simp
       (try with_reducible rfl)
      try simp only [Act.put, List.setIfInBounds_toArray, List.set_cons_zero, List.set_cons_succ]
      refine wpAnyH_take (i := 8) (oi := ⟨some 27, _, _, _, _, _⟩) (v := ?_) rfl (by kernel_rfl) (by kernel_rfl) (by kernel_rfl) (fun _ _ _ h => h) (Or.inl ⟨by rfl, ?_⟩) (by assumption) ?_
      rotate_left
      ·intro w5 hSw
       (try dsimp only at hSw)
       go_simp
       (try with_reducible rfl)
      try simp only [Act.put, List.setIfInBounds_toArray, List.set_cons_zero, List.set_cons_succ]
      refine wpAnyH_ready (rs := [9]) (by kernel_rfl) (by simp) ?_;refine AllReadyH.cons (o := ⟨some 6, _, _, _, _, _⟩) rfl (fun Kx hK => ?_) AllReadyH.nil;go_simp;replace HG := hideIt HG.out.newP;refine hK.out _ _ HG.out.bel (fun hHeld => ?_);clear hK Kx
      try simp only [Act.put, List.setIfInBounds_toArray, List.set_cons_zero, List.set_cons_succ]
      generalize X2.heap.size = P at *;generalize X2.alloc (.cells #[.slice none 0 0, .slice none 0 0] 30) = X3 at *;refine wpAnyH_ready (rs := [11]) (by kernel_rfl) (by simp) ?_;refine AllReadyH.cons (o := ⟨none, _, _, _, _, _⟩) rfl (fun Kx hK => ?_) AllReadyH.nil;obtain ⟨⟨y0, y1⟩, yf, yz⟩ := at2 (HG.out.p _ _ _ rfl).2;go_simp;replace HG := hideIt (HG.out.stP (.slice a2 Z.1.a.length c2) (.slice b2 Z.1.l.length d2));refine hK.out _ _ HG.out.bel (fun hHeld => ?_);clear hK Kx y0 y1 yf yz
      try simp only [Act.put, List.setIfInBounds_toArray, List.set_cons_zero, List.set_cons_succ]
      generalize World.setCell (World.setCell X3 _ _) _ _ = X4 at *;refine wpAnyH_ready (rs := [12]) (by kernel_rfl) (by simp) ?_;refine AllReadyH.cons (o := ⟨none, _, _, _, _, _⟩) rfl (fun Kx hK => ?_) AllReadyH.nil;obtain ⟨⟨y0, y1, y2, y3⟩, yf, yz⟩ := at4 (HG.out.q _ _ _ _ _ rfl).2;go_simp;replace HG := hideIt (HG.out.stQ (.int .i64 Z.2.code) (.int .i64 Z.2.num) (.slice f1 Z.2.am.length f2) (.slice g1 Z.2.fl.length g2));refine hK.out _ _ HG.out.bel (fun hHeld => ?_);clear hK Kx y0 y1 y2 y3 yf yz
      try simp only [Act.put, List.setIfInBounds_toArray, List.set_cons_zero, List.set_cons_succ]
      generalize World.setCell (World.setCell (World.setCell (World.setCell X4 _ _) _ _) _ _) _ _ = X5 at *;refine wpAnyH_done (by kernel_rfl) ?_ _
      go_wp2_with fail
      go_meet
      exact ⟨P, Q, a2, c2, b2, d2, f1, f2, g1, g2, rfl, rfl, HG⟩
     ·go_simp;replace HG := hideIt HG.out.newP;refine hK.out _ _ HG.out.bel (fun hHeld => ?_);clear hK Kx
      try simp only [Act.put, List.setIfInBounds_toArray, List.set_cons_zero, List.set_cons_succ]
      generalize X1.heap.size = P at *;generalize X1.alloc (.cells #[.slice none 0 0, .slice none 0 0] 30) = X2 at *;refine wpAnyH_ready (rs := [5]) (by kernel_rfl) (by simp) ?_;refine AllReadyH.cons (o := ⟨some 25, _, _, _, _, _⟩) rfl (fun Kx hK => ?_) AllReadyH.nil;go_simp
      go_at_call 10
      refine (HCD.out _ HG.out.bel).mono ?_;rintro e X3 ⟨a2, c2, b2, d2, f1, f2, g1, g2, rfl, HDO⟩;replace HG := hideIt (HG.out.call HDO.out.1.m HDO.out.2);clear HDO;refine hK.out _ _ HG.out.bel (fun hHeld => ?_);clear hK Kx
      try simp only [Act.put, List.setIfInBounds_toArray, List.set_cons_zero, List.set_cons_succ]
      refine wpAnyH_take (i := 6) (oi := ⟨some 19, _, _, _, _, _⟩) (v := ?_) rfl (by kernel_rfl) (by kernel_rfl) (by kernel_rfl) (fun _ _ _ h => h) (Or.inl ⟨by rfl, ?_⟩) (by assumption) ?_
      rotate_left
      ·intro w5 hSw
       (try dsimp only at hSw)
       go_simp
       (try with_reducible rfl)
      try simp only [Act.put, List.setIfInBounds_toArray, List.set_cons_zero, List.set_cons_succ]
      refine wpAnyH_take (i := 7) (oi := ⟨some 26, _, _, _, _, _⟩) (v := ?_) rfl (by kernel_rfl) (by kernel_rfl) (by kernel_rfl) (fun _ _ _ h => h) (Or.inl ⟨by rfl, ?_⟩) (by assumption) ?_
      rotate_left
      ·intro w5 hSw
       (try dsimp only at hSw)
       go_simp
       (try with_reducible rfl)
      try simp only [Act.put, List.setIfInBounds_toArray, List.set_cons_zero, List.set_cons_succ]
      refine wpAnyH_take (i := 8) (oi := ⟨some 27, _, _, _, _, _⟩) (v := ?_) rfl (by kernel_rfl) (by kernel_rfl) (by kernel_rfl) (fun _ _ _ h => h) (Or.inl ⟨by rfl, ?_⟩) (by assumption) ?_
      rotate_left
      ·intro w5 hSw
       (try dsimp only at hSw)
       go_simp
       (try with_reducible rfl)
      try simp only [Act.put, List.setIfInBounds_toArray, List.set_cons_zero, List.set_cons_succ]
      refine wpAnyH_ready (rs := [11]) (by kernel_rfl) (by simp) ?_;refine AllReadyH.cons (o := ⟨none, _, _, _, _, _⟩) rfl (fun Kx hK => ?_) AllReadyH.nil;obtain ⟨⟨y0, y1⟩, yf, yz⟩ := at2 (HG.out.p _ _ _ rfl).2;go_simp;replace HG := hideIt (HG.out.stP (.slice a2 Z.1.a.length c2) (.slice b2 Z.1.l.length d2));refine hK.out _ _ HG.out.bel (fun hHeld => ?_);clear hK Kx y0 y1 yf yz
      try simp only [Act.put, List.setIfInBounds_toArray, List.set_cons_zero, List.set_cons_succ]
      generalize World.setCell (World.setCell X3 _ _) _ _ = X4 at *;refine wpAnyH_ready (rs := [12]) (by kernel_rfl) (by simp) ?_;refine AllReadyH.cons (o := ⟨none, _, _, _, _, _⟩) rfl (fun Kx hK => ?_) AllReadyH.nil;obtain ⟨⟨y0, y1, y2, y3⟩, yf, yz⟩ := at4 (HG.out.q _ _ _ _ _ rfl).2;go_simp;replace HG := hideIt (HG.out.stQ (.int .i64 Z.2.code) (.int .i64 Z.2.num) (.slice f1 Z.2.am.length f2) (.slice g1 Z.2.fl.length g2));refine hK.out _ _ HG.out.bel (fun hHeld => ?_);clear hK Kx y0 y1 y2 y3 yf yz
      try simp only [Act.put, List.setIfInBounds_toArray, List.set_cons_zero, List.set_cons_succ]
      generalize World.setCell (World.setCell (World.setCell (World.setCell X4 _ _) _ _) _ _) _ _ = X5 at *;refine wpAnyH_done (by kernel_rfl) ?_ _
      go_wp2_with fail
      go_meet
      exact ⟨P, Q, a2, c2, b2, d2, f1, f2, g1, g2, rfl, rfl, HG⟩
   case rest =>
   obtain ⟨P, Q, a2, c2, b2, d2, f1, f2, g1, g2, rfl, rfl, HG⟩ := hcut;clear HC HCD;have hrl := HRL.out;have hS := hS0;clear hS0 HRL;have HPM : Hid (MB w.heap.size P Z.1 a2 c2 b2 d2 wc) := ⟨(HG.out.p _ _ _ rfl).2, (HG.out.o _ _ _ rfl).base HBW.out.size⟩;have HQA := hideIt (HG.out.q _ _ _ _ _ rfl).2;have HM1 := hideIt (HMK.out.keep HG.out.bel);have HI1 := hideIt (blkK HIK.out HG.out.bel);have HBX := hideIt (below_via HBW.out HG.out.bel);have hne : K ≠ P := by
    have := (HG.out.p _ _ _ rfl).1;have := (Array.getElem?_eq_some_iff.1 HMK.out.box).1;omega
   have HNE := hideIt hne;clear HG HMK HIK HBW hne;obtain ⟨⟨k0, k1, k2, k3⟩, kf, kz⟩ := at4 HQA.out;obtain ⟨⟨p0, p1⟩, pf, pz⟩ := at2 HPM.out.box;obtain ⟨⟨m0, m1⟩, mf, mz⟩ := at2 HM1.out.box
   by_cases h0 : Z.2.code = 0
   ·rw [h0] at k0;obtain ⟨hT1, hT2, hT3⟩ := HTS.out h0;have HT := hideIt (And.intro hT1 (And.intro hT2 hT3));clear hT1 hT2 hT3 HTS HRJ
    go_upto_region 12 with fail
    have hbx := HM1.out.box;have h1 := heap_set hbx 0 (.slice a2 Z.1.a.length c2);obtain ⟨hz, -⟩ := puts2 wc K 30 (.slice a2 Z.1.a.length c2) (.slice b2 Z.1.l.length d2) hbx;have HM : Hid (MB w.heap.size K Z.1 a2 c2 b2 d2 ((wc.setCell ⟨K, 0, none⟩ (.slice a2 Z.1.a.length c2)).setCell ⟨K, 1, none⟩ (.slice b2 Z.1.l.length d2))) := ⟨hz, (HPM.out.md.set hbx (by decide) (by decide) (by decide) (by decide) (by decide)).set h1 (by decide) (by decide) (by decide) (by decide) (by decide)⟩;have hni := ty_ne HI1.out hbx (by decide);have HIN := hideIt (setOther (b := K) (j := 1) (.slice b2 Z.1.l.length d2) (setOther (b := K) (j := 0) (.slice a2 Z.1.a.length c2) HI1.out hni) hni);have HB2 := hideIt (belowSet (b := K) (j := 1) (.slice b2 Z.1.l.length d2) (belowSet (b := K) (j := 0) (.slice a2 Z.1.a.length c2) HBX.out HK.out) HK.out);clear hbx h1 hz hni k0 k1 k2 k3 kf kz p0 p1 pf pz m0 m1 mf mz HPM HQA HM1 HI1 HBX HNE;generalize World.setCell (World.setCell wc _ _) _ _ = W2 at *;obtain ⟨y0, y1, y2, y3, y4, y5, y6, y7, y8, y9, y10⟩ := hS.out W2 HB2.out;have ybz : rb < W2.heap.size := Nat.lt_of_lt_of_le hrl (HB2.out).size
    by_cases hkd : rq.kind = 1
    ·rw [hkd] at y0;obtain ⟨kk, hka, hk4, hn, hs, hsh⟩ := HT.out.1 hkd;have hsc := shX_cell HIN.out kk hk4;have hsz := (Array.getElem?_eq_some_iff.1 HIN.out).1;have hsf := fun j => free_at HIN.out j
     have HI2 := hideIt (shX_set HIN.out kk hk4 (totS M kk + rq.n));rw [hsh] at HI2;have HM2 : Hid (MB w.heap.size K Z.1 a2 c2 b2 d2 (W2.setCell ⟨J, kk, none⟩ (.int .i64 (totS M kk + rq.n)))) := ⟨setOther _ HM.out.box (ty_ne HM.out.box HIN.out (by decide)), HM.out.md.set HIN.out (by decide) (by decide) (by decide) (by decide) (by decide)⟩;have HB3 := hideIt (belowSet (j := kk) (.int .i64 (totS M kk + rq.n)) HB2.out HJL.out);have HB4 := hideIt HB3.out.drew;have HFIN : Hid (MB w.heap.size K Z.1 a2 c2 b2 d2 (W2.setCell ⟨J, kk, none⟩ (.int .i64 (totS M kk + rq.n))).drew ∧ (W2.setCell ⟨J, kk, none⟩ (.int .i64 (totS M kk + rq.n))).drew.heap[J]? = some (.cells (Lg.shA (totS Z.1)) 51 (0, 0)) ∧ Below w.heap.size w (W2.setCell ⟨J, kk, none⟩ (.int .i64 (totS M kk + rq.n))).drew) := ⟨HM2.out.keep ((Below.refl _ _).drew), HI2.out, HB4.out⟩;rw [hka] at y3;obtain ⟨h1n, h2n⟩ := hn;obtain ⟨h1s, h2s⟩ := hs;have hk4I : (kk : Int) < 4 := by omega
     have hk0 : (0 : Int) ≤ (kk : Int) := by omega
     clear hsh HM2 HB3 HI2 hka HT HM HIN HB2;generalize totS M kk = sk at *
     go_upto_region 13 with fail
     go_region
     clear hsc hsz hsf;clear y0 y1 y2 y3 y4 y5 y6 y7 y8 y9 y10 ybz;generalize (World.drew (World.setCell W2 _ _)) = W5 at *;obtain ⟨y0, y1, y2, y3, y4, y5, y6, y7, y8, y9, y10⟩ := hS.out W5 HFIN.out.2.2;have ybz : rb < W5.heap.size := Nat.lt_of_lt_of_le hrl (HFIN.out.2.2).size;rw [hkd] at y0;clear hkd;go_wp2
     go_roundw
     case rel => exact ⟨t + 1, a2, c2, b2, d2, by go_num, by omega, hideIt (by rw [HPS.out]; exact HFIN.out)⟩
     case measure => simp [intOf]; omega
    ·have hkb1 : (rq.kind == 1) = false := beq_eq_false_iff_ne.2 hkd;have hnk1 := hkd;clear hkd
     by_cases hkd : rq.kind = 2
     ·clear hkb1 hnk1;rw [hkd] at y0;obtain ⟨kk, hka, hk4, hn, hs, hsh⟩ := HT.out.2.1 hkd;have hsc := shX_cell HIN.out kk hk4;have hsz := (Array.getElem?_eq_some_iff.1 HIN.out).1;have hsf := fun j => free_at HIN.out j
      have HI2 := hideIt (shX_set HIN.out kk hk4 (totS M kk - rq.n));rw [hsh] at HI2;have HM2 : Hid (MB w.heap.size K Z.1 a2 c2 b2 d2 (W2.setCell ⟨J, kk, none⟩ (.int .i64 (totS M kk - rq.n)))) := ⟨setOther _ HM.out.box (ty_ne HM.out.box HIN.out (by decide)), HM.out.md.set HIN.out (by decide) (by decide) (by decide) (by decide) (by decide)⟩;have HB3 := hideIt (belowSet (j := kk) (.int .i64 (totS M kk - rq.n)) HB2.out HJL.out);have HB4 := hideIt HB3.out.drew;have HFIN : Hid (MB w.heap.size K Z.1 a2 c2 b2 d2 (W2.setCell ⟨J, kk, none⟩ (.int .i64 (totS M kk - rq.n))).drew ∧ (W2.setCell ⟨J, kk, none⟩ (.int .i64 (totS M kk - rq.n))).drew.heap[J]? = some (.cells (Lg.shA (totS Z.1)) 51 (0, 0)) ∧ Below w.heap.size w (W2.setCell ⟨J, kk, none⟩ (.int .i64 (totS M kk - rq.n))).drew) := ⟨HM2.out.keep ((Below.refl _ _).drew), HI2.out, HB4.out⟩;rw [hka] at y3;obtain ⟨h1n, h2n⟩ := hn;obtain ⟨h1s, h2s⟩ := hs;have hk4I : (kk : Int) < 4 := by omega
      have hk0 : (0 : Int) ≤ (kk : Int) := by omega
      clear hsh HM2 HB3 HI2 hka HT HM HIN HB2;generalize totS M kk = sk at *
      go_upto_region 15 with fail
      go_region
      clear hsc hsz hsf hkd;clear y0 y1 y2 y3 y4 y5 y6 y7 y8 y9 y10 ybz;generalize (World.drew (World.setCell W2 _ _)) = W5 at *;go_wp2
      go_roundw
      case rel => exact ⟨t + 1, a2, c2, b2, d2, by go_num, by omega, hideIt (by rw [HPS.out]; exact HFIN.out)⟩
      case measure => simp [intOf]; omega
     ·have hkb2 : (rq.kind == 2) = false := beq_eq_false_iff_ne.2 hkd;have hsh := HT.out.2.2 hnk1 hkd;rw [hsh] at HIN;clear hsh HT hnk1 hkd;go_wp2
      go_roundw
      case rel => exact ⟨t + 1, a2, c2, b2, d2, by go_num, by omega, hideIt (by rw [HPS.out]; exact ⟨HM.out, HIN.out, HB2.out⟩)⟩
      case measure => simp [intOf]; omega
   ·have h0b : (Z.2.code == 0) = false := beq_eq_false_iff_ne.2 h0;have hrj := HRJ.out h0;obtain ⟨ZM, ZA⟩ := Z;simp only at hrj HPM HPS p0 p1 k0 h0b;subst hrj;clear HTS HRJ h0 k1 k2 k3
    go_wp2_with fail
    refine (sameM_is _ _ _ _ ZM _ HPM.out.md.at_ HM1.out.md.at_).mono ?_;rintro e W6 ⟨rfl, hb⟩;dsimp only;have HM6 := hideIt (HM1.out.keep hb);have HI6 := hideIt (blkK HI1.out hb);have HB6 := hideIt (below_via HBX.out hb);clear p0 p1 pf pz m0 m1 mf mz k0 kf kz hb HPM HM1 HI1 HBX HQA;go_wp2
    go_roundw
    case rel => exact ⟨t + 1, a, c, b, d, by go_num, by omega, hideIt (by rw [HPS.out]; exact ⟨HM6.out, HI6.out, HB6.out⟩)⟩
    case measure => simp [intOf]; omega
  ·have hltI : ¬ (t : Int) < (R.length : Int) := by omega
   obtain rfl : t = R.length := by omega
   have hinv := HINV.out R.length;rw [List.take_length] at hinv HX;have HV := hideIt hinv;have HMB := hideIt HX.out.1;have HIN := hideIt HX.out.2.1;have HBW := hideIt HX.out.2.2;clear HX HINV hinv HR H8 HK HJL ht hltI HFO;generalize plyM R = M at *
   go_upto_region 18 with fail
   go_loopw [8, 9] (fun u v wz => ∃ (t : Nat), v = .int .i64 t ∧ t ≤ 4 ∧ Hid (Lg.Mine wr u (Lg.pre (totS M) t) wz)) (fun _ v _ => 4 - (intOf v).toNat)
   case atStart => exact ⟨0, rfl, Nat.zero_le _, hideIt ⟨own_nil _ _, Below.refl _ _⟩⟩
   case round =>
    obtain ⟨t, rfl, ht, HR⟩ := hrel
    by_cases hlt : t < 4
    ·have hltI : (t : Int) < 4 := by omega
     have ht0 : (0 : Int) ≤ (t : Int) := by omega
     have hI2 := blkK HIN.out HR.out.bel;have c0 := shX_cell hI2 t hlt;have cz := (Array.getElem?_eq_some_iff.1 hI2).1;have HE : Hid (Lg.pre (totS M) (t + 1) = Lg.pre (totS M) t ++ Lg.one (totS M) t) := rfl;have hge := (HV.out.tot t (by omega)).1;have hpl4 := Lg.pre_len (totS M) t;clear hI2
     by_cases h0 : totS M t = 0
     ·have HO : Hid (Lg.one (totS M) t = []) := if_neg (by omega);rw [h0] at c0;clear h0 hge;go_wp2
      go_roundw
      case rel => exact ⟨t + 1, by go_num, by omega, hideIt (by rw [HE.out, HO.out, List.append_nil]; exact HR.out)⟩
      case measure => simp [intOf]; omega
     ·have HO : Hid (Lg.one (totS M) t = [⟨t, totS M t⟩]) := if_pos (by unfold totS at h0 ⊢; omega)
      have h0b : (totS M t == 0) = false := beq_eq_false_iff_ne.2 h0;obtain ⟨v', w', hrun, hm⟩ := HR.out.grow t (totS M t) (by omega);have HRUN := hideIt hrun;have HM2 := hideIt hm;clear hrun hm HR h0 hge
      go_upto_region 21 with fail
      go_wp2_with (at_builtin; refine Lib.wpList_append_run _ rfl _ _ _ _ rfl _ _ rfl rfl _ _ HRUN.out ?_)
      clear HRUN c0 cz h0b;go_wp2
      go_roundw
      case rel => exact ⟨t + 1, by go_num, by omega, hideIt (by rw [HE.out, HO.out]; exact HM2.out)⟩
      case measure => simp [intOf]; omega
    ·have hltI : ¬ (t : Int) < 4 := by omega
     obtain rfl : t = 4 := by omega
     have HMC := hideIt (HMB.out.keep HR.out.bel);have HBZ := hideIt (below_via HBW.out HR.out.bel);have HG1 := hideIt (Lg.mine_got HR.out (by have := Lg.pre_len (totS M) 4; omega))
     have HTT := hideIt (fun va vl W hm => mtotal_is va vl M W hm HV.out.may (fun a ha => (HV.out.tot a ha).2));clear HR HMB HBW HIN ht hltI;obtain ⟨⟨p0, p1⟩, pf, pz⟩ := at2 HMC.out.box
     go_wp2_with fail
     refine (HTT.out _ _ _ HMC.out.md.at_).mono ?_;rintro e W6 ⟨g, rfl, hm⟩;dsimp only;have HG2 : Hid (Lg.AGot W6 g (Lg.pre (totS M) 4)) := Lg.mine_got hm (by have := Lg.pre_len (totS M) 4; show (Lg.pre (totS M) 4).length * 16 ≤ _; omega)
     have HG3 := hideIt (HG1.out.keep hm.bel);have HB6 := hideIt (below_via HBZ.out hm.bel);clear p0 p1 pf pz hm HMC HBZ HG1 HTT
     go_wp2_with fail
     refine (Lg.sameAm_is _ _ _ _ HG2.out HG3.out).mono ?_;rintro e W7 ⟨rfl, hb⟩;dsimp only;have HB7 := hideIt (below_via HB6.out hb);clear hb HG2 HG3 HB6
     go_wp2_with fail
     refine (HL.out _ HB7.out).mono ?_;rintro e W8 ⟨rfl, hb⟩;have HF := hideIt (below_via HB7.out hb);clear hb;go_wp2;go_ret
     exact ⟨rfl, HF.out⟩
end Go.Proofs.YtiinigifjdpicaaGreatDoor
