/- Texts of my own, laid together. -/
import Derived.Test.YtiinigifjdpicaaGreatDoorMe20
import Derived.Deep.RegionHeld3
namespace Go.Proofs.YtiinigifjdpicaaGreatDoor
open Go.RowKit
set_option linter.all false
def oweS (acc q a : Int) : List OweV → Int
 | [] => 0
 | y :: l => (if y.acc = acc ∧ y.asset * q = a then y.n else 0) + oweS acc q a l
theorem oweS_take (acc q a : Int) : ∀ (l : List OweV) (t : Nat) (h : t < l.length), oweS acc q a (l.take (t + 1)) = oweS acc q a (l.take t) + (if l[t].acc = acc ∧ l[t].asset * q = a then l[t].n else 0)
 | [], t, h => absurd h (by simp)
 | y :: l, 0, _ => by simp [oweS]
 | y :: l, t + 1, h => by
  have ih := oweS_take acc q a l t (by simpa using h);simp only [List.take_succ_cons, oweS, List.getElem_cons_succ] at ih ⊢;omega
theorem oweS_is (acc : Int) (q k : Nat) (hq : 1 ≤ q) : ∀ (l : List OweV), (∀ y ∈ l, y.asset = 0 ∨ y.asset = 1) → oweS acc q k l = amS q (takA acc l) k
 | [], _ => rfl
 | y :: l, h => by
  have ih := oweS_is acc q k hq l (fun x hx => h x (List.mem_cons_of_mem _ hx));have hy := h y (by simp)
  by_cases c : y.acc = acc
  ·have e1 : takA acc (y :: l) = ⟨y.asset, y.n⟩ :: takA acc l := by
    unfold takA;rw [List.filter_cons_of_pos (by simpa using c), List.map_cons]
   rw [e1];simp only [amS, oweS, ih]
   rcases hy with hy | hy
   ·rw [assQ0 (e := ⟨y.asset, y.n⟩) hy, hy]
    by_cases d : 0 = k
    ·rw [if_pos d, if_pos ⟨c, by omega⟩]
    ·rw [if_neg d, if_neg (by omega)]
   ·rw [assQ1 (e := ⟨y.asset, y.n⟩) hy, hy]
    by_cases d : q = k
    ·rw [if_pos d, if_pos ⟨c, by omega⟩]
    ·rw [if_neg d, if_neg (by omega)]
  ·have e1 : takA acc (y :: l) = takA acc l := by
    unfold takA;rw [List.filter_cons_of_neg (by simpa using c)]
   rw [e1, ← ih];simp only [oweS];rw [if_neg (fun x => c x.1)];omega
theorem oweS_pos (acc q a : Int) : ∀ (l : List OweV), (∀ y ∈ l, 0 ≤ y.n) → 0 ≤ oweS acc q a l
 | [], _ => Int.le_refl _
 | y :: l, h => by
  have h1 := h y (by simp);have h2 := oweS_pos acc q a l (fun x hx => h x (List.mem_cons_of_mem _ hx));unfold oweS
  split <;> omega
theorem oweS_le (acc q a : Int) (l : List OweV) (t : Nat) (h : ∀ y ∈ l, 0 ≤ y.n) (ht : t < l.length) : oweS acc q a (l.take t) + (if l[t].acc = acc ∧ l[t].asset * q = a then l[t].n else 0) ≤ oweS acc q a l := by
 have e := oweS_take acc q a l t ht;have app : ∀ (x y : List OweV), oweS acc q a (x ++ y) = oweS acc q a x + oweS acc q a y := by
  intro x y
  induction x with
  | nil => simp [oweS]
  | cons z x ih => simp only [List.cons_append, oweS, ih]; omega
 have h2 := app (l.take (t + 1)) (l.drop (t + 1));rw [List.take_append_drop] at h2;have h3 := oweS_pos acc q a (l.drop (t + 1)) (fun y hy => h y (List.mem_of_mem_drop hy));omega
def oweM (M : MdlV) (acc : Int) (k i : Nat) : Int := (if 0 < i then tkS 1 acc (M.l.getD 0 zLane) k else 0) + (if 1 < i then tkS 2 acc (M.l.getD 1 zLane) k else 0) + (if 2 < i then tkS 3 acc (M.l.getD 2 zLane) k else 0)
theorem oweM_end (M : MdlV) (acc : Int) (k : Nat) : oweM M acc k 3 = netS M acc k := rfl
theorem oweM_step (M : MdlV) (acc : Int) (k i : Nat) (hi : i < 3) : oweM M acc k (i + 1) = oweM M acc k i + tkS (i + 1) acc (M.l.getD i zLane) k := by
 rcases (by omega : i = 0 ∨ i = 1 ∨ i = 2) with rfl | rfl | rfl <;> (unfold oweM; simp)
theorem owe_facts {M : MdlV} {acc : Int} {k i : Nat} (hm : mayM M = true) (hi : i < 3) (hn : netS M acc k ≤ 200000000) : chkB (M.l.getD i zLane) = true ∧ oweS acc ((i + 1 : Nat) : Int) k (M.l.getD i zLane).owed = tkS (i + 1) acc (M.l.getD i zLane) k ∧ 0 ≤ oweM M acc k i ∧ oweM M acc k i + tkS (i + 1) acc (M.l.getD i zLane) k ≤ 200000000 ∧ 0 ≤ tkS (i + 1) acc (M.l.getD i zLane) k := by
 obtain ⟨h8, h3, hA, hL⟩ := may_in hm;have hc : ∀ j, j < 3 → chkB (M.l.getD j zLane) = true := fun j hj => hL _ (lanD_mem (S := st0 M) (show j < M.l.length by omega))
 have p0 := tks_pos (q := 1) (acc := acc) (hc 0 (by omega)) k;have p1 := tks_pos (q := 2) (acc := acc) (hc 1 (by omega)) k;have p2 := tks_pos (q := 3) (acc := acc) (hc 2 (by omega)) k;refine ⟨hc i hi, oweS_is acc (i + 1) k (by omega) _ (fun y hy => (owe_mem (hc i hi) y hy).2.1), ?_, ?_, tks_pos (hc i hi) k⟩
 ·unfold oweM
  split <;> split <;> split <;> omega
 ·have e := oweM_step M acc k i hi;have h2 : oweM M acc k (i + 1) ≤ netS M acc k := by
   unfold oweM netS
   split <;> split <;> split <;> omega
  omega
theorem MdlOwn.owed_at {B i : Nat} {w : World} {va : Value} {b : Option Addr} {d : Nat} {M : MdlV} (h : MdlOwn B w va (.slice b M.l.length d) M) (hi : i < M.l.length) : ∃ g off oa oc, b = some ⟨g, off, none⟩ ∧ g < w.heap.size ∧ w.cell? ⟨g, off + i * 5 + 4, none⟩ = some (.slice oa (M.l.getD i zLane).owed.length oc) ∧ Owes w (.slice oa (M.l.getD i zLane).owed.length oc) (M.l.getD i zLane).owed := by
 obtain ⟨-, ys, hy, hl⟩ := h;have hxl : M.l.length = ys.length := by rw [← hy, List.length_map]
 rw [hxl] at hl hi;obtain ⟨a', c', e, _, hr⟩ := hl.at_.five;simp only [Value.slice.injEq] at e;obtain ⟨rfl, _, rfl⟩ := e;obtain ⟨g, off, e2, hb, _, _, _, _, h4⟩ := hr i hi;have e3 : M.l.getD i zLane = (ys[i]).v := by
  rw [← hy, List.getD_eq_getElem?_getD, List.getElem?_map, List.getElem?_eq_getElem hi]
  rfl
 rw [e3]
 exact ⟨g, off, _, _, e2, hb, h4, (hl.at_.at_ _ (List.getElem_mem hi)).owed⟩
theorem MdlOwn.ctn_at {B g c i : Nat} {w : World} {vl : Value} {M : MdlV} (h : MdlOwn B w (.slice (some ⟨g, 0, none⟩) M.a.length c) vl M) (hi : i < M.a.length) : w.cell? ⟨g, i * 2 + 1, none⟩ = some (.int .i64 (M.a.getD i Lg.zA).ct) := by
 obtain ⟨⟨xs, hx, ha⟩, -⟩ := h;have hxl : M.a.length = xs.length := by rw [← hx, List.length_map]
 rw [hxl] at ha hi;obtain ⟨a', c', e, _, hr⟩ := ha.at_.two;simp only [Value.slice.injEq] at e;obtain ⟨rfl, _, rfl⟩ := e;obtain ⟨b, off, e2, hb, h0, h1⟩ := hr i hi;simp only [Option.some.injEq, Addr.mk.injEq] at e2;obtain ⟨rfl, rfl, _⟩ := e2;rw [Nat.zero_add] at h1;have e3 : M.a.getD i Lg.zA = (xs[i]).v := by
  rw [← hx, List.getD_eq_getElem?_getD, List.getElem?_map, List.getElem?_eq_getElem hi]
  rfl
 rw [e3];exact h1
theorem owes_at {w : World} {oa : Option Addr} {oc n : Nat} {l : List OweV} (h : Owes w (.slice oa n oc) l) {t : Nat} (ht : t < l.length) : ∃ g off, oa = some ⟨g, off, none⟩ ∧ g < w.heap.size ∧ w.cell? ⟨g, off + t * 3, none⟩ = some (.int .i64 l[t].acc) ∧ w.cell? ⟨g, off + t * 3 + 1, none⟩ = some (.int .i64 l[t].asset) ∧ w.cell? ⟨g, off + t * 3 + 2, none⟩ = some (.int .i64 l[t].n) := by
 obtain ⟨_, a', c', e, _, hr⟩ := h;simp only [Value.slice.injEq] at e;obtain ⟨rfl, _, rfl⟩ := e;obtain ⟨b, off, e2, hb, hc⟩ := hr (by omega);have g := celC_get oweK l t ht;have q := fun j (hj : j < 3) => (hc (t * 3 + j) (by omega)).trans (g j hj)
 simp only [← Nat.add_assoc] at q
 exact ⟨b, off, e2, hb, q 0 (by omega), q 1 (by omega), q 2 (by omega)⟩
set_option maxRecDepth 100000 in
set_option maxHeartbeats 64000000 in
theorem nets_walk (v : Value) (l : List ReqV) (acct : Int) (w : World) (h : Reqs w v l) (hF : Se.Forms w) : Calls Tryz.prog 8 #[v, .int .i64 acct] w fun e w' => e = .returned (.bool true) ∧ Below w.heap.size w w' := by
 have H0 := hideIt (fun W => mnew_is W);have HQ := hideIt (fun W (hW : Below w.heap.size w W) => h.keep hW);have H1 := hideIt (fun W (hW : Below w.heap.size w W) => few60_is v l W (h.keep hW));have HFO := hideIt (fun W (hW : Below w.heap.size w W) => hF.keep hW);have HL := hideIt (fun W (hW : Below w.heap.size w W) => live_is W (hF.keep hW));have hlen : (l.take 60).length ≤ 100 := by rw [List.length_take]; omega
 have HINV := hideIt (inv_ply (l.take 60) hlen);have HPL := hideIt (fun hw => net_again (acct := acct) (inv_ply (l.take 60) hlen) hw);have HD1 := hideIt (fun va vl W (hm : Mdl W va vl (plyM (l.take 60))) (hf : Se.Forms W) => do_is va vl (plyM (l.take 60)) (netQ acct) W hm hf);have HD2 := hideIt (fun va vl W (hm : Mdl W va vl (doM (plyM (l.take 60)) (netQ acct)).1) (hf : Se.Forms W) => do_is va vl (doM (plyM (l.take 60)) (netQ acct)).1 (netQ acct) W hm hf);clear h hF hlen
 go_enter Tryz.func8, Tryz.ntmps8
 go_wp2_with fail
 refine (H0.out _).mono ?_;rintro e w1 ⟨a, c, b, d, rfl, ho, hb⟩;dsimp only;have hb2 := below1 w1 (.cells #[.slice a newM.a.length c, .slice b newM.l.length d] 30);have hMB : Hid (MB w.heap.size w1.heap.size newM a c b d (w1.alloc (.cells #[.slice a newM.a.length c, .slice b newM.l.length d] 30))) := ⟨heap_alloc_new w1 _, ho.keep hb2⟩;have hB2 := hideIt (below_via hb hb2);have HK := hideIt hb.size;clear ho hb2 hb H0
 go_upto_region 2 with fail
 generalize w1.alloc (.cells #[.slice a newM.a.length c, .slice b newM.l.length d] 30) = w2 at *;generalize w1.heap.size = K at *
 go_wp2_with fail
 refine (H1.out _ hB2.out).mono ?_;rintro e w3 ⟨⟨v', rfl, hv⟩, rfl⟩;dsimp only;have HR := hideIt (fun W (hW : Below w.heap.size w W) => hv W (HQ.out W hW));clear hv HQ H1;generalize l.take 60 = R at *;have h8 := (HR.out _ hB2.out).1;obtain ⟨ra, rc, rfl⟩ := (HR.out _ hB2.out).slice;have hcap := (HR.out _ hB2.out).cap;have hmx : maxLen = 9223372036854775807 := by decide
 rw [hmx] at hcap;have H8 := hideIt (And.intro h8 hcap);clear h8 hcap hmx
 go_upto_region 4 with fail
 go_loopw [6] (fun v wr => ∃ (t : Nat) (a : Option Addr) (c : Nat) (b : Option Addr) (d : Nat), v = .int .i64 t ∧ t ≤ R.length ∧ Hid (MB w.heap.size K (plyM (R.take t)) a c b d wr ∧ Below w.heap.size w wr)) (fun v _ => R.length - (intOf v).toNat)
 case atStart => exact ⟨0, a, c, b, d, rfl, Nat.zero_le _, hideIt ⟨by rw [List.take_zero]; exact hMB.out, hB2.out⟩⟩
 case round =>
  clear hMB hB2;generalize (Value.agg #[.slice a newM.a.length c, .slice b newM.l.length d]) = u5 at *;clear a c b d;obtain ⟨t, a, c, b, d, rfl, ht, HX⟩ := hrel;have h8 := H8.out
  by_cases hlt : t < R.length
  ·have hltI : (t : Int) < (R.length : Int) := by omega
   have ht0 : (0 : Int) ≤ (t : Int) := by omega
   have hrq := HR.out _ HX.out.2;obtain ⟨_, ra', rc', e, _, hr⟩ := hrq;simp only [Value.slice.injEq] at e;obtain ⟨rfl, _, rfl⟩ := e;obtain ⟨rb, off, rfl, hrl, hrc⟩ := hr (by omega);have HPS := hideIt (ply_step R t hlt);have HRE := hideIt (reqE_c R[t]);have HCD : Hid (∀ W, Below wr.heap.size wr W → Calls Tryz.prog 10 #[.agg #[.slice a (plyM (R.take t)).a.length c, .slice b (plyM (R.take t)).l.length d], .agg (Se.reqC R[t])] W (DoBack (doM (plyM (R.take t)) R[t]) W)) := fun W hW => do_is _ _ _ _ W (HX.out.1.keep hW).md.at_ (HFO.out W (below_via HX.out.2 hW))
   have HBX := hideIt HX.out.1.box;have HBW := hideIt HX.out.2;have HKL := hideIt (And.intro hrl (And.intro (Array.getElem?_eq_some_iff.1 HX.out.1.box).1 HX.out.2.size));have hS : Hid (∀ W, Below w.heap.size w W → W.cell? ⟨rb, off + t * 11, none⟩ = some (.int .i64 (R[t]).kind) ∧ W.cell? ⟨rb, off + t * 11 + 1, none⟩ = some (.int .i64 (R[t]).acct) ∧ W.cell? ⟨rb, off + t * 11 + 2, none⟩ = some (.int .i64 (R[t]).lane) ∧ W.cell? ⟨rb, off + t * 11 + 3, none⟩ = some (.int .i64 (R[t]).asset) ∧ W.cell? ⟨rb, off + t * 11 + 4, none⟩ = some (.int .i64 (R[t]).side) ∧ W.cell? ⟨rb, off + t * 11 + 5, none⟩ = some (.int .i64 (R[t]).price) ∧ W.cell? ⟨rb, off + t * 11 + 6, none⟩ = some (.int .i64 (R[t]).n) ∧ W.cell? ⟨rb, off + t * 11 + 7, none⟩ = some (.bool (R[t]).now) ∧ W.cell? ⟨rb, off + t * 11 + 8, none⟩ = some (.int .i64 (R[t]).key.1) ∧ W.cell? ⟨rb, off + t * 11 + 9, none⟩ = some (.int .i64 (R[t]).key.2) ∧ W.cell? ⟨rb, off + t * 11 + 10, none⟩ = some (.int .i64 (R[t]).dst)) := by
    intro W hW;obtain ⟨_, ra', rc', e, _, hr⟩ := HR.out _ hW;simp only [Value.slice.injEq] at e;obtain ⟨e1, _, rfl⟩ := e;obtain ⟨rb', off', e2, _, hrc⟩ := hr (by omega);rw [← e1] at e2;simp only [Option.some.injEq, Addr.mk.injEq] at e2;obtain ⟨rfl, rfl, _⟩ := e2;have q := fun j (hj : j < 11) => (hrc (t * 11 + j) (by omega)).trans (celC_get reqEK R t hlt j hj)
    simp only [← Nat.add_assoc] at q
    exact ⟨q 0 (by omega), q 1 (by omega), q 2 (by omega), q 3 (by omega), q 4 (by omega), q 5 (by omega), q 6 (by omega), q 7 (by omega), q 8 (by omega), q 9 (by omega), q 10 (by omega)⟩
   obtain ⟨⟨p0, p1⟩, pf, pz⟩ := at2 HX.out.1.box;clear HX hrc hr HRE;generalize doM (plyM (R.take t)) R[t] = Z at *;generalize plyM (R.take t) = M at *;generalize R[t] = rq at *;unfold Se.reqC at HCD
   go_upto_region 6 with fail
   refine wp_region_held_drew (S := fun W => W.cell? ⟨rb, off + t * 11, none⟩ = some (.int .i64 rq.kind) ∧ W.cell? ⟨rb, off + t * 11 + 1, none⟩ = some (.int .i64 rq.acct) ∧ W.cell? ⟨rb, off + t * 11 + 2, none⟩ = some (.int .i64 rq.lane) ∧ W.cell? ⟨rb, off + t * 11 + 3, none⟩ = some (.int .i64 rq.asset) ∧ W.cell? ⟨rb, off + t * 11 + 4, none⟩ = some (.int .i64 rq.side) ∧ W.cell? ⟨rb, off + t * 11 + 5, none⟩ = some (.int .i64 rq.price) ∧ W.cell? ⟨rb, off + t * 11 + 6, none⟩ = some (.int .i64 rq.n) ∧ W.cell? ⟨rb, off + t * 11 + 7, none⟩ = some (.bool rq.now) ∧ W.cell? ⟨rb, off + t * 11 + 8, none⟩ = some (.int .i64 rq.key.1) ∧ W.cell? ⟨rb, off + t * 11 + 9, none⟩ = some (.int .i64 rq.key.2) ∧ W.cell? ⟨rb, off + t * 11 + 10, none⟩ = some (.int .i64 rq.dst)) (by rfl) (hS.out _ HBW.out.drew) (fun hHeld => ?_);refine wpAnyH_take (i := 1) (oi := ⟨some 28, _, _, _, _, _⟩) (v := ?_) rfl (by kernel_rfl) (by kernel_rfl) (by kernel_rfl) (fun _ _ _ h => h) (Or.inl ⟨by rfl, ?_⟩) (by assumption) ?_
   rotate_left
   ·intro w5 hSw
    (try dsimp only at hSw)
    go_simp
    (try with_reducible rfl)
   try simp only [Act.put, List.setIfInBounds_toArray, List.set_cons_zero, List.set_cons_succ]
   refine wpAnyH_take (i := 2) (oi := ⟨some 29, _, _, _, _, _⟩) (v := ?_) rfl (by kernel_rfl) (by kernel_rfl) (by kernel_rfl) (fun _ _ _ h => h) (Or.inl ⟨by rfl, ?_⟩) (by assumption) ?_
   rotate_left
   ·intro w5 hSw
    (try dsimp only at hSw)
    go_simp
    (try with_reducible rfl)
   try simp only [Act.put, List.setIfInBounds_toArray, List.set_cons_zero, List.set_cons_succ]
   refine wpAnyH_take (i := 3) (oi := ⟨some 30, _, _, _, _, _⟩) (v := ?_) rfl (by kernel_rfl) (by kernel_rfl) (by kernel_rfl) (fun _ _ _ h => h) (Or.inl ⟨by rfl, ?_⟩) (by assumption) ?_
   rotate_left
   ·intro w5 hSw
    (try dsimp only at hSw)
    go_simp
    (try with_reducible rfl)
   try simp only [Act.put, List.setIfInBounds_toArray, List.set_cons_zero, List.set_cons_succ]
   refine wpAnyH_take (i := 4) (oi := ⟨some 31, _, _, _, _, _⟩) (v := ?_) rfl (by kernel_rfl) (by kernel_rfl) (by kernel_rfl) (fun _ _ _ h => h) (Or.inl ⟨by rfl, ?_⟩) (by assumption) ?_
   rotate_left
   ·intro w5 hSw
    (try dsimp only at hSw)
    go_simp
    (try with_reducible rfl)
   try simp only [Act.put, List.setIfInBounds_toArray, List.set_cons_zero, List.set_cons_succ]
   refine wpAnyH_ready (rs := [0]) (by kernel_rfl) (by simp) ?_;refine AllReadyH.cons (o := ⟨some 27, _, _, _, _, _⟩) rfl (fun Kx hK => ?_) AllReadyH.nil;go_simp;refine hK.out _ _ (by first | exact hS.out _ HBW.out.drew | exact hS.out _ HBW.out) (fun hHeld => ?_);clear hK Kx
   try simp only [Act.put, List.setIfInBounds_toArray, List.set_cons_zero, List.set_cons_succ]
   refine wpAnyH_ready (rs := [5]) (by kernel_rfl) (by simp) ?_;refine AllReadyH.cons (o := ⟨some 32, _, _, _, _, _⟩) rfl (fun Kx hK => ?_) AllReadyH.nil;go_simp
   go_at_call 10
   refine (HCD.out _ (by first | exact (Below.refl _ _).drew | exact Below.refl _ _)).mono ?_;rintro e w5 ⟨a2, c2, b2, d2, f1, f2, g1, g2, rfl, HDO⟩;have HB5 := hideIt (below_via (by first | exact HBW.out.drew | exact HBW.out) HDO.out.2);have HX5 := hideIt (HDO.out.2.block K HKL.out.2.1);refine hK.out _ _ (hS.out _ HB5.out) (fun hHeld => ?_);clear hK Kx
   try simp only [Act.put, List.setIfInBounds_toArray, List.set_cons_zero, List.set_cons_succ]
   refine wpAnyH_take (i := 6) (oi := ⟨some 26, _, _, _, _, _⟩) (v := ?_) rfl (by kernel_rfl) (by kernel_rfl) (by kernel_rfl) (fun _ _ _ h => h) (Or.inl ⟨by rfl, ?_⟩) (by assumption) ?_
   rotate_left
   ·intro w5 hSw
    (try dsimp only at hSw)
    go_simp
    (try with_reducible rfl)
   try simp only [Act.put, List.setIfInBounds_toArray, List.set_cons_zero, List.set_cons_succ]
   refine wpAnyH_take (i := 7) (oi := ⟨some 33, _, _, _, _, _⟩) (v := ?_) rfl (by kernel_rfl) (by kernel_rfl) (by kernel_rfl) (fun _ _ _ h => h) (Or.inl ⟨by rfl, ?_⟩) (by assumption) ?_
   rotate_left
   ·intro w5 hSw
    (try dsimp only at hSw)
    go_simp
    (try with_reducible rfl)
   try simp only [Act.put, List.setIfInBounds_toArray, List.set_cons_zero, List.set_cons_succ]
   refine wpAnyH_take (i := 8) (oi := ⟨some 34, _, _, _, _, _⟩) (v := ?_) rfl (by kernel_rfl) (by kernel_rfl) (by kernel_rfl) (fun _ _ _ h => h) (Or.inl ⟨by rfl, ?_⟩) (by assumption) ?_
   rotate_left
   ·intro w5 hSw
    (try dsimp only at hSw)
    go_simp
    (try with_reducible rfl)
   try simp only [Act.put, List.setIfInBounds_toArray, List.set_cons_zero, List.set_cons_succ]
   refine wpAnyH_ready (rs := [9]) (by kernel_rfl) (by simp) ?_;refine AllReadyH.cons (o := ⟨none, _, _, _, _, _⟩) rfl (fun Kx hK => ?_) AllReadyH.nil;have hx5 := HX5.out.trans HBX.out;obtain ⟨⟨y0, y1⟩, yf, yz⟩ := at2 hx5;refine step_store_rowK rfl 30 _ _ rfl K #[.slice a2 Z.1.a.length c2, .slice b2 Z.1.l.length d2] rfl rfl 30 #[.slice a M.a.length c, .slice b M.l.length d] hx5 (by kernel_rfl) rfl (by simp [Value.oneCell']) ?_;have hout := setRow_out w5 K #[.slice a2 Z.1.a.length c2, .slice b2 Z.1.l.length d2];have hrow := setRow_heap w5 K #[.slice a M.a.length c, .slice b M.l.length d] #[.slice a2 Z.1.a.length c2, .slice b2 Z.1.l.length d2] 30 (0, 0) hx5;have hbz : Below w.heap.size w (w5.setRow K #[.slice a2 Z.1.a.length c2, .slice b2 Z.1.l.length d2]) := below_out HB5.out hout (fun k e => by have := HK.out; omega)
   refine hK.out _ _ (hS.out _ hbz) (fun hHeld => ?_);clear hK Kx
   try simp only [Act.put, List.setIfInBounds_toArray, List.set_cons_zero, List.set_cons_succ]
   refine wpAnyH_done (by kernel_rfl) ?_ _;have HN : Hid (MB w.heap.size K Z.1 a2 c2 b2 d2 (w5.setRow K #[.slice a2 Z.1.a.length c2, .slice b2 Z.1.l.length d2]) ∧ Below w.heap.size w (w5.setRow K #[.slice a2 Z.1.a.length c2, .slice b2 Z.1.l.length d2])) := by
    obtain ⟨⟨xs, hx, ha⟩, ys, hy, hl⟩ := HDO.out.1.m;have hkl := HKL.out
    exact ⟨⟨hrow, ⟨xs, hx, (ha.out hout (fun k e => by subst e; exact hkl.2.1)).base hkl.2.2⟩, ys, hy, (hl.out hout (fun k e => by subst e; exact hkl.2.1)).base hkl.2.2⟩, hbz⟩
   clear hHeld HDO HB5 HX5 hx5 hout hrow hbz HBX HBW hS HCD p0 p1 pf pz y0 y1 yf yz;go_wp2
   go_roundw
   case rel => exact ⟨t + 1, a2, c2, b2, d2, by go_num, by omega, hideIt (by rw [HPS.out]; exact HN.out)⟩
   case measure => simp [intOf]; omega
  ·have hltI : ¬ (t : Int) < (R.length : Int) := by omega
   obtain rfl : t = R.length := by omega
   have HX' := HX;rw [List.take_length] at HX';have HMB := hideIt HX'.out.1;have HBW := hideIt HX'.out.2;clear HX HX' H8 HK ht hltI h8;clear HR;generalize plyM R = M at *
   by_cases hA1 : acct < 1
   ·clear HMB HPL HD1 HD2
    go_wp2_with fail
    refine (HL.out _ HBW.out).mono ?_;rintro e w3 ⟨rfl, hb⟩;have HF := hideIt (below_via HBW.out hb);clear hb;go_wp2;go_ret
    exact ⟨rfl, HF.out⟩
   ·by_cases hA8 : 8 < acct
    ·clear HMB HPL HD1 HD2
     go_wp2_with fail
     refine (HL.out _ HBW.out).mono ?_;rintro e w3 ⟨rfl, hb⟩;have HF := hideIt (below_via HBW.out hb);clear hb;go_wp2;go_ret
     exact ⟨rfl, HF.out⟩
    ·obtain ⟨g1, g2, g3, g4, g5, g6⟩ := HPL.out ⟨by omega, by omega⟩;simp only [g6] at HD2;clear g6 HPL;generalize doM M (netQ acct) = Z1 at *;obtain ⟨N, A1⟩ := Z1;simp only at g1 g4 g5 HD1 HD2;unfold Se.reqC netQ at HD1 HD2;simp only at HD1 HD2;have HG5 := hideIt g5;have HGL := hideIt (And.intro g2 (And.intro g3 g4));have HG1 := hideIt g1;clear g1 g2 g3 g4 g5;have hb1 := below1 wr (.cells #[.int .i64 7, .int .i64 acct, .int .i64 0, .int .i64 0, .int .i64 0, .int .i64 0, .int .i64 0, .bool false, .int .i64 0, .int .i64 0, .int .i64 0] 26);have HM1 := hideIt (HMB.out.keep hb1);have HX1 := hideIt (heap_alloc_new wr (.cells #[.int .i64 7, .int .i64 acct, .int .i64 0, .int .i64 0, .int .i64 0, .int .i64 0, .int .i64 0, .bool false, .int .i64 0, .int .i64 0, .int .i64 0] 26));have HB1 := hideIt (below_via HBW.out hb1);clear hb1 HMB HBW
     go_upto_region 10 with fail
     generalize (World.alloc wr (.cells #[.int .i64 7, .int .i64 acct, .int .i64 0, .int .i64 0, .int .i64 0, .int .i64 0, .int .i64 0, .bool false, .int .i64 0, .int .i64 0, .int .i64 0] 26)) = W1 at *;generalize wr.heap.size = X at *;obtain ⟨⟨p0, p1⟩, pf, pz⟩ := at2 HM1.out.box;obtain ⟨⟨r0, r1, r2, r3, r4, r5, r6, r7, r8, r9, r10⟩, rf, rz⟩ := at11 HX1.out
     go_wp2_with fail
     refine (HD1.out _ _ _ HM1.out.md.at_ (HFO.out _ HB1.out)).mono ?_;rintro e V ⟨a1, c1, b1, d1, f1, i1, j1, k1, rfl, HDO⟩;dsimp only;obtain ⟨n1, n2, n3⟩ := do_nw (Z := (N, A1)) HB1.out HDO.out _ rfl;have HP := hideIt n1;have HU := hideIt n2;have HM := hideIt (HM1.out.keep n3);have HX := hideIt (blkK HX1.out n3);have HB := hideIt (below_via HB1.out n3);clear r0 r1 r2 r3 r4 r5 r6 r7 r8 r9 r10 rf rz p0 p1 pf pz;clear n1 n2 n3 HDO HM1 HX1 HB1 HD1;unfold ansC at HP HU HM HX HB;simp only at HP HU HM HX HB
     go_upto_region 11 with fail
     generalize (World.alloc (World.alloc V _) (.cells #[.int .i64 A1.code, .int .i64 A1.num, .slice f1 A1.am.length i1, .slice j1 A1.fl.length k1] 36)) = W5 at *;generalize V.heap.size = P at *;obtain ⟨⟨s0, s1, s2, s3⟩, sf, sz⟩ := at4 HU.out.box;obtain ⟨⟨p0, p1⟩, pf, pz⟩ := at2 HP.out.box;obtain ⟨⟨m0, m1⟩, mf, mz⟩ := at2 HM.out.box;rw [HG1.out] at s0;rw [HGL.out.1] at m1;rw [HGL.out.2.1] at m0;rw [HGL.out.2.2] at p0
     go_upto_region 16 with fail
     clear s0 s1 s2 s3 sf sz p0 p1 pf pz m0 m1 mf mz HU HG1
     go_loopw [10] (fun v wz => ∃ k : Nat, v = .int .i64 k ∧ k ≤ 4 ∧ Hid (Below W5.heap.size W5 wz)) (fun v _ => 4 - (intOf v).toNat)
     case atStart => exact ⟨0, rfl, by omega, hideIt (Below.refl _ _)⟩
     case round =>
      obtain ⟨k, rfl, hk, HW⟩ := hrel
      by_cases hlt : k < 4
      ·have hltI : (k : Int) ≤ 3 := by omega
       go_upto_region 20 with fail
       go_loopw [11, 12] (fun u v wz => ∃ i : Nat, u = .int .i64 (oweM M acct k i) ∧ v = .int .i64 i ∧ i ≤ 3 ∧ Hid (Below W5.heap.size W5 wz)) (fun _ v _ => 3 - (intOf v).toNat)
       case atStart => exact ⟨0, rfl, rfl, by omega, HW⟩
       case round =>
        clear HW;obtain ⟨i, rfl, rfl, hi, HW⟩ := hrel
        by_cases hli : i < 3
        ·have hliI : (i : Int) < 3 := by omega
         have hi0 : (0 : Int) ≤ (i : Int) := by omega
         obtain ⟨x, -, -, hx⟩ := HG5.out;obtain ⟨hck, ho1, ho2, ho3, ho4⟩ := owe_facts HINV.out.may hli (hx k hlt).2.2;have hst := oweM_step M acct k i hli;obtain ⟨lb, lo, oa, oc, hba, hlb, hlc, hlo⟩ := HM.out.md.owed_at (i := i) (by have := HGL.out.1; omega)
         subst hba;have HLO := hideIt hlo;have HLC := hideIt (And.intro hlb hlc);have HY := hideIt (owe_mem hck);have h16 := (chk_may hck).ow.1;have hcast : ((i + 1 : Nat) : Int) = (i : Int) + 1 := by omega
         have HO := hideIt (And.intro ho1 (And.intro ho2 (And.intro ho3 ho4)));have HST := hideIt hst;clear hx hck ho1 ho2 ho3 ho4 hst hlb hlc hlo x;generalize (M.l.getD i zLane) = L at *
         go_upto_region 23 with fail
         go_loopw [11, 13] (fun u v wz => ∃ t : Nat, u = .int .i64 (oweM M acct k i + oweS acct ((i + 1 : Nat) : Int) k (L.owed.take t)) ∧ v = .int .i64 t ∧ t ≤ L.owed.length ∧ Hid (Below W5.heap.size W5 wz)) (fun _ v _ => L.owed.length - (intOf v).toNat)
         case atStart => exact ⟨0, by rw [List.take_zero]; simp [oweS], rfl, Nat.zero_le _, HW⟩
         case round =>
          clear HW;obtain ⟨t, rfl, rfl, ht, HW⟩ := hrel;obtain ⟨⟨m0, m1⟩, mf, mz⟩ := at2 (blkK HM.out.box HW.out);rw [HGL.out.1] at m1;have y4 := (HW.out.cell (p := ⟨lb, lo + i * 5 + 4, none⟩) HLC.out.1).trans HLC.out.2;have yz : lb < wr.heap.size := Nat.lt_of_lt_of_le HLC.out.1 HW.out.size
          by_cases hlj : t < L.owed.length
          ·have hljI : (t : Int) < (L.owed.length : Int) := by omega
           have ht0 : (0 : Int) ≤ (t : Int) := by omega
           obtain ⟨ob, oo, hoa, hob, q0, q1, q2⟩ := owes_at HLO.out hlj;subst hoa;have o0 := (HW.out.cell (p := ⟨ob, oo + t * 3, none⟩) hob).trans q0;have o1 := (HW.out.cell (p := ⟨ob, oo + t * 3 + 1, none⟩) hob).trans q1;have o2 := (HW.out.cell (p := ⟨ob, oo + t * 3 + 2, none⟩) hob).trans q2;have oz : ob < wr.heap.size := Nat.lt_of_lt_of_le hob HW.out.size;have HE := hideIt (oweS_take acct ((i + 1 : Nat) : Int) k L.owed t hlj);have hle := oweS_le acct ((i + 1 : Nat) : Int) k L.owed t (fun y hy => by have := HY.out y hy; omega) hlj
           rw [HO.out.1] at hle;have hps := oweS_pos acct ((i + 1 : Nat) : Int) k (L.owed.take t) (fun y hy => by have := HY.out y (List.mem_of_mem_take hy); omega)
           have hym := HY.out _ (List.getElem_mem hlj);have hoo := HO.out.2;clear q0 q1 q2 hob;generalize oweS acct ((i + 1 : Nat) : Int) k (L.owed.take t) = sm at *;generalize oweM M acct k i = sM at *;obtain ⟨SS, hSS⟩ : ∃ x, x = sM + sm := ⟨_, rfl⟩;rw [← hSS];have hSb : 0 ≤ SS ∧ SS ≤ 200000000 := by
            have : (0 : Int) ≤ (if (L.owed[t]).acc = acct ∧ (L.owed[t]).asset * ((i + 1 : Nat) : Int) = k then (L.owed[t]).n else 0) := by split <;> omega
            omega
           have HSS := hideIt hSS;generalize L.owed[t] = Y at *;obtain ⟨yac, yas, yn⟩ := Y;simp only at o0 o1 o2 HE hle hym;have hb2 := below1 wr (.cells #[.int .i64 yac, .int .i64 yas, .int .i64 yn] 61);have HW2 := hideIt (below_via HW.out hb2);have hx2 := heap_alloc_new wr (.cells #[.int .i64 yac, .int .i64 yas, .int .i64 yn] 61);clear hb2 HW hSS
           go_upto_region 26 with fail
           clear m0 m1 mf mz y4 yz o0 o1 o2 oz;generalize (World.alloc wr (.cells #[.int .i64 yac, .int .i64 yas, .int .i64 yn] 61)) = W7 at *;have c0 : W7.cell? ⟨wr.heap.size, 0, none⟩ = some (.int .i64 yac) := by rw [cell_at hx2]; rfl
           have c1 : W7.cell? ⟨wr.heap.size, 1, none⟩ = some (.int .i64 yas) := by rw [cell_at hx2]; rfl
           have c2 : W7.cell? ⟨wr.heap.size, 2, none⟩ = some (.int .i64 yn) := by rw [cell_at hx2]; rfl
           have cz := (Array.getElem?_eq_some_iff.1 hx2).1;have hwi : IntKind.i64.wrap ((i : Int) + 1) = (i : Int) + 1 := by rw [IntKind.wrap_i64]; omega
           have hml : (0 : Int) ≤ yas * ((i : Int) + 1) ∧ yas * ((i : Int) + 1) ≤ 3 := by
            rcases hym.2.1 with e | e
            ·rw [e]; omega
            ·rw [e]; omega
           have hwm : IntKind.i64.wrap (yas * ((i : Int) + 1)) = yas * ((i : Int) + 1) := by rw [IntKind.wrap_i64]; omega
           clear hx2
           by_cases hca : yac = acct
           ·by_cases hcb : yas * ((i : Int) + 1) = k
            ·have hws : IntKind.i64.wrap (SS + yn) = SS + yn := by
              rw [if_pos ⟨hca, by rw [hcast]; exact hcb⟩] at hle
              have := HSS.out;rw [IntKind.wrap_i64];omega
             have HN : Hid (SS + yn = sM + oweS acct ((i + 1 : Nat) : Int) k (L.owed.take (t + 1))) := by
              show _ = _
              rw [HE.out, if_pos ⟨hca, by rw [hcast]; exact hcb⟩, HSS.out]
              omega
             have hcbB : (yas * ((i : Int) + 1) == (k : Int)) = true := beq_iff_eq.2 hcb;subst hca;clear hle hym hoo hSb hml hcb;go_wp2
             go_roundw
             case rel => exact ⟨t + 1, by rw [← HN.out], by go_num, by omega, HW2⟩
             case measure => simp [intOf]; omega
            ·have hcbB : (yas * ((i : Int) + 1) == (k : Int)) = false := beq_eq_false_iff_ne.2 hcb;have HN : Hid (SS = sM + oweS acct ((i + 1 : Nat) : Int) k (L.owed.take (t + 1))) := by
              show _ = _
              rw [HE.out, if_neg (fun x => hcb (by rw [← hcast]; exact x.2)), HSS.out]
              omega
             subst hca;clear hle hym hoo hSb hml hcb;go_wp2
             go_roundw
             case rel => exact ⟨t + 1, by rw [← HN.out], by go_num, by omega, HW2⟩
             case measure => simp [intOf]; omega
           ·have hcaB : (yac == acct) = false := beq_eq_false_iff_ne.2 hca;have HN : Hid (SS = sM + oweS acct ((i + 1 : Nat) : Int) k (L.owed.take (t + 1))) := by
             show _ = _
             rw [HE.out, if_neg (fun x => hca x.1), HSS.out];omega
            clear hle hym hoo hSb hml hca;go_wp2
            go_roundw
            case rel => exact ⟨t + 1, by rw [← HN.out], by go_num, by omega, HW2⟩
            case measure => simp [intOf]; omega
          ·have hljI : ¬ (t : Int) < (L.owed.length : Int) := by omega
           obtain rfl : t = L.owed.length := by omega
           rw [List.take_length, HO.out.1, ← HST.out];clear HLO HY HO;go_wp2
           go_roundw
           case rel => exact ⟨i + 1, rfl, by go_num, by omega, HW⟩
           case measure => simp [intOf]; omega
        ·have hliI : ¬ (i : Int) < 3 := by omega
         obtain rfl : i = 3 := by omega
         rw [oweM_end];obtain ⟨x, hx8, hxa, hx⟩ := HG5.out;obtain ⟨hx1, hx2, hx3⟩ := hx k hlt;have hbb := HINV.out.acc hx8 (a := (k : Int)) (by omega);obtain ⟨gm, hgm⟩ := HM.out.addr (by have := HGL.out.2.1; omega)
         obtain ⟨gn, hgn⟩ := HP.out.addr (by have := HGL.out.2.2; omega)
         subst hgm hgn;obtain ⟨y1, fa, fc, y2, y3⟩ := HM.out.md.free_at (i := x) (by have := HGL.out.2.1; omega)
         obtain ⟨z1, fb, fd, z2, z3⟩ := HP.out.md.free_at (i := x) (by have := HGL.out.2.2; omega)
         have y4 := HM.out.md.ctn_at (i := x) (by have := HGL.out.2.1; omega)
         have z4 := HP.out.md.ctn_at (i := x) (by have := HGL.out.2.2; omega)
         obtain ⟨⟨p0, p1⟩, pf, pz⟩ := at2 HP.out.box;obtain ⟨⟨m0, m1⟩, mf, mz⟩ := at2 HM.out.box;rw [HGL.out.2.1] at m0;rw [HGL.out.2.2] at p0;have HS : Hid (∀ W, Below W5.heap.size W5 W → W.cell? ⟨P, 0, none⟩ = some (.slice (some ⟨gn, 0, none⟩) 8 c1) ∧ W.cell? ⟨gn, x * 2, none⟩ = some (.slice fb (N.a.getD x Lg.zA).l.length fd) ∧ W.cell? ⟨gn, x * 2 + 1, none⟩ = some (.int .i64 (N.a.getD x Lg.zA).ct) ∧ W.cell? ⟨K, 0, none⟩ = some (.slice (some ⟨gm, 0, none⟩) 8 c) ∧ W.cell? ⟨gm, x * 2, none⟩ = some (.slice fa (M.a.getD x Lg.zA).l.length fc) ∧ W.cell? ⟨gm, x * 2 + 1, none⟩ = some (.int .i64 (M.a.getD x Lg.zA).ct)) := fun W hW => ⟨(hW.cell (p := ⟨P, 0, none⟩) pz).trans p0, (hW.cell (p := ⟨gn, x * 2, none⟩) z1).trans z2, (hW.cell (p := ⟨gn, x * 2 + 1, none⟩) z1).trans z4, (hW.cell (p := ⟨K, 0, none⟩) mz).trans m0, (hW.cell (p := ⟨gm, x * 2, none⟩) y1).trans y2, (hW.cell (p := ⟨gm, x * 2 + 1, none⟩) y1).trans y4⟩
         have HBA := hideIt (fun W (hW : Below W5.heap.size W5 W) => Lg.rBalance_is (N.a.getD x Lg.zA) _ (k : Int) W (z3.keep hW));have HBB := hideIt (fun W (hW : Below W5.heap.size W5 W) => Lg.rBalance_is (M.a.getD x Lg.zA) _ (k : Int) W (y3.keep hW));rw [hx1] at HBA;unfold Lg.accV Lg.accA at HBA HBB;generalize Lg.balL (M.a.getD x Lg.zA).l k = bal at *;generalize netS M acct k = nt at *;generalize (N.a.getD x Lg.zA).l.length = nl at *;generalize (M.a.getD x Lg.zA).l.length = ml at *;generalize (N.a.getD x Lg.zA).ct = nc at *;generalize (M.a.getD x Lg.zA).ct = mc at *;have hws : IntKind.i64.wrap (bal + nt) = bal + nt := by rw [IntKind.wrap_i64]; omega
         have hwx : IntKind.i64.wrap ((x : Int) + 1 - 1) = (x : Int) := by rw [IntKind.wrap_i64]; omega
         have hwy : IntKind.i64.wrap (x : Int) = (x : Int) := by rw [IntKind.wrap_i64]; omega
         have hx8I : (x : Int) < 8 := by omega
         have hx0 : (0 : Int) ≤ (x : Int) := by omega
         have HCA : Hid (∀ W, Below wr.heap.size wr W → Calls Tryz.prog 19 #[.agg #[.slice fb nl fd, .int .i64 nc], .int .i64 (k : Int)] W fun e w' => e = .returned (.int .i64 (bal + nt)) ∧ Hid (Below wr.heap.size wr w') ∧ (w'.cell? ⟨P, 0, none⟩ = some (.slice (some ⟨gn, 0, none⟩) 8 c1) ∧ w'.cell? ⟨gn, x * 2, none⟩ = some (.slice fb nl fd) ∧ w'.cell? ⟨gn, x * 2 + 1, none⟩ = some (.int .i64 nc) ∧ w'.cell? ⟨K, 0, none⟩ = some (.slice (some ⟨gm, 0, none⟩) 8 c) ∧ w'.cell? ⟨gm, x * 2, none⟩ = some (.slice fa ml fc) ∧ w'.cell? ⟨gm, x * 2 + 1, none⟩ = some (.int .i64 mc))) := by
          intro W hW;refine (HBA.out W (below_via HW.out hW)).mono ?_;rintro e w' ⟨rfl, hb⟩
          exact ⟨rfl, hideIt (below_via hW hb), HS.out w' (below_via HW.out (below_via hW hb))⟩
         have HCB : Hid (∀ W, Below wr.heap.size wr W → Calls Tryz.prog 19 #[.agg #[.slice fa ml fc, .int .i64 mc], .int .i64 (k : Int)] W fun e w' => e = .returned (.int .i64 bal) ∧ Hid (Below wr.heap.size wr w') ∧ (w'.cell? ⟨P, 0, none⟩ = some (.slice (some ⟨gn, 0, none⟩) 8 c1) ∧ w'.cell? ⟨gn, x * 2, none⟩ = some (.slice fb nl fd) ∧ w'.cell? ⟨gn, x * 2 + 1, none⟩ = some (.int .i64 nc) ∧ w'.cell? ⟨K, 0, none⟩ = some (.slice (some ⟨gm, 0, none⟩) 8 c) ∧ w'.cell? ⟨gm, x * 2, none⟩ = some (.slice fa ml fc) ∧ w'.cell? ⟨gm, x * 2 + 1, none⟩ = some (.int .i64 mc))) := by
          intro W hW;refine (HBB.out W (below_via HW.out hW)).mono ?_;rintro e w' ⟨rfl, hb⟩
          exact ⟨rfl, hideIt (below_via hW hb), HS.out w' (below_via HW.out (below_via hW hb))⟩
         clear y1 y2 y3 y4 z1 z2 z3 z4 p0 p1 pf pz m0 m1 mf mz hx1 hx2 hx3 hbb;subst hxa
         go_upto_region 28 with fail
         go_cut [138] from 120 to 138 (fun v wz => v = .bool false ∧ Hid (Below wr.heap.size wr wz))
         case first =>
          clear HM HP HX HFO HL HD2 HINV HG5 HGL HB;obtain ⟨v0, v1, v2, v3, v4, v5⟩ := HS.out wr HW.out;clear HBA HBB HS
          go_region_held3 (fun W => W.cell? ⟨P, 0, none⟩ = some (.slice (some ⟨gn, 0, none⟩) 8 c1) ∧ W.cell? ⟨gn, x * 2, none⟩ = some (.slice fb nl fd) ∧ W.cell? ⟨gn, x * 2 + 1, none⟩ = some (.int .i64 nc) ∧ W.cell? ⟨K, 0, none⟩ = some (.slice (some ⟨gm, 0, none⟩) 8 c) ∧ W.cell? ⟨gm, x * 2, none⟩ = some (.slice fa ml fc) ∧ W.cell? ⟨gm, x * 2 + 1, none⟩ = some (.int .i64 mc)) (go_keep) (first | (go_at_call 19; refine (HCA.out _ (by first | exact (Below.refl _ _).drew | exact HQB.out)).mono ?_; clear HCA; rintro e w5 ⟨rfl, HQA, ⟨i0, i1, i2, i3, i4, i5⟩⟩) | (go_at_call 19; refine (HCB.out _ (by first | exact (Below.refl _ _).drew | exact HQA.out)).mono ?_; clear HCB; rintro e w6 ⟨rfl, HQB, ⟨k0, k1, k2, k3, k4, k5⟩⟩))
          all_goals go_wp2_with fail
          all_goals go_meet
          all_goals first | exact ⟨rfl, HQB⟩ | exact ⟨rfl, HQA⟩
         case rest =>
         obtain ⟨rfl, HQ⟩ := hcut;have HW2 := hideIt (below_via HW.out HQ.out);clear HS HBA HBB HQ HW;go_wp2
         go_roundw
         case rel => exact ⟨k + 1, by go_num, by omega, HW2⟩
         case measure => simp [intOf]; omega
      ·have hltI : ¬ (k : Int) ≤ 3 := by omega
       have HP5 := hideIt (HP.out.keep HW.out);have HX5 := hideIt (blkK HX.out HW.out);have HB5 := hideIt (below_via HB.out HW.out);clear HM HP HX HB HW HG5 HGL HINV;obtain ⟨⟨p0, p1⟩, pf, pz⟩ := at2 HP5.out.box;obtain ⟨⟨r0, r1, r2, r3, r4, r5, r6, r7, r8, r9, r10⟩, rf, rz⟩ := at11 HX5.out
       go_wp2_with fail
       refine (HD2.out _ _ _ HP5.out.md.at_ (HFO.out _ HB5.out)).mono ?_;rintro e V ⟨a2, c2, b2, d2, f2, i2, j2, k2, rfl, HDO⟩;dsimp only;obtain ⟨n1, n2, n3⟩ := do_nw (Z := (N, ⟨0, 0, [], []⟩)) HB5.out HDO.out _ rfl;have HO := hideIt n1;have HV := hideIt n2;have HP6 := hideIt (HP5.out.keep n3);have HB6 := hideIt (below_via HB5.out n3);clear r0 r1 r2 r3 r4 r5 r6 r7 r8 r9 r10 rf rz p0 p1 pf pz;clear n1 n2 n3 HDO HP5 HX5 HB5 HD2;unfold ansC at HO HV HP6 HB6;simp only [List.length_nil] at HO HV HP6 HB6
       go_upto_region 31 with fail
       generalize (World.alloc (World.alloc V _) _) = W8 at *;generalize V.heap.size = Q2 at *;have hvb := HV.out.box;simp only [ansC, List.length_nil] at hvb;obtain ⟨⟨s0, s1, s2, s3⟩, sf, sz⟩ := at4 hvb;obtain ⟨⟨p0, p1⟩, pf, pz⟩ := at2 HP6.out.box;obtain ⟨⟨o0, o1⟩, of, oz⟩ := at2 HO.out.box;clear hvb
       go_wp2_with fail
       refine (sameM_is _ _ _ _ N _ HO.out.md.at_ HP6.out.md.at_).mono ?_;rintro e W9 ⟨rfl, hb⟩;dsimp only;have HB7 := hideIt (below_via HB6.out hb);clear s0 s1 s2 s3 sf sz p0 p1 pf pz o0 o1 of oz hb HO HP6 HV HB6
       go_wp2_with fail
       refine (HL.out _ HB7.out).mono ?_;rintro e WA ⟨rfl, hb⟩;have HF := hideIt (below_via HB7.out hb);clear hb;go_wp2;go_ret
       exact ⟨rfl, HF.out⟩
end Go.Proofs.YtiinigifjdpicaaGreatDoor
