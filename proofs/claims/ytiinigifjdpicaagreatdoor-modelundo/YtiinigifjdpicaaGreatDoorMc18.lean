/- Texts of my own, laid together. -/
import Derived.Test.YtiinigifjdpicaaGreatDoorMc17
import Derived.Deep.WholeRow
import Derived.Test.YtiinigifjdpicaaGreatDoorRows
import Derived.ProofKit
import Derived.LaidMore
import Derived.OpenShut
import Derived.Stop.Joined
import Derived.Below
import Derived.ChangeOld
import Derived.SizedLaws
namespace Go.Proofs.YtiinigifjdpicaaGreatDoor
open Go.RowKit
set_option linter.all false
theorem AccsOwn.out {B : Nat} {F : Nat → Prop} {wa wb : World} {v : Value} {l : List AccX} (h : AccsOwn B wa v l) (ho : Out F wa wb) (hF : ∀ k, F k → k < B) : AccsOwn B wb v l := ⟨own_out h.row ho hF, fun c hc => ⟨own_out (h.own c hc).f ho hF, (h.own c hc).s⟩, h.siz⟩
theorem LnsOwn.out {B : Nat} {F : Nat → Prop} {wa wb : World} {v : Value} {l : List LanX} (h : LnsOwn B wa v l) (ho : Out F wa wb) (hF : ∀ k, F k → k < B) : LnsOwn B wb v l := ⟨own_out h.row ho hF, fun c hc => ⟨own_out (h.own c hc).b ho hF, own_out (h.own c hc).a ho hF, own_out (h.own c hc).o ho hF, (h.own c hc).sb, (h.own c hc).sa, (h.own c hc).so⟩, h.siz⟩
theorem row_addr {w : World} {B n z c : Nat} {e : TypeId} {a : Option Addr} {xs : List Value} (h : w.ownsRow B e z (.slice a n c) n xs) (hn : 0 < n) : ∃ g, a = some ⟨g, 0, none⟩ := by
 obtain ⟨_, ⟨hv, h0⟩ | ⟨g, cap, cur, hv, _⟩⟩ := h
 ·omega
 ·simp only [Value.slice.injEq] at hv
  exact ⟨g, hv.1⟩
def wk0 (xs : List AccX) (ga ca : Nat) (ys : List LanX) (gl cl : Nat) (r : ReqV) : WkX := ⟨xs, ga, ca, ys, gl, cl, r, fun _ => 0, 0, none, 0, [], none, 0, [], .slice none 0 0, []⟩
theorem wk0_st (xs : List AccX) (ga ca : Nat) (ys : List LanX) (gl cl : Nat) (r : ReqV) : (wk0 xs ga ca ys gl cl r).st = st0 ⟨xs.map AccX.v, ys.map LanX.v⟩ := rfl
theorem wk_begin {w2 W : World} {K : Nat} {xs : List AccX} {ga ca : Nat} {ys : List LanX} {gl cl : Nat} {r : ReqV} (hbox : W.heap[K]? = some (.cells (wkA (wk0 xs ga ca ys gl cl r)) 69 (0, 0))) (ha : AccsOwn w2.heap.size W (.slice (some ⟨ga, 0, none⟩) xs.length ca) xs) (hl : LnsOwn w2.heap.size W (.slice (some ⟨gl, 0, none⟩) ys.length cl) ys) (hK : w2.heap.size ≤ K) (hb : Below w2.heap.size w2 W) : WK w2 K (wk0 xs ga ca ys gl cl r) W :=
 ⟨hbox, ha, hl, own_nil _ _, own_nil _ _, own_nil _ _, by simp [wk0], by simp [wk0], hK, hb⟩
theorem doAtG (w : World) (K : Nat) (k : Int × Int) (X : WkX) (wx : World) (h : WK w K X wx) (hf : Se.fitsB X.r = true) (hk : k ∈ turL X.r) (ha : X.A.length = 8) (hl : X.L.length = 3) (hc : ∀ y ∈ X.st.l, chkB y = true) : Calls Tryz.prog 24 #[.pointer (some ⟨K, 0, none⟩), .agg #[.int .i64 k.1, .int .i64 k.2]] wx (WkB w K X (stAt X.r k X.st)) := by
 by_cases h9 : X.r.kind = 9
 ·exact doAt9 w K k.1 k.2 X wx h h9
 ·obtain ⟨n, e, hn⟩ := (tur_ok hf h9).2 k hk;obtain ⟨k1, k2⟩ := k;simp only at e hn;subst e;exact doAt_is w K k1 n X wx h (by rw [ha, hl]; exact hn) hf (fun x hx => hc _ (List.mem_map_of_mem hx)) (by omega) h9
theorem step_store_rowK {ops : Array Oper} {o : Oper} {a : Act} {w : World} {K : Act → World → Prop} {Q : Exit → Act → World → Prop} {E : Prop}
  (hgd : o.guard = none) (ty : TypeId) (x y : Operand) (ho : o.op = .store ty x y) (g : Nat) (cells : Array Value) (hx : a.eval x = .pointer (some ⟨g, 0, none⟩)) (hy : a.eval y = .agg cells) (t : TypeId) (old : Array Value) (hg : w.heap[g]? = some (.cells old t (0, 0))) (hi : (Tryz.prog.info? ty).map (·.size) = some cells.size) (hold : old.size = cells.size) (h1 : cells.all (·.oneCell') = true) (hK : K (a.put o.dst undef) (w.setRow g cells)) :
  if Region.wanted o (yielded ops a.tmps) = true then Oper.wp Tryz.prog o a w K Q else E := by
 have hw : Region.wanted o (yielded ops a.tmps) = true := by simp [Region.wanted, hgd]
 rw [if_pos hw];exact wp_store_row ty x y ho g cells hx hy t old hg hi hold h1 hK
theorem setRow_out (w : World) (g : Nat) (cells : Array Value) : Out (fun k => k = g) w (w.setRow g cells) := by
 refine ⟨rfl, rfl, rfl, by simp [World.setRow], fun i hi hn => ?_⟩;simp only [World.setRow];rw [Array.getElem?_modify, if_neg (fun e => hn e.symm)]
theorem DoBack.drew {X : MdlV × AnsV} {w : World} {e : Ending} {w' : World} (h : DoBack X w e w') : DoBack X w e w'.drew := by
 obtain ⟨a, c, b, d, f1, f2, g1, g2, he, ho⟩ := h;have hb := (Below.refl w'.heap.size w').drew
 exact ⟨a, c, b, d, f1, f2, g1, g2, he, hideIt ⟨⟨ho.out.1.m.keep hb, own_keep ho.out.1.am hb, own_keep ho.out.1.fl hb, ho.out.1.sa, ho.out.1.sf⟩, ho.out.2.drew⟩⟩
theorem tur_len (r : ReqV) : (turL r).length ≤ 4 := by
 have h : (Se.keysB r).length ≤ 4 := by
  unfold Se.keysB Se.keyT
  repeat' split
  all_goals simp
 unfold turL
 split
 ·rw [List.length_append, List.length_drop, List.length_take];omega
 ·exact h
set_option maxRecDepth 100000 in
set_option maxHeartbeats 32000000 in
theorem do_run (va vl : Value) (M : MdlV) (r : ReqV) (w : World) (h : Mdl w va vl M) (hF : Se.Forms w) (h1 : mayM M = true) (h2 : Se.fitsB r = true) : Calls Tryz.prog 10 #[.agg #[va, vl], .agg (Se.reqC r)] w (DoBack (doM M r) w) := by
 have HZ : Hid (doM M r = if (runT r (turL r) (st0 M)).2 = 0 then (⟨(runT r (turL r) (st0 M)).1.a, (runT r (turL r) (st0 M)).1.l⟩, ⟨0, (runT r (turL r) (st0 M)).1.num, (runT r (turL r) (st0 M)).1.am, (runT r (turL r) (st0 M)).1.fl⟩) else (M, ⟨6, 0, [], []⟩)) := by
  show _ = _
  unfold doM;rw [h1, h2]
  rfl
 generalize doM M r = ZZ at *;have hmy := may_in h1;have HMI := hideIt hmy;have HFT := hideIt h2;have D0 := hideIt (DX.first (r := r) h hF);clear h hF hmy;unfold Se.reqC at *
 go_enter Tryz.func10, Tryz.ntmps10
 go_upto_region 1 with fail
 generalize (World.alloc _ (.cells #[.int .i64 0, .int .i64 0, .slice none 0 0, .slice none 0 0] 36)) = W0 at *;have HMY := hideIt (mayBe_is va vl M W0 D0.out.md);obtain ⟨⟨m0, m1⟩, -, mz⟩ := at2 D0.out.m;rw [h1] at HMY;clear h1
 go_wp2_with fail
 refine HMY.out.mono ?_;rintro e w1 ⟨rfl, hb⟩;dsimp only;have D1 := hideIt (D0.out.keep hb);clear D0 HMY hb m0 m1 mz;have HFI := hideIt (Se.fits_is r w1 D1.out.fo);rw [h2] at HFI;unfold Se.reqC at HFI;have hr := D1.out.r;unfold Se.reqC at hr;obtain ⟨⟨r0, r1, r2, r3, r4, r5, r6, r7, r8, r9, r10⟩, -, rz⟩ := at11 hr;clear hr h2
 go_wp2_with fail
 refine HFI.out.mono ?_;rintro e w2 ⟨rfl, hb⟩;dsimp only;have D2 := hideIt (D1.out.keep hb);clear D1 HFI hb r0 r1 r2 r3 r4 r5 r6 r7 r8 r9 r10 rz
 go_upto_region 3 with fail
 have HFA : Hid (∀ W, Below w2.heap.size w2 W → W.cell? ⟨w.heap.size, 0, none⟩ = some va ∧ W.cell? ⟨w.heap.size, 1, none⟩ = some vl ∧ W.cell? ⟨w.heap.size + 1, 0, none⟩ = some (.int .i64 r.kind) ∧ W.cell? ⟨w.heap.size + 1, 1, none⟩ = some (.int .i64 r.acct) ∧ W.cell? ⟨w.heap.size + 1, 2, none⟩ = some (.int .i64 r.lane) ∧ W.cell? ⟨w.heap.size + 1, 3, none⟩ = some (.int .i64 r.asset) ∧ W.cell? ⟨w.heap.size + 1, 4, none⟩ = some (.int .i64 r.side) ∧ W.cell? ⟨w.heap.size + 1, 5, none⟩ = some (.int .i64 r.price) ∧ W.cell? ⟨w.heap.size + 1, 6, none⟩ = some (.int .i64 r.n) ∧ W.cell? ⟨w.heap.size + 1, 7, none⟩ = some (.bool r.now) ∧ W.cell? ⟨w.heap.size + 1, 8, none⟩ = some (.int .i64 r.key.1) ∧ W.cell? ⟨w.heap.size + 1, 9, none⟩ = some (.int .i64 r.key.2) ∧ W.cell? ⟨w.heap.size + 1, 10, none⟩ = some (.int .i64 r.dst)) := by
  intro W hW;have dx := D2.out.keep hW;obtain ⟨⟨p0, p1⟩, -, -⟩ := at2 dx.m;have hr := dx.r;unfold Se.reqC at hr;obtain ⟨⟨r0, r1, r2, r3, r4, r5, r6, r7, r8, r9, r10⟩, -, -⟩ := at11 hr
  exact ⟨p0, p1, r0, r1, r2, r3, r4, r5, r6, r7, r8, r9, r10⟩
 have HCY : Hid (∀ W, Below w2.heap.size w2 W → Calls Tryz.prog 22 #[.agg #[va, vl]] W fun e w' => ∃ a c b d, e = .returned (.agg #[.slice a M.a.length c, .slice b M.l.length d]) ∧ Hid (MdlOwn W.heap.size w' (.slice a M.a.length c) (.slice b M.l.length d) M ∧ Below w2.heap.size w2 w' ∧ Below W.heap.size W w') ∧ (w'.cell? ⟨w.heap.size, 0, none⟩ = some va ∧ w'.cell? ⟨w.heap.size, 1, none⟩ = some vl ∧ w'.cell? ⟨w.heap.size + 1, 0, none⟩ = some (.int .i64 r.kind) ∧ w'.cell? ⟨w.heap.size + 1, 1, none⟩ = some (.int .i64 r.acct) ∧ w'.cell? ⟨w.heap.size + 1, 2, none⟩ = some (.int .i64 r.lane) ∧ w'.cell? ⟨w.heap.size + 1, 3, none⟩ = some (.int .i64 r.asset) ∧ w'.cell? ⟨w.heap.size + 1, 4, none⟩ = some (.int .i64 r.side) ∧ w'.cell? ⟨w.heap.size + 1, 5, none⟩ = some (.int .i64 r.price) ∧ w'.cell? ⟨w.heap.size + 1, 6, none⟩ = some (.int .i64 r.n) ∧ w'.cell? ⟨w.heap.size + 1, 7, none⟩ = some (.bool r.now) ∧ w'.cell? ⟨w.heap.size + 1, 8, none⟩ = some (.int .i64 r.key.1) ∧ w'.cell? ⟨w.heap.size + 1, 9, none⟩ = some (.int .i64 r.key.2) ∧ w'.cell? ⟨w.heap.size + 1, 10, none⟩ = some (.int .i64 r.dst))) := by
  intro W hW;refine (model_is va vl M W (D2.out.md.keep hW)).mono ?_;rintro e w' ⟨a, c, b, d, rfl, ho, hb⟩
  exact ⟨a, c, b, d, rfl, hideIt ⟨ho, below_via hW hb, hb⟩, HFA.out w' (below_via hW hb)⟩
 obtain ⟨p0, p1, r0, r1, r2, r3, r4, r5, r6, r7, r8, r9, r10⟩ := HFA.out w2 (Below.refl _ _);have NA : ∀ x, (w2.alloc x).cell? ⟨w.heap.size, 0, none⟩ = some va := fun x => (HFA.out _ (below1 w2 x)).1
 have zs := D2.out.q;have zl : w.heap.size + 3 < w2.heap.size := (Array.getElem?_eq_some_iff.1 zs).1;have y1 : w2.heap.size ≠ w.heap.size := by omega
 have y2 : w2.heap.size ≠ w.heap.size + 1 := by omega
 have y3 : w.heap.size ≠ w2.heap.size := by omega
 have y4 : w.heap.size + 1 ≠ w2.heap.size := by omega
 have ZF : Hid (∀ w', Below (w2.alloc (.cells #[.slice none 0 0, .slice none 0 0, .int .i64 0, .int .i64 0, .int .i64 0, .int .i64 0, .int .i64 0, .int .i64 0, .int .i64 0, .bool false, .int .i64 0, .int .i64 0, .int .i64 0, .int .i64 0, .int .i64 0, .int .i64 0, .int .i64 0, .int .i64 0, .int .i64 0, .slice none 0 0, .slice none 0 0] 69)).heap.size (w2.alloc (.cells #[.slice none 0 0, .slice none 0 0, .int .i64 0, .int .i64 0, .int .i64 0, .int .i64 0, .int .i64 0, .int .i64 0, .int .i64 0, .bool false, .int .i64 0, .int .i64 0, .int .i64 0, .int .i64 0, .int .i64 0, .int .i64 0, .int .i64 0, .int .i64 0, .int .i64 0, .slice none 0 0, .slice none 0 0] 69)) w' → w'.heap[w2.heap.size]? = some (.cells #[.slice none 0 0, .slice none 0 0, .int .i64 0, .int .i64 0, .int .i64 0, .int .i64 0, .int .i64 0, .int .i64 0, .int .i64 0, .bool false, .int .i64 0, .int .i64 0, .int .i64 0, .int .i64 0, .int .i64 0, .int .i64 0, .int .i64 0, .int .i64 0, .int .i64 0, .slice none 0 0, .slice none 0 0] 69 (0, 0))) := fun w' hb => (hb.block w2.heap.size (by simp)).trans (heap_alloc_new w2 _)
 clear NA zs
 go_cut [6] from 21 to 24 (fun x wx => ∃ K xs ga ca ys gl cl, x = .pointer (some ⟨K, 0, none⟩) ∧ Hid (WK w2 K (wk0 xs ga ca ys gl cl r) wx ∧ xs.map AccX.v = M.a ∧ ys.map LanX.v = M.l))
 case first =>
  clear HZ D2;have HMI2 := hideIt (And.intro HMI.out.1 HMI.out.2.1);clear HMI HFT;refine wp_region_held_drew (S := fun W => W.cell? ⟨w.heap.size, 0, none⟩ = some va ∧ W.cell? ⟨w.heap.size, 1, none⟩ = some vl ∧ W.cell? ⟨w.heap.size + 1, 0, none⟩ = some (.int .i64 r.kind) ∧ W.cell? ⟨w.heap.size + 1, 1, none⟩ = some (.int .i64 r.acct) ∧ W.cell? ⟨w.heap.size + 1, 2, none⟩ = some (.int .i64 r.lane) ∧ W.cell? ⟨w.heap.size + 1, 3, none⟩ = some (.int .i64 r.asset) ∧ W.cell? ⟨w.heap.size + 1, 4, none⟩ = some (.int .i64 r.side) ∧ W.cell? ⟨w.heap.size + 1, 5, none⟩ = some (.int .i64 r.price) ∧ W.cell? ⟨w.heap.size + 1, 6, none⟩ = some (.int .i64 r.n) ∧ W.cell? ⟨w.heap.size + 1, 7, none⟩ = some (.bool r.now) ∧ W.cell? ⟨w.heap.size + 1, 8, none⟩ = some (.int .i64 r.key.1) ∧ W.cell? ⟨w.heap.size + 1, 9, none⟩ = some (.int .i64 r.key.2) ∧ W.cell? ⟨w.heap.size + 1, 10, none⟩ = some (.int .i64 r.dst)) (by rfl) (HFA.out _ (Below.refl _ _).drew) (fun hHeld => ?_);refine wpAnyH_take (i := 0) (oi := ⟨some 21, _, _, _, _, _⟩) (v := ?_) rfl (by kernel_rfl) (by kernel_rfl) (by kernel_rfl) (fun _ _ _ h => h) (Or.inl ⟨by rfl, ?_⟩) (by assumption) ?_
  rotate_left
  ·intro w5 hSw
   (try dsimp only at hSw)
   go_simp
   (try with_reducible rfl)
  try simp only [Act.put, List.setIfInBounds_toArray, List.set_cons_zero, List.set_cons_succ]
  refine wpAnyH_take (i := 2) (oi := ⟨some 23, _, _, _, _, _⟩) (v := ?_) rfl (by kernel_rfl) (by kernel_rfl) (by kernel_rfl) (fun _ _ _ h => h) (Or.inl ⟨by rfl, ?_⟩) (by assumption) ?_
  rotate_left
  ·intro w5 hSw
   (try dsimp only at hSw)
   go_simp
   (try with_reducible rfl)
  try simp only [Act.put, List.setIfInBounds_toArray, List.set_cons_zero, List.set_cons_succ]
  refine wpAnyH_ready (rs := [1, 4]) (by kernel_rfl) (by simp) ?_;refine AllReadyH.cons (o := ⟨some 22, _, _, _, _, _⟩) rfl (fun Kx hK => ?_) (AllReadyH.cons (o := ⟨some 6, _, _, _, _, _⟩) rfl (fun Kx hK => ?_) AllReadyH.nil)
  ·-- the call first
   go_simp
   go_at_call 22
   refine (HCY.out _ (by first | exact (below1 _ _).drew | exact below1 _ _ | exact (Below.refl _ _).drew)).mono ?_;rintro e w5 ⟨a, c, b, d, rfl, HQ, hH5⟩;refine hK.out _ _ hH5 (fun hHeld => ?_);clear hH5;clear hK Kx
   try simp only [Act.put, List.setIfInBounds_toArray, List.set_cons_zero, List.set_cons_succ]
   refine wpAnyH_take (i := 3) (oi := ⟨some 24, _, _, _, _, _⟩) (v := ?_) rfl (by kernel_rfl) (by kernel_rfl) (by kernel_rfl) (fun _ _ _ h => h) (Or.inl ⟨by rfl, ?_⟩) (by assumption) ?_
   rotate_left
   ·intro w5 hSw
    (try dsimp only at hSw)
    go_simp
    (try with_reducible rfl)
   try simp only [Act.put, List.setIfInBounds_toArray, List.set_cons_zero, List.set_cons_succ]
   refine wpAnyH_ready (rs := [4]) (by kernel_rfl) (by simp) ?_;refine (AllReadyH.cons (o := ⟨some 6, _, _, _, _, _⟩) rfl (fun Kx hK => ?_) AllReadyH.nil);go_simp;refine hK.out _ _ (by first | exact HFA.out _ (below1 _ _).drew | exact HFA.out _ (below1 _ _) | exact HFA.out _ (below_via HQ.out.2.1 (below1 _ _))) (fun hHeld => ?_);clear hK Kx
   try simp only [Act.put, List.setIfInBounds_toArray, List.set_cons_zero, List.set_cons_succ]
   refine wpAnyH_ready (rs := [5]) (by kernel_rfl) (by simp) ?_;refine (AllReadyH.cons (o := ⟨none, _, _, _, _, _⟩) rfl (fun Kx hK => ?_) AllReadyH.nil);refine step_store_rowK rfl 69 _ _ rfl w5.heap.size #[.slice a M.a.length c, .slice b M.l.length d, .int .i64 r.kind, .int .i64 r.acct, .int .i64 r.lane, .int .i64 r.asset, .int .i64 r.side, .int .i64 r.price, .int .i64 r.n, .bool r.now, .int .i64 r.key.1, .int .i64 r.key.2, .int .i64 r.dst, .int .i64 0, .int .i64 0, .int .i64 0, .int .i64 0, .int .i64 0, .int .i64 0, .slice none 0 0, .slice none 0 0] rfl rfl _ #[.slice none 0 0, .slice none 0 0, .int .i64 0, .int .i64 0, .int .i64 0, .int .i64 0, .int .i64 0, .int .i64 0, .int .i64 0, .bool false, .int .i64 0, .int .i64 0, .int .i64 0, .int .i64 0, .int .i64 0, .int .i64 0, .int .i64 0, .int .i64 0, .int .i64 0, .slice none 0 0, .slice none 0 0] (heap_alloc_new w5 _) (by kernel_rfl) rfl (by simp [Value.oneCell']) ?_;rw [World.setRow_alloc_new];refine hK.out _ _ (HFA.out _ (below_via HQ.out.2.1 (below1 w5 _))) (fun hHeld => ?_);clear hK Kx
   try simp only [Act.put, List.setIfInBounds_toArray, List.set_cons_zero, List.set_cons_succ]
   refine wpAnyH_done (by kernel_rfl) ?_ _;clear hHeld HFA HCY ZF
   go_wp2_with fail
   go_meet
   obtain ⟨⟨xs, hx, ha⟩, ys, hy, hl⟩ := HQ.out.1;have hxl : M.a.length = xs.length := by rw [← hx, List.length_map]
   have hyl : M.l.length = ys.length := by rw [← hy, List.length_map]
   have hx8 : xs.length = 8 := by rw [← hxl]; exact HMI2.out.1
   have hy3 : ys.length = 3 := by rw [← hyl]; exact HMI2.out.2
   rw [hxl] at ha;rw [hyl] at hl;obtain ⟨ga, rfl⟩ := row_addr ha.row (by omega);obtain ⟨gl, rfl⟩ := row_addr hl.row (by omega);rw [hxl, hyl];have hb1 := below1 w5 (.cells (wkA (wk0 xs ga c ys gl d r)) 69)
   exact ⟨w5.heap.size, xs, ga, c, ys, gl, d, rfl, hideIt ⟨wk_begin (heap_alloc_new w5 _) ((ha.keep hb1).base (Nat.le_refl _)) ((hl.keep hb1).base (Nat.le_refl _)) HQ.out.2.1.size (below_via HQ.out.2.1 hb1), hx, hy⟩⟩
  ·-- the box first
   go_simp;refine hK.out _ _ (by first | exact HFA.out _ (below1 _ _).drew | exact HFA.out _ (below1 _ _) | exact HFA.out _ (below_via HQ.out.2.1 (below1 _ _))) (fun hHeld => ?_);clear hK Kx
   try simp only [Act.put, List.setIfInBounds_toArray, List.set_cons_zero, List.set_cons_succ]
   refine wpAnyH_ready (rs := [1]) (by kernel_rfl) (by simp) ?_;refine (AllReadyH.cons (o := ⟨some 22, _, _, _, _, _⟩) rfl (fun Kx hK => ?_) AllReadyH.nil);go_simp
   go_at_call 22
   refine (HCY.out _ (by first | exact (below1 _ _).drew | exact below1 _ _ | exact (Below.refl _ _).drew)).mono ?_;rintro e w5 ⟨a, c, b, d, rfl, HQ, hH5⟩;refine hK.out _ _ hH5 (fun hHeld => ?_);clear hH5;clear hK Kx
   try simp only [Act.put, List.setIfInBounds_toArray, List.set_cons_zero, List.set_cons_succ]
   refine wpAnyH_take (i := 3) (oi := ⟨some 24, _, _, _, _, _⟩) (v := ?_) rfl (by kernel_rfl) (by kernel_rfl) (by kernel_rfl) (fun _ _ _ h => h) (Or.inl ⟨by rfl, ?_⟩) (by assumption) ?_
   rotate_left
   ·intro w5 hSw
    (try dsimp only at hSw)
    go_simp
    (try with_reducible rfl)
   try simp only [Act.put, List.setIfInBounds_toArray, List.set_cons_zero, List.set_cons_succ]
   refine wpAnyH_ready (rs := [5]) (by kernel_rfl) (by simp) ?_;refine (AllReadyH.cons (o := ⟨none, _, _, _, _, _⟩) rfl (fun Kx hK => ?_) AllReadyH.nil);have hz5 := ZF.out w5 (below_via (by first | exact (Below.refl _ _).drew | exact Below.refl _ _) HQ.out.2.2);refine step_store_rowK rfl 69 _ _ rfl w2.heap.size #[.slice a M.a.length c, .slice b M.l.length d, .int .i64 r.kind, .int .i64 r.acct, .int .i64 r.lane, .int .i64 r.asset, .int .i64 r.side, .int .i64 r.price, .int .i64 r.n, .bool r.now, .int .i64 r.key.1, .int .i64 r.key.2, .int .i64 r.dst, .int .i64 0, .int .i64 0, .int .i64 0, .int .i64 0, .int .i64 0, .int .i64 0, .slice none 0 0, .slice none 0 0] rfl rfl _ #[.slice none 0 0, .slice none 0 0, .int .i64 0, .int .i64 0, .int .i64 0, .int .i64 0, .int .i64 0, .int .i64 0, .int .i64 0, .bool false, .int .i64 0, .int .i64 0, .int .i64 0, .int .i64 0, .int .i64 0, .int .i64 0, .int .i64 0, .int .i64 0, .int .i64 0, .slice none 0 0, .slice none 0 0] hz5 (by kernel_rfl) rfl (by simp [Value.oneCell']) ?_;have hrow := setRow_heap w5 w2.heap.size #[.slice none 0 0, .slice none 0 0, .int .i64 0, .int .i64 0, .int .i64 0, .int .i64 0, .int .i64 0, .int .i64 0, .int .i64 0, .bool false, .int .i64 0, .int .i64 0, .int .i64 0, .int .i64 0, .int .i64 0, .int .i64 0, .int .i64 0, .int .i64 0, .int .i64 0, .slice none 0 0, .slice none 0 0] #[.slice a M.a.length c, .slice b M.l.length d, .int .i64 r.kind, .int .i64 r.acct, .int .i64 r.lane, .int .i64 r.asset, .int .i64 r.side, .int .i64 r.price, .int .i64 r.n, .bool r.now, .int .i64 r.key.1, .int .i64 r.key.2, .int .i64 r.dst, .int .i64 0, .int .i64 0, .int .i64 0, .int .i64 0, .int .i64 0, .int .i64 0, .slice none 0 0, .slice none 0 0] 69 (0, 0) hz5;have hout := setRow_out w5 w2.heap.size #[.slice a M.a.length c, .slice b M.l.length d, .int .i64 r.kind, .int .i64 r.acct, .int .i64 r.lane, .int .i64 r.asset, .int .i64 r.side, .int .i64 r.price, .int .i64 r.n, .bool r.now, .int .i64 r.key.1, .int .i64 r.key.2, .int .i64 r.dst, .int .i64 0, .int .i64 0, .int .i64 0, .int .i64 0, .int .i64 0, .int .i64 0, .slice none 0 0, .slice none 0 0];refine hK.out _ _ (HFA.out _ (below_out HQ.out.2.1 hout (fun k e => by omega))) (fun hHeld => ?_);clear hK Kx
   try simp only [Act.put, List.setIfInBounds_toArray, List.set_cons_zero, List.set_cons_succ]
   refine wpAnyH_done (by kernel_rfl) ?_ _;clear hHeld HFA HCY ZF
   go_wp2_with fail
   go_meet
   obtain ⟨⟨xs, hx, ha⟩, ys, hy, hl⟩ := HQ.out.1;have hxl : M.a.length = xs.length := by rw [← hx, List.length_map]
   have hyl : M.l.length = ys.length := by rw [← hy, List.length_map]
   have hx8 : xs.length = 8 := by rw [← hxl]; exact HMI2.out.1
   have hy3 : ys.length = 3 := by rw [← hyl]; exact HMI2.out.2
   rw [hxl] at ha;rw [hyl] at hl;obtain ⟨ga, rfl⟩ := row_addr ha.row (by omega);obtain ⟨gl, rfl⟩ := row_addr hl.row (by omega);rw [hxl, hyl] at hrow hout ⊢;have hBs : w2.heap.size < (w2.alloc (.cells #[.slice none 0 0, .slice none 0 0, .int .i64 0, .int .i64 0, .int .i64 0, .int .i64 0, .int .i64 0, .int .i64 0, .int .i64 0, .bool false, .int .i64 0, .int .i64 0, .int .i64 0, .int .i64 0, .int .i64 0, .int .i64 0, .int .i64 0, .int .i64 0, .int .i64 0, .slice none 0 0, .slice none 0 0] 69)).drew.heap.size := by
    show w2.heap.size < (w2.alloc _).heap.size
    simp
   exact ⟨w2.heap.size, xs, ga, c, ys, gl, d, rfl, hideIt ⟨wk_begin hrow ((ha.out hout (fun k e => by rw [e]; exact hBs)).base (Nat.le_of_lt hBs)) ((hl.out hout (fun k e => by rw [e]; exact hBs)).base (Nat.le_of_lt hBs)) (Nat.le_refl _) (below_out HQ.out.2.1 hout (fun k e => by omega)), hx, hy⟩⟩
 case rest =>
 obtain ⟨K, xs, ga, ca, ys, gl, cl, rfl, HK⟩ := hcut;clear HCY ZF y1 y2 y3 y4 p0 p1 r0 r1 r2 r3 r4 r5 r6 r7 r8 r9 r10 HFA;have hmi := HMI.out;have hx8 : xs.length = 8 := by rw [← List.length_map (f := AccX.v), HK.out.2.1]; exact hmi.1
 have hy3 : ys.length = 3 := by rw [← List.length_map (f := LanX.v), HK.out.2.2]; exact hmi.2.1
 have hst : (wk0 xs ga ca ys gl cl r).st = st0 M := by
  rw [wk0_st, HK.out.2.1, HK.out.2.2]
 have HWK := hideIt HK.out.1;have HCH := hideIt hmi.2.2.2;have HST := hideIt hst;have HX8 := hideIt (And.intro hx8 hy3);clear hmi hx8 hy3 hst HK HMI;have DC := hideIt (D2.out.keep HWK.out.bel);have HTU := hideIt (turns_is r wc DC.out.fo HFT.out);unfold Se.reqC at HTU;unfold TurB at HTU;have hr := DC.out.r;unfold Se.reqC at hr;obtain ⟨⟨r0, r1, r2, r3, r4, r5, r6, r7, r8, r9, r10⟩, -, rz⟩ := at11 hr;clear hr
 go_wp2_with fail
 refine HTU.out.mono ?_;rintro e w4 ⟨ka, kc, rfl, hko, hb⟩;dsimp only;have D4 := hideIt (D2.out.keep (below_via HWK.out.bel hb));have HW4 : Hid (WK w2 K {wk0 xs ga ca ys gl cl r with kv := .slice ka (turL r).length kc, ks := turL r} w4) := by
  have k := HWK.out.keep hb
  exact ⟨k.box, k.ac, k.ln, k.am, k.fl, own_base hko HWK.out.bel.size, k.sam, k.sfl, k.hK, k.bel⟩
 clear HTU hko hb r0 r1 r2 r3 r4 r5 r6 r7 r8 r9 r10 rz DC HWK;obtain ⟨TL, hTL⟩ : ∃ TL, TL = turL r := ⟨_, rfl⟩;have HTL := hideIt hTL;rw [← hTL] at HW4 HZ ⊢;clear hTL;have HS : Hid (runT r (TL.drop 0) (wk0 xs ga ca ys gl cl r).st = runT r TL (st0 M)) := by
  show _ = _
  rw [List.drop_zero, HST.out]
 go_upto_region 5 with fail
 go_loopw [28] (fun v wr => ∃ (t : Nat) (X : WkX), v = .int .i64 t ∧ t ≤ TL.length ∧ Hid (runT r (TL.drop t) X.st = runT r TL (st0 M) ∧ (X.r = r ∧ X.kv = .slice ka TL.length kc ∧ X.ks = TL ∧ X.A.length = 8 ∧ X.L.length = 3) ∧ (∀ y ∈ X.st.l, chkB y = true) ∧ WK w2 K X wr)) (fun v _ => TL.length - (intOf v).toNat)
 case atStart =>
  refine ⟨0, {wk0 xs ga ca ys gl cl r with kv := .slice ka TL.length kc, ks := TL}, rfl, Nat.zero_le _, hideIt ⟨HS.out, ⟨rfl, rfl, rfl, HX8.out.1, HX8.out.2⟩, ?_, HW4.out⟩⟩;intro y hy;have : y ∈ (wk0 xs ga ca ys gl cl r).st.l := hy;rw [HST.out] at this;exact HCH.out y this
 case round =>
  clear HW4 HS;obtain ⟨t, X, rfl, ht, HR⟩ := hrel
  by_cases hlt : t < TL.length
  ·have hltI : (t : Int) < (TL.length : Int) := by omega
   have ht0 : (0 : Int) ≤ (t : Int) := by omega
   have hky := HR.out.2.2.2.ky;rw [HR.out.2.1.2.1, HR.out.2.1.2.2.1] at hky;have hbd : TL.length * 16 ≤ 140737488355328 := by
    have := tur_len r;rw [← HTL.out] at this;omega
   obtain ⟨_, ka', kc', hke, _, hkr⟩ := Se.own_sgot (bytes := 16) hky hbd;obtain ⟨b, off, hkb, hbl, hkc⟩ := hkr (by omega);simp only [Value.slice.injEq] at hke;obtain ⟨rfl, _, rfl⟩ := hke;subst hkb;have q0 := (hkc (t * 2) (by omega)).trans (Se.celC_get Se.keyK TL t hlt 0 (by omega));have q1 := (hkc (t * 2 + 1) (by omega)).trans (Se.celC_get Se.keyK TL t hlt 1 (by omega));rw [← Nat.add_assoc] at q1;have HSTEP := hideIt (runT_step r X.st hlt);have hmem : TL[t] ∈ turL r := by rw [← HTL.out]; exact List.getElem_mem hlt
   have HME := hideIt hmem;have HRE := hideIt HR.out.1;have HRX := hideIt HR.out.2.1;have HRC := hideIt HR.out.2.2.1;have HRW := hideIt HR.out.2.2.2;clear HR hky hkc hkr hbd hmem;generalize TL[t] = kk at *;obtain ⟨k1, k2⟩ := kk;simp only [Se.keyE, List.getElem?_cons_zero, List.getElem?_cons_succ] at q0 q1;have hb1 := below1 wr (.cells #[.int .i64 k1, .int .i64 k2] 24);have HC := hideIt (doAtG w2 K (k1, k2) X _ (HRW.out.keep hb1) (by rw [HRX.out.1]; exact HFT.out) (by rw [HRX.out.1]; exact HME.out) HRX.out.2.2.2.1 HRX.out.2.2.2.2 HRC.out)
   rw [HRX.out.1] at HC;have HCHK := hideIt (fun h0 => stAt_chk (r := r) (k := (k1, k2)) HRC.out h0);unfold WkB at HC;generalize stAt r (k1, k2) X.st = Z at *;obtain ⟨ZS, ze⟩ := Z;simp only at HC HSTEP HCHK;clear hb1 HME HRC HRW
   go_wp2_with fail
   refine HC.out.mono ?_;rintro e w5 ⟨X', rfl, g1, g2, g3, g4, g5⟩;dsimp only;have HX5 := hideIt (And.intro g1 (And.intro g2 (And.intro g3 (And.intro g4 g5))));have hse := HSTEP.out;clear g1 g2 g3 g4 g5 HC q0 q1 HSTEP
   by_cases her : ze = 0
   ·have herb : (ze == 0) = true := beq_iff_eq.2 her;rw [if_pos her] at hse;have HSE := hideIt hse;have HCK := hideIt (HCHK.out her);clear hse HCHK her;go_wp2
    go_roundw
    case rel =>
     refine ⟨t + 1, X', by go_num, by omega, hideIt ⟨?_, ?_, ?_, HX5.out.2.2.2.2⟩⟩
     ·rw [HX5.out.1, ← HSE.out];exact HRE.out
     ·have q2 := HX5.out.2.1;unfold WkX.fx at q2;simp only [Prod.mk.injEq] at q2
      exact ⟨q2.1.trans HRX.out.1, q2.2.2.2.2.2.1.trans HRX.out.2.1, q2.2.2.2.2.2.2.trans HRX.out.2.2.1, HX5.out.2.2.1.trans HRX.out.2.2.2.1, HX5.out.2.2.2.1.trans HRX.out.2.2.2.2⟩
     ·rw [HX5.out.1];exact HCK.out
    case measure => simp [intOf]; omega
   ·have herb : (ze == 0) = false := beq_eq_false_iff_ne.2 her;rw [if_neg her] at hse;have hzz : ZZ = (M, ⟨6, 0, [], []⟩) := by
     rw [HZ.out, ← HRE.out, hse, if_neg her]
    have HZZ := hideIt hzz;have D5 := hideIt (D2.out.keep HX5.out.2.2.2.2.bel);clear hse hzz her HZ HRE HRX HX5 HCHK;have HMD := hideIt (model_is va vl M w5 D5.out.md);obtain ⟨⟨m0, m1⟩, -, mz⟩ := at2 D5.out.m
    go_wp2_with fail
    refine HMD.out.mono ?_;rintro e w9 ⟨a, c, b, d, rfl, ho, hb⟩;dsimp only;have DX9 := hideIt (D5.out.keep hb);obtain ⟨⟨n0, n1⟩, nf, nz⟩ := at2 DX9.out.p;obtain ⟨⟨k0, k1, k2, k3⟩, kf, kz⟩ := at4 DX9.out.q;obtain ⟨W', hW', hP', hQ', hDB⟩ := do_exit (X := (M, ⟨6, 0, [], []⟩)) DX9.out.p DX9.out.q DX9.out.bel (by omega) (by omega) (⟨ho.base D5.out.bel.size, own_nil _ _, own_nil _ _, by simp, by simp⟩ : DoOwn w.heap.size w9 (.slice a M.a.length c) (.slice b M.l.length d) (.slice none 0 0) (.slice none 0 0) (M, ⟨6, 0, [], []⟩));have HW := hideIt (And.intro hW' (And.intro hP' (And.intro hQ' hDB)));clear hW' hP' hQ' hDB ho hb m0 m1 mz HMD;go_wp2;simp only [List.length_nil] at HW;rw [← HW.out.1];rw [HZZ.out];exact bodyPost_ret (v := .tuple #[.agg #[.slice a M.a.length c, .slice b M.l.length d], .agg #[.int .i64 6, .int .i64 0, .slice none 0 0, .slice none 0 0]]) (by simp [results, Tryz.results10, go_sem, cell_at HW.out.2.1, cell_at HW.out.2.2.1]) rfl HW.out.2.2.2
  ·have hltI : ¬ (t : Int) < (TL.length : Int) := by omega
   obtain rfl : t = TL.length := by omega
   have hre := HR.out.1;rw [List.drop_length] at hre;have hre2 : runT r TL (st0 M) = (X.st, 0) := hre.symm;have hzz : ZZ = (⟨X.st.a, X.st.l⟩, ⟨0, X.st.num, X.st.am, X.st.fl⟩) := by
    rw [HZ.out, hre2, if_pos rfl]
   have HZZ := hideIt hzz;have HWX := hideIt HR.out.2.2.2;have DX9 := hideIt (D2.out.keep HWX.out.bel);clear hre hre2 hzz HR HZ HX8 HTL;obtain ⟨⟨d0, d1, d2, d3, d4, d5, d6, d7, d8, d9, d10, d11, d12, d13, d14, d15, d16, d17, d18, d19, d20⟩, df, dz⟩ := at21 HWX.out.box;clear d2 d3 d4 d5 d6 d7 d8 d9 d10 d11 d12 d13 d14 d15 d16 df;obtain ⟨⟨n0, n1⟩, nf, nz⟩ := at2 DX9.out.p;obtain ⟨⟨k0, k1, k2, k3⟩, kf, kz⟩ := at4 DX9.out.q;have hKp := ty_ne HWX.out.box DX9.out.p (by decide);have hKq := ty_ne HWX.out.box DX9.out.q (by decide);have hpK := hKp.symm;have hqK := hKq.symm;have hs2 := D2.out.bel.size;have e1 : X.A.length = X.st.a.length := by simp [WkX.st]
   have e2 : X.L.length = X.st.l.length := by simp [WkX.st]
   obtain ⟨W', hW', hP', hQ', hDB⟩ := do_exit (X := (⟨X.st.a, X.st.l⟩, ⟨0, X.st.num, X.st.am, X.st.fl⟩)) (a := some ⟨X.ga, 0, none⟩) (c := X.ca) (b := some ⟨X.gl, 0, none⟩) (d := X.cl) (f1 := X.fm) (f2 := X.cm) (g1 := X.ff) (g2 := X.cf) DX9.out.p DX9.out.q DX9.out.bel (by omega) (by omega) ⟨⟨⟨X.A, rfl, by rw [← e1]; exact HWX.out.ac.base hs2⟩, X.L, rfl, by rw [← e2]; exact HWX.out.ln.base hs2⟩, own_base HWX.out.am hs2, own_base HWX.out.fl hs2, HWX.out.sam, HWX.out.sfl⟩
   have HW := hideIt (And.intro hW' (And.intro hP' (And.intro hQ' hDB)));clear hW' hP' hQ' hDB;simp only at HW;rw [← e1, ← e2] at HW;clear e1 e2
   go_upto_region 11 with fail
   go_region
   go_wp2;generalize hG : (World.setCell _ ⟨w.heap.size + 1 + 1 + 1, 3, none⟩ _) = G;obtain ⟨hW, hP, hQ, hD⟩ := HW.out;have hGW : G = W' := hG.symm.trans hW.symm;subst hGW;rw [HZZ.out];have c0 := (cell_at hP 0);have c1 := (cell_at hP 1);have e0 := (cell_at hQ 0);have e1 := (cell_at hQ 1);have e2 := (cell_at hQ 2);have e3 := (cell_at hQ 3);clear hG hW HW HZZ;refine bodyPost_ret (v := .tuple #[.agg #[.slice (some ⟨X.ga, 0, none⟩) X.A.length X.ca, .slice (some ⟨X.gl, 0, none⟩) X.L.length X.cl], .agg #[.int .i64 0, .int .i64 X.st.num, .slice X.fm X.st.am.length X.cm, .slice X.ff X.st.fl.length X.cf]]) (by simp [results, Tryz.results10, go_sem, c0, c1, e0, e1, e2, e3]) rfl hD.drew
theorem do_is (va vl : Value) (M : MdlV) (r : ReqV) (w : World) (h : Mdl w va vl M) (hF : Se.Forms w) : Calls Tryz.prog 10 #[.agg #[va, vl], .agg (Se.reqC r)] w (DoBack (doM M r) w) := by
 by_cases h1 : mayM M = true
 ·by_cases h2 : Se.fitsB r = true
  ·exact do_run va vl M r w h hF h1 h2
  ·have h2' : Se.fitsB r = false := by simpa using h2
   have e : doM M r = (M, ⟨1, 0, [], []⟩) := by unfold doM; rw [h1, h2']; rfl
   rw [e];exact do_bad va vl M r w h hF (Or.inr ⟨h1, h2'⟩)
 ·have h1' : mayM M = false := by simpa using h1
  have e : doM M r = (M, ⟨1, 0, [], []⟩) := by unfold doM; rw [h1']; rfl
  rw [e];exact do_bad va vl M r w h hF (Or.inl h1')
def reqE (r : ReqV) : List Value := [.int .i64 r.kind, .int .i64 r.acct, .int .i64 r.lane, .int .i64 r.asset, .int .i64 r.side, .int .i64 r.price, .int .i64 r.n, .bool r.now, .int .i64 r.key.1, .int .i64 r.key.2, .int .i64 r.dst]
theorem reqEK (r : ReqV) : (reqE r).length = 11 := rfl
theorem reqE_c (r : ReqV) : (reqE r).toArray = Se.reqC r := rfl
abbrev Reqs (w : World) (v : Value) (l : List ReqV) : Prop := SGot 11 88 reqE w v l
theorem SGot.first40 {w : World} {a : Option Addr} {c : Nat} {l : List ReqV} (h : Reqs w (.slice a l.length c) l) (hl : 40 < l.length) : Reqs w (.slice a 40 c) (l.take 40) := by
 have hc := h.cap;obtain ⟨h8, a', c', e, hcc, hr⟩ := h;simp only [Value.slice.injEq] at e;obtain ⟨rfl, _, rfl⟩ := e;have e60 : (l.take 40).length = 40 := by rw [List.length_take]; omega
 refine ⟨by rw [e60]; omega, a, c, by rw [e60], ⟨by omega, hcc.2⟩, fun _ => ?_⟩
 obtain ⟨b, off, e2, hlt, hcell⟩ := hr (by omega);refine ⟨b, off, e2, hlt, fun j hj => ?_⟩;rw [e60] at hj;rw [hcell j (by omega), ← celC_take reqEK l 40, List.getElem?_take, if_pos (by omega)]
set_option maxHeartbeats 4000000 in
theorem few_is (v : Value) (l : List ReqV) (w : World) (h : Reqs w v l) : Calls Tryz.prog 16 #[v, .int .i64 40] w fun e w' => (∃ v', e = .returned v' ∧ ∀ w0, Reqs w0 v l → Reqs w0 v' (l.take 40)) ∧ w' = w := by
 obtain ⟨a, c, rfl⟩ := h.slice;have hc := h.cap;have h8 : l.length * 88 ≤ 140737488355328 := h.1;have hm : maxLen = 9223372036854775807 := by decide
 rw [hm] at hc
 by_cases hl : 40 < l.length
 ·have H := hideIt (fun w0 (h0 : Reqs w0 (.slice a l.length c) l) => h0.first40 hl);have hI : (40 : Int) < (l.length : Int) := by omega
  have h60 : (40 : Int) ≤ (c : Int) := by omega
  clear h
  go_enter Tryz.func16, Tryz.ntmps16
  go_wp2;go_ret
  exact ⟨⟨_, rfl, H.out⟩, rfl⟩
 ·have H := hideIt (fun w0 (h0 : Reqs w0 (.slice a l.length c) l) => h0);have hI : ¬ (40 : Int) < (l.length : Int) := by omega
  have ht : l.take 40 = l := List.take_of_length_le (by omega);rw [ht];clear h
  go_enter Tryz.func16, Tryz.ntmps16
  go_wp2;go_ret
  exact ⟨⟨_, rfl, H.out⟩, rfl⟩
end Go.Proofs.YtiinigifjdpicaaGreatDoor
namespace Go.Proofs.YtiinigifjdpicaaGreatDoor
open Go.ChangeShapes Go.WideShapes Go.ChangeAt Go.WideMaps Go.WideElems Go.RowKit
set_option linter.all false
theorem ownK : ownKnob Tryz.prog.godebug = none := by kernel_rfl
theorem own : ownKnob Tryz.prog.godebug = none := ownK
abbrev laidF : List (String × DataW Unit) := [("rialto/session.forms", Rows.laid_rialto_session_forms)]
theorem gForms : Tryz.prog.globalNamed "rialto/session.forms" = some 0 := by kernel_rfl
theorem tForms : (Tryz.prog.globals[0]?).map (·.type) = some 91 := by kernel_rfl
theorem door_met (os : Os) (args : Array Value) : laidMetH Tryz.prog laidF ((World.doorLaid Tryz.prog 400 os).forCall (fun _ _ => 0) ⟨#[], args, []⟩).memory :=
 laidMetH_of_parts3 (fuel := 8) (laidMet_of_run' 8 (by kernel_rfl) (by kernel_rfl)) (by kernel_rfl) (by kernel_rfl)
theorem cellsF : Tryz.prog.cellsOf 90 = 2 := by kernel_rfl
theorem cellsA : Tryz.prog.cellsOf 91 = 20 := by kernel_rfl
theorem cells3 : Tryz.prog.cellsOf 3 = 1 := by kernel_rfl
theorem twoL {α : Type} (l : List α) (h : l.length = 2) : ∃ a b, l = [a, b] := by
 match l, h with
 | [a, b], _ => exact ⟨a, b, rfl⟩
theorem form_cells {H : Type} {enc : TypeId × Value → H} {W : World} {f : Nat → Bool} {hd : Bool} {n : Nat} {cs : List Value} {a b : Int} {p : List MemPlace} (hl : cs.length = 2)
  (h : DataW.trod enc Tryz.prog W 0 f hd n 90 cs = some (.agg [.lit (.int .i64 a), .lit (.int .i64 b)], p)) : cs = [.int .i64 a, .int .i64 b] := by
 obtain ⟨xs, n', _, hx, _, hxl, hfs⟩ := DataW.trod_struct Tryz.underlying90 h;have f0 : DataW.trod enc Tryz.prog W 0 f hd n' 3 ((cs.drop 0).take (Tryz.prog.cellsOf 3)) = xs[0]? := hfs 0 _ rfl;have f1 : DataW.trod enc Tryz.prog W 0 f hd n' 3 ((cs.drop 1).take (Tryz.prog.cellsOf 3)) = xs[1]? := hfs 1 _ rfl;rw [cells3] at f0 f1;obtain ⟨v0, v1, rfl⟩ := twoL cs hl;obtain ⟨y0, y1, rfl⟩ := twoL xs hxl;simp only [List.drop_zero, List.drop_succ_cons, List.take_succ_cons, List.take_zero, List.getElem?_cons_zero, List.getElem?_cons_succ] at f0 f1;obtain ⟨k0, e0, rfl, _⟩ := DataW.trod_int Tryz.underlying3 f0;obtain ⟨k1, e1, rfl, _⟩ := DataW.trod_int Tryz.underlying3 f1;simp only [List.cons.injEq, and_true] at e0 e1
 simp at hx
 obtain ⟨⟨rfl, rfl⟩, _⟩ := hx;rw [e0, e1]
set_option maxRecDepth 100000 in
theorem of_laid {W : World} (h : laidMetH Tryz.prog laidF W) : Se.Forms W := by
 rw [MakeChecks.laidMetH_plain _ _ _ (by kernel_rfl)] at h;obtain ⟨ps, ⟨g0, t0, cs0, f0, p0, q0, hg0, ht0, hv0, hd0, _, _⟩, _, _⟩ := h;obtain rfl := Option.some.inj (gForms.symm.trans hg0);obtain rfl := Option.some.inj (tForms.symm.trans ht0);obtain ⟨xs, m1, rfl, hx1, hlen, hn, hel⟩ := DataW.trod_array Tryz.underlying91 hd0;rw [cellsA] at hlen;simp only [cellsF] at hel;simp only [Prod.mk.injEq, Rows.laid_rialto_session_forms, DataW.agg.injEq] at hx1;have key : ∀ i, i < 10 → cs0[i * 2]? = some (.int .i64 (Se.formT.getD i (0, 0)).1) ∧ cs0[i * 2 + 1]? = some (.int .i64 (Se.formT.getD i (0, 0)).2) := by
  intro i hi;have hE := hel i hi;have hxi : xs[i]? = some (.agg [.lit (.int .i64 (Se.formT.getD i (0, 0)).1), .lit (.int .i64 (Se.formT.getD i (0, 0)).2)], (xs[i]'(by omega)).2) := by
   have hm : (xs.map (fun x => x.fst))[i]? = some (.agg [.lit (.int .i64 (Se.formT.getD i (0, 0)).1), .lit (.int .i64 (Se.formT.getD i (0, 0)).2)]) := by
    rw [← hx1.1]
    match i, hi with
    | 0, _ => rfl
    | 1, _ => rfl
    | 2, _ => rfl
    | 3, _ => rfl
    | 4, _ => rfl
    | 5, _ => rfl
    | 6, _ => rfl
    | 7, _ => rfl
    | 8, _ => rfl
    | 9, _ => rfl
   rw [List.getElem?_map, List.getElem?_eq_getElem (by omega)] at hm;rw [List.getElem?_eq_getElem (by omega)];simp only [Option.map_some, Option.some.injEq] at hm;rw [← hm]
  rw [hxi] at hE;have hl2 : (List.take 2 (List.drop (i * 2) cs0.toList)).length = 2 := by
   rw [List.length_take, List.length_drop, hlen];omega
  have hc := form_cells hl2 hE;have g0 : (List.take 2 (List.drop (i * 2) cs0.toList))[0]? = cs0.toList[i * 2]? := by simp
  have g1 : (List.take 2 (List.drop (i * 2) cs0.toList))[1]? = cs0.toList[i * 2 + 1]? := by simp
  rw [hc] at g0 g1
  exact ⟨by simpa using g0.symm, by simpa using g1.symm⟩
 have hc : ∀ i, W.cell? ⟨0, i, none⟩ = cs0[i]? := World.var?_cell gForms hv0;refine ⟨?_, fun k h1 h9 => ?_⟩
 ·have := (hc 0).trans (key 0 (by omega)).1
  rcases Nat.eq_zero_or_pos W.heap.size with h0 | h0
  ·simp [World.cell?, Array.getElem?_eq_none (show W.heap.size ≤ 0 by omega)] at this
  ·exact h0
 ·have hk := key k.toNat (by omega)
  exact ⟨(hc _).trans hk.1, (hc _).trans hk.2⟩
theorem laidOut : laidOutB Tryz.prog = true := by kernel_rfl
end Go.Proofs.YtiinigifjdpicaaGreatDoor
namespace Go.Proofs.YtiinigifjdpicaaGreatDoor
open Go.ChangeShapes Go.WideShapes Go.ChangeAt Go.WideMaps Go.WideElems Go.RowKit
set_option linter.all false
theorem cellsKy : Tryz.prog.cellsOf 24 = 2 := by kernel_rfl
theorem cellsR : Tryz.prog.cellsOf 26 = 11 := by kernel_rfl
theorem cells4 : Tryz.prog.cellsOf 4 = 1 := by kernel_rfl
theorem tenL {α : Type} (l : List α) (h : l.length = 10) : ∃ a b c d e f g i j k, l = [a, b, c, d, e, f, g, i, j, k] := by
 match l, h with
 | [a, b, c, d, e, f, g, i, j, k], _ => exact ⟨a, b, c, d, e, f, g, i, j, k, rfl⟩
theorem elevenL {α : Type} (l : List α) (h : l.length = 11) : ∃ a b c d e f g i j k m, l = [a, b, c, d, e, f, g, i, j, k, m] := by
 match l, h with
 | [a, b, c, d, e, f, g, i, j, k, m], _ => exact ⟨a, b, c, d, e, f, g, i, j, k, m, rfl⟩
theorem pairK {H : Type} {enc : TypeId × Value → H} {W : World} {n : Nat} {cs : List Value} {x : DataW H × List MemPlace} (hl : cs.length = 2)
  (h : DataW.trod enc Tryz.prog W 0 (fun _ => true) true n 24 cs = some x) : ∃ a b, cs = [.int .i64 a, .int .i64 b] := by
 obtain ⟨xs, n', _, _, _, hxl, hfs⟩ := DataW.trod_struct Tryz.underlying24 h;have f0 : DataW.trod enc Tryz.prog W 0 (fun _ => true) true n' 3 ((cs.drop 0).take (Tryz.prog.cellsOf 3)) = xs[0]? := hfs 0 _ rfl;have f1 : DataW.trod enc Tryz.prog W 0 (fun _ => true) true n' 3 ((cs.drop 1).take (Tryz.prog.cellsOf 3)) = xs[1]? := hfs 1 _ rfl;rw [cells3] at f0 f1;obtain ⟨v0, v1, rfl⟩ := twoL cs hl;obtain ⟨y0, y1, rfl⟩ := twoL xs hxl;simp only [List.drop_zero, List.drop_succ_cons, List.take_succ_cons, List.take_zero, List.getElem?_cons_zero, List.getElem?_cons_succ] at f0 f1;obtain ⟨k0, e0, _, _⟩ := DataW.trod_int Tryz.underlying3 f0;obtain ⟨k1, e1, _, _⟩ := DataW.trod_int Tryz.underlying3 f1;simp only [List.cons.injEq, and_true] at e0 e1
 exact ⟨k0, k1, by rw [e0, e1]⟩
set_option maxRecDepth 100000 in
theorem req_cells {H : Type} {enc : TypeId × Value → H} {W : World} {n : Nat} {cs : List Value} {x : DataW H × List MemPlace} (hl : cs.length = 11)
  (h : DataW.trod enc Tryz.prog W 0 (fun _ => true) true n 26 cs = some x) : ∃ r : ReqV, cs = reqE r := by
 obtain ⟨xs, n', _, _, _, hxl, hfs⟩ := DataW.trod_struct Tryz.underlying26 h;have f0 : DataW.trod enc Tryz.prog W 0 (fun _ => true) true n' 3 ((cs.drop 0).take (Tryz.prog.cellsOf 3)) = xs[0]? := hfs 0 _ rfl;have f1 : DataW.trod enc Tryz.prog W 0 (fun _ => true) true n' 3 ((cs.drop 1).take (Tryz.prog.cellsOf 3)) = xs[1]? := hfs 1 _ rfl;have f2 : DataW.trod enc Tryz.prog W 0 (fun _ => true) true n' 3 ((cs.drop 2).take (Tryz.prog.cellsOf 3)) = xs[2]? := hfs 2 _ rfl;have f3 : DataW.trod enc Tryz.prog W 0 (fun _ => true) true n' 3 ((cs.drop 3).take (Tryz.prog.cellsOf 3)) = xs[3]? := hfs 3 _ rfl;have f4 : DataW.trod enc Tryz.prog W 0 (fun _ => true) true n' 3 ((cs.drop 4).take (Tryz.prog.cellsOf 3)) = xs[4]? := hfs 4 _ rfl;have f5 : DataW.trod enc Tryz.prog W 0 (fun _ => true) true n' 3 ((cs.drop 5).take (Tryz.prog.cellsOf 3)) = xs[5]? := hfs 5 _ rfl;have f6 : DataW.trod enc Tryz.prog W 0 (fun _ => true) true n' 3 ((cs.drop 6).take (Tryz.prog.cellsOf 3)) = xs[6]? := hfs 6 _ rfl;have f7 : DataW.trod enc Tryz.prog W 0 (fun _ => true) true n' 4 ((cs.drop 7).take (Tryz.prog.cellsOf 4)) = xs[7]? := hfs 7 _ rfl;have f8 : DataW.trod enc Tryz.prog W 0 (fun _ => true) true n' 24 ((cs.drop 8).take (Tryz.prog.cellsOf 24)) = xs[8]? := hfs 8 _ rfl;have f9 : DataW.trod enc Tryz.prog W 0 (fun _ => true) true n' 3 ((cs.drop 10).take (Tryz.prog.cellsOf 3)) = xs[9]? := hfs 9 _ rfl;rw [cells3] at f0 f1 f2 f3 f4 f5 f6 f9;rw [cells4] at f7;rw [cellsKy] at f8;obtain ⟨v0, v1, v2, v3, v4, v5, v6, v7, v8, v9, v10, rfl⟩ := elevenL cs hl;obtain ⟨y0, y1, y2, y3, y4, y5, y6, y7, y8, y9, rfl⟩ := tenL xs hxl;simp only [List.drop_zero, List.drop_succ_cons, List.take_succ_cons, List.take_zero, List.getElem?_cons_zero, List.getElem?_cons_succ] at f0 f1 f2 f3 f4 f5 f6 f7 f8 f9;obtain ⟨k0, e0, _, _⟩ := DataW.trod_int Tryz.underlying3 f0;obtain ⟨k1, e1, _, _⟩ := DataW.trod_int Tryz.underlying3 f1;obtain ⟨k2, e2, _, _⟩ := DataW.trod_int Tryz.underlying3 f2;obtain ⟨k3, e3, _, _⟩ := DataW.trod_int Tryz.underlying3 f3;obtain ⟨k4, e4, _, _⟩ := DataW.trod_int Tryz.underlying3 f4;obtain ⟨k5, e5, _, _⟩ := DataW.trod_int Tryz.underlying3 f5;obtain ⟨k6, e6, _, _⟩ := DataW.trod_int Tryz.underlying3 f6;obtain ⟨k7, e7, _⟩ := DataW.trod_bool Tryz.underlying4 f7;obtain ⟨k8a, k8b, e8⟩ := pairK rfl f8;obtain ⟨k9, e9, _, _⟩ := DataW.trod_int Tryz.underlying3 f9;simp only [List.cons.injEq, and_true] at e0 e1 e2 e3 e4 e5 e6 e7 e8 e9;obtain ⟨e8a, e8b⟩ := e8
 exact ⟨⟨k0, k1, k2, k3, k4, k5, k6, k7, (k8a, k8b), k9⟩, by rw [e0, e1, e2, e3, e4, e5, e6, e7, e8a, e8b, e9]; rfl⟩
set_option maxRecDepth 100000 in
theorem open_req {H : Type} {enc : TypeId × Value → H} {W : World} {b0 : Nat} {v : Value} {d : DataW H} {p : List MemPlace}
  (hv : Value.okWide Tryz.prog W .any b0 26 v) (h : DataW.Trod enc Tryz.prog W 0 (fun _ => true) true 26 v d p) : ∃ r : ReqV, v = .agg (Se.reqC r) := by
 obtain ⟨cs, rfl, hsz⟩ := okWide_struct Tryz.underlying26 hv;rw [cellsR] at hsz;obtain ⟨fuel, hf⟩ := h;obtain ⟨r, e⟩ := req_cells (cs := (Value.agg cs).cells.toList) (by simpa [Value.cells] using hsz) hf;refine ⟨r, ?_⟩;have e2 : cs.toList = reqE r := by simpa [Value.cells] using e
 have : cs = Se.reqC r := by rw [← Array.toArray_toList (xs := cs), e2]; rfl
 rw [this]
theorem bytesR : Tryz.prog.bytesOf 26 = 88 := by kernel_rfl
def Light {H : Type} (t : TypeId) (d : DataW H) : Prop := ∀ n ∈ d.weights Tryz.prog t, n ≤ reachBytes
theorem light_each {H : Type} {ts : List TypeId} {ds : List (DataW H)} {j : Nat} {t : TypeId} {d : DataW H} (h : ∀ n ∈ DataW.weightsEach Tryz.prog ts ds, n ≤ reachBytes) (ht : ts[j]? = some t) (hd : ds[j]? = some d) : Light t d :=
 fun n hn => h n (DataW.weights_mem_each ht hd n hn)
theorem light_all {H : Type} {ts : List TypeId} {ds : List (DataW H)} {j : Nat} {t : TypeId} {d : DataW H} (hall : (DataW.weightsEach Tryz.prog ts ds).all (· ≤ reachBytes) = true) (ht : ts[j]? = some t) (hd : ds[j]? = some d) : Light t d :=
 light_each (fun n hn => by simpa using List.all_eq_true.1 hall n hn) ht hd
theorem reach_lt {n : Nat} (h : n ≤ reachBytes) : n ≤ 140737488355328 := by
 have hr : reachBytes < 2 ^ 47 := reachBytes_lt;have e3 : (2 : Nat) ^ 47 = 140737488355328 := by decide
 omega
set_option maxRecDepth 100000 in
theorem reqs_open {H : Type} {enc : TypeId × Value → H} {W : World} {n : Nat} {v : Value} {x : DataW H × List MemPlace}
  (h : DataW.trod enc Tryz.prog W 0 (fun _ => true) true n 22 [v] = some x) (hw : Light 22 x.1) : ∃ l, Reqs W v l := by
 rcases Deep.open_slice Tryz.underlying22 h with ⟨hcs, hx⟩ | ⟨x0, len, c, m, n0, D, Pl, hcs, _, hl, hm, hmm, hxe, hx⟩
 ·have : v = .slice none 0 0 := by simpa using hcs
  subst this
  exact ⟨[], SGot.nil _ _ _ _ _ _ (Nat.zero_le _)⟩
 ·have : v = .slice (some x0) len c := by simpa using hcs
  subst this;simp only [if_true] at hmm;rw [cellsR] at hx;obtain ⟨b, off, spot⟩ := x0;have hspot0 : 0 < len → spot = none := by
   intro hpos;obtain ⟨cs', h1, _⟩ := hx 0 (by omega);obtain ⟨_, hlen, hcell⟩ := World.cells?_some h1;obtain ⟨v0, v1, v2, v3, v4, v5, v6, v7, v8, v9, v10, rfl⟩ := elevenL cs' hlen;have g := World.cell?_spot (hcell 0 (by omega))
   simpa [Addr.add] using g
  have key : ∀ i, i < len → ∃ o : ReqV, spot = none ∧ b < W.heap.size ∧ ∀ j, j < 11 → W.cell? ⟨b, off + i * 11 + j, none⟩ = (reqE o)[j]? := by
   intro i hi;obtain ⟨cs', h1, h2⟩ := hx i (by omega);obtain ⟨_, hlen, hcell⟩ := World.cells?_some h1;obtain ⟨o, rfl⟩ := req_cells hlen h2;have hspot : spot = none := hspot0 (by omega);subst hspot;refine ⟨o, rfl, ?_, fun j hj => ?_⟩
   ·have k0 := hcell 0 (by omega);rw [addN, addN] at k0
    rcases Nat.lt_or_ge b W.heap.size with h' | h'
    ·exact h'
    ·simp [World.cell?, Array.getElem?_eq_none h', reqE] at k0
   ·have k0 := hcell j (by omega);rw [addN, addN] at k0;rw [k0]
  obtain ⟨f, hfo⟩ := @Deep.choose_lt ReqV ⟨⟨0, 0, 0, 0, 0, 0, 0, false, (0, 0), 0⟩⟩ len (fun i o => spot = none ∧ b < W.heap.size ∧ ∀ j, j < 11 → W.cell? ⟨b, off + i * 11 + j, none⟩ = (reqE o)[j]?) key;have hsz : len * 88 ≤ 140737488355328 := by
   have hd := hw ((len + (m - len)) * Tryz.prog.bytesOf 26) (by
    rw [hxe]
    simp [DataW.weights, Tryz.underlying22])
   rw [bytesR] at hd;have := reach_lt hd;omega
  refine ⟨(List.range len).map f, by simpa using hsz, some ⟨b, off, spot⟩, c, by simp, ⟨by simpa using hl, hm⟩, fun hp => ?_⟩;have hp' : 0 < len := by simpa using hp
  have hsp := hspot0 hp';subst hsp;refine ⟨b, off, rfl, (hfo 0 hp').2.1, fun j hj => ?_⟩;have hj' : j < len * 11 := by simpa using hj
  have hi : j / 11 < len := by omega
  have q0 := (hfo (j / 11) hi).2.2 (j % 11) (by omega);have g0 := celC_get reqEK ((List.range len).map f) (j / 11) (by simpa using hi) (j % 11) (by omega);simp only [List.getElem_map, List.getElem_range] at g0;have e : off + j = off + j / 11 * 11 + j % 11 := by omega
  rw [e, q0, ← g0, show j / 11 * 11 + j % 11 = j by omega]
set_option maxRecDepth 100000 in
theorem open_reqs {H : Type} {enc : TypeId × Value → H} {W : World} {b0 : Nat} {v : Value} {d : DataW H} {p : List MemPlace}
  (hv : Value.okWide Tryz.prog W .any b0 22 v) (h : DataW.Trod enc Tryz.prog W 0 (fun _ => true) true 22 v d p) (hw : Light 22 d) : ∃ l, Reqs W v l := by
 obtain ⟨fuel, hf⟩ := h;obtain ⟨va, len, c, rfl⟩ := okWide_slice Tryz.underlying22 hv;exact reqs_open (x := (d, p)) hf hw
end Go.Proofs.YtiinigifjdpicaaGreatDoor
