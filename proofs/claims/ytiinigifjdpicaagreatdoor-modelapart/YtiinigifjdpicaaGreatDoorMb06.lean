/- Texts of my own, laid together. -/
import Derived.Test.YtiinigifjdpicaaGreatDoorMb05
import Derived.Test.YtiinigifjdpicaaGreatDoorMb00
import Derived.Test.YtiinigifjdpicaaGreatDoorPx06
import Derived.Test.YtiinigifjdpicaaGreatDoorPx07
namespace Go.Proofs.YtiinigifjdpicaaGreatDoor
open Go.RowKit
set_option linter.all false
def MdlBack (M : MdlV) (w : World) (e : Ending) (w' : World) : Prop := ∃ a c b d, e = .returned (.agg #[.slice a M.a.length c, .slice b M.l.length d]) ∧ MdlOwn w.heap.size w' (.slice a M.a.length c) (.slice b M.l.length d) M ∧ Below w.heap.size w w'
theorem MdlOwn.set {B D j : Nat} {w : World} {va vl : Value} {M : MdlV} {cs : Array Value} {t : TypeId} {u : Value} (h : MdlOwn B w va vl M) (hd : w.heap[D]? = some (.cells cs t (0, 0))) (h1 : (53 : TypeId) ≠ t) (h2 : (44 : TypeId) ≠ t) (h3 : (115 : TypeId) ≠ t) (h4 : (61 : TypeId) ≠ t) (h5 : (59 : TypeId) ≠ t) : MdlOwn B (w.setCell ⟨D, j, none⟩ u) va vl M := by
 obtain ⟨⟨xs, k1, k2⟩, ys, k3, k4⟩ := h
 exact ⟨⟨xs, k1, k2.set hd h1 h2⟩, ys, k3, k4.set hd h3 h4 h5⟩
set_option maxRecDepth 100000 in
set_option maxHeartbeats 4000000 in
theorem model_is (va vl : Value) (M : MdlV) (w : World) (h : Mdl w va vl M) : Calls Tryz.prog 22 #[.agg #[va, vl]] w (MdlBack M w) := by
 obtain ⟨⟨xs, hx, h1⟩, ys, hy, h2⟩ := h;obtain ⟨aa, ac, rfl⟩ := h1.row.slice;obtain ⟨la, lc, rfl⟩ := h2.row.slice;obtain ⟨ma, ml⟩ := M;simp only at hx hy;have hxl : xs.length = ma.length := by rw [← hx, List.length_map]
 have hyl : ys.length = ml.length := by rw [← hy, List.length_map]
 obtain ⟨t1, t2, t3⟩ := two_heap w (.cells #[.slice aa xs.length ac, .slice la ys.length lc] 30) (.cells #[.slice none 0 0, .slice none 0 0] 30);have T1 := hideIt t1;have T2 := hideIt t2;have HT := hideIt t3;have HB := hideIt (below2 w (.cells #[.slice aa xs.length ac, .slice la ys.length lc] 30) (.cells #[.slice none 0 0, .slice none 0 0] 30));have HA := hideIt (fun W (hW : Below w.heap.size w W) => accts_is _ xs W (h1.keep hW));have HL := hideIt (fun W (hW : Below w.heap.size w W) => lanes_is _ ys W (h2.keep hW));rw [hx] at HA;rw [hy] at HL;rw [hxl] at T1 HB HA HT T2;rw [hyl] at T1 HB HL HT T2;clear t1 t2 t3 h1 h2;rw [hxl, hyl];clear hx hy hxl hyl;unfold MdlBack
 simp only
 go_enter Tryz.func22, Tryz.ntmps22
 go_upto_region 1 with fail
 generalize (w.alloc (.cells #[.slice aa ma.length ac, .slice la ml.length lc] 30)).alloc (.cells #[.slice none 0 0, .slice none 0 0] 30) = W0 at *;obtain ⟨⟨c0, c1⟩, cf, cz⟩ := at2 T1.out
 go_wp2_with fail
 refine (HA.out _ HB.out).mono ?_;rintro e w1 ⟨a, c, zs, rfl, hz, ho, hb⟩;dsimp only;have hM0 : w.heap.size + 2 ≤ W0.heap.size := by have := HT.out; omega
 have U1 : Hid ((w1.setCell ⟨w.heap.size, 0, none⟩ (.slice a ma.length c)).heap[w.heap.size]? = some (.cells #[.slice a ma.length c, .slice la ml.length lc] 30 (0, 0))) := heap_set (blkK T1.out hb) 0 _;have U2 := hideIt (setOther (b := w.heap.size) (j := 0) (.slice a ma.length c) (blkK T2.out hb) (by omega));have O1 := hideIt ((ho.base (B' := w.heap.size) (by omega)).set (D := w.heap.size) (j := 0) (u := .slice a ma.length c) (blkK T1.out hb) (by decide) (by decide));have B1 : Hid (Below w.heap.size w (w1.setCell ⟨w.heap.size, 0, none⟩ (.slice a ma.length c))) := belowSet _ (below_via HB.out hb) (Nat.le_refl _);have HZ := hideIt hz;have hs1 : w.heap.size ≤ (w1.setCell ⟨w.heap.size, 0, none⟩ (.slice a ma.length c)).heap.size := B1.out.size;obtain ⟨⟨d0, d1⟩, df, dz⟩ := at2 (blkK T1.out hb);clear ho hb hz c0 c1 cf cz T1 T2 HB HA
 go_upto_region 2 with fail
 clear d0 d1 df dz;generalize w1.setCell ⟨w.heap.size, 0, none⟩ (.slice a ma.length c) = W1 at *;obtain ⟨⟨c0, c1⟩, cf, cz⟩ := at2 U1.out
 go_wp2_with fail
 refine (HL.out _ B1.out).mono ?_;rintro e w2 ⟨b, d, us, rfl, hu, ho, hb⟩;dsimp only;have V1 : Hid ((w2.setCell ⟨w.heap.size, 1, none⟩ (.slice b ml.length d)).heap[w.heap.size]? = some (.cells #[.slice a ma.length c, .slice b ml.length d] 30 (0, 0))) := heap_set (blkK U1.out hb) 1 _;have V2 := hideIt (setOther (b := w.heap.size) (j := 1) (.slice b ml.length d) (blkK U2.out hb) (by omega));have P1 := hideIt ((ho.base hs1).set (D := w.heap.size) (j := 1) (u := .slice b ml.length d) (blkK U1.out hb) (by decide) (by decide) (by decide));have Q1 := hideIt ((O1.out.keep hb).set (D := w.heap.size) (j := 1) (u := .slice b ml.length d) (blkK U1.out hb) (by decide) (by decide));have B2 : Hid (Below w.heap.size w (w2.setCell ⟨w.heap.size, 1, none⟩ (.slice b ml.length d))) := belowSet _ (below_via B1.out hb) (Nat.le_refl _);have HM : Hid (MdlOwn w.heap.size (w2.setCell ⟨w.heap.size, 1, none⟩ (.slice b ml.length d)) (.slice a ma.length c) (.slice b ml.length d) ⟨ma, ml⟩) := ⟨⟨zs, HZ.out, Q1.out⟩, us, hu, P1.out⟩;obtain ⟨⟨d0, d1⟩, df, dz⟩ := at2 (blkK U1.out hb);clear ho hb hu c0 c1 cf cz U1 U2 B1 HL O1 Q1 P1 HZ
 go_upto_region 3 with fail
 clear d0 d1 df dz;generalize w2.setCell ⟨w.heap.size, 1, none⟩ (.slice b ml.length d) = W2 at *;obtain ⟨⟨c0, c1⟩, cf, cz⟩ := at2 V1.out;obtain ⟨⟨d0, d1⟩, df, dz⟩ := at2 V2.out;go_wp2;obtain ⟨hzz, hoo⟩ := puts2 W2 (w.heap.size + 1) 30 (.slice a ma.length c) (.slice b ml.length d) V2.out;refine bodyPost_ret (v := .agg #[.slice a ma.length c, .slice b ml.length d]) (by simp [results, Tryz.results22, go_sem, cell_at hzz]) rfl ⟨a, c, b, d, rfl, ?_, below_out B2.out hoo (fun k hk => by omega)⟩;have g1 := heap_set V2.out 0 (.slice a ma.length c);exact (HM.out.set (D := w.heap.size + 1) (j := 0) (u := .slice a ma.length c) V2.out (by decide) (by decide) (by decide) (by decide) (by decide)).set g1 (by decide) (by decide) (by decide) (by decide) (by decide)
end Go.Proofs.YtiinigifjdpicaaGreatDoor
namespace Go.Proofs.YtiinigifjdpicaaGreatDoor.Lg
open Go.RowKit
set_option linter.all false
set_option maxHeartbeats 4000000 in
set_option maxRecDepth 100000 in
theorem amountsM_is (p o : Nat) (s : Nat → Int) (w : World) (hp : ∀ t, t < 4 → w.cell? ⟨p, o + t, none⟩ = some (.int .i64 (s t))) (hpl : p < w.heap.size) : Calls Tryz.prog 35 #[.pointer (some ⟨p, o, none⟩)] w fun e w' => ∃ g, e = .returned g ∧ Mine w g (pre s 4) w' := by
 have HP := hideIt hp;clear hp
 go_enter Tryz.func35, Tryz.ntmps35
 go_wp2
 go_loopw [3, 7] (fun u v wr => ∃ (t : Nat), v = .int .i64 t ∧ t ≤ 4 ∧ Hid (Mine w u (pre s t) wr)) (fun _ v _ => 4 - (intOf v).toNat)
 case atStart => exact ⟨0, rfl, Nat.zero_le _, hideIt ⟨own_nil _ _, Below.refl _ _⟩⟩
 case round =>
  obtain ⟨t, rfl, ht, HR⟩ := hrel
  by_cases hlt : t < 4
  ·have hltI : (t : Int) < 4 := by omega
   have ht0 : (0 : Int) ≤ (t : Int) := by omega
   have c0 := (HR.out.bel.cell (p := ⟨p, o + t, none⟩) hpl).trans (HP.out t hlt);have HE : Hid (pre s (t + 1) = pre s t ++ one s t) := rfl
   by_cases h0 : 0 < s t
   ·have HO : Hid (one s t = [⟨t, s t⟩]) := if_pos h0;have hpl4 := pre_len s t
    go_upto_region 4 with fail
    go_quiet (fail)
    have HM : Mine w u3 (pre s t) (wr.drewN nq) := ⟨HR.out.own, bN HR.out.bel _⟩;generalize wr.drewN nq = wq at *;obtain ⟨v', w', hrun, hm⟩ := HM.grow t (s t) (by omega);have HRUN := hideIt hrun;have HM2 := hideIt hm;clear hrun hm HM HR
    go_wp2_with (at_builtin; refine wpList_append_run _ rfl _ _ rfl rfl rfl rfl HRUN.out ?_)
    clear HRUN;go_wp2
    go_roundw
    case rel => exact ⟨t + 1, by go_num, by omega, hideIt (by rw [HE.out, HO.out]; exact HM2.out)⟩
    case measure => simp [intOf]; omega
   ·have HO : Hid (one s t = []) := if_neg h0;have h0I : s t ≤ 0 := by omega
    clear h0
    go_upto_region 4 with fail
    go_quiet (fail)
    go_wp2
    go_roundw
    case rel => exact ⟨t + 1, by go_num, by omega, hideIt (by rw [HE.out, HO.out, List.append_nil]; exact ⟨HR.out.own, bN HR.out.bel _⟩)⟩
    case measure => simp [intOf]; omega
  ·have hltI : ¬ (t : Int) < 4 := by omega
   obtain rfl : t = 4 := by omega
   go_wp2;go_ret
   exact ⟨_, rfl, HR.out⟩
end Go.Proofs.YtiinigifjdpicaaGreatDoor.Lg
namespace Go.Proofs.YtiinigifjdpicaaGreatDoor.Lg
open Go.RowKit
theorem accB_mk {A : AccV} (h : amtsB A.l (-1) = true) (hc : 0 ≤ A.ct ∧ A.ct ≤ 1000000000) : accB A = true := by
 unfold accB wiB;rw [h, decide_eq_true hc]
 rfl
theorem refI_mk {A : AccV} {a n : Int} (h : accB A = true) (ha : 0 ≤ a ∧ a ≤ 3) (hn : 1 ≤ n ∧ n ≤ 9007199254740992) : refI A a n = 0 := by
 unfold refI;rw [if_pos h, if_pos (by unfold wiB; rw [decide_eq_true ha, decide_eq_true hn]; rfl)]
theorem cred_zero {A : AccV} {a n : Int} (h : (credL A a n).2 ≠ 0) : (credL A a n).1 = zA := by
 unfold credL at h ⊢
 split at h
 ·split at h
  ·rw [if_pos (by assumption), if_pos (by assumption)]
  ·exact absurd rfl h
 ·rw [if_neg (by assumption)]
theorem cred_ok {A : AccV} {a n : Int} (h : (credL A a n).2 = 0) : refI A a n = 0 ∧ balL A.l a + n ≤ 9007199254740992 ∧ A.ct ≠ 1000000000 ∧ credL A a n = (⟨pre (moreS A.l a n) 4, A.ct + 1⟩, 0) := by
 unfold credL at h ⊢
 split at h
 ·rename_i hr
  split at h
  ·cases h
  ·rename_i hn
   rw [if_pos hr, if_neg hn]
   exact ⟨hr, by omega, by omega, rfl⟩
 ·rename_i hr
  exact absurd h hr
theorem deb_ok {A : AccV} {a n : Int} (h : (debL A a n).2 = 0) : refI A a n = 0 ∧ n ≤ balL A.l a ∧ A.ct ≠ 1000000000 ∧ debL A a n = (⟨pre (moreS A.l a (-n)) 4, A.ct + 1⟩, 0) := by
 unfold debL at h ⊢
 split at h
 ·rename_i hr
  split at h
  ·cases h
  ·rename_i hn
   split at h
   ·cases h
   ·rename_i hc
    rw [if_pos hr, if_neg hn, if_neg hc]
    exact ⟨hr, by omega, hc, rfl⟩
 ·rename_i hr
  exact absurd h hr
theorem more_in {l : List AmtV} {a n : Int} (h : amtsB l (-1) = true) (hn : 0 ≤ balL l a + n ∧ balL l a + n ≤ 9007199254740992) : ∀ k, k < 4 → 0 ≤ moreS l a n k ∧ moreS l a n k ≤ 9007199254740992 := by
 intro k _;have hb := bal_in l _ (k : Int) h;unfold moreS
 by_cases c : (k : Int) = a
 ·rw [if_pos c, c];exact hn
 ·rw [if_neg c];omega
theorem more_bal {l : List AmtV} {a n : Int} (h : amtsB l (-1) = true) (hn : 0 ≤ balL l a + n ∧ balL l a + n ≤ 9007199254740992) (k : Nat) (hk : k < 4) : balL (pre (moreS l a n) 4) k = moreS l a n k := pre_bal (more_in h hn) k hk
theorem more_ok {l : List AmtV} {a n : Int} (h : amtsB l (-1) = true) (hn : 0 ≤ balL l a + n ∧ balL l a + n ≤ 9007199254740992) : amtsB (pre (moreS l a n) 4) (-1) = true := pre_ok (more_in h hn)
theorem more_at {l : List AmtV} {a n : Int} (h : amtsB l (-1) = true) (hn : 0 ≤ balL l a + n ∧ balL l a + n ≤ 9007199254740992) (b : Int) (hb : 0 ≤ b ∧ b ≤ 3) : balL (pre (moreS l a n) 4) b = balL l b + if b = a then n else 0 := by
 obtain ⟨k, rfl⟩ : ∃ k : Nat, b = k := Int.eq_ofNat_of_zero_le hb.1;rw [more_bal h hn k (by omega)]
 rfl
theorem cred_len (A : AccV) (a n : Int) : (credL A a n).1.l.length * 16 ≤ 140737488355328 := by
 by_cases h : (credL A a n).2 = 0
 ·rw [(cred_ok h).2.2.2];have := pre_len (moreS A.l a n) 4
  simp only
  omega
 ·rw [cred_zero h]
  simp [zA]
theorem deb_zero {A : AccV} {a n : Int} (h : (debL A a n).2 ≠ 0) : (debL A a n).1 = zA := by
 unfold debL at h ⊢
 split at h
 ·rename_i hr
  rw [if_pos hr]
  split at h
  ·rename_i hb
   rw [if_pos hb]
  ·rename_i hb
   rw [if_neg hb]
   split at h
   ·rename_i hc
    rw [if_pos hc]
   ·exact absurd rfl h
 ·rename_i hr
  rw [if_neg hr]
theorem deb_len (A : AccV) (a n : Int) : (debL A a n).1.l.length * 16 ≤ 140737488355328 := by
 by_cases h : (debL A a n).2 = 0
 ·rw [(deb_ok h).2.2.2];have := pre_len (moreS A.l a (-n)) 4
  simp only
  omega
 ·rw [deb_zero h]
  simp [zA]
end Go.Proofs.YtiinigifjdpicaaGreatDoor.Lg
namespace Go.Proofs.YtiinigifjdpicaaGreatDoor
open Go.RowKit
set_option linter.all false
def prL (l : List OrdV) : List Int := l.map OrdV.price
theorem prL_take (l : List OrdV) (t : Nat) (h : t < l.length) : prL (l.take (t + 1)) = prL (l.take t) ++ [l[t].price] := by
 unfold prL;rw [List.take_succ_eq_append_getElem h, List.map_append]
 rfl
theorem prL_len (l : List OrdV) : (prL l).length = l.length := List.length_map ..
theorem sortI_is (v : Value) (m : List Int) (B : Nat) (W : World) (ho : W.ownsRow B 3 1 v m.length (m.map (Value.int .i64))) (hm : m.length ≤ 1000) : Calls Tryz.prog 93 #[v] W fun e w' => e = .returned (.tuple #[]) ∧ w'.ownsRow B 3 1 v m.length ((sortL m).map (Value.int .i64)) ∧ W.grownBy w' v.ownBlock := by
 have hsl := sortL_len m;obtain ⟨h1, ⟨hv, hm0⟩ | ⟨q, cap, cur, rfl, hB, hg, hnc, hcm, hs, ht⟩⟩ := ho
 ·subst hv;have hmn : m = [] := List.length_eq_zero_iff.1 hm0;subst hmn;refine (slices_Sort_int_none _ _ _).mono ?_;rintro e w2 ⟨rfl, rfl⟩;refine ⟨rfl, ?_, grown_refl _ _⟩;rw [show sortL ([] : List Int) = [] by simp [sortL]]
  exact ⟨h1, .inl ⟨rfl, hm0⟩⟩
 ·have hql := (Array.getElem?_eq_some_iff.1 hg).1;rw [Nat.mul_one] at ht;refine (slices_Sort_int q 0 cap m W (holds_of_blockI hg ht) hql (by omega)).mono ?_;rintro e w2 ⟨rfl, N, os, rfl⟩;have ow := ownsRow_sortedI (base := B) (n := N) (os := os) (ss := m) (ts := m.mergeSort fun x y => decide (x ≤ y)) hsl hB hg hnc hcm hs
  exact ⟨rfl, ow, grownBy_sortedI _⟩
structure PX (w : World) (L : LaneV) (b a o : Value) (wx : World) : Prop where
 box : BoxL w L b a o wx
 two : wx.heap[w.heap.size + 1]? = some (.cells #[b, a] 56 (0, 0))
 size : w.heap.size + 2 ≤ wx.heap.size
theorem PX.first (w : World) (L : LaneV) (b a o : Value) : PX w L b a o ((w.alloc (.cells (laneA L b a o) 59)).alloc (.cells #[b, a] 56)) := by
 obtain ⟨k1, k2, k3⟩ := two_heap w (.cells (laneA L b a o) 59) (.cells #[b, a] 56)
 exact ⟨⟨k1, below2 w _ _, by omega⟩, k2, by omega⟩
theorem PX.keep {w wx wy : World} {L : LaneV} {b a o : Value} (h : PX w L b a o wx) (hb : Below wx.heap.size wx wy) : PX w L b a o wy :=
 ⟨h.box.keep hb, (hb.block _ (by have := h.size; omega)).trans h.two, Nat.le_trans h.size hb.size⟩
theorem PX.grow {w wx wy : World} {F : Nat → Prop} {L : LaneV} {b a o : Value} (h : PX w L b a o wx) (ho : Out F wx wy) (hF : ∀ k, F k → w.heap.size + 2 ≤ k) : PX w L b a o wy :=
 ⟨h.box.out ho (fun k e => by have := hF k e; omega), (ho.block _ (by have := h.size; omega) (fun e => by have := hF _ e; omega)).trans h.two, Nat.le_trans h.size ho.size⟩
def prK (b a : List OrdV) : Nat → List Int
 | 0 => []
 | 1 => [] ++ prL b
 | _ => prL b ++ prL a
theorem two_at2 {w : World} {p : Nat} {t : TypeId} {a b : Value} (h : w.heap[p]? = some (.cells #[a, b] t (0, 0))) : (w.cell? ⟨p, 0, none⟩ = some a ∧ w.cell? ⟨p, 1, none⟩ = some b) ∧ (∀ j, w.frozen? ⟨p, j, none⟩ = false) ∧ p < w.heap.size :=
 ⟨⟨by rw [cell_at h]; rfl, by rw [cell_at h]; rfl⟩, fun j => free_at h j, (Array.getElem?_eq_some_iff.1 h).1⟩
set_option maxHeartbeats 8000000 in
set_option maxRecDepth 100000 in
theorem prices_is (L : LaneV) (b a o : Value) (w : World) (h : Lan w L b a o) (hb4 : L.bids.length ≤ 40) (ha4 : L.asks.length ≤ 40) : Calls Tryz.prog 149 #[laneV L b a o] w fun e w' => ∃ v, e = .returned v ∧ w'.ownsRow w.heap.size 3 1 v (prL L.bids ++ prL L.asks).length ((sortL (prL L.bids ++ prL L.asks)).map (Value.int .i64)) ∧ Below w.heap.size w w' := by
 have X0 := hideIt (PX.first w L b a o);obtain ⟨ba, bc, rfl, b8, hb⟩ := h.bids.ords;obtain ⟨aa, ac, rfl, a8, ha⟩ := h.asks.ords;obtain ⟨oa, oc, rfl⟩ := h.owed.slice;have HB := hideIt hb;have HA := hideIt ha;unfold laneV laneA at *;obtain ⟨cl, nx, bids, asks, owed⟩ := L;simp only at *;clear h hb ha
 go_enter Tryz.func149, Tryz.ntmps149
 go_upto_region 3 with fail
 generalize (w.alloc (.cells #[.bool cl, .int .i64 nx, .slice ba bids.length bc, .slice aa asks.length ac, .slice oa owed.length oc] 59)).alloc (.cells #[.slice ba bids.length bc, .slice aa asks.length ac] 56) = W0 at *
 go_loopw [3, 14] (fun v3 v14 wr => ∃ k : Int, v14 = .int .i64 k ∧ (k = 0 ∨ k = 1 ∨ k = 2) ∧ Hid (wr.ownsRow (w.heap.size + 2) 3 1 v3 (prK bids asks k.toNat).length ((prK bids asks k.toNat).map (Value.int .i64)) ∧ PX w ⟨cl, nx, bids, asks, owed⟩ (.slice ba bids.length bc) (.slice aa asks.length ac) (.slice oa owed.length oc) wr)) (fun _ v _ => 2 - (intOf v).toNat)
 case atStart => exact ⟨0, rfl, .inl rfl, hideIt ⟨own_nil _ _, X0.out⟩⟩
 case round =>
  clear X0;obtain ⟨k, rfl, hk2, HR⟩ := hrel
  rcases hk2 with rfl | rfl | rfl
  ·obtain ⟨c0, -, cz⟩ := two_at2 HR.out.2.two
   go_upto_region 6 with fail
   go_loopw [3, 20] (fun v3 v20 wx => ∃ t : Nat, v20 = .int .i64 t ∧ t ≤ bids.length ∧ Hid (wx.ownsRow (w.heap.size + 2) 3 1 v3 (([] : List Int) ++ prL (bids.take t)).length (celC intE (([] : List Int) ++ prL (bids.take t))) ∧ PX w ⟨cl, nx, bids, asks, owed⟩ (.slice ba bids.length bc) (.slice aa asks.length ac) (.slice oa owed.length oc) wx)) (fun _ v _ => bids.length - (intOf v).toNat)
   case atStart => exact ⟨0, rfl, Nat.zero_le _, hideIt ⟨by rw [intC]; simpa [prL, prK] using HR.out.1, HR.out.2⟩⟩
   case round =>
    clear HR c0 cz;obtain ⟨t, rfl, ht, HR⟩ := hrel
    by_cases hlt : t < bids.length
    ·have hltI : (t : Int) < (bids.length : Int) := by omega
     have ht0 : (0 : Int) ≤ (t : Int) := by omega
     have hw2 : IntKind.i64.wrap ((t : Int) + 1) = ((t + 1 : Nat) : Int) := by rw [IntKind.wrap_i64]; omega
     obtain ⟨b, off, rfl, hbl, q0, q1, q2, q3⟩ := HB.out t hlt;have hBw := HR.out.2.box.bel;have hblr : b < wr.heap.size := Nat.lt_of_lt_of_le hbl hBw.size;have d0 := (hBw.cell (p := ⟨b, off + t * 4, none⟩) hbl).trans q0;have d1 := (hBw.cell (p := ⟨b, off + t * 4 + 1, none⟩) hbl).trans q1;have d2 := (hBw.cell (p := ⟨b, off + t * 4 + 2, none⟩) hbl).trans q2;have d3 := (hBw.cell (p := ⟨b, off + t * 4 + 3, none⟩) hbl).trans q3;have HI := hideIt (prL_take bids t hlt);have hL : (prL (bids.take t)).length ≤ 40 := by simp [prL]; omega
     have hL2 : ([] : List Int).length ≤ 40 := by simp [prL]; try omega
     clear q0 q1 q2 q3 hBw;generalize bids[t] = en at *;obtain ⟨ei, ea, ep, el⟩ := en;simp only at d0 d1 d2 d3 HI;have hT := two_heap wr (.cells #[.int .i64 ei, .int .i64 ea, .int .i64 ep, .int .i64 el] 115) (.cells #[.int .i64 ep] 3);have hB2 := below2 wr (.cells #[.int .i64 ei, .int .i64 ea, .int .i64 ep, .int .i64 el] 115) (.cells #[.int .i64 ep] 3);obtain ⟨v', w', hrun, how, hgr⟩ := app1 (enc := intE) (k := 1) (bytes := 8) (t := 153) (e := 3) (fun _ => rfl) (fun x u hu => by simp only [intE, List.mem_cons, List.not_mem_nil, or_false] at hu; rw [hu]; rfl) Tryz.underlying153 info3 rfl (by omega) _ (w.heap.size + 2) _ (([] : List Int) ++ prL (bids.take t)) ep (wr.heap.size + 1) 1 (Nat.le_trans HR.out.2.size hB2.size) (own_keep HR.out.1 hB2) hT.2.1 (by rw [List.length_append]; omega) (by rw [List.length_append]; unfold maxLen; omega)
     have HN : Hid (w'.ownsRow (w.heap.size + 2) 3 1 v' (([] : List Int) ++ prL (bids.take (t + 1))).length (celC intE (([] : List Int) ++ prL (bids.take (t + 1))))) := by
      show World.ownsRow _ _ _ _ _ _ _
      rw [HI.out, ← List.append_assoc];exact how
     have HX := hideIt ((HR.out.2.keep hB2).grow (Out.ofGrown (F := fun k => w.heap.size + 2 ≤ k) hgr (fun k hk => ((own_keep HR.out.1 hB2).lt k hk).1)) (fun _ h => h));have HRUN := hideIt hrun;clear hrun how hgr hT hB2 HR HI hL hL2
     go_wp2_with (at_builtin; refine Lib.wpList_append_run _ rfl _ _ _ _ rfl _ _ rfl rfl _ _ HRUN.out ?_)
     clear HRUN d0 d1 d2 d3;go_wp2
     go_roundw
     case rel => exact ⟨t + 1, by go_num, by omega, hideIt ⟨HN.out, HX.out⟩⟩
     case measure => simp [intOf]; omega
    ·have hltI : ¬ (t : Int) < (bids.length : Int) := by omega
     have het : bids.take t = bids := List.take_of_length_le (by omega);have HN : Hid (wr.ownsRow (w.heap.size + 2) 3 1 u3 (prK bids asks 1).length ((prK bids asks 1).map (Value.int .i64))) := by
      have := HR.out.1;rw [het, intC] at this;exact this
     have HX := hideIt HR.out.2;clear HR het;go_wp2
     go_roundw
     case rel => exact ⟨1, by go_num, by omega, hideIt ⟨HN.out, HX.out⟩⟩
     case measure => simp [intOf]
  ·obtain ⟨c0, -, cz⟩ := two_at2 HR.out.2.two
   go_upto_region 6 with fail
   go_loopw [3, 20] (fun v3 v20 wx => ∃ t : Nat, v20 = .int .i64 t ∧ t ≤ asks.length ∧ Hid (wx.ownsRow (w.heap.size + 2) 3 1 v3 ((prL bids : List Int) ++ prL (asks.take t)).length (celC intE ((prL bids : List Int) ++ prL (asks.take t))) ∧ PX w ⟨cl, nx, bids, asks, owed⟩ (.slice ba bids.length bc) (.slice aa asks.length ac) (.slice oa owed.length oc) wx)) (fun _ v _ => asks.length - (intOf v).toNat)
   case atStart => exact ⟨0, rfl, Nat.zero_le _, hideIt ⟨by rw [intC]; simpa [prL, prK] using HR.out.1, HR.out.2⟩⟩
   case round =>
    clear HR c0 cz;obtain ⟨t, rfl, ht, HR⟩ := hrel
    by_cases hlt : t < asks.length
    ·have hltI : (t : Int) < (asks.length : Int) := by omega
     have ht0 : (0 : Int) ≤ (t : Int) := by omega
     have hw2 : IntKind.i64.wrap ((t : Int) + 1) = ((t + 1 : Nat) : Int) := by rw [IntKind.wrap_i64]; omega
     obtain ⟨b, off, rfl, hbl, q0, q1, q2, q3⟩ := HA.out t hlt;have hBw := HR.out.2.box.bel;have hblr : b < wr.heap.size := Nat.lt_of_lt_of_le hbl hBw.size;have d0 := (hBw.cell (p := ⟨b, off + t * 4, none⟩) hbl).trans q0;have d1 := (hBw.cell (p := ⟨b, off + t * 4 + 1, none⟩) hbl).trans q1;have d2 := (hBw.cell (p := ⟨b, off + t * 4 + 2, none⟩) hbl).trans q2;have d3 := (hBw.cell (p := ⟨b, off + t * 4 + 3, none⟩) hbl).trans q3;have HI := hideIt (prL_take asks t hlt);have hL : (prL (asks.take t)).length ≤ 40 := by simp [prL]; omega
     have hL2 : (prL bids : List Int).length ≤ 40 := by simp [prL]; try omega
     clear q0 q1 q2 q3 hBw;generalize asks[t] = en at *;obtain ⟨ei, ea, ep, el⟩ := en;simp only at d0 d1 d2 d3 HI;have hT := two_heap wr (.cells #[.int .i64 ei, .int .i64 ea, .int .i64 ep, .int .i64 el] 115) (.cells #[.int .i64 ep] 3);have hB2 := below2 wr (.cells #[.int .i64 ei, .int .i64 ea, .int .i64 ep, .int .i64 el] 115) (.cells #[.int .i64 ep] 3);obtain ⟨v', w', hrun, how, hgr⟩ := app1 (enc := intE) (k := 1) (bytes := 8) (t := 153) (e := 3) (fun _ => rfl) (fun x u hu => by simp only [intE, List.mem_cons, List.not_mem_nil, or_false] at hu; rw [hu]; rfl) Tryz.underlying153 info3 rfl (by omega) _ (w.heap.size + 2) _ ((prL bids : List Int) ++ prL (asks.take t)) ep (wr.heap.size + 1) 1 (Nat.le_trans HR.out.2.size hB2.size) (own_keep HR.out.1 hB2) hT.2.1 (by rw [List.length_append]; omega) (by rw [List.length_append]; unfold maxLen; omega)
     have HN : Hid (w'.ownsRow (w.heap.size + 2) 3 1 v' ((prL bids : List Int) ++ prL (asks.take (t + 1))).length (celC intE ((prL bids : List Int) ++ prL (asks.take (t + 1))))) := by
      show World.ownsRow _ _ _ _ _ _ _
      rw [HI.out, ← List.append_assoc];exact how
     have HX := hideIt ((HR.out.2.keep hB2).grow (Out.ofGrown (F := fun k => w.heap.size + 2 ≤ k) hgr (fun k hk => ((own_keep HR.out.1 hB2).lt k hk).1)) (fun _ h => h));have HRUN := hideIt hrun;clear hrun how hgr hT hB2 HR HI hL hL2
     go_wp2_with (at_builtin; refine Lib.wpList_append_run _ rfl _ _ _ _ rfl _ _ rfl rfl _ _ HRUN.out ?_)
     clear HRUN d0 d1 d2 d3;go_wp2
     go_roundw
     case rel => exact ⟨t + 1, by go_num, by omega, hideIt ⟨HN.out, HX.out⟩⟩
     case measure => simp [intOf]; omega
    ·have hltI : ¬ (t : Int) < (asks.length : Int) := by omega
     have het : asks.take t = asks := List.take_of_length_le (by omega);have HN : Hid (wr.ownsRow (w.heap.size + 2) 3 1 u3 (prK bids asks 2).length ((prK bids asks 2).map (Value.int .i64))) := by
      have := HR.out.1;rw [het, intC] at this;exact this
     have HX := hideIt HR.out.2;clear HR het;go_wp2
     go_roundw
     case rel => exact ⟨2, by go_num, by omega, hideIt ⟨HN.out, HX.out⟩⟩
     case measure => simp [intOf]
  ·have HO := hideIt HR.out.1;have HX := hideIt HR.out.2.box.bel;have HZ := hideIt HR.out.2.size;rw [show prK bids asks (2 : Int).toNat = prL bids ++ prL asks from rfl] at HO;have hlen : (prL bids ++ prL asks).length ≤ 80 := by simp [prL]; omega
   clear HR HB HA;obtain ⟨m, hm⟩ : ∃ m, m = prL bids ++ prL asks := ⟨_, rfl⟩;rw [← hm] at HO hlen;have HMM := hideIt hm;clear hm;have HSO := hideIt (sortI_is _ m _ wr HO.out (by omega))
   go_wp2_with fail
   refine HSO.out.mono ?_;rintro e w2 ⟨rfl, how, hgr⟩;dsimp only;have B2 := hideIt (grown_own hgr HO.out (show w.heap.size ≤ w.heap.size + 2 by omega) HX.out);have O2 := hideIt (own_base how (show w.heap.size ≤ w.heap.size + 2 by omega));clear how hgr HSO HO HX HZ;go_wp2;go_ret
   exact ⟨u3, rfl, by rw [← HMM.out]; exact O2.out, B2.out⟩
theorem app_none {t e : TypeId} {z : Value} {k bytes : Nat} (ht : Tryz.prog.underlying t = some (.slice e)) (hi : (Tryz.prog.info? e).map (fun i => (i.zero, i.size, i.bytes)) = some (some z, k, bytes)) (w : World) (B : Nat) (v : Value) (n : Nat) (xs : List Value) (hown : w.ownsRow B e k v n xs) (c : Nat) : (Builtin.append_ #[t, t] t #[v, .slice none 0 c]).run Tryz.prog w = .ok v w := by
 obtain ⟨i, hi, hz0, hz1, hz2⟩ := info_parts hi
 rcases hown.2 with ⟨rfl, rfl⟩ | ⟨g, cap, cur, rfl, _, _, hnc, _⟩
 ·simp [Builtin.append_, run_underlying ht, sizeOf, typeInfo, hi, Builtin.lenOf, Builtin.firstCells]
 ·simp [Builtin.append_, run_underlying ht, sizeOf, typeInfo, hi, Builtin.lenOf, Builtin.firstCells, hnc, storeCells]
structure CC (w : World) (L : LaneV) (b a o X Y Z : Value) (W : World) : Prop where
 box : W.heap[w.heap.size]? = some (.cells (laneA L b a o) 59 (0, 0))
 res : W.heap[w.heap.size + 1]? = some (.cells #[.bool false, .int .i64 0, .slice none 0 0, .slice none 0 0, .slice none 0 0] 59 (0, 0))
 out : W.heap[w.heap.size + 2]? = some (.cells #[.bool L.call, .int .i64 L.next, X, Y, Z] 59 (0, 0))
 bel : Below w.heap.size w W
theorem CC.first (w : World) (L : LaneV) (b a o : Value) : CC w L b a o (.slice none 0 0) (.slice none 0 0) (.slice none 0 0) (((w.alloc (.cells (laneA L b a o) 59)).alloc (.cells #[.bool false, .int .i64 0, .slice none 0 0, .slice none 0 0, .slice none 0 0] 59)).alloc (.cells #[.bool L.call, .int .i64 L.next, .slice none 0 0, .slice none 0 0, .slice none 0 0] 59)) := by
 have ht := two_heap w (.cells (laneA L b a o) 59) (.cells #[.bool false, .int .i64 0, .slice none 0 0, .slice none 0 0, .slice none 0 0] 59);have hb := below1 ((w.alloc (.cells (laneA L b a o) 59)).alloc (.cells #[.bool false, .int .i64 0, .slice none 0 0, .slice none 0 0, .slice none 0 0] 59)) (.cells #[.bool L.call, .int .i64 L.next, .slice none 0 0, .slice none 0 0, .slice none 0 0] 59);refine ⟨(hb.block _ (by rw [ht.2.2]; omega)).trans ht.1, (hb.block _ (by rw [ht.2.2]; omega)).trans ht.2.1, ?_, below_via (below2 w _ _) hb⟩
 have := heap_alloc_new ((w.alloc (.cells (laneA L b a o) 59)).alloc (.cells #[.bool false, .int .i64 0, .slice none 0 0, .slice none 0 0, .slice none 0 0] 59)) (.cells #[.bool L.call, .int .i64 L.next, .slice none 0 0, .slice none 0 0, .slice none 0 0] 59)
 rwa [ht.2.2] at this
theorem CC.keep {w W W' : World} {L : LaneV} {b a o X Y Z : Value} (h : CC w L b a o X Y Z W) (hb : Below W.heap.size W W') : CC w L b a o X Y Z W' :=
 ⟨(hb.block _ (Array.getElem?_eq_some_iff.1 h.box).1).trans h.box, (hb.block _ (Array.getElem?_eq_some_iff.1 h.res).1).trans h.res, (hb.block _ (Array.getElem?_eq_some_iff.1 h.out).1).trans h.out, below_via h.bel hb⟩
theorem CC.x {w W : World} {L : LaneV} {b a o X Y Z : Value} (h : CC w L b a o X Y Z W) (v : Value) : CC w L b a o v Y Z (W.setCell ⟨w.heap.size + 2, 2, none⟩ v) :=
 ⟨setOther _ h.box (by omega), setOther _ h.res (by omega), heap_set h.out 2 v, belowSet _ h.bel (by omega)⟩
theorem CC.y {w W : World} {L : LaneV} {b a o X Y Z : Value} (h : CC w L b a o X Y Z W) (v : Value) : CC w L b a o X v Z (W.setCell ⟨w.heap.size + 2, 3, none⟩ v) :=
 ⟨setOther _ h.box (by omega), setOther _ h.res (by omega), heap_set h.out 3 v, belowSet _ h.bel (by omega)⟩
theorem CC.z {w W : World} {L : LaneV} {b a o X Y Z : Value} (h : CC w L b a o X Y Z W) (v : Value) : CC w L b a o X Y v (W.setCell ⟨w.heap.size + 2, 4, none⟩ v) :=
 ⟨setOther _ h.box (by omega), setOther _ h.res (by omega), heap_set h.out 4 v, belowSet _ h.bel (by omega)⟩
theorem five_at {w : World} {p : Nat} {t : TypeId} {a b c d e : Value} (h : w.heap[p]? = some (.cells #[a, b, c, d, e] t (0, 0))) : (w.cell? ⟨p, 0, none⟩ = some a ∧ w.cell? ⟨p, 1, none⟩ = some b ∧ w.cell? ⟨p, 2, none⟩ = some c ∧ w.cell? ⟨p, 3, none⟩ = some d ∧ w.cell? ⟨p, 4, none⟩ = some e) ∧ (∀ j, w.frozen? ⟨p, j, none⟩ = false) ∧ p < w.heap.size :=
 ⟨⟨by rw [cell_at h]; rfl, by rw [cell_at h]; rfl, by rw [cell_at h]; rfl, by rw [cell_at h]; rfl, by rw [cell_at h]; rfl⟩, fun j => free_at h j, (Array.getElem?_eq_some_iff.1 h).1⟩
theorem srt_tail {α : Type} {r : α → α → Bool} {x : α} {l : List α} (h : srtB r (x :: l) = true) : srtB r l = true := by
 cases l with
 | nil => rfl
 | cons y l =>
  unfold srtB at h;simp only [Bool.and_eq_true] at h;exact h.2
theorem srt_cons {α : Type} {r : α → α → Bool} {x : α} {l : List α} (h : srtB r l = true) (hx : ∀ y, l.head? = some y → r x y = true) : srtB r (x :: l) = true := by
 cases l with
 | nil => rfl
 | cons y l =>
  unfold srtB;simp only [Bool.and_eq_true]
  exact ⟨hx y rfl, h⟩
theorem srt_head {α : Type} {r : α → α → Bool} {x y : α} {l : List α} (h : srtB r (x :: y :: l) = true) : r x y = true := by
 unfold srtB at h;simp only [Bool.and_eq_true] at h;exact h.1
theorem srt_laid {α : Type} {r : α → α → Bool} {x : α} : ∀ {l : List α}, srtB r l = true → (∀ y ∈ l, r y x = false → r x y = true) → srtB r (laidL r x l) = true
 | [], _, _ => rfl
 | y :: l, h, ht => by
  unfold laidL;rw [List.takeWhile_cons, List.dropWhile_cons];cases hy : r y x
  ·simp only [Bool.false_eq_true, if_false, List.nil_append];exact srt_cons h (fun z hz => by
    simp only [List.head?_cons, Option.some.injEq] at hz;rw [← hz];exact ht y (by simp) hy)
  ·simp only [if_true, List.cons_append];have ih := srt_laid (srt_tail h) (fun z hz => ht z (List.mem_cons_of_mem _ hz));unfold laidL at ih;refine srt_cons ih (fun z hz => ?_);cases l with
   | nil =>
    simp at hz
    rw [← hz];exact hy
   | cons w l =>
    rw [List.takeWhile_cons] at hz
    split at hz
    ·simp at hz
     rw [← hz];exact srt_head h
    ·simp at hz
     rw [← hz];exact hy
theorem laid_mem {α : Type} {r : α → α → Bool} {x : α} {l : List α} {y : α} : y ∈ laidL r x l ↔ y = x ∨ y ∈ l := by
 unfold laidL;have e := List.takeWhile_append_dropWhile (p := (r · x)) (l := l);rw [List.mem_append, List.mem_cons]
 constructor
 ·rintro (h | h | h)
  ·exact .inr (List.takeWhile_subset _ h)
  ·exact .inl h
  ·exact .inr (List.dropWhile_subset _ h)
 ·rintro (h | h)
  ·exact .inr (.inl h)
  ·rw [← e, List.mem_append] at h
   rcases h with h | h
   ·exact .inl h
   ·exact .inr (.inr h)
theorem laid_len {α : Type} {r : α → α → Bool} {x : α} {l : List α} : (laidL r x l).length = l.length + 1 := by
 unfold laidL;have e := congrArg List.length (List.takeWhile_append_dropWhile (p := (r · x)) (l := l));rw [List.length_append] at e ⊢;rw [List.length_cons];omega
theorem laid_perm {α : Type} {r : α → α → Bool} {x : α} {l : List α} : (laidL r x l).Perm (x :: l) := by
 unfold laidL;have e := List.takeWhile_append_dropWhile (p := (r · x)) (l := l)
 conv => rhs; rw [← e]
 exact List.perm_middle
theorem laid_head {α : Type} {r : α → α → Bool} {x : α} {l : List α} {y : α} (h : (laidL r x l).head? = some y) : y = x ∨ l.head? = some y := by
 unfold laidL at h;cases l with
 | nil => simp at h; exact .inl h.symm
 | cons z l =>
  rw [List.takeWhile_cons] at h
  split at h
  ·simp at h
   exact .inr (by rw [← h]; rfl)
  ·simp at h
   exact .inl h.symm
def OwOk (l : List OweV) : Prop := srtB owB l = true ∧ ∀ y ∈ l, (1 ≤ y.acc ∧ y.acc ≤ 8) ∧ (0 ≤ y.asset ∧ y.asset ≤ 1) ∧ 1 ≤ y.n
theorem owed_owok {l : List OweV} (h : owedB l = true) : OwOk l := by
 unfold owedB at h;simp only [Bool.and_eq_true, Bool.not_eq_true', List.any_eq_false] at h;refine ⟨h.2, fun z hz => ?_⟩;have h2 := h.1 z hz;unfold stoB at h2;simp only [Bool.or_eq_true, not_or, Bool.not_eq_true', Bool.not_eq_false] at h2
 exact ⟨wiB_in h2.1.1, wiB_in h2.1.2, (wiB_in h2.2).1⟩
theorem owok_owed {l : List OweV} (h : OwOk l) (ho : overB l = false) : owedB l = true := by
 unfold owedB;simp only [Bool.and_eq_true, Bool.not_eq_true', List.any_eq_false];refine ⟨fun z hz => ?_, h.1⟩;have h1 := h.2 z hz;unfold overB at ho;simp only [List.any_eq_false, decide_eq_true_eq] at ho;have h3 := ho z hz;unfold stoB wiB;simp only [Bool.or_eq_true, not_or, Bool.not_eq_true', decide_eq_false_iff_not, Decidable.not_not];omega
theorem srt_modify {f : OweV → OweV} (hf : ∀ y, (f y).acc = y.acc ∧ (f y).asset = y.asset) : ∀ (l : List OweV) (i : Nat), srtB owB l = true → srtB owB (l.modify i f) = true
 | [], i, h => by simpa using h
 | y :: l, 0, h => by
  rw [List.modify_zero_cons];refine srt_cons (srt_tail h) (fun z hz => ?_);cases l with
  | nil => simp at hz
  | cons w l =>
   simp at hz
   have := srt_head h;rw [← hz];unfold owB at this ⊢;rw [(hf y).1, (hf y).2];exact this
 | y :: l, i + 1, h => by
  rw [List.modify_succ_cons];refine srt_cons (srt_modify hf l i (srt_tail h)) (fun z hz => ?_);cases l with
  | nil => simp at hz
  | cons w l =>
   have := srt_head h;cases i with
   | zero =>
    rw [List.modify_zero_cons] at hz
    simp at hz
    rw [← hz];unfold owB at this ⊢;rw [(hf w).1, (hf w).2];exact this
   | succ i =>
    rw [List.modify_succ_cons] at hz
    simp at hz
    rw [← hz];exact this
theorem owok_owe {l : List OweV} {acc asset n : Int} (h : OwOk l) (ha : 1 ≤ acc ∧ acc ≤ 8) (hs : 0 ≤ asset ∧ asset ≤ 1) (hn : 1 ≤ n) : OwOk (oweL acc asset n l) := by
 obtain ⟨h1, h2⟩ := h;unfold oweL
 split
 ·rename_i i hi
  refine ⟨srt_modify (f := fun y => ⟨y.acc, y.asset, y.n + n⟩) (fun y => ⟨rfl, rfl⟩) l i h1, fun y hy => ?_⟩;rw [List.mem_iff_getElem?] at hy;obtain ⟨j, hj⟩ := hy;rw [List.getElem?_modify] at hj;cases hjl : l[j]? with
  | none => rw [hjl] at hj; simp at hj
  | some z =>
   have hz := h2 z (List.mem_of_getElem? hjl);rw [hjl] at hj;simp only [Option.map_eq_map, Option.map_some, Option.some.injEq] at hj;rw [← hj]
   split
   ·simp only
    omega
   ·first | exact hz | (simp only [id]; exact hz)
 ·rename_i hnone
  rw [List.findIdx?_eq_none_iff] at hnone;refine ⟨srt_laid h1 (fun y hy hf => ?_), fun y hy => ?_⟩
  ·have h3 := hnone y hy;unfold oweP at h3;unfold owB at hf ⊢;simp only [Bool.or_eq_false_iff, Bool.and_eq_false_iff, decide_eq_false_iff_not] at hf h3;simp only [Bool.or_eq_true, Bool.and_eq_true, decide_eq_true_eq];omega
  ·rcases laid_mem.1 hy with rfl | hy
   ·exact ⟨ha, hs, hn⟩
   ·exact h2 y hy
def AccT (T : List OrdV) : Prop := ∀ r ∈ T, 1 ≤ r.acc ∧ r.acc ≤ 8
theorem mul_pos1 {a b : Int} (ha : 1 ≤ a) (hb : 1 ≤ b) : 1 ≤ a * b := by
 have := Int.mul_le_mul ha hb (by omega) (by omega);omega
theorem owok_set {l : List OweV} {s : Int} {o r : OrdV} {n : Int} (h : OwOk l) (hn : 1 ≤ n) (ho : 1 ≤ o.acc ∧ o.acc ≤ 8) (hr : 1 ≤ r.acc ∧ r.acc ≤ 8) (hp : 1 ≤ r.price) : OwOk (setO s o r n l) := by
 have hb : 1 ≤ (setB s o r).acc ∧ (setB s o r).acc ≤ 8 := by unfold setB; split <;> assumption
 have hs : 1 ≤ (setS s o r).acc ∧ (setS s o r).acc ≤ 8 := by unfold setS; split <;> assumption
 have h2 := owok_owe (owok_owe h hb (by omega : (0 : Int) ≤ 1 ∧ (1 : Int) ≤ 1) hn) hs (by omega : (0 : Int) ≤ 0 ∧ (0 : Int) ≤ 1) (mul_pos1 hp hn);unfold setO
 simp only
 split
 ·rename_i hlt
  exact owok_owe h2 hb (by omega) (mul_pos1 (by omega) hn)
 ·exact h2
def Suf : List OrdV → List OrdV → Prop
 | [], R => R = []
 | r :: rs, R => R = r :: rs ∨ (∃ m, (1 ≤ m ∧ m ≤ r.left) ∧ R = ⟨r.id, r.acc, r.price, m⟩ :: rs) ∨ Suf rs R
theorem Suf.all : ∀ (T : List OrdV), Suf T T
 | [] => rfl
 | _ :: _ => .inl rfl
theorem Suf.cut (r : OrdV) (rs : List OrdV) (m : Int) (h : 1 ≤ m ∧ m ≤ r.left) : Suf (r :: rs) (⟨r.id, r.acc, r.price, m⟩ :: rs) := .inr (.inl ⟨m, h, rfl⟩)
theorem Suf.skip (r : OrdV) {rs R : List OrdV} (h : Suf rs R) : Suf (r :: rs) R := .inr (.inr h)
theorem Suf.ind {P : List OrdV → List OrdV → Prop} (all : ∀ T, P T T) (cut : ∀ (r : OrdV) (rs : List OrdV) (m : Int), (1 ≤ m ∧ m ≤ r.left) → P (r :: rs) (⟨r.id, r.acc, r.price, m⟩ :: rs)) (skip : ∀ (r : OrdV) (rs R : List OrdV), Suf rs R → P rs R → P (r :: rs) R) : ∀ {T R : List OrdV}, Suf T R → P T R
 | [], R, h => by
  have e : R = [] := h;rw [e];exact all []
 | r :: rs, R, h => by
  rcases h with h | ⟨m, hm, h⟩ | h
  ·rw [h];exact all _
  ·rw [h];exact cut r rs m hm
  ·exact skip r rs R h (Suf.ind all cut skip h)
theorem trL_suf (s : Int) (x : OrdV) (hxa : 1 ≤ x.acc ∧ x.acc ≤ 8) : ∀ (T : List OrdV) (left : Int) (ow : List OweV) (F : List FillV), OkT T → AccT T → 0 ≤ left → OwOk ow → Suf T (trL s x T left ow F).1 ∧ OwOk (trL s x T left ow F).2.2.1 ∧ (0 < (trL s x T left ow F).2.1 → ∀ r, (trL s x T left ow F).1.head? = some r → meetB s x.price r.price = false) ∧ (0 ≤ (trL s x T left ow F).2.1 ∧ (trL s x T left ow F).2.1 ≤ left)
 | [], left, ow, F, _, _, hl, ho => ⟨Suf.all _, ho, fun _ r hr => by simp [trL] at hr, by simp only [trL]; omega⟩
 | r :: rs, left, ow, F, ht, ha, hl, ho => by
  have hr := ht r (by simp);have hra := ha r (by simp);unfold trL
  by_cases hm : 0 < left ∧ meetB s x.price r.price = true
  ·rw [if_pos hm];have hn : 1 ≤ min left r.left ∧ min left r.left ≤ left ∧ min left r.left ≤ r.left := by omega
   have hs := owok_set (s := s) (o := x) (r := r) (n := min left r.left) ho hn.1 hxa hra hr.1.1
   by_cases h0 : r.left - min left r.left = 0
   ·rw [if_pos h0];have ih := trL_suf s x hxa rs (left - min left r.left) (setO s x r (min left r.left) ow) (F ++ [setF s x r (min left r.left)]) (fun q hq => ht q (List.mem_cons_of_mem _ hq)) (fun q hq => ha q (List.mem_cons_of_mem _ hq)) (by omega) hs
    exact ⟨Suf.skip r ih.1, ih.2.1, ih.2.2.1, by omega⟩
   ·rw [if_neg h0];refine ⟨Suf.cut r rs _ (by omega), hs, fun hx => ?_, by simp only; omega⟩
    simp only at hx;omega
  ·rw [if_neg hm];refine ⟨Suf.all _, ho, fun hx q hq => ?_, by simp only; omega⟩
   simp only [List.head?_cons, Option.some.injEq] at hq;subst hq;cases hb : meetB s x.price r.price
   ·rfl
   ·exact absurd ⟨hx, hb⟩ hm
theorem str_mono {nx ny : Int} {o : OrdV} (h : strB nx o = false) (hn : nx ≤ ny) : strB ny o = false := by
 unfold strB wiB at *;simp only [Bool.or_eq_false_iff, Bool.not_eq_false', decide_eq_true_eq] at *;omega
theorem side_suf {s nx ny : Int} (hn : nx ≤ ny) : ∀ {T R : List OrdV}, Suf T R → sideB s nx T = true → sideB s ny R = true := by
 intro T R h;refine Suf.ind (P := fun T R => sideB s nx T = true → sideB s ny R = true) ?_ ?_ ?_ h
 ·intro T hs;unfold sideB at *;simp only [Bool.and_eq_true, decide_eq_true_eq, Bool.not_eq_true', List.any_eq_false, Bool.not_eq_true] at *
  exact ⟨hs.1, fun q hq => str_mono (hs.2.1 q hq) hn, hs.2.2⟩
 ·intro r rs m hm hs;unfold sideB at *;simp only [Bool.and_eq_true, decide_eq_true_eq, Bool.not_eq_true', List.any_eq_false, Bool.not_eq_true] at *;refine ⟨by simpa using hs.1, fun q hq => ?_, ?_⟩
  ·rcases List.mem_cons.1 hq with rfl | hq
   ·have h1 := str_mono (hs.2.1 r (by simp)) hn;unfold strB wiB at *;simp only [Bool.or_eq_false_iff, Bool.not_eq_false', decide_eq_true_eq] at *;omega
   ·exact str_mono (hs.2.1 q (List.mem_cons_of_mem _ hq)) hn
  ·refine srt_cons (srt_tail hs.2.2) (fun z hz => ?_);cases rs with
   | nil => simp at hz
   | cons w rs =>
    simp at hz
    rw [← hz];exact srt_head hs.2.2
 ·intro r rs R h ih hs;refine ih ?_;unfold sideB at *;simp only [Bool.and_eq_true, decide_eq_true_eq, Bool.not_eq_true', List.any_eq_false, Bool.not_eq_true] at *
  exact ⟨by have := hs.1; simp at this; omega, fun q hq => hs.2.1 q (List.mem_cons_of_mem _ hq), srt_tail hs.2.2⟩
theorem srt_lt_pair : ∀ {l : List Int}, srtB ltB l = true → l.Pairwise (· < ·)
 | [], _ => List.Pairwise.nil
 | [x], _ => by simp
 | x :: y :: l, h => by
  have ih := srt_lt_pair (srt_tail h);have h1 : x < y := of_decide_eq_true (srt_head h);refine List.pairwise_cons.2 ⟨fun z hz => ?_, ih⟩
  rcases List.mem_cons.1 hz with rfl | hz
  ·exact h1
  ·exact Int.lt_trans h1 ((List.pairwise_cons.1 ih).1 z hz)
theorem pair_srt_lt : ∀ {l : List Int}, l.Pairwise (· ≤ ·) → l.Nodup → srtB ltB l = true
 | [], _, _ => rfl
 | x :: l, h, hn => by
  refine srt_cons (pair_srt_lt (List.pairwise_cons.1 h).2 (List.nodup_cons.1 hn).2) (fun y hy => ?_);have hm : y ∈ l := List.mem_of_mem_head? hy;have h1 := (List.pairwise_cons.1 h).1 y hm;have h2 : x ≠ y := fun e => (List.nodup_cons.1 hn).1 (e ▸ hm)
  exact decide_eq_true (by omega)
theorem sort_perm (m : List Int) : (sortL m).Perm m := List.mergeSort_perm m _
theorem sort_pair (m : List Int) : (sortL m).Pairwise (· ≤ ·) := by
 have h := List.pairwise_mergeSort (le := fun x y : Int => decide (x ≤ y)) (fun a b c h1 h2 => by simp only [decide_eq_true_eq] at *; omega) (fun a b => by simp only [Bool.or_eq_true, decide_eq_true_eq]; omega) m
 exact h.imp (fun h => of_decide_eq_true h)
theorem unl_iff (L : LaneV) : unlB L = true ↔ (idsL L.bids ++ idsL L.asks).Nodup := by
 unfold unlB
 constructor
 ·intro h;exact (sort_perm _).nodup_iff.1 ((srt_lt_pair h).imp (fun h => by omega))
 ·intro h;exact pair_srt_lt (sort_pair _) ((sort_perm _).nodup_iff.2 h)
theorem suf_ids {T R : List OrdV} (h : Suf T R) : (idsL R).Sublist (idsL T) := by
 refine Suf.ind (P := fun T R => (idsL R).Sublist (idsL T)) ?_ ?_ ?_ h
 ·exact fun T => List.Sublist.refl _
 ·exact fun r rs m hm => List.Sublist.refl _
 ·exact fun r rs R h ih => ih.trans (List.sublist_cons_self _ _)
def worse (s p q : Int) : Prop := if s = 1 then p ≤ q else q ≤ p
theorem ah_worse {s : Int} (hs : s = 1 ∨ s = 2) {a b : OrdV} (h : ahB s a b = true) : worse s b.price a.price := by
 unfold ahB at h;unfold worse
 rcases hs with rfl | rfl
 ·split at h
  ·simp; omega
  ·simp at h; simp; omega
 ·split at h
  ·simp; omega
  ·simp at h; simp; omega
theorem worse_trans {s p q r : Int} (h : worse s p q) (k : worse s q r) : worse s p r := by
 unfold worse at *
 split at h <;> simp_all <;> omega
theorem suf_head {s : Int} (hs : s = 1 ∨ s = 2) {T R : List OrdV} (h : Suf T R) : srtB (ahB s) T = true → ∀ r, R.head? = some r → ∃ t, T.head? = some t ∧ worse s r.price t.price := by
 refine Suf.ind (P := fun T R => srtB (ahB s) T = true → ∀ r, R.head? = some r → ∃ t, T.head? = some t ∧ worse s r.price t.price) ?_ ?_ ?_ h
 ·exact fun T _ r hr => ⟨r, hr, by unfold worse; split <;> omega⟩
 ·intro q rs m hm _ r hr;simp only [List.head?_cons, Option.some.injEq] at hr;subst hr
  exact ⟨q, rfl, by unfold worse; split <;> simp⟩
 ·intro q rs R' h ih hsr r hr;obtain ⟨t, ht, hw⟩ := ih (srt_tail hsr) r hr;refine ⟨q, rfl, ?_⟩;cases rs with
  | nil => simp at ht
  | cons z rs =>
   simp only [List.head?_cons, Option.some.injEq] at ht;subst ht;exact worse_trans hw (ah_worse hs (srt_head hsr))
theorem cross_iff (L : LaneV) : crossB L = false ↔ ∀ x y, L.bids.head? = some x → L.asks.head? = some y → x.price < y.price := by
 unfold crossB
 constructor
 ·intro h x y hx hy;cases hb : L.bids with
  | nil => rw [hb] at hx; simp at hx
  | cons p ps =>
   cases ha : L.asks with
   | nil => rw [ha] at hy; simp at hy
   | cons q qs =>
    rw [hb] at hx h;rw [ha] at hy h
    simp at hx hy h
    subst hx hy;omega
 ·intro h
  split
  ·rename_i p ps q qs hb ha
   have := h p q (by rw [hb]; rfl) (by rw [ha]; rfl)
   simp; omega
  ·rfl
structure BOk (L : LaneV) : Prop where
 next : 1 ≤ L.next ∧ L.next ≤ 1000001
 sb : sideB 1 L.next L.bids = true
 sa : sideB 2 L.next L.asks = true
 nd : (idsL L.bids ++ idsL L.asks).Nodup
 cr : L.call = true ∨ ∀ x y, L.bids.head? = some x → L.asks.head? = some y → x.price < y.price
 ow : owedB L.owed = true
theorem chk_bok (L : LaneV) : chkB L = true ↔ BOk L := by
 unfold chkB;simp only [Bool.and_eq_true, Bool.or_eq_true, Bool.not_eq_true', unl_iff, cross_iff]
 constructor
 ·rintro ⟨h1, h2, h3, h4, h5, h6⟩
  exact ⟨wiB_in h1, h2, h3, h4, h5, h6⟩
 ·rintro ⟨h1, h2, h3, h4, h5, h6⟩
  exact ⟨decide_eq_true h1, h2, h3, h4, h5, h6⟩
theorem side_acc {s nx : Int} {l : List OrdV} (h : sideB s nx l = true) : AccT l ∧ (∀ r ∈ l, 1 ≤ r.id ∧ r.id ≤ nx - 1) ∧ srtB (ahB s) l = true := by
 unfold sideB at h;simp only [Bool.and_eq_true, decide_eq_true_eq, Bool.not_eq_true', List.any_eq_false] at h;refine ⟨fun r hr => ?_, fun r hr => ?_, h.2.2⟩ <;>
 ·have h2 := h.2.1 r hr;unfold strB at h2;simp only [Bool.or_eq_true, not_or, Bool.not_eq_true', Bool.not_eq_false] at h2
  first | exact wiB_in h2.1.1.1 | exact wiB_in h2.2
theorem side_laid {s nx : Int} {l : List OrdV} {acc price left : Int} (h : sideB s nx l = true) (hl : l.length < 40) (ha : 1 ≤ acc ∧ acc ≤ 8) (hp : 1 ≤ price ∧ price ≤ 1000000) (hm : 1 ≤ left ∧ left ≤ 1000000) (hn : 1 ≤ nx) : sideB s (nx + 1) (laidL (ahB s) ⟨nx, acc, price, left⟩ l) = true := by
 have hx := side_acc h;have h' := side_suf (s := s) (ny := nx + 1) (by omega) (Suf.all l) h;unfold sideB at h' ⊢;simp only [Bool.and_eq_true, decide_eq_true_eq, Bool.not_eq_true', List.any_eq_false, Bool.not_eq_true] at h' ⊢;refine ⟨by rw [laid_len]; omega, fun q hq => ?_, srt_laid h'.2.2 (fun y hy hf => ?_)⟩
 ·rcases laid_mem.1 hq with rfl | hq
  ·unfold strB wiB;simp only [Bool.or_eq_false_iff, Bool.not_eq_false', decide_eq_true_eq];omega
  ·exact h'.2.1 q hq
 ·have hi := hx.2.1 y hy;unfold ahB at hf ⊢;simp only at hf ⊢
  by_cases hpe : y.price = price
  ·rw [if_pos hpe] at hf
   simp at hf
   omega
  ·rw [if_neg hpe] at hf;rw [if_neg (fun e => hpe e.symm)]
   by_cases h1 : price < y.price
   ·rw [decide_eq_true h1] at hf;rw [decide_eq_false (by omega)]
    revert hf
    cases decide (s = 1) <;> simp
   ·rw [decide_eq_false h1] at hf;rw [decide_eq_true (by omega)]
    revert hf
    cases decide (s = 1) <;> simp
theorem plT_is {L : LaneV} {s acc price n : Int} (h : BOk L) (hs : s = 1 ∨ s = 2) (ha : 1 ≤ acc ∧ acc ≤ 8) (hn : 1 ≤ n ∧ n ≤ 1000000) : Suf (sideL L (if s = 1 then 2 else 1)) (plT L s ⟨L.next, acc, price, n⟩).1 ∧ OwOk (plT L s ⟨L.next, acc, price, n⟩).2.2.1 ∧ (L.call = false → 0 < (plT L s ⟨L.next, acc, price, n⟩).2.1 → ∀ r, (plT L s ⟨L.next, acc, price, n⟩).1.head? = some r → meetB s price r.price = false) ∧ (0 ≤ (plT L s ⟨L.next, acc, price, n⟩).2.1 ∧ (plT L s ⟨L.next, acc, price, n⟩).2.1 ≤ n) := by
 have ho := owed_owok h.ow;unfold plT;cases hc : L.call
 ·have hside : OkT (sideL L (if s = 1 then 2 else 1)) ∧ AccT (sideL L (if s = 1 then 2 else 1)) := by
   rcases hs with rfl | rfl
   ·exact ⟨(side_ok h.sa).2, (side_acc h.sa).1⟩
   ·exact ⟨(side_ok h.sb).2, (side_acc h.sb).1⟩
  have ht := trL_suf s ⟨L.next, acc, price, n⟩ ha (sideL L (if s = 1 then 2 else 1)) n L.owed [] hside.1 hside.2 (by omega) ho;simp only [Bool.false_eq_true, if_false]
  exact ⟨ht.1, ht.2.1, fun _ => ht.2.2.1, ht.2.2.2⟩
 ·simp only [if_true]
  exact ⟨Suf.all _, ho, fun h => absurd h (by simp), by omega⟩
theorem nodup_laid {α : Type} {r : α → α → Bool} {x : α} {f : α → Int} {l : List α} {m : List Int} (h : (l.map f ++ m).Nodup) (h1 : ∀ y ∈ l, f y ≠ f x) (h2 : f x ∉ m) : ((laidL r x l).map f ++ m).Nodup := by
 have hp : ((laidL r x l).map f ++ m).Perm (f x :: (l.map f ++ m)) := (laid_perm.map f).append_right m;rw [hp.nodup_iff, List.nodup_cons];refine ⟨fun hx => ?_, h⟩;rw [List.mem_append, List.mem_map] at hx
 rcases hx with ⟨y, hy, e⟩ | hx
 ·exact h1 y hy e
 ·exact h2 hx
theorem ids_in {s nx : Int} {l : List OrdV} (h : sideB s nx l = true) : nx ∉ idsL l := by
 intro hx;unfold idsL at hx;rw [List.mem_map] at hx;obtain ⟨y, hy, e⟩ := hx;have := (side_acc h).2.1 y hy;omega
theorem suf_nx {s nx : Int} {T R : List OrdV} (h : sideB s nx T = true) (hs : Suf T R) : nx ∉ idsL R := fun hx => ids_in h ((suf_ids hs).subset hx)
theorem place_may {L : LaneV} {acc s price n : Int} {now : Bool} (hr : refE L acc s price n now = 0) (ho : overB (plR (plL L s (plT L s ⟨L.next, acc, price, n⟩).1 (plT L s ⟨L.next, acc, price, n⟩).2.2.1) s ⟨L.next, acc, price, (plT L s ⟨L.next, acc, price, n⟩).2.1⟩ now).owed = false) : BOk (plR (plL L s (plT L s ⟨L.next, acc, price, n⟩).1 (plT L s ⟨L.next, acc, price, n⟩).2.2.1) s ⟨L.next, acc, price, (plT L s ⟨L.next, acc, price, n⟩).2.1⟩ now) := by
 obtain ⟨hc, hs, hp, hn, hnc, hl, hnx, ha⟩ := refE_ok hr;have hB := (chk_bok L).1 hc;obtain ⟨ht1, ht2, ht3, ht4⟩ := plT_is (price := price) hB hs ha hn
 revert ho ht1 ht2 ht3 ht4
 generalize (plT L s ⟨L.next, acc, price, n⟩).1 = T;generalize (plT L s ⟨L.next, acc, price, n⟩).2.1 = left;generalize (plT L s ⟨L.next, acc, price, n⟩).2.2.1 = ow;intro ho hT hO hM hL;clear hr hc;obtain ⟨cl, nx, bids, asks, owed⟩ := L;obtain ⟨b1, b2, b3, b4, b5, b6⟩ := hB;simp only at *;have hb := side_suf (ny := nx + 1) (by omega) (Suf.all bids) b2;have hak := side_suf (ny := nx + 1) (by omega) (Suf.all asks) b3
 rcases hs with rfl | rfl
 ·simp only [sideL, if_true, show ¬ ((2 : Int) = 1) by decide, if_false] at hT hl;have hTs := side_suf (s := 2) (ny := nx + 1) (by omega) hT b3;have hnd : (idsL bids ++ idsL T).Nodup := b4.sublist ((List.Sublist.refl _).append (suf_ids hT));have hcr : cl = true ∨ ∀ x y, bids.head? = some x → T.head? = some y → x.price < y.price := by
   rcases b5 with h | h
   ·exact .inl h
   ·refine .inr (fun x y hx hy => ?_);obtain ⟨t, htt, hw⟩ := suf_head (.inr rfl) hT (side_acc b3).2.2 y hy;have := h x t hx htt;unfold worse at hw
    simp at hw
    omega
  unfold plR plL at ho ⊢;simp only [if_true] at ho ⊢
  by_cases h0 : 0 < left
  ·rw [if_pos h0] at ho ⊢;cases now
   ·simp only [Bool.false_eq_true, if_false] at ho ⊢;refine ⟨by simp only; omega, side_laid b2 hl ha hp (by omega) (by omega), hTs, nodup_laid (f := OrdV.id) hnd (fun y hy => ?_) (suf_nx b3 hT), ?_, owok_owed hO ho⟩
    ·have := (side_acc b2).2.1 y hy
     simp only
     omega
    ·cases hcl : cl
     ·refine .inr (fun x y hx hy => ?_);have hm := hM hcl h0 y hy
      rcases laid_head hx with rfl | hx
      ·unfold meetB at hm
       simp at hm
       exact hm
      ·exact (hcr.resolve_left (by simp [hcl])) x y hx hy
     ·exact .inl rfl
   ·simp only [if_true] at ho ⊢;refine ⟨by simp only; omega, hb, hTs, hnd, hcr, owok_owed (owok_owe hO ha (by unfold brA; simp) ?_) ho⟩
    unfold brN;simp only [if_true];exact mul_pos1 hp.1 (by omega)
  ·rw [if_neg h0] at ho ⊢
   exact ⟨by simp only; omega, hb, hTs, hnd, hcr, owok_owed hO ho⟩
 ·simp only [sideL, if_true, show ¬ ((2 : Int) = 1) by decide, if_false] at hT hl;have hTs := side_suf (s := 1) (ny := nx + 1) (by omega) hT b2;have hnd : (idsL T ++ idsL asks).Nodup := b4.sublist ((suf_ids hT).append (List.Sublist.refl _));have hcr : cl = true ∨ ∀ x y, T.head? = some x → asks.head? = some y → x.price < y.price := by
   rcases b5 with h | h
   ·exact .inl h
   ·refine .inr (fun x y hx hy => ?_);obtain ⟨t, htt, hw⟩ := suf_head (.inl rfl) hT (side_acc b2).2.2 x hx;have := h t y htt hy;unfold worse at hw
    simp at hw
    omega
  unfold plR plL at ho ⊢;simp only [show ¬ ((2 : Int) = 1) by decide, if_false] at ho ⊢
  by_cases h0 : 0 < left
  ·rw [if_pos h0] at ho ⊢;cases now
   ·simp only [Bool.false_eq_true, if_false] at ho ⊢;refine ⟨by simp only; omega, hTs, side_laid b3 hl ha hp (by omega) (by omega), ?_, ?_, owok_owed hO ho⟩
    ·refine List.perm_append_comm.nodup_iff.1 (nodup_laid (f := OrdV.id) (List.perm_append_comm.nodup_iff.1 hnd) (fun y hy => ?_) (suf_nx b2 hT));have := (side_acc b3).2.1 y hy
     simp only
     omega
    ·cases hcl : cl
     ·refine .inr (fun x y hx hy => ?_);have hm := hM hcl h0 x hx
      rcases laid_head hy with rfl | hy
      ·unfold meetB at hm
       simp at hm
       exact hm
      ·exact (hcr.resolve_left (by simp [hcl])) x y hx hy
     ·exact .inl rfl
   ·simp only [if_true] at ho ⊢;refine ⟨by simp only; omega, hTs, hak, hnd, hcr, owok_owed (owok_owe hO ha (by unfold brA; simp) ?_) ho⟩
    unfold brN
    simp
    omega
  ·rw [if_neg h0] at ho ⊢
   exact ⟨by simp only; omega, hTs, hak, hnd, hcr, owok_owed hO ho⟩
theorem placeL_may {L : LaneV} {acc s price n : Int} {now : Bool} (h : (placeL L acc s price n now).2.2.2 = 0) : chkB (placeL L acc s price n now).1 = true := by
 unfold placeL at h ⊢
 by_cases hr : refE L acc s price n now ≠ 0
 ·rw [if_pos hr] at h;exact absurd h hr
 ·rw [if_neg hr] at h ⊢;unfold plX at h ⊢;cases ho : overB (plR (plL L s (plT L s ⟨L.next, acc, price, n⟩).1 (plT L s ⟨L.next, acc, price, n⟩).2.2.1) s ⟨L.next, acc, price, (plT L s ⟨L.next, acc, price, n⟩).2.1⟩ now).owed
  ·simp only [Bool.false_eq_true, if_false];exact (chk_bok _).2 (place_may (by simpa using hr) ho)
  ·rw [ho] at h
   simp at h
end Go.Proofs.YtiinigifjdpicaaGreatDoor
