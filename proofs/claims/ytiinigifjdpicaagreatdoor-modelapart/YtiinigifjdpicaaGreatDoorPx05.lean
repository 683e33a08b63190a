/- Texts of my own, laid together. -/
import Derived.Test.YtiinigifjdpicaaGreatDoorPx04
import Derived.Ground.SlgmProg
import Derived.Shelf.SortM.Plain
import Derived.Shelf.SortM.SortNone
import Derived.Test.YtiinigifjdpicaaGreatDoorProg
namespace Go.Proofs.YtiinigifjdpicaaGreatDoor
open Go.RowKit
set_option linter.all false
def TrBack1 (D B : Nat) (L : LaneV) (b a : Value) (R : List OrdV × Int × List OweV × List FillV) (w : World) (e : Ending) (w' : World) : Prop := ∃ tv o' f', e = .returned (.int .i64 R.2.1) ∧ Deal D B ⟨L.call, L.next, L.bids, R.1, R.2.2.1⟩ R.2.2.2 b tv o' f' w' ∧ tv.ownBlock = a.ownBlock ∧ Tcr D B a.ownBlock w w'
set_option maxHeartbeats 64000000 in
set_option maxRecDepth 100000 in
theorem trade1_is (D B c : Nat) (L : LaneV) (F : List FillV) (b a o f : Value) (x : OrdV) (w : World) (h : Deal D B L F b a o f w) (hB : B ≤ w.heap.size) (hO : OkO c L.owed) (hc : c + 3 * L.asks.length ≤ 800) (hG : F.length + L.asks.length ≤ 900) (hT : OkT L.asks) (hp : 0 ≤ x.price ∧ x.price ≤ 1000000) (hl : 0 ≤ x.left ∧ x.left ≤ 1000000) :
  Calls Tryz.prog 112 #[.pointer (some ⟨D, 0, none⟩), .int .i64 1, .agg (ordE x).toArray] w (TrBack1 D B L b a (trL 1 x L.asks x.left L.owed F) w) := by
 obtain ⟨RES, hRES⟩ : ∃ RES, RES = trL 1 x L.asks x.left L.owed F := ⟨_, rfl⟩;rw [← hRES];have HOS := hideIt (fun W => otherSide_is 1 W);rw [show (if (1 : Int) = 1 then (2 : Int) else 1) = 2 from rfl] at HOS;have HOR := hideIt (fun W => orders_is D 2 W);rw [show sideOff 2 = 3 from rfl] at HOR;have HME := hideIt (fun W => meeting_is 1 x.price W);rw [show (if (1 : Int) = 1 then 170 else 171) = 170 from rfl] at HME;have HT2 := two_heap w (.cells (ordE x).toArray 115) (.cells #[.int .i64 x.price] 3);have HB2 := below2 w (.cells (ordE x).toArray 115) (.cells #[.int .i64 x.price] 3);have S0 : Hid (TS1 w D B L x b a RES L.asks x.left L.owed F a o f c ((w.alloc (.cells (ordE x).toArray 115)).alloc (.cells #[.int .i64 x.price] 3))) := ⟨hRES.symm, h.keep HB2, rfl, Tcr.ofTch (Tch.ofBelow HB2), HT2.1, HT2.2.1, hO, Nat.le_trans hc (Nat.le_add_right _ _), Nat.le_trans hG (Nat.le_add_right _ _), hT, hl⟩;have HMT : Hid (∀ W q, W.cell? ⟨w.heap.size + 1, 0, none⟩ = some (.int .i64 x.price) → Calls Tryz.prog 170 #[.int .i64 q, .pointer (some ⟨w.heap.size + 1, 0, none⟩)] W fun e w' => e = .returned (.bool (meetB 1 x.price q)) ∧ w' = W) := fun W q hc => meets_is 1 x.price q (w.heap.size + 1) W hc
 have hDl := h.lt;have HSZ := hideIt hB;have HPP := hideIt hp;have HNB : Hid (some w.heap.size ≠ a.ownBlock ∧ some (w.heap.size + 1) ≠ a.ownBlock) := by
  have hk := h.oa.lt
  exact ⟨fun e => by have := hk _ e.symm; omega, fun e => by have := hk _ e.symm; omega⟩
 have HNO : Hid (some w.heap.size ≠ b.ownBlock) := fun e => by have := h.ob.lt _ e.symm; omega
 clear h hB hO hc hG hT hp hl hRES HT2 HB2;unfold ordE at *;obtain ⟨xi, xa, xp, xl⟩ := x;simp only at *
 show Calls Tryz.prog 112 #[.pointer (some ⟨D, 0, none⟩), .int .i64 1, .agg #[.int .i64 xi, .int .i64 xa, .int .i64 xp, .int .i64 xl]] w _
 have eg63 := eg63
 go_enter Tryz.func112, Tryz.ntmps112
 go_wp2_with fail
 refine (HOS.out _).mono ?_;rintro e w1 ⟨rfl, rfl⟩;dsimp only
 go_wp2_with fail
 refine (HOR.out _).mono ?_;rintro e w1 ⟨rfl, rfl⟩;dsimp only
 go_wp2_with fail
 refine (HME.out _).mono ?_;rintro e w1 ⟨rfl, rfl⟩;dsimp only;rw [World.size_alloc];clear HOS HOR HME
 go_upto_region 3 with fail
 generalize (w.alloc (.cells #[.int .i64 xi, .int .i64 xa, .int .i64 xp, .int .i64 xl] 115)).alloc (.cells #[.int .i64 xp] 3) = w1 at *
 go_loopg [9] (L.asks.length + (if 0 < xl then 1 else 0)) (fun gg _ wr => ∃ (T : List OrdV) (left : Int) (ow : List OweV) (G : List FillV) (tv o' f' : Value) (cc : Nat), T.length + (if 0 < left then 1 else 0) ≤ gg ∧ Hid (TS1 w D B L ⟨xi, xa, xp, xl⟩ b a RES T left ow G tv o' f' cc wr))
 case atStart => exact ⟨_, _, _, _, _, _, _, _, Nat.le_refl _, S0⟩
 case round =>
  clear S0;obtain ⟨T, left, ow, G, tv, o', f', cc, hgg, S⟩ := hrel;have e3 : wr.cell? ⟨w.heap.size, 3, none⟩ = some (.int .i64 left) := by rw [cell_at S.out.box]; rfl
  have m0 : wr.cell? ⟨w.heap.size + 1, 0, none⟩ = some (.int .i64 xp) := by rw [cell_at S.out.clo]; rfl
  have HROW := hideIt S.out.deal.oa;simp only at HROW;obtain ⟨ta, tc, rfl⟩ := own_len HROW.out;have dt : wr.cell? ⟨D, 3, none⟩ = some (.slice ta T.length tc) := by rw [cell_at S.out.deal.box]; rfl
  by_cases hl : 0 < left
  ·cases T with
   | nil =>
    have HR : Hid (RES = ([], left, ow, G)) := S.out.res.symm;have SD := hideIt S.out.deal;have SB := hideIt S.out.blk;have ST := hideIt S.out.tcr;clear S HROW HMT;go_wp2;go_ret;unfold TrBack1
    exact ⟨_, _, _, by rw [HR.out]; rfl, by rw [HR.out]; exact SD.out, SB.out, ST.out⟩
   | cons r rs =>
    have HPR := hideIt (S.out.okt r (by simp));obtain ⟨g, hga⟩ : ∃ g, ta = some ⟨g, 0, none⟩ := by
     rcases HROW.out.2 with ⟨_, h2⟩ | ⟨g, cap, cur, hv, _⟩
     ·simp at h2
     ·simp only [Value.slice.injEq] at hv
      exact ⟨g, hv.1⟩
    subst hga;obtain ⟨cur, hg⟩ : ∃ cur, wr.heap[g]? = some (.cells cur 115 (0, 0)) := by
     rcases HROW.out.2 with ⟨h2, _⟩ | ⟨g', cap, cur, hv, _, hg, _⟩
     ·simp at h2
     ·simp only [Value.slice.injEq, Option.some.injEq, Addr.mk.injEq, and_true] at hv;rw [hv.1]
      exact ⟨cur, hg⟩
    have HG := hideIt hg;have qc : ∀ j v, (ordE r)[j]? = some v → wr.cell? ⟨g, j, none⟩ = some v := fun j v hv => by
     have hjl := (List.getElem?_eq_some_iff.1 hv).1;have := HROW.out.cells (g := g) rfl j v (by rw [celC_cons, List.getElem?_append_left hjl]; exact hv)
     rwa [addN, Nat.zero_add] at this
    have q0 := qc 0 _ rfl;have q1 := qc 1 _ rfl;have q2 := qc 2 _ rfl;have q3 := qc 3 _ rfl;have hgl : g < wr.heap.size := (Array.getElem?_eq_some_iff.1 hg).1;have htp : (0 : Int) < (((r :: rs).length : Nat) : Int) := by simp
    have htN : 0 < (r :: rs).length := by simp
    clear qc hg;have HM := hideIt (HMT.out wr r.price m0);cases hm : meetB 1 xp r.price
    ·rw [hm] at HM;have HR : Hid (RES = (r :: rs, left, ow, G)) := S.out.res.symm.trans (by unfold trL; rw [if_neg (by simp [hm])])
     have SD := hideIt S.out.deal;have SB := hideIt S.out.blk;have ST := hideIt S.out.tcr;clear S HROW HMT
     go_wp2_with fail
     refine HM.out.mono ?_;rintro e w9 ⟨rfl, rfl⟩;dsimp only;go_wp2;go_ret;unfold TrBack1
     exact ⟨_, _, _, by rw [HR.out]; rfl, by rw [HR.out]; exact SD.out, SB.out, ST.out⟩
    ·rw [hm] at HM;have e0 : wr.cell? ⟨w.heap.size, 0, none⟩ = some (.int .i64 xi) := by rw [cell_at S.out.box]; rfl
     have e1 : wr.cell? ⟨w.heap.size, 1, none⟩ = some (.int .i64 xa) := by rw [cell_at S.out.box]; rfl
     have e2 : wr.cell? ⟨w.heap.size, 2, none⟩ = some (.int .i64 xp) := by rw [cell_at S.out.box]; rfl
     clear HMT
     go_wp2_with fail
     refine HM.out.mono ?_;rintro e w9 ⟨rfl, rfl⟩;dsimp only
     go_upto_region 5 with fail
     obtain ⟨n, hn⟩ : ∃ n, n = min left r.left := ⟨_, rfl⟩;have HN := hideIt hn
     go_cut [10] from 43 to 49 (fun u wx => u = .int .i64 n ∧ w9.drew = wx)
     case first =>
      go_region
      all_goals go_wp2_with fail
      all_goals go_meet
      all_goals exact ⟨by rw [HN.out]; try (congr 1; omega), rfl⟩
     case rest =>
     obtain ⟨rfl, rfl⟩ := hcut;have S1 := hideIt S.out.drew;have HG1 : Hid (w9.drew.heap[g]? = some (.cells cur 115 (0, 0))) := HG.out;have HROW1 := hideIt S1.out.deal.oa;simp only at HROW1;clear S HG HROW e0 e1 e2 e3 m0 dt q0 q1 q2 q3 hgl HM hn;generalize w9.drew = wa at *;have e0 : wa.cell? ⟨w.heap.size, 0, none⟩ = some (.int .i64 xi) := by rw [cell_at S1.out.box]; rfl
     have e1 : wa.cell? ⟨w.heap.size, 1, none⟩ = some (.int .i64 xa) := by rw [cell_at S1.out.box]; rfl
     have e2 : wa.cell? ⟨w.heap.size, 2, none⟩ = some (.int .i64 xp) := by rw [cell_at S1.out.box]; rfl
     have e3 : wa.cell? ⟨w.heap.size, 3, none⟩ = some (.int .i64 left) := by rw [cell_at S1.out.box]; rfl
     have qc : ∀ j v, (ordE r)[j]? = some v → wa.cell? ⟨g, j, none⟩ = some v := fun j v hv => by
      have hjl := (List.getElem?_eq_some_iff.1 hv).1;have := HROW1.out.cells (g := g) rfl j v (by rw [celC_cons, List.getElem?_append_left hjl]; exact hv)
      rwa [addN, Nat.zero_add] at this
     have q0 := qc 0 _ rfl;have q1 := qc 1 _ rfl;have q2 := qc 2 _ rfl;have q3 := qc 3 _ rfl;have HLF := hideIt S1.out.lef;have hnb : 1 ≤ n ∧ n ≤ 1000000 ∧ n ≤ left ∧ n ≤ r.left := by
      have h1 := HPR.out;have h2 := HLF.out;have h3 := HN.out;omega
     have HNB2 := hideIt hnb;have HST : Hid (Calls Tryz.prog 140 #[.pointer (some ⟨D, 0, none⟩), .int .i64 1, .agg #[.int .i64 xi, .int .i64 xa, .int .i64 xp, .int .i64 left], .agg #[.int .i64 r.id, .int .i64 r.acc, .int .i64 r.price, .int .i64 r.left], .int .i64 n] wa.drew fun e w' => e = .returned (.tuple #[]) ∧ ∃ o2 f2, Deal D B (dealL ⟨L.call, L.next, L.bids, (r :: rs), ow⟩ (setO 1 ⟨xi, xa, xp, xl⟩ r n ow)) (G ++ [setF 1 ⟨xi, xa, xp, xl⟩ r n]) b (.slice (some ⟨g, 0, none⟩) (r :: rs).length tc) o2 f2 w' ∧ Tch D B wa.drew w') := by
      have := settle_is D B cc ⟨L.call, L.next, L.bids, (r :: rs), ow⟩ G b (.slice (some ⟨g, 0, none⟩) (r :: rs).length tc) o' f' 1 ⟨xi, xa, xp, left⟩ r n wa.drew (S1.out.deal.keep (Below.refl _ _).drew) (Nat.le_trans HSZ.out S1.out.tcr.size) S1.out.oko (by have := S1.out.cb; rw [if_pos hl] at this; omega) (by have := S1.out.gb; rw [if_pos hl] at this; omega) (by decide) (by omega) HPP.out (by have := HPR.out; omega)
      rw [setO_left (x := ⟨xi, xa, xp, xl⟩), setF_left (x := ⟨xi, xa, xp, xl⟩)] at this;exact this
     clear qc hnb
     go_upto_region 6 with fail
     go_cut [57] from 50 to 57 (fun _ wx => Hid (∃ o2 f2, Deal D B (dealL ⟨L.call, L.next, L.bids, (r :: rs), ow⟩ (setO 1 ⟨xi, xa, xp, xl⟩ r n ow)) (G ++ [setF 1 ⟨xi, xa, xp, xl⟩ r n]) b (.slice (some ⟨g, 0, none⟩) (r :: rs).length tc) o2 f2 wx ∧ Tch D B wa.drew wx))
     case first =>
      clear S1 HG1 HROW1 HSZ HPP HNB HPR HLF HNB2 HN
      go_region_with (first | (refine HST.out.mono ?_; rintro e w5 ⟨rfl, hres⟩))
      all_goals go_wp2_with fail
      all_goals go_meet
      all_goals exact hres
     case rest =>
     obtain ⟨o2, f2, hD, hTch⟩ := hcut.out;have TCH : Tch D B wa wc := (Tch.ofBelow (Below.refl _ wa).drew).trans hTch;have bx := TCH.block S1.out.box (show w.heap.size ≠ D by omega) (by decide) (by decide);have clx := TCH.block S1.out.clo (show w.heap.size + 1 ≠ D by omega) (by decide) (by decide);have hgD : g ≠ D := row_ne S1.out.deal.box S1.out.deal.oa;have gx := TCH.block HG1.out hgD (by decide) (by decide);have hblk : some g = a.ownBlock := S1.out.blk;have hgb : w.heap.size ≠ g := fun e => HNB.out.1 (by rw [e]; exact hblk)
     have hgb1 : w.heap.size + 1 ≠ g := fun e => HNB.out.2 (by rw [e]; exact hblk)
     have q3x : wc.cell? ⟨g, 3, none⟩ = some (.int .i64 r.left) := (cell_at gx 3).trans ((cell_at HG1.out 3).symm.trans q3);have qfx : wc.frozen? ⟨g, 3, none⟩ = false := free_at gx 3;have e3x : wc.cell? ⟨w.heap.size, 3, none⟩ = some (.int .i64 left) := by rw [cell_at bx]; rfl
     have efx : wc.frozen? ⟨w.heap.size, 3, none⟩ = false := free_at bx 3;have hw1 : IntKind.i64.wrap (left - n) = left - n := by
      have h1 := HNB2.out;have h2 := HLF.out;rw [IntKind.wrap_i64]; omega
     have hw2 : IntKind.i64.wrap (r.left - n) = r.left - n := by
      have h1 := HNB2.out;have h2 := HPR.out;rw [IntKind.wrap_i64]; omega
     have D8 := hideIt (dealA_first (u := .int .i64 (left - n)) (show Deal D B ⟨L.call, L.next, L.bids, (r :: rs), (setO 1 ⟨xi, xa, xp, xl⟩ r n ow)⟩ (G ++ [setF 1 ⟨xi, xa, xp, xl⟩ r n]) b (.slice (some ⟨g, 0, none⟩) (r :: rs).length tc) o2 f2 wc from hD) (show w.heap.size ≠ D by omega) (fun e => HNO.out e.symm) hgb bx (r.left - n));have T8 : Hid (Tcr D B a.ownBlock w ((wc.setCell ⟨w.heap.size, 3, none⟩ (.int .i64 (left - n))).setCell ⟨g, 3, none⟩ (.int .i64 (r.left - n)))) := by
      have t1 := (S1.out.tcr.trans (Tcr.ofTch TCH)).set (j := 3) (Nat.le_refl w.heap.size) (.int .i64 (left - n));have t2 : Tcr D B a.ownBlock (wc.setCell ⟨w.heap.size, 3, none⟩ (.int .i64 (left - n))) ((wc.setCell ⟨w.heap.size, 3, none⟩ (.int .i64 (left - n))).setCell ⟨g, 3, none⟩ (.int .i64 (r.left - n))) := Tcr.ofGrown (hblk ▸ grown_at (n := 0) (c := 0));exact t1.trans t2
     have B8 : Hid (((wc.setCell ⟨w.heap.size, 3, none⟩ (.int .i64 (left - n))).setCell ⟨g, 3, none⟩ (.int .i64 (r.left - n))).heap[w.heap.size]? = some (.cells (ordE ⟨xi, xa, xp, left - n⟩).toArray 115 (0, 0))) := setOther _ (heap_set bx 3 (.int .i64 (left - n))) hgb;have C8 : Hid (((wc.setCell ⟨w.heap.size, 3, none⟩ (.int .i64 (left - n))).setCell ⟨g, 3, none⟩ (.int .i64 (r.left - n))).heap[w.heap.size + 1]? = some (.cells #[.int .i64 xp] 3 (0, 0))) := setOther _ (setOther _ clx (by omega)) hgb1;have hgb2 := hgb.symm;have OK8 := hideIt (okO_set (s := 1) (o := ⟨xi, xa, xp, xl⟩) (r := r) (n := n) S1.out.oko (by have := HNB2.out; omega) HPP.out (by have := HPR.out; omega))
     have CB := hideIt S1.out.cb;have GB := hideIt S1.out.gb;have OT := hideIt S1.out.okt;have RS := hideIt S1.out.res;have HBK := hideIt hblk;clear hD hTch hcut TCH bx clx gx hblk HST e0 e1 e2 e3 q0 q1 q2 q3 S1 HG1 HROW1
     go_upto_region 9 with fail
     clear q3x qfx e3x efx;have z9 : ((wc.setCell ⟨w.heap.size, 3, none⟩ (.int .i64 (left - n))).setCell ⟨g, 3, none⟩ (.int .i64 (r.left - n))).cell? ⟨g, 3, none⟩ = some (.int .i64 (r.left - n)) := by
      have := D8.out.oa.cells (g := g) rfl 3 (.int .i64 (r.left - n)) (by rw [celC_cons]; rfl)
      rwa [addN, Nat.zero_add] at this
     have zD : ((wc.setCell ⟨w.heap.size, 3, none⟩ (.int .i64 (left - n))).setCell ⟨g, 3, none⟩ (.int .i64 (r.left - n))).cell? ⟨D, 3, none⟩ = some (.slice (some ⟨g, 0, none⟩) (r :: rs).length tc) := by rw [cell_at D8.out.box]; rfl
     generalize (wc.setCell ⟨w.heap.size, 3, none⟩ (.int .i64 (left - n))).setCell ⟨g, 3, none⟩ (.int .i64 (r.left - n)) = w8 at *;have GB2 : Hid ((G ++ [setF 1 ⟨xi, xa, xp, xl⟩ r n]).length = G.length + 1) := by
      show _ = _
      rw [List.length_append]
      rfl
     by_cases h0 : r.left - n = 0
     ·have HDE := hideIt (deleteO_is B 0 1 rfl (.slice (some ⟨g, 0, none⟩) (r :: rs).length tc) (⟨r.id, r.acc, r.price, r.left - n⟩ :: rs) w8 D8.out.oa (by simp));have R8 : Hid (trL 1 ⟨xi, xa, xp, xl⟩ rs (left - n) (setO 1 ⟨xi, xa, xp, xl⟩ r n ow) (G ++ [setF 1 ⟨xi, xa, xp, xl⟩ r n]) = RES) := by
       show _ = _
       rw [← RS.out];unfold trL;have hn9 := HN.out;rw [if_pos ⟨hl, hm⟩, ← hn9, if_pos h0];cases rs <;> rfl
      rw [h0] at z9 HDE D8;have LE8 : Hid (0 ≤ left - n ∧ left - n ≤ 1000000) := by
       have h1 := HNB2.out;have h2 := HLF.out
       show _ ∧ _
       omega
      clear HNB2 HLF HPR HN RS
      go_wp2_with fail
      refine HDE.out.mono ?_;rintro e w9 ⟨tv2, rfl, ho, hg, hb⟩;dsimp only;have ho2 : w9.ownsRow B 115 4 tv2 rs.length (celC ordE rs) := ho;obtain ⟨t2a, t2c, rfl⟩ := own_len ho2;obtain ⟨x9, y9, v9, d9⟩ := dealA_del D8.out ho2 hg hb;have X9 := hideIt x9;have T9 := hideIt ((T8.out.trans (Tcr.ofGrown (HBK.out ▸ (show w8.grownBy w9 (some g) from hg)))).setD (j := 3) (.slice t2a rs.length t2c));have K9 : Hid ((Value.slice t2a rs.length t2c).ownBlock = a.ownBlock) := hb.trans HBK.out;have B9 : Hid ((w9.setCell ⟨D, 3, none⟩ (.slice t2a rs.length t2c)).heap[w.heap.size]? = some (.cells (ordE ⟨xi, xa, xp, left - n⟩).toArray 115 (0, 0))) := setOther _ ((hg.block _ (Array.getElem?_eq_some_iff.1 B8.out).1 (fun e => hgb (by simpa [Value.ownBlock] using e))).trans B8.out) (by omega);have C9 : Hid ((w9.setCell ⟨D, 3, none⟩ (.slice t2a rs.length t2c)).heap[w.heap.size + 1]? = some (.cells #[.int .i64 xp] 3 (0, 0))) := setOther _ ((hg.block _ (Array.getElem?_eq_some_iff.1 C8.out).1 (fun e => hgb1 (by simpa [Value.ownBlock] using e))).trans C8.out) (by omega);clear x9 ho ho2 hg hb HDE D8 T8 B8 C8 z9 zD;go_wp2
      go_roundg (rs.length + (if 0 < left - n then 1 else 0))
      case measure =>
       have h1 := hgg;rw [List.length_cons, if_pos hl] at h1
       split <;> omega
      case rel =>
       exact ⟨rs, left - n, _, _, _, _, _, cc + 3, Nat.le_refl _, hideIt ⟨R8.out, X9.out, K9.out, T9.out, B9.out, C9.out, OK8.out, by have := CB.out; rw [List.length_cons, if_pos hl] at this; split <;> omega, by have := GB.out; rw [List.length_cons, if_pos hl] at this; rw [GB2.out]; split <;> omega, fun q hq => OT.out q (List.mem_cons_of_mem _ hq), LE8.out⟩⟩
     ·have hln : left - n = 0 := by
       have h1 := HN.out;have h2 := HPR.out;omega
      have R8 : Hid (trL 1 ⟨xi, xa, xp, xl⟩ (⟨r.id, r.acc, r.price, r.left - n⟩ :: rs) (left - n) (setO 1 ⟨xi, xa, xp, xl⟩ r n ow) (G ++ [setF 1 ⟨xi, xa, xp, xl⟩ r n]) = RES) := by
       show _ = _
       rw [trL_stop (by omega), ← RS.out];have hn9 := HN.out
       show _ = trL 1 ⟨xi, xa, xp, xl⟩ (r :: rs) left ow G
       unfold trL;rw [if_pos ⟨hl, hm⟩, ← hn9, if_neg h0]
      have OT2 : Hid (OkT (⟨r.id, r.acc, r.price, r.left - n⟩ :: rs)) := fun q hq => by
       have h1 := HPR.out;have h3 := HNB2.out
       rcases List.mem_cons.1 hq with rfl | hq
       ·simp only
        omega
       ·exact OT.out q (List.mem_cons_of_mem _ hq)
      have LE8 : Hid (0 ≤ left - n ∧ left - n ≤ 1000000) := by
       show _ ∧ _
       omega
      have h0b : ¬ (r.left - n = 0) := h0;have HK : Hid ((Value.slice (some ⟨g, 0, none⟩) (r :: rs).length tc).ownBlock = a.ownBlock) := HBK.out;have HLN := hideIt hln;clear HNB2 HLF HPR HN RS OT hln;go_wp2
      go_roundg ((⟨r.id, r.acc, r.price, r.left - n⟩ :: rs).length + (if 0 < left - n then 1 else 0))
      case measure =>
       have h1 := hgg;have h2 := HLN.out;rw [List.length_cons, if_pos hl] at h1;rw [List.length_cons, if_neg (by omega)];omega
      case rel =>
       exact ⟨_, left - n, _, _, _, _, _, cc + 3, Nat.le_refl _, hideIt ⟨R8.out, D8.out, HK.out, T8.out, B8.out, C8.out, OK8.out, by have := CB.out; have h2 := HLN.out; rw [List.length_cons, if_pos hl] at this; rw [List.length_cons, if_neg (by omega)]; omega, by have := GB.out; have h2 := HLN.out; rw [List.length_cons, if_pos hl] at this; rw [List.length_cons, GB2.out, if_neg (by omega)]; omega, OT2.out, LE8.out⟩⟩
  ·have HR : Hid (RES = (T, left, ow, G)) := S.out.res.symm.trans (trL_stop hl);have SD := hideIt S.out.deal;have SB := hideIt S.out.blk;have ST := hideIt S.out.tcr;clear S HROW HMT;go_wp2;go_ret;unfold TrBack1
   exact ⟨_, _, _, by rw [HR.out]; rfl, by rw [HR.out]; exact SD.out, SB.out, ST.out⟩
def TrBack2 (D B : Nat) (L : LaneV) (b a : Value) (R : List OrdV × Int × List OweV × List FillV) (w : World) (e : Ending) (w' : World) : Prop := ∃ tv o' f', e = .returned (.int .i64 R.2.1) ∧ Deal D B ⟨L.call, L.next, R.1, L.asks, R.2.2.1⟩ R.2.2.2 tv a o' f' w' ∧ tv.ownBlock = b.ownBlock ∧ Tcr D B b.ownBlock w w'
set_option maxHeartbeats 64000000 in
set_option maxRecDepth 100000 in
theorem trade2_is (D B c : Nat) (L : LaneV) (F : List FillV) (b a o f : Value) (x : OrdV) (w : World) (h : Deal D B L F b a o f w) (hB : B ≤ w.heap.size) (hO : OkO c L.owed) (hc : c + 3 * L.bids.length ≤ 800) (hG : F.length + L.bids.length ≤ 900) (hT : OkT L.bids) (hp : 0 ≤ x.price ∧ x.price ≤ 1000000) (hl : 0 ≤ x.left ∧ x.left ≤ 1000000) :
  Calls Tryz.prog 112 #[.pointer (some ⟨D, 0, none⟩), .int .i64 2, .agg (ordE x).toArray] w (TrBack2 D B L b a (trL 2 x L.bids x.left L.owed F) w) := by
 obtain ⟨RES, hRES⟩ : ∃ RES, RES = trL 2 x L.bids x.left L.owed F := ⟨_, rfl⟩;rw [← hRES];have HOS := hideIt (fun W => otherSide_is 2 W);rw [show (if (2 : Int) = 1 then (2 : Int) else 1) = 1 from rfl] at HOS;have HOR := hideIt (fun W => orders_is D 1 W);rw [show sideOff 1 = 2 from rfl] at HOR;have HME := hideIt (fun W => meeting_is 2 x.price W);rw [show (if (2 : Int) = 1 then 170 else 171) = 171 from rfl] at HME;have HT2 := two_heap w (.cells (ordE x).toArray 115) (.cells #[.int .i64 x.price] 3);have HB2 := below2 w (.cells (ordE x).toArray 115) (.cells #[.int .i64 x.price] 3);have S0 : Hid (TS2 w D B L x b a RES L.bids x.left L.owed F b o f c ((w.alloc (.cells (ordE x).toArray 115)).alloc (.cells #[.int .i64 x.price] 3))) := ⟨hRES.symm, h.keep HB2, rfl, Tcr.ofTch (Tch.ofBelow HB2), HT2.1, HT2.2.1, hO, Nat.le_trans hc (Nat.le_add_right _ _), Nat.le_trans hG (Nat.le_add_right _ _), hT, hl⟩;have HMT : Hid (∀ W q, W.cell? ⟨w.heap.size + 1, 0, none⟩ = some (.int .i64 x.price) → Calls Tryz.prog 171 #[.int .i64 q, .pointer (some ⟨w.heap.size + 1, 0, none⟩)] W fun e w' => e = .returned (.bool (meetB 2 x.price q)) ∧ w' = W) := fun W q hc => meets_is 2 x.price q (w.heap.size + 1) W hc
 have hDl := h.lt;have HSZ := hideIt hB;have HPP := hideIt hp;have HNB : Hid (some w.heap.size ≠ b.ownBlock ∧ some (w.heap.size + 1) ≠ b.ownBlock) := by
  have hk := h.ob.lt
  exact ⟨fun e => by have := hk _ e.symm; omega, fun e => by have := hk _ e.symm; omega⟩
 have HNO : Hid (some w.heap.size ≠ a.ownBlock) := fun e => by have := h.oa.lt _ e.symm; omega
 clear h hB hO hc hG hT hp hl hRES HT2 HB2;unfold ordE at *;obtain ⟨xi, xa, xp, xl⟩ := x;simp only at *
 show Calls Tryz.prog 112 #[.pointer (some ⟨D, 0, none⟩), .int .i64 2, .agg #[.int .i64 xi, .int .i64 xa, .int .i64 xp, .int .i64 xl]] w _
 have eg64 := eg64
 go_enter Tryz.func112, Tryz.ntmps112
 go_wp2_with fail
 refine (HOS.out _).mono ?_;rintro e w1 ⟨rfl, rfl⟩;dsimp only
 go_wp2_with fail
 refine (HOR.out _).mono ?_;rintro e w1 ⟨rfl, rfl⟩;dsimp only
 go_wp2_with fail
 refine (HME.out _).mono ?_;rintro e w1 ⟨rfl, rfl⟩;dsimp only;rw [World.size_alloc];clear HOS HOR HME
 go_upto_region 3 with fail
 generalize (w.alloc (.cells #[.int .i64 xi, .int .i64 xa, .int .i64 xp, .int .i64 xl] 115)).alloc (.cells #[.int .i64 xp] 3) = w1 at *
 go_loopg [9] (L.bids.length + (if 0 < xl then 1 else 0)) (fun gg _ wr => ∃ (T : List OrdV) (left : Int) (ow : List OweV) (G : List FillV) (tv o' f' : Value) (cc : Nat), T.length + (if 0 < left then 1 else 0) ≤ gg ∧ Hid (TS2 w D B L ⟨xi, xa, xp, xl⟩ b a RES T left ow G tv o' f' cc wr))
 case atStart => exact ⟨_, _, _, _, _, _, _, _, Nat.le_refl _, S0⟩
 case round =>
  clear S0;obtain ⟨T, left, ow, G, tv, o', f', cc, hgg, S⟩ := hrel;have e3 : wr.cell? ⟨w.heap.size, 3, none⟩ = some (.int .i64 left) := by rw [cell_at S.out.box]; rfl
  have m0 : wr.cell? ⟨w.heap.size + 1, 0, none⟩ = some (.int .i64 xp) := by rw [cell_at S.out.clo]; rfl
  have HROW := hideIt S.out.deal.ob;simp only at HROW;obtain ⟨ta, tc, rfl⟩ := own_len HROW.out;have dt : wr.cell? ⟨D, 2, none⟩ = some (.slice ta T.length tc) := by rw [cell_at S.out.deal.box]; rfl
  by_cases hl : 0 < left
  ·cases T with
   | nil =>
    have HR : Hid (RES = ([], left, ow, G)) := S.out.res.symm;have SD := hideIt S.out.deal;have SB := hideIt S.out.blk;have ST := hideIt S.out.tcr;clear S HROW HMT;go_wp2;go_ret;unfold TrBack2
    exact ⟨_, _, _, by rw [HR.out]; rfl, by rw [HR.out]; exact SD.out, SB.out, ST.out⟩
   | cons r rs =>
    have HPR := hideIt (S.out.okt r (by simp));obtain ⟨g, hga⟩ : ∃ g, ta = some ⟨g, 0, none⟩ := by
     rcases HROW.out.2 with ⟨_, h2⟩ | ⟨g, cap, cur, hv, _⟩
     ·simp at h2
     ·simp only [Value.slice.injEq] at hv
      exact ⟨g, hv.1⟩
    subst hga;obtain ⟨cur, hg⟩ : ∃ cur, wr.heap[g]? = some (.cells cur 115 (0, 0)) := by
     rcases HROW.out.2 with ⟨h2, _⟩ | ⟨g', cap, cur, hv, _, hg, _⟩
     ·simp at h2
     ·simp only [Value.slice.injEq, Option.some.injEq, Addr.mk.injEq, and_true] at hv;rw [hv.1]
      exact ⟨cur, hg⟩
    have HG := hideIt hg;have qc : ∀ j v, (ordE r)[j]? = some v → wr.cell? ⟨g, j, none⟩ = some v := fun j v hv => by
     have hjl := (List.getElem?_eq_some_iff.1 hv).1;have := HROW.out.cells (g := g) rfl j v (by rw [celC_cons, List.getElem?_append_left hjl]; exact hv)
     rwa [addN, Nat.zero_add] at this
    have q0 := qc 0 _ rfl;have q1 := qc 1 _ rfl;have q2 := qc 2 _ rfl;have q3 := qc 3 _ rfl;have hgl : g < wr.heap.size := (Array.getElem?_eq_some_iff.1 hg).1;have htp : (0 : Int) < (((r :: rs).length : Nat) : Int) := by simp
    have htN : 0 < (r :: rs).length := by simp
    clear qc hg;have HM := hideIt (HMT.out wr r.price m0);cases hm : meetB 2 xp r.price
    ·rw [hm] at HM;have HR : Hid (RES = (r :: rs, left, ow, G)) := S.out.res.symm.trans (by unfold trL; rw [if_neg (by simp [hm])])
     have SD := hideIt S.out.deal;have SB := hideIt S.out.blk;have ST := hideIt S.out.tcr;clear S HROW HMT
     go_wp2_with fail
     refine HM.out.mono ?_;rintro e w9 ⟨rfl, rfl⟩;dsimp only;go_wp2;go_ret;unfold TrBack2
     exact ⟨_, _, _, by rw [HR.out]; rfl, by rw [HR.out]; exact SD.out, SB.out, ST.out⟩
    ·rw [hm] at HM;have e0 : wr.cell? ⟨w.heap.size, 0, none⟩ = some (.int .i64 xi) := by rw [cell_at S.out.box]; rfl
     have e1 : wr.cell? ⟨w.heap.size, 1, none⟩ = some (.int .i64 xa) := by rw [cell_at S.out.box]; rfl
     have e2 : wr.cell? ⟨w.heap.size, 2, none⟩ = some (.int .i64 xp) := by rw [cell_at S.out.box]; rfl
     clear HMT
     go_wp2_with fail
     refine HM.out.mono ?_;rintro e w9 ⟨rfl, rfl⟩;dsimp only
     go_upto_region 5 with fail
     obtain ⟨n, hn⟩ : ∃ n, n = min left r.left := ⟨_, rfl⟩;have HN := hideIt hn
     go_cut [10] from 43 to 49 (fun u wx => u = .int .i64 n ∧ w9.drew = wx)
     case first =>
      go_region
      all_goals go_wp2_with fail
      all_goals go_meet
      all_goals exact ⟨by rw [HN.out]; try (congr 1; omega), rfl⟩
     case rest =>
     obtain ⟨rfl, rfl⟩ := hcut;have S1 := hideIt S.out.drew;have HG1 : Hid (w9.drew.heap[g]? = some (.cells cur 115 (0, 0))) := HG.out;have HROW1 := hideIt S1.out.deal.ob;simp only at HROW1;clear S HG HROW e0 e1 e2 e3 m0 dt q0 q1 q2 q3 hgl HM hn;generalize w9.drew = wa at *;have e0 : wa.cell? ⟨w.heap.size, 0, none⟩ = some (.int .i64 xi) := by rw [cell_at S1.out.box]; rfl
     have e1 : wa.cell? ⟨w.heap.size, 1, none⟩ = some (.int .i64 xa) := by rw [cell_at S1.out.box]; rfl
     have e2 : wa.cell? ⟨w.heap.size, 2, none⟩ = some (.int .i64 xp) := by rw [cell_at S1.out.box]; rfl
     have e3 : wa.cell? ⟨w.heap.size, 3, none⟩ = some (.int .i64 left) := by rw [cell_at S1.out.box]; rfl
     have qc : ∀ j v, (ordE r)[j]? = some v → wa.cell? ⟨g, j, none⟩ = some v := fun j v hv => by
      have hjl := (List.getElem?_eq_some_iff.1 hv).1;have := HROW1.out.cells (g := g) rfl j v (by rw [celC_cons, List.getElem?_append_left hjl]; exact hv)
      rwa [addN, Nat.zero_add] at this
     have q0 := qc 0 _ rfl;have q1 := qc 1 _ rfl;have q2 := qc 2 _ rfl;have q3 := qc 3 _ rfl;have HLF := hideIt S1.out.lef;have hnb : 1 ≤ n ∧ n ≤ 1000000 ∧ n ≤ left ∧ n ≤ r.left := by
      have h1 := HPR.out;have h2 := HLF.out;have h3 := HN.out;omega
     have HNB2 := hideIt hnb;have HST : Hid (Calls Tryz.prog 140 #[.pointer (some ⟨D, 0, none⟩), .int .i64 2, .agg #[.int .i64 xi, .int .i64 xa, .int .i64 xp, .int .i64 left], .agg #[.int .i64 r.id, .int .i64 r.acc, .int .i64 r.price, .int .i64 r.left], .int .i64 n] wa.drew fun e w' => e = .returned (.tuple #[]) ∧ ∃ o2 f2, Deal D B (dealL ⟨L.call, L.next, (r :: rs), L.asks, ow⟩ (setO 2 ⟨xi, xa, xp, xl⟩ r n ow)) (G ++ [setF 2 ⟨xi, xa, xp, xl⟩ r n]) (.slice (some ⟨g, 0, none⟩) (r :: rs).length tc) a o2 f2 w' ∧ Tch D B wa.drew w') := by
      have := settle_is D B cc ⟨L.call, L.next, (r :: rs), L.asks, ow⟩ G (.slice (some ⟨g, 0, none⟩) (r :: rs).length tc) a o' f' 2 ⟨xi, xa, xp, left⟩ r n wa.drew (S1.out.deal.keep (Below.refl _ _).drew) (Nat.le_trans HSZ.out S1.out.tcr.size) S1.out.oko (by have := S1.out.cb; rw [if_pos hl] at this; omega) (by have := S1.out.gb; rw [if_pos hl] at this; omega) (by decide) (by omega) HPP.out (by have := HPR.out; omega)
      rw [setO_left (x := ⟨xi, xa, xp, xl⟩), setF_left (x := ⟨xi, xa, xp, xl⟩)] at this;exact this
     clear qc hnb
     go_upto_region 6 with fail
     go_cut [57] from 50 to 57 (fun _ wx => Hid (∃ o2 f2, Deal D B (dealL ⟨L.call, L.next, (r :: rs), L.asks, ow⟩ (setO 2 ⟨xi, xa, xp, xl⟩ r n ow)) (G ++ [setF 2 ⟨xi, xa, xp, xl⟩ r n]) (.slice (some ⟨g, 0, none⟩) (r :: rs).length tc) a o2 f2 wx ∧ Tch D B wa.drew wx))
     case first =>
      clear S1 HG1 HROW1 HSZ HPP HNB HPR HLF HNB2 HN
      go_region_with (first | (refine HST.out.mono ?_; rintro e w5 ⟨rfl, hres⟩))
      all_goals go_wp2_with fail
      all_goals go_meet
      all_goals exact hres
     case rest =>
     obtain ⟨o2, f2, hD, hTch⟩ := hcut.out;have TCH : Tch D B wa wc := (Tch.ofBelow (Below.refl _ wa).drew).trans hTch;have bx := TCH.block S1.out.box (show w.heap.size ≠ D by omega) (by decide) (by decide);have clx := TCH.block S1.out.clo (show w.heap.size + 1 ≠ D by omega) (by decide) (by decide);have hgD : g ≠ D := row_ne S1.out.deal.box S1.out.deal.ob;have gx := TCH.block HG1.out hgD (by decide) (by decide);have hblk : some g = b.ownBlock := S1.out.blk;have hgb : w.heap.size ≠ g := fun e => HNB.out.1 (by rw [e]; exact hblk)
     have hgb1 : w.heap.size + 1 ≠ g := fun e => HNB.out.2 (by rw [e]; exact hblk)
     have q3x : wc.cell? ⟨g, 3, none⟩ = some (.int .i64 r.left) := (cell_at gx 3).trans ((cell_at HG1.out 3).symm.trans q3);have qfx : wc.frozen? ⟨g, 3, none⟩ = false := free_at gx 3;have e3x : wc.cell? ⟨w.heap.size, 3, none⟩ = some (.int .i64 left) := by rw [cell_at bx]; rfl
     have efx : wc.frozen? ⟨w.heap.size, 3, none⟩ = false := free_at bx 3;have hw1 : IntKind.i64.wrap (left - n) = left - n := by
      have h1 := HNB2.out;have h2 := HLF.out;rw [IntKind.wrap_i64]; omega
     have hw2 : IntKind.i64.wrap (r.left - n) = r.left - n := by
      have h1 := HNB2.out;have h2 := HPR.out;rw [IntKind.wrap_i64]; omega
     have D8 := hideIt (dealB_first (u := .int .i64 (left - n)) (show Deal D B ⟨L.call, L.next, (r :: rs), L.asks, (setO 2 ⟨xi, xa, xp, xl⟩ r n ow)⟩ (G ++ [setF 2 ⟨xi, xa, xp, xl⟩ r n]) (.slice (some ⟨g, 0, none⟩) (r :: rs).length tc) a o2 f2 wc from hD) (show w.heap.size ≠ D by omega) (fun e => HNO.out e.symm) hgb bx (r.left - n));have T8 : Hid (Tcr D B b.ownBlock w ((wc.setCell ⟨w.heap.size, 3, none⟩ (.int .i64 (left - n))).setCell ⟨g, 3, none⟩ (.int .i64 (r.left - n)))) := by
      have t1 := (S1.out.tcr.trans (Tcr.ofTch TCH)).set (j := 3) (Nat.le_refl w.heap.size) (.int .i64 (left - n));have t2 : Tcr D B b.ownBlock (wc.setCell ⟨w.heap.size, 3, none⟩ (.int .i64 (left - n))) ((wc.setCell ⟨w.heap.size, 3, none⟩ (.int .i64 (left - n))).setCell ⟨g, 3, none⟩ (.int .i64 (r.left - n))) := Tcr.ofGrown (hblk ▸ grown_at (n := 0) (c := 0));exact t1.trans t2
     have B8 : Hid (((wc.setCell ⟨w.heap.size, 3, none⟩ (.int .i64 (left - n))).setCell ⟨g, 3, none⟩ (.int .i64 (r.left - n))).heap[w.heap.size]? = some (.cells (ordE ⟨xi, xa, xp, left - n⟩).toArray 115 (0, 0))) := setOther _ (heap_set bx 3 (.int .i64 (left - n))) hgb;have C8 : Hid (((wc.setCell ⟨w.heap.size, 3, none⟩ (.int .i64 (left - n))).setCell ⟨g, 3, none⟩ (.int .i64 (r.left - n))).heap[w.heap.size + 1]? = some (.cells #[.int .i64 xp] 3 (0, 0))) := setOther _ (setOther _ clx (by omega)) hgb1;have hgb2 := hgb.symm;have OK8 := hideIt (okO_set (s := 2) (o := ⟨xi, xa, xp, xl⟩) (r := r) (n := n) S1.out.oko (by have := HNB2.out; omega) HPP.out (by have := HPR.out; omega))
     have CB := hideIt S1.out.cb;have GB := hideIt S1.out.gb;have OT := hideIt S1.out.okt;have RS := hideIt S1.out.res;have HBK := hideIt hblk;clear hD hTch hcut TCH bx clx gx hblk HST e0 e1 e2 e3 q0 q1 q2 q3 S1 HG1 HROW1
     go_upto_region 9 with fail
     clear q3x qfx e3x efx;have z9 : ((wc.setCell ⟨w.heap.size, 3, none⟩ (.int .i64 (left - n))).setCell ⟨g, 3, none⟩ (.int .i64 (r.left - n))).cell? ⟨g, 3, none⟩ = some (.int .i64 (r.left - n)) := by
      have := D8.out.ob.cells (g := g) rfl 3 (.int .i64 (r.left - n)) (by rw [celC_cons]; rfl)
      rwa [addN, Nat.zero_add] at this
     have zD : ((wc.setCell ⟨w.heap.size, 3, none⟩ (.int .i64 (left - n))).setCell ⟨g, 3, none⟩ (.int .i64 (r.left - n))).cell? ⟨D, 2, none⟩ = some (.slice (some ⟨g, 0, none⟩) (r :: rs).length tc) := by rw [cell_at D8.out.box]; rfl
     generalize (wc.setCell ⟨w.heap.size, 3, none⟩ (.int .i64 (left - n))).setCell ⟨g, 3, none⟩ (.int .i64 (r.left - n)) = w8 at *;have GB2 : Hid ((G ++ [setF 2 ⟨xi, xa, xp, xl⟩ r n]).length = G.length + 1) := by
      show _ = _
      rw [List.length_append]
      rfl
     by_cases h0 : r.left - n = 0
     ·have HDE := hideIt (deleteO_is B 0 1 rfl (.slice (some ⟨g, 0, none⟩) (r :: rs).length tc) (⟨r.id, r.acc, r.price, r.left - n⟩ :: rs) w8 D8.out.ob (by simp));have R8 : Hid (trL 2 ⟨xi, xa, xp, xl⟩ rs (left - n) (setO 2 ⟨xi, xa, xp, xl⟩ r n ow) (G ++ [setF 2 ⟨xi, xa, xp, xl⟩ r n]) = RES) := by
       show _ = _
       rw [← RS.out];unfold trL;have hn9 := HN.out;rw [if_pos ⟨hl, hm⟩, ← hn9, if_pos h0];cases rs <;> rfl
      rw [h0] at z9 HDE D8;have LE8 : Hid (0 ≤ left - n ∧ left - n ≤ 1000000) := by
       have h1 := HNB2.out;have h2 := HLF.out
       show _ ∧ _
       omega
      clear HNB2 HLF HPR HN RS
      go_wp2_with fail
      refine HDE.out.mono ?_;rintro e w9 ⟨tv2, rfl, ho, hg, hb⟩;dsimp only;have ho2 : w9.ownsRow B 115 4 tv2 rs.length (celC ordE rs) := ho;obtain ⟨t2a, t2c, rfl⟩ := own_len ho2;obtain ⟨x9, y9, v9, d9⟩ := dealB_del D8.out ho2 hg hb;have X9 := hideIt x9;have T9 := hideIt ((T8.out.trans (Tcr.ofGrown (HBK.out ▸ (show w8.grownBy w9 (some g) from hg)))).setD (j := 2) (.slice t2a rs.length t2c));have K9 : Hid ((Value.slice t2a rs.length t2c).ownBlock = b.ownBlock) := hb.trans HBK.out;have B9 : Hid ((w9.setCell ⟨D, 2, none⟩ (.slice t2a rs.length t2c)).heap[w.heap.size]? = some (.cells (ordE ⟨xi, xa, xp, left - n⟩).toArray 115 (0, 0))) := setOther _ ((hg.block _ (Array.getElem?_eq_some_iff.1 B8.out).1 (fun e => hgb (by simpa [Value.ownBlock] using e))).trans B8.out) (by omega);have C9 : Hid ((w9.setCell ⟨D, 2, none⟩ (.slice t2a rs.length t2c)).heap[w.heap.size + 1]? = some (.cells #[.int .i64 xp] 3 (0, 0))) := setOther _ ((hg.block _ (Array.getElem?_eq_some_iff.1 C8.out).1 (fun e => hgb1 (by simpa [Value.ownBlock] using e))).trans C8.out) (by omega);clear x9 ho ho2 hg hb HDE D8 T8 B8 C8 z9 zD;go_wp2
      go_roundg (rs.length + (if 0 < left - n then 1 else 0))
      case measure =>
       have h1 := hgg;rw [List.length_cons, if_pos hl] at h1
       split <;> omega
      case rel =>
       exact ⟨rs, left - n, _, _, _, _, _, cc + 3, Nat.le_refl _, hideIt ⟨R8.out, X9.out, K9.out, T9.out, B9.out, C9.out, OK8.out, by have := CB.out; rw [List.length_cons, if_pos hl] at this; split <;> omega, by have := GB.out; rw [List.length_cons, if_pos hl] at this; rw [GB2.out]; split <;> omega, fun q hq => OT.out q (List.mem_cons_of_mem _ hq), LE8.out⟩⟩
     ·have hln : left - n = 0 := by
       have h1 := HN.out;have h2 := HPR.out;omega
      have R8 : Hid (trL 2 ⟨xi, xa, xp, xl⟩ (⟨r.id, r.acc, r.price, r.left - n⟩ :: rs) (left - n) (setO 2 ⟨xi, xa, xp, xl⟩ r n ow) (G ++ [setF 2 ⟨xi, xa, xp, xl⟩ r n]) = RES) := by
       show _ = _
       rw [trL_stop (by omega), ← RS.out];have hn9 := HN.out
       show _ = trL 2 ⟨xi, xa, xp, xl⟩ (r :: rs) left ow G
       unfold trL;rw [if_pos ⟨hl, hm⟩, ← hn9, if_neg h0]
      have OT2 : Hid (OkT (⟨r.id, r.acc, r.price, r.left - n⟩ :: rs)) := fun q hq => by
       have h1 := HPR.out;have h3 := HNB2.out
       rcases List.mem_cons.1 hq with rfl | hq
       ·simp only
        omega
       ·exact OT.out q (List.mem_cons_of_mem _ hq)
      have LE8 : Hid (0 ≤ left - n ∧ left - n ≤ 1000000) := by
       show _ ∧ _
       omega
      have h0b : ¬ (r.left - n = 0) := h0;have HK : Hid ((Value.slice (some ⟨g, 0, none⟩) (r :: rs).length tc).ownBlock = b.ownBlock) := HBK.out;have HLN := hideIt hln;clear HNB2 HLF HPR HN RS OT hln;go_wp2
      go_roundg ((⟨r.id, r.acc, r.price, r.left - n⟩ :: rs).length + (if 0 < left - n then 1 else 0))
      case measure =>
       have h1 := hgg;have h2 := HLN.out;rw [List.length_cons, if_pos hl] at h1;rw [List.length_cons, if_neg (by omega)];omega
      case rel =>
       exact ⟨_, left - n, _, _, _, _, _, cc + 3, Nat.le_refl _, hideIt ⟨R8.out, D8.out, HK.out, T8.out, B8.out, C8.out, OK8.out, by have := CB.out; have h2 := HLN.out; rw [List.length_cons, if_pos hl] at this; rw [List.length_cons, if_neg (by omega)]; omega, by have := GB.out; have h2 := HLN.out; rw [List.length_cons, if_pos hl] at this; rw [List.length_cons, GB2.out, if_neg (by omega)]; omega, OT2.out, LE8.out⟩⟩
  ·have HR : Hid (RES = (T, left, ow, G)) := S.out.res.symm.trans (trL_stop hl);have SD := hideIt S.out.deal;have SB := hideIt S.out.blk;have ST := hideIt S.out.tcr;clear S HROW HMT;go_wp2;go_ret;unfold TrBack2
   exact ⟨_, _, _, by rw [HR.out]; rfl, by rw [HR.out]; exact SD.out, SB.out, ST.out⟩
end Go.Proofs.YtiinigifjdpicaaGreatDoor
namespace Go.Proofs.YtiinigifjdpicaaGreatDoor
open Go.Shelf
set_option linter.all false
def laysSlM5_f57_ren : Go.Shelf.Ren := ⟨fun | 5 => 93 | 8 => 130 | 7 => 129 | 19 => 162 | 20 => 163 | 10 => 153 | 11 => 154 | 12 => 155 | 13 => 156 | 14 => 157 | 15 => 158 | 16 => 159 | 17 => 160 | 18 => 161 | 30 => 178 | 31 => 179 | 32 => 180 | 33 => 181 | 34 => 182 | 35 => 183 | 40 => 186 | n => n, fun | 23 => 153 | 25 => 3 | 3 => 3 | 32 => 196 | 22 => 153 | 0 => 0 | 44 => 227 | 46 => 229 | 4 => 4 | 36 => 220 | 35 => 219 | 41 => 224 | 5 => 5 | 9 => 9 | 53 => 236 | 57 => 240 | 63 => 243 | 64 => 116 | n => n, fun | n => n⟩
theorem laysSlM5_f57 : Go.Proofs.SlLaysM.n5 Tryz.prog laysSlM5_f57_ren := {
 mixed := by kernel_rfl
 f5 := ⟨Tryz.f93.name, by decide, Tryz.func93.trans (congrArg some (by kernel_rfl))⟩
 f7 := ⟨Tryz.f129.name, by decide, Tryz.func129.trans (congrArg some (by kernel_rfl))⟩
 f8 := Tryz.func130.trans (congrArg some (by kernel_rfl))
 f10 := ⟨Tryz.f153.name, by decide, Tryz.func153.trans (congrArg some (by kernel_rfl))⟩
 f11 := ⟨Tryz.f154.name, by decide, Tryz.func154.trans (congrArg some (by kernel_rfl))⟩
 f12 := ⟨Tryz.f155.name, by decide, Tryz.func155.trans (congrArg some (by kernel_rfl))⟩
 f13 := ⟨Tryz.f156.name, by decide, Tryz.func156.trans (congrArg some (by kernel_rfl))⟩
 f14 := ⟨Tryz.f157.name, by decide, Tryz.func157.trans (congrArg some (by kernel_rfl))⟩
 f15 := ⟨Tryz.f158.name, by decide, Tryz.func158.trans (congrArg some (by kernel_rfl))⟩
 f16 := ⟨Tryz.f159.name, by decide, Tryz.func159.trans (congrArg some (by kernel_rfl))⟩
 f17 := ⟨Tryz.f160.name, by decide, Tryz.func160.trans (congrArg some (by kernel_rfl))⟩
 f18 := ⟨Tryz.f161.name, by decide, Tryz.func161.trans (congrArg some (by kernel_rfl))⟩
 f19 := Tryz.func162.trans (congrArg some (by kernel_rfl))
 f20 := Tryz.func163.trans (congrArg some (by kernel_rfl))
 f30 := ⟨Tryz.f178.name, by decide, Tryz.func178.trans (congrArg some (by kernel_rfl))⟩
 f31 := Tryz.func179.trans (congrArg some (by kernel_rfl))
 f32 := Tryz.func180.trans (congrArg some (by kernel_rfl))
 f33 := ⟨Tryz.f181.name, by decide, Tryz.func181.trans (congrArg some (by kernel_rfl))⟩
 f34 := ⟨Tryz.f182.name, by decide, Tryz.func182.trans (congrArg some (by kernel_rfl))⟩
 f35 := ⟨Tryz.f183.name, by decide, Tryz.func183.trans (congrArg some (by kernel_rfl))⟩
 f40 := ⟨Tryz.f186.name, by decide, Tryz.func186.trans (congrArg some (by kernel_rfl))⟩
 t0 := Tryz.underlying0
 a0 := Tryz.isAgg0
 z0 := Tryz.sizeOf0
 v0 := Tryz.zeroValue0
 t3 := Tryz.underlying3
 a3 := Tryz.isAgg3
 z3 := Tryz.sizeOf3
 v3 := Tryz.zeroValue3
 t4 := Tryz.underlying4
 a4 := Tryz.isAgg4
 z4 := Tryz.sizeOf4
 v4 := Tryz.zeroValue4
 t5 := Tryz.underlying5
 a5 := Tryz.isAgg5
 z5 := Tryz.sizeOf5
 v5 := Tryz.zeroValue5
 t9 := Tryz.underlying9
 a9 := Tryz.isAgg9
 z9 := Tryz.sizeOf9
 v9 := Tryz.zeroValue9
 t22 := Tryz.underlying153
 a22 := Tryz.isAgg153
 z22 := Tryz.sizeOf153
 v22 := Tryz.zeroValue153
 t23 := Tryz.underlying153
 a23 := Tryz.isAgg153
 z23 := Tryz.sizeOf153
 v23 := Tryz.zeroValue153
 t25 := Tryz.underlying3
 a25 := Tryz.isAgg3
 z25 := Tryz.sizeOf3
 v25 := Tryz.zeroValue3
 t32 := Tryz.underlying196
 a32 := Tryz.isAgg196
 z32 := Tryz.sizeOf196
 v32 := Tryz.zeroValue196
 t35 := Tryz.underlying219
 a35 := Tryz.isAgg219
 z35 := Tryz.sizeOf219
 v35 := Tryz.zeroValue219
 t36 := Tryz.underlying220
 a36 := Tryz.isAgg220
 z36 := Tryz.sizeOf220
 v36 := Tryz.zeroValue220
 t41 := Tryz.underlying224
 a41 := Tryz.isAgg224
 z41 := Tryz.sizeOf224
 v41 := Tryz.zeroValue224
 t44 := Tryz.underlying227
 a44 := Tryz.isAgg227
 z44 := Tryz.sizeOf227
 v44 := Tryz.zeroValue227
 t46 := Tryz.underlying229
 a46 := Tryz.isAgg229
 z46 := Tryz.sizeOf229
 v46 := Tryz.zeroValue229
 t53 := Tryz.underlying236
 a53 := Tryz.isAgg236
 z53 := Tryz.sizeOf236
 v53 := Tryz.zeroValue236
 t57 := Tryz.underlying240
 a57 := Tryz.isAgg240
 z57 := Tryz.sizeOf240
 v57 := Tryz.zeroValue240
 t63 := Tryz.underlying243
 a63 := Tryz.isAgg243
 z63 := Tryz.sizeOf243
 v63 := Tryz.zeroValue243
 t64 := Tryz.underlying116
 a64 := Tryz.isAgg116
 z64 := Tryz.sizeOf116
 v64 := Tryz.zeroValue116 }
open Go.Sort Go.RowKit in
theorem slices_Sort_int (blk off cap : Nat) (zs : List Int) (w : World) (hH : Holds (Value.int .i64) w blk off zs.toArray) (hblk : blk < w.heap.size) (hsz : zs.length < 4611686018427387904) :
  Calls Tryz.prog 93 #[.slice (some ⟨blk, off, none⟩) zs.length cap] w fun e w' =>
   e = .returned (.tuple #[]) ∧ ∃ n os, w' = grow (putRow (Value.int .i64) (Sort.ahead w n) blk off (zs.mergeSort fun x y => decide (x ≤ y)).toArray) os := AnyM.slices_Sort_int laysSlM5_f57 blk off cap zs w hH hblk hsz
open Go.RowKit Go.Sort in
theorem slices_Sort_int_none (p : Option Addr) (cap : Nat) (w : World) :
  Calls Tryz.prog 93 #[.slice p 0 cap] w fun e w' => e = .returned (.tuple #[]) ∧ w' = w := AnyM.slices_Sort_int_none laysSlM5_f57 p cap w
end Go.Proofs.YtiinigifjdpicaaGreatDoor
