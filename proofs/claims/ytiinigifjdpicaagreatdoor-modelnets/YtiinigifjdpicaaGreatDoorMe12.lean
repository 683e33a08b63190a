/- Texts of my own, laid together. -/
import Derived.Test.YtiinigifjdpicaaGreatDoorMe10
import Derived.Maps.RangeWalk
import Derived.Test.YtiinigifjdpicaaGreatDoorMe11
import Derived.Test.YtiinigifjdpicaaGreatDoorMe00
import Derived.Test.YtiinigifjdpicaaGreatDoorMe08
import Derived.Test.YtiinigifjdpicaaGreatDoorPx00
import Derived.Test.YtiinigifjdpicaaGreatDoorPx01
import Derived.Test.YtiinigifjdpicaaGreatDoorPx06
import Derived.Test.YtiinigifjdpicaaGreatDoorMe07
namespace Go.Proofs.YtiinigifjdpicaaGreatDoor
open Go.RowKit Go.Maps
set_option linter.all false
def ovrC (f : Cls) : Prop := ∃ x a, Cl2 x a ∧ 9007199254740992 < cg f x a
theorem CM.val {w : World} {mb c : Nat} {f : Cls} (h : CM w mb c f) : ∃ n D, w.ownsMap Tryz.prog 212 heldR mb n D ∧ (∀ kl, has D kl = true → ∃ x a p, Cl2 x a ∧ kl = clK x a ∧ f x a = some p ∧ ∀ z, D.atKey kl z = .held (.int .i64 p)) ∧ ∀ x a p, Cl2 x a → f x a = some p → has D (clK x a) = true := by
 obtain ⟨n, D, h1, h2, h3, h4, h5⟩ := h;refine ⟨n, D, h2, fun kl hk => ?_, fun x a p hx hp => has_true_of_atKey (h3 x a hx p hp)⟩;obtain ⟨x, a, hx, rfl⟩ := h5 kl hk;cases hf : f x a with
 | none =>
  rw [has_false_of_atKey (h4 x a hx hf)] at hk;cases hk
 | some p => exact ⟨x, a, p, hx, rfl, hf, h3 x a hx p hf⟩
set_option maxHeartbeats 8000000 in
set_option maxRecDepth 100000 in
theorem areOver_is (mb c : Nat) (f : Cls) (b : Bool) (w : World) (h : CM w mb c f) (hb : b = true ↔ ovrC f) : Calls Tryz.prog 124 #[.map (some mb)] w fun e w' => e = .returned (.bool b) ∧ Below w.heap.size w w' := by
 obtain ⟨n, D, hown, hv, hh⟩ := h.val;have HV := hideIt hv;have HB := hideIt hb;have HN := hideIt (show (∀ kl, has D kl = true → ∃ x a p, Cl2 x a ∧ kl = clK x a ∧ f x a = some p ∧ p ≤ 9007199254740992) → b = false from fun hk => by
  cases hbb : b
  ·rfl
  ·obtain ⟨x, a, hx, hg⟩ := hb.1 hbb;cases hf : f x a with
   | none => simp [cg, hf] at hg
   | some p =>
    obtain ⟨y, d, q, hy, he, hq, hle⟩ := hk _ (hh x a p hx hf);obtain ⟨rfl, rfl⟩ := cl_inj hx hy he;rw [hf] at hq;cases hq
    simp [cg, hf] at hg
    omega)
 have HY := hideIt (show ∀ x a p, Cl2 x a → f x a = some p → 9007199254740992 < p → b = true from fun x a p hx hp hl => hb.2 ⟨x, a, hx, by simp [cg, hp]; exact hl⟩)
 clear hv hb h hh
 go_enter Tryz.func124, Tryz.ntmps124
 go_wp2_with (first | (at_range; refine wpList_range_own _ rfl _ 183 rfl 212 3 cl_keyed Tryz.underlying183 heldR mb n D rfl hown ?_; intro w0 hrg0 hg0 hs0) | go_in)
 go_frame
 have B0 : Hid (Below w.heap.size w w0) := grown_none hg0;have HRG := hideIt hrg0;clear hg0 hs0 hown hrg0
 go_loopw [4] (fun v wr => ∃ left cnt, Hid (wr.ranges Tryz.prog 212 heldR mb w.heap.size n D left cnt ∧ (∀ kl, left kl = true → has D kl = true) ∧ (∀ kl, has D kl = true → left kl = false → ∃ x a p, Cl2 x a ∧ kl = clK x a ∧ f x a = some p ∧ p ≤ 9007199254740992) ∧ Below w.heap.size w wr)) (fun _ wr => wr.rangeLeft mb w.heap.size)
 case atStart => exact ⟨_, _, hideIt ⟨HRG.out, fun _ h => h, fun kl h1 h2 => (by rw [h1] at h2; cases h2), B0.out⟩⟩
 case round =>
  clear HRG B0;obtain ⟨left, cnt, HR⟩ := hrel;have hrg := HR.out.1
  go_wp2_with (first | (at_next; refine wpList_next_ranges _ rfl _ rfl 212 cl_keyed heldR (fun v : Value => v) (fun v : Value => v) (fun key kl h => ⟨key, rfl⟩) (fun v y h => ⟨v, rfl⟩) mb w.heap.size n D left cnt rfl hrg ?_ ?_) | go_in)
  ·intro h0 hl;have hbf := HN.out (fun kl hk => HR.out.2.2.1 kl hk (hl kl));have HF := hideIt hbf;have BB := hideIt HR.out.2.2.2;clear hbf hrg HR;go_wp2;go_ret
   exact ⟨by rw [HF.out]; rfl, BB.out⟩
  ·intro x v kl yd yps w1 cnt1 hkey hlk hR hat hrg1 hlt hg1 hs1 hen;obtain ⟨x', a', p, hx', hkl, hfp, hval⟩ := HV.out kl (HR.out.2.1 kl hlk);have hvp : v = .int .i64 p := by
    have h1 := hat (.held (.int .i64 0));rw [hval] at h1;unfold heldR at hR;cases hR
    simpa using h1.symm
   subst hvp;have R1 := hideIt hrg1;have RO := hideIt hrg;have B1 : Hid (Below w.heap.size w w1) := below_out HR.out.2.2.2 (Out.ofGrown (F := fun k => k = w.heap.size) hg1 (fun k e => by cases e; rfl)) (fun k e => by omega)
   have LT := hideIt hlt;clear hg1 hs1 hrg1 hrg hat hR hval
   by_cases hp : 9007199254740992 < p
   ·have HT := hideIt (HY.out x' a' p hx' hfp hp);clear HR hkey hlk R1 RO LT;go_wp2;go_ret
    exact ⟨by rw [HT.out]; rfl, B1.out⟩
   ·have Z : Hid (w1.ranges Tryz.prog 212 heldR mb w.heap.size n D (fun z => left z && !z.sameKey kl) cnt1 ∧ (∀ k', (left k' && !k'.sameKey kl) = true → has D k' = true) ∧ (∀ k', has D k' = true → (left k' && !k'.sameKey kl) = false → ∃ x a p, Cl2 x a ∧ k' = clK x a ∧ f x a = some p ∧ p ≤ 9007199254740992) ∧ Below w.heap.size w w1) := by
     refine ⟨R1.out, fun k' hk => HR.out.2.1 k' (by simp at hk; exact hk.1), fun k' hk hl => ?_, B1.out⟩
     by_cases e : left k' = true
     ·rw [e] at hl;simp only [Bool.true_and, Bool.not_eq_false'] at hl
      exact ⟨x', a', p, hx', (WideAt.sameKey_eq hl).trans hkl, hfp, by omega⟩
     ·exact HR.out.2.2.1 k' hk (by simpa using e)
    clear HR hkey hlk;go_wp2
    go_roundw
    case rel => exact ⟨_, _, Z⟩
    case measure => rw [R1.out.left_eq, RO.out.left_eq]; exact LT.out
end Go.Proofs.YtiinigifjdpicaaGreatDoor
namespace Go.Proofs.YtiinigifjdpicaaGreatDoor
open Go.RowKit Go.Maps
set_option linter.all false
def ovrD (f : Cls) : Bool := (List.range 8).any (fun i => (List.range 2).any (fun j => decide (9007199254740992 < cg f ((i : Int) + 1) (j : Int))))
theorem ovrD_iff (f : Cls) : ovrD f = true ↔ ovrC f := by
 unfold ovrD ovrC;simp only [List.any_eq_true, List.mem_range, decide_eq_true_eq]
 constructor
 ·rintro ⟨i, hi, j, hj, h⟩
  exact ⟨_, _, ⟨⟨by omega, by omega⟩, ⟨by omega, by omega⟩⟩, h⟩
 ·rintro ⟨x, a, ⟨⟨h1, h2⟩, h3, h4⟩, h⟩;refine ⟨(x - 1).toNat, by omega, a.toNat, by omega, ?_⟩;have e1 : (((x - 1).toNat : Nat) : Int) + 1 = x := by omega
  have e2 : ((a.toNat : Nat) : Int) = a := by omega
  rw [e1, e2];exact h
def uncR (L : LaneV) : LaneV × List FillV × Int :=
 if rfE L true = 0 then (if ovrD (trdC (clL L).1 80 L.bids L.asks (clL L).2.1 (clsOf L.owed) []).2.2.1 = true then (zLn, [], 131) else (⟨false, L.next, (trdC (clL L).1 80 L.bids L.asks (clL L).2.1 (clsOf L.owed) []).1, (trdC (clL L).1 80 L.bids L.asks (clL L).2.1 (clsOf L.owed) []).2.1, lstK (trdC (clL L).1 80 L.bids L.asks (clL L).2.1 (clsOf L.owed) []).2.2.1 8⟩, (trdC (clL L).1 80 L.bids L.asks (clL L).2.1 (clsOf L.owed) []).2.2.2, 0)) else (zLn, [], rfE L true)
def UnB (X : LaneV × List FillV × Int) (w : World) (e : Ending) (w' : World) : Prop := ∃ b a o u, e = .returned (.tuple #[laneV X.1 b a o, u, .int .i64 X.2.2]) ∧ w'.ownsRow w.heap.size 115 4 b X.1.bids.length (celC ordE X.1.bids) ∧ w'.ownsRow w.heap.size 115 4 a X.1.asks.length (celC ordE X.1.asks) ∧ w'.ownsRow w.heap.size 61 3 o X.1.owed.length (celC oweE X.1.owed) ∧ w'.ownsRow w.heap.size 106 4 u X.2.1.length (celC filE X.2.1) ∧ Below w.heap.size w w'
theorem CB.turn {w wx wy : World} {mb : Nat} {L : LaneV} {b a o : Value} (h : CB w L b a o wx) (ho : Out (fun k => k = mb) wx wy) (hm : w.heap.size + 2 ≤ mb) : CB w L b a o wy :=
 ⟨(ho.block _ (by have := h.size; omega) (by omega)).trans h.box, (ho.block _ (by have := h.size; omega) (by omega)).trans h.res, below_out h.bel ho (fun k e => by omega), Nat.le_trans h.size ho.size⟩
set_option maxHeartbeats 16000000 in
set_option maxRecDepth 100000 in
theorem uncross_is (L : LaneV) (b a o : Value) (w : World) (h : Lan w L b a o) : Calls Tryz.prog 82 #[laneV L b a o] w (UnB (uncR L) w) := by
 have X0 := hideIt (CB.first w L b a o);have HC := hideIt (aRefused_is L b a o true _ (h.keep X0.out.bel));have HL := hideIt (fun W (hW : Below w.heap.size w W) => h.keep hW)
 by_cases h0 : rfE L true = 0
 ·have hk := (rf_chk h0).1;rw [h0] at HC;have hm := chk_may hk;have HCO := hideIt (fun W (hW : Below w.heap.size w W) => claimsOf_is o L.owed W (HL.out W hW).owed (cl_keys hk).1 (by have := (cl_keys hk).2; omega))
  have HCL := hideIt (fun W (hW : Below w.heap.size w W) => clearing_is L b a o W (HL.out W hW) hk);have HTR := hideIt (fun W mb KO KP (hW : Below w.heap.size w W) (hM : CM W mb L.owed.length (clsOf L.owed)) hKO hKP => trade_is L b a o (clL L).2.1 (clL L).1 mb L.owed.length KO KP (clsOf L.owed) W (HL.out W hW) hM (by have := (cl_keys hk).2; omega) hKO hKP (cl_start hk).2 hm.lb hm.la (iv_start hk))
  obtain ⟨R, hR⟩ : ∃ R, R = trdC (clL L).1 80 L.bids L.asks (clL L).2.1 (clsOf L.owed) [] := ⟨_, rfl⟩;rw [← hR] at HTR;have HU1 : Hid (ovrC R.2.2.1 → uncR L = (zLn, [], 131)) := fun ho => by
   unfold uncR;rw [if_pos h0, ← hR, if_pos ((ovrD_iff _).2 ho)]
  have HU2 : Hid (¬ ovrC R.2.2.1 → uncR L = (⟨false, L.next, R.1, R.2.1, lstK R.2.2.1 8⟩, R.2.2.2, 0)) := fun ho => by
   unfold uncR;rw [if_pos h0, ← hR, if_neg (fun c => ho ((ovrD_iff _).1 c))]
  clear hR h0;generalize uncR L = RX at *;generalize (clL L).1 = pr at *;generalize (clL L).2.1 = vo at *;generalize clsOf L.owed = f0 at *;obtain ⟨RB, RA, RF, RL⟩ := R;dsimp only at HU1 HU2 HTR;obtain ⟨ba, bc, rfl⟩ := h.bids.slice;obtain ⟨aa, ac, rfl⟩ := h.asks.slice;obtain ⟨oa, oc, rfl⟩ := h.owed.slice;clear h HL hm hk;unfold laneV laneA at *;obtain ⟨cl, nx, bids, asks, owed⟩ := L;simp only at *
  go_enter Tryz.func82, Tryz.ntmps82
  go_wp2_with fail
  refine HC.out.mono ?_;rintro e w1 ⟨rfl, hb⟩;dsimp only;have X1 := hideIt (X0.out.keep hb);clear hb X0 HC;obtain ⟨x0, x1, x2, x3, x4⟩ := X1.out.cells;simp only at x0 x1 x2 x3 x4;have xz : w.heap.size < w1.heap.size := by have := X1.out.size; omega
  go_wp2_with fail
  refine (HCO.out _ X1.out.bel).mono ?_;rintro e w2 ⟨rfl, hM, hb⟩;dsimp only;have hb2 := below1 w2 (.cells #[.map (some w1.heap.size)] 183);have X2 := hideIt (X1.out.keep (below_via hb hb2));have M2 := hideIt (hM.keep hb2);have K2 := hideIt (heap_alloc_new w2 (.cells #[.map (some w1.heap.size)] 183));have hmb : w.heap.size + 2 ≤ w1.heap.size := X1.out.size;clear hM hb hb2 X1 HCO x0 x1 x2 x3 x4 xz
  go_upto_region 5 with fail
  generalize w2.alloc (.cells #[.map (some w1.heap.size)] 183) = W2 at *;generalize w2.heap.size = KO at *;generalize w1.heap.size = mb at *;obtain ⟨x0, x1, x2, x3, x4⟩ := X2.out.cells;simp only at x0 x1 x2 x3 x4;have xz : w.heap.size < W2.heap.size := by have := X2.out.size; omega
  go_wp2_with fail
  refine (HCL.out _ X2.out.bel).mono ?_;rintro e w3 ⟨rfl, hb⟩;dsimp only;have hb3 := below1 w3 (.cells #[.int .i64 pr] 3);have hbb := below_via hb hb3;have X3 := hideIt (X2.out.keep hbb);have M3 := hideIt (M2.out.keep hbb);have K3 := hideIt (blkK K2.out hbb);have P3 := hideIt (heap_alloc_new w3 (.cells #[.int .i64 pr] 3));clear hb hb3 hbb X2 M2 K2 HCL x0 x1 x2 x3 x4 xz
  go_upto_region 6 with fail
  generalize w3.alloc (.cells #[.int .i64 pr] 3) = W3 at *;generalize w3.heap.size = KP at *;obtain ⟨x0, x1, x2, x3, x4⟩ := X3.out.cells;simp only at x0 x1 x2 x3 x4;have xz : w.heap.size < W3.heap.size := by have := X3.out.size; omega
  go_wp2_with fail
  refine (HTR.out _ mb KO KP X3.out.bel M3.out K3.out P3.out).mono ?_;rintro e w4 ⟨bv, av, uv, c2, rfl, hTX⟩;dsimp only;have hO4 := hTX.out;have hlt4 := hTX.lt;have nKO : KO ≠ mb := by
   rintro rfl;obtain ⟨n', D, -, ⟨es, clock, hb, -⟩, -⟩ := M3.out;rw [hb] at K3;cases K3.out
  have X4 := hideIt (X3.out.turn hO4 hmb);have K4 := hideIt ((hO4.block KO (Array.getElem?_eq_some_iff.1 K3.out).1 nKO).trans K3.out);have T4 := hideIt hTX;have hbs := X3.out.bel.size;obtain ⟨bva, bvc, rfl⟩ := own_len hTX.rb;obtain ⟨ava, avc, rfl⟩ := own_len hTX.ra;obtain ⟨uva, uvc, rfl⟩ := own_len hTX.ru;clear hTX hO4 HTR X3 M3 K3 P3 x0 x1 x2 x3 x4 xz;have k0 : w4.cell? ⟨KO, 0, none⟩ = some (.map (some mb)) := by rw [cell_at K4.out]; rfl
  have kz : KO < w4.heap.size := (Array.getElem?_eq_some_iff.1 K4.out).1
  by_cases hov : ovrC RF
  ·have HR : Hid (RX = (zLn, [], 131)) := HU1.out hov;have HOV := hideIt (areOver_is mb c2 RF true w4 T4.out.cm ⟨fun _ => hov, fun _ => rfl⟩);clear HU1 HU2 hov
   go_wp2_with fail
   refine HOV.out.mono ?_;rintro e w5 ⟨rfl, hb⟩;dsimp only;have X5 := hideIt (X4.out.keep hb);clear hb X4 K4 T4 k0 kz HOV;obtain ⟨⟨r0, r1, r2, r3, r4⟩, rf, rl⟩ := five5_at X5.out.res;have HP := hideIt (X5.out.put (.bool false) (.int .i64 0) (.slice none 0 0) (.slice none 0 0) (.slice none 0 0));go_wp2
   revert HP
   generalize (World.setCell _ ⟨w.heap.size + 1, 4, none⟩ _) = W;intro HP;exact bodyPost_ret (v := .tuple #[laneV zLn (.slice none 0 0) (.slice none 0 0) (.slice none 0 0), .slice none 0 0, .int .i64 131]) (by simp [results, Tryz.results82, go_sem, cell_at HP.out.1, laneV, laneA, zLn]) rfl (by unfold UnB; rw [HR.out]; exact ⟨_, _, _, _, rfl, own_nil _ _, own_nil _ _, own_nil _ _, own_nil _ _, HP.out.2⟩)
  ·have HR : Hid (RX = (⟨false, nx, RB, RA, lstK RF 8⟩, RL, 0)) := HU2.out hov;have HOV := hideIt (areOver_is mb c2 RF false w4 T4.out.cm ⟨fun h => (by cases h), fun h => absurd h hov⟩);clear HU1 HU2 hov
   go_wp2_with fail
   refine HOV.out.mono ?_;rintro e w5 ⟨rfl, hb⟩;dsimp only;have X5 := hideIt (X4.out.keep hb);have K5 := hideIt (blkK K4.out hb);have T5 := hideIt (T4.out.keep hb);clear hb X4 K4 T4 k0 kz HOV;have HLS : Hid (∀ W, Below w5.heap.size w5 W → Calls Tryz.prog 125 #[.map (some mb)] W fun e w' => ∃ q k, e = .returned (.slice q (lstK RF 8).length k) ∧ Hid (w'.ownsRow (w.heap.size + 2) 61 3 (.slice q (lstK RF 8).length k) (lstK RF 8).length (celC oweE (lstK RF 8)) ∧ Below w5.heap.size w5 w') ∧ (w'.cell? ⟨w.heap.size, 1, none⟩ = some (.int .i64 nx) ∧ w'.cell? ⟨KO, 0, none⟩ = some (.map (some mb))) ∧ w.heap.size < w'.heap.size ∧ KO < w'.heap.size ∧ (w'.cell? ⟨w.heap.size + 1, 0, none⟩ = some (.bool false) ∧ w'.cell? ⟨w.heap.size + 1, 1, none⟩ = some (.int .i64 0) ∧ w'.cell? ⟨w.heap.size + 1, 2, none⟩ = some (.slice none 0 0) ∧ w'.cell? ⟨w.heap.size + 1, 3, none⟩ = some (.slice none 0 0) ∧ w'.cell? ⟨w.heap.size + 1, 4, none⟩ = some (.slice none 0 0)) ∧ (∀ j, w'.frozen? ⟨w.heap.size + 1, j, none⟩ = false) ∧ w.heap.size + 1 < w'.heap.size) := by
    intro W hW;have hX := X5.out.keep hW;refine (list_is mb c2 RF W (T5.out.keep hW).cm).mono ?_;rintro e w' ⟨v', rfl, ho, hb⟩;obtain ⟨q, k, rfl⟩ := own_len ho;have hX' := hX.keep hb;have hB := below_via hW hb;obtain ⟨-, y1, -, -, -⟩ := hX'.cells;have hK := blkK K5.out hB;obtain ⟨⟨s0, s1, s2, s3, s4⟩, sf, sz⟩ := five5_at hX'.res
    exact ⟨q, k, rfl, ⟨own_base ho hX.size, hB⟩, ⟨y1, by rw [cell_at hK]; rfl⟩, by have := hX'.size; omega, (Array.getElem?_eq_some_iff.1 hK).1, ⟨s0, s1, s2, s3, s4⟩, sf, sz⟩
   obtain ⟨-, x1, -, -, -⟩ := X5.out.cells;have k0 : w5.cell? ⟨KO, 0, none⟩ = some (.map (some mb)) := by rw [cell_at K5.out]; rfl
   have kz : KO < w5.heap.size := (Array.getElem?_eq_some_iff.1 K5.out).1;have xz : w.heap.size < w5.heap.size := by have := X5.out.size; omega
   have nr : w.heap.size ≠ w.heap.size + 1 := by omega
   have nk : KO ≠ w.heap.size + 1 := by
    intro e;have h1 := K5.out;rw [e, X5.out.res] at h1;cases h1
   have nk2 : w.heap.size + 1 ≠ KO := fun e => nk e.symm
   have nr2 : w.heap.size + 1 ≠ w.heap.size := by omega
   simp only at x1
   go_upto_region 9 with fail
   go_region_held3 (fun W => W.cell? ⟨w.heap.size, 1, none⟩ = some (.int .i64 nx) ∧ W.cell? ⟨KO, 0, none⟩ = some (.map (some mb))) (go_keep) (first | (go_at_call 125; refine (HLS.out _ (by first | exact Below.refl _ _ | exact (Below.refl _ _).drew)).mono ?_; rintro e wO ⟨qO, mO, rfl, HQO, ⟨i1, i2⟩, iz, iy, ⟨s0, s1, s2, s3, s4⟩, sf, sz⟩; clear HLS))
   all_goals
    have XF := hideIt (X5.out.keep HQO.out.2);have TF := hideIt (T5.out.keep HQO.out.2);have HPT := hideIt (XF.out.put (.bool false) (.int .i64 nx) (.slice bva RB.length bvc) (.slice ava RA.length avc) (.slice qO (lstK RF 8).length mO));have HRW := hideIt (And.intro (own_five (own_base TF.out.rb hbs) XF.out.res (by decide) (.bool false) (.int .i64 nx) (.slice bva RB.length bvc) (.slice ava RA.length avc) (.slice qO (lstK RF 8).length mO)) (And.intro (own_five (own_base TF.out.ra hbs) XF.out.res (by decide) (.bool false) (.int .i64 nx) (.slice bva RB.length bvc) (.slice ava RA.length avc) (.slice qO (lstK RF 8).length mO)) (And.intro (own_five HQO.out.1 XF.out.res (by decide) (.bool false) (.int .i64 nx) (.slice bva RB.length bvc) (.slice ava RA.length avc) (.slice qO (lstK RF 8).length mO)) (own_five (own_base TF.out.ru hbs) XF.out.res (by decide) (.bool false) (.int .i64 nx) (.slice bva RB.length bvc) (.slice ava RA.length avc) (.slice qO (lstK RF 8).length mO)))));clear XF TF X5 T5 K5 HQO;go_wp2
    revert HPT HRW
    generalize (World.setCell _ ⟨w.heap.size + 1, 4, none⟩ _) = WF;intro HPT HRW;exact bodyPost_ret (v := .tuple #[.agg #[.bool false, .int .i64 nx, .slice bva RB.length bvc, .slice ava RA.length avc, .slice qO (lstK RF 8).length mO], .slice uva RL.length uvc, .int .i64 0]) (by simp [results, Tryz.results82, go_sem, cell_at HPT.out.1, laneA]) rfl (by unfold UnB; rw [HR.out]; exact ⟨_, _, _, _, rfl, HRW.out.1, HRW.out.2.1, own_base HRW.out.2.2.1 (by omega), HRW.out.2.2.2, by first | exact HPT.out.2 | exact HPT.out.2.drew⟩)
 ·have HR : Hid (uncR L = (zLn, [], rfE L true)) := by show _ = _; unfold uncR; rw [if_neg h0]
  generalize uncR L = RX at *;generalize rfE L true = er at *;have h0q : (er == 0) = false := by simpa using h0
  obtain ⟨ba, bc, rfl⟩ := h.bids.slice;obtain ⟨aa, ac, rfl⟩ := h.asks.slice;obtain ⟨oa, oc, rfl⟩ := h.owed.slice;clear h HL;unfold laneV laneA at *;obtain ⟨cl, nx, bids, asks, owed⟩ := L;simp only at *
  go_enter Tryz.func82, Tryz.ntmps82
  go_wp2_with fail
  refine HC.out.mono ?_;rintro e w1 ⟨rfl, hb⟩;dsimp only;have X1 := hideIt (X0.out.keep hb);clear hb X0 HC;obtain ⟨⟨r0, r1, r2, r3, r4⟩, rf, rl⟩ := five5_at X1.out.res;have HP := hideIt (X1.out.put (.bool false) (.int .i64 0) (.slice none 0 0) (.slice none 0 0) (.slice none 0 0));go_wp2
  revert HP
  generalize (World.setCell _ ⟨w.heap.size + 1, 4, none⟩ _) = W;intro HP;exact bodyPost_ret (v := .tuple #[laneV zLn (.slice none 0 0) (.slice none 0 0) (.slice none 0 0), .slice none 0 0, .int .i64 er]) (by simp [results, Tryz.results82, go_sem, cell_at HP.out.1, laneV, laneA, zLn]) rfl (by unfold UnB; rw [HR.out]; exact ⟨_, _, _, _, rfl, own_nil _ _, own_nil _ _, own_nil _ _, own_nil _ _, HP.out.2⟩)
end Go.Proofs.YtiinigifjdpicaaGreatDoor
namespace Go.Proofs.YtiinigifjdpicaaGreatDoor
open Go.RowKit Go.Maps
set_option linter.all false
theorem sumP_cons (x : OrdV) (l : List OrdV) : sumP (x :: l) = x.price * x.left + sumP l := by simp [sumP]
theorem sumQ_cons (x : OrdV) (l : List OrdV) : sumQ (x :: l) = x.left + sumQ l := by simp [sumQ]
theorem takO_sumP (n : Int) (x : OrdV) (l : List OrdV) : sumP (takO n (x :: l)) = sumP (x :: l) - x.price * n := by
 rw [takO_cons, sumP_cons]
 split
 ·rename_i h
  have e : x.left = n := by omega
  rw [e];omega
 ·rw [sumP_cons];dsimp only;rw [Int.mul_sub];omega
theorem takO_sumQ (n : Int) (x : OrdV) (l : List OrdV) : sumQ (takO n (x :: l)) = sumQ (x :: l) - n := by
 rw [takO_cons, sumQ_cons]
 split
 ·omega
 ·rw [sumQ_cons];dsimp only;omega
theorem trd_rep {L : LaneV} (hk : chkB L = true) : ∃ ow, Rep ow (trdC (clL L).1 80 L.bids L.asks (clL L).2.1 (clsOf L.owed) []).2.2.1 ∧ sumP (trdC (clL L).1 80 L.bids L.asks (clL L).2.1 (clsOf L.owed) []).1 + sumA 0 ow = holM L ∧ sumQ (trdC (clL L).1 80 L.bids L.asks (clL L).2.1 (clsOf L.owed) []).2.1 + sumA 1 ow = holG L ∧ lstK (trdC (clL L).1 80 L.bids L.asks (clL L).2.1 (clsOf L.owed) []).2.2.1 8 = ow := by
 have hm := chk_may hk;have hb := (chk_bok L).1 hk;have hlb := hm.lb;have hla := hm.la;obtain ⟨⟨ow, h1, h2, h3⟩, hi⟩ := trd_ind (cl_start hk).2 (fun B A _ f _ => ∃ ow, Rep ow f ∧ sumP B + sumA 0 ow = holM L ∧ sumQ A + sumA 1 ow = holG L) (by
  rintro x bs y ys V f F hi hV hx hy hn ⟨ow, h1, h2, h3⟩;have t2 := hi.ta y (List.mem_cons_self ..);have a1 := hi.cb x (List.mem_cons_self ..);have a2 := hi.ca y (List.mem_cons_self ..);have hs := stl_sum (l := ow) (xa := x.acc) (xp := x.price) (ya := y.acc) (n := min x.left y.left) hx;refine ⟨stlO ow x.acc x.price y.acc (clL L).1 (min x.left y.left), rep_stl h1 a1 a2 (by omega) hn.1, ?_, ?_⟩
  ·rw [takO_sumP, hs.1];omega
  ·rw [takO_sumQ, hs.2]
   omega) 80 L.bids L.asks _ _ [] (iv_start hk) (by omega) ⟨L.owed, cls_rep (owed_owok hb.ow), rfl, rfl⟩
 exact ⟨ow, h1, h2, h3, rep_list h1 (fun x a => (hi.cgb x a).1)⟩
theorem cut_dem : ∀ {l : List OrdV} {s : Int} {x : OrdV} {bs : List OrdV}, OkT l → l.Pairwise (fun x y => y.price ≤ x.price) → 0 ≤ s → cutO s l = x :: bs → s + x.left ≤ dem x.price l ∧ 1 ≤ x.left ∧ ∃ z ∈ l, z.price = x.price
 | [], s, x, bs, _, _, _, h => by simp [cutO] at h
 | y :: t, s, x, bs, hl, hp, hs, h => by
  have hy := (hl y (List.mem_cons_self ..)).2;have ht : OkT t := fun q hq => hl q (List.mem_cons_of_mem _ hq)
  rw [List.pairwise_cons] at hp;rw [cutO] at h
  by_cases e : y.left ≤ s
  ·rw [if_pos e] at h;obtain ⟨h1, h2, z, hz, hzp⟩ := cut_dem ht hp.2 (by omega) h;have := hp.1 z hz;rw [dem_cons, if_pos (by omega)]
   exact ⟨by omega, h2, z, List.mem_cons_of_mem _ hz, hzp⟩
  ·rw [if_neg e] at h;simp only [List.cons.injEq] at h;obtain ⟨rfl, rfl⟩ := h;have h0 := (dem_bd y.price t ht).1;rw [dem_cons]
   simp only
   rw [if_pos (Int.le_refl _)]
   exact ⟨by omega, by omega, y, List.mem_cons_self .., rfl⟩
theorem cut_sup : ∀ {l : List OrdV} {s : Int} {x : OrdV} {bs : List OrdV}, OkT l → l.Pairwise (fun x y => x.price ≤ y.price) → 0 ≤ s → cutO s l = x :: bs → s + x.left ≤ sup x.price l ∧ 1 ≤ x.left ∧ ∃ z ∈ l, z.price = x.price
 | [], s, x, bs, _, _, _, h => by simp [cutO] at h
 | y :: t, s, x, bs, hl, hp, hs, h => by
  have hy := (hl y (List.mem_cons_self ..)).2;have ht : OkT t := fun q hq => hl q (List.mem_cons_of_mem _ hq)
  rw [List.pairwise_cons] at hp;rw [cutO] at h
  by_cases e : y.left ≤ s
  ·rw [if_pos e] at h;obtain ⟨h1, h2, z, hz, hzp⟩ := cut_sup ht hp.2 (by omega) h;have := hp.1 z hz;rw [sup_cons, if_pos (by omega)]
   exact ⟨by omega, h2, z, List.mem_cons_of_mem _ hz, hzp⟩
  ·rw [if_neg e] at h;simp only [List.cons.injEq] at h;obtain ⟨rfl, rfl⟩ := h;have h0 := (sup_bd y.price t ht).1;rw [sup_cons]
   simp only
   rw [if_pos (Int.le_refl _)]
   exact ⟨by omega, by omega, y, List.mem_cons_self .., rfl⟩
theorem cleared_may {L : LaneV} (hk : chkB L = true) (ho : ¬ ovrC (trdC (clL L).1 80 L.bids L.asks (clL L).2.1 (clsOf L.owed) []).2.2.1) : chkB ⟨false, L.next, cutO (clL L).2.1 L.bids, cutO (clL L).2.1 L.asks, lstK (trdC (clL L).1 80 L.bids L.asks (clL L).2.1 (clsOf L.owed) []).2.2.1 8⟩ = true := by
 have hm := chk_may hk;have hb := (chk_bok L).1 hk;have hi := iv_start hk;have hv : 0 ≤ (clL L).2.1 := by
  have h1 := (dem_bd (clL L).1 L.bids hm.tb).1;have h2 := (sup_bd (clL L).1 L.asks hm.ta).1;have := hi.vol;omega
 have s1 := cut_suf hm.tb hv;have s2 := cut_suf hm.ta hv;rw [chk_bok];refine ⟨hb.next, side_suf (Int.le_refl _) s1 hb.sb, side_suf (Int.le_refl _) s2 hb.sa, ?_, .inr ?_, ?_⟩
 ·exact (hb.nd).sublist (List.Sublist.append (suf_ids s1) (suf_ids s2))
 ·intro x y hx hy;dsimp only at hx hy;obtain ⟨bs, e1⟩ : ∃ bs, cutO (clL L).2.1 L.bids = x :: bs := by
   cases hc : cutO (clL L).2.1 L.bids with
   | nil => rw [hc] at hx; cases hx
   | cons z t => rw [hc] at hx; cases hx; exact ⟨t, rfl⟩
  obtain ⟨ys, e2⟩ : ∃ bs, cutO (clL L).2.1 L.asks = y :: bs := by
   cases hc : cutO (clL L).2.1 L.asks with
   | nil => rw [hc] at hy; cases hy
   | cons z t => rw [hc] at hy; cases hy; exact ⟨t, rfl⟩
  obtain ⟨d1, d2, -⟩ := cut_dem hm.tb hi.sb hv e1;obtain ⟨u1, u2, -⟩ := cut_sup hm.ta hi.sa hv e2
  by_cases c : x.price < y.price
  ·exact c
  ·exfalso
   have h1 := sup_mono (p := x.price) (q := y.price) (by omega) hm.ta;have h2 := (most_all hk x.price).1;unfold volP at h2;omega
 ·refine owok_owed (lst_owok _) ?_;unfold overB;simp only [List.any_eq_false, decide_eq_true_eq];intro z hz;have h1 := lst_mem hz;have h2 := (lst_owok _).2 z hz;intro hc;exact ho ⟨z.acc, z.asset, ⟨h2.1, h2.2.1⟩, by rw [← h1.2.2.2]; omega⟩
theorem cleared_holds {L : LaneV} (hk : chkB L = true) : holM ⟨false, L.next, cutO (clL L).2.1 L.bids, cutO (clL L).2.1 L.asks, lstK (trdC (clL L).1 80 L.bids L.asks (clL L).2.1 (clsOf L.owed) []).2.2.1 8⟩ = holM L ∧ holG ⟨false, L.next, cutO (clL L).2.1 L.bids, cutO (clL L).2.1 L.asks, lstK (trdC (clL L).1 80 L.bids L.asks (clL L).2.1 (clsOf L.owed) []).2.2.1 8⟩ = holG L := by
 obtain ⟨ow, -, h2, h3, e⟩ := trd_rep hk;have hF := trd_facts hk;have hcb := hF.cb;have hca := hF.ca;have ev : sumN (trdC (clL L).1 80 L.bids L.asks (clL L).2.1 (clsOf L.owed) []).2.2.2 = (clL L).2.1 := by have := hF.vol; omega
 rw [ev] at hcb hca;rw [hcb] at h2;rw [hca] at h3;rw [e]
 exact ⟨h2, h3⟩
theorem place_ok {L : LaneV} {acc s price n : Int} {now : Bool} (h : (placeL L acc s price n now).2.2.2 = 0) : refE L acc s price n now = 0 ∧ placeL L acc s price n now = plX L acc s price n now ∧ overB (plR (plL L s (plT L s ⟨L.next, acc, price, n⟩).1 (plT L s ⟨L.next, acc, price, n⟩).2.2.1) s ⟨L.next, acc, price, (plT L s ⟨L.next, acc, price, n⟩).2.1⟩ now).owed = false := by
 unfold placeL at h ⊢
 by_cases hr : refE L acc s price n now ≠ 0
 ·rw [if_pos hr] at h;exact absurd h hr
 ·have hr0 : refE L acc s price n now = 0 := by simpa using hr
  rw [if_neg hr] at h ⊢;refine ⟨hr0, rfl, ?_⟩;unfold plX at h
  split at h
  ·simp at h
  ·rename_i ho
   simpa using ho
theorem place_bad {L : LaneV} {acc s price n : Int} {now : Bool} (h : (placeL L acc s price n now).2.2.2 ≠ 0) : (placeL L acc s price n now).1 = zLane ∧ (placeL L acc s price n now).2.1 = [] ∧ (placeL L acc s price n now).2.2.1 = 0 := by
 unfold placeL at h ⊢
 by_cases hr : refE L acc s price n now ≠ 0
 ·rw [if_pos hr]
  exact ⟨rfl, rfl, rfl⟩
 ·rw [if_neg hr] at h ⊢;unfold plX at h ⊢
  split
  ·exact ⟨rfl, rfl, rfl⟩
  ·rename_i ho
   rw [if_neg ho] at h;exact absurd rfl h
theorem placeL_eq {L : LaneV} {acc s price n : Int} {now : Bool} (h : (placeL L acc s price n now).2.2.2 = 0) : placeL L acc s price n now = (plR (plL L s (plT L s ⟨L.next, acc, price, n⟩).1 (plT L s ⟨L.next, acc, price, n⟩).2.2.1) s ⟨L.next, acc, price, (plT L s ⟨L.next, acc, price, n⟩).2.1⟩ now, (plT L s ⟨L.next, acc, price, n⟩).2.2.2, L.next, 0) := by
 obtain ⟨h1, h2, h3⟩ := place_ok h;rw [h2];unfold plX;rw [h3]
 rfl
theorem plT_suf {L : LaneV} {acc s price n : Int} {now : Bool} (hr : refE L acc s price n now = 0) : Suf (sideL L (if s = 1 then 2 else 1)) (plT L s ⟨L.next, acc, price, n⟩).1 ∧ 0 ≤ (plT L s ⟨L.next, acc, price, n⟩).2.1 ∧ (plT L s ⟨L.next, acc, price, n⟩).2.1 ≤ n := by
 obtain ⟨h1, h2, h3, h4, h5, h6, h7, h8⟩ := refE_ok hr;have hb := (chk_bok L).1 h1;have hm := chk_may h1;unfold plT;cases L.call
 ·have hT : OkT (sideL L (if s = 1 then 2 else 1)) ∧ AccT (sideL L (if s = 1 then 2 else 1)) := by
   rcases h2 with rfl | rfl
   ·exact ⟨hm.ta, (side_acc hb.sa).1⟩
   ·exact ⟨hm.tb, (side_acc hb.sb).1⟩
  have := trL_suf s ⟨L.next, acc, price, n⟩ h8 _ n L.owed [] hT.1 hT.2 (by omega) (owed_owok hb.ow)
  exact ⟨this.1, this.2.2.2⟩
 ·exact ⟨Suf.all _, by simp only [if_true]; omega, by simp only [if_true]; omega⟩
theorem hold_placed {L : LaneV} {acc s price n : Int} {now : Bool} (h : (placeL L acc s price n now).2.2.2 = 0) : holM (placeL L acc s price n now).1 = holM L + (if s = 1 then price * n else 0) ∧ holG (placeL L acc s price n now).1 = holG L + (if s = 1 then 0 else n) := by
 obtain ⟨h1, _, _⟩ := place_ok h;have hs := (refE_ok h1).2.1;rw [placeL_eq h];exact hold_place L s acc price n now hs (plT_suf h1).2.1
theorem can_cases (L : LaneV) (acc id : Int) (hk : chkB L = true) : (canR L acc id).2.2 = 132 ∨ (canR L acc id).2.2 = 131 ∨ ((canR L acc id).2.2 = 0 ∧ holM (canR L acc id).1 = holM L ∧ holG (canR L acc id).1 = holG L) := by
 unfold canR;rw [if_pos hk]
 split
 ·exact .inl rfl
 ·rename_i Mx hMx
  split
  ·exact .inr (.inl rfl)
  ·exact .inr (.inr ⟨rfl, hold_can (M := Mx.1) (o := Mx.2) hMx⟩)
theorem side_erase {s nx : Int} (hs : s = 1 ∨ s = 2) {l : List OrdV} (h : sideB s nx l = true) (i : Nat) : sideB s nx (l.eraseIdx i) = true := by
 unfold sideB at *;simp only [Bool.and_eq_true, decide_eq_true_eq, Bool.not_eq_true', List.any_eq_false, Bool.not_eq_true] at *;refine ⟨Nat.le_trans (List.Sublist.length_le (List.eraseIdx_sublist l i)) h.1, fun q hq => h.2.1 q ((List.eraseIdx_sublist l i).subset hq), ?_⟩;have hp : ∀ {l : List OrdV}, srtB (ahB s) l = true → l.Pairwise (fun a b => ahB s a b = true) := by
  intro l
  induction l with
  | nil => exact fun _ => List.Pairwise.nil
  | cons x l ih =>
   intro h;have i2 := ih (srt_tail h);refine List.pairwise_cons.2 ⟨fun z hz => ?_, i2⟩;cases l with
   | nil => simp at hz
   | cons y l =>
    rcases List.mem_cons.1 hz with rfl | hz
    ·exact srt_head h
    ·exact ah_trans hs (srt_head h) ((List.pairwise_cons.1 i2).1 z hz)
 have hq : ∀ {l : List OrdV}, l.Pairwise (fun a b => ahB s a b = true) → srtB (ahB s) l = true := by
  intro l
  induction l with
  | nil => exact fun _ => rfl
  | cons x l ih =>
   intro h;rw [List.pairwise_cons] at h;exact srt_cons (ih h.2) (fun y hy => h.1 y (List.mem_of_mem_head? hy))
 exact hq ((hp h.2.2).sublist (List.eraseIdx_sublist l i))
theorem erase_head {s : Int} (hs : s = 1 ∨ s = 2) {l : List OrdV} (h : srtB (ahB s) l = true) (i : Nat) {r : OrdV} (hr : (l.eraseIdx i).head? = some r) : ∃ t, l.head? = some t ∧ worse s r.price t.price := by
 cases l with
 | nil => simp at hr
 | cons q rs =>
  refine ⟨q, rfl, ?_⟩;cases i with
  | zero =>
   cases rs with
   | nil => simp at hr
   | cons z rs =>
    simp only [List.eraseIdx_cons_zero, List.head?_cons, Option.some.injEq] at hr;subst hr;exact ah_worse hs (srt_head h)
  | succ i =>
   simp only [List.eraseIdx_cons_succ, List.head?_cons, Option.some.injEq] at hr;subst hr;unfold worse; split <;> omega
theorem ids_erase (l : List OrdV) (i : Nat) : (idsL (l.eraseIdx i)).Sublist (idsL l) := (List.eraseIdx_sublist l i).map _
theorem can_may {L M : LaneV} {acc id : Int} {x : OrdV} (hk : chkB L = true) (h : canF L acc id = some (M, x)) (ho : overB M.owed = false) : chkB M = true := by
 have hB := (chk_bok L).1 hk;have hm := chk_may hk;rw [chk_bok];unfold canF at h
 split at h
 ·rename_i i hi
  rw [List.findIdx?_eq_some_iff_getElem] at hi;obtain ⟨h1, _, _⟩ := hi;have e : L.bids.getD i ⟨0, 0, 0, 0⟩ = L.bids[i] := by simp [List.getD_eq_getElem?_getD, List.getElem?_eq_getElem h1]
  rw [e] at h;simp only [Option.some.injEq, Prod.mk.injEq] at h;obtain ⟨rfl, rfl⟩ := h;have ha := (side_acc hB.sb).1 _ (List.getElem_mem h1);have ht := hm.tb _ (List.getElem_mem h1);refine ⟨hB.next, side_erase (.inl rfl) hB.sb i, hB.sa, hB.nd.sublist ((ids_erase _ _).append (List.Sublist.refl _)), ?_, owok_owed (owok_owe (owed_owok hB.ow) ha (by omega) (by unfold brN; rw [if_pos rfl]; exact mul_pos1 ht.1.1 ht.2.1)) ho⟩
  rcases hB.cr with h | h
  ·exact .inl h
  ·refine .inr (fun p q hp hq => ?_);obtain ⟨t, htt, hw⟩ := erase_head (.inl rfl) (side_acc hB.sb).2.2 i hp;have := h t q htt hq;unfold worse at hw
   simp at hw
   omega
 ·split at h
  ·rename_i i hi
   rw [List.findIdx?_eq_some_iff_getElem] at hi;obtain ⟨h1, _, _⟩ := hi;have e : L.asks.getD i ⟨0, 0, 0, 0⟩ = L.asks[i] := by simp [List.getD_eq_getElem?_getD, List.getElem?_eq_getElem h1]
   rw [e] at h;simp only [Option.some.injEq, Prod.mk.injEq] at h;obtain ⟨rfl, rfl⟩ := h;have ha := (side_acc hB.sa).1 _ (List.getElem_mem h1);have ht := hm.ta _ (List.getElem_mem h1);refine ⟨hB.next, hB.sb, side_erase (.inr rfl) hB.sa i, hB.nd.sublist ((List.Sublist.refl _).append (ids_erase _ _)), ?_, owok_owed (owok_owe (owed_owok hB.ow) ha (by omega) (by unfold brN; rw [if_neg (by omega)]; exact ht.2.1)) ho⟩
   rcases hB.cr with h | h
   ·exact .inl h
   ·refine .inr (fun p q hp hq => ?_);obtain ⟨t, htt, hw⟩ := erase_head (.inr rfl) (side_acc hB.sa).2.2 i hq;have := h p t hp htt;unfold worse at hw
    simp at hw
    omega
  ·cases h
theorem canR_may {L : LaneV} {acc id : Int} (h : (canR L acc id).2.2 = 0) : chkB (canR L acc id).1 = true := by
 unfold canR at h ⊢
 by_cases hk : chkB L = true
 ·rw [if_pos hk] at h ⊢
  split
  ·rename_i hc
   rw [hc] at h
   simp at h
  ·rename_i Mx hc
   rw [hc] at h;simp only at h
   split
   ·rename_i ho
    rw [if_pos ho] at h
    simp at h
   ·rename_i ho
    exact can_may (M := Mx.1) (x := Mx.2) hk hc (by simpa using ho)
 ·rw [if_neg hk] at h
  simp at h
theorem hol_bd {L : LaneV} (hk : chkB L = true) : (0 ≤ holM L ∧ holM L ≤ 184115188075855872) ∧ (0 ≤ holG L ∧ holG L ≤ 144115188115855872) := by
 have hm := chk_may hk;have h1 := sumP_b40 hm.tb hm.lb L.bids.length;have h2 := sumQ_b40 hm.ta hm.la L.asks.length;have h3 := sumA_b16 (a := 0) hm.ow L.owed.length;have h4 := sumA_b16 (a := 1) hm.ow L.owed.length;rw [List.take_of_length_le (Nat.le_refl _)] at h1 h2 h3 h4;unfold holM holG;omega
set_option maxHeartbeats 1000000 in
theorem cWithin_is (x lo hi : Int) (w : World) : Calls Tryz.prog 177 #[.int .i64 x, .int .i64 lo, .int .i64 hi] w fun e w' => e = .returned (.bool (wiB x lo hi)) ∧ w' = w := by
 unfold wiB
 go_enter Tryz.func177, Tryz.ntmps177
 by_cases h1 : lo ≤ x
 ·by_cases h2 : x ≤ hi
  ·go_wp2;go_ret
   exact ⟨by simp [h1, h2], rfl⟩
  ·go_wp2;go_ret
   exact ⟨by simp [h2], rfl⟩
 ·go_wp2;go_ret
  exact ⟨by simp; omega, rfl⟩
set_option maxHeartbeats 1000000 in
theorem cAccount_is (x : Int) (w : World) : Calls Tryz.prog 151 #[.int .i64 x] w fun e w' => e = .returned (.bool (wiB x 1 8)) ∧ w' = w := by
 have H := hideIt (fun W => cWithin_is x 1 8 W)
 go_enter Tryz.func151, Tryz.ntmps151
 go_wp2_with fail
 refine (H.out _).mono ?_;rintro e w1 ⟨rfl, rfl⟩;go_wp2;go_ret
 exact ⟨rfl, rfl⟩
def zLt : LaneV := ⟨false, 0, [], [], []⟩
def takR (L : LaneV) (acc : Int) : LaneV × List AmV × Int := if chkB L = false then (zLt, [], 130) else if wiB acc 1 8 = false then (zLt, [], 1) else (⟨L.call, L.next, L.bids, L.asks, lefA acc L.owed⟩, takA acc L.owed, 0)
def TkB (X : LaneV × List AmV × Int) (w : World) (e : Ending) (w' : World) : Prop := ∃ b a o u, e = .returned (.tuple #[laneV X.1 b a o, u, .int .i64 X.2.2]) ∧ w'.ownsRow w.heap.size 115 4 b X.1.bids.length (celC ordE X.1.bids) ∧ w'.ownsRow w.heap.size 115 4 a X.1.asks.length (celC ordE X.1.asks) ∧ w'.ownsRow w.heap.size 61 3 o X.1.owed.length (celC oweE X.1.owed) ∧ w'.ownsRow w.heap.size 53 2 u X.2.1.length (celC amE X.2.1) ∧ Below w.heap.size w w'
theorem five5T_at {w : World} {p : Nat} {t : TypeId} {a b c d e : Value} (h : w.heap[p]? = some (.cells #[a, b, c, d, e] t (0, 0))) : (w.cell? ⟨p, 0, none⟩ = some a ∧ w.cell? ⟨p, 1, none⟩ = some b ∧ w.cell? ⟨p, 2, none⟩ = some c ∧ w.cell? ⟨p, 3, none⟩ = some d ∧ w.cell? ⟨p, 4, none⟩ = some e) ∧ (∀ j, w.frozen? ⟨p, j, none⟩ = false) ∧ p < w.heap.size :=
 ⟨⟨by rw [cell_at h]; rfl, by rw [cell_at h]; rfl, by rw [cell_at h]; rfl, by rw [cell_at h]; rfl, by rw [cell_at h]; rfl⟩, fun j => free_at h j, (Array.getElem?_eq_some_iff.1 h).1⟩
set_option maxHeartbeats 16000000 in
set_option maxRecDepth 100000 in
theorem take_is (L : LaneV) (b a o : Value) (acc : Int) (w : World) (h : Lan w L b a o) : Calls Tryz.prog 126 #[laneV L b a o, .int .i64 acc] w (TkB (takR L acc) w) := by
  have X0 := hideIt (CB.first w L b a o);have HC := hideIt (check_is L b a o _ (h.keep X0.out.bel));have HAC := hideIt (fun W => cAccount_is acc W);have HPA := hideIt (fun W (hW : Below w.heap.size w W) => parted_is o L.owed acc W (h.keep hW).owed);have HCB := hideIt (fun W (hW : Below w.heap.size w W) => cloneO_is b L.bids W (h.keep hW).bids);have HCA := hideIt (fun W (hW : Below w.heap.size w W) => cloneO_is a L.asks W (h.keep hW).asks);obtain ⟨ba, bc, rfl⟩ := h.bids.slice;obtain ⟨aa, ac, rfl⟩ := h.asks.slice;obtain ⟨oa, oc, rfl⟩ := h.owed.slice;clear h;cases hk : chkB L
  · have HR : Hid (takR L acc = (zLt, [], 130)) := by show _ = _; unfold takR; rw [if_pos hk]
    rw [show chkI L = 130 by unfold chkI; rw [hk]; rfl] at HC
    generalize takR L acc = RX at *;unfold laneV laneA at *;obtain ⟨cl, nx, bids, asks, owed⟩ := L;simp only at *;clear hk HPA HCB HCA HAC
    go_enter Tryz.func126, Tryz.ntmps126
    go_wp2_with fail
    refine HC.out.mono ?_;rintro e w1 ⟨rfl, hb⟩;dsimp only;have X1 := hideIt (X0.out.keep hb);clear hb X0 HC;obtain ⟨⟨r0, r1, r2, r3, r4⟩, rf, rl⟩ := five5T_at X1.out.res;have HP := hideIt (X1.out.put (.bool false) (.int .i64 0) (.slice none 0 0) (.slice none 0 0) (.slice none 0 0));go_wp2
    revert HP
    generalize (World.setCell _ ⟨w.heap.size + 1, 4, none⟩ _) = W;intro HP;exact bodyPost_ret (v := .tuple #[laneV zLt (.slice none 0 0) (.slice none 0 0) (.slice none 0 0), .slice none 0 0, .int .i64 130]) (by simp [results, Tryz.results126, go_sem, cell_at HP.out.1, laneV, laneA, zLt]) rfl (by unfold TkB; rw [HR.out]; exact ⟨_, _, _, _, rfl, own_nil _ _, own_nil _ _, own_nil _ _, own_nil _ _, HP.out.2⟩)
  · rw [show chkI L = 0 by unfold chkI; rw [hk]; rfl] at HC
    cases ha : wiB acc 1 8
    · have HR : Hid (takR L acc = (zLt, [], 1)) := by show _ = _; unfold takR; rw [if_neg (by simp [hk]), if_pos ha]
      rw [ha] at HAC;generalize takR L acc = RX at *;unfold laneV laneA at *;obtain ⟨cl, nx, bids, asks, owed⟩ := L;simp only at *;clear hk ha HPA HCB HCA
      go_enter Tryz.func126, Tryz.ntmps126
      go_wp2_with fail
      refine HC.out.mono ?_;rintro e w1 ⟨rfl, hb⟩;dsimp only;have X1 := hideIt (X0.out.keep hb);clear hb X0 HC
      go_wp2_with fail
      refine (HAC.out _).mono ?_;rintro e wq ⟨rfl, hwq⟩;replace hwq := hwq.symm;subst hwq;dsimp only;clear HAC;obtain ⟨⟨r0, r1, r2, r3, r4⟩, rf, rl⟩ := five5T_at X1.out.res;have HP := hideIt (X1.out.put (.bool false) (.int .i64 0) (.slice none 0 0) (.slice none 0 0) (.slice none 0 0));go_wp2
      revert HP
      generalize (World.setCell _ ⟨w.heap.size + 1, 4, none⟩ _) = W;intro HP;exact bodyPost_ret (v := .tuple #[laneV zLt (.slice none 0 0) (.slice none 0 0) (.slice none 0 0), .slice none 0 0, .int .i64 1]) (by simp [results, Tryz.results126, go_sem, cell_at HP.out.1, laneV, laneA, zLt]) rfl (by unfold TkB; rw [HR.out]; exact ⟨_, _, _, _, rfl, own_nil _ _, own_nil _ _, own_nil _ _, own_nil _ _, HP.out.2⟩)
    · have HR : Hid (takR L acc = (⟨L.call, L.next, L.bids, L.asks, lefA acc L.owed⟩, takA acc L.owed, 0)) := by show _ = _; unfold takR; rw [if_neg (by simp [hk]), if_neg (by simp [ha])]
      rw [ha] at HAC;generalize takR L acc = RX at *;unfold laneV laneA at *;obtain ⟨cl, nx, bids, asks, owed⟩ := L;simp only at *;generalize takA acc owed = TA at *;generalize lefA acc owed = TL1 at *;clear hk ha
      go_enter Tryz.func126, Tryz.ntmps126
      go_wp2_with fail
      refine HC.out.mono ?_;rintro e w1 ⟨rfl, hb⟩;dsimp only;have X1 := hideIt (X0.out.keep hb);clear hb X0 HC
      go_wp2_with fail
      refine (HAC.out _).mono ?_;rintro e wq ⟨rfl, hwq⟩;replace hwq := hwq.symm;subst hwq;dsimp only;clear HAC;obtain ⟨x0, x1, x2, x3, x4⟩ := X1.out.cells;simp only at x0 x1 x2 x3 x4
      go_wp2_with fail
      refine (HPA.out _ X1.out.bel).mono ?_;rintro e w2 ⟨ta, tc, la, lc, rfl, hTL⟩;dsimp only;have X2 := hideIt (X1.out.keep hTL.bel);have RA := hideIt (own_base hTL.ra X1.out.size);have RL := hideIt (own_base hTL.rl X1.out.size);clear hTL X1 HPA x0 x1 x2 x3 x4;obtain ⟨x0, x1, x2, x3, x4⟩ := X2.out.cells;obtain ⟨⟨r0, r1, r2, r3, r4⟩, rf, rl⟩ := five5T_at X2.out.res;simp only at x0 x1 x2 x3 x4;have z2 : w.heap.size < w2.heap.size := by have := X2.out.size; omega
      have HB2 : Hid (∀ W, Below w2.heap.size w2 W → Calls Tryz.prog 72 #[.slice ba bids.length bc] W fun e w' => ∃ q k, e = .returned (.slice q bids.length k) ∧ Hid (w'.ownsRow (w.heap.size + 2) 115 4 (.slice q bids.length k) bids.length (celC ordE bids) ∧ Below W.heap.size W w') ∧ Hid (Below w2.heap.size w2 w') ∧ (w'.cell? ⟨w.heap.size, 0, none⟩ = some (.bool cl) ∧ w'.cell? ⟨w.heap.size, 1, none⟩ = some (.int .i64 nx) ∧ w'.cell? ⟨w.heap.size, 2, none⟩ = some (.slice ba bids.length bc) ∧ w'.cell? ⟨w.heap.size, 3, none⟩ = some (.slice aa asks.length ac)) ∧ w.heap.size < w'.heap.size ∧ (w'.cell? ⟨w.heap.size + 1, 0, none⟩ = some (.bool false) ∧ w'.cell? ⟨w.heap.size + 1, 1, none⟩ = some (.int .i64 0) ∧ w'.cell? ⟨w.heap.size + 1, 2, none⟩ = some (.slice none 0 0) ∧ w'.cell? ⟨w.heap.size + 1, 3, none⟩ = some (.slice none 0 0) ∧ w'.cell? ⟨w.heap.size + 1, 4, none⟩ = some (.slice none 0 0)) ∧ (∀ j, w'.frozen? ⟨w.heap.size + 1, j, none⟩ = false) ∧ w.heap.size + 1 < w'.heap.size) := by
        intro W hW;have hX := X2.out.keep hW;refine (HCB.out W hX.bel).mono ?_;rintro e w' ⟨v', rfl, ho, hb⟩;obtain ⟨q, k, rfl⟩ := own_len ho;have hX' := hX.keep hb;obtain ⟨y0, y1, y2, y3, -⟩ := hX'.cells;obtain ⟨⟨s0, s1, s2, s3, s4⟩, sf, sz⟩ := five5T_at hX'.res
        exact ⟨q, k, rfl, ⟨own_base ho hX.size, hb⟩, below_via hW hb, ⟨y0, y1, y2, y3⟩, by have := hX'.size; omega, ⟨s0, s1, s2, s3, s4⟩, sf, sz⟩
      have HA2 : Hid (∀ W, Below w2.heap.size w2 W → Calls Tryz.prog 72 #[.slice aa asks.length ac] W fun e w' => ∃ q k, e = .returned (.slice q asks.length k) ∧ Hid (w'.ownsRow (w.heap.size + 2) 115 4 (.slice q asks.length k) asks.length (celC ordE asks) ∧ Below W.heap.size W w') ∧ Hid (Below w2.heap.size w2 w') ∧ (w'.cell? ⟨w.heap.size, 0, none⟩ = some (.bool cl) ∧ w'.cell? ⟨w.heap.size, 1, none⟩ = some (.int .i64 nx) ∧ w'.cell? ⟨w.heap.size, 2, none⟩ = some (.slice ba bids.length bc) ∧ w'.cell? ⟨w.heap.size, 3, none⟩ = some (.slice aa asks.length ac)) ∧ w.heap.size < w'.heap.size ∧ (w'.cell? ⟨w.heap.size + 1, 0, none⟩ = some (.bool false) ∧ w'.cell? ⟨w.heap.size + 1, 1, none⟩ = some (.int .i64 0) ∧ w'.cell? ⟨w.heap.size + 1, 2, none⟩ = some (.slice none 0 0) ∧ w'.cell? ⟨w.heap.size + 1, 3, none⟩ = some (.slice none 0 0) ∧ w'.cell? ⟨w.heap.size + 1, 4, none⟩ = some (.slice none 0 0)) ∧ (∀ j, w'.frozen? ⟨w.heap.size + 1, j, none⟩ = false) ∧ w.heap.size + 1 < w'.heap.size) := by
        intro W hW;have hX := X2.out.keep hW;refine (HCA.out W hX.bel).mono ?_;rintro e w' ⟨v', rfl, ho, hb⟩;obtain ⟨q, k, rfl⟩ := own_len ho;have hX' := hX.keep hb;obtain ⟨y0, y1, y2, y3, -⟩ := hX'.cells;obtain ⟨⟨s0, s1, s2, s3, s4⟩, sf, sz⟩ := five5T_at hX'.res
        exact ⟨q, k, rfl, ⟨own_base ho hX.size, hb⟩, below_via hW hb, ⟨y0, y1, y2, y3⟩, by have := hX'.size; omega, ⟨s0, s1, s2, s3, s4⟩, sf, sz⟩
      clear HCB HCA;have nr : w.heap.size ≠ w.heap.size + 1 := by omega
      clear x4
      go_upto_region 7 with fail
      go_region_held3 (fun W => W.cell? ⟨w.heap.size, 0, none⟩ = some (.bool cl) ∧ W.cell? ⟨w.heap.size, 1, none⟩ = some (.int .i64 nx) ∧ W.cell? ⟨w.heap.size, 2, none⟩ = some (.slice ba bids.length bc) ∧ W.cell? ⟨w.heap.size, 3, none⟩ = some (.slice aa asks.length ac)) (go_keep) (first | (go_at_call 72; refine (HB2.out _ (by first | exact Below.refl _ _ | exact (Below.refl _ _).drew | exact HWa.out)).mono ?_; rintro e w3 ⟨q1, m1, rfl, HQ1, HWb, ⟨i0, i1, i2, i3⟩, iz, ⟨s0, s1, s2, s3, s4⟩, sf, sz⟩; clear HB2) | (go_at_call 72; refine (HA2.out _ (by first | exact Below.refl _ _ | exact (Below.refl _ _).drew | exact HWb.out)).mono ?_; rintro e w4 ⟨q2, m2, rfl, HQ2, HWa, ⟨j0, j1, j2, j3⟩, jz, ⟨u0, u1, u2, u3, u4⟩, uf, uz⟩; clear HA2))
      all_goals
        first
        | (have XF := hideIt (X2.out.keep HWa.out)
           have HPT := hideIt (XF.out.put (.bool cl) (.int .i64 nx) (.slice q1 bids.length m1) (.slice q2 asks.length m2) (.slice la TL1.length lc));have HRW : Hid ((((((w4.setCell ⟨w.heap.size + 1, 0, none⟩ (.bool cl)).setCell ⟨w.heap.size + 1, 1, none⟩ (.int .i64 nx)).setCell ⟨w.heap.size + 1, 2, none⟩ (.slice q1 bids.length m1)).setCell ⟨w.heap.size + 1, 3, none⟩ (.slice q2 asks.length m2)).setCell ⟨w.heap.size + 1, 4, none⟩ (.slice la TL1.length lc)).ownsRow (w.heap.size + 2) 115 4 (.slice q1 bids.length m1) bids.length (celC ordE bids) ∧ (((((w4.setCell ⟨w.heap.size + 1, 0, none⟩ (.bool cl)).setCell ⟨w.heap.size + 1, 1, none⟩ (.int .i64 nx)).setCell ⟨w.heap.size + 1, 2, none⟩ (.slice q1 bids.length m1)).setCell ⟨w.heap.size + 1, 3, none⟩ (.slice q2 asks.length m2)).setCell ⟨w.heap.size + 1, 4, none⟩ (.slice la TL1.length lc)).ownsRow (w.heap.size + 2) 115 4 (.slice q2 asks.length m2) asks.length (celC ordE asks) ∧ (((((w4.setCell ⟨w.heap.size + 1, 0, none⟩ (.bool cl)).setCell ⟨w.heap.size + 1, 1, none⟩ (.int .i64 nx)).setCell ⟨w.heap.size + 1, 2, none⟩ (.slice q1 bids.length m1)).setCell ⟨w.heap.size + 1, 3, none⟩ (.slice q2 asks.length m2)).setCell ⟨w.heap.size + 1, 4, none⟩ (.slice la TL1.length lc)).ownsRow (w.heap.size + 2) 61 3 (.slice la TL1.length lc) TL1.length (celC oweE TL1) ∧ (((((w4.setCell ⟨w.heap.size + 1, 0, none⟩ (.bool cl)).setCell ⟨w.heap.size + 1, 1, none⟩ (.int .i64 nx)).setCell ⟨w.heap.size + 1, 2, none⟩ (.slice q1 bids.length m1)).setCell ⟨w.heap.size + 1, 3, none⟩ (.slice q2 asks.length m2)).setCell ⟨w.heap.size + 1, 4, none⟩ (.slice la TL1.length lc)).ownsRow (w.heap.size + 2) 53 2 (.slice ta TA.length tc) TA.length (celC amE TA)) := ⟨own_five (own_keep HQ1.out.1 HQ2.out.2) XF.out.res (by decide) _ _ _ _ _, own_five HQ2.out.1 XF.out.res (by decide) _ _ _ _ _, own_five (own_keep RL.out HWa.out) XF.out.res (by decide) _ _ _ _ _, own_five (own_keep RA.out HWa.out) XF.out.res (by decide) _ _ _ _ _⟩;clear XF X2 HQ1 HQ2 RA RL;go_wp2
           revert HPT HRW
           generalize (World.setCell _ ⟨w.heap.size + 1, 4, none⟩ _) = WF;intro HPT HRW;exact bodyPost_ret (v := .tuple #[.agg #[.bool cl, .int .i64 nx, .slice q1 bids.length m1, .slice q2 asks.length m2, .slice la TL1.length lc], .slice ta TA.length tc, .int .i64 0]) (by simp [results, Tryz.results126, go_sem, cell_at HPT.out.1, laneA]) rfl (by unfold TkB; rw [HR.out]; exact ⟨_, _, _, _, rfl, own_base HRW.out.1 (by omega), own_base HRW.out.2.1 (by omega), own_base HRW.out.2.2.1 (by omega), own_base HRW.out.2.2.2 (by omega), by first | exact HPT.out.2 | exact HPT.out.2.drew⟩))
        | (have XF := hideIt (X2.out.keep HWb.out)
           have HPT := hideIt (XF.out.put (.bool cl) (.int .i64 nx) (.slice q1 bids.length m1) (.slice q2 asks.length m2) (.slice la TL1.length lc));have HRW : Hid ((((((w3.setCell ⟨w.heap.size + 1, 0, none⟩ (.bool cl)).setCell ⟨w.heap.size + 1, 1, none⟩ (.int .i64 nx)).setCell ⟨w.heap.size + 1, 2, none⟩ (.slice q1 bids.length m1)).setCell ⟨w.heap.size + 1, 3, none⟩ (.slice q2 asks.length m2)).setCell ⟨w.heap.size + 1, 4, none⟩ (.slice la TL1.length lc)).ownsRow (w.heap.size + 2) 115 4 (.slice q1 bids.length m1) bids.length (celC ordE bids) ∧ (((((w3.setCell ⟨w.heap.size + 1, 0, none⟩ (.bool cl)).setCell ⟨w.heap.size + 1, 1, none⟩ (.int .i64 nx)).setCell ⟨w.heap.size + 1, 2, none⟩ (.slice q1 bids.length m1)).setCell ⟨w.heap.size + 1, 3, none⟩ (.slice q2 asks.length m2)).setCell ⟨w.heap.size + 1, 4, none⟩ (.slice la TL1.length lc)).ownsRow (w.heap.size + 2) 115 4 (.slice q2 asks.length m2) asks.length (celC ordE asks) ∧ (((((w3.setCell ⟨w.heap.size + 1, 0, none⟩ (.bool cl)).setCell ⟨w.heap.size + 1, 1, none⟩ (.int .i64 nx)).setCell ⟨w.heap.size + 1, 2, none⟩ (.slice q1 bids.length m1)).setCell ⟨w.heap.size + 1, 3, none⟩ (.slice q2 asks.length m2)).setCell ⟨w.heap.size + 1, 4, none⟩ (.slice la TL1.length lc)).ownsRow (w.heap.size + 2) 61 3 (.slice la TL1.length lc) TL1.length (celC oweE TL1) ∧ (((((w3.setCell ⟨w.heap.size + 1, 0, none⟩ (.bool cl)).setCell ⟨w.heap.size + 1, 1, none⟩ (.int .i64 nx)).setCell ⟨w.heap.size + 1, 2, none⟩ (.slice q1 bids.length m1)).setCell ⟨w.heap.size + 1, 3, none⟩ (.slice q2 asks.length m2)).setCell ⟨w.heap.size + 1, 4, none⟩ (.slice la TL1.length lc)).ownsRow (w.heap.size + 2) 53 2 (.slice ta TA.length tc) TA.length (celC amE TA)) := ⟨own_five HQ1.out.1 XF.out.res (by decide) _ _ _ _ _, own_five (own_keep HQ2.out.1 HQ1.out.2) XF.out.res (by decide) _ _ _ _ _, own_five (own_keep RL.out HWb.out) XF.out.res (by decide) _ _ _ _ _, own_five (own_keep RA.out HWb.out) XF.out.res (by decide) _ _ _ _ _⟩;clear XF X2 HQ1 HQ2 RA RL;go_wp2
           revert HPT HRW
           generalize (World.setCell _ ⟨w.heap.size + 1, 4, none⟩ _) = WF;intro HPT HRW;exact bodyPost_ret (v := .tuple #[.agg #[.bool cl, .int .i64 nx, .slice q1 bids.length m1, .slice q2 asks.length m2, .slice la TL1.length lc], .slice ta TA.length tc, .int .i64 0]) (by simp [results, Tryz.results126, go_sem, cell_at HPT.out.1, laneA]) rfl (by unfold TkB; rw [HR.out]; exact ⟨_, _, _, _, rfl, own_base HRW.out.1 (by omega), own_base HRW.out.2.1 (by omega), own_base HRW.out.2.2.1 (by omega), own_base HRW.out.2.2.2 (by omega), by first | exact HPT.out.2 | exact HPT.out.2.drew⟩))
end Go.Proofs.YtiinigifjdpicaaGreatDoor
