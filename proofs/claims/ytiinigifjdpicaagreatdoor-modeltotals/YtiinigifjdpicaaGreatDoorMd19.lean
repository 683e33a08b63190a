/- Texts of my own, laid together. -/
import Derived.Test.YtiinigifjdpicaaGreatDoorMd07
import Derived.Deep.QuietTactic
import Derived.BigQuiet
import Derived.Test.YtiinigifjdpicaaGreatDoorMd06
import Derived.Test.YtiinigifjdpicaaGreatDoorMd01
import Derived.Test.YtiinigifjdpicaaGreatDoorMd18
import Derived.Test.YtiinigifjdpicaaGreatDoorMd17
import Derived.Test.YtiinigifjdpicaaGreatDoorMd08
namespace Go.Proofs.YtiinigifjdpicaaGreatDoor
open Go.RowKit
set_option linter.all false
theorem neq36 (a b c d : Int) (w : World) : (binOp .neq 115 (.agg #[.int .i64 a, .int .i64 b, .int .i64 c, .int .i64 d]) (.agg #[.int .i64 a, .int .i64 b, .int .i64 c, .int .i64 d])).run Tryz.prog w = .ok (.bool false) w := by
 simp [go_sem]
theorem neq63 (a b c : Int) (w : World) : (binOp .neq 61 (.agg #[.int .i64 a, .int .i64 b, .int .i64 c]) (.agg #[.int .i64 a, .int .i64 b, .int .i64 c])).run Tryz.prog w = .ok (.bool false) w := by
 simp [go_sem]
set_option maxHeartbeats 4000000 in
set_option maxRecDepth 100000 in
theorem sameO_is (v v' : Value) (l : List OrdV) (w : World) (h : Ords w v l) (h' : Ords w v' l) : Calls Tryz.prog 53 #[v, v'] w fun e w' => e = .returned (.bool true) ∧ Below w.heap.size w w' := by
 obtain ⟨a, c, rfl, h8, hr⟩ := h.ords;obtain ⟨a', c', rfl, h8', hr'⟩ := h'.ords;have HH := hideIt hr;have HM := hideIt hr';clear hr hr' h h'
 go_enter Tryz.func53, Tryz.ntmps53
 go_wp2
 go_loopw [5] (fun v wr => ∃ t : Nat, v = .int .i64 t ∧ t ≤ l.length ∧ Hid (Below w.heap.size w wr)) (fun v _ => l.length - (intOf v).toNat)
 case atStart => exact ⟨0, rfl, Nat.zero_le _, hideIt (Below.refl _ _)⟩
 case round =>
  obtain ⟨t, rfl, ht, HR⟩ := hrel
  by_cases hlt : t < l.length
  ·have hltI : (t : Int) < (l.length : Int) := by omega
   have ht0 : (0 : Int) ≤ (t : Int) := by omega
   have hw : IntKind.i64.wrap ((t : Int) + 1) = ((t + 1 : Nat) : Int) := by rw [IntKind.wrap_i64]; omega
   have hB := HR.out;obtain ⟨b, off, rfl, hbl, q0, q1, q2, q3⟩ := HH.out t hlt;have hblr : b < wr.heap.size := Nat.lt_of_lt_of_le hbl hB.size;have c0 := (hB.cell (p := ⟨b, off + t * 4, none⟩) hbl).trans q0;have c1 := (hB.cell (p := ⟨b, off + t * 4 + 1, none⟩) hbl).trans q1;have c2 := (hB.cell (p := ⟨b, off + t * 4 + 2, none⟩) hbl).trans q2;have c3 := (hB.cell (p := ⟨b, off + t * 4 + 3, none⟩) hbl).trans q3;clear q0 q1 q2 q3;obtain ⟨b', off', rfl, hbl', q0, q1, q2, q3⟩ := HM.out t hlt;have hblr' : b' < wr.heap.size := Nat.lt_of_lt_of_le hbl' hB.size;have d0 := (hB.cell (p := ⟨b', off' + t * 4, none⟩) hbl').trans q0;have d1 := (hB.cell (p := ⟨b', off' + t * 4 + 1, none⟩) hbl').trans q1;have d2 := (hB.cell (p := ⟨b', off' + t * 4 + 2, none⟩) hbl').trans q2;have d3 := (hB.cell (p := ⟨b', off' + t * 4 + 3, none⟩) hbl').trans q3;clear q0 q1 q2 q3 hB HH HM;generalize l[t] = en at *;obtain ⟨x, y, z, u⟩ := en;dsimp only at c0 c1 c2 c3 d0 d1 d2 d3;have q1 := fun W => neq36 x y z u W
   go_wp2_with fail
   go_quiet (fail)
   go_wp2
   go_roundw
   case rel => exact ⟨t + 1, by go_num, by omega, hideIt (below_drewN HR.out _)⟩
   case measure => simp [intOf]; omega
  ·have hltI : ¬ (t : Int) < (l.length : Int) := by omega
   clear HH HM;go_wp2;go_ret
   exact ⟨rfl, HR.out⟩
structure B2 (w : World) (L : LaneV) (b a o b' a' o' : Value) (W : World) : Prop where
 b0 : W.heap[w.heap.size]? = some (.cells #[.bool L.call, .int .i64 L.next, b, a, o] 59 (0, 0))
 b1 : W.heap[w.heap.size + 1]? = some (.cells #[.bool L.call, .int .i64 L.next, b', a', o'] 59 (0, 0))
 bel : Below w.heap.size w W
theorem B2.keep {w W W' : World} {L : LaneV} {b a o b' a' o' : Value} (h : B2 w L b a o b' a' o' W) (hb : Below W.heap.size W W') : B2 w L b a o b' a' o' W' :=
 ⟨(hb.block _ (Array.getElem?_eq_some_iff.1 h.b0).1).trans h.b0, (hb.block _ (Array.getElem?_eq_some_iff.1 h.b1).1).trans h.b1, below_via h.bel hb⟩
theorem B2.first (w : World) (L : LaneV) (b a o b' a' o' : Value) : B2 w L b a o b' a' o' ((w.alloc (.cells #[.bool L.call, .int .i64 L.next, b, a, o] 59)).alloc (.cells #[.bool L.call, .int .i64 L.next, b', a', o'] 59)) :=
 ⟨(two_heap w _ _).1, (two_heap w _ _).2.1, below2 w _ _⟩
set_option maxHeartbeats 8000000 in
set_option maxRecDepth 100000 in
theorem sameL_is (L : LaneV) (b a o b' a' o' : Value) (w : World) (h : Lan w L b a o) (h' : Lan w L b' a' o') : Calls Tryz.prog 26 #[laneV L b a o, laneV L b' a' o'] w fun e w' => e = .returned (.bool true) ∧ Below w.heap.size w w' := by
 have X0 := hideIt (B2.first w L b a o b' a' o');have H1 := hideIt (fun W (hW : Below w.heap.size w W) => sameO_is b b' L.bids W (h.keep hW).bids (h'.keep hW).bids);have H2 := hideIt (fun W (hW : Below w.heap.size w W) => sameO_is a a' L.asks W (h.keep hW).asks (h'.keep hW).asks);obtain ⟨ba, bc, rfl⟩ := h.bids.slice;obtain ⟨aa, ac, rfl⟩ := h.asks.slice;obtain ⟨oa, oc, rfl, h8, hr⟩ := h.owed.owes;obtain ⟨ba', bc', rfl⟩ := h'.bids.slice;obtain ⟨aa', ac', rfl⟩ := h'.asks.slice;obtain ⟨oa', oc', rfl, h8', hr'⟩ := h'.owed.owes;have HH := hideIt hr;have HM := hideIt hr';clear h h' hr hr';unfold laneV laneA;obtain ⟨cl, nx, bids, asks, owed⟩ := L;simp only at *;have qb : ∀ W, (binOp .neq 4 (.bool cl) (.bool cl)).run Tryz.prog W = .ok (.bool false) W := fun W => by cases cl <;> simp [go_sem]
 go_enter Tryz.func26, Tryz.ntmps26
 go_upto_region 1 with fail
 generalize (w.alloc (.cells #[.bool cl, .int .i64 nx, .slice ba bids.length bc, .slice aa asks.length ac, .slice oa owed.length oc] 59)).alloc (.cells #[.bool cl, .int .i64 nx, .slice ba' bids.length bc', .slice aa' asks.length ac', .slice oa' owed.length oc'] 59) = W0 at *;obtain ⟨⟨x0, x1, x2, x3, x4⟩, -, xl⟩ := five_at X0.out.b0;obtain ⟨⟨y0, y1, y2, y3, y4⟩, -, yl⟩ := five_at X0.out.b1;dsimp only at x0 x1 y0 y1
 go_wp2_with fail
 refine (H1.out _ X0.out.bel).mono ?_;rintro e w1 ⟨rfl, hb⟩;dsimp only;have X1 := hideIt (X0.out.keep hb);clear x0 x1 x2 x3 x4 xl y0 y1 y2 y3 y4 yl;clear hb X0 H1;obtain ⟨⟨x0, x1, x2, x3, x4⟩, -, xl⟩ := five_at X1.out.b0;obtain ⟨⟨y0, y1, y2, y3, y4⟩, -, yl⟩ := five_at X1.out.b1
 go_wp2_with fail
 refine (H2.out _ X1.out.bel).mono ?_;rintro e w2 ⟨rfl, hb⟩;dsimp only;have X2 := hideIt (X1.out.keep hb);clear x0 x1 x2 x3 x4 xl y0 y1 y2 y3 y4 yl;clear hb X1 H2;obtain ⟨⟨x0, x1, x2, x3, x4⟩, -, xl⟩ := five_at X2.out.b0;obtain ⟨⟨y0, y1, y2, y3, y4⟩, -, yl⟩ := five_at X2.out.b1
 go_upto_region 4 with fail
 clear x0 x1 x2 x3 x4 xl y0 y1 y2 y3 y4 yl
 go_loopw [5] (fun v wr => ∃ t : Nat, v = .int .i64 t ∧ t ≤ owed.length ∧ Hid (B2 w ⟨cl, nx, bids, asks, owed⟩ (.slice ba bids.length bc) (.slice aa asks.length ac) (.slice oa owed.length oc) (.slice ba' bids.length bc') (.slice aa' asks.length ac') (.slice oa' owed.length oc') wr)) (fun v _ => owed.length - (intOf v).toNat)
 case atStart => exact ⟨0, rfl, Nat.zero_le _, X2⟩
 case round =>
  clear X2;obtain ⟨t, rfl, ht, HR⟩ := hrel;obtain ⟨⟨x0, x1, x2, x3, x4⟩, -, xl⟩ := five_at HR.out.b0;obtain ⟨⟨y0, y1, y2, y3, y4⟩, -, yl⟩ := five_at HR.out.b1
  by_cases hlt : t < owed.length
  ·have hltI : (t : Int) < (owed.length : Int) := by omega
   have ht0 : (0 : Int) ≤ (t : Int) := by omega
   have hw : IntKind.i64.wrap ((t : Int) + 1) = ((t + 1 : Nat) : Int) := by rw [IntKind.wrap_i64]; omega
   have hB := HR.out.bel;obtain ⟨b, off, rfl, hbl, q0, q1, q2⟩ := HH.out t hlt;have hblr : b < wr.heap.size := Nat.lt_of_lt_of_le hbl hB.size;have c0 := (hB.cell (p := ⟨b, off + t * 3, none⟩) hbl).trans q0;have c1 := (hB.cell (p := ⟨b, off + t * 3 + 1, none⟩) hbl).trans q1;have c2 := (hB.cell (p := ⟨b, off + t * 3 + 2, none⟩) hbl).trans q2;clear q0 q1 q2;obtain ⟨b', off', rfl, hbl', q0, q1, q2⟩ := HM.out t hlt;have hblr' : b' < wr.heap.size := Nat.lt_of_lt_of_le hbl' hB.size;have d0 := (hB.cell (p := ⟨b', off' + t * 3, none⟩) hbl').trans q0;have d1 := (hB.cell (p := ⟨b', off' + t * 3 + 1, none⟩) hbl').trans q1;have d2 := (hB.cell (p := ⟨b', off' + t * 3 + 2, none⟩) hbl').trans q2;clear q0 q1 q2 hB HH HM;generalize owed[t] = en at *;obtain ⟨x, y, z⟩ := en;dsimp only at c0 c1 c2 d0 d1 d2;have q1 := fun W => neq63 x y z W
   go_wp2_with fail
   go_quiet (fail)
   go_wp2
   go_roundw
   case rel => exact ⟨t + 1, by go_num, by omega, hideIt (HR.out.keep (below_drewN (Below.refl _ _) _))⟩
   case measure => simp [intOf]; omega
  ·have hltI : ¬ (t : Int) < (owed.length : Int) := by omega
   clear HH HM;go_wp2;go_ret
   exact ⟨rfl, HR.out.bel⟩
theorem sameAc (x y : AccX) (w : World) (h : AccAt w x) (h' : AccAt w y) (e : x.v = y.v) : Calls Tryz.prog 25 #[.agg #[.slice x.fa x.v.l.length x.fc, .int .i64 x.v.ct], .agg #[.slice y.fa y.v.l.length y.fc, .int .i64 y.v.ct]] w fun e w' => e = .returned (.bool true) ∧ Below w.heap.size w w' := by
 obtain ⟨xv, xa, xc⟩ := x;obtain ⟨yv, ya, yc⟩ := y;simp only at e;subst e;exact Lg.same_is xv _ _ w h h'
theorem sameLn (x y : LanX) (w : World) (h : LanAt w x) (h' : LanAt w y) (e : x.v = y.v) : Calls Tryz.prog 26 #[.agg #[.bool x.v.call, .int .i64 x.v.next, .slice x.ba x.v.bids.length x.bc, .slice x.aa x.v.asks.length x.ac, .slice x.oa x.v.owed.length x.oc], .agg #[.bool y.v.call, .int .i64 y.v.next, .slice y.ba y.v.bids.length y.bc, .slice y.aa y.v.asks.length y.ac, .slice y.oa y.v.owed.length y.oc]] w fun e w' => e = .returned (.bool true) ∧ Below w.heap.size w w' := by
 obtain ⟨xv, _, _, _, _, _, _⟩ := x;obtain ⟨yv, _, _, _, _, _, _⟩ := y;simp only at e;subst e;exact sameL_is xv _ _ _ _ _ _ w h h'
theorem map_at {α β : Type} {f : α → β} {xs ys : List α} (h : xs.map f = ys.map f) {t : Nat} (h1 : t < xs.length) (h2 : t < ys.length) : f xs[t] = f ys[t] := by
 have := congrArg (fun l => l[t]?) h
 simpa [List.getElem?_map, List.getElem?_eq_getElem h1, List.getElem?_eq_getElem h2] using this
set_option maxRecDepth 100000 in
set_option maxHeartbeats 16000000 in
theorem sameM_is (va vl va' vl' : Value) (M : MdlV) (w : World) (h : Mdl w va vl M) (h' : Mdl w va' vl' M) : Calls Tryz.prog 12 #[.agg #[va, vl], .agg #[va', vl']] w fun e w' => e = .returned (.bool true) ∧ Below w.heap.size w w' := by
 obtain ⟨⟨xs, hx, h1⟩, ys, hy, h2⟩ := h;obtain ⟨⟨us, hu, h3⟩, vs, hv, h4⟩ := h';have hxu : xs.length = us.length := by rw [← List.length_map (f := AccX.v), hx, ← hu, List.length_map]
 have hyv : ys.length = vs.length := by rw [← List.length_map (f := LanX.v), hy, ← hv, List.length_map]
 have EX := hideIt (fun t (k1 : t < xs.length) (k2 : t < us.length) => map_at (hx.trans hu.symm) k1 k2);have EY := hideIt (fun t (k1 : t < ys.length) (k2 : t < vs.length) => map_at (hy.trans hv.symm) k1 k2);obtain ⟨t1, t2, t3⟩ := two_heap w (.cells #[va, vl] 30) (.cells #[va', vl'] 30);have HBW := hideIt (below2 w (.cells #[va, vl] 30) (.cells #[va', vl'] 30));have HA := hideIt (fun (t : Nat) (k1 : t < xs.length) (k2 : t < us.length) W (hW : Below w.heap.size w W) => sameAc xs[t] us[t] W ((h1.at_ _ (List.getElem_mem k1)).keep hW) ((h3.at_ _ (List.getElem_mem k2)).keep hW) (EX.out t k1 k2));have HL := hideIt (fun (t : Nat) (k1 : t < ys.length) (k2 : t < vs.length) W (hW : Below w.heap.size w W) => sameLn ys[t] vs[t] W ((h2.at_ _ (List.getElem_mem k1)).keep hW) ((h4.at_ _ (List.getElem_mem k2)).keep hW) (EY.out t k1 k2));obtain ⟨xa, xc, rfl, _, hr1⟩ := h1.two;obtain ⟨ua, uc, rfl, _, hr3⟩ := h3.two;obtain ⟨ya, yc, rfl, _, hr2⟩ := h2.five;obtain ⟨za, zc, rfl, _, hr4⟩ := h4.five;have R1 := hideIt hr1;have R2 := hideIt hr2;have R3 := hideIt hr3;have R4 := hideIt hr4;have HXU := hideIt hxu;have HYV := hideIt hyv;have HT1 := hideIt t1;have HT2 := hideIt t2;have HT3 := hideIt t3;clear hr1 hr2 hr3 hr4 hx hy hu hv h1 h2 h3 h4 EX EY t1 t2 t3;rw [← hxu, ← hyv] at HBW HT1 HT2 HT3 ⊢;clear hxu hyv;have hn8 : ∀ n : Nat, ((n : Int) != (n : Int)) = false := fun n => by simp
 go_enter Tryz.func12, Tryz.ntmps12
 go_upto_region 1 with fail
 generalize (w.alloc (.cells #[.slice xa xs.length xc, .slice ya ys.length yc] 30)).alloc (.cells #[.slice ua xs.length uc, .slice za ys.length zc] 30) = W0 at *;have HF : Hid (∀ W, Below W0.heap.size W0 W → (W.cell? ⟨w.heap.size, 0, none⟩ = some (.slice xa xs.length xc) ∧ W.cell? ⟨w.heap.size, 1, none⟩ = some (.slice ya ys.length yc)) ∧ (W.cell? ⟨w.heap.size + 1, 0, none⟩ = some (.slice ua xs.length uc) ∧ W.cell? ⟨w.heap.size + 1, 1, none⟩ = some (.slice za ys.length zc))) := fun W hW => ⟨(at2 (blkK HT1.out hW)).1, (at2 (blkK HT2.out hW)).1⟩
 obtain ⟨⟨c0, c1⟩, e0, e1⟩ := HF.out W0 (Below.refl _ _);have z0 : w.heap.size < W0.heap.size := by have := HT3.out; omega
 have z1 : w.heap.size + 1 < W0.heap.size := by have := HT3.out; omega
 clear HT1 HT2 HT3;generalize w.heap.size + 1 = P1 at *;have HN1 := hideIt (hn8 xs.length);have HN2 := hideIt (hn8 ys.length);have n1 := HN1.out;have n2 := HN2.out
 go_upto_region 4 with fail
 clear n1 n2 HN1 HN2 hn8 c0 c1 e0 e1
 go_loopw [5] (fun v wr => ∃ t : Nat, v = .int .i64 t ∧ t ≤ xs.length ∧ Hid (Below W0.heap.size W0 wr)) (fun v _ => xs.length - (intOf v).toNat)
 case atStart => exact ⟨0, rfl, Nat.zero_le _, hideIt (Below.refl _ _)⟩
 case round =>
  obtain ⟨t, rfl, ht, HR⟩ := hrel;obtain ⟨⟨c0, c1⟩, e0, e1⟩ := HF.out wr HR.out;have z0' : w.heap.size < wr.heap.size := Nat.lt_of_lt_of_le z0 HR.out.size;have z1' : P1 < wr.heap.size := Nat.lt_of_lt_of_le z1 HR.out.size
  by_cases hlt : t < xs.length
  ·have hltI : (t : Int) < (xs.length : Int) := by omega
   have ht0 : (0 : Int) ≤ (t : Int) := by omega
   have hlt2 : t < us.length := by have := HXU.out; omega
   obtain ⟨b, off, rfl, hbl, q0, q1⟩ := R1.out t hlt;obtain ⟨b2, off2, rfl, hbl2, p0, p1⟩ := R3.out t hlt2;have HBR := hideIt (HBW.out.trans (HR.out.mono HBW.out.size));have HCC := hideIt (HA.out t hlt hlt2);have hbr : b < wr.heap.size := Nat.lt_of_lt_of_le hbl HBR.out.size;have hbr2 : b2 < wr.heap.size := Nat.lt_of_lt_of_le hbl2 HBR.out.size;have k0 := (HBR.out.cell (p := ⟨b, off + t * 2, none⟩) hbl).trans q0;have m0 := (HBR.out.cell (p := ⟨b2, off2 + t * 2, none⟩) hbl2).trans p0;have k1 := (HBR.out.cell (p := ⟨b, off + t * 2 + 1, none⟩) hbl).trans q1;have m1 := (HBR.out.cell (p := ⟨b2, off2 + t * 2 + 1, none⟩) hbl2).trans p1;clear q0 q1 p0 p1 hbl hbl2;generalize (.slice (xs[t]).fa (xs[t]).v.l.length (xs[t]).fc : Value) = x0 at *;generalize (.slice (us[t]).fa (us[t]).v.l.length (us[t]).fc : Value) = y0 at *;generalize (.int .i64 (xs[t]).v.ct : Value) = x1 at *;generalize (.int .i64 (us[t]).v.ct : Value) = y1 at *;have HFA : Hid (∀ W, Below wr.heap.size wr W → W.cell? ⟨w.heap.size, 0, none⟩ = some (.slice (some ⟨b, off, none⟩) xs.length xc) ∧ W.cell? ⟨P1, 0, none⟩ = some (.slice (some ⟨b2, off2, none⟩) xs.length uc) ∧ W.cell? ⟨b, off + t * 2, none⟩ = some x0 ∧ W.cell? ⟨b, off + t * 2 + 1, none⟩ = some x1 ∧ W.cell? ⟨b2, off2 + t * 2, none⟩ = some y0 ∧ W.cell? ⟨b2, off2 + t * 2 + 1, none⟩ = some y1) := fun W hW => ⟨(hW.cell (p := ⟨w.heap.size, 0, none⟩) z0').trans c0, (hW.cell (p := ⟨P1, 0, none⟩) z1').trans e0, (hW.cell (p := ⟨b, off + t * 2, none⟩) hbr).trans k0, (hW.cell (p := ⟨b, off + t * 2 + 1, none⟩) hbr).trans k1, (hW.cell (p := ⟨b2, off2 + t * 2, none⟩) hbr2).trans m0, (hW.cell (p := ⟨b2, off2 + t * 2 + 1, none⟩) hbr2).trans m1⟩
   have HCY : Hid (∀ W, Below wr.heap.size wr W → Calls Tryz.prog 25 #[.agg #[x0, x1], .agg #[y0, y1]] W fun e w' => e = .returned (.bool true) ∧ Hid (Below wr.heap.size wr w') ∧ (w'.cell? ⟨w.heap.size, 0, none⟩ = some (.slice (some ⟨b, off, none⟩) xs.length xc) ∧ w'.cell? ⟨P1, 0, none⟩ = some (.slice (some ⟨b2, off2, none⟩) xs.length uc) ∧ w'.cell? ⟨b, off + t * 2, none⟩ = some x0 ∧ w'.cell? ⟨b, off + t * 2 + 1, none⟩ = some x1 ∧ w'.cell? ⟨b2, off2 + t * 2, none⟩ = some y0 ∧ w'.cell? ⟨b2, off2 + t * 2 + 1, none⟩ = some y1)) := by
    intro W hW;refine (HCC.out W (below_via HBR.out hW)).mono ?_;rintro e w' ⟨rfl, hb⟩
    exact ⟨rfl, hideIt (below_via hW hb), HFA.out w' (below_via hW hb)⟩
   clear HCC HFA
   go_upto_region 6 with fail
   go_cut [6] from 32 to 42 (fun v wx => v = .bool true ∧ Hid (Below wr.heap.size wr wx))
   case first =>
    clear HA HL R1 R2 R3 R4 HF HBR HR
    go_region_held3 (fun W => W.cell? ⟨w.heap.size, 0, none⟩ = some (.slice (some ⟨b, off, none⟩) xs.length xc) ∧ W.cell? ⟨P1, 0, none⟩ = some (.slice (some ⟨b2, off2, none⟩) xs.length uc) ∧ W.cell? ⟨b, off + t * 2, none⟩ = some x0 ∧ W.cell? ⟨b, off + t * 2 + 1, none⟩ = some x1 ∧ W.cell? ⟨b2, off2 + t * 2, none⟩ = some y0 ∧ W.cell? ⟨b2, off2 + t * 2 + 1, none⟩ = some y1) (go_keep) (first | (go_at_call 25; refine (HCY.out wr.drew (Below.refl _ _).drew).mono ?_; rintro e w5 ⟨rfl, HQ, ⟨i0, i1, i2, i3, i4, i5⟩⟩))
    all_goals go_wp2_with fail
    all_goals go_meet
    all_goals exact ⟨rfl, HQ⟩
   case rest =>
   obtain ⟨rfl, HQ⟩ := hcut;have HN := hideIt (below_via HR.out HQ.out);clear HCY c0 c1 e0 e1 k0 m0 k1 m1 HBR HR;go_wp2
   go_roundw
   case rel => exact ⟨t + 1, by go_num, by omega, HN⟩
   case measure => simp [intOf]; omega
  ·have hltI : ¬ (t : Int) < (xs.length : Int) := by omega
   have HG := hideIt HR.out;clear HR ht
   go_upto_region 10 with fail
   clear c0 c1 e0 e1 hlt hltI
   go_loopw [7] (fun v wr => ∃ t : Nat, v = .int .i64 t ∧ t ≤ ys.length ∧ Hid (Below W0.heap.size W0 wr)) (fun v _ => ys.length - (intOf v).toNat)
   case atStart => exact ⟨0, rfl, Nat.zero_le _, HG⟩
   case round =>
    obtain ⟨t, rfl, ht, HR⟩ := hrel;obtain ⟨⟨c0, c1⟩, e0, e1⟩ := HF.out wr HR.out;have z0' : w.heap.size < wr.heap.size := Nat.lt_of_lt_of_le z0 HR.out.size;have z1' : P1 < wr.heap.size := Nat.lt_of_lt_of_le z1 HR.out.size
    by_cases hlt : t < ys.length
    ·have hltI : (t : Int) < (ys.length : Int) := by omega
     have ht0 : (0 : Int) ≤ (t : Int) := by omega
     have hlt2 : t < vs.length := by have := HYV.out; omega
     obtain ⟨b, off, rfl, hbl, q0, q1, q2, q3, q4⟩ := R2.out t hlt;obtain ⟨b2, off2, rfl, hbl2, p0, p1, p2, p3, p4⟩ := R4.out t hlt2;have HBR := hideIt (HBW.out.trans (HR.out.mono HBW.out.size));have HCC := hideIt (HL.out t hlt hlt2);have hbr : b < wr.heap.size := Nat.lt_of_lt_of_le hbl HBR.out.size;have hbr2 : b2 < wr.heap.size := Nat.lt_of_lt_of_le hbl2 HBR.out.size;have k0 := (HBR.out.cell (p := ⟨b, off + t * 5, none⟩) hbl).trans q0;have m0 := (HBR.out.cell (p := ⟨b2, off2 + t * 5, none⟩) hbl2).trans p0;have k1 := (HBR.out.cell (p := ⟨b, off + t * 5 + 1, none⟩) hbl).trans q1;have m1 := (HBR.out.cell (p := ⟨b2, off2 + t * 5 + 1, none⟩) hbl2).trans p1;have k2 := (HBR.out.cell (p := ⟨b, off + t * 5 + 2, none⟩) hbl).trans q2;have m2 := (HBR.out.cell (p := ⟨b2, off2 + t * 5 + 2, none⟩) hbl2).trans p2;have k3 := (HBR.out.cell (p := ⟨b, off + t * 5 + 3, none⟩) hbl).trans q3;have m3 := (HBR.out.cell (p := ⟨b2, off2 + t * 5 + 3, none⟩) hbl2).trans p3;have k4 := (HBR.out.cell (p := ⟨b, off + t * 5 + 4, none⟩) hbl).trans q4;have m4 := (HBR.out.cell (p := ⟨b2, off2 + t * 5 + 4, none⟩) hbl2).trans p4;clear q0 q1 q2 q3 q4 p0 p1 p2 p3 p4 hbl hbl2;generalize (.bool (ys[t]).v.call : Value) = x0 at *;generalize (.bool (vs[t]).v.call : Value) = y0 at *;generalize (.int .i64 (ys[t]).v.next : Value) = x1 at *;generalize (.int .i64 (vs[t]).v.next : Value) = y1 at *;generalize (.slice (ys[t]).ba (ys[t]).v.bids.length (ys[t]).bc : Value) = x2 at *;generalize (.slice (vs[t]).ba (vs[t]).v.bids.length (vs[t]).bc : Value) = y2 at *;generalize (.slice (ys[t]).aa (ys[t]).v.asks.length (ys[t]).ac : Value) = x3 at *;generalize (.slice (vs[t]).aa (vs[t]).v.asks.length (vs[t]).ac : Value) = y3 at *;generalize (.slice (ys[t]).oa (ys[t]).v.owed.length (ys[t]).oc : Value) = x4 at *;generalize (.slice (vs[t]).oa (vs[t]).v.owed.length (vs[t]).oc : Value) = y4 at *;have HFA : Hid (∀ W, Below wr.heap.size wr W → W.cell? ⟨w.heap.size, 1, none⟩ = some (.slice (some ⟨b, off, none⟩) ys.length yc) ∧ W.cell? ⟨P1, 1, none⟩ = some (.slice (some ⟨b2, off2, none⟩) ys.length zc) ∧ W.cell? ⟨b, off + t * 5, none⟩ = some x0 ∧ W.cell? ⟨b, off + t * 5 + 1, none⟩ = some x1 ∧ W.cell? ⟨b, off + t * 5 + 2, none⟩ = some x2 ∧ W.cell? ⟨b, off + t * 5 + 3, none⟩ = some x3 ∧ W.cell? ⟨b, off + t * 5 + 4, none⟩ = some x4 ∧ W.cell? ⟨b2, off2 + t * 5, none⟩ = some y0 ∧ W.cell? ⟨b2, off2 + t * 5 + 1, none⟩ = some y1 ∧ W.cell? ⟨b2, off2 + t * 5 + 2, none⟩ = some y2 ∧ W.cell? ⟨b2, off2 + t * 5 + 3, none⟩ = some y3 ∧ W.cell? ⟨b2, off2 + t * 5 + 4, none⟩ = some y4) := fun W hW => ⟨(hW.cell (p := ⟨w.heap.size, 1, none⟩) z0').trans c1, (hW.cell (p := ⟨P1, 1, none⟩) z1').trans e1, (hW.cell (p := ⟨b, off + t * 5, none⟩) hbr).trans k0, (hW.cell (p := ⟨b, off + t * 5 + 1, none⟩) hbr).trans k1, (hW.cell (p := ⟨b, off + t * 5 + 2, none⟩) hbr).trans k2, (hW.cell (p := ⟨b, off + t * 5 + 3, none⟩) hbr).trans k3, (hW.cell (p := ⟨b, off + t * 5 + 4, none⟩) hbr).trans k4, (hW.cell (p := ⟨b2, off2 + t * 5, none⟩) hbr2).trans m0, (hW.cell (p := ⟨b2, off2 + t * 5 + 1, none⟩) hbr2).trans m1, (hW.cell (p := ⟨b2, off2 + t * 5 + 2, none⟩) hbr2).trans m2, (hW.cell (p := ⟨b2, off2 + t * 5 + 3, none⟩) hbr2).trans m3, (hW.cell (p := ⟨b2, off2 + t * 5 + 4, none⟩) hbr2).trans m4⟩
     have HCY : Hid (∀ W, Below wr.heap.size wr W → Calls Tryz.prog 26 #[.agg #[x0, x1, x2, x3, x4], .agg #[y0, y1, y2, y3, y4]] W fun e w' => e = .returned (.bool true) ∧ Hid (Below wr.heap.size wr w') ∧ (w'.cell? ⟨w.heap.size, 1, none⟩ = some (.slice (some ⟨b, off, none⟩) ys.length yc) ∧ w'.cell? ⟨P1, 1, none⟩ = some (.slice (some ⟨b2, off2, none⟩) ys.length zc) ∧ w'.cell? ⟨b, off + t * 5, none⟩ = some x0 ∧ w'.cell? ⟨b, off + t * 5 + 1, none⟩ = some x1 ∧ w'.cell? ⟨b, off + t * 5 + 2, none⟩ = some x2 ∧ w'.cell? ⟨b, off + t * 5 + 3, none⟩ = some x3 ∧ w'.cell? ⟨b, off + t * 5 + 4, none⟩ = some x4 ∧ w'.cell? ⟨b2, off2 + t * 5, none⟩ = some y0 ∧ w'.cell? ⟨b2, off2 + t * 5 + 1, none⟩ = some y1 ∧ w'.cell? ⟨b2, off2 + t * 5 + 2, none⟩ = some y2 ∧ w'.cell? ⟨b2, off2 + t * 5 + 3, none⟩ = some y3 ∧ w'.cell? ⟨b2, off2 + t * 5 + 4, none⟩ = some y4)) := by
      intro W hW;refine (HCC.out W (below_via HBR.out hW)).mono ?_;rintro e w' ⟨rfl, hb⟩
      exact ⟨rfl, hideIt (below_via hW hb), HFA.out w' (below_via hW hb)⟩
     clear HCC HFA
     go_upto_region 12 with fail
     go_cut [8] from 52 to 62 (fun v wx => v = .bool true ∧ Hid (Below wr.heap.size wr wx))
     case first =>
      clear HA HL R1 R2 R3 R4 HF HBR HR
      go_region_held3 (fun W => W.cell? ⟨w.heap.size, 1, none⟩ = some (.slice (some ⟨b, off, none⟩) ys.length yc) ∧ W.cell? ⟨P1, 1, none⟩ = some (.slice (some ⟨b2, off2, none⟩) ys.length zc) ∧ W.cell? ⟨b, off + t * 5, none⟩ = some x0 ∧ W.cell? ⟨b, off + t * 5 + 1, none⟩ = some x1 ∧ W.cell? ⟨b, off + t * 5 + 2, none⟩ = some x2 ∧ W.cell? ⟨b, off + t * 5 + 3, none⟩ = some x3 ∧ W.cell? ⟨b, off + t * 5 + 4, none⟩ = some x4 ∧ W.cell? ⟨b2, off2 + t * 5, none⟩ = some y0 ∧ W.cell? ⟨b2, off2 + t * 5 + 1, none⟩ = some y1 ∧ W.cell? ⟨b2, off2 + t * 5 + 2, none⟩ = some y2 ∧ W.cell? ⟨b2, off2 + t * 5 + 3, none⟩ = some y3 ∧ W.cell? ⟨b2, off2 + t * 5 + 4, none⟩ = some y4) (go_keep) (first | (go_at_call 26; refine (HCY.out wr.drew (Below.refl _ _).drew).mono ?_; rintro e w5 ⟨rfl, HQ, ⟨i0, i1, i2, i3, i4, i5, i6, i7, i8, i9, i10, i11⟩⟩))
      all_goals go_wp2_with fail
      all_goals go_meet
      all_goals exact ⟨rfl, HQ⟩
     case rest =>
     obtain ⟨rfl, HQ⟩ := hcut;have HN := hideIt (below_via HR.out HQ.out);clear HCY c0 c1 e0 e1 k0 m0 k1 m1 k2 m2 k3 m3 k4 m4 HBR HR;go_wp2
     go_roundw
     case rel => exact ⟨t + 1, by go_num, by omega, HN⟩
     case measure => simp [intOf]; omega
    ·have hltI : ¬ (t : Int) < (ys.length : Int) := by omega
     have HE := hideIt (below_via HBW.out HR.out);go_wp2;go_ret
     exact ⟨rfl, HE.out⟩
structure AB (B Q : Nat) (A : AnsV) (f : Option Addr) (fc : Nat) (g : Option Addr) (gc : Nat) (W : World) : Prop where
 box : W.heap[Q]? = some (.cells (ansC A f fc g gc) 36 (0, 0))
 am : W.ownsRow B 53 2 (.slice f A.am.length fc) A.am.length (celC amtE A.am)
 fl : W.ownsRow B 106 4 (.slice g A.fl.length gc) A.fl.length (celC filE A.fl)
 sa : A.am.length * 16 ≤ 140737488355328
 sf : A.fl.length * 32 ≤ 140737488355328
theorem AB.keep {B Q : Nat} {A : AnsV} {f g : Option Addr} {fc gc : Nat} {W W' : World} (h : AB B Q A f fc g gc W) (hb : Below W.heap.size W W') : AB B Q A f fc g gc W' := ⟨blkK h.box hb, own_keep h.am hb, own_keep h.fl hb, h.sa, h.sf⟩
theorem AB.set {B Q K j : Nat} {A : AnsV} {f g : Option Addr} {fc gc : Nat} {W : World} {cs : Array Value} {u : Value} (h : AB B Q A f fc g gc W) (hd : W.heap[K]? = some (.cells cs 30 (0, 0))) : AB B Q A f fc g gc (W.setCell ⟨K, j, none⟩ u) :=
 ⟨setOther _ h.box (ty_ne h.box hd (by decide)), own_cell h.am hd (by decide), own_cell h.fl hd (by decide), h.sa, h.sf⟩
theorem AB.amts {B Q : Nat} {A : AnsV} {f g : Option Addr} {fc gc : Nat} {W : World} (h : AB B Q A f fc g gc W) : Amts W (.slice f A.am.length fc) A.am := own_sgot (bytes := 16) h.am h.sa
theorem MB.set {B K K2 j : Nat} {M : MdlV} {a : Option Addr} {c : Nat} {b : Option Addr} {d : Nat} {W : World} {cs : Array Value} {u : Value} (h : MB B K M a c b d W) (hd : W.heap[K2]? = some (.cells cs 30 (0, 0))) (hne : K ≠ K2) : MB B K M a c b d (W.setCell ⟨K2, j, none⟩ u) :=
 ⟨setOther _ h.box hne, h.md.set hd (by decide) (by decide) (by decide) (by decide) (by decide)⟩
def CtB (c : Int) (l : List AccV) : Prop := ∀ A ∈ l, A.ct ≤ c
theorem CtB.mono {c d : Int} {l : List AccV} (h : CtB c l) (hc : c ≤ d) : CtB d l := fun A hA => Int.le_trans (h A hA) hc
theorem CtB.set {c : Int} {l : List AccV} (h : CtB c l) {A : AccV} (hA : A.ct ≤ c) (i : Nat) : CtB c (l.set i A) := by
 intro x hx
 rcases List.mem_or_eq_of_mem_set hx with hx | rfl
 ·exact h x hx
 ·exact hA
theorem CtB.at_ {c : Int} {S : StV} (h : CtB c S.a) (hc : 0 ≤ c) (i : Nat) : (accD S i).ct ≤ c := by
 unfold accD;rw [List.getD_eq_getElem?_getD]
 rcases Nat.lt_or_ge i S.a.length with hi | hi
 ·rw [List.getElem?_eq_getElem hi];exact h _ (List.getElem_mem hi)
 ·rw [List.getElem?_eq_none hi];exact hc
theorem cred_ct {A : AccV} {a n c : Int} (hc : 0 ≤ c) (h : A.ct ≤ c) : (Lg.credL A a n).1.ct ≤ c + 1 := by
 by_cases h2 : (Lg.credL A a n).2 = 0
 ·rw [(Lg.cred_ok h2).2.2.2]
  show A.ct + 1 ≤ c + 1
  omega
 ·rw [Lg.cred_zero h2]
  show (0 : Int) ≤ c + 1
  omega
theorem deb_ct {A : AccV} {a n c : Int} (hc : 0 ≤ c) (h : A.ct ≤ c) : (Lg.debL A a n).1.ct ≤ c + 1 := by
 by_cases h2 : (Lg.debL A a n).2 = 0
 ·rw [(Lg.deb_ok h2).2.2.2]
  show A.ct + 1 ≤ c + 1
  omega
 ·rw [Lg.deb_zero h2]
  show (0 : Int) ≤ c + 1
  omega
theorem payF_ct : ∀ (l : List AmtV) (A : AccV) (c : Int), 0 ≤ c → A.ct ≤ c → (payF l A).1.ct ≤ c + l.length
 | [], A, c, _, h => by
  unfold payF
  simpa using h
 | e :: l, A, c, hc, h => by
  unfold payF;have h1 := cred_ct (a := e.k) (n := e.n) hc h
  split
  ·have := payF_ct l _ (c + 1) (by omega) h1;rw [List.length_cons];omega
  ·show A.ct ≤ _
   rw [List.length_cons];omega
theorem stAcc_ct {r : ReqV} {i : Nat} {S : StV} {c : Int} (hc : 0 ≤ c) (h : CtB c S.a) : CtB (c + 4) (stAcc r i S).1.a := by
 have ha := h.at_ hc i;have hm := h.mono (d := c + 4) (by omega);unfold stAcc
 by_cases h1 : r.kind = 1
 ·rw [if_pos h1];exact hm.set (by have := cred_ct (a := r.asset) (n := r.n) hc ha; omega) i
 ·rw [if_neg h1]
  by_cases h3 : r.kind = 3
  ·rw [if_pos h3];exact hm.set (by have := deb_ct (a := brA_ r) (n := brN_ r) hc ha; omega) i
  ·rw [if_neg h3]
   by_cases h2 : r.kind = 2
   ·rw [if_pos h2];exact hm.set (by have := deb_ct (a := r.asset) (n := r.n) hc ha; omega) i
   ·rw [if_neg h2]
    by_cases h7 : r.kind = 7
    ·rw [if_pos h7]
     split
     ·exact hm
     ·exact hm.set (by
       have := payF_ct (Lg.pre S.s 4) _ c hc ha;have hl := Lg.pre_len S.s 4
       omega) i
    ·rw [if_neg h7]
     split <;> exact hm
theorem stAt_ct {r : ReqV} {k : Int × Int} {S : StV} {c : Int} (hc : 0 ≤ c) (h : CtB c S.a) : CtB (c + 4) (stAt r k S).1.a := by
 unfold stAt
 split
 ·exact h.mono (by omega)
 ·split
  ·exact stAcc_ct hc h
  ·rw [stLan_a];exact h.mono (by omega)
theorem runT_ct {r : ReqV} : ∀ (ks : List (Int × Int)) (S : StV) (c : Int), 0 ≤ c → CtB c S.a → CtB (c + 4 * ks.length) (runT r ks S).1.a
 | [], S, c, _, h => by
  unfold runT;exact h.mono (by simp)
 | k :: ks, S, c, hc, h => by
  unfold runT;have h1 := stAt_ct (r := r) (k := k) hc h
  split
  ·have := runT_ct (r := r) ks _ (c + 4) (by omega) h1;exact this.mono (by rw [List.length_cons]; omega)
  ·exact h1.mono (by rw [List.length_cons]; omega)
theorem doM_ct {M : MdlV} {r : ReqV} {c : Int} (hc : 0 ≤ c) (h : CtB c M.a) : CtB (c + 16) (doM M r).1.a := by
 have hl := tur_len r;unfold doM
 split
 ·split
  ·have := runT_ct (r := r) (turL r) (st0 M) c hc h;exact this.mono (by omega)
  ·exact h.mono (by omega)
 ·exact h.mono (by omega)
theorem do_acc {M : MdlV} {r : ReqV} (hm : mayM M = true) (hf : Se.fitsB r = true) (hk : r.kind = 1 ∨ r.kind = 2) : doM M r = if (stAcc r (r.acct - 1).toNat (st0 M)).2 = 0 then (⟨(stAcc r (r.acct - 1).toNat (st0 M)).1.a, M.l⟩, ⟨0, 0, [], []⟩) else (M, ⟨6, 0, [], []⟩) := by
 have hkeys : turL r = [((1 : Int), r.acct)] := by
  unfold turL;rw [if_neg (by omega)];unfold Se.keysB;rw [if_pos hf]
  rcases hk with e | e <;> rw [e] <;> rfl
 have hst : stAt r (1, r.acct) (st0 M) = stAcc r (r.acct - 1).toNat (st0 M) := by
  unfold stAt;rw [if_neg (by omega), if_pos rfl]
 have hl : (stAcc r (r.acct - 1).toNat (st0 M)).1 = {st0 M with a := (stAcc r (r.acct - 1).toNat (st0 M)).1.a} := by
  unfold stAcc
  rcases hk with e | e
  ·simp only [e, if_true]
  ·rw [if_neg (by omega), if_neg (by omega), if_pos e]
 unfold doM;rw [hm, hf, hkeys];simp only [Bool.and_self, if_true, runT, hst]
 by_cases h0 : (stAcc r (r.acct - 1).toNat (st0 M)).2 = 0
 ·rw [if_pos h0, if_pos h0];simp only [if_true];rw [hl]
  rfl
 ·rw [if_neg h0, if_neg h0, if_neg h0]
def lanH (q : Nat) (L : LaneV) (a : Int) : Int := (if a = 0 then holM L else 0) + (if a = (q : Int) then holG L else 0)
def lanS : List LaneV → Nat → Int → Int
 | [], _, _ => 0
 | L :: l, q, a => lanH q L a + lanS l (q + 1) a
def totM (M : MdlV) (a : Int) : Int := Lg.sumA M.a a + lanS M.l 1 a
theorem lanS_set : ∀ (l : List LaneV) (i q : Nat) (L : LaneV) (a : Int), i < l.length → lanS (l.set i L) q a = lanS l q a - lanH (q + i) (l.getD i zLane) a + lanH (q + i) L a
 | [], i, _, _, _, h => absurd h (by simp)
 | K :: l, 0, q, L, a, _ => by
  simp only [List.set_cons_zero, lanS, List.getD_cons_zero, Nat.add_zero];omega
 | K :: l, i + 1, q, L, a, h => by
  have ih := lanS_set l i (q + 1) L a (by simpa using h);simp only [List.set_cons_succ, lanS, List.getD_cons_succ, ih, (by omega : q + (i + 1) = q + 1 + i)];omega
theorem accS_set : ∀ (l : List AccV) (i : Nat) (A : AccV) (a : Int), i < l.length → Lg.sumA (l.set i A) a = Lg.sumA l a - Lg.balL (l.getD i Lg.zA).l a + Lg.balL A.l a
 | [], i, _, _, h => absurd h (by simp)
 | K :: l, 0, A, a, _ => by
  simp only [List.set_cons_zero, Lg.sumA, List.getD_cons_zero];omega
 | K :: l, i + 1, A, a, h => by
  have ih := accS_set l i A a (by simpa using h);simp only [List.set_cons_succ, Lg.sumA, List.getD_cons_succ, ih];omega
theorem lanH_pos {q : Nat} {L : LaneV} {a : Int} (h : chkB L = true) : 0 ≤ lanH q L a := by
 have := hol_bd h;unfold lanH
 split <;> split <;> omega
theorem lanS_pos : ∀ (l : List LaneV) (q : Nat) (a : Int), (∀ x ∈ l, chkB x = true) → 0 ≤ lanS l q a
 | [], _, _, _ => Int.le_refl _
 | L :: l, q, a, h => by
  have h1 := lanH_pos (q := q) (a := a) (h L (by simp));have h2 := lanS_pos l (q + 1) a (fun x hx => h x (List.mem_cons_of_mem _ hx));unfold lanS;omega
theorem lanS_at : ∀ (l : List LaneV) (i q : Nat) (a : Int), i < l.length → (∀ x ∈ l, chkB x = true) → lanH (q + i) (l.getD i zLane) a ≤ lanS l q a
 | [], i, _, _, h, _ => absurd h (by simp)
 | L :: l, 0, q, a, _, h => by
  have h2 := lanS_pos l (q + 1) a (fun x hx => h x (List.mem_cons_of_mem _ hx));simp only [lanS, List.getD_cons_zero, Nat.add_zero];omega
 | L :: l, i + 1, q, a, hi, h => by
  have h1 := lanH_pos (q := q) (a := a) (h L (by simp));have ih := lanS_at l i (q + 1) a (by simpa using hi) (fun x hx => h x (List.mem_cons_of_mem _ hx));simp only [lanS, List.getD_cons_succ, (by omega : q + (i + 1) = q + 1 + i)];omega
theorem accS_pos (l : List AccV) (a : Int) (h : ∀ x ∈ l, Lg.accB x = true) : 0 ≤ Lg.sumA l a := (Lg.sumA_in l a (List.all_eq_true.2 h)).1
theorem accS_at : ∀ (l : List AccV) (i : Nat) (a : Int), i < l.length → (∀ x ∈ l, Lg.accB x = true) → Lg.balL (l.getD i Lg.zA).l a ≤ Lg.sumA l a
 | [], i, _, h, _ => absurd h (by simp)
 | L :: l, 0, a, _, h => by
  have h2 := accS_pos l a (fun x hx => h x (List.mem_cons_of_mem _ hx));simp only [Lg.sumA, List.getD_cons_zero];omega
 | L :: l, i + 1, a, hi, h => by
  have h1 := (Lg.bal_in L.l _ a (Lg.accB_in (h L (by simp))).1).1;have ih := accS_at l i a (by simpa using hi) (fun x hx => h x (List.mem_cons_of_mem _ hx));simp only [Lg.sumA, List.getD_cons_succ];omega
structure Inv (c : Int) (M : MdlV) : Prop where
 may : mayM M = true
 tot : ∀ a, 0 ≤ a ∧ a ≤ 3 → 0 ≤ totM M a ∧ totM M a ≤ c
 ct : CtB c M.a
theorem Inv.acc {c : Int} {M : MdlV} (h : Inv c M) {i : Nat} (hi : i < 8) {a : Int} (ha : 0 ≤ a ∧ a ≤ 3) : 0 ≤ Lg.balL (M.a.getD i Lg.zA).l a ∧ Lg.balL (M.a.getD i Lg.zA).l a ≤ c := by
 obtain ⟨h8, h3, hA, hL⟩ := may_in h.may;have h1 := accS_at M.a i a (by omega) hA;have h2 := lanS_pos M.l 1 a hL;have h4 := h.tot a ha;have hm : M.a.getD i Lg.zA ∈ M.a := accD_mem (S := st0 M) (show i < M.a.length by omega);have h5 := Lg.bal_in _ _ a (Lg.accB_in (hA _ hm)).1;unfold totM at h4;omega
theorem Inv.lan {c : Int} {M : MdlV} (h : Inv c M) {i : Nat} (hi : i < 3) : chkB (M.l.getD i zLane) = true ∧ (0 ≤ holM (M.l.getD i zLane) ∧ holM (M.l.getD i zLane) ≤ c) ∧ (0 ≤ holG (M.l.getD i zLane) ∧ holG (M.l.getD i zLane) ≤ c) := by
 obtain ⟨h8, h3, hA, hL⟩ := may_in h.may;have hm : M.l.getD i zLane ∈ M.l := lanD_mem (S := st0 M) (show i < M.l.length by omega);have hk := hL _ hm;have hb := hol_bd hk;have m1 := lanS_at M.l i 1 0 (by omega) hL;have m2 := lanS_at M.l i 1 ((1 + i : Nat) : Int) (by omega) hL;have p1 := accS_pos M.a 0 hA;have p2 := accS_pos M.a ((1 + i : Nat) : Int) hA;have t1 := h.tot 0 (by omega);have t2 := h.tot ((1 + i : Nat) : Int) (by omega);unfold totM at t1 t2;unfold lanH at m1 m2;rw [if_pos rfl, if_neg (by omega)] at m1;rw [if_neg (by omega), if_pos rfl] at m2
 exact ⟨hk, ⟨hb.1.1, by omega⟩, hb.2.1, by omega⟩
theorem tot_new (a : Int) : totM newM a = 0 := by
 have h : holM newL = 0 ∧ holG newL = 0 := ⟨rfl, rfl⟩;have e : totM newM a = 0 + (0 + (0 + (0 + (0 + (0 + (0 + (0 + 0))))))) + (lanH 1 newL a + (lanH 2 newL a + (lanH 3 newL a + 0))) := rfl;rw [e];unfold lanH;rw [h.1, h.2]
 repeat' split
 all_goals rfl
theorem cred_acc {A : AccV} {a n : Int} (h : (Lg.credL A a n).2 = 0) : Lg.accB (Lg.credL A a n).1 = true ∧ (∀ b, 0 ≤ b ∧ b ≤ 3 → Lg.balL (Lg.credL A a n).1.l b = Lg.balL A.l b + if b = a then n else 0) ∧ (Lg.credL A a n).1.ct = A.ct + 1 := by
 obtain ⟨hr, hb, hc, he⟩ := Lg.cred_ok h;obtain ⟨hA, ha, hn⟩ := Lg.refI_in hr;have hi := Lg.accB_in hA;have hbi := Lg.bal_in A.l _ a hi.1;rw [he];refine ⟨Lg.accB_mk (Lg.more_ok hi.1 ⟨by omega, hb⟩) ⟨by simp only; omega, by simp only; omega⟩, fun b hbb => Lg.more_at hi.1 ⟨by omega, hb⟩ b hbb, rfl⟩
theorem deb_acc {A : AccV} {a n : Int} (h : (Lg.debL A a n).2 = 0) : Lg.accB (Lg.debL A a n).1 = true ∧ (∀ b, 0 ≤ b ∧ b ≤ 3 → Lg.balL (Lg.debL A a n).1.l b = Lg.balL A.l b - if b = a then n else 0) ∧ (Lg.debL A a n).1.ct = A.ct + 1 := by
 obtain ⟨hr, hb, hc, he⟩ := Lg.deb_ok h;obtain ⟨hA, ha, hn⟩ := Lg.refI_in hr;have hi := Lg.accB_in hA;have hbi := Lg.bal_in A.l _ a hi.1;rw [he];refine ⟨Lg.accB_mk (Lg.more_ok hi.1 ⟨by omega, by omega⟩) ⟨by simp only; omega, by simp only; omega⟩, fun b hbb => ?_, rfl⟩
 rw [show Lg.balL (Lg.pre (Lg.moreS A.l a (-n)) 4) b = _ from Lg.more_at hi.1 ⟨by omega, by omega⟩ b hbb]
 split <;> omega
theorem payF_ok : ∀ (l : List AmtV) (A : AccV), Lg.accB A = true → (payF l A).2 = 0 → Lg.accB (payF l A).1 = true ∧ (∀ b, 0 ≤ b ∧ b ≤ 3 → Lg.balL (payF l A).1.l b = Lg.balL A.l b + Lg.sumL l b) ∧ (payF l A).1.ct = A.ct + l.length
 | [], A, hA, _ => ⟨hA, fun b _ => by simp [payF, Lg.sumL], by simp [payF]⟩
 | e :: l, A, hA, h => by
  unfold payF at h ⊢
  by_cases h0 : (Lg.credL A e.k e.n).2 = 0
  ·rw [if_pos h0] at h ⊢;obtain ⟨k1, k2, k3⟩ := cred_acc h0;obtain ⟨i1, i2, i3⟩ := payF_ok l _ k1 h;refine ⟨i1, fun b hb => ?_, ?_⟩
   ·rw [i2 b hb, k2 b hb];simp only [Lg.sumL]
    by_cases c : b = e.k
    ·rw [if_pos c, if_pos c.symm]; omega
    ·rw [if_neg c, if_neg (fun d => c d.symm)]; omega
   ·rw [i3, k3, List.length_cons];omega
  ·rw [if_neg h0] at h;exact absurd h h0
theorem sumL_pos (l : List AmtV) (a : Int) (h : ∀ e ∈ l, 1 ≤ e.n) : 0 ≤ Lg.sumL l a := Lg.sum_pos l a h
theorem payF_do : ∀ (l : List AmtV) (A : AccV), Lg.accB A = true → (∀ e ∈ l, (0 ≤ e.k ∧ e.k ≤ 3) ∧ 1 ≤ e.n ∧ e.n ≤ 9007199254740992) → (∀ b, 0 ≤ b ∧ b ≤ 3 → Lg.balL A.l b + Lg.sumL l b ≤ 9007199254740992) → A.ct + l.length ≤ 1000000000 → (payF l A).2 = 0
 | [], _, _, _, _, _ => rfl
 | e :: l, A, hA, he, hb, hc => by
  have h1 := he e (by simp);have hl : ∀ x ∈ l, 1 ≤ x.n := fun x hx => (he x (List.mem_cons_of_mem _ hx)).2.1
  have hs := sumL_pos l e.k hl;have hbe := hb e.k h1.1;simp only [Lg.sumL, if_true] at hbe;rw [List.length_cons] at hc;have h0 : (Lg.credL A e.k e.n).2 = 0 := by
   unfold Lg.credL;rw [if_pos (Lg.refI_mk hA h1.1 h1.2), if_neg (by omega)]
  obtain ⟨k1, k2, k3⟩ := cred_acc h0;unfold payF;rw [if_pos h0];refine payF_do l _ k1 (fun x hx => he x (List.mem_cons_of_mem _ hx)) (fun b hbb => ?_) (by omega);have := hb b hbb;simp only [Lg.sumL] at this;rw [k2 b hbb]
  by_cases c : b = e.k
  ·rw [if_pos c]; rw [if_pos c.symm] at this; omega
  ·rw [if_neg c]; rw [if_neg (fun d => c d.symm)] at this; omega
theorem assQ0 {q : Int} {e : AmV} (h : e.asset = 0) : assQ q e = 0 := by
 unfold assQ;rw [h]
 rfl
theorem assQ1 {q : Nat} {e : AmV} (h : e.asset = 1) : assQ (q : Int) e = q := by
 unfold assQ;rw [if_pos h];exact Int.toNat_natCast q
def amS (q : Nat) : List AmV → Nat → Int
 | [], _ => 0
 | e :: l, k => (if assQ (q : Int) e = k then e.n else 0) + amS q l k
theorem wr_id {x : Int} (h : -9223372036854775808 ≤ x ∧ x ≤ 9223372036854775807) : wr64 x = x := by
 unfold wr64 RowKit.wrap64;omega
theorem amS_pos (q : Nat) : ∀ (l : List AmV) (k : Nat), (∀ e ∈ l, 1 ≤ e.n) → 0 ≤ amS q l k
 | [], _, _ => Int.le_refl _
 | e :: l, k, h => by
  have h1 := h e (by simp);have h2 := amS_pos q l k (fun x hx => h x (List.mem_cons_of_mem _ hx));unfold amS
  split <;> omega
theorem addT_is (q : Nat) (c : Int) (hc : c ≤ 9223372036854775807) : ∀ (l : List AmV) (s : Nat → Int), (∀ e ∈ l, 1 ≤ e.n) → (∀ k, 0 ≤ s k ∧ s k + amS q l k ≤ c) → ∀ k, addT q l s k = s k + amS q l k
 | [], s, _, _, k => by simp [addT, amS]
 | e :: l, s, he, h, k => by
  have h1 := he e (by simp);have hl : ∀ x ∈ l, 1 ≤ x.n := fun x hx => he x (List.mem_cons_of_mem _ hx)
  have hk := h (assQ q e);have hp := amS_pos q l (assQ q e) hl;simp only [amS, if_true] at hk;unfold addT;have hw : wr64 (s (assQ q e) + e.n) = s (assQ q e) + e.n := wr_id (by omega);rw [hw];have hu : ∀ j, Lg.upS s (assQ q e) (s (assQ q e) + e.n) j = s j + if assQ q e = j then e.n else 0 := by
   intro j;unfold Lg.upS
   by_cases d : j = assQ q e
   ·rw [if_pos d, if_pos d.symm, d]
   ·rw [if_neg d, if_neg (fun x => d x.symm)]; omega
  rw [addT_is q c hc l _ hl (fun j => by
   have := h j;simp only [amS] at this;rw [hu j]
   split at this <;> split <;> omega) k, hu k]
  simp only [amS];omega
theorem tak_sum (q : Nat) (hq : 1 ≤ q) (acc : Int) : ∀ (l : List OweV) (k : Nat), (∀ y ∈ l, y.asset = 0 ∨ y.asset = 1) → amS q (takA acc l) k = (if k = 0 then sumA 0 l - sumA 0 (lefA acc l) else 0) + (if k = q then sumA 1 l - sumA 1 (lefA acc l) else 0)
 | [], k, _ => by simp [takA, lefA, amS, sumA]
 | y :: l, k, h => by
  have ih := tak_sum q hq acc l k (fun x hx => h x (List.mem_cons_of_mem _ hx));have hy := h y (by simp)
  by_cases c : y.acc = acc
  ·have e1 : takA acc (y :: l) = ⟨y.asset, y.n⟩ :: takA acc l := by
    unfold takA;rw [List.filter_cons_of_pos (by simpa using c), List.map_cons]
   have e2 : lefA acc (y :: l) = lefA acc l := by
    unfold lefA;rw [List.filter_cons_of_neg (by simpa using c)]
   rw [e1, e2];simp only [amS, ih, assQ, sumA, List.map_cons, List.sum_cons]
   rcases hy with hy | hy
   ·rw [hy];simp only [if_true, show ¬ (0 : Int) = 1 by decide, if_false, Int.toNat_zero]
    by_cases d : k = 0
    ·subst d;simp only [if_true, show ¬ (0 : Nat) = q by omega, if_false];omega
    ·rw [if_neg (fun x => d x.symm), if_neg d, if_neg d]
     by_cases f : k = q
     ·rw [if_pos f, if_pos f]; omega
     ·rw [if_neg f, if_neg f]; omega
   ·rw [hy];simp only [if_true, show ¬ (1 : Int) = 0 by decide, if_false, Int.toNat_natCast]
    by_cases d : k = 0
    ·subst d;simp only [if_true, show ¬ (0 : Nat) = q by omega, show ¬ q = (0 : Nat) by omega, if_false];omega
    ·rw [if_neg d, if_neg d]
     by_cases f : k = q
     ·rw [if_pos f, if_pos f, if_pos f.symm]; omega
     ·rw [if_neg f, if_neg f, if_neg (fun x => f x.symm)]; omega
  ·have e1 : takA acc (y :: l) = takA acc l := by
    unfold takA;rw [List.filter_cons_of_neg (by simpa using c)]
   have e2 : lefA acc (y :: l) = y :: lefA acc l := by
    unfold lefA;rw [List.filter_cons_of_pos (by simpa using c)]
   rw [e1, e2, ih];simp only [sumA, List.map_cons, List.sum_cons]
   split <;> split <;> omega
def lefL (acc : Int) (L : LaneV) : LaneV := ⟨L.call, L.next, L.bids, L.asks, lefA acc L.owed⟩
def tkS (q : Nat) (acc : Int) (L : LaneV) (k : Nat) : Int := amS q (takA acc L.owed) k
theorem owe_mem {L : LaneV} (h : chkB L = true) : ∀ y ∈ L.owed, (1 ≤ y.acc ∧ y.acc ≤ 8) ∧ (y.asset = 0 ∨ y.asset = 1) ∧ 1 ≤ y.n ∧ y.n ≤ 9007199254740992 := by
 intro o ho;have hb := ((chk_bok _).1 h).ow;unfold owedB at hb;simp only [Bool.and_eq_true, Bool.not_eq_true', List.any_eq_false] at hb;have h2 := hb.1 o ho;unfold stoB at h2;simp only [Bool.or_eq_true, not_or, Bool.not_eq_true', Bool.not_eq_false] at h2;have h3 := wiB_in h2.1.2;have h4 := wiB_in h2.2;have h5 := wiB_in h2.1.1;omega
theorem tks_hold {q : Nat} (hq : 1 ≤ q) {acc : Int} {L : LaneV} (h : chkB L = true) (k : Nat) : lanH q (lefL acc L) k + tkS q acc L k = lanH q L k := by
 have := tak_sum q hq acc L.owed k (fun y hy => (owe_mem h y hy).2.1);have e0 : ((k : Int) = 0) ↔ k = 0 := by omega
 have e1 : ((k : Int) = (q : Int)) ↔ k = q := by omega
 unfold tkS lanH lefL holM holG;rw [this];simp only [e0, e1]
 by_cases d : k = 0
 ·by_cases f : k = q
  ·omega
  ·simp only [if_pos d, if_neg f]; omega
 ·by_cases f : k = q
  ·simp only [if_neg d, if_pos f]; omega
  ·simp only [if_neg d, if_neg f]; omega
theorem tks_pos {q : Nat} {acc : Int} {L : LaneV} (h : chkB L = true) (k : Nat) : 0 ≤ tkS q acc L k := amS_pos q _ k (fun e he => (tak_mem h e he).2.1)
theorem tak_le {q : Nat} (hq : 1 ≤ q) {c : Int} : ∀ (l : List AmV), (∀ e ∈ l, (e.asset = 0 ∨ e.asset = 1) ∧ 1 ≤ e.n) → amS q l 0 ≤ c → amS q l q ≤ c → ∀ e ∈ l, e.n ≤ c
 | [], _, _, _ => by simp
 | x :: l, h, h0, h1 => by
  have hx := h x (by simp);have hl : ∀ e ∈ l, (e.asset = 0 ∨ e.asset = 1) ∧ 1 ≤ e.n := fun e he => h e (List.mem_cons_of_mem _ he)
  have p0 := amS_pos q l 0 (fun e he => (hl e he).2);have p1 := amS_pos q l q (fun e he => (hl e he).2);simp only [amS] at h0 h1;intro e he;have hsub : amS q l 0 ≤ c ∧ amS q l q ≤ c ∧ x.n ≤ c := by
   rcases hx.1 with hy | hy
   ·rw [assQ0 hy] at h0 h1;rw [if_pos rfl] at h0;rw [if_neg (by omega)] at h1;omega
   ·rw [assQ1 hy] at h0 h1;rw [if_pos rfl] at h1;rw [if_neg (by omega)] at h0;omega
  rcases List.mem_cons.1 he with rfl | he
  ·exact hsub.2.2
  ·exact tak_le hq l hl hsub.1 hsub.2.1 e he
theorem lef_chk {acc : Int} {L : LaneV} (h : chkB L = true) : chkB (lefL acc L) = true := left_chk h
def netS (M : MdlV) (acc : Int) (k : Nat) : Int := tkS 1 acc (M.l.getD 0 zLane) k + tkS 2 acc (M.l.getD 1 zLane) k + tkS 3 acc (M.l.getD 2 zLane) k
def netM (M : MdlV) (acc : Int) : MdlV := ⟨M.a.set (acc - 1).toNat (payF (Lg.pre (netS M acc) 4) (M.a.getD (acc - 1).toNat Lg.zA)).1, [lefL acc (M.l.getD 0 zLane), lefL acc (M.l.getD 1 zLane), lefL acc (M.l.getD 2 zLane)]⟩
theorem three {α : Type} {l : List α} (h : l.length = 3) (d : α) : l = [l.getD 0 d, l.getD 1 d, l.getD 2 d] := by
 match l, h with
 | [a, b, c], _ => rfl
theorem above_no {α : Type} {f : α → Int} {l : List α} {m : Int} (h : ∀ e ∈ l, f e ≤ m) : aboveB f l m = false := by
 unfold aboveB;rw [List.any_eq_false];intro e he;have := h e he;simp only [decide_eq_true_eq];omega
theorem bal_mem : ∀ (l : List AmtV) (x : Int), Lg.amtsB l x = true → ∀ e ∈ l, Lg.balL l e.k = e.n
 | [], _, _ => by simp
 | c :: l, x, h => by
  intro e he;have hm := Lg.amts_mem (c :: l) x h
  rcases List.mem_cons.1 he with rfl | he
  ·simp [Lg.balL]
  ·have h2 : Lg.amtsB l c.k = true := by
    unfold Lg.amtsB at h;simp only [Bool.and_eq_true] at h;exact h.2
   have h3 := Lg.amts_mem l c.k h2 e he;have ih := bal_mem l c.k h2 e he;unfold Lg.balL;rw [if_neg (by omega)];exact ih
theorem st_net {r : ReqV} (hk : r.kind = 7) {S : StV} {i q : Nat} {c : Int} (hq : 1 ≤ q) (hc : c ≤ 1000000000) (hw : 1 ≤ r.acct ∧ r.acct ≤ 8) (hi : chkB (lanD S i) = true) (hm : holM (lanD S i) ≤ c) (hg : holG (lanD S i) ≤ c) (hs : ∀ k, 0 ≤ S.s k ∧ S.s k ≤ 2000000000) : ∃ s', (∀ k, s' k = S.s k + tkS q r.acct (lanD S i) k) ∧ stLan r i q S = ({S with l := S.l.set i (lefL r.acct (lanD S i)), s := s'}, 0) := by
 have hmem := tak_mem (acc := r.acct) hi;have hh := fun k => tks_hold hq (acc := r.acct) hi k
 have hl := hol_bd (lef_chk (acc := r.acct) hi);have h0 := hh 0;have h1 := hh q;unfold lanH at h0 h1;have z0 : ((0 : Nat) : Int) = 0 := rfl;have z1 : ¬ ((0 : Int) = (q : Int)) := by omega
 have z2 : ¬ ((q : Int) = 0) := by omega
 have hp0 := hol_bd hi;simp only [z0, z1, z2, if_true, if_false] at h0 h1;have hle := tak_le hq (c := c) (takA r.acct (lanD S i).owed) (fun e he => ⟨(hmem e he).1, (hmem e he).2.1⟩) (by unfold tkS at h0; omega) (by unfold tkS at h1; omega)
 have hbnd : ∀ k, tkS q r.acct (lanD S i) k ≤ c := by
  intro k;have h2 := hh k;have hp := lanH_pos (q := q) (a := k) (lef_chk (acc := r.acct) hi);unfold lanH at h2 hp
  split at h2 <;> split at h2 <;> omega
 have htk : takR (lanD S i) r.acct = (lefL r.acct (lanD S i), takA r.acct (lanD S i).owed, 0) := by
  unfold takR;rw [if_neg (by rw [hi]; decide), if_neg (by unfold wiB; rw [decide_eq_true hw]; decide)]
  rfl
 refine ⟨addT q (takA r.acct (lanD S i).owed) S.s, fun k => addT_is q 9223372036854775807 (Int.le_refl _) _ _ (fun e he => (hmem e he).2.1) (fun k => by have := hbnd k; have := hs k; unfold tkS at *; omega) k, ?_⟩
 unfold stLan;rw [if_neg (by omega), if_neg (by omega), if_neg (by omega), if_neg (by omega), if_pos hk, htk]
 simp only
 rw [above_no (fun e he => by have := hle e he; omega)]
 simp
theorem do_net {c : Int} {M : MdlV} {r : ReqV} (h : Inv c M) (hc : c ≤ 900000000) (hk : r.kind = 7) (hf : Se.fitsB r = true) :
  doM M r = (netM M r.acct, ⟨0, 0, Lg.pre (netS M r.acct) 4, []⟩) ∧ (1 ≤ r.acct ∧ r.acct ≤ 8) ∧
  Lg.accB (payF (Lg.pre (netS M r.acct) 4) (M.a.getD (r.acct - 1).toNat Lg.zA)).1 = true ∧
  (∀ k : Nat, k < 4 → 0 ≤ netS M r.acct k ∧ Lg.balL (payF (Lg.pre (netS M r.acct) 4) (M.a.getD (r.acct - 1).toNat Lg.zA)).1.l k = Lg.balL (M.a.getD (r.acct - 1).toNat Lg.zA).l k + netS M r.acct k) ∧
  (∀ a, 0 ≤ a ∧ a ≤ 3 → totM (netM M r.acct) a = totM M a) ∧ mayM (netM M r.acct) = true := by
 have hw := ((Se.fitF7 hk).1 hf).1;obtain ⟨i, hi⟩ : ∃ i : Nat, (r.acct - 1).toNat = i := ⟨_, rfl⟩;have hi8 : i < 8 := by omega
 rw [hi];obtain ⟨h8, h3, hA, hL⟩ := may_in h.may;have e3 := three h3 zLane;obtain ⟨a1, b1, c1⟩ := h.lan (i := 0) (by omega);obtain ⟨a2, b2, c2⟩ := h.lan (i := 1) (by omega);obtain ⟨a3, b3, c3⟩ := h.lan (i := 2) (by omega);have hAm : M.a.getD i Lg.zA ∈ M.a := accD_mem (S := st0 M) (show i < M.a.length by omega);have hab := hA _ hAm;have hct := h.ct _ hAm;have hbal := fun a ha => h.acc (i := i) hi8 (a := a) ha
 have hN : ∀ k, netS M r.acct k = tkS 1 r.acct (M.l.getD 0 zLane) k + tkS 2 r.acct (M.l.getD 1 zLane) k + tkS 3 r.acct (M.l.getD 2 zLane) k := fun k => rfl
 have hT : ∀ a, totM M a = Lg.sumA M.a a + (lanH 1 (M.l.getD 0 zLane) a + (lanH 2 (M.l.getD 1 zLane) a + (lanH 3 (M.l.getD 2 zLane) a + 0))) := fun a => by
  unfold totM;rw [e3]
  rfl
 have hI : ∀ a, 0 ≤ a ∧ a ≤ 3 → totM M a ≤ c := fun a ha => (h.tot a ha).2
 have hAS := accS_at M.a i;have hset := fun (X : AccV) (a : Int) => accS_set M.a i X a (by omega)
 unfold netM;rw [hi];generalize hL1 : M.l.getD 0 zLane = L1 at *;generalize hL2 : M.l.getD 1 zLane = L2 at *;generalize hL3 : M.l.getD 2 zLane = L3 at *;generalize hAA : M.a.getD i Lg.zA = A at *;have s1 := fun k => tks_hold (by decide : 1 ≤ 1) (acc := r.acct) a1 k
 have s2 := fun k => tks_hold (by decide : 1 ≤ 2) (acc := r.acct) a2 k
 have s3 := fun k => tks_hold (by decide : 1 ≤ 3) (acc := r.acct) a3 k
 have p1 := fun k => tks_pos (q := 1) (acc := r.acct) a1 k
 have p2 := fun k => tks_pos (q := 2) (acc := r.acct) a2 k
 have p3 := fun k => tks_pos (q := 3) (acc := r.acct) a3 k
 have q1 := fun (k : Int) => lanH_pos (q := 1) (a := k) (lef_chk (acc := r.acct) a1)
 have q2 := fun (k : Int) => lanH_pos (q := 2) (a := k) (lef_chk (acc := r.acct) a2)
 have q3 := fun (k : Int) => lanH_pos (q := 3) (a := k) (lef_chk (acc := r.acct) a3)
 have u1 : ∀ k, tkS 1 r.acct L1 k ≤ c := by
  intro k; have x := s1 k; have y := q1 k; unfold lanH at x y; split at x <;> split at x <;> omega
 have u2 : ∀ k, tkS 2 r.acct L2 k ≤ c := by
  intro k; have x := s2 k; have y := q2 k; unfold lanH at x y; split at x <;> split at x <;> omega
 have hin : ∀ k : Nat, k < 4 → 0 ≤ netS M r.acct k ∧ netS M r.acct k + Lg.balL A.l k ≤ c := by
  intro k hk4;have x1 := s1 k; have x2 := s2 k; have x3 := s3 k
  have y1 := q1 k; have y2 := q2 k; have y3 := q3 k
  have z1 := p1 k; have z2 := p2 k; have z3 := p3 k
  have t := hT k;have t2 := hI k (by omega);have t3 := hAS k (by omega) hA;have := hN k;omega
 have hpre : ∀ k : Nat, k < 4 → 0 ≤ netS M r.acct k ∧ netS M r.acct k ≤ 9007199254740992 := fun k hk4 => by
  have := hin k hk4;have := hbal k (by omega);omega
 have hok := Lg.pre_ok hpre;have hpb : ∀ b, 0 ≤ b ∧ b ≤ 3 → Lg.sumL (Lg.pre (netS M r.acct) 4) b = netS M r.acct b.toNat := fun b hb => by
  obtain ⟨k, rfl⟩ : ∃ k : Nat, b = k := Int.eq_ofNat_of_zero_le hb.1;rw [Lg.sum_bal _ _ _ hok, Lg.pre_bal hpre k (by omega), Int.toNat_natCast]
 have hplen := Lg.pre_len (netS M r.acct) 4;have hpay : (payF (Lg.pre (netS M r.acct) 4) A).2 = 0 := by
  refine payF_do _ _ hab (fun e he => ⟨(Lg.amts_mem _ _ hok e he).2.1, (Lg.amts_mem _ _ hok e he).2.2⟩) (fun b hb => ?_) (by omega);rw [hpb b hb];have := hin b.toNat (by omega);rw [show ((b.toNat : Nat) : Int) = b by omega] at this;omega
 obtain ⟨k1, k2, k3⟩ := payF_ok _ _ hab hpay;have hbals : ∀ k : Nat, k < 4 → Lg.balL (payF (Lg.pre (netS M r.acct) 4) A).1.l k = Lg.balL A.l k + netS M r.acct k := fun k hk4 => by
  rw [k2 k (by omega), hpb k (by omega), Int.toNat_natCast]
 refine ⟨?_, hw, k1, fun k hk4 => ⟨(hin k hk4).1, hbals k hk4⟩, ?_, ?_⟩
 ·have hkeys : turL r = [(2, 1), (2, 2), (2, 3), (1, r.acct)] := by
   unfold turL;rw [if_pos hk, Se.keysK7 hk hf]
   rfl
  have g1 : lanD (st0 M) 0 = L1 := hL1;obtain ⟨f1, w1, v1⟩ := st_net hk (S := st0 M) (i := 0) (q := 1) (c := c) (by decide) (by omega) hw (by rw [g1]; exact a1) (by rw [g1]; omega) (by rw [g1]; omega) (fun k => ⟨Int.le_refl _, (by decide : (0 : Int) ≤ 2000000000)⟩)
  rw [g1] at w1 v1;have g2 : lanD {st0 M with l := (st0 M).l.set 0 (lefL r.acct L1), s := f1} 1 = L2 := by
   show ((M.l.set 0 (lefL r.acct L1)).getD 1 zLane) = L2
   rw [e3]
   rfl
  obtain ⟨f2, w2, v2⟩ := st_net hk (S := {st0 M with l := (st0 M).l.set 0 (lefL r.acct L1), s := f1}) (i := 1) (q := 2) (c := c) (by decide) (by omega) hw (by rw [g2]; exact a2) (by rw [g2]; omega) (by rw [g2]; omega) (fun k => by
   have e : f1 k = 0 + tkS 1 r.acct L1 k := w1 k;have := p1 k;have := u1 k
   show 0 ≤ f1 k ∧ f1 k ≤ 2000000000
   omega)
  rw [g2] at w2 v2;have g3 : lanD {st0 M with l := ((st0 M).l.set 0 (lefL r.acct L1)).set 1 (lefL r.acct L2), s := f2} 2 = L3 := by
   show (((M.l.set 0 (lefL r.acct L1)).set 1 (lefL r.acct L2)).getD 2 zLane) = L3
   rw [e3]
   rfl
  have e2 : ∀ k, f2 k = tkS 1 r.acct L1 k + tkS 2 r.acct L2 k := fun k => by
   have x : f2 k = f1 k + tkS 2 r.acct L2 k := w2 k;have y : f1 k = 0 + tkS 1 r.acct L1 k := w1 k;omega
  obtain ⟨f3, w3, v3⟩ := st_net hk (S := {st0 M with l := ((st0 M).l.set 0 (lefL r.acct L1)).set 1 (lefL r.acct L2), s := f2}) (i := 2) (q := 3) (c := c) (by decide) (by omega) hw (by rw [g3]; exact a3) (by rw [g3]; omega) (by rw [g3]; omega) (fun k => by
   have := p1 k;have := u1 k;have := p2 k;have := u2 k;have := e2 k
   show 0 ≤ f2 k ∧ f2 k ≤ 2000000000
   omega)
  rw [g3] at w3 v3;have ef : f3 = netS M r.acct := by
   funext k
   have x : f3 k = f2 k + tkS 3 r.acct L3 k := w3 k;rw [x, e2 k, hN k]
  subst ef;have hl3 : (((M.l.set 0 (lefL r.acct L1)).set 1 (lefL r.acct L2)).set 2 (lefL r.acct L3)) = [lefL r.acct L1, lefL r.acct L2, lefL r.acct L3] := by
   rw [e3]
   rfl
  have v4 : stAcc r i {st0 M with l := [lefL r.acct L1, lefL r.acct L2, lefL r.acct L3], s := netS M r.acct} = ({st0 M with a := M.a.set i (payF (Lg.pre (netS M r.acct) 4) A).1, l := [lefL r.acct L1, lefL r.acct L2, lefL r.acct L3], s := netS M r.acct, am := Lg.pre (netS M r.acct) 4}, 0) := by
   unfold stAcc;rw [if_neg (by omega), if_neg (by omega), if_neg (by omega), if_pos hk];have hAD : accD {st0 M with l := [lefL r.acct L1, lefL r.acct L2, lefL r.acct L3], s := netS M r.acct} i = A := hAA;rw [hAD]
   simp only
   rw [above_no (fun e he => by
    have hm := Lg.amts_mem _ _ (Lg.accB_in hab).1 e he;have := hbal e.k hm.2.1;rw [bal_mem _ _ (Lg.accB_in hab).1 e he] at this
    omega), hpay]
   rw [if_neg (by simp only [Bool.false_or, decide_eq_true_eq]; omega)]
   rfl
  unfold doM;rw [h.may, hf, hkeys];have hrun : runT r [(2, 1), (2, 2), (2, 3), (1, r.acct)] (st0 M) = ({st0 M with a := M.a.set i (payF (Lg.pre (netS M r.acct) 4) A).1, l := [lefL r.acct L1, lefL r.acct L2, lefL r.acct L3], s := netS M r.acct, am := Lg.pre (netS M r.acct) 4}, 0) := by
   have x1 : stAt r (2, 1) (st0 M) = stLan r 0 ((1 : Nat) : Int) (st0 M) := by
    unfold stAt;rw [if_neg (by omega)]
    rfl
   have x2 : stAt r (2, 2) {st0 M with l := (st0 M).l.set 0 (lefL r.acct L1), s := f1} = stLan r 1 ((2 : Nat) : Int) {st0 M with l := (st0 M).l.set 0 (lefL r.acct L1), s := f1} := by
    unfold stAt;rw [if_neg (by omega)]
    rfl
   have x3 : stAt r (2, 3) {st0 M with l := ((st0 M).l.set 0 (lefL r.acct L1)).set 1 (lefL r.acct L2), s := f2} = stLan r 2 ((3 : Nat) : Int) {st0 M with l := ((st0 M).l.set 0 (lefL r.acct L1)).set 1 (lefL r.acct L2), s := f2} := by
    unfold stAt;rw [if_neg (by omega)]
    rfl
   have x4 : stAt r (1, r.acct) {st0 M with l := [lefL r.acct L1, lefL r.acct L2, lefL r.acct L3], s := netS M r.acct} = stAcc r i {st0 M with l := [lefL r.acct L1, lefL r.acct L2, lefL r.acct L3], s := netS M r.acct} := by
    unfold stAt;rw [if_neg (by omega), if_pos rfl]
    simp only
    rw [hi]
   simp only [st0] at x1 x2 x3 x4 v1 v2 v3 v4 ⊢;rw [hl3] at v3;rw [runT_cons, x1, v1];simp only [if_true];rw [runT_cons, x2, v2];simp only [if_true];rw [runT_cons, x3, v3];simp only [if_true];rw [runT_cons, x4, v4];simp only [if_true]
   rfl
  rw [hrun]
  rfl
 ·intro a ha;obtain ⟨k, rfl⟩ : ∃ k : Nat, a = k := Int.eq_ofNat_of_zero_le ha.1;have x1 := s1 k; have x2 := s2 k; have x3 := s3 k
  rw [hT k];have e : totM ⟨M.a.set i (payF (Lg.pre (netS M r.acct) 4) A).1, [lefL r.acct L1, lefL r.acct L2, lefL r.acct L3]⟩ k = Lg.sumA (M.a.set i (payF (Lg.pre (netS M r.acct) 4) A).1) k + (lanH 1 (lefL r.acct L1) k + (lanH 2 (lefL r.acct L2) k + (lanH 3 (lefL r.acct L3) k + 0))) := rfl;rw [e, hset, hbals k (by omega), hN k];omega
 ·unfold mayM;simp only [List.length_set, List.length_cons, List.length_nil, Bool.and_eq_true, decide_eq_true_eq, List.all_eq_true];refine ⟨h8, trivial, all_set hA k1, fun x hx => ?_⟩;simp only [List.mem_cons, List.not_mem_nil, or_false] at hx
  rcases hx with rfl | rfl | rfl
  ·exact lef_chk a1
  ·exact lef_chk a2
  ·exact lef_chk a3
end Go.Proofs.YtiinigifjdpicaaGreatDoor
