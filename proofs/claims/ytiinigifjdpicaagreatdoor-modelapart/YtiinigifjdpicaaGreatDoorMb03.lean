/- Texts of my own, laid together. -/
import Derived.Test.YtiinigifjdpicaaGreatDoorMb02
import Derived.Lib.AppendZeros
import Derived.Lib.SliceRun
namespace Go.Proofs.YtiinigifjdpicaaGreatDoor.Se
open Go.RowKit
set_option linter.all false
def mwB (T : TabV) (w : HoldV) : Bool := !((hdT T.held w.1 == zT) || ((hdT T.held w.1 == w.2) || (decide (4 < (qL T.wait w.1).length) || decide (1 < (qL T.wait w.1).count w.2))))
set_option maxHeartbeats 8000000 in
set_option maxRecDepth 100000 in
theorem mayWait_is (T : TabV) (h v : Value) (w : World) (hT : Tab w T h v) : Calls Tryz.prog 166 #[.agg #[h, v]] w fun e w' => e = .returned (.bool (T.wait.all (mwB T))) ∧ Below w.heap.size w w' := by
 have HD := hideIt (fun k n W (hW : Below w.heap.size w W) => holder_is T h v k n W (hT.keep hW));have HQ := hideIt (fun k n c q W (hW : Below w.heap.size w W) => queue_is T h v k n c q W (hT.keep hW));have HZ := hideIt (fun a b W => isNobody_is a b W);obtain ⟨ha, hc, rfl⟩ := hT.held.slice;obtain ⟨a, c, rfl, h8, hr⟩ := hT.wait.hols;have HH := hideIt hr;clear hT hr;have HB0 := hideIt (below1 w (.cells #[.slice ha T.held.length hc, .slice a T.wait.length c] 125));have HX0 := hideIt (heap_alloc_new w (.cells #[.slice ha T.held.length hc, .slice a T.wait.length c] 125));generalize T.held.length = m at *;generalize hl : T.wait = l at *
 go_enter Tryz.func166, Tryz.ntmps166
 go_wp2
 go_loopw [11] (fun v wr => ∃ t : Nat, v = .int .i64 t ∧ t ≤ l.length ∧ Hid (Below w.heap.size w wr ∧ wr.heap[w.heap.size]? = some (.cells #[.slice ha m hc, .slice a l.length c] 125 (0, 0)) ∧ l.all (mwB T) = (l.drop t).all (mwB T))) (fun v _ => l.length - (intOf v).toNat)
 case atStart => exact ⟨0, rfl, Nat.zero_le _, hideIt ⟨HB0.out, HX0.out, by simp⟩⟩
 case round =>
  clear HB0 HX0;obtain ⟨t, rfl, ht, HR⟩ := hrel
  by_cases hlt : t < l.length
  ·have hltI : (t : Int) < (l.length : Int) := by omega
   have ht0 : (0 : Int) ≤ (t : Int) := by omega
   have hw : IntKind.i64.wrap ((t : Int) + 1) = ((t + 1 : Nat) : Int) := by rw [IntKind.wrap_i64]; omega
   have hB := HR.out.1;have x0 := (B1.cells HR.out.2.1).1;have x1 := (B1.cells HR.out.2.1).2;have hsz : w.heap.size < wr.heap.size := (Array.getElem?_eq_some_iff.1 HR.out.2.1).1;obtain ⟨b, off, rfl, hbl, q0, q1, q2, q3⟩ := HH.out t hlt;have hblr : b < wr.heap.size := Nat.lt_of_lt_of_le hbl hB.size;have c0 := (hB.cell (p := ⟨b, off + t * 4, none⟩) hbl).trans q0;have c1 := (hB.cell (p := ⟨b, off + t * 4 + 1, none⟩) hbl).trans q1;have c2 := (hB.cell (p := ⟨b, off + t * 4 + 2, none⟩) hbl).trans q2;have c3 := (hB.cell (p := ⟨b, off + t * 4 + 3, none⟩) hbl).trans q3;clear q0 q1 q2 q3;have HA := hideIt (HR.out.2.2.trans (all_drop hlt));have HX := hideIt ((below1 wr (.cells (holE l[t]).toArray 166)).block _ hsz |>.trans HR.out.2.1);have HB1 := hideIt (below_via hB (below1 wr (.cells (holE l[t]).toArray 166)));have HN := hideIt (heap_alloc_new wr (.cells (holE l[t]).toArray 166));unfold holE at HX HB1 HN;generalize hen : l[t] = en at *;obtain ⟨⟨x, y⟩, ⟨z, u⟩⟩ := en;dsimp only at c0 c1 c2 c3 HX HB1 HN;have HM : Hid (mwB T ((x, y), (z, u)) = !((hdT T.held (x, y) == zT) || ((hdT T.held (x, y) == (z, u)) || (decide (4 < (qL l (x, y)).length) || decide (1 < (qL l (x, y)).count (z, u)))))) := by
    show mwB T _ = _
    unfold mwB;rw [hl]
   clear HR hen HH hB;have HC := hideIt (HD.out x y (wr.alloc (.cells #[.int .i64 x, .int .i64 y, .int .i64 z, .int .i64 u] 166)) HB1.out);have HC2 := hideIt (fun W hW => HQ.out x y z u W hW);generalize hdT T.held (x, y) = f at *;obtain ⟨fc, fq⟩ := f;have HC3 := hideIt (fun W => HZ.out fc fq W);clear HD HQ HZ hl;have l8 : (qL l (x, y)).length ≤ l.length := qL_len _ _;have k8 : (qL l (x, y)).count (z, u) ≤ (qL l (x, y)).length := List.count_le_length;generalize (qL l (x, y)).count (z, u) = own at *;generalize (qL l (x, y)).length = all at *
   go_wp2_with fail
   generalize wr.alloc (.cells #[.int .i64 x, .int .i64 y, .int .i64 z, .int .i64 u] 166) = W1 at *;generalize wr.heap.size = K at *;refine HC.out.mono ?_;rintro e w1 ⟨rfl, hb⟩;dsimp only;have HX1 := hideIt (((hb.block _ (Array.getElem?_eq_some_iff.1 HX.out).1).trans HX.out));have HN1 := hideIt (((hb.block _ (Array.getElem?_eq_some_iff.1 HN.out).1).trans HN.out));have HB2 := hideIt (below_via HB1.out hb);have HX2 := hideIt (((below1 w1 (.cells #[.int .i64 fc, .int .i64 fq] 129)).block _ (Array.getElem?_eq_some_iff.1 HX1.out).1).trans HX1.out);have HN2 := hideIt (((below1 w1 (.cells #[.int .i64 fc, .int .i64 fq] 129)).block _ (Array.getElem?_eq_some_iff.1 HN1.out).1).trans HN1.out);have HB3 := hideIt (below_via HB2.out (below1 w1 (.cells #[.int .i64 fc, .int .i64 fq] 129)));have HF3 := hideIt (heap_alloc_new w1 (.cells #[.int .i64 fc, .int .i64 fq] 129));clear hb HX HN HB1 HC x0 x1 c0 c1 c2 c3 HX1 HN1 HB2
   go_upto_region 5 with fail
   generalize w1.alloc (.cells #[.int .i64 fc, .int .i64 fq] 129) = W2 at *;generalize w1.heap.size = K5 at *;have x0 := (B1.cells HX2.out).1;have x1 := (B1.cells HX2.out).2;have y0 : W2.cell? ⟨K, 0, none⟩ = some (.int .i64 x) := by rw [cell_at HN2.out]; rfl
   have y1 : W2.cell? ⟨K, 1, none⟩ = some (.int .i64 y) := by rw [cell_at HN2.out]; rfl
   have y2 : W2.cell? ⟨K, 2, none⟩ = some (.int .i64 z) := by rw [cell_at HN2.out]; rfl
   have y3 : W2.cell? ⟨K, 3, none⟩ = some (.int .i64 u) := by rw [cell_at HN2.out]; rfl
   go_wp2_with fail
   refine (HC2.out _ HB3.out).mono ?_;rintro e w2 ⟨rfl, hb⟩;dsimp only;have HX4 := hideIt ((hb.block _ (Array.getElem?_eq_some_iff.1 HX2.out).1).trans HX2.out);have HN4 := hideIt ((hb.block _ (Array.getElem?_eq_some_iff.1 HN2.out).1).trans HN2.out);have HF4 := hideIt ((hb.block _ (Array.getElem?_eq_some_iff.1 HF3.out).1).trans HF3.out);have HB4 := hideIt (below_via HB3.out hb);clear hb HX2 HN2 HF3 HB3 HC2 x0 x1 y0 y1 y2 y3
   go_upto_region 6 with fail
   have f0 : w2.cell? ⟨K5, 0, none⟩ = some (.int .i64 fc) := by rw [cell_at HF4.out]; rfl
   have f1 : w2.cell? ⟨K5, 1, none⟩ = some (.int .i64 fq) := by rw [cell_at HF4.out]; rfl
   have HC4 := hideIt (HC3.out w2);clear HC3;cases hz : ((fc, fq) == zT)
   ·rw [hz] at HC4 HM;rw [Bool.false_or] at HM
    go_wp2_with fail
    refine HC4.out.mono ?_;rintro e w3 ⟨rfl, hb⟩;dsimp only;have HX5 := hideIt ((hb.block _ (Array.getElem?_eq_some_iff.1 HX4.out).1).trans HX4.out);have HN5 := hideIt ((hb.block _ (Array.getElem?_eq_some_iff.1 HN4.out).1).trans HN4.out);have HF5 := hideIt ((hb.block _ (Array.getElem?_eq_some_iff.1 HF4.out).1).trans HF4.out);have HB5 := hideIt (below_via HB4.out hb);clear hb HX4 HN4 HF4 HB4 f0 f1 hz HC4;have f0 : w3.cell? ⟨K5, 0, none⟩ = some (.int .i64 fc) := by rw [cell_at HF5.out]; rfl
    have f1 : w3.cell? ⟨K5, 1, none⟩ = some (.int .i64 fq) := by rw [cell_at HF5.out]; rfl
    have y2 : w3.cell? ⟨K, 2, none⟩ = some (.int .i64 z) := by rw [cell_at HN5.out]; rfl
    have y3 : w3.cell? ⟨K, 3, none⟩ = some (.int .i64 u) := by rw [cell_at HN5.out]; rfl
    cases hq : ((fc, fq) == (z, u))
    ·have q1 : ∀ W, (binOp .eql 129 (.agg #[.int .i64 fc, .int .i64 fq]) (.agg #[.int .i64 z, .int .i64 u])).run Tryz.prog W = .ok (.bool false) W := fun W => by rw [eq28, hq]
     rw [hq, Bool.false_or] at HM;clear hq
     by_cases h4 : 4 < all
     ·have h4I : (4 : Int) < (all : Int) := by omega
      rw [decide_eq_true h4, Bool.true_or, Bool.not_true] at HM;clear h4;go_wp2;go_ret
      exact ⟨by rw [HA.out, HM.out]; rfl, HB5.out⟩
     ·have h4I : ¬ (4 : Int) < (all : Int) := by omega
      rw [decide_eq_false h4, Bool.false_or] at HM
      by_cases h1 : 1 < own
      ·have h1I : (1 : Int) < (own : Int) := by omega
       rw [decide_eq_true h1, Bool.not_true] at HM;clear h1 h4;go_wp2;go_ret
       exact ⟨by rw [HA.out, HM.out]; rfl, HB5.out⟩
      ·have h1I : ¬ (1 : Int) < (own : Int) := by omega
       rw [decide_eq_false h1, Bool.not_false] at HM;rw [HM.out, Bool.true_and] at HA;clear h1 h4;go_wp2
       go_roundw
       case rel => exact ⟨t + 1, by go_num, by omega, hideIt ⟨HB5.out, HX5.out, HA.out⟩⟩
       case measure => simp [intOf]; omega
    ·have q1 : ∀ W, (binOp .eql 129 (.agg #[.int .i64 fc, .int .i64 fq]) (.agg #[.int .i64 z, .int .i64 u])).run Tryz.prog W = .ok (.bool true) W := fun W => by rw [eq28, hq]
     rw [hq, Bool.true_or, Bool.not_true] at HM;clear hq;go_wp2;go_ret
     exact ⟨by rw [HA.out, HM.out]; rfl, HB5.out⟩
   ·rw [hz] at HC4 HM;rw [Bool.true_or, Bool.not_true] at HM;clear hz
    go_wp2_with fail
    refine HC4.out.mono ?_;rintro e w3 ⟨rfl, hb⟩;dsimp only;have HB5 := hideIt (below_via HB4.out hb);clear hb;go_wp2;go_ret
    exact ⟨by rw [HA.out, HM.out]; rfl, HB5.out⟩
  ·have hltI : ¬ (t : Int) < (l.length : Int) := by omega
   have HF : Hid (l.all (mwB T) = true) := by
    show _ = _
    rw [HR.out.2.2, List.drop_eq_nil_of_le (by omega)]
    rfl
   have HB := hideIt HR.out.1;clear HR HH HD HQ HZ hl;go_wp2;go_ret
   exact ⟨by rw [HF.out]; rfl, HB.out⟩
def chkB (T : TabV) : Bool := decide (T.held.length + T.wait.length ≤ 200) && (T.held.all holB && (T.wait.all holB && (!(twB [] T.held) && T.wait.all (mwB T))))
def chkI (T : TabV) : Int := if chkB T = true then 0 else 160
set_option maxHeartbeats 8000000 in
set_option maxRecDepth 100000 in
theorem check_is (T : TabV) (h v : Value) (w : World) (hT : Tab w T h v) : Calls Tryz.prog 132 #[.agg #[h, v]] w fun e w' => e = .returned (.int .i64 (chkI T)) ∧ Below w.heap.size w w' := by
 have H1 := hideIt (fun W (hW : Below w.heap.size w W) => size_is T h v W (hT.keep hW));have H2 := hideIt (fun W (hW : Below w.heap.size w W) => areHolds_is h T.held W (hT.keep hW).held);have H3 := hideIt (fun W (hW : Below w.heap.size w W) => areHolds_is v T.wait W (hT.keep hW).wait);have H4 := hideIt (fun W (hW : Below w.heap.size w W) => twice_is T h v W (hT.keep hW));have H5 := hideIt (fun W (hW : Below w.heap.size w W) => mayWait_is T h v W (hT.keep hW));have hl1 := hT.held.1;have hl2 := hT.wait.1;have HE : Hid (chkI T = if chkB T = true then 0 else 160) := rfl;unfold chkB at HE;obtain ⟨ha, hc, rfl⟩ := hT.held.slice;obtain ⟨va, vc, rfl⟩ := hT.wait.slice;clear hT;generalize chkI T = res at *;generalize T.held.all holB = g2 at *;generalize T.wait.all holB = g3 at *;generalize twB [] T.held = g4 at *;generalize T.wait.all (mwB T) = g5 at *;generalize T.held.length = m at *;generalize T.wait.length = n at *;have X0 := hideIt (heap_alloc_new w (.cells #[.slice ha m hc, .slice va n vc] 125));have U0 := hideIt (below1 w (.cells #[.slice ha m hc, .slice va n vc] 125))
 by_cases hs : m + n ≤ 200
 ·have hsI : (m : Int) + (n : Int) ≤ 200 := by omega
  rw [decide_eq_true hs, Bool.true_and] at HE;clear hs;cases g2
  ·have HF : Hid (res = 160) := by rw [HE.out]; rfl
   clear HE
   go_enter Tryz.func132, Tryz.ntmps132
   go_wp2_with fail
   refine (H1.out _ U0.out).mono ?_;rintro e w1 ⟨rfl, hb⟩;dsimp only;have X1 := hideIt ((hb.block _ (Array.getElem?_eq_some_iff.1 X0.out).1).trans X0.out);have U1 := hideIt (below_via U0.out hb);have w1a := (B1.cells X1.out).1;have w1b := (B1.cells X1.out).2;clear hb
   go_wp2_with fail
   refine (H2.out _ U1.out).mono ?_;rintro e w2 ⟨rfl, hb⟩;dsimp only;have X2 := hideIt ((hb.block _ (Array.getElem?_eq_some_iff.1 X1.out).1).trans X1.out);have U2 := hideIt (below_via U1.out hb);have w2a := (B1.cells X2.out).1;have w2b := (B1.cells X2.out).2;clear hb;go_wp2;go_ret
   exact ⟨by rw [HF.out]; rfl, U2.out⟩
  ·cases g3
   ·have HF : Hid (res = 160) := by rw [HE.out]; rfl
    clear HE
    go_enter Tryz.func132, Tryz.ntmps132
    go_wp2_with fail
    refine (H1.out _ U0.out).mono ?_;rintro e w1 ⟨rfl, hb⟩;dsimp only;have X1 := hideIt ((hb.block _ (Array.getElem?_eq_some_iff.1 X0.out).1).trans X0.out);have U1 := hideIt (below_via U0.out hb);have w1a := (B1.cells X1.out).1;have w1b := (B1.cells X1.out).2;clear hb
    go_wp2_with fail
    refine (H2.out _ U1.out).mono ?_;rintro e w2 ⟨rfl, hb⟩;dsimp only;have X2 := hideIt ((hb.block _ (Array.getElem?_eq_some_iff.1 X1.out).1).trans X1.out);have U2 := hideIt (below_via U1.out hb);have w2a := (B1.cells X2.out).1;have w2b := (B1.cells X2.out).2;clear hb
    go_wp2_with fail
    refine (H3.out _ U2.out).mono ?_;rintro e w3 ⟨rfl, hb⟩;dsimp only;have X3 := hideIt ((hb.block _ (Array.getElem?_eq_some_iff.1 X2.out).1).trans X2.out);have U3 := hideIt (below_via U2.out hb);have w3a := (B1.cells X3.out).1;have w3b := (B1.cells X3.out).2;clear hb;go_wp2;go_ret
    exact ⟨by rw [HF.out]; rfl, U3.out⟩
   ·cases g4
    ·cases g5
     ·have HF : Hid (res = 160) := by rw [HE.out]; rfl
      clear HE
      go_enter Tryz.func132, Tryz.ntmps132
      go_wp2_with fail
      refine (H1.out _ U0.out).mono ?_;rintro e w1 ⟨rfl, hb⟩;dsimp only;have X1 := hideIt ((hb.block _ (Array.getElem?_eq_some_iff.1 X0.out).1).trans X0.out);have U1 := hideIt (below_via U0.out hb);have w1a := (B1.cells X1.out).1;have w1b := (B1.cells X1.out).2;clear hb
      go_wp2_with fail
      refine (H2.out _ U1.out).mono ?_;rintro e w2 ⟨rfl, hb⟩;dsimp only;have X2 := hideIt ((hb.block _ (Array.getElem?_eq_some_iff.1 X1.out).1).trans X1.out);have U2 := hideIt (below_via U1.out hb);have w2a := (B1.cells X2.out).1;have w2b := (B1.cells X2.out).2;clear hb
      go_wp2_with fail
      refine (H3.out _ U2.out).mono ?_;rintro e w3 ⟨rfl, hb⟩;dsimp only;have X3 := hideIt ((hb.block _ (Array.getElem?_eq_some_iff.1 X2.out).1).trans X2.out);have U3 := hideIt (below_via U2.out hb);have w3a := (B1.cells X3.out).1;have w3b := (B1.cells X3.out).2;clear hb
      go_wp2_with fail
      refine (H4.out _ U3.out).mono ?_;rintro e w4 ⟨rfl, hb⟩;dsimp only;have X4 := hideIt ((hb.block _ (Array.getElem?_eq_some_iff.1 X3.out).1).trans X3.out);have U4 := hideIt (below_via U3.out hb);have w4a := (B1.cells X4.out).1;have w4b := (B1.cells X4.out).2;clear hb
      go_wp2_with fail
      refine (H5.out _ U4.out).mono ?_;rintro e w5 ⟨rfl, hb⟩;dsimp only;have X5 := hideIt ((hb.block _ (Array.getElem?_eq_some_iff.1 X4.out).1).trans X4.out);have U5 := hideIt (below_via U4.out hb);have w5a := (B1.cells X5.out).1;have w5b := (B1.cells X5.out).2;clear hb;go_wp2;go_ret
      exact ⟨by rw [HF.out]; rfl, U5.out⟩
     ·have HF : Hid (res = 0) := by rw [HE.out]; rfl
      clear HE
      go_enter Tryz.func132, Tryz.ntmps132
      go_wp2_with fail
      refine (H1.out _ U0.out).mono ?_;rintro e w1 ⟨rfl, hb⟩;dsimp only;have X1 := hideIt ((hb.block _ (Array.getElem?_eq_some_iff.1 X0.out).1).trans X0.out);have U1 := hideIt (below_via U0.out hb);have w1a := (B1.cells X1.out).1;have w1b := (B1.cells X1.out).2;clear hb
      go_wp2_with fail
      refine (H2.out _ U1.out).mono ?_;rintro e w2 ⟨rfl, hb⟩;dsimp only;have X2 := hideIt ((hb.block _ (Array.getElem?_eq_some_iff.1 X1.out).1).trans X1.out);have U2 := hideIt (below_via U1.out hb);have w2a := (B1.cells X2.out).1;have w2b := (B1.cells X2.out).2;clear hb
      go_wp2_with fail
      refine (H3.out _ U2.out).mono ?_;rintro e w3 ⟨rfl, hb⟩;dsimp only;have X3 := hideIt ((hb.block _ (Array.getElem?_eq_some_iff.1 X2.out).1).trans X2.out);have U3 := hideIt (below_via U2.out hb);have w3a := (B1.cells X3.out).1;have w3b := (B1.cells X3.out).2;clear hb
      go_wp2_with fail
      refine (H4.out _ U3.out).mono ?_;rintro e w4 ⟨rfl, hb⟩;dsimp only;have X4 := hideIt ((hb.block _ (Array.getElem?_eq_some_iff.1 X3.out).1).trans X3.out);have U4 := hideIt (below_via U3.out hb);have w4a := (B1.cells X4.out).1;have w4b := (B1.cells X4.out).2;clear hb
      go_wp2_with fail
      refine (H5.out _ U4.out).mono ?_;rintro e w5 ⟨rfl, hb⟩;dsimp only;have X5 := hideIt ((hb.block _ (Array.getElem?_eq_some_iff.1 X4.out).1).trans X4.out);have U5 := hideIt (below_via U4.out hb);have w5a := (B1.cells X5.out).1;have w5b := (B1.cells X5.out).2;clear hb;go_wp2;go_ret
      exact ⟨by rw [HF.out]; rfl, U5.out⟩
    ·have HF : Hid (res = 160) := by rw [HE.out]; rfl
     clear HE
     go_enter Tryz.func132, Tryz.ntmps132
     go_wp2_with fail
     refine (H1.out _ U0.out).mono ?_;rintro e w1 ⟨rfl, hb⟩;dsimp only;have X1 := hideIt ((hb.block _ (Array.getElem?_eq_some_iff.1 X0.out).1).trans X0.out);have U1 := hideIt (below_via U0.out hb);have w1a := (B1.cells X1.out).1;have w1b := (B1.cells X1.out).2;clear hb
     go_wp2_with fail
     refine (H2.out _ U1.out).mono ?_;rintro e w2 ⟨rfl, hb⟩;dsimp only;have X2 := hideIt ((hb.block _ (Array.getElem?_eq_some_iff.1 X1.out).1).trans X1.out);have U2 := hideIt (below_via U1.out hb);have w2a := (B1.cells X2.out).1;have w2b := (B1.cells X2.out).2;clear hb
     go_wp2_with fail
     refine (H3.out _ U2.out).mono ?_;rintro e w3 ⟨rfl, hb⟩;dsimp only;have X3 := hideIt ((hb.block _ (Array.getElem?_eq_some_iff.1 X2.out).1).trans X2.out);have U3 := hideIt (below_via U2.out hb);have w3a := (B1.cells X3.out).1;have w3b := (B1.cells X3.out).2;clear hb
     go_wp2_with fail
     refine (H4.out _ U3.out).mono ?_;rintro e w4 ⟨rfl, hb⟩;dsimp only;have X4 := hideIt ((hb.block _ (Array.getElem?_eq_some_iff.1 X3.out).1).trans X3.out);have U4 := hideIt (below_via U3.out hb);have w4a := (B1.cells X4.out).1;have w4b := (B1.cells X4.out).2;clear hb;go_wp2;go_ret
     exact ⟨by rw [HF.out]; rfl, U4.out⟩
 ·have hsI : ¬ (m : Int) + (n : Int) ≤ 200 := by omega
  rw [decide_eq_false hs, Bool.false_and] at HE;clear hs;have HF : Hid (res = 160) := by rw [HE.out]; rfl
  clear HE
  go_enter Tryz.func132, Tryz.ntmps132
  go_wp2_with fail
  refine (H1.out _ U0.out).mono ?_;rintro e w1 ⟨rfl, hb⟩;dsimp only;have X1 := hideIt ((hb.block _ (Array.getElem?_eq_some_iff.1 X0.out).1).trans X0.out);have U1 := hideIt (below_via U0.out hb);have w1a := (B1.cells X1.out).1;have w1b := (B1.cells X1.out).2;clear hb;go_wp2;go_ret
  exact ⟨by rw [HF.out]; rfl, U1.out⟩
def refE (T : TabV) (k : KeyV) (t : TxnV) : Int := if chkB T = true then (if (keyB k && namB t) = true then 0 else 1) else 160
set_option maxHeartbeats 8000000 in
set_option maxRecDepth 100000 in
theorem refused_is (T : TabV) (h v : Value) (k n c q : Int) (w : World) (hT : Tab w T h v) : Calls Tryz.prog 100 #[.agg #[h, v], .agg #[.int .i64 k, .int .i64 n], .agg #[.int .i64 c, .int .i64 q]] w fun e w' => e = .returned (.int .i64 (refE T (k, n) (c, q))) ∧ Below w.heap.size w w' := by
 have H1 := hideIt (fun W (hW : Below w.heap.size w W) => check_is T h v W (hT.keep hW));have H2 := hideIt (fun W => isKey_is k n W);have H3 := hideIt (fun W => isName_is c q W);have X0 := hideIt (B3.first w (.cells #[h, v] 125) (.cells #[.int .i64 k, .int .i64 n] 24) (.cells #[.int .i64 c, .int .i64 q] 129));obtain ⟨ha, hc, rfl⟩ := hT.held.slice;obtain ⟨va, vc, rfl⟩ := hT.wait.slice;clear hT;unfold chkI at H1;simp only [refE];cases hC : chkB T
 ·rw [hC] at H1;simp only [Bool.false_eq_true, if_false] at H1 ⊢
  go_enter Tryz.func100, Tryz.ntmps100
  go_wp2_with fail
  refine (H1.out _ X0.out.bel).mono ?_;rintro e w1 ⟨rfl, hb⟩;dsimp only;have B1 := hideIt (X0.out.keep hb).bel;clear hb;go_wp2;go_ret
  exact ⟨rfl, B1.out⟩
 ·rw [hC] at H1;simp only [if_true] at H1 ⊢;cases hk : keyB (k, n)
  ·rw [hk] at H2;simp only [Bool.false_and, Bool.false_eq_true, if_false]
   go_enter Tryz.func100, Tryz.ntmps100
   go_wp2_with fail
   refine (H1.out _ X0.out.bel).mono ?_;rintro e w1 ⟨rfl, hb⟩;dsimp only;have X1 := hideIt (X0.out.keep hb);have k0 : w1.cell? ⟨w.heap.size + 1, 0, none⟩ = some (.int .i64 k) := by rw [cell_at X1.out.b1]; rfl
   have k1 : w1.cell? ⟨w.heap.size + 1, 1, none⟩ = some (.int .i64 n) := by rw [cell_at X1.out.b1]; rfl
   clear hb
   go_wp2_with fail
   refine (H2.out _).mono ?_;rintro e w2 ⟨rfl, hb⟩;dsimp only;have B2 := hideIt (X1.out.keep hb).bel;clear hb;go_wp2;go_ret
   exact ⟨rfl, B2.out⟩
  ·rw [hk] at H2;cases hn : namB (c, q)
   ·rw [hn] at H3;simp only [Bool.and_false, Bool.false_eq_true, if_false]
    go_enter Tryz.func100, Tryz.ntmps100
    go_wp2_with fail
    refine (H1.out _ X0.out.bel).mono ?_;rintro e w1 ⟨rfl, hb⟩;dsimp only;have X1 := hideIt (X0.out.keep hb);have k0 : w1.cell? ⟨w.heap.size + 1, 0, none⟩ = some (.int .i64 k) := by rw [cell_at X1.out.b1]; rfl
    have k1 : w1.cell? ⟨w.heap.size + 1, 1, none⟩ = some (.int .i64 n) := by rw [cell_at X1.out.b1]; rfl
    clear hb
    go_wp2_with fail
    refine (H2.out _).mono ?_;rintro e w2 ⟨rfl, hb⟩;dsimp only;have X2 := hideIt (X1.out.keep hb);have t0 : w2.cell? ⟨w.heap.size + 1 + 1, 0, none⟩ = some (.int .i64 c) := by rw [cell_at X2.out.b2]; rfl
    have t1 : w2.cell? ⟨w.heap.size + 1 + 1, 1, none⟩ = some (.int .i64 q) := by rw [cell_at X2.out.b2]; rfl
    clear hb
    go_wp2_with fail
    refine (H3.out _).mono ?_;rintro e w3 ⟨rfl, hb⟩;dsimp only;have B2 := hideIt (X2.out.keep hb).bel;clear hb;go_wp2;go_ret
    exact ⟨rfl, B2.out⟩
   ·rw [hn] at H3;simp only [Bool.and_true, if_true]
    go_enter Tryz.func100, Tryz.ntmps100
    go_wp2_with fail
    refine (H1.out _ X0.out.bel).mono ?_;rintro e w1 ⟨rfl, hb⟩;dsimp only;have X1 := hideIt (X0.out.keep hb);have k0 : w1.cell? ⟨w.heap.size + 1, 0, none⟩ = some (.int .i64 k) := by rw [cell_at X1.out.b1]; rfl
    have k1 : w1.cell? ⟨w.heap.size + 1, 1, none⟩ = some (.int .i64 n) := by rw [cell_at X1.out.b1]; rfl
    clear hb
    go_wp2_with fail
    refine (H2.out _).mono ?_;rintro e w2 ⟨rfl, hb⟩;dsimp only;have X2 := hideIt (X1.out.keep hb);have t0 : w2.cell? ⟨w.heap.size + 1 + 1, 0, none⟩ = some (.int .i64 c) := by rw [cell_at X2.out.b2]; rfl
    have t1 : w2.cell? ⟨w.heap.size + 1 + 1, 1, none⟩ = some (.int .i64 q) := by rw [cell_at X2.out.b2]; rfl
    clear hb
    go_wp2_with fail
    refine (H3.out _).mono ?_;rintro e w3 ⟨rfl, hb⟩;dsimp only;have B2 := hideIt (X2.out.keep hb).bel;clear hb;go_wp2;go_ret
    exact ⟨rfl, B2.out⟩
theorem grown_own {W w w' : World} {B : Nat} {e : TypeId} {z n : Nat} {v : Value} {xs : List Value} (h : w.grownBy w' v.ownBlock) (ho : w.ownsRow B e z v n xs) (hB : W.heap.size ≤ B) (hb : Below W.heap.size W w) : Below W.heap.size W w' :=
 below_out hb (Out.ofGrown (F := fun k => W.heap.size ≤ k) h (fun k hk => by have := ho.lt k hk; omega)) (fun _ h => h)
theorem info44 : (Tryz.prog.info? 166).map (fun i => (i.zero, i.size, i.bytes)) = some (some (.agg #[.int .i64 0, .int .i64 0, .int .i64 0, .int .i64 0]), 4, 32) := by kernel_rfl
theorem app1 {α : Type} {k bytes : Nat} {enc : α → List Value} {t e : TypeId} {z : Value} (hk : ∀ x, (enc x).length = k) (h1 : ∀ x, ∀ u ∈ enc x, u.oneCell' = true) (ht : Tryz.prog.underlying t = some (.slice e))
  (hi : (Tryz.prog.info? e).map (fun i => (i.zero, i.size, i.bytes)) = some (some z, k, bytes)) (hz : z.cells.size = k) (hk0 : 0 < k) (w : World) (B : Nat) (v : Value) (l : List α) (x : α) (b c : Nat) (hB : B ≤ w.heap.size)
  (ho : w.ownsRow B e k v l.length (celC enc l)) (hc : w.heap[b]? = some (.cells (enc x).toArray e (0, 0))) (hl : (l.length + 1) * bytes ≤ 140737488355328) (hm : l.length + 1 ≤ maxLen) :
  ∃ v' w', (Builtin.append_ #[t, t] t #[v, .slice (some ⟨b, 0, none⟩) 1 c]).run Tryz.prog w = .ok v' w' ∧ w'.ownsRow B e k v' (l ++ [x]).length (celC enc (l ++ [x])) ∧ w.grownBy w' v.ownBlock := by
 obtain ⟨i, hi, hz0, hz1, hz2⟩ := info_parts hi;obtain ⟨v', w', r1, r2, r3, _⟩ := run_append_own (P := Tryz.prog) w B t t e i _ k bytes ht hi hz0 hz1 hz2 hz hk0 v l.length (celC enc l) ho ⟨b, 0, none⟩ 1 c (enc x) (by rw [hk, Nat.one_mul]) (fun j u hu => by
  rw [addN, cell_at hc, Nat.zero_add]
  simpa using hu) (h1 x) hm hl hB
 refine ⟨v', w', r1, ?_, r3⟩;rw [List.length_append, celC_app, show celC enc [x] = enc x by simp [celC]];exact r2
theorem appL {α : Type} {k bytes : Nat} {enc : α → List Value} {t e : TypeId} {z : Value} (hk : ∀ x, (enc x).length = k) (h1 : ∀ x, ∀ u ∈ enc x, u.oneCell' = true) (ht : Tryz.prog.underlying t = some (.slice e))
  (hi : (Tryz.prog.info? e).map (fun i => (i.zero, i.size, i.bytes)) = some (some z, k, bytes)) (hz : z.cells.size = k) (hk0 : 0 < k) (hb0 : 8 ≤ bytes) (w : World) (B : Nat) (v : Value) (xs l : List α) (b : Addr) (n c : Nat) (hn : n = l.length) (hB : B ≤ w.heap.size)
  (ho : w.ownsRow B e k v xs.length (celC enc xs)) (hg : SGot k bytes enc w (.slice (some b) n c) l) (hl : (xs.length + l.length) * bytes ≤ 140737488355328) :
  ∃ v' w', (Builtin.append_ #[t, t] t #[v, .slice (some b) n c]).run Tryz.prog w = .ok v' w' ∧ w'.ownsRow B e k v' (xs ++ l).length (celC enc (xs ++ l)) ∧ w.grownBy w' v.ownBlock := by
 subst hn;obtain ⟨i, hi, hz0, hz1, hz2⟩ := info_parts hi;have hm : xs.length + l.length ≤ maxLen := by
  have : (xs.length + l.length) * 8 ≤ (xs.length + l.length) * bytes := Nat.mul_le_mul_left _ hb0;unfold maxLen;omega
 obtain ⟨h8, a', c', e', _, hr⟩ := hg;simp only [Value.slice.injEq] at e';obtain ⟨v', w', r1, r2, r3, _⟩ := run_append_own (P := Tryz.prog) w B t t e i _ k bytes ht hi hz0 hz1 hz2 hz hk0 v xs.length (celC enc xs) ho b l.length c (celC enc l) (celC_len hk l) (fun j u hu => by
  have hj := (List.getElem?_eq_some_iff.1 hu).1;rw [celC_len hk] at hj;have hp : 0 < l.length := by
   rcases Nat.eq_zero_or_pos l.length with h0 | h0
   ·rw [h0] at hj;omega
   ·exact h0
  obtain ⟨b', off, hb, _, hc⟩ := hr hp;have : b = ⟨b', off, none⟩ := by
   have := e'.1.trans hb
   simpa using this
  rw [this, addN, hc j hj, hu]) (celC_one h1 l) hm hl hB
 refine ⟨v', w', r1, ?_, r3⟩;rw [List.length_append, celC_app];exact r2
set_option maxRecDepth 100000 in
set_option maxHeartbeats 4000000 in
theorem cloneH_is (v : Value) (l : List HoldV) (w : World) (h : Hols w v l) : Calls Tryz.prog 103 #[v] w fun e w' => ∃ v', e = .returned v' ∧ w'.ownsRow w.heap.size 166 4 v' l.length (celC holE l) ∧ Below w.heap.size w w' := by
 obtain ⟨a, c, rfl⟩ := h.slice;have q22 : ∀ (w : World) (a : Option Addr) (n c n' c' : Nat), (binOp .eql 123 (.slice a n c) (.slice none n' c')).run Tryz.prog w = .ok (.bool a.isNone) w := fun w a n c n' c' => Lib.run_eql_slice_nil w _ _ a n c n' c' Tryz.underlying123
 cases a with
 | none =>
  have h0 : l.length = 0 := by
   obtain ⟨_, a', c', e', _, hr⟩ := h;simp only [Value.slice.injEq] at e'
   rcases Nat.eq_zero_or_pos l.length with h0 | h0
   ·exact h0
   ·obtain ⟨b, off, hb, _⟩ := hr h0;rw [← e'.1] at hb;cases hb
  have hl : l = [] := List.length_eq_zero_iff.1 h0;subst hl;simp only [List.length_nil];clear h h0
  go_enter Tryz.func103, Tryz.ntmps103
  go_wp2;go_ret
  exact ⟨_, rfl, own_nil _ _, Below.refl _ _⟩
 | some b =>
  obtain ⟨v', w', hrun, how, hgr⟩ := appL (enc := holE) (t := 123) holK hol1 Tryz.underlying123 info44 rfl (by omega) (by omega) (w.alloc (.cells #[] 166)) w.heap.size (.slice (some ⟨w.heap.size, 0, none⟩) 0 0) [] l b l.length c rfl (by simp) (World.ownsRow_made w #[] 0 (Nat.le_refl _) (Nat.zero_le _) (by simp)) (h.keep (below1 w _)) (by have := h.1; rw [List.length_nil]; omega)
  rw [List.nil_append] at how;have HRUN := hideIt hrun;have HR := hideIt (And.intro how (below_out (below1 w (.cells #[] 166)) (Out.ofGrown (F := fun k => w.heap.size ≤ k) hgr (fun k hk => by simp only [Value.ownBlock, Option.some.injEq] at hk; omega)) (fun _ h => h)))
  clear hrun how hgr h;generalize l.length = n at *;obtain ⟨bb, bo, bp⟩ := b
  go_enter Tryz.func103, Tryz.ntmps103
  go_wp2_with (at_builtin; refine Lib.wpList_append_run _ rfl _ _ _ _ rfl _ _ rfl rfl _ _ HRUN.out ?_)
  go_ret
  exact ⟨_, rfl, HR.out.1, HR.out.2⟩
structure Bx (w : World) (os : List Obj) (wx : World) : Prop where
 at_ : ∀ i, i < os.length → wx.heap[w.heap.size + i]? = os[i]?
 bel : Below w.heap.size w wx
 size : w.heap.size + os.length ≤ wx.heap.size
theorem Bx.first (w : World) (os : List Obj) : Bx w os (os.foldl World.alloc w) := ⟨(allocs_at os w).2.2, (allocs_at os w).2.1, by rw [(allocs_at os w).1]; omega⟩
theorem Bx.keep {w wx wy : World} {os : List Obj} (h : Bx w os wx) (hb : Below wx.heap.size wx wy) : Bx w os wy :=
 ⟨fun i hi => (hb.block _ (by have := h.size; omega)).trans (h.at_ i hi), below_via h.bel hb, Nat.le_trans h.size hb.size⟩
theorem Bx.c {w wx : World} {os : List Obj} (h : Bx w os wx) (i j : Nat) {cs : Array Value} {t : TypeId} {u : Value} (ho : os[i]? = some (.cells cs t (0, 0))) (hu : cs[j]? = some u) : wx.cell? ⟨w.heap.size + i, j, none⟩ = some u := by
 rw [cell_at ((h.at_ i (List.getElem?_eq_some_iff.1 ho).1).trans ho), hu]
theorem Bx.f {w wx : World} {os : List Obj} (h : Bx w os wx) (i j : Nat) {cs : Array Value} {t : TypeId} (ho : os[i]? = some (.cells cs t (0, 0))) : wx.frozen? ⟨w.heap.size + i, j, none⟩ = false :=
 free_at ((h.at_ i (List.getElem?_eq_some_iff.1 ho).1).trans ho) j
def zTab : TabV := ⟨[], []⟩
def askL (T : TabV) (k : KeyV) (t : TxnV) : TabV × Bool × Int :=
 if refE T k t = 0 then
  if (hdT T.held k == t) = true ∨ 0 < (qL T.wait k).count t then (T, hdT T.held k == t, 0)
  else if T.held.length + T.wait.length = 200 ∨ (qL T.wait k).length = 4 then (zTab, false, 161)
  else if (hdT T.held k == zT) = true then (⟨T.held ++ [(k, t)], T.wait⟩, true, 0) else (⟨T.held, T.wait ++ [(k, t)]⟩, false, 0)
 else (zTab, false, refE T k t)
structure TabOwn (B : Nat) (T : TabV) (h v : Value) (w : World) : Prop where
 oh : w.ownsRow B 166 4 h T.held.length (celC holE T.held)
 ov : w.ownsRow B 166 4 v T.wait.length (celC holE T.wait)
def AskBack (X : TabV × Bool × Int) (w : World) (e : Ending) (w' : World) : Prop := ∃ h v, e = .returned (.tuple #[.agg #[h, v], .bool X.2.1, .int .i64 X.2.2]) ∧ TabOwn w.heap.size X.1 h v w' ∧ Below w.heap.size w w'
theorem zOwn (B : Nat) (w : World) : TabOwn B zTab (.slice none 0 0) (.slice none 0 0) w := ⟨own_nil _ _, own_nil _ _⟩
structure CS (W : World) (l : List HoldV) (v : Value) (w' : World) : Prop where
 own : w'.ownsRow W.heap.size 166 4 v l.length (celC holE l)
 bel : Below W.heap.size W w'
theorem two_at {w : World} {p : Nat} {z0 z1 : Value} {t : TypeId} (h : w.heap[p]? = some (.cells #[z0, z1] t (0, 0))) : w.cell? ⟨p, 0, none⟩ = some z0 ∧ w.cell? ⟨p, 1, none⟩ = some z1 ∧ w.frozen? ⟨p, 0, none⟩ = false ∧ w.frozen? ⟨p, 1, none⟩ = false ∧ p < w.heap.size :=
 ⟨by rw [cell_at h]; rfl, by rw [cell_at h]; rfl, free_at h 0, free_at h 1, (Array.getElem?_eq_some_iff.1 h).1⟩
structure AQ (w : World) (os : List Obj) (K : Nat) (cs : Array Value) (t : TypeId) (T : TabV) (P : Nat) (h v : Value) (wx : World) : Prop where
 bx : Bx w os wx
 hk : wx.heap[K]? = some (.cells cs t (0, 0))
 box : wx.heap[P]? = some (.cells #[h, v] 125 (0, 0))
 own : TabOwn (w.heap.size + os.length) T h v wx
 sep : h.ownBlock = none ∨ h.ownBlock ≠ v.ownBlock
 lP : w.heap.size + os.length ≤ P
 ne : K ≠ P
theorem own_cell {w : World} {B D j : Nat} {e t : TypeId} {z n : Nat} {v u : Value} {xs : List Value} {cs : Array Value} (ho : w.ownsRow B e z v n xs) (hd : w.heap[D]? = some (.cells cs t (0, 0))) (hne : e ≠ t) : (w.setCell ⟨D, j, none⟩ u).ownsRow B e z v n xs := by
 obtain ⟨h1, hn | ⟨g, cap, cur, hv, hb, hg, rest⟩⟩ := ho
 ·exact ⟨h1, .inl hn⟩
 ·refine ⟨h1, .inr ⟨g, cap, cur, hv, hb, (heap_set_other _ _ _ _ _ (fun e => ?_)).trans hg, rest⟩⟩;rw [e, hd] at hg
  simp at hg
  exact hne hg.2.symm
theorem AQ.put {w W : World} {os : List Obj} {K : Nat} {cs : Array Value} {t : TypeId} {T : TabV} {P : Nat} {h v z0 z1 : Value} (bx : Bx w os W) (hk : W.heap[K]? = some (.cells cs t (0, 0))) (box : W.heap[P]? = some (.cells #[z0, z1] 125 (0, 0))) (own : TabOwn (w.heap.size + os.length) T h v W) (sep : h.ownBlock = none ∨ h.ownBlock ≠ v.ownBlock) (lP : w.heap.size + os.length ≤ P) (ne : K ≠ P) : AQ w os K cs t T P h v ((W.setCell ⟨P, 0, none⟩ h).setCell ⟨P, 1, none⟩ v) :=
 ⟨⟨fun i hi => (heap_set_other _ _ _ _ _ (by omega)).trans ((heap_set_other _ _ _ _ _ (by omega)).trans (bx.at_ i hi)), belowSet _ (belowSet _ bx.bel (by omega)) (by omega), by simpa using bx.size⟩, setOther _ (setOther _ hk ne) ne, put2 box h v,
  ⟨own_cell (own_cell own.oh box (by decide)) (heap_set box 0 h) (by decide), own_cell (own_cell own.ov box (by decide)) (heap_set box 0 h) (by decide)⟩, sep, lP, ne⟩
theorem TabOwn.two {w W1 W2 w4 w5 : World} {B : Nat} {T : TabV} {h v : Value} (h4 : CS W1 T.held h w4) (h5 : CS W2 T.wait v w5) (h24 : Below w4.heap.size w4 W2) (hB : B ≤ W1.heap.size) : TabOwn B T h v w5 ∧ (h.ownBlock = none ∨ h.ownBlock ≠ v.ownBlock) := by
 refine ⟨⟨own_base (own_keep (own_keep h4.own h24) h5.bel) hB, own_base h5.own (Nat.le_trans hB (Nat.le_trans h4.bel.size h24.size))⟩, ?_⟩
 rcases hq : h.ownBlock with _ | b
 ·exact .inl rfl
 ·refine .inr (fun e => ?_);have h1 := (h4.own.lt b hq).2;have h2 := (h5.own.lt b e.symm).1;have := h24.size;omega
theorem box_type {w w' : World} {B D : Nat} {e t : TypeId} {z n : Nat} {v : Value} {xs : List Value} {cs : Array Value} (h : w.grownBy w' v.ownBlock) (ho : w.ownsRow B e z v n xs) (hd : w.heap[D]? = some (.cells cs t (0, 0))) (hne : e ≠ t) : w'.heap[D]? = some (.cells cs t (0, 0)) := by
 refine (h.block D (Array.getElem?_eq_some_iff.1 hd).1 (fun e => ?_)).trans hd;obtain ⟨_, ⟨rfl, _⟩ | ⟨g2, cap2, cur2, rfl, hg2, hc2, _⟩⟩ := ho
 ·cases e
 ·simp only [Value.ownBlock, Option.some.injEq] at e;subst e;rw [hd] at hc2
  simp at hc2
  exact hne hc2.2.symm
theorem Bx.drew {w wx : World} {os : List Obj} (h : Bx w os wx) : Bx w os wx.drew := h.keep (Below.refl _ wx).drew
theorem AQ.o3 {w w3 w4 w5 : World} {os : List Obj} {K : Nat} {cs : Array Value} {t : TypeId} {T : TabV} {h v : Value} (bx : Bx w os w3) (hk : w3.heap[K]? = some (.cells cs t (0, 0))) (h4 : CS w3.drew T.held h w4) (h5 : CS w4 T.wait v w5) : AQ w os K cs t T w5.heap.size h v (w5.alloc (.cells #[h, v] 125)) := by
 have hKl := (Array.getElem?_eq_some_iff.1 hk).1;have hs := bx.size;have b0 : Below w3.heap.size w3 w3.drew := (Below.refl _ w3).drew;have b45 := below_via h4.bel h5.bel;have b35 := below_via b0 b45;have hT := TabOwn.two (w := w) (B := w.heap.size + os.length) h4 h5 (Below.refl _ _) hs;have b6 := below1 w5 (.cells #[h, v] 125);have s5 := b35.size
 exact ⟨(bx.keep b35).keep b6, (b6.block _ (by omega)).trans ((b35.block _ hKl).trans hk), heap_alloc_new w5 _, ⟨own_keep hT.1.oh b6, own_keep hT.1.ov b6⟩, hT.2, by omega, by omega⟩
theorem AQ.o2 {w w3 w4 w5 : World} {os : List Obj} {K : Nat} {cs : Array Value} {t : TypeId} {T : TabV} {h v : Value} (bx : Bx w os w3) (hk : w3.heap[K]? = some (.cells cs t (0, 0))) (h4 : CS w3.drew T.held h w4) (h5 : CS (w4.alloc (.cells #[.slice none 0 0, .slice none 0 0] 125)) T.wait v w5) : AQ w os K cs t T w4.heap.size h v ((w5.setCell ⟨w4.heap.size, 0, none⟩ h).setCell ⟨w4.heap.size, 1, none⟩ v) := by
 have hKl := (Array.getElem?_eq_some_iff.1 hk).1;have hs := bx.size;have b0 : Below w3.heap.size w3 w3.drew := (Below.refl _ w3).drew;have b4 := below1 w4 (.cells #[.slice none 0 0, .slice none 0 0] 125);have b34 := below_via b0 h4.bel;have b35 := below_via b34 (below_via b4 h5.bel);have hT := TabOwn.two (w := w) (B := w.heap.size + os.length) h4 h5 b4 hs;have s4 := b34.size;exact AQ.put (bx.keep b35) ((b35.block _ hKl).trans hk) ((h5.bel.block _ (by simp)).trans (heap_alloc_new w4 _)) hT.1 hT.2 (by omega) (by omega)
theorem AQ.o1 {w w3 w4 w5 : World} {os : List Obj} {K : Nat} {cs : Array Value} {t : TypeId} {T : TabV} {h v : Value} (bx : Bx w os w3) (hk : w3.heap[K]? = some (.cells cs t (0, 0))) (h4 : CS (w3.drew.alloc (.cells #[.slice none 0 0, .slice none 0 0] 125)) T.held h w4) (h5 : CS w4 T.wait v w5) : AQ w os K cs t T w3.heap.size h v ((w5.setCell ⟨w3.heap.size, 0, none⟩ h).setCell ⟨w3.heap.size, 1, none⟩ v) := by
 have hKl := (Array.getElem?_eq_some_iff.1 hk).1;have hs := bx.size;have b0 : Below w3.heap.size w3 w3.drew := (Below.refl _ w3).drew;have b3 := below1 w3.drew (.cells #[.slice none 0 0, .slice none 0 0] 125);have b35 := below_via b0 (below_via b3 (below_via h4.bel h5.bel));have s3 := b3.size;have hT := TabOwn.two (w := w) (B := w.heap.size + os.length) h4 h5 (Below.refl _ _) (by have : w3.drew.heap.size = w3.heap.size := rfl; omega)
 have hP : w5.heap[w3.heap.size]? = some (.cells #[.slice none 0 0, .slice none 0 0] 125 (0, 0)) := (h5.bel.block _ (by have := h4.bel.size; simp at this; omega)).trans ((h4.bel.block _ (by simp)).trans (heap_alloc_new w3.drew _))
 exact AQ.put (bx.keep b35) ((b35.block _ hKl).trans hk) hP hT.1 hT.2 (by omega) (by omega)
theorem AQ.keep {w wx wy : World} {os : List Obj} {K : Nat} {cs : Array Value} {t : TypeId} {T : TabV} {P : Nat} {h v : Value} (a : AQ w os K cs t T P h v wx) (hb : Below wx.heap.size wx wy) : AQ w os K cs t T P h v wy :=
 ⟨a.bx.keep hb, (hb.block _ (Array.getElem?_eq_some_iff.1 a.hk).1).trans a.hk, (hb.block _ (Array.getElem?_eq_some_iff.1 a.box).1).trans a.box, ⟨own_keep a.own.oh hb, own_keep a.own.ov hb⟩, a.sep, a.lP, a.ne⟩
structure AR (w : World) (os : List Obj) (T : TabV) (P : Nat) (h v : Value) (wx : World) : Prop where
 bx : Bx w os wx
 box : wx.heap[P]? = some (.cells #[h, v] 125 (0, 0))
 own : TabOwn (w.heap.size + os.length) T h v wx
theorem AQ.ar {w wx : World} {os : List Obj} {K : Nat} {cs : Array Value} {t : TypeId} {T : TabV} {P : Nat} {h v : Value} (a : AQ w os K cs t T P h v wx) : AR w os T P h v wx := ⟨a.bx, a.box, a.own⟩
theorem AR.ret {w wx : World} {os : List Obj} {T : TabV} {P : Nat} {h v z0 z1 : Value} (a : AR w os T P h v wx) (ho : os[3]? = some (.cells #[z0, z1] 125 (0, 0))) :
  ((wx.setCell ⟨w.heap.size + 3, 0, none⟩ h).setCell ⟨w.heap.size + 3, 1, none⟩ v).heap[w.heap.size + 3]? = some (.cells #[h, v] 125 (0, 0)) ∧ TabOwn w.heap.size T h v ((wx.setCell ⟨w.heap.size + 3, 0, none⟩ h).setCell ⟨w.heap.size + 3, 1, none⟩ v) ∧ Below w.heap.size w ((wx.setCell ⟨w.heap.size + 3, 0, none⟩ h).setCell ⟨w.heap.size + 3, 1, none⟩ v) := by
 have hb := (a.bx.at_ 3 (List.getElem?_eq_some_iff.1 ho).1).trans ho
 exact ⟨put2 hb h v, ⟨own_base (own_cell (own_cell a.own.oh hb (by decide)) (heap_set hb 0 h) (by decide)) (by omega), own_base (own_cell (own_cell a.own.ov hb (by decide)) (heap_set hb 0 h) (by decide)) (by omega)⟩, belowSet _ (belowSet _ a.bx.bel (by omega)) (by omega)⟩
theorem Bx.grown {w W w' : World} {os : List Obj} {B n z : Nat} {e : TypeId} {v : Value} {xs : List Value} (h : Bx w os W) (hg : W.grownBy w' v.ownBlock) (ho : W.ownsRow (w.heap.size + os.length) e z v n xs) : Bx w os w' :=
 ⟨fun i hi => (hg.block _ (by have := h.size; omega) (fun e => by have := (ho.lt _ e.symm).1; omega)).trans (h.at_ i hi), grown_own hg ho (by omega) h.bel, Nat.le_trans h.size hg.size⟩
theorem AQ.appH {w W : World} {os : List Obj} {K : Nat} {cs : Array Value} {t : TypeId} {T : TabV} {P b c : Nat} {h v : Value} {x : HoldV} (a : AQ w os K cs t T P h v W) (hb : W.heap[b]? = some (.cells (holE x).toArray 166 (0, 0))) (hl : T.held.length ≤ 1000) :
  ∃ a' c' w', (Builtin.append_ #[123, 123] 123 #[h, .slice (some ⟨b, 0, none⟩) 1 c]).run Tryz.prog W = .ok (.slice a' (T.held.length + 1) c') w' ∧ AR w os ⟨T.held ++ [x], T.wait⟩ P (.slice a' (T.held.length + 1) c') v (w'.setCell ⟨P, 0, none⟩ (.slice a' (T.held.length + 1) c')) ∧ w'.cell? ⟨P, 0, none⟩ = some h ∧ w'.cell? ⟨P, 1, none⟩ = some v ∧ w'.frozen? ⟨P, 0, none⟩ = false ∧ P < w'.heap.size := by
 obtain ⟨v', w', hrun, how, hgr⟩ := app1 (enc := holE) (t := 123) holK hol1 Tryz.underlying123 info44 rfl (by omega) W (w.heap.size + os.length) h T.held x b c a.bx.size a.own.oh hb (by omega) (by unfold maxLen; omega)
 obtain ⟨a', c', rfl⟩ := own_len how;have hlen : (T.held ++ [x]).length = T.held.length + 1 := by simp
 rw [hlen] at how hrun;have hbx := box_type hgr a.own.oh a.box (by decide);have hk2 : v.ownBlock = none ∨ v.ownBlock ≠ h.ownBlock := by
  rcases a.sep with e | e
  ·rw [e]
   rcases hv : v.ownBlock with _ | q
   ·exact .inl rfl
   ·exact .inr (by simp)
  ·exact .inr (fun x => e x.symm)
 have hbw : Bx w os w' := a.bx.grown (B := 0) hgr a.own.oh;refine ⟨a', c', w', hrun, ⟨⟨fun i hi => (heap_set_other _ _ _ _ _ (by have := a.lP; omega)).trans (hbw.at_ i hi), belowSet _ hbw.bel (by have := a.lP; omega), by simpa using hbw.size⟩, heap_set hbx 0 _, ⟨own_cell (by rw [hlen]; exact how) hbx (by decide), own_cell (a.own.ov.kept hgr hk2) hbx (by decide)⟩⟩, by rw [cell_at hbx]; rfl, by rw [cell_at hbx]; rfl, free_at hbx 0, (Array.getElem?_eq_some_iff.1 hbx).1⟩
theorem AQ.appV {w W : World} {os : List Obj} {K : Nat} {cs : Array Value} {t : TypeId} {T : TabV} {P b c : Nat} {h v : Value} {x : HoldV} (a : AQ w os K cs t T P h v W) (hb : W.heap[b]? = some (.cells (holE x).toArray 166 (0, 0))) (hl : T.wait.length ≤ 1000) :
  ∃ a' c' w', (Builtin.append_ #[123, 123] 123 #[v, .slice (some ⟨b, 0, none⟩) 1 c]).run Tryz.prog W = .ok (.slice a' (T.wait.length + 1) c') w' ∧ AR w os ⟨T.held, T.wait ++ [x]⟩ P h (.slice a' (T.wait.length + 1) c') (w'.setCell ⟨P, 1, none⟩ (.slice a' (T.wait.length + 1) c')) ∧ w'.cell? ⟨P, 0, none⟩ = some h ∧ w'.cell? ⟨P, 1, none⟩ = some v ∧ w'.frozen? ⟨P, 1, none⟩ = false ∧ P < w'.heap.size := by
 obtain ⟨v', w', hrun, how, hgr⟩ := app1 (enc := holE) (t := 123) holK hol1 Tryz.underlying123 info44 rfl (by omega) W (w.heap.size + os.length) v T.wait x b c a.bx.size a.own.ov hb (by omega) (by unfold maxLen; omega)
 obtain ⟨a', c', rfl⟩ := own_len how;have hlen : (T.wait ++ [x]).length = T.wait.length + 1 := by simp
 rw [hlen] at how hrun;have hbx := box_type hgr a.own.ov a.box (by decide);have hbw : Bx w os w' := a.bx.grown (B := 0) hgr a.own.ov;refine ⟨a', c', w', hrun, ⟨⟨fun i hi => (heap_set_other _ _ _ _ _ (by have := a.lP; omega)).trans (hbw.at_ i hi), belowSet _ hbw.bel (by have := a.lP; omega), by simpa using hbw.size⟩, heap_set hbx 1 _, ⟨own_cell (a.own.oh.kept hgr a.sep) hbx (by decide), own_cell (by rw [hlen]; exact how) hbx (by decide)⟩⟩, by rw [cell_at hbx]; rfl, by rw [cell_at hbx]; rfl, free_at hbx 1, (Array.getElem?_eq_some_iff.1 hbx).1⟩
end Go.Proofs.YtiinigifjdpicaaGreatDoor.Se
