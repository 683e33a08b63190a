/- Texts of my own, laid together. -/
import Derived.Test.YtiinigifjdpicaaGreatDoorMc13
import Derived.Test.YtiinigifjdpicaaGreatDoorMc05
import Derived.Lib.AppendZeros
namespace Go.Proofs.YtiinigifjdpicaaGreatDoor
open Go.RowKit
set_option linter.all false
theorem SGot.amts {w : World} {v : Value} {l : List AmtV} (h : Amts w v l) : ∃ a c, v = .slice a l.length c ∧ l.length * 16 ≤ 140737488355328 ∧ ∀ i (h : i < l.length), ∃ b off, a = some ⟨b, off, none⟩ ∧ b < w.heap.size ∧ w.cell? ⟨b, off + i * 2, none⟩ = some (.int .i64 (l[i]).k) ∧ w.cell? ⟨b, off + i * 2 + 1, none⟩ = some (.int .i64 (l[i]).n) := by
 obtain ⟨h8, a, c, e, hc, hr⟩ := h;refine ⟨a, c, e, h8, fun i hi => ?_⟩;obtain ⟨b, off, ha, hb, hcell⟩ := hr (by omega);have g := celC_get amtK l i hi
 exact ⟨b, off, ha, hb, (hcell (i * 2) (by omega)).trans (g 0 (by omega)), (hcell (i * 2 + 1) (by omega)).trans (g 1 (by omega))⟩
set_option maxHeartbeats 4000000 in
theorem indexAm_is (g : Nat) (lb : Array Value) (eg : ∀ args w, (callFunc g args).run Tryz.prog w = .ok (.enter g args) w) (v : Value) (l : List AmtV) (p : AmtV → Bool) (w : World) (h : Amts w v l) (hp : ∀ x ∈ l, ∀ W, Below w.heap.size w W → Calls Tryz.prog g (#[.agg (amtE x).toArray] ++ lb) W fun e w' => e = .returned (.bool (p x)) ∧ Below w.heap.size w w') :
  Calls Tryz.prog 169 #[v, .func (.func g) #[] lb] w fun e w' => e = .returned (.int .i64 (idxI p l)) ∧ Below w.heap.size w w' := by
 obtain ⟨a, c, rfl, h8, hr⟩ := h.amts;have HH := hideIt hr;have HP := hideIt hp;clear hr h hp
 go_enter Tryz.func169, Tryz.ntmps169
 go_wp2
 go_loopw [5, 8] (fun _ v wr => ∃ t : Nat, v = .int .i64 t ∧ t ≤ l.length ∧ Hid (l.findIdx? p = ((l.drop t).findIdx? p).map (· + t) ∧ Below w.heap.size w wr)) (fun _ v _ => l.length - (intOf v).toNat)
 case atStart => exact ⟨0, rfl, Nat.zero_le _, hideIt ⟨by simp, Below.refl _ _⟩⟩
 case round =>
  obtain ⟨t, rfl, ht, HR⟩ := hrel
  by_cases hlt : t < l.length
  ·have hltI : (t : Int) < (l.length : Int) := by omega
   have ht0 : (0 : Int) ≤ (t : Int) := by omega
   have hw : IntKind.i64.wrap ((t : Int) + 1) = (t : Int) + 1 := by rw [IntKind.wrap_i64]; omega
   obtain ⟨b, off, rfl, hbl, q0, q1⟩ := HH.out t hlt;have hB := HR.out.2;have hBS := hB.size;have hblr : b < wr.heap.size := by omega
   have c0 := ((HR.out.2).cell (p := ⟨b, off + t * 2, none⟩) hbl).trans q0;have c1 := ((HR.out.2).cell (p := ⟨b, off + t * 2 + 1, none⟩) hbl).trans q1;clear q0 q1;have HC := hideIt (HP.out l[t] (List.getElem_mem hlt) wr hB);clear HH HP hB hBS hbl;cases hq : p l[t]
   ·rw [hq] at HC;have HF : Hid (l.findIdx? p = ((l.drop (t + 1)).findIdx? p).map (· + (t + 1))) := by
     show _ = _
     rw [HR.out.1, fi_miss hlt hq, Option.map_map]
     congr 1
     funext x
     simp only [Function.comp];omega
    clear HR hq;generalize l[t] = en at *;obtain ⟨k1, n1⟩ := en;unfold amtE at HC
    (try dsimp only at c0 c1 HC)
    go_wp2_with fail
    refine HC.out.mono ?_;rintro e w' ⟨rfl, hb'⟩;dsimp only;go_wp2
    go_roundw
    case rel => exact ⟨t + 1, by go_num, by omega, hideIt ⟨HF.out, hb'⟩⟩
    case measure => simp [intOf]; omega
   ·rw [hq] at HC;have HF : Hid (idxI p l = (t : Int)) := by
     show _ = _
     unfold idxI;rw [HR.out.1, fi_hit hlt hq]
     simp
    clear HR hq;generalize l[t] = en at *;obtain ⟨k1, n1⟩ := en;unfold amtE at HC
    (try dsimp only at c0 c1 HC)
    go_wp2_with fail
    refine HC.out.mono ?_;rintro e w' ⟨rfl, hb'⟩;dsimp only;go_wp2;go_ret
    exact ⟨by rw [HF.out]; rfl, hb'⟩
  ·have hltI : ¬ (t : Int) < (l.length : Int) := by omega
   have HF : Hid (idxI p l = -1) := by
    show _ = _
    unfold idxI;rw [HR.out.1, List.drop_of_length_le (by omega)]
    rfl
   have HB := hideIt HR.out.2;clear HR HP HH;go_wp2;go_ret
   exact ⟨by rw [HF.out]; rfl, HB.out⟩
set_option maxHeartbeats 4000000 in
theorem containsAm_is (g : Nat) (lb : Array Value) (eg : ∀ args w, (callFunc g args).run Tryz.prog w = .ok (.enter g args) w) (v : Value) (l : List AmtV) (p : AmtV → Bool) (w : World) (h : Amts w v l) (hp : ∀ x ∈ l, ∀ W, Below w.heap.size w W → Calls Tryz.prog g (#[.agg (amtE x).toArray] ++ lb) W fun e w' => e = .returned (.bool (p x)) ∧ Below w.heap.size w w') :
  Calls Tryz.prog 136 #[v, .func (.func g) #[] lb] w fun e w' => e = .returned (.bool (l.any p)) ∧ Below w.heap.size w w' := by
 have HC := hideIt (indexAm_is g lb eg v l p w h hp);obtain ⟨a, c, rfl, h8, hr⟩ := h.amts;clear hr h hp;have HE := hideIt (idx_any p l);generalize idxI p l = r at *;generalize l.any p = q at *
 go_enter Tryz.func136, Tryz.ntmps136
 go_wp2_with fail
 refine HC.out.mono ?_;rintro e w1 ⟨rfl, hb⟩;dsimp only;go_wp2;go_ret
 exact ⟨by rw [HE.out]; rfl, hb⟩
set_option maxHeartbeats 4000000 in
theorem indexAc_is (g : Nat) (lb : Array Value) (eg : ∀ args w, (callFunc g args).run Tryz.prog w = .ok (.enter g args) w) (v : Value) (l : List AccX) (p : AccX → Bool) (w : World) (h : Accs w v l) (hp : ∀ x ∈ l, ∀ W, Below w.heap.size w W → Calls Tryz.prog g (#[.agg (accE x).toArray] ++ lb) W fun e w' => e = .returned (.bool (p x)) ∧ Below w.heap.size w w') :
  Calls Tryz.prog 61 #[v, .func (.func g) #[] lb] w fun e w' => e = .returned (.int .i64 (idxI p l)) ∧ Below w.heap.size w w' := by
 obtain ⟨a, c, rfl, h8, hr⟩ := h.two;have HH := hideIt hr;have HP := hideIt hp;clear hr h hp
 go_enter Tryz.func61, Tryz.ntmps61
 go_wp2
 go_loopw [5, 8] (fun _ v wr => ∃ t : Nat, v = .int .i64 t ∧ t ≤ l.length ∧ Hid (l.findIdx? p = ((l.drop t).findIdx? p).map (· + t) ∧ Below w.heap.size w wr)) (fun _ v _ => l.length - (intOf v).toNat)
 case atStart => exact ⟨0, rfl, Nat.zero_le _, hideIt ⟨by simp, Below.refl _ _⟩⟩
 case round =>
  obtain ⟨t, rfl, ht, HR⟩ := hrel
  by_cases hlt : t < l.length
  ·have hltI : (t : Int) < (l.length : Int) := by omega
   have ht0 : (0 : Int) ≤ (t : Int) := by omega
   have hw : IntKind.i64.wrap ((t : Int) + 1) = (t : Int) + 1 := by rw [IntKind.wrap_i64]; omega
   obtain ⟨b, off, rfl, hbl, q0, q1⟩ := HH.out t hlt;have hB := HR.out.2;have hBS := hB.size;have hblr : b < wr.heap.size := by omega
   have c0 := ((HR.out.2).cell (p := ⟨b, off + t * 2, none⟩) hbl).trans q0;have c1 := ((HR.out.2).cell (p := ⟨b, off + t * 2 + 1, none⟩) hbl).trans q1;clear q0 q1;have HC := hideIt (HP.out l[t] (List.getElem_mem hlt) wr hB);clear HH HP hB hBS hbl;cases hq : p l[t]
   ·rw [hq] at HC;have HF : Hid (l.findIdx? p = ((l.drop (t + 1)).findIdx? p).map (· + (t + 1))) := by
     show _ = _
     rw [HR.out.1, fi_miss hlt hq, Option.map_map]
     congr 1
     funext x
     simp only [Function.comp];omega
    clear HR hq;generalize l[t] = en at *;obtain ⟨⟨k1, n1⟩, f1, f2⟩ := en;unfold accE at HC
    (try dsimp only at c0 c1 HC)
    go_wp2_with fail
    refine HC.out.mono ?_;rintro e w' ⟨rfl, hb'⟩;dsimp only;go_wp2
    go_roundw
    case rel => exact ⟨t + 1, by go_num, by omega, hideIt ⟨HF.out, hb'⟩⟩
    case measure => simp [intOf]; omega
   ·rw [hq] at HC;have HF : Hid (idxI p l = (t : Int)) := by
     show _ = _
     unfold idxI;rw [HR.out.1, fi_hit hlt hq]
     simp
    clear HR hq;generalize l[t] = en at *;obtain ⟨⟨k1, n1⟩, f1, f2⟩ := en;unfold accE at HC
    (try dsimp only at c0 c1 HC)
    go_wp2_with fail
    refine HC.out.mono ?_;rintro e w' ⟨rfl, hb'⟩;dsimp only;go_wp2;go_ret
    exact ⟨by rw [HF.out]; rfl, hb'⟩
  ·have hltI : ¬ (t : Int) < (l.length : Int) := by omega
   have HF : Hid (idxI p l = -1) := by
    show _ = _
    unfold idxI;rw [HR.out.1, List.drop_of_length_le (by omega)]
    rfl
   have HB := hideIt HR.out.2;clear HR HP HH;go_wp2;go_ret
   exact ⟨by rw [HF.out]; rfl, HB.out⟩
set_option maxHeartbeats 4000000 in
theorem containsAc_is (g : Nat) (lb : Array Value) (eg : ∀ args w, (callFunc g args).run Tryz.prog w = .ok (.enter g args) w) (v : Value) (l : List AccX) (p : AccX → Bool) (w : World) (h : Accs w v l) (hp : ∀ x ∈ l, ∀ W, Below w.heap.size w W → Calls Tryz.prog g (#[.agg (accE x).toArray] ++ lb) W fun e w' => e = .returned (.bool (p x)) ∧ Below w.heap.size w w') :
  Calls Tryz.prog 36 #[v, .func (.func g) #[] lb] w fun e w' => e = .returned (.bool (l.any p)) ∧ Below w.heap.size w w' := by
 have HC := hideIt (indexAc_is g lb eg v l p w h hp);obtain ⟨a, c, rfl, h8, hr⟩ := h.two;clear hr h hp;have HE := hideIt (idx_any p l);generalize idxI p l = r at *;generalize l.any p = q at *
 go_enter Tryz.func36, Tryz.ntmps36
 go_wp2_with fail
 refine HC.out.mono ?_;rintro e w1 ⟨rfl, hb⟩;dsimp only;go_wp2;go_ret
 exact ⟨by rw [HE.out]; rfl, hb⟩
set_option maxHeartbeats 4000000 in
theorem indexLn_is (g : Nat) (lb : Array Value) (eg : ∀ args w, (callFunc g args).run Tryz.prog w = .ok (.enter g args) w) (v : Value) (l : List LanX) (p : LanX → Bool) (w : World) (h : Lns w v l) (hp : ∀ x ∈ l, ∀ W, Below w.heap.size w W → Calls Tryz.prog g (#[.agg (lanE x).toArray] ++ lb) W fun e w' => e = .returned (.bool (p x)) ∧ Below w.heap.size w w') :
  Calls Tryz.prog 64 #[v, .func (.func g) #[] lb] w fun e w' => e = .returned (.int .i64 (idxI p l)) ∧ Below w.heap.size w w' := by
 obtain ⟨a, c, rfl, h8, hr⟩ := h.five;have HH := hideIt hr;have HP := hideIt hp;clear hr h hp
 go_enter Tryz.func64, Tryz.ntmps64
 go_wp2
 go_loopw [5, 8] (fun _ v wr => ∃ t : Nat, v = .int .i64 t ∧ t ≤ l.length ∧ Hid (l.findIdx? p = ((l.drop t).findIdx? p).map (· + t) ∧ Below w.heap.size w wr)) (fun _ v _ => l.length - (intOf v).toNat)
 case atStart => exact ⟨0, rfl, Nat.zero_le _, hideIt ⟨by simp, Below.refl _ _⟩⟩
 case round =>
  obtain ⟨t, rfl, ht, HR⟩ := hrel
  by_cases hlt : t < l.length
  ·have hltI : (t : Int) < (l.length : Int) := by omega
   have ht0 : (0 : Int) ≤ (t : Int) := by omega
   have hw : IntKind.i64.wrap ((t : Int) + 1) = (t : Int) + 1 := by rw [IntKind.wrap_i64]; omega
   obtain ⟨b, off, rfl, hbl, q0, q1, q2, q3, q4⟩ := HH.out t hlt;have hB := HR.out.2;have hBS := hB.size;have hblr : b < wr.heap.size := by omega
   have c0 := ((HR.out.2).cell (p := ⟨b, off + t * 5, none⟩) hbl).trans q0;have c1 := ((HR.out.2).cell (p := ⟨b, off + t * 5 + 1, none⟩) hbl).trans q1;have c2 := ((HR.out.2).cell (p := ⟨b, off + t * 5 + 2, none⟩) hbl).trans q2;have c3 := ((HR.out.2).cell (p := ⟨b, off + t * 5 + 3, none⟩) hbl).trans q3;have c4 := ((HR.out.2).cell (p := ⟨b, off + t * 5 + 4, none⟩) hbl).trans q4;clear q0 q1 q2 q3 q4;have HC := hideIt (HP.out l[t] (List.getElem_mem hlt) wr hB);clear HH HP hB hBS hbl;cases hq : p l[t]
   ·rw [hq] at HC;have HF : Hid (l.findIdx? p = ((l.drop (t + 1)).findIdx? p).map (· + (t + 1))) := by
     show _ = _
     rw [HR.out.1, fi_miss hlt hq, Option.map_map]
     congr 1
     funext x
     simp only [Function.comp];omega
    clear HR hq;generalize l[t] = en at *;obtain ⟨⟨k1, n1, l1, l2, l3⟩, f1, f2, f3, f4, f5, f6⟩ := en;unfold lanE at HC
    (try dsimp only at c0 c1 c2 c3 c4 HC)
    go_wp2_with fail
    refine HC.out.mono ?_;rintro e w' ⟨rfl, hb'⟩;dsimp only;go_wp2
    go_roundw
    case rel => exact ⟨t + 1, by go_num, by omega, hideIt ⟨HF.out, hb'⟩⟩
    case measure => simp [intOf]; omega
   ·rw [hq] at HC;have HF : Hid (idxI p l = (t : Int)) := by
     show _ = _
     unfold idxI;rw [HR.out.1, fi_hit hlt hq]
     simp
    clear HR hq;generalize l[t] = en at *;obtain ⟨⟨k1, n1, l1, l2, l3⟩, f1, f2, f3, f4, f5, f6⟩ := en;unfold lanE at HC
    (try dsimp only at c0 c1 c2 c3 c4 HC)
    go_wp2_with fail
    refine HC.out.mono ?_;rintro e w' ⟨rfl, hb'⟩;dsimp only;go_wp2;go_ret
    exact ⟨by rw [HF.out]; rfl, hb'⟩
  ·have hltI : ¬ (t : Int) < (l.length : Int) := by omega
   have HF : Hid (idxI p l = -1) := by
    show _ = _
    unfold idxI;rw [HR.out.1, List.drop_of_length_le (by omega)]
    rfl
   have HB := hideIt HR.out.2;clear HR HP HH;go_wp2;go_ret
   exact ⟨by rw [HF.out]; rfl, HB.out⟩
set_option maxHeartbeats 4000000 in
theorem containsLn_is (g : Nat) (lb : Array Value) (eg : ∀ args w, (callFunc g args).run Tryz.prog w = .ok (.enter g args) w) (v : Value) (l : List LanX) (p : LanX → Bool) (w : World) (h : Lns w v l) (hp : ∀ x ∈ l, ∀ W, Below w.heap.size w W → Calls Tryz.prog g (#[.agg (lanE x).toArray] ++ lb) W fun e w' => e = .returned (.bool (p x)) ∧ Below w.heap.size w w') :
  Calls Tryz.prog 39 #[v, .func (.func g) #[] lb] w fun e w' => e = .returned (.bool (l.any p)) ∧ Below w.heap.size w w' := by
 have HC := hideIt (indexLn_is g lb eg v l p w h hp);obtain ⟨a, c, rfl, h8, hr⟩ := h.five;clear hr h hp;have HE := hideIt (idx_any p l);generalize idxI p l = r at *;generalize l.any p = q at *
 go_enter Tryz.func39, Tryz.ntmps39
 go_wp2_with fail
 refine HC.out.mono ?_;rintro e w1 ⟨rfl, hb⟩;dsimp only;go_wp2;go_ret
 exact ⟨by rw [HE.out]; rfl, hb⟩
theorem egAbv : ∀ args w, (callFunc 137 args).run Tryz.prog w = .ok (.enter 137 args) w := enters_of Tryz.func137 (by kernel_rfl) rfl
theorem abv1_is (x : AmtV) (most : Int) (p : Nat) (W : World) (hp : W.cell? ⟨p, 0, none⟩ = some (.int .i64 most)) : Calls Tryz.prog 137 (#[.agg (amtE x).toArray] ++ #[.pointer (some ⟨p, 0, none⟩)]) W fun e w' => e = .returned (.bool (decide (most < x.n))) ∧ Below W.heap.size W w' := by
 have hpl : p < W.heap.size := by
  apply Classical.byContradiction
  intro h;have : W.heap[p]? = none := Array.getElem?_eq_none (by omega)
  simp [World.cell?, this] at hp
 obtain ⟨k, n⟩ := x;have hc : (W.alloc (.cells #[.int .i64 k, .int .i64 n] 53)).cell? ⟨p, 0, none⟩ = some (.int .i64 most) := ((below1 W _).cell hpl).trans hp
 show Calls Tryz.prog 137 #[.agg #[.int .i64 k, .int .i64 n], .pointer (some ⟨p, 0, none⟩)] W _
 go_enter Tryz.func137, Tryz.ntmps137
 go_wp2;go_ret
 exact ⟨rfl, below1 W _⟩
set_option maxHeartbeats 1000000 in
theorem hasAbove_is (v : Value) (l : List AmtV) (most : Int) (w : World) (h : Amts w v l) : Calls Tryz.prog 109 #[v, .int .i64 most] w fun e w' => e = .returned (.bool (aboveB Lg.AmtV.n l most)) ∧ Below w.heap.size w w' := by
 have hb1 := below1 w (.cells #[.int .i64 most] 3);have hc0 : (w.alloc (.cells #[.int .i64 most] 3)).cell? ⟨w.heap.size, 0, none⟩ = some (.int .i64 most) := by rw [cell_at (heap_alloc_new w _)]; rfl
 have HC := hideIt (containsAm_is 137 #[.pointer (some ⟨w.heap.size, 0, none⟩)] egAbv v l (fun x => decide (most < x.n)) (w.alloc (.cells #[.int .i64 most] 3)) (h.keep hb1) (fun x _ W hW => (abv1_is x most w.heap.size W ((hW.cell (by simp)).trans hc0)).mono (fun _ _ hh => ⟨hh.1, below_via hW hh.2⟩)));have HB := hideIt hb1;obtain ⟨a, c, rfl⟩ := h.slice;clear hb1 hc0 h;unfold aboveB;generalize l.length = n at *;generalize l.any (fun e => decide (most < e.n)) = q at *
 go_enter Tryz.func109, Tryz.ntmps109
 go_wp2_with fail
 refine HC.out.mono ?_;rintro e w1 ⟨rfl, hb⟩;dsimp only;go_wp2;go_ret
 exact ⟨rfl, below_via HB.out hb⟩
theorem egM1 : ∀ args w, (callFunc 37 args).run Tryz.prog w = .ok (.enter 37 args) w := enters_of Tryz.func37 (by kernel_rfl) rfl
theorem egM2 : ∀ args w, (callFunc 40 args).run Tryz.prog w = .ok (.enter 40 args) w := enters_of Tryz.func40 (by kernel_rfl) rfl
theorem mdlA_is (x : AccX) (W : World) (h : AccAt W x) : Calls Tryz.prog 37 (#[.agg (accE x).toArray] ++ #[]) W fun e w' => e = .returned (.bool (!Lg.accB x.v)) ∧ Below W.heap.size W w' := by
 obtain ⟨⟨l, ct⟩, fa, fc⟩ := x;have hb1 := below1 W (.cells #[.slice fa l.length fc, .int .i64 ct] 44);have HC := hideIt (Lg.check_is ⟨l, ct⟩ (.slice fa l.length fc) _ (SGot.keep h hb1));have HB := hideIt hb1;have HI : Hid (Lg.chkI ⟨l, ct⟩ = if Lg.accB ⟨l, ct⟩ then 0 else 120) := rfl;clear hb1 h;unfold Lg.accV Lg.accA at HC
 show Calls Tryz.prog 37 #[.agg #[.slice fa l.length fc, .int .i64 ct]] W _
 simp only at *;generalize Lg.chkI ⟨l, ct⟩ = ck at *;generalize Lg.accB ⟨l, ct⟩ = ab at *;generalize l.length = n at *
 go_enter Tryz.func37, Tryz.ntmps37
 go_wp2_with fail
 refine HC.out.mono ?_;rintro e w1 ⟨rfl, hb⟩;dsimp only;have hi := HI.out;subst hi;clear HI HC;cases ab
 ·simp only [Bool.false_eq_true, if_false, Bool.not_false];go_wp2;go_ret
  exact ⟨rfl, below_via HB.out hb⟩
 ·simp only [if_true, Bool.not_true];go_wp2;go_ret
  exact ⟨rfl, below_via HB.out hb⟩
theorem mdlL_is (x : LanX) (W : World) (h : LanAt W x) : Calls Tryz.prog 40 (#[.agg (lanE x).toArray] ++ #[]) W fun e w' => e = .returned (.bool (!chkB x.v)) ∧ Below W.heap.size W w' := by
 obtain ⟨⟨call, next, bids, asks, owed⟩, ba, bc, aa, ac, oa, oc⟩ := x;have hb1 := below1 W (.cells #[.bool call, .int .i64 next, .slice ba bids.length bc, .slice aa asks.length ac, .slice oa owed.length oc] 59);have HC := hideIt (check_is ⟨call, next, bids, asks, owed⟩ (.slice ba bids.length bc) (.slice aa asks.length ac) (.slice oa owed.length oc) _ (Lan.keep h hb1));have HB := hideIt hb1;have HI : Hid (chkI ⟨call, next, bids, asks, owed⟩ = if chkB ⟨call, next, bids, asks, owed⟩ then 0 else 130) := rfl;clear hb1 h;unfold laneV laneA at HC
 show Calls Tryz.prog 40 #[.agg #[.bool call, .int .i64 next, .slice ba bids.length bc, .slice aa asks.length ac, .slice oa owed.length oc]] W _
 simp only at *;generalize chkI ⟨call, next, bids, asks, owed⟩ = ck at *;generalize chkB ⟨call, next, bids, asks, owed⟩ = ab at *;generalize bids.length = n1 at *;generalize asks.length = n2 at *;generalize owed.length = n3 at *
 go_enter Tryz.func40, Tryz.ntmps40
 go_wp2_with fail
 refine HC.out.mono ?_;rintro e w1 ⟨rfl, hb⟩;dsimp only;have hi := HI.out;subst hi;clear HI HC;cases ab
 ·simp only [Bool.false_eq_true, if_false, Bool.not_false];go_wp2;go_ret
  exact ⟨rfl, below_via HB.out hb⟩
 ·simp only [if_true, Bool.not_true];go_wp2;go_ret
  exact ⟨rfl, below_via HB.out hb⟩
theorem any_all {α β : Type} (f : α → β) (p : β → Bool) (l : List α) : (!l.any (fun x => !p (f x))) = (l.map f).all p := by
 induction l with
 | nil => rfl
 | cons x l ih => simp only [List.any_cons, List.map_cons, List.all_cons, Bool.not_or, Bool.not_not, ih]
set_option maxHeartbeats 4000000 in
set_option maxRecDepth 100000 in
theorem mayBe_is (va vl : Value) (M : MdlV) (w : World) (h : Mdl w va vl M) : Calls Tryz.prog 20 #[.agg #[va, vl]] w fun e w' => e = .returned (.bool (mayM M)) ∧ Below w.heap.size w w' := by
 obtain ⟨⟨xs, hx, h1⟩, ys, hy, h2⟩ := h;have hb1 := below1 w (.cells #[va, vl] 30);have HA := hideIt (containsAc_is 37 #[] egM1 va xs (fun x => !Lg.accB x.v) _ (h1.keep hb1) (fun x hx W hW => (mdlA_is x W (((h1.keep hb1).at_ x hx).keep hW)).mono (fun _ _ hh => ⟨hh.1, below_via hW hh.2⟩)));have HL := hideIt (fun W (hW : Below w.heap.size w W) => containsLn_is 40 #[] egM2 vl ys (fun x => !chkB x.v) W (h2.keep hW) (fun x hx W2 hW2 => (mdlL_is x W2 (((h2.keep hW).at_ x hx).keep hW2)).mono (fun _ _ hh => ⟨hh.1, below_via hW2 hh.2⟩)));have HB := hideIt hb1;have HE : Hid (mayM M = (decide (xs.length = 8) && (decide (ys.length = 3) && (!(xs.any (fun x => !Lg.accB x.v)) && !(ys.any (fun x => !chkB x.v)))))) := by
  show _ = _
  unfold mayM;rw [any_all AccX.v Lg.accB, any_all LanX.v chkB, hx, hy, ← hx, ← hy, List.length_map, List.length_map]
 obtain ⟨aa, ac, rfl⟩ := h1.row.slice;obtain ⟨la, lc, rfl⟩ := h2.row.slice;clear hb1 h1 h2 hx hy;rw [HE.out];clear HE;generalize xs.any (fun x => !Lg.accB x.v) = p at *;generalize ys.any (fun x => !chkB x.v) = q at *;generalize xs.length = n at *;generalize ys.length = k at *
 by_cases e8 : n = 8
 ·by_cases e3 : k = 3
  ·subst e8 e3;cases p
   ·go_enter Tryz.func20, Tryz.ntmps20
    go_wp2_with fail
    refine HA.out.mono ?_;rintro e w1 ⟨rfl, hb⟩;dsimp only;have HB2 := hideIt (below_via HB.out hb);have cl : w1.cell? ⟨w.heap.size, 1, none⟩ = some (.slice la 3 lc) := (box_cell hb 1).trans rfl;clear HA HB hb
    go_wp2_with fail
    refine (HL.out _ HB2.out).mono ?_;rintro e w2 ⟨rfl, hb⟩;dsimp only;go_wp2;go_ret
    exact ⟨by simp, below_via HB2.out hb⟩
   ·go_enter Tryz.func20, Tryz.ntmps20
    go_wp2_with fail
    refine HA.out.mono ?_;rintro e w1 ⟨rfl, hb⟩;dsimp only;go_wp2;go_ret
    exact ⟨by simp, below_via HB.out hb⟩
  ·have e3I : ((k : Int) == 3) = false := beq_eq_false_iff_ne.2 (by omega);have E3 : decide (k = 3) = false := decide_eq_false e3;subst e8
   go_enter Tryz.func20, Tryz.ntmps20
   go_wp2;go_ret
   exact ⟨by rw [E3]; simp, HB.out⟩
 ·have e8I : ((n : Int) == 8) = false := beq_eq_false_iff_ne.2 (by omega);have E8 : decide (n = 8) = false := decide_eq_false e8
  go_enter Tryz.func20, Tryz.ntmps20
  go_wp2;go_ret
  exact ⟨by rw [E8]; simp, HB.out⟩
end Go.Proofs.YtiinigifjdpicaaGreatDoor
namespace Go.Proofs.YtiinigifjdpicaaGreatDoor.Se
open Go.RowKit
set_option linter.all false
theorem app_none {t e : TypeId} {z : Value} {k bytes : Nat} (ht : Tryz.prog.underlying t = some (.slice e)) (hi : (Tryz.prog.info? e).map (fun i => (i.zero, i.size, i.bytes)) = some (some z, k, bytes)) (w : World) (B : Nat) (v : Value) (n : Nat) (xs : List Value) (hown : w.ownsRow B e k v n xs) (c : Nat) : (Builtin.append_ #[t, t] t #[v, .slice none 0 c]).run Tryz.prog w = .ok v w := by
 obtain ⟨i, hi, hz0, hz1, hz2⟩ := info_parts hi
 rcases hown.2 with ⟨rfl, rfl⟩ | ⟨g, cap, cur, rfl, _, _, hnc, _⟩
 ·simp [Builtin.append_, run_underlying ht, sizeOf, typeInfo, hi, Builtin.lenOf, Builtin.firstCells]
 ·simp [Builtin.append_, run_underlying ht, sizeOf, typeInfo, hi, Builtin.lenOf, Builtin.firstCells, hnc, storeCells]
theorem appG {α : Type} {k bytes : Nat} {enc : α → List Value} {t e : TypeId} {z : Value} (hk : ∀ x, (enc x).length = k) (h1 : ∀ x, ∀ u ∈ enc x, u.oneCell' = true) (ht : Tryz.prog.underlying t = some (.slice e))
  (hi : (Tryz.prog.info? e).map (fun i => (i.zero, i.size, i.bytes)) = some (some z, k, bytes)) (hz : z.cells.size = k) (hk0 : 0 < k) (hb0 : 8 ≤ bytes) (w : World) (B : Nat) (v g : Value) (xs l : List α) (hB : B ≤ w.heap.size)
  (ho : w.ownsRow B e k v xs.length (celC enc xs)) (hg : SGot k bytes enc w g l) (hl : (xs.length + l.length) * bytes ≤ 140737488355328) :
  ∃ v' w', (Builtin.append_ #[t, t] t #[v, g]).run Tryz.prog w = .ok v' w' ∧ w'.ownsRow B e k v' (xs ++ l).length (celC enc (xs ++ l)) ∧ w.grownBy w' v.ownBlock := by
 obtain ⟨a, c, rfl⟩ := hg.slice;cases a with
 | none =>
  have h0 : l.length = 0 := by
   obtain ⟨_, a', c', e', _, hr⟩ := hg;simp only [Value.slice.injEq] at e'
   rcases Nat.eq_zero_or_pos l.length with h0 | h0
   ·exact h0
   ·obtain ⟨b, off, hb, _⟩ := hr h0;rw [← e'.1] at hb;cases hb
  have hl0 : l = [] := List.length_eq_zero_iff.1 h0;subst hl0;rw [List.append_nil]
  exact ⟨v, w, app_none ht hi w B v xs.length (celC enc xs) ho c, ho, grown_refl w _⟩
 | some b => exact appL hk h1 ht hi hz hk0 hb0 w B v xs l b l.length c rfl hB ho hg hl
set_option maxHeartbeats 4000000 in
theorem grow_is (n : Nat) (w : World) (hn : n ≤ 1000) : Calls Tryz.prog 74 #[.slice none 0 0, .int .i64 (n : Int)] w fun e w' => ∃ v, e = .returned v ∧ w'.ownsRow w.heap.size 24 2 v 0 [] ∧ Below w.heap.size w w' := by
 rcases Nat.eq_zero_or_pos n with rfl | hp
 ·go_enter Tryz.func74, Tryz.ntmps74
  go_wp2;go_ret
  exact ⟨_, rfl, ⟨rfl, .inl ⟨rfl, rfl⟩⟩, Below.refl _ _⟩
 ·obtain ⟨i, hi, hz0, hz1, hz2⟩ := info_parts info23;have hrun := Lib.run_append_nil_zeros (P := Tryz.prog) w 48 3 48 24 i _ .i64 .i64 Tryz.underlying48 Tryz.underlying3 hi hz0 n hp (by omega) (by omega) (by rw [hz2]; omega)
  have hcap := grownCap_ge w n 0 24;have hcm := grownCap_le_maxLen w n 0 24 (by unfold maxLen; omega)
  generalize grownCap w n 0 24 = cap at *;obtain ⟨W, HRUN, hH⟩ : ∃ W, Hid ((Builtin.append_ #[48, 3] 48 #[.slice none 0 0, .int .i64 (n : Int)]).run Tryz.prog w = .ok (.slice (some ⟨w.heap.size, 0, none⟩) n cap) W) ∧ Hid (W.ownsRow w.heap.size 24 2 (.slice (some ⟨w.heap.size, 0, none⟩) 0 cap) 0 [] ∧ Below w.heap.size w W) := by
   refine ⟨_, hrun, ⟨rfl, .inr ⟨w.heap.size, cap, _, rfl, Nat.le_refl _, heap_alloc_new w.drew _, Nat.zero_le _, hcm, ?_, by simp⟩⟩, (Below.refl _ w).drew.alloc (Nat.le_refl _) _⟩;rw [Array.size_append, size_zeroCells, size_zeroCells]
   show n * 2 + (cap - n) * 2 = cap * 2
   omega
  have hnI : (0 : Int) < (n : Int) := by omega
  have hn0 : ¬ ((n : Int) < 0) := by omega
  have hcapI : (0 : Int) ≤ (cap : Int) := by omega
  clear hi hz0 hz1 hz2 hcm hrun
  go_enter Tryz.func74, Tryz.ntmps74
  go_wp2_with (at_builtin; refine Lib.wpList_append_run _ rfl _ _ _ _ rfl _ _ rfl rfl _ _ HRUN.out ?_)
  clear HRUN;go_wp2;go_ret
  exact ⟨_, rfl, hH.out.1, hH.out.2⟩
def LsGot (w : World) (v : Value) (gs : List Value) (ls : List (List KeyV)) : Prop :=
 gs.length = ls.length ∧ ∃ a c, v = .slice a ls.length c ∧ ∀ j (h : j < ls.length) (h2 : j < gs.length), ∃ b off, a = some ⟨b, off, none⟩ ∧ b < w.heap.size ∧ w.cell? ⟨b, off + j, none⟩ = some gs[j] ∧ SGot 2 16 keyE w gs[j] ls[j]
theorem flat_step (ls : List (List KeyV)) (t : Nat) (h : t < ls.length) : (ls.take (t + 1)).flatten = (ls.take t).flatten ++ ls[t] := by
 rw [List.take_succ_eq_append_getElem h, List.flatten_append]
 simp
theorem flat_le (ls : List (List KeyV)) (t : Nat) : (ls.take t).flatten.length ≤ ls.flatten.length := by
 have : ls.flatten.length = (ls.take t).flatten.length + (ls.drop t).flatten.length := by
  rw [← List.length_append, ← List.flatten_append, List.take_append_drop]
 omega
set_option maxHeartbeats 8000000 in
set_option maxRecDepth 100000 in
theorem concat_is (v : Value) (gs : List Value) (ls : List (List KeyV)) (l : List KeyV) (hf : ls.flatten = l) (w : World) (h : LsGot w v gs ls) (hl : l.length ≤ 1000) (hll : ls.length ≤ 1000) : Calls Tryz.prog 50 #[v] w fun e w' => ∃ r, e = .returned r ∧ w'.ownsRow w.heap.size 24 2 r l.length (celC keyE l) ∧ Below w.heap.size w w' := by
 obtain ⟨hgl, a, c, rfl, hr⟩ := h;have HR := hideIt hr;have HG := hideIt (grow_is l.length w hl);have HF := hideIt (flat_step ls);have HFL := hideIt (flat_le ls);rw [hf] at HFL;have HHF := hideIt hf;clear hf;clear hr
 go_enter Tryz.func50, Tryz.ntmps50
 go_wp2
 go_loopw [3, 11] (fun u x wr => ∃ t : Nat, u = .int .i64 ((ls.take t).flatten.length : Int) ∧ x = .int .i64 t ∧ t ≤ ls.length ∧ wr = w) (fun _ x _ => ls.length - (intOf x).toNat)
 case atStart => exact ⟨0, rfl, rfl, Nat.zero_le _, rfl⟩
 case round =>
  obtain ⟨t, rfl, rfl, ht, hw⟩ := hrel;have hw2 := hw.symm;subst hw2;clear hw
  by_cases hlt : t < ls.length
  ·have hltI : (t : Int) < (ls.length : Int) := by omega
   have ht0 : (0 : Int) ≤ (t : Int) := by omega
   obtain ⟨b, off, rfl, hbl, q0, hE⟩ := HR.out t hlt (by omega);obtain ⟨ga, gc, hg⟩ := hE.slice;rw [hg] at q0;have h1 := HFL.out t;have h2 := HFL.out (t + 1);have h3 : ((ls.take (t + 1)).flatten.length : Int) = ((ls.take t).flatten.length : Int) + (ls[t].length : Int) := by
    rw [HF.out t hlt, List.length_append];omega
   have H3 := hideIt h3;generalize ((ls.take t).flatten.length) = n1 at *;generalize (ls[t]).length = n2 at *;have h4 : n1 + n2 ≤ 1000 := by omega
   have h5 : ¬ ((n1 : Int) + (n2 : Int) < 0) := by omega
   clear hE h1 h2 h3;go_wp2
   go_roundw
   case rel => exact ⟨t + 1, by rw [H3.out], by go_num, by omega, by first | rfl | trivial⟩
   case measure => simp [intOf]; omega
  ·have hltI : ¬ (t : Int) < (ls.length : Int) := by omega
   have ht9 : ls.take t = ls := List.take_of_length_le (by omega);rw [ht9, HHF.out]
   go_wp2_with fail
   refine HG.out.mono ?_;rintro e w1 ⟨v0, rfl, ho, hb⟩;dsimp only;have HO := hideIt (And.intro ho hb);clear ho hb HG ht9;go_wp2
   go_loopw [6, 27] (fun u x wr => ∃ t : Nat, x = .int .i64 t ∧ t ≤ ls.length ∧ Hid (wr.ownsRow w.heap.size 24 2 u (ls.take t).flatten.length (celC keyE (ls.take t).flatten) ∧ Below w.heap.size w wr)) (fun _ x _ => ls.length - (intOf x).toNat)
   case atStart => exact ⟨0, rfl, Nat.zero_le _, HO⟩
   case round =>
    clear HO;obtain ⟨s, rfl, hs, HO⟩ := hrel
    by_cases hls : s < ls.length
    ·have hlsI : (s : Int) < (ls.length : Int) := by omega
     have hs0 : (0 : Int) ≤ (s : Int) := by omega
     obtain ⟨b, off, rfl, hbl, q0, hE⟩ := HR.out s hls (by omega);have q1 := (HO.out.2.cell (p := ⟨b, off + s, none⟩) hbl).trans q0;have h2 := HFL.out (s + 1);rw [HF.out s hls, List.length_append] at h2;obtain ⟨v', w', hrun, how, hgr⟩ := appG (enc := keyE) (t := 48) keyK key1 Tryz.underlying48 info23 rfl (by omega) (by omega) wr w.heap.size u6 gs[s] (ls.take s).flatten ls[s] HO.out.2.size HO.out.1 (hE.keep HO.out.2) (by omega);rw [← HF.out s hls] at how;have HN := hideIt (And.intro how (grown_own hgr HO.out.1 (Nat.le_refl _) HO.out.2));generalize gs[s] = gv at *;have HRUN := hideIt hrun;clear hrun how hgr q0 hE h2 HO
     go_wp2_with (at_builtin; refine Lib.wpList_append_run _ rfl _ _ _ _ rfl _ _ rfl rfl _ _ HRUN.out ?_)
     clear HRUN q1;go_wp2
     go_roundw
     case rel => exact ⟨s + 1, by go_num, by omega, HN⟩
     case measure => simp [intOf]; omega
    ·have hlsI : ¬ (s : Int) < (ls.length : Int) := by omega
     have hs9 : ls.take s = ls := List.take_of_length_le (by omega);rw [hs9, HHF.out] at HO;go_wp2;go_ret
     exact ⟨_, rfl, HO.out.1, HO.out.2⟩
theorem SGot.part {α : Type} {k bytes : Nat} {enc : α → List Value} (hk : ∀ x, (enc x).length = k) {w : World} {a : Option Addr} {c : Nat} {l : List α} (h : SGot k bytes enc w (.slice a l.length c) l) (p n c2 : Nat) (hp : p + n ≤ l.length) (hc2 : n ≤ c2 ∧ c2 ≤ maxLen) (a2 : Option Addr) (ha : 0 < n → ∀ b off, a = some ⟨b, off, none⟩ → a2 = some ⟨b, off + p * k, none⟩) : SGot k bytes enc w (.slice a2 n c2) ((l.drop p).take n) := by
 have hlen : ((l.drop p).take n).length = n := by
  rw [List.length_take, List.length_drop];omega
 obtain ⟨h8, a', c', e, _, hr⟩ := h;simp only [Value.slice.injEq] at e;obtain ⟨rfl, _, _⟩ := e;refine ⟨?_, a2, c2, by rw [hlen], by rw [hlen]; exact hc2, fun hp0 => ?_⟩
 ·rw [hlen];exact Nat.le_trans (Nat.mul_le_mul_right _ (by omega)) h8
 rw [hlen] at hp0;obtain ⟨b, off, rfl, hlt, hc⟩ := hr (by omega);refine ⟨b, off + p * k, ha hp0 b off rfl, hlt, fun j hj => ?_⟩;rw [hlen] at hj;have hpj : p * k + j < l.length * k := by
  have : p * k + n * k ≤ l.length * k := by rw [← Nat.add_mul]; exact Nat.mul_le_mul_right _ hp
  omega
 rw [show off + p * k + j = off + (p * k + j) by omega, hc (p * k + j) hpj];have e1 : celC enc l = celC enc (l.take p) ++ (celC enc ((l.drop p).take n) ++ celC enc ((l.drop p).drop n)) := by
  rw [← celC_app, ← celC_app, List.take_append_drop, List.take_append_drop]
 have l1 : (celC enc (l.take p)).length = p * k := by
  rw [celC_len hk, List.length_take]
  congr 1
  omega
 rw [e1, List.getElem?_append_right (by omega), l1, Nat.add_sub_cancel_left, List.getElem?_append_left (by rw [celC_len hk, hlen]; exact hj)]
theorem fitF1 {r : ReqV} (hk : r.kind = 1) : fitsB r = true ↔ (1 ≤ r.acct ∧ r.acct ≤ 8) ∧ r.lane = 0 ∧ (0 ≤ r.asset ∧ r.asset ≤ 3) ∧ r.side = 0 ∧ r.price = 0 ∧ (1 ≤ r.n ∧ r.n ≤ 1000000) ∧ r.now = false ∧ r.key = (0, 0) ∧ r.dst = 0 := by
 obtain ⟨k, a, l, s, d, p, n, o, ⟨kk, kn⟩, t⟩ := r;simp only at hk;subst hk;have hf : formF 1 = 37 := rfl;have hw : wiB 1 1 9 = true := rfl;unfold fitsB;dsimp only;rw [hf, hw];rw [show bits .and .i64 37 1 = 1 by kernel_rfl];rw [show bits .and .i64 37 2 = 0 by kernel_rfl];rw [show bits .and .i64 37 4 = 4 by kernel_rfl];rw [show bits .and .i64 37 8 = 0 by kernel_rfl];rw [show bits .and .i64 37 16 = 0 by kernel_rfl];rw [show bits .and .i64 37 32 = 32 by kernel_rfl];rw [show bits .and .i64 37 64 = 0 by kernel_rfl];rw [show bits .and .i64 37 128 = 0 by kernel_rfl];rw [show bits .and .i64 37 256 = 0 by kernel_rfl];unfold fitB fitK wiB
 simp
theorem keysK1 {r : ReqV} (hk : r.kind = 1) (hf : fitsB r = true) : keysB r = [(1, r.acct)] := by
 unfold keysB;rw [if_pos hf, hk]
 rfl
theorem fitF2 {r : ReqV} (hk : r.kind = 2) : fitsB r = true ↔ (1 ≤ r.acct ∧ r.acct ≤ 8) ∧ r.lane = 0 ∧ (0 ≤ r.asset ∧ r.asset ≤ 3) ∧ r.side = 0 ∧ r.price = 0 ∧ (1 ≤ r.n ∧ r.n ≤ 1000000) ∧ r.now = false ∧ r.key = (0, 0) ∧ r.dst = 0 := by
 obtain ⟨k, a, l, s, d, p, n, o, ⟨kk, kn⟩, t⟩ := r;simp only at hk;subst hk;have hf : formF 2 = 37 := rfl;have hw : wiB 2 1 9 = true := rfl;unfold fitsB;dsimp only;rw [hf, hw];rw [show bits .and .i64 37 1 = 1 by kernel_rfl];rw [show bits .and .i64 37 2 = 0 by kernel_rfl];rw [show bits .and .i64 37 4 = 4 by kernel_rfl];rw [show bits .and .i64 37 8 = 0 by kernel_rfl];rw [show bits .and .i64 37 16 = 0 by kernel_rfl];rw [show bits .and .i64 37 32 = 32 by kernel_rfl];rw [show bits .and .i64 37 64 = 0 by kernel_rfl];rw [show bits .and .i64 37 128 = 0 by kernel_rfl];rw [show bits .and .i64 37 256 = 0 by kernel_rfl];unfold fitB fitK wiB
 simp
theorem keysK2 {r : ReqV} (hk : r.kind = 2) (hf : fitsB r = true) : keysB r = [(1, r.acct)] := by
 unfold keysB;rw [if_pos hf, hk]
 rfl
theorem fitF3 {r : ReqV} (hk : r.kind = 3) : fitsB r = true ↔ (1 ≤ r.acct ∧ r.acct ≤ 8) ∧ (1 ≤ r.lane ∧ r.lane ≤ 3) ∧ r.asset = 0 ∧ (1 ≤ r.side ∧ r.side ≤ 2) ∧ (1 ≤ r.price ∧ r.price ≤ 1000000) ∧ (1 ≤ r.n ∧ r.n ≤ 1000000) ∧ r.key = (0, 0) ∧ r.dst = 0 := by
 obtain ⟨k, a, l, s, d, p, n, o, ⟨kk, kn⟩, t⟩ := r;simp only at hk;subst hk;have hf : formF 3 = 123 := rfl;have hw : wiB 3 1 9 = true := rfl;unfold fitsB;dsimp only;rw [hf, hw];rw [show bits .and .i64 123 1 = 1 by kernel_rfl];rw [show bits .and .i64 123 2 = 2 by kernel_rfl];rw [show bits .and .i64 123 4 = 0 by kernel_rfl];rw [show bits .and .i64 123 8 = 8 by kernel_rfl];rw [show bits .and .i64 123 16 = 16 by kernel_rfl];rw [show bits .and .i64 123 32 = 32 by kernel_rfl];rw [show bits .and .i64 123 64 = 64 by kernel_rfl];rw [show bits .and .i64 123 128 = 0 by kernel_rfl];rw [show bits .and .i64 123 256 = 0 by kernel_rfl];unfold fitB fitK wiB
 simp
theorem keysK3 {r : ReqV} (hk : r.kind = 3) (hf : fitsB r = true) : keysB r = [(1, r.acct), (2, r.lane)] := by
 unfold keysB;rw [if_pos hf, hk]
 rfl
theorem fitF4 {r : ReqV} (hk : r.kind = 4) : fitsB r = true ↔ (1 ≤ r.acct ∧ r.acct ≤ 8) ∧ (1 ≤ r.lane ∧ r.lane ≤ 3) ∧ r.asset = 0 ∧ r.side = 0 ∧ r.price = 0 ∧ (1 ≤ r.n ∧ r.n ≤ 1000000) ∧ r.now = false ∧ r.key = (0, 0) ∧ r.dst = 0 := by
 obtain ⟨k, a, l, s, d, p, n, o, ⟨kk, kn⟩, t⟩ := r;simp only at hk;subst hk;have hf : formF 4 = 35 := rfl;have hw : wiB 4 1 9 = true := rfl;unfold fitsB;dsimp only;rw [hf, hw];rw [show bits .and .i64 35 1 = 1 by kernel_rfl];rw [show bits .and .i64 35 2 = 2 by kernel_rfl];rw [show bits .and .i64 35 4 = 0 by kernel_rfl];rw [show bits .and .i64 35 8 = 0 by kernel_rfl];rw [show bits .and .i64 35 16 = 0 by kernel_rfl];rw [show bits .and .i64 35 32 = 32 by kernel_rfl];rw [show bits .and .i64 35 64 = 0 by kernel_rfl];rw [show bits .and .i64 35 128 = 0 by kernel_rfl];rw [show bits .and .i64 35 256 = 0 by kernel_rfl];unfold fitB fitK wiB
 simp
theorem keysK4 {r : ReqV} (hk : r.kind = 4) (hf : fitsB r = true) : keysB r = [(2, r.lane)] := by
 unfold keysB;rw [if_pos hf, hk]
 rfl
theorem fitF5 {r : ReqV} (hk : r.kind = 5) : fitsB r = true ↔ r.acct = 0 ∧ (1 ≤ r.lane ∧ r.lane ≤ 3) ∧ r.asset = 0 ∧ r.side = 0 ∧ r.price = 0 ∧ r.n = 0 ∧ r.now = false ∧ r.key = (0, 0) ∧ r.dst = 0 := by
 obtain ⟨k, a, l, s, d, p, n, o, ⟨kk, kn⟩, t⟩ := r;simp only at hk;subst hk;have hf : formF 5 = 2 := rfl;have hw : wiB 5 1 9 = true := rfl;unfold fitsB;dsimp only;rw [hf, hw];rw [show bits .and .i64 2 1 = 0 by kernel_rfl];rw [show bits .and .i64 2 2 = 2 by kernel_rfl];rw [show bits .and .i64 2 4 = 0 by kernel_rfl];rw [show bits .and .i64 2 8 = 0 by kernel_rfl];rw [show bits .and .i64 2 16 = 0 by kernel_rfl];rw [show bits .and .i64 2 32 = 0 by kernel_rfl];rw [show bits .and .i64 2 64 = 0 by kernel_rfl];rw [show bits .and .i64 2 128 = 0 by kernel_rfl];rw [show bits .and .i64 2 256 = 0 by kernel_rfl];unfold fitB fitK wiB
 simp
theorem keysK5 {r : ReqV} (hk : r.kind = 5) (hf : fitsB r = true) : keysB r = [(2, r.lane)] := by
 unfold keysB;rw [if_pos hf, hk]
 rfl
theorem fitF6 {r : ReqV} (hk : r.kind = 6) : fitsB r = true ↔ r.acct = 0 ∧ (1 ≤ r.lane ∧ r.lane ≤ 3) ∧ r.asset = 0 ∧ r.side = 0 ∧ r.price = 0 ∧ r.n = 0 ∧ r.now = false ∧ r.key = (0, 0) ∧ r.dst = 0 := by
 obtain ⟨k, a, l, s, d, p, n, o, ⟨kk, kn⟩, t⟩ := r;simp only at hk;subst hk;have hf : formF 6 = 2 := rfl;have hw : wiB 6 1 9 = true := rfl;unfold fitsB;dsimp only;rw [hf, hw];rw [show bits .and .i64 2 1 = 0 by kernel_rfl];rw [show bits .and .i64 2 2 = 2 by kernel_rfl];rw [show bits .and .i64 2 4 = 0 by kernel_rfl];rw [show bits .and .i64 2 8 = 0 by kernel_rfl];rw [show bits .and .i64 2 16 = 0 by kernel_rfl];rw [show bits .and .i64 2 32 = 0 by kernel_rfl];rw [show bits .and .i64 2 64 = 0 by kernel_rfl];rw [show bits .and .i64 2 128 = 0 by kernel_rfl];rw [show bits .and .i64 2 256 = 0 by kernel_rfl];unfold fitB fitK wiB
 simp
theorem keysK6 {r : ReqV} (hk : r.kind = 6) (hf : fitsB r = true) : keysB r = [(2, r.lane)] := by
 unfold keysB;rw [if_pos hf, hk]
 rfl
theorem fitF7 {r : ReqV} (hk : r.kind = 7) : fitsB r = true ↔ (1 ≤ r.acct ∧ r.acct ≤ 8) ∧ r.lane = 0 ∧ r.asset = 0 ∧ r.side = 0 ∧ r.price = 0 ∧ r.n = 0 ∧ r.now = false ∧ r.key = (0, 0) ∧ r.dst = 0 := by
 obtain ⟨k, a, l, s, d, p, n, o, ⟨kk, kn⟩, t⟩ := r;simp only at hk;subst hk;have hf : formF 7 = 1 := rfl;have hw : wiB 7 1 9 = true := rfl;unfold fitsB;dsimp only;rw [hf, hw];rw [show bits .and .i64 1 1 = 1 by kernel_rfl];rw [show bits .and .i64 1 2 = 0 by kernel_rfl];rw [show bits .and .i64 1 4 = 0 by kernel_rfl];rw [show bits .and .i64 1 8 = 0 by kernel_rfl];rw [show bits .and .i64 1 16 = 0 by kernel_rfl];rw [show bits .and .i64 1 32 = 0 by kernel_rfl];rw [show bits .and .i64 1 64 = 0 by kernel_rfl];rw [show bits .and .i64 1 128 = 0 by kernel_rfl];rw [show bits .and .i64 1 256 = 0 by kernel_rfl];unfold fitB fitK wiB
 simp
theorem keysK7 {r : ReqV} (hk : r.kind = 7) (hf : fitsB r = true) : keysB r = [(1, r.acct), (2, 1), (2, 2), (2, 3)] := by
 unfold keysB;rw [if_pos hf, hk]
 rfl
theorem fitF8 {r : ReqV} (hk : r.kind = 8) : fitsB r = true ↔ (1 ≤ r.acct ∧ r.acct ≤ 8) ∧ r.lane = 0 ∧ r.asset = 0 ∧ r.side = 0 ∧ r.price = 0 ∧ r.n = 0 ∧ r.now = false ∧ r.key = (0, 0) ∧ r.dst = 0 := by
 obtain ⟨k, a, l, s, d, p, n, o, ⟨kk, kn⟩, t⟩ := r;simp only at hk;subst hk;have hf : formF 8 = 1 := rfl;have hw : wiB 8 1 9 = true := rfl;unfold fitsB;dsimp only;rw [hf, hw];rw [show bits .and .i64 1 1 = 1 by kernel_rfl];rw [show bits .and .i64 1 2 = 0 by kernel_rfl];rw [show bits .and .i64 1 4 = 0 by kernel_rfl];rw [show bits .and .i64 1 8 = 0 by kernel_rfl];rw [show bits .and .i64 1 16 = 0 by kernel_rfl];rw [show bits .and .i64 1 32 = 0 by kernel_rfl];rw [show bits .and .i64 1 64 = 0 by kernel_rfl];rw [show bits .and .i64 1 128 = 0 by kernel_rfl];rw [show bits .and .i64 1 256 = 0 by kernel_rfl];unfold fitB fitK wiB
 simp
theorem keysK8 {r : ReqV} (hk : r.kind = 8) (hf : fitsB r = true) : keysB r = [(1, r.acct)] := by
 unfold keysB;rw [if_pos hf, hk]
 rfl
end Go.Proofs.YtiinigifjdpicaaGreatDoor.Se
namespace Go.Proofs.YtiinigifjdpicaaGreatDoor
open Go.RowKit
set_option linter.all false
set_option maxRecDepth 100000 in
set_option maxHeartbeats 4000000 in
theorem brought_is (r : ReqV) (w : World) (hp : r.side = 1 → 0 ≤ r.price ∧ r.price ≤ 1000000 ∧ 0 ≤ r.n ∧ r.n ≤ 1000000) : Calls Tryz.prog 76 #[.agg (Se.reqC r)] w fun e w' => e = .returned (.tuple #[.int .i64 (brA_ r), .int .i64 (brN_ r)]) ∧ Below w.heap.size w w' := by
 have HE : Hid (brA_ r = if r.side = 1 then 0 else r.lane) := rfl;have HN : Hid (brN_ r = if r.side = 1 then r.price * r.n else r.n) := rfl;generalize brA_ r = ea at *;generalize brN_ r = en at *;obtain ⟨k, a, l, s, d, p, n, o, ⟨kk, kn⟩, t⟩ := r;simp only at hp HE HN;unfold Se.reqC
 simp only
 have HB := hideIt (below1 w (.cells #[.int .i64 k, .int .i64 a, .int .i64 l, .int .i64 s, .int .i64 d, .int .i64 p, .int .i64 n, .bool o, .int .i64 kk, .int .i64 kn, .int .i64 t] 26));have hx := heap_alloc_new w (.cells #[.int .i64 k, .int .i64 a, .int .i64 l, .int .i64 s, .int .i64 d, .int .i64 p, .int .i64 n, .bool o, .int .i64 kk, .int .i64 kn, .int .i64 t] 26)
 by_cases hd : d = 1
 ·subst hd;have h1 := hp rfl;obtain ⟨p1, p2, n1, n2⟩ := h1;have hm : p * n ≤ 1000000 * 1000000 := Int.mul_le_mul p2 n2 n1 (by omega);have hm0 : 0 ≤ p * n := Int.mul_nonneg p1 n1;have hw : IntKind.i64.wrap (p * n) = p * n := Lg.wrap_ok (by omega) (by omega);have hea := HE.out;have hen := HN.out;rw [if_pos rfl] at hea hen;subst hea hen;clear HE HN hp hm hm0 hx
  go_enter Tryz.func76, Tryz.ntmps76
  go_upto_region 2 with fail
  go_quiet (fail)
  go_wp2;exact bodyPost_ret (v := .tuple #[.int .i64 0, .int .i64 (p * n)]) (by simp [results, Tryz.results76, go_sem]) rfl ⟨rfl, Lg.bN HB.out _⟩
 ·have hdb : (d == 1) = false := beq_eq_false_iff_ne.2 hd;have hea := HE.out;have hen := HN.out;rw [if_neg hd] at hea hen;subst hea hen;clear HE HN hp hd hx
  go_enter Tryz.func76, Tryz.ntmps76
  go_upto_region 2 with fail
  go_quiet (fail)
  go_wp2;exact bodyPost_ret (v := .tuple #[.int .i64 ea, .int .i64 en]) (by simp [results, Tryz.results76, go_sem]) rfl ⟨rfl, Lg.bN HB.out _⟩
def TurB (l : List (Int × Int)) (w : World) (e : Ending) (w' : World) : Prop := ∃ a c, e = .returned (.slice a l.length c) ∧ w'.ownsRow w.heap.size 24 2 (.slice a l.length c) l.length (Se.celC Se.keyE l) ∧ Below w.heap.size w w'
set_option maxRecDepth 100000 in
set_option maxHeartbeats 4000000 in
theorem turns_is (r : ReqV) (w : World) (hF : Se.Forms w) (hf : Se.fitsB r = true) : Calls Tryz.prog 23 #[.agg (Se.reqC r)] w (TurB (turL r) w) := by
 have HB := hideIt (below1 w (.cells (Se.reqC r) 26));have HK := hideIt (Se.keys_is r _ (hF.keep HB.out));have hl : (Se.keysB r).length ≤ 4 := by
  unfold Se.keysB Se.keyT;rw [if_pos hf]
  repeat' split
  all_goals simp
 have hx := heap_alloc_new w (.cells (Se.reqC r) 26)
 by_cases h7 : r.kind = 7
 ·have hk7 := Se.keysK7 h7 hf;have ht : turL r = [(2, 1), (2, 2), (2, 3), (1, r.acct)] := by
   unfold turL;rw [if_pos h7, hk7]
   rfl
  rw [ht];rw [hk7] at HK;clear hl hf hF ht hk7;obtain ⟨k, a, l, s, d, p, n, o, ⟨kk, kn⟩, t⟩ := r;simp only at h7;subst h7;unfold Se.reqC at *;simp only at *;unfold Se.KeyBack Se.KeyOn at HK;simp only [List.length_cons, List.length_nil, Nat.zero_add, Nat.reduceAdd] at HK;clear hx
  go_enter Tryz.func23, Tryz.ntmps23
  go_wp2_with fail
  refine HK.out.mono ?_;rintro e w1 ⟨ga, gc, rfl, hown, hb⟩;dsimp only;have ck : w1.cell? ⟨w.heap.size, 0, none⟩ = some (.int .i64 7) := (box_cell hb 0).trans rfl;have hz1 : w.heap.size < w1.heap.size := by have := hb.size; simp at this; omega
  obtain ⟨_, ⟨hv, h0⟩ | ⟨g, cap, cur, hv, hgB, hg, hnc, hcm, hs, htk⟩⟩ := id hown
  ·exact absurd h0 (by omega)
  ·simp only [Value.slice.injEq] at hv;obtain ⟨rfl, _, rfl⟩ := hv;have HG := hideIt (Se.own_sgot (enc := Se.keyE) (bytes := 16) (l := [(1, a), (2, 1), (2, 2), (2, 3)]) hown (by simp));have HBB := hideIt (below_via HB.out hb);clear hown HK hb hg hgB hs htk HB;have hc1 : gc - 1 ≤ maxLen := by omega
   obtain ⟨c', rfl⟩ : ∃ c', gc = c' + 4 := ⟨gc - 4, by omega⟩;have P1 := hideIt (Se.SGot.part Se.keyK HG.out 1 3 (c' + 3) (by simp) ⟨by omega, by omega⟩ (some ⟨g, 2, none⟩) (fun _ b off e => by simp only [Option.some.injEq, Addr.mk.injEq] at e; rw [← e.1, ← e.2.1]))
   have P2 := hideIt (Se.SGot.part Se.keyK HG.out 0 1 (c' + 4) (by simp) ⟨by omega, by omega⟩ (some ⟨g, 0, none⟩) (fun _ b off e => by simp only [Option.some.injEq, Addr.mk.injEq] at e; rw [← e.1, ← e.2.1]))
   simp only [List.drop_succ_cons, List.drop_zero, List.take_succ_cons, List.take_zero] at P1 P2;have hcI : ((c' + 4 : Nat) : Int) = (c' : Int) + 4 := by omega
   clear hnc hcm hc1;have HC : Hid (∀ W, W.heap[w1.heap.size]? = some (.cells #[.slice (some ⟨g, 2, none⟩) 3 (c' + 3), .slice (some ⟨g, 0, none⟩) 1 (c' + 4)] 48 (0, 0)) → Below w1.heap.size w1 W → Calls Tryz.prog 50 #[.slice (some ⟨w1.heap.size, 0, none⟩) 2 2] W (fun e w' => ∃ r1 r2, e = .returned (.slice r1 4 r2) ∧ Hid (w'.ownsRow w.heap.size 24 2 (.slice r1 4 r2) 4 (Se.celC Se.keyE [(2, 1), (2, 2), (2, 3), (1, a)]) ∧ Below w.heap.size w w'))) := by
    intro W hW hB;have hlt : w1.heap.size < W.heap.size := (Array.getElem?_eq_some_iff.1 hW).1;refine (Se.concat_is (.slice (some ⟨w1.heap.size, 0, none⟩) 2 2) [.slice (some ⟨g, 2, none⟩) 3 (c' + 3), .slice (some ⟨g, 0, none⟩) 1 (c' + 4)] [[(2, 1), (2, 2), (2, 3)], [(1, a)]] [(2, 1), (2, 2), (2, 3), (1, a)] rfl W ⟨rfl, some ⟨w1.heap.size, 0, none⟩, 2, rfl, ?_⟩ (by simp) (by simp)).mono ?_
    ·intro j h1 h2;refine ⟨w1.heap.size, 0, rfl, hlt, ?_, ?_⟩
     ·rw [cell_at hW]
      rcases (by simp at h1; omega : j = 0 ∨ j = 1) with rfl | rfl <;> rfl
     ·rcases (by simp at h1; omega : j = 0 ∨ j = 1) with rfl | rfl
      ·exact P1.out.keep hB
      ·exact P2.out.keep hB
    ·rintro e w' ⟨r, rfl, ho, hb⟩;obtain ⟨r1, r2, rfl⟩ := Se.own_len ho
     exact ⟨r1, r2, rfl, hideIt ⟨own_base ho (below_via HBB.out hB).size, below_via HBB.out (below_via hB hb)⟩⟩
   clear HG P1 P2 HBB;have HB1 := hideIt (below1 w1 (.cells #[.slice (some ⟨g, 2, none⟩) 3 (c' + 3), .slice (some ⟨g, 0, none⟩) 1 (c' + 4)] 48));have HN1 := hideIt (heap_alloc_new w1 (.cells #[.slice (some ⟨g, 2, none⟩) 3 (c' + 3), .slice (some ⟨g, 0, none⟩) 1 (c' + 4)] 48))
   go_upto_region 4 with fail
   go_region_with (refine (HC.out _ (by exact HN1.out) (by first | exact HB1.out.drew | exact HB1.out)).mono ?_; rintro e w5 ⟨r1, r2, rfl, HR⟩; dsimp only)
   all_goals
    go_wp2;go_ret
    exact ⟨_, _, rfl, HR.out.1, HR.out.2⟩
 ·have ht : turL r = Se.keysB r := if_neg h7;rw [ht];have h7b : (r.kind == 7) = false := beq_eq_false_iff_ne.2 h7;have HL := hideIt hl;generalize Se.keysB r = ks at *;obtain ⟨k, a, l, s, d, p, n, o, ⟨kk, kn⟩, t⟩ := r;simp only at h7b;unfold Se.reqC at *;simp only at *;unfold Se.KeyBack Se.KeyOn at HK;clear hx ht h7 hl
  go_enter Tryz.func23, Tryz.ntmps23
  go_wp2_with fail
  refine HK.out.mono ?_;rintro e w1 ⟨ga, gc, rfl, hown, hb⟩;dsimp only;have ck : w1.cell? ⟨w.heap.size, 0, none⟩ = some (.int .i64 k) := (box_cell hb 0).trans rfl;have hz1 : w.heap.size < w1.heap.size := by have := hb.size; simp at this; omega
  have HG := hideIt (own_base (B' := w.heap.size) hown HB.out.size);have HBB := hideIt (below_via HB.out hb);clear hown HK hb;go_wp2;go_ret
  exact ⟨_, _, rfl, HG.out, HBB.out⟩
end Go.Proofs.YtiinigifjdpicaaGreatDoor
