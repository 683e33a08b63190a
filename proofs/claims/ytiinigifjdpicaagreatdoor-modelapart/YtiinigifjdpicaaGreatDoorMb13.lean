/- Texts of my own, laid together. -/
import Derived.Test.YtiinigifjdpicaaGreatDoorMb12
import Derived.Test.YtiinigifjdpicaaGreatDoorMb04
import Derived.Lib.AppendZeros
namespace Go.Proofs.YtiinigifjdpicaaGreatDoor
open Go.RowKit
set_option linter.all false
theorem egAbv : ∀ args w, (callFunc 137 args).run Tryz.prog w = .ok (.enter 137 args) w := enters_of Tryz.func137 (by kernel_rfl) rfl
theorem abv1_is (x : AmtV) (most : Int) (p : Nat) (W : World) (hp : W.cell? ⟨p, 0, none⟩ = some (.int .i64 most)) : Calls Tryz.prog 137 (#[.agg (amtE x).toArray] ++ #[.pointer (some ⟨p, 0, none⟩)]) W fun e w' => e = .returned (.bool (decide (most < x.n))) ∧ Below W.heap.size W w' := by
 have hpl : p < W.heap.size := by
  apply Classical.byContradiction
  intro h;have : W.heap[p]? = none := Array.getElem?_eq_none (by omega)
  simp [World.cell?, this] at hp
 obtain ⟨k, n⟩ := x;have hc : (W.alloc (.cells #[.int .i64 k, .int .i64 n] 53)).cell? ⟨p, 0, none⟩ = some (.int .i64 most) := ((below1 W _).cell hpl).trans hp
 show Calls Tryz.prog 137 #[.agg #[.int .i64 k, .int .i64 n], .pointer (some ⟨p, 0, none⟩)] W _
 go_enter Tryz.func137, Tryz.ntmps137
 go_wp2;go_ret
 exact ⟨rfl, below1 W _⟩
set_option maxHeartbeats 1000000 in
theorem hasAbove_is (v : Value) (l : List AmtV) (most : Int) (w : World) (h : Amts w v l) : Calls Tryz.prog 109 #[v, .int .i64 most] w fun e w' => e = .returned (.bool (aboveB Lg.AmtV.n l most)) ∧ Below w.heap.size w w' := by
 have hb1 := below1 w (.cells #[.int .i64 most] 3);have hc0 : (w.alloc (.cells #[.int .i64 most] 3)).cell? ⟨w.heap.size, 0, none⟩ = some (.int .i64 most) := by rw [cell_at (heap_alloc_new w _)]; rfl
 have HC := hideIt (containsAm_is 137 #[.pointer (some ⟨w.heap.size, 0, none⟩)] egAbv v l (fun x => decide (most < x.n)) (w.alloc (.cells #[.int .i64 most] 3)) (h.keep hb1) (fun x _ W hW => (abv1_is x most w.heap.size W ((hW.cell (by simp)).trans hc0)).mono (fun _ _ hh => ⟨hh.1, below_via hW hh.2⟩)));have HB := hideIt hb1;obtain ⟨a, c, rfl⟩ := h.slice;clear hb1 hc0 h;unfold aboveB;generalize l.length = n at *;generalize l.any (fun e => decide (most < e.n)) = q at *
 go_enter Tryz.func109, Tryz.ntmps109
 go_wp2_with fail
 refine HC.out.mono ?_;rintro e w1 ⟨rfl, hb⟩;dsimp only;go_wp2;go_ret
 exact ⟨rfl, below_via HB.out hb⟩
theorem egM1 : ∀ args w, (callFunc 37 args).run Tryz.prog w = .ok (.enter 37 args) w := enters_of Tryz.func37 (by kernel_rfl) rfl
theorem egM2 : ∀ args w, (callFunc 40 args).run Tryz.prog w = .ok (.enter 40 args) w := enters_of Tryz.func40 (by kernel_rfl) rfl
theorem mdlA_is (x : AccX) (W : World) (h : AccAt W x) : Calls Tryz.prog 37 (#[.agg (accE x).toArray] ++ #[]) W fun e w' => e = .returned (.bool (!Lg.accB x.v)) ∧ Below W.heap.size W w' := by
 obtain ⟨⟨l, ct⟩, fa, fc⟩ := x;have hb1 := below1 W (.cells #[.slice fa l.length fc, .int .i64 ct] 44);have HC := hideIt (Lg.check_is ⟨l, ct⟩ (.slice fa l.length fc) _ (SGot.keep h hb1));have HB := hideIt hb1;have HI : Hid (Lg.chkI ⟨l, ct⟩ = if Lg.accB ⟨l, ct⟩ then 0 else 120) := rfl;clear hb1 h;unfold Lg.accV Lg.accA at HC
 show Calls Tryz.prog 37 #[.agg #[.slice fa l.length fc, .int .i64 ct]] W _
 simp only at *;generalize Lg.chkI ⟨l, ct⟩ = ck at *;generalize Lg.accB ⟨l, ct⟩ = ab at *;generalize l.length = n at *
 go_enter Tryz.func37, Tryz.ntmps37
 go_wp2_with fail
 refine HC.out.mono ?_;rintro e w1 ⟨rfl, hb⟩;dsimp only;have hi := HI.out;subst hi;clear HI HC;cases ab
 ·simp only [Bool.false_eq_true, if_false, Bool.not_false];go_wp2;go_ret
  exact ⟨rfl, below_via HB.out hb⟩
 ·simp only [if_true, Bool.not_true];go_wp2;go_ret
  exact ⟨rfl, below_via HB.out hb⟩
theorem mdlL_is (x : LanX) (W : World) (h : LanAt W x) : Calls Tryz.prog 40 (#[.agg (lanE x).toArray] ++ #[]) W fun e w' => e = .returned (.bool (!chkB x.v)) ∧ Below W.heap.size W w' := by
 obtain ⟨⟨call, next, bids, asks, owed⟩, ba, bc, aa, ac, oa, oc⟩ := x;have hb1 := below1 W (.cells #[.bool call, .int .i64 next, .slice ba bids.length bc, .slice aa asks.length ac, .slice oa owed.length oc] 59);have HC := hideIt (check_is ⟨call, next, bids, asks, owed⟩ (.slice ba bids.length bc) (.slice aa asks.length ac) (.slice oa owed.length oc) _ (Lan.keep h hb1));have HB := hideIt hb1;have HI : Hid (chkI ⟨call, next, bids, asks, owed⟩ = if chkB ⟨call, next, bids, asks, owed⟩ then 0 else 130) := rfl;clear hb1 h;unfold laneV laneA at HC
 show Calls Tryz.prog 40 #[.agg #[.bool call, .int .i64 next, .slice ba bids.length bc, .slice aa asks.length ac, .slice oa owed.length oc]] W _
 simp only at *;generalize chkI ⟨call, next, bids, asks, owed⟩ = ck at *;generalize chkB ⟨call, next, bids, asks, owed⟩ = ab at *;generalize bids.length = n1 at *;generalize asks.length = n2 at *;generalize owed.length = n3 at *
 go_enter Tryz.func40, Tryz.ntmps40
 go_wp2_with fail
 refine HC.out.mono ?_;rintro e w1 ⟨rfl, hb⟩;dsimp only;have hi := HI.out;subst hi;clear HI HC;cases ab
 ·simp only [Bool.false_eq_true, if_false, Bool.not_false];go_wp2;go_ret
  exact ⟨rfl, below_via HB.out hb⟩
 ·simp only [if_true, Bool.not_true];go_wp2;go_ret
  exact ⟨rfl, below_via HB.out hb⟩
theorem any_all {α β : Type} (f : α → β) (p : β → Bool) (l : List α) : (!l.any (fun x => !p (f x))) = (l.map f).all p := by
 induction l with
 | nil => rfl
 | cons x l ih => simp only [List.any_cons, List.map_cons, List.all_cons, Bool.not_or, Bool.not_not, ih]
set_option maxHeartbeats 4000000 in
set_option maxRecDepth 100000 in
theorem mayBe_is (va vl : Value) (M : MdlV) (w : World) (h : Mdl w va vl M) : Calls Tryz.prog 20 #[.agg #[va, vl]] w fun e w' => e = .returned (.bool (mayM M)) ∧ Below w.heap.size w w' := by
 obtain ⟨⟨xs, hx, h1⟩, ys, hy, h2⟩ := h;have hb1 := below1 w (.cells #[va, vl] 30);have HA := hideIt (containsAc_is 37 #[] egM1 va xs (fun x => !Lg.accB x.v) _ (h1.keep hb1) (fun x hx W hW => (mdlA_is x W (((h1.keep hb1).at_ x hx).keep hW)).mono (fun _ _ hh => ⟨hh.1, below_via hW hh.2⟩)));have HL := hideIt (fun W (hW : Below w.heap.size w W) => containsLn_is 40 #[] egM2 vl ys (fun x => !chkB x.v) W (h2.keep hW) (fun x hx W2 hW2 => (mdlL_is x W2 (((h2.keep hW).at_ x hx).keep hW2)).mono (fun _ _ hh => ⟨hh.1, below_via hW2 hh.2⟩)));have HB := hideIt hb1;have HE : Hid (mayM M = (decide (xs.length = 8) && (decide (ys.length = 3) && (!(xs.any (fun x => !Lg.accB x.v)) && !(ys.any (fun x => !chkB x.v)))))) := by
  show _ = _
  unfold mayM;rw [any_all AccX.v Lg.accB, any_all LanX.v chkB, hx, hy, ← hx, ← hy, List.length_map, List.length_map]
 obtain ⟨aa, ac, rfl⟩ := h1.row.slice;obtain ⟨la, lc, rfl⟩ := h2.row.slice;clear hb1 h1 h2 hx hy;rw [HE.out];clear HE;generalize xs.any (fun x => !Lg.accB x.v) = p at *;generalize ys.any (fun x => !chkB x.v) = q at *;generalize xs.length = n at *;generalize ys.length = k at *
 by_cases e8 : n = 8
 ·by_cases e3 : k = 3
  ·subst e8 e3;cases p
   ·go_enter Tryz.func20, Tryz.ntmps20
    go_wp2_with fail
    refine HA.out.mono ?_;rintro e w1 ⟨rfl, hb⟩;dsimp only;have HB2 := hideIt (below_via HB.out hb);have cl : w1.cell? ⟨w.heap.size, 1, none⟩ = some (.slice la 3 lc) := (box_cell hb 1).trans rfl;clear HA HB hb
    go_wp2_with fail
    refine (HL.out _ HB2.out).mono ?_;rintro e w2 ⟨rfl, hb⟩;dsimp only;go_wp2;go_ret
    exact ⟨by simp, below_via HB2.out hb⟩
   ·go_enter Tryz.func20, Tryz.ntmps20
    go_wp2_with fail
    refine HA.out.mono ?_;rintro e w1 ⟨rfl, hb⟩;dsimp only;go_wp2;go_ret
    exact ⟨by simp, below_via HB.out hb⟩
  ·have e3I : ((k : Int) == 3) = false := beq_eq_false_iff_ne.2 (by omega);have E3 : decide (k = 3) = false := decide_eq_false e3;subst e8
   go_enter Tryz.func20, Tryz.ntmps20
   go_wp2;go_ret
   exact ⟨by rw [E3]; simp, HB.out⟩
 ·have e8I : ((n : Int) == 8) = false := beq_eq_false_iff_ne.2 (by omega);have E8 : decide (n = 8) = false := decide_eq_false e8
  go_enter Tryz.func20, Tryz.ntmps20
  go_wp2;go_ret
  exact ⟨by rw [E8]; simp, HB.out⟩
end Go.Proofs.YtiinigifjdpicaaGreatDoor
namespace Go.Proofs.YtiinigifjdpicaaGreatDoor.Se
open Go.RowKit
set_option linter.all false
theorem app_none {t e : TypeId} {z : Value} {k bytes : Nat} (ht : Tryz.prog.underlying t = some (.slice e)) (hi : (Tryz.prog.info? e).map (fun i => (i.zero, i.size, i.bytes)) = some (some z, k, bytes)) (w : World) (B : Nat) (v : Value) (n : Nat) (xs : List Value) (hown : w.ownsRow B e k v n xs) (c : Nat) : (Builtin.append_ #[t, t] t #[v, .slice none 0 c]).run Tryz.prog w = .ok v w := by
 obtain ⟨i, hi, hz0, hz1, hz2⟩ := info_parts hi
 rcases hown.2 with ⟨rfl, rfl⟩ | ⟨g, cap, cur, rfl, _, _, hnc, _⟩
 ·simp [Builtin.append_, run_underlying ht, sizeOf, typeInfo, hi, Builtin.lenOf, Builtin.firstCells]
 ·simp [Builtin.append_, run_underlying ht, sizeOf, typeInfo, hi, Builtin.lenOf, Builtin.firstCells, hnc, storeCells]
theorem appG {α : Type} {k bytes : Nat} {enc : α → List Value} {t e : TypeId} {z : Value} (hk : ∀ x, (enc x).length = k) (h1 : ∀ x, ∀ u ∈ enc x, u.oneCell' = true) (ht : Tryz.prog.underlying t = some (.slice e))
  (hi : (Tryz.prog.info? e).map (fun i => (i.zero, i.size, i.bytes)) = some (some z, k, bytes)) (hz : z.cells.size = k) (hk0 : 0 < k) (hb0 : 8 ≤ bytes) (w : World) (B : Nat) (v g : Value) (xs l : List α) (hB : B ≤ w.heap.size)
  (ho : w.ownsRow B e k v xs.length (celC enc xs)) (hg : SGot k bytes enc w g l) (hl : (xs.length + l.length) * bytes ≤ 140737488355328) :
  ∃ v' w', (Builtin.append_ #[t, t] t #[v, g]).run Tryz.prog w = .ok v' w' ∧ w'.ownsRow B e k v' (xs ++ l).length (celC enc (xs ++ l)) ∧ w.grownBy w' v.ownBlock := by
 obtain ⟨a, c, rfl⟩ := hg.slice;cases a with
 | none =>
  have h0 : l.length = 0 := by
   obtain ⟨_, a', c', e', _, hr⟩ := hg;simp only [Value.slice.injEq] at e'
   rcases Nat.eq_zero_or_pos l.length with h0 | h0
   ·exact h0
   ·obtain ⟨b, off, hb, _⟩ := hr h0;rw [← e'.1] at hb;cases hb
  have hl0 : l = [] := List.length_eq_zero_iff.1 h0;subst hl0;rw [List.append_nil]
  exact ⟨v, w, app_none ht hi w B v xs.length (celC enc xs) ho c, ho, grown_refl w _⟩
 | some b => exact appL hk h1 ht hi hz hk0 hb0 w B v xs l b l.length c rfl hB ho hg hl
set_option maxHeartbeats 4000000 in
theorem grow_is (n : Nat) (w : World) (hn : n ≤ 1000) : Calls Tryz.prog 74 #[.slice none 0 0, .int .i64 (n : Int)] w fun e w' => ∃ v, e = .returned v ∧ w'.ownsRow w.heap.size 24 2 v 0 [] ∧ Below w.heap.size w w' := by
 rcases Nat.eq_zero_or_pos n with rfl | hp
 ·go_enter Tryz.func74, Tryz.ntmps74
  go_wp2;go_ret
  exact ⟨_, rfl, ⟨rfl, .inl ⟨rfl, rfl⟩⟩, Below.refl _ _⟩
 ·obtain ⟨i, hi, hz0, hz1, hz2⟩ := info_parts info23;have hrun := Lib.run_append_nil_zeros (P := Tryz.prog) w 48 3 48 24 i _ .i64 .i64 Tryz.underlying48 Tryz.underlying3 hi hz0 n hp (by omega) (by omega) (by rw [hz2]; omega)
  have hcap := grownCap_ge w n 0 24;have hcm := grownCap_le_maxLen w n 0 24 (by unfold maxLen; omega)
  generalize grownCap w n 0 24 = cap at *;obtain ⟨W, HRUN, hH⟩ : ∃ W, Hid ((Builtin.append_ #[48, 3] 48 #[.slice none 0 0, .int .i64 (n : Int)]).run Tryz.prog w = .ok (.slice (some ⟨w.heap.size, 0, none⟩) n cap) W) ∧ Hid (W.ownsRow w.heap.size 24 2 (.slice (some ⟨w.heap.size, 0, none⟩) 0 cap) 0 [] ∧ Below w.heap.size w W) := by
   refine ⟨_, hrun, ⟨rfl, .inr ⟨w.heap.size, cap, _, rfl, Nat.le_refl _, heap_alloc_new w.drew _, Nat.zero_le _, hcm, ?_, by simp⟩⟩, (Below.refl _ w).drew.alloc (Nat.le_refl _) _⟩;rw [Array.size_append, size_zeroCells, size_zeroCells]
   show n * 2 + (cap - n) * 2 = cap * 2
   omega
  have hnI : (0 : Int) < (n : Int) := by omega
  have hn0 : ¬ ((n : Int) < 0) := by omega
  have hcapI : (0 : Int) ≤ (cap : Int) := by omega
  clear hi hz0 hz1 hz2 hcm hrun
  go_enter Tryz.func74, Tryz.ntmps74
  go_wp2_with (at_builtin; refine Lib.wpList_append_run _ rfl _ _ _ _ rfl _ _ rfl rfl _ _ HRUN.out ?_)
  clear HRUN;go_wp2;go_ret
  exact ⟨_, rfl, hH.out.1, hH.out.2⟩
def LsGot (w : World) (v : Value) (gs : List Value) (ls : List (List KeyV)) : Prop :=
 gs.length = ls.length ∧ ∃ a c, v = .slice a ls.length c ∧ ∀ j (h : j < ls.length) (h2 : j < gs.length), ∃ b off, a = some ⟨b, off, none⟩ ∧ b < w.heap.size ∧ w.cell? ⟨b, off + j, none⟩ = some gs[j] ∧ SGot 2 16 keyE w gs[j] ls[j]
theorem flat_step (ls : List (List KeyV)) (t : Nat) (h : t < ls.length) : (ls.take (t + 1)).flatten = (ls.take t).flatten ++ ls[t] := by
 rw [List.take_succ_eq_append_getElem h, List.flatten_append]
 simp
theorem flat_le (ls : List (List KeyV)) (t : Nat) : (ls.take t).flatten.length ≤ ls.flatten.length := by
 have : ls.flatten.length = (ls.take t).flatten.length + (ls.drop t).flatten.length := by
  rw [← List.length_append, ← List.flatten_append, List.take_append_drop]
 omega
set_option maxHeartbeats 8000000 in
set_option maxRecDepth 100000 in
theorem concat_is (v : Value) (gs : List Value) (ls : List (List KeyV)) (l : List KeyV) (hf : ls.flatten = l) (w : World) (h : LsGot w v gs ls) (hl : l.length ≤ 1000) (hll : ls.length ≤ 1000) : Calls Tryz.prog 50 #[v] w fun e w' => ∃ r, e = .returned r ∧ w'.ownsRow w.heap.size 24 2 r l.length (celC keyE l) ∧ Below w.heap.size w w' := by
 obtain ⟨hgl, a, c, rfl, hr⟩ := h;have HR := hideIt hr;have HG := hideIt (grow_is l.length w hl);have HF := hideIt (flat_step ls);have HFL := hideIt (flat_le ls);rw [hf] at HFL;have HHF := hideIt hf;clear hf;clear hr
 go_enter Tryz.func50, Tryz.ntmps50
 go_wp2
 go_loopw [3, 11] (fun u x wr => ∃ t : Nat, u = .int .i64 ((ls.take t).flatten.length : Int) ∧ x = .int .i64 t ∧ t ≤ ls.length ∧ wr = w) (fun _ x _ => ls.length - (intOf x).toNat)
 case atStart => exact ⟨0, rfl, rfl, Nat.zero_le _, rfl⟩
 case round =>
  obtain ⟨t, rfl, rfl, ht, hw⟩ := hrel;have hw2 := hw.symm;subst hw2;clear hw
  by_cases hlt : t < ls.length
  ·have hltI : (t : Int) < (ls.length : Int) := by omega
   have ht0 : (0 : Int) ≤ (t : Int) := by omega
   obtain ⟨b, off, rfl, hbl, q0, hE⟩ := HR.out t hlt (by omega);obtain ⟨ga, gc, hg⟩ := hE.slice;rw [hg] at q0;have h1 := HFL.out t;have h2 := HFL.out (t + 1);have h3 : ((ls.take (t + 1)).flatten.length : Int) = ((ls.take t).flatten.length : Int) + (ls[t].length : Int) := by
    rw [HF.out t hlt, List.length_append];omega
   have H3 := hideIt h3;generalize ((ls.take t).flatten.length) = n1 at *;generalize (ls[t]).length = n2 at *;have h4 : n1 + n2 ≤ 1000 := by omega
   have h5 : ¬ ((n1 : Int) + (n2 : Int) < 0) := by omega
   clear hE h1 h2 h3;go_wp2
   go_roundw
   case rel => exact ⟨t + 1, by rw [H3.out], by go_num, by omega, by first | rfl | trivial⟩
   case measure => simp [intOf]; omega
  ·have hltI : ¬ (t : Int) < (ls.length : Int) := by omega
   have ht9 : ls.take t = ls := List.take_of_length_le (by omega);rw [ht9, HHF.out]
   go_wp2_with fail
   refine HG.out.mono ?_;rintro e w1 ⟨v0, rfl, ho, hb⟩;dsimp only;have HO := hideIt (And.intro ho hb);clear ho hb HG ht9;go_wp2
   go_loopw [6, 27] (fun u x wr => ∃ t : Nat, x = .int .i64 t ∧ t ≤ ls.length ∧ Hid (wr.ownsRow w.heap.size 24 2 u (ls.take t).flatten.length (celC keyE (ls.take t).flatten) ∧ Below w.heap.size w wr)) (fun _ x _ => ls.length - (intOf x).toNat)
   case atStart => exact ⟨0, rfl, Nat.zero_le _, HO⟩
   case round =>
    clear HO;obtain ⟨s, rfl, hs, HO⟩ := hrel
    by_cases hls : s < ls.length
    ·have hlsI : (s : Int) < (ls.length : Int) := by omega
     have hs0 : (0 : Int) ≤ (s : Int) := by omega
     obtain ⟨b, off, rfl, hbl, q0, hE⟩ := HR.out s hls (by omega);have q1 := (HO.out.2.cell (p := ⟨b, off + s, none⟩) hbl).trans q0;have h2 := HFL.out (s + 1);rw [HF.out s hls, List.length_append] at h2;obtain ⟨v', w', hrun, how, hgr⟩ := appG (enc := keyE) (t := 48) keyK key1 Tryz.underlying48 info23 rfl (by omega) (by omega) wr w.heap.size u6 gs[s] (ls.take s).flatten ls[s] HO.out.2.size HO.out.1 (hE.keep HO.out.2) (by omega);rw [← HF.out s hls] at how;have HN := hideIt (And.intro how (grown_own hgr HO.out.1 (Nat.le_refl _) HO.out.2));generalize gs[s] = gv at *;have HRUN := hideIt hrun;clear hrun how hgr q0 hE h2 HO
     go_wp2_with (at_builtin; refine Lib.wpList_append_run _ rfl _ _ _ _ rfl _ _ rfl rfl _ _ HRUN.out ?_)
     clear HRUN q1;go_wp2
     go_roundw
     case rel => exact ⟨s + 1, by go_num, by omega, HN⟩
     case measure => simp [intOf]; omega
    ·have hlsI : ¬ (s : Int) < (ls.length : Int) := by omega
     have hs9 : ls.take s = ls := List.take_of_length_le (by omega);rw [hs9, HHF.out] at HO;go_wp2;go_ret
     exact ⟨_, rfl, HO.out.1, HO.out.2⟩
theorem SGot.part {α : Type} {k bytes : Nat} {enc : α → List Value} (hk : ∀ x, (enc x).length = k) {w : World} {a : Option Addr} {c : Nat} {l : List α} (h : SGot k bytes enc w (.slice a l.length c) l) (p n c2 : Nat) (hp : p + n ≤ l.length) (hc2 : n ≤ c2 ∧ c2 ≤ maxLen) (a2 : Option Addr) (ha : 0 < n → ∀ b off, a = some ⟨b, off, none⟩ → a2 = some ⟨b, off + p * k, none⟩) : SGot k bytes enc w (.slice a2 n c2) ((l.drop p).take n) := by
 have hlen : ((l.drop p).take n).length = n := by
  rw [List.length_take, List.length_drop];omega
 obtain ⟨h8, a', c', e, _, hr⟩ := h;simp only [Value.slice.injEq] at e;obtain ⟨rfl, _, _⟩ := e;refine ⟨?_, a2, c2, by rw [hlen], by rw [hlen]; exact hc2, fun hp0 => ?_⟩
 ·rw [hlen];exact Nat.le_trans (Nat.mul_le_mul_right _ (by omega)) h8
 rw [hlen] at hp0;obtain ⟨b, off, rfl, hlt, hc⟩ := hr (by omega);refine ⟨b, off + p * k, ha hp0 b off rfl, hlt, fun j hj => ?_⟩;rw [hlen] at hj;have hpj : p * k + j < l.length * k := by
  have : p * k + n * k ≤ l.length * k := by rw [← Nat.add_mul]; exact Nat.mul_le_mul_right _ hp
  omega
 rw [show off + p * k + j = off + (p * k + j) by omega, hc (p * k + j) hpj];have e1 : celC enc l = celC enc (l.take p) ++ (celC enc ((l.drop p).take n) ++ celC enc ((l.drop p).drop n)) := by
  rw [← celC_app, ← celC_app, List.take_append_drop, List.take_append_drop]
 have l1 : (celC enc (l.take p)).length = p * k := by
  rw [celC_len hk, List.length_take]
  congr 1
  omega
 rw [e1, List.getElem?_append_right (by omega), l1, Nat.add_sub_cancel_left, List.getElem?_append_left (by rw [celC_len hk, hlen]; exact hj)]
theorem fitF1 {r : ReqV} (hk : r.kind = 1) : fitsB r = true ↔ (1 ≤ r.acct ∧ r.acct ≤ 8) ∧ r.lane = 0 ∧ (0 ≤ r.asset ∧ r.asset ≤ 3) ∧ r.side = 0 ∧ r.price = 0 ∧ (1 ≤ r.n ∧ r.n ≤ 1000000) ∧ r.now = false ∧ r.key = (0, 0) ∧ r.dst = 0 := by
 obtain ⟨k, a, l, s, d, p, n, o, ⟨kk, kn⟩, t⟩ := r;simp only at hk;subst hk;have hf : formF 1 = 37 := rfl;have hw : wiB 1 1 9 = true := rfl;unfold fitsB;dsimp only;rw [hf, hw];rw [show bits .and .i64 37 1 = 1 by kernel_rfl];rw [show bits .and .i64 37 2 = 0 by kernel_rfl];rw [show bits .and .i64 37 4 = 4 by kernel_rfl];rw [show bits .and .i64 37 8 = 0 by kernel_rfl];rw [show bits .and .i64 37 16 = 0 by kernel_rfl];rw [show bits .and .i64 37 32 = 32 by kernel_rfl];rw [show bits .and .i64 37 64 = 0 by kernel_rfl];rw [show bits .and .i64 37 128 = 0 by kernel_rfl];rw [show bits .and .i64 37 256 = 0 by kernel_rfl];unfold fitB fitK wiB
 simp
theorem keysK1 {r : ReqV} (hk : r.kind = 1) (hf : fitsB r = true) : keysB r = [(1, r.acct)] := by
 unfold keysB;rw [if_pos hf, hk]
 rfl
theorem fitF2 {r : ReqV} (hk : r.kind = 2) : fitsB r = true ↔ (1 ≤ r.acct ∧ r.acct ≤ 8) ∧ r.lane = 0 ∧ (0 ≤ r.asset ∧ r.asset ≤ 3) ∧ r.side = 0 ∧ r.price = 0 ∧ (1 ≤ r.n ∧ r.n ≤ 1000000) ∧ r.now = false ∧ r.key = (0, 0) ∧ r.dst = 0 := by
 obtain ⟨k, a, l, s, d, p, n, o, ⟨kk, kn⟩, t⟩ := r;simp only at hk;subst hk;have hf : formF 2 = 37 := rfl;have hw : wiB 2 1 9 = true := rfl;unfold fitsB;dsimp only;rw [hf, hw];rw [show bits .and .i64 37 1 = 1 by kernel_rfl];rw [show bits .and .i64 37 2 = 0 by kernel_rfl];rw [show bits .and .i64 37 4 = 4 by kernel_rfl];rw [show bits .and .i64 37 8 = 0 by kernel_rfl];rw [show bits .and .i64 37 16 = 0 by kernel_rfl];rw [show bits .and .i64 37 32 = 32 by kernel_rfl];rw [show bits .and .i64 37 64 = 0 by kernel_rfl];rw [show bits .and .i64 37 128 = 0 by kernel_rfl];rw [show bits .and .i64 37 256 = 0 by kernel_rfl];unfold fitB fitK wiB
 simp
theorem keysK2 {r : ReqV} (hk : r.kind = 2) (hf : fitsB r = true) : keysB r = [(1, r.acct)] := by
 unfold keysB;rw [if_pos hf, hk]
 rfl
theorem fitF3 {r : ReqV} (hk : r.kind = 3) : fitsB r = true ↔ (1 ≤ r.acct ∧ r.acct ≤ 8) ∧ (1 ≤ r.lane ∧ r.lane ≤ 3) ∧ r.asset = 0 ∧ (1 ≤ r.side ∧ r.side ≤ 2) ∧ (1 ≤ r.price ∧ r.price ≤ 1000000) ∧ (1 ≤ r.n ∧ r.n ≤ 1000000) ∧ r.key = (0, 0) ∧ r.dst = 0 := by
 obtain ⟨k, a, l, s, d, p, n, o, ⟨kk, kn⟩, t⟩ := r;simp only at hk;subst hk;have hf : formF 3 = 123 := rfl;have hw : wiB 3 1 9 = true := rfl;unfold fitsB;dsimp only;rw [hf, hw];rw [show bits .and .i64 123 1 = 1 by kernel_rfl];rw [show bits .and .i64 123 2 = 2 by kernel_rfl];rw [show bits .and .i64 123 4 = 0 by kernel_rfl];rw [show bits .and .i64 123 8 = 8 by kernel_rfl];rw [show bits .and .i64 123 16 = 16 by kernel_rfl];rw [show bits .and .i64 123 32 = 32 by kernel_rfl];rw [show bits .and .i64 123 64 = 64 by kernel_rfl];rw [show bits .and .i64 123 128 = 0 by kernel_rfl];rw [show bits .and .i64 123 256 = 0 by kernel_rfl];unfold fitB fitK wiB
 simp
theorem keysK3 {r : ReqV} (hk : r.kind = 3) (hf : fitsB r = true) : keysB r = [(1, r.acct), (2, r.lane)] := by
 unfold keysB;rw [if_pos hf, hk]
 rfl
theorem fitF4 {r : ReqV} (hk : r.kind = 4) : fitsB r = true ↔ (1 ≤ r.acct ∧ r.acct ≤ 8) ∧ (1 ≤ r.lane ∧ r.lane ≤ 3) ∧ r.asset = 0 ∧ r.side = 0 ∧ r.price = 0 ∧ (1 ≤ r.n ∧ r.n ≤ 1000000) ∧ r.now = false ∧ r.key = (0, 0) ∧ r.dst = 0 := by
 obtain ⟨k, a, l, s, d, p, n, o, ⟨kk, kn⟩, t⟩ := r;simp only at hk;subst hk;have hf : formF 4 = 35 := rfl;have hw : wiB 4 1 9 = true := rfl;unfold fitsB;dsimp only;rw [hf, hw];rw [show bits .and .i64 35 1 = 1 by kernel_rfl];rw [show bits .and .i64 35 2 = 2 by kernel_rfl];rw [show bits .and .i64 35 4 = 0 by kernel_rfl];rw [show bits .and .i64 35 8 = 0 by kernel_rfl];rw [show bits .and .i64 35 16 = 0 by kernel_rfl];rw [show bits .and .i64 35 32 = 32 by kernel_rfl];rw [show bits .and .i64 35 64 = 0 by kernel_rfl];rw [show bits .and .i64 35 128 = 0 by kernel_rfl];rw [show bits .and .i64 35 256 = 0 by kernel_rfl];unfold fitB fitK wiB
 simp
theorem keysK4 {r : ReqV} (hk : r.kind = 4) (hf : fitsB r = true) : keysB r = [(2, r.lane)] := by
 unfold keysB;rw [if_pos hf, hk]
 rfl
theorem fitF5 {r : ReqV} (hk : r.kind = 5) : fitsB r = true ↔ r.acct = 0 ∧ (1 ≤ r.lane ∧ r.lane ≤ 3) ∧ r.asset = 0 ∧ r.side = 0 ∧ r.price = 0 ∧ r.n = 0 ∧ r.now = false ∧ r.key = (0, 0) ∧ r.dst = 0 := by
 obtain ⟨k, a, l, s, d, p, n, o, ⟨kk, kn⟩, t⟩ := r;simp only at hk;subst hk;have hf : formF 5 = 2 := rfl;have hw : wiB 5 1 9 = true := rfl;unfold fitsB;dsimp only;rw [hf, hw];rw [show bits .and .i64 2 1 = 0 by kernel_rfl];rw [show bits .and .i64 2 2 = 2 by kernel_rfl];rw [show bits .and .i64 2 4 = 0 by kernel_rfl];rw [show bits .and .i64 2 8 = 0 by kernel_rfl];rw [show bits .and .i64 2 16 = 0 by kernel_rfl];rw [show bits .and .i64 2 32 = 0 by kernel_rfl];rw [show bits .and .i64 2 64 = 0 by kernel_rfl];rw [show bits .and .i64 2 128 = 0 by kernel_rfl];rw [show bits .and .i64 2 256 = 0 by kernel_rfl];unfold fitB fitK wiB
 simp
theorem keysK5 {r : ReqV} (hk : r.kind = 5) (hf : fitsB r = true) : keysB r = [(2, r.lane)] := by
 unfold keysB;rw [if_pos hf, hk]
 rfl
theorem fitF6 {r : ReqV} (hk : r.kind = 6) : fitsB r = true ↔ r.acct = 0 ∧ (1 ≤ r.lane ∧ r.lane ≤ 3) ∧ r.asset = 0 ∧ r.side = 0 ∧ r.price = 0 ∧ r.n = 0 ∧ r.now = false ∧ r.key = (0, 0) ∧ r.dst = 0 := by
 obtain ⟨k, a, l, s, d, p, n, o, ⟨kk, kn⟩, t⟩ := r;simp only at hk;subst hk;have hf : formF 6 = 2 := rfl;have hw : wiB 6 1 9 = true := rfl;unfold fitsB;dsimp only;rw [hf, hw];rw [show bits .and .i64 2 1 = 0 by kernel_rfl];rw [show bits .and .i64 2 2 = 2 by kernel_rfl];rw [show bits .and .i64 2 4 = 0 by kernel_rfl];rw [show bits .and .i64 2 8 = 0 by kernel_rfl];rw [show bits .and .i64 2 16 = 0 by kernel_rfl];rw [show bits .and .i64 2 32 = 0 by kernel_rfl];rw [show bits .and .i64 2 64 = 0 by kernel_rfl];rw [show bits .and .i64 2 128 = 0 by kernel_rfl];rw [show bits .and .i64 2 256 = 0 by kernel_rfl];unfold fitB fitK wiB
 simp
theorem keysK6 {r : ReqV} (hk : r.kind = 6) (hf : fitsB r = true) : keysB r = [(2, r.lane)] := by
 unfold keysB;rw [if_pos hf, hk]
 rfl
theorem fitF7 {r : ReqV} (hk : r.kind = 7) : fitsB r = true ↔ (1 ≤ r.acct ∧ r.acct ≤ 8) ∧ r.lane = 0 ∧ r.asset = 0 ∧ r.side = 0 ∧ r.price = 0 ∧ r.n = 0 ∧ r.now = false ∧ r.key = (0, 0) ∧ r.dst = 0 := by
 obtain ⟨k, a, l, s, d, p, n, o, ⟨kk, kn⟩, t⟩ := r;simp only at hk;subst hk;have hf : formF 7 = 1 := rfl;have hw : wiB 7 1 9 = true := rfl;unfold fitsB;dsimp only;rw [hf, hw];rw [show bits .and .i64 1 1 = 1 by kernel_rfl];rw [show bits .and .i64 1 2 = 0 by kernel_rfl];rw [show bits .and .i64 1 4 = 0 by kernel_rfl];rw [show bits .and .i64 1 8 = 0 by kernel_rfl];rw [show bits .and .i64 1 16 = 0 by kernel_rfl];rw [show bits .and .i64 1 32 = 0 by kernel_rfl];rw [show bits .and .i64 1 64 = 0 by kernel_rfl];rw [show bits .and .i64 1 128 = 0 by kernel_rfl];rw [show bits .and .i64 1 256 = 0 by kernel_rfl];unfold fitB fitK wiB
 simp
theorem keysK7 {r : ReqV} (hk : r.kind = 7) (hf : fitsB r = true) : keysB r = [(1, r.acct), (2, 1), (2, 2), (2, 3)] := by
 unfold keysB;rw [if_pos hf, hk]
 rfl
theorem fitF8 {r : ReqV} (hk : r.kind = 8) : fitsB r = true ↔ (1 ≤ r.acct ∧ r.acct ≤ 8) ∧ r.lane = 0 ∧ r.asset = 0 ∧ r.side = 0 ∧ r.price = 0 ∧ r.n = 0 ∧ r.now = false ∧ r.key = (0, 0) ∧ r.dst = 0 := by
 obtain ⟨k, a, l, s, d, p, n, o, ⟨kk, kn⟩, t⟩ := r;simp only at hk;subst hk;have hf : formF 8 = 1 := rfl;have hw : wiB 8 1 9 = true := rfl;unfold fitsB;dsimp only;rw [hf, hw];rw [show bits .and .i64 1 1 = 1 by kernel_rfl];rw [show bits .and .i64 1 2 = 0 by kernel_rfl];rw [show bits .and .i64 1 4 = 0 by kernel_rfl];rw [show bits .and .i64 1 8 = 0 by kernel_rfl];rw [show bits .and .i64 1 16 = 0 by kernel_rfl];rw [show bits .and .i64 1 32 = 0 by kernel_rfl];rw [show bits .and .i64 1 64 = 0 by kernel_rfl];rw [show bits .and .i64 1 128 = 0 by kernel_rfl];rw [show bits .and .i64 1 256 = 0 by kernel_rfl];unfold fitB fitK wiB
 simp
theorem keysK8 {r : ReqV} (hk : r.kind = 8) (hf : fitsB r = true) : keysB r = [(1, r.acct)] := by
 unfold keysB;rw [if_pos hf, hk]
 rfl
theorem fitF9 {r : ReqV} (hk : r.kind = 9) : fitsB r = true ↔ r.acct = 0 ∧ r.lane = 0 ∧ r.asset = 0 ∧ r.side = 0 ∧ r.price = 0 ∧ r.n = 0 ∧ r.now = false ∧ keyB r.key = true ∧ (0 ≤ r.dst ∧ r.dst ≤ 3) := by
 obtain ⟨k, a, l, s, d, p, n, o, ⟨kk, kn⟩, t⟩ := r;simp only at hk;subst hk;have hf : formF 9 = 384 := rfl;have hw : wiB 9 1 9 = true := rfl;unfold fitsB;dsimp only;rw [hf, hw];rw [show bits .and .i64 384 1 = 0 by kernel_rfl];rw [show bits .and .i64 384 2 = 0 by kernel_rfl];rw [show bits .and .i64 384 4 = 0 by kernel_rfl];rw [show bits .and .i64 384 8 = 0 by kernel_rfl];rw [show bits .and .i64 384 16 = 0 by kernel_rfl];rw [show bits .and .i64 384 32 = 0 by kernel_rfl];rw [show bits .and .i64 384 64 = 0 by kernel_rfl];rw [show bits .and .i64 384 128 = 128 by kernel_rfl];rw [show bits .and .i64 384 256 = 256 by kernel_rfl];unfold fitB fitK wiB
 simp
theorem keysK9 {r : ReqV} (hk : r.kind = 9) (hf : fitsB r = true) : keysB r = [r.key] := by
 unfold keysB;rw [if_pos hf, hk]
 rfl
end Go.Proofs.YtiinigifjdpicaaGreatDoor.Se
namespace Go.Proofs.YtiinigifjdpicaaGreatDoor
open Go.RowKit
set_option linter.all false
set_option maxRecDepth 100000 in
set_option maxHeartbeats 4000000 in
theorem brought_is (r : ReqV) (w : World) (hp : r.side = 1 → 0 ≤ r.price ∧ r.price ≤ 1000000 ∧ 0 ≤ r.n ∧ r.n ≤ 1000000) : Calls Tryz.prog 76 #[.agg (Se.reqC r)] w fun e w' => e = .returned (.tuple #[.int .i64 (brA_ r), .int .i64 (brN_ r)]) ∧ Below w.heap.size w w' := by
 have HE : Hid (brA_ r = if r.side = 1 then 0 else r.lane) := rfl;have HN : Hid (brN_ r = if r.side = 1 then r.price * r.n else r.n) := rfl;generalize brA_ r = ea at *;generalize brN_ r = en at *;obtain ⟨k, a, l, s, d, p, n, o, ⟨kk, kn⟩, t⟩ := r;simp only at hp HE HN;unfold Se.reqC
 simp only
 have HB := hideIt (below1 w (.cells #[.int .i64 k, .int .i64 a, .int .i64 l, .int .i64 s, .int .i64 d, .int .i64 p, .int .i64 n, .bool o, .int .i64 kk, .int .i64 kn, .int .i64 t] 26));have hx := heap_alloc_new w (.cells #[.int .i64 k, .int .i64 a, .int .i64 l, .int .i64 s, .int .i64 d, .int .i64 p, .int .i64 n, .bool o, .int .i64 kk, .int .i64 kn, .int .i64 t] 26)
 by_cases hd : d = 1
 ·subst hd;have h1 := hp rfl;obtain ⟨p1, p2, n1, n2⟩ := h1;have hm : p * n ≤ 1000000 * 1000000 := Int.mul_le_mul p2 n2 n1 (by omega);have hm0 : 0 ≤ p * n := Int.mul_nonneg p1 n1;have hw : IntKind.i64.wrap (p * n) = p * n := Lg.wrap_ok (by omega) (by omega);have hea := HE.out;have hen := HN.out;rw [if_pos rfl] at hea hen;subst hea hen;clear HE HN hp hm hm0 hx
  go_enter Tryz.func76, Tryz.ntmps76
  go_upto_region 2 with fail
  go_quiet (fail)
  go_wp2;exact bodyPost_ret (v := .tuple #[.int .i64 0, .int .i64 (p * n)]) (by simp [results, Tryz.results76, go_sem]) rfl ⟨rfl, Lg.bN HB.out _⟩
 ·have hdb : (d == 1) = false := beq_eq_false_iff_ne.2 hd;have hea := HE.out;have hen := HN.out;rw [if_neg hd] at hea hen;subst hea hen;clear HE HN hp hd hx
  go_enter Tryz.func76, Tryz.ntmps76
  go_upto_region 2 with fail
  go_quiet (fail)
  go_wp2;exact bodyPost_ret (v := .tuple #[.int .i64 ea, .int .i64 en]) (by simp [results, Tryz.results76, go_sem]) rfl ⟨rfl, Lg.bN HB.out _⟩
def TurB (l : List (Int × Int)) (w : World) (e : Ending) (w' : World) : Prop := ∃ a c, e = .returned (.slice a l.length c) ∧ w'.ownsRow w.heap.size 24 2 (.slice a l.length c) l.length (Se.celC Se.keyE l) ∧ Below w.heap.size w w'
set_option maxRecDepth 100000 in
set_option maxHeartbeats 4000000 in
theorem turns_is (r : ReqV) (w : World) (hF : Se.Forms w) (hf : Se.fitsB r = true) : Calls Tryz.prog 23 #[.agg (Se.reqC r)] w (TurB (turL r) w) := by
 have HB := hideIt (below1 w (.cells (Se.reqC r) 26));have HK := hideIt (Se.keys_is r _ (hF.keep HB.out));have hl : (Se.keysB r).length ≤ 4 := by
  unfold Se.keysB Se.keyT;rw [if_pos hf]
  repeat' split
  all_goals simp
 have hx := heap_alloc_new w (.cells (Se.reqC r) 26)
 by_cases h7 : r.kind = 7
 ·have hk7 := Se.keysK7 h7 hf;have ht : turL r = [(2, 1), (2, 2), (2, 3), (1, r.acct)] := by
   unfold turL;rw [if_pos h7, hk7]
   rfl
  rw [ht];rw [hk7] at HK;clear hl hf hF ht hk7;obtain ⟨k, a, l, s, d, p, n, o, ⟨kk, kn⟩, t⟩ := r;simp only at h7;subst h7;unfold Se.reqC at *;simp only at *;unfold Se.KeyBack Se.KeyOn at HK;simp only [List.length_cons, List.length_nil, Nat.zero_add, Nat.reduceAdd] at HK;clear hx
  go_enter Tryz.func23, Tryz.ntmps23
  go_wp2_with fail
  refine HK.out.mono ?_;rintro e w1 ⟨ga, gc, rfl, hown, hb⟩;dsimp only;have ck : w1.cell? ⟨w.heap.size, 0, none⟩ = some (.int .i64 7) := (box_cell hb 0).trans rfl;have hz1 : w.heap.size < w1.heap.size := by have := hb.size; simp at this; omega
  obtain ⟨_, ⟨hv, h0⟩ | ⟨g, cap, cur, hv, hgB, hg, hnc, hcm, hs, htk⟩⟩ := id hown
  ·exact absurd h0 (by omega)
  ·simp only [Value.slice.injEq] at hv;obtain ⟨rfl, _, rfl⟩ := hv;have HG := hideIt (Se.own_sgot (enc := Se.keyE) (bytes := 16) (l := [(1, a), (2, 1), (2, 2), (2, 3)]) hown (by simp));have HBB := hideIt (below_via HB.out hb);clear hown HK hb hg hgB hs htk HB;have hc1 : gc - 1 ≤ maxLen := by omega
   obtain ⟨c', rfl⟩ : ∃ c', gc = c' + 4 := ⟨gc - 4, by omega⟩;have P1 := hideIt (Se.SGot.part Se.keyK HG.out 1 3 (c' + 3) (by simp) ⟨by omega, by omega⟩ (some ⟨g, 2, none⟩) (fun _ b off e => by simp only [Option.some.injEq, Addr.mk.injEq] at e; rw [← e.1, ← e.2.1]))
   have P2 := hideIt (Se.SGot.part Se.keyK HG.out 0 1 (c' + 4) (by simp) ⟨by omega, by omega⟩ (some ⟨g, 0, none⟩) (fun _ b off e => by simp only [Option.some.injEq, Addr.mk.injEq] at e; rw [← e.1, ← e.2.1]))
   simp only [List.drop_succ_cons, List.drop_zero, List.take_succ_cons, List.take_zero] at P1 P2;have hcI : ((c' + 4 : Nat) : Int) = (c' : Int) + 4 := by omega
   clear hnc hcm hc1;have HC : Hid (∀ W, W.heap[w1.heap.size]? = some (.cells #[.slice (some ⟨g, 2, none⟩) 3 (c' + 3), .slice (some ⟨g, 0, none⟩) 1 (c' + 4)] 48 (0, 0)) → Below w1.heap.size w1 W → Calls Tryz.prog 50 #[.slice (some ⟨w1.heap.size, 0, none⟩) 2 2] W (fun e w' => ∃ r1 r2, e = .returned (.slice r1 4 r2) ∧ Hid (w'.ownsRow w.heap.size 24 2 (.slice r1 4 r2) 4 (Se.celC Se.keyE [(2, 1), (2, 2), (2, 3), (1, a)]) ∧ Below w.heap.size w w'))) := by
    intro W hW hB;have hlt : w1.heap.size < W.heap.size := (Array.getElem?_eq_some_iff.1 hW).1;refine (Se.concat_is (.slice (some ⟨w1.heap.size, 0, none⟩) 2 2) [.slice (some ⟨g, 2, none⟩) 3 (c' + 3), .slice (some ⟨g, 0, none⟩) 1 (c' + 4)] [[(2, 1), (2, 2), (2, 3)], [(1, a)]] [(2, 1), (2, 2), (2, 3), (1, a)] rfl W ⟨rfl, some ⟨w1.heap.size, 0, none⟩, 2, rfl, ?_⟩ (by simp) (by simp)).mono ?_
    ·intro j h1 h2;refine ⟨w1.heap.size, 0, rfl, hlt, ?_, ?_⟩
     ·rw [cell_at hW]
      rcases (by simp at h1; omega : j = 0 ∨ j = 1) with rfl | rfl <;> rfl
     ·rcases (by simp at h1; omega : j = 0 ∨ j = 1) with rfl | rfl
      ·exact P1.out.keep hB
      ·exact P2.out.keep hB
    ·rintro e w' ⟨r, rfl, ho, hb⟩;obtain ⟨r1, r2, rfl⟩ := Se.own_len ho
     exact ⟨r1, r2, rfl, hideIt ⟨own_base ho (below_via HBB.out hB).size, below_via HBB.out (below_via hB hb)⟩⟩
   clear HG P1 P2 HBB;have HB1 := hideIt (below1 w1 (.cells #[.slice (some ⟨g, 2, none⟩) 3 (c' + 3), .slice (some ⟨g, 0, none⟩) 1 (c' + 4)] 48));have HN1 := hideIt (heap_alloc_new w1 (.cells #[.slice (some ⟨g, 2, none⟩) 3 (c' + 3), .slice (some ⟨g, 0, none⟩) 1 (c' + 4)] 48))
   go_upto_region 4 with fail
   go_region_with (refine (HC.out _ (by exact HN1.out) (by first | exact HB1.out.drew | exact HB1.out)).mono ?_; rintro e w5 ⟨r1, r2, rfl, HR⟩; dsimp only)
   all_goals
    go_wp2;go_ret
    exact ⟨_, _, rfl, HR.out.1, HR.out.2⟩
 ·have ht : turL r = Se.keysB r := if_neg h7;rw [ht];have h7b : (r.kind == 7) = false := beq_eq_false_iff_ne.2 h7;have HL := hideIt hl;generalize Se.keysB r = ks at *;obtain ⟨k, a, l, s, d, p, n, o, ⟨kk, kn⟩, t⟩ := r;simp only at h7b;unfold Se.reqC at *;simp only at *;unfold Se.KeyBack Se.KeyOn at HK;clear hx ht h7 hl
  go_enter Tryz.func23, Tryz.ntmps23
  go_wp2_with fail
  refine HK.out.mono ?_;rintro e w1 ⟨ga, gc, rfl, hown, hb⟩;dsimp only;have ck : w1.cell? ⟨w.heap.size, 0, none⟩ = some (.int .i64 k) := (box_cell hb 0).trans rfl;have hz1 : w.heap.size < w1.heap.size := by have := hb.size; simp at this; omega
  have HG := hideIt (own_base (B' := w.heap.size) hown HB.out.size);have HBB := hideIt (below_via HB.out hb);clear hown HK hb;go_wp2;go_ret
  exact ⟨_, _, rfl, HG.out, HBB.out⟩
theorem accX_of {X : AccV × Int} {W : World} {e : Ending} {w' : World} (hl : X.1.l.length * 16 ≤ 140737488355328) (h : Lg.AccErr X W e w') : ∃ f c, e = .returned (.tuple #[.agg #[.slice f X.1.l.length c, .int .i64 X.1.ct], .int .i64 X.2]) ∧ Hid (AccOwn W.heap.size w' ⟨X.1, f, c⟩ ∧ Below W.heap.size W w') := by
 obtain ⟨g, he, ho, hb⟩ := h;obtain ⟨f, c, rfl⟩ := own_len ho
 exact ⟨f, c, he, hideIt ⟨⟨ho, hl⟩, hb⟩⟩
def CrB (X : AccV × Int) (W : World) (e : Ending) (w' : World) : Prop := ∃ f c, e = .returned (.tuple #[.agg #[.slice f X.1.l.length c, .int .i64 X.1.ct], .int .i64 X.2]) ∧ Hid (AccOwn W.heap.size w' ⟨X.1, f, c⟩ ∧ Below W.heap.size W w')
theorem credX (l : List AmtV) (ct : Int) (fa : Option Addr) (fc : Nat) (a n : Int) (W : World) (h : Amts W (.slice fa l.length fc) l) : Calls Tryz.prog 75 #[.agg #[.slice fa l.length fc, .int .i64 ct], .int .i64 a, .int .i64 n] W (CrB (Lg.credL ⟨l, ct⟩ a n) W) :=
 (Lg.credit_is ⟨l, ct⟩ (.slice fa l.length fc) a n W h).mono (fun _ _ hh => accX_of (Lg.cred_len _ _ _) hh)
theorem debX (l : List AmtV) (ct : Int) (fa : Option Addr) (fc : Nat) (a n : Int) (W : World) (h : Amts W (.slice fa l.length fc) l) : Calls Tryz.prog 77 #[.agg #[.slice fa l.length fc, .int .i64 ct], .int .i64 a, .int .i64 n] W (CrB (Lg.debL ⟨l, ct⟩ a n) W) :=
 (Lg.debit_is ⟨l, ct⟩ (.slice fa l.length fc) a n W h).mono (fun _ _ hh => accX_of (Lg.deb_len _ _ _) hh)
def payZ (i : Nat) (S : StV) : StV × Int := if aboveB Lg.AmtV.n (accD S i).l 4503599627370496 || decide (999999900 < (accD S i).ct) then (S, 6) else ({S with a := S.a.set i (payF (Lg.pre S.s 4) (accD S i)).1, am := Lg.pre S.s 4}, (payF (Lg.pre S.s 4) (accD S i)).2)
theorem payF_step {L : List AmtV} {t : Nat} (A : AccV) (h : t < L.length) : payF (L.drop t) A = if (Lg.credL A (L[t]).k (L[t]).n).2 = 0 then payF (L.drop (t + 1)) (Lg.credL A (L[t]).k (L[t]).n).1 else (A, (Lg.credL A (L[t]).k (L[t]).n).2) := by
 rw [List.drop_eq_getElem_cons h]
 rfl
theorem WK.amts {w wx : World} {K : Nat} {X : WkX} (h : WK w K X wx) : ∀ i (hi : i < X.am.length), ∃ b off, X.fm = some ⟨b, off, none⟩ ∧ b < wx.heap.size ∧ wx.cell? ⟨b, off + i * 2, none⟩ = some (.int .i64 (X.am[i]).k) ∧ wx.cell? ⟨b, off + i * 2 + 1, none⟩ = some (.int .i64 (X.am[i]).n) := by
 intro i hi;obtain ⟨a, c, e, _, hr⟩ := SGot.amts (own_sgot h.am h.sam);simp only [Value.slice.injEq] at e;rw [e.1];exact hr i hi
set_option maxRecDepth 100000 in
set_option maxHeartbeats 16000000 in
theorem pay_is (w : World) (K i : Nat) (X : WkX) (wx : World) (h : WK w K X wx) (hi : i < X.A.length) : Calls Tryz.prog 78 #[.pointer (some ⟨K, 0, none⟩), .pointer (some ⟨X.ga, i * 2, none⟩)] wx (WkB w K X (payZ i X.st)) := by
 have HX := hideIt h;obtain ⟨⟨c0, c1⟩, cf, cz, hat⟩ := h.acc hi;have hK := (Array.getElem?_eq_some_iff.1 h.box).1;have HZ : Hid (payZ i X.st = if aboveB Lg.AmtV.n (X.A[i]).v.l 4503599627370496 || decide (999999900 < (X.A[i]).v.ct) then (X.st, 6) else ({X.st with a := X.st.a.set i (payF (Lg.pre X.s 4) (X.A[i]).v).1, am := Lg.pre X.s 4}, (payF (Lg.pre X.s 4) (X.A[i]).v).2)) := by
  show _ = _
  unfold payZ;rw [accD_at hi]
  rfl
 have HAB := hideIt (hasAbove_is _ _ 4503599627370496 wx hat);have HAM := hideIt (fun W (hW : WK w K X W) => Lg.amountsM_is K 13 X.s W (fun t ht => by
  obtain ⟨⟨d0, d1, d2, d3, d4, d5, d6, d7, d8, d9, d10, d11, d12, d13, d14, d15, d16, d17, d18, d19, d20⟩, _, _⟩ := at21 hW.box
  rcases (by omega : t = 0 ∨ t = 1 ∨ t = 2 ∨ t = 3) with rfl | rfl | rfl | rfl
  ·exact d13
  ·exact d14
  ·exact d15
  ·exact d16) (Array.getElem?_eq_some_iff.1 hW.box).1)
 have HGET : Hid (X.A[i] = X.A[i]) := rfl;clear h hat;obtain ⟨A0, hA0⟩ : ∃ A0, A0 = (X.A[i]).v := ⟨_, rfl⟩;have HA0 := hideIt hA0;rw [← hA0] at HZ HAB c0 c1;clear hA0 HGET;cases hab : aboveB Lg.AmtV.n A0.l 4503599627370496
 ·rw [hab] at HZ HAB
  by_cases hct : 999999900 < A0.ct
  ·have hz := HZ.out;rw [decide_eq_true hct] at hz;simp only [Bool.false_or, if_true] at hz;rw [hz];clear HZ hz HAM hab HA0;generalize A0.l.length = n at *;generalize A0.ct = ct at *
   go_enter Tryz.func78, Tryz.ntmps78
   go_wp2_with fail
   refine HAB.out.mono ?_;rintro e w1 ⟨rfl, hb⟩;dsimp only;have c1' := (hb.cell (p := ⟨X.ga, i * 2 + 1, none⟩) cz).trans c1;have cz' : X.ga < w1.heap.size := Nat.lt_of_lt_of_le cz hb.size;have HX1 := hideIt (HX.out.keep hb);clear hb HX HAB c0 c1 cf cz;go_wp2;go_ret
   exact ⟨X, rfl, rfl, rfl, rfl, rfl, HX1.out⟩
  ·have hz := HZ.out;have hctd : decide (999999900 < A0.ct) = false := decide_eq_false hct;rw [hctd] at hz;simp only [Bool.or_self, Bool.false_eq_true, if_false] at hz;rw [hz];clear HZ hz hab hctd;have hctI : A0.ct ≤ 999999900 := by omega
   have HL0 : Hid (X.A[i] = X.A[i]) := rfl
   go_enter Tryz.func78, Tryz.ntmps78
   go_wp2_with fail
   refine HAB.out.mono ?_;rintro e w1 ⟨rfl, hb⟩;dsimp only;have c1' := (hb.cell (p := ⟨X.ga, i * 2 + 1, none⟩) cz).trans c1;have cz' : X.ga < w1.heap.size := Nat.lt_of_lt_of_le cz hb.size;have HX1 := hideIt (HX.out.keep hb);have hK1 : K < w1.heap.size := Nat.lt_of_lt_of_le hK hb.size;clear hb HX HAB c0 c1 cf cz hct HL0
   go_wp2_with fail
   refine (HAM.out _ HX1.out).mono ?_;rintro e w2 ⟨g, rfl, hm⟩;dsimp only;obtain ⟨fm, cm, rfl⟩ := own_len hm.own;have hK2 : K < w2.heap.size := Nat.lt_of_lt_of_le hK1 hm.bel.size;have HX2 := hideIt (HX1.out.keep hm.bel);obtain ⟨⟨-, -, -, -, -, -, -, -, -, -, -, -, -, -, -, -, -, -, -, d19, -⟩, df, dz⟩ := at21 HX2.out.box;have hpl : (Lg.pre X.s 4).length ≤ 4 := Lg.pre_len _ _;have HX3 := hideIt (HX2.out.setAm fm cm (Lg.pre X.s 4) (own_base hm.own HX1.out.bel.size) (by omega));clear HX1 HX2 hm c1' cz' HAM;obtain ⟨PL, hPL⟩ : ∃ PL, PL = Lg.pre X.s 4 := ⟨_, rfl⟩;rw [← hPL] at hpl HX3 ⊢;have HPL := hideIt hPL;clear hPL
   go_upto_region 4 with fail
   clear d19 df dz;generalize w2.setCell ⟨K, 19, none⟩ (.slice fm PL.length cm) = w3 at *;obtain ⟨⟨-, -, -, -, -, -, -, -, -, -, -, -, -, -, -, -, -, -, -, d19, -⟩, df, dz⟩ := at21 HX3.out.box;simp only at d19;have HS : Hid (payF (PL.drop 0) A0 = payF PL A0 ∧ WK w K {X with fm := fm, cm := cm, am := PL, A := X.A.set i X.A[i]} w3 ∧ (X.A[i]).v = A0) := by
    refine ⟨by rw [List.drop_zero], ?_, HA0.out.symm⟩;rw [List.set_getElem_self];exact HX3.out
   go_upto_region 5 with fail
   clear d19 df dz HX3 hK1 hK2 hK
   go_loopw [35] (fun v wr => ∃ (t : Nat) (x : AccX), v = .int .i64 t ∧ t ≤ PL.length ∧ Hid (payF (PL.drop t) x.v = payF PL A0 ∧ WK w K {X with fm := fm, cm := cm, am := PL, A := X.A.set i x} wr)) (fun v _ => PL.length - (intOf v).toNat)
   case atStart => exact ⟨0, X.A[i], rfl, Nat.zero_le _, hideIt ⟨by rw [HS.out.2.2]; exact HS.out.1, HS.out.2.1⟩⟩
   case round =>
    clear HS;obtain ⟨t, x, rfl, ht, HR⟩ := hrel
    by_cases hlt : t < PL.length
    ·have hltI : (t : Int) < (PL.length : Int) := by omega
     have ht0 : (0 : Int) ≤ (t : Int) := by omega
     obtain ⟨b, off, hfm, hbl, q0, q1⟩ := HR.out.2.amts t hlt;simp only at hfm q0 q1;subst hfm;have HSTEP := hideIt (payF_step x.v hlt);have HRR := hideIt HR.out.2;have HRE := hideIt HR.out.1;clear HR;generalize PL[t] = en at *;obtain ⟨ek, ex⟩ := en;simp only at q0 q1 HSTEP;have hgr := heap_alloc_new wr (.cells #[.int .i64 ek, .int .i64 ex] 53);have HXa := hideIt (HRR.out.keep (below1 wr (.cells #[.int .i64 ek, .int .i64 ex] 53)));have n0 : (wr.alloc (.cells #[.int .i64 ek, .int .i64 ex] 53)).cell? ⟨wr.heap.size, 0, none⟩ = some (.int .i64 ek) := (cell_at hgr 0).trans rfl;have n1 : (wr.alloc (.cells #[.int .i64 ek, .int .i64 ex] 53)).cell? ⟨wr.heap.size, 1, none⟩ = some (.int .i64 ex) := (cell_at hgr 1).trans rfl;have nz : wr.heap.size < (wr.alloc (.cells #[.int .i64 ek, .int .i64 ex] 53)).heap.size := by simp
     clear hgr HRR
     go_upto_region 7 with fail
     clear q0 q1;generalize hKA : wr.heap.size = KA at *;have HKA := hideIt hKA;clear hKA;generalize wr.alloc (.cells #[.int .i64 ek, .int .i64 ex] 53) = W1 at *;have hacc := HXa.out.acc (i := i) (by simp only [List.length_set]; exact hi)
     simp only [List.getElem_set_self] at hacc;obtain ⟨⟨a0, a1⟩, af, az, hat⟩ := hacc;obtain ⟨⟨al, act⟩, xa, xc⟩ := x;simp only at a0 a1 hat HSTEP;have HC : Hid (∀ W, Below W1.heap.size W1 W → Calls Tryz.prog 75 #[.agg #[.slice xa al.length xc, .int .i64 act], .int .i64 ek, .int .i64 ex] W (fun e w' => ∃ f c, e = .returned (.tuple #[.agg #[.slice f (Lg.credL ⟨al, act⟩ ek ex).1.l.length c, .int .i64 (Lg.credL ⟨al, act⟩ ek ex).1.ct], .int .i64 (Lg.credL ⟨al, act⟩ ek ex).2]) ∧ Hid (AccOwn W1.heap.size w' ⟨(Lg.credL ⟨al, act⟩ ek ex).1, f, c⟩ ∧ Below W1.heap.size W1 w' ∧ Below W.heap.size W w'))) := by
      intro W hW;refine (credX al act xa xc ek ex W (SGot.keep hat hW)).mono ?_;rintro e w' ⟨f, c, rfl, ho⟩
      exact ⟨f, c, rfl, hideIt ⟨ho.out.1.base hW.size, below_via hW ho.out.2, ho.out.2⟩⟩
     generalize Lg.credL ⟨al, act⟩ ek ex = CR at *;obtain ⟨⟨cl, cct⟩, cer⟩ := CR;simp only at HC HSTEP;clear hat;have HFA : Hid (∀ W, Below W1.heap.size W1 W → W.cell? ⟨X.ga, i * 2, none⟩ = some (.slice xa al.length xc) ∧ W.cell? ⟨X.ga, i * 2 + 1, none⟩ = some (.int .i64 act) ∧ W.cell? ⟨KA, 0, none⟩ = some (.int .i64 ek) ∧ W.cell? ⟨KA, 1, none⟩ = some (.int .i64 ex)) := fun W hW => ⟨(hW.cell (p := ⟨X.ga, i * 2, none⟩) az).trans a0, (hW.cell (p := ⟨X.ga, i * 2 + 1, none⟩) az).trans a1, (hW.cell (p := ⟨KA, 0, none⟩) nz).trans n0, (hW.cell (p := ⟨KA, 1, none⟩) nz).trans n1⟩
     have HCY : Hid (∀ W, Below W1.heap.size W1 W → Calls Tryz.prog 75 #[.agg #[.slice xa al.length xc, .int .i64 act], .int .i64 ek, .int .i64 ex] W (fun e w' => ∃ f c, e = .returned (.tuple #[.agg #[.slice f cl.length c, .int .i64 cct], .int .i64 cer]) ∧ Hid (AccOwn W1.heap.size w' ⟨⟨cl, cct⟩, f, c⟩ ∧ Below W1.heap.size W1 w' ∧ Below W.heap.size W w') ∧ (w'.cell? ⟨X.ga, i * 2, none⟩ = some (.slice xa al.length xc) ∧ w'.cell? ⟨X.ga, i * 2 + 1, none⟩ = some (.int .i64 act) ∧ w'.cell? ⟨KA, 0, none⟩ = some (.int .i64 ek) ∧ w'.cell? ⟨KA, 1, none⟩ = some (.int .i64 ex)))) := by
      intro W hW;refine (HC.out W hW).mono ?_;rintro e w' ⟨f, c, rfl, ho⟩
      exact ⟨f, c, rfl, ho, HFA.out w' ho.out.2.1⟩
     clear HC;have NA : ∀ x, (W1.alloc x).cell? ⟨X.ga, i * 2, none⟩ = some (.slice xa al.length xc) ∧ (W1.alloc x).cell? ⟨X.ga, i * 2 + 1, none⟩ = some (.int .i64 act) ∧ (W1.alloc x).cell? ⟨KA, 0, none⟩ = some (.int .i64 ek) ∧ (W1.alloc x).cell? ⟨KA, 1, none⟩ = some (.int .i64 ex) := fun x => HFA.out _ (below1 W1 x)
     have ZF : Hid (∀ w', Below (W1.alloc (.cells #[.slice none 0 0, .int .i64 0] 44)).heap.size (W1.alloc (.cells #[.slice none 0 0, .int .i64 0] 44)) w' → (w'.cell? ⟨W1.heap.size, 0, none⟩ = some (.slice none 0 0) ∧ w'.cell? ⟨W1.heap.size, 1, none⟩ = some (.int .i64 0)) ∧ (∀ j, w'.frozen? ⟨W1.heap.size, j, none⟩ = false) ∧ W1.heap.size < w'.heap.size) := by
      intro w' hb;exact at2 ((hb.block W1.heap.size (by simp)).trans (heap_alloc_new W1 _))
     have y1 : W1.heap.size ≠ X.ga := by omega
     have y2 : W1.heap.size ≠ KA := by omega
     have y3 : X.ga ≠ W1.heap.size := by omega
     have y4 : KA ≠ W1.heap.size := by omega
     go_cut [7, 8] from 39 to 49 (fun x y wx => ∃ km f c, x = .pointer (some ⟨km, 0, none⟩) ∧ y = .int .i64 cer ∧ Hid (wx.heap[km]? = some (.cells #[.slice f cl.length c, .int .i64 cct] 44 (0, 0)) ∧ AccOwn W1.heap.size wx ⟨⟨cl, cct⟩, f, c⟩ ∧ Below W1.heap.size W1 wx))
     case first =>
      clear HFA HSTEP HXa HRE HPL HA0 HKA
      go_region_held3 (fun W => W.cell? ⟨X.ga, i * 2, none⟩ = some (.slice xa al.length xc) ∧ W.cell? ⟨X.ga, i * 2 + 1, none⟩ = some (.int .i64 act) ∧ W.cell? ⟨KA, 0, none⟩ = some (.int .i64 ek) ∧ W.cell? ⟨KA, 1, none⟩ = some (.int .i64 ex)) (go_keep) (first | (go_at_call 75; refine (HCY.out (W1.alloc (.cells #[.slice none 0 0, .int .i64 0] 44)).drew (below1 _ _).drew).mono ?_; rintro e w5 ⟨f, c, rfl, HQ, ⟨i0, i1, i2, i3⟩⟩; obtain ⟨⟨m0, m1⟩, mf, mz⟩ := ZF.out w5 (below_via (Below.refl _ _).drew HQ.out.2.2)) | (go_at_call 75; refine (HCY.out W1.drew (Below.refl _ _).drew).mono ?_; rintro e w5 ⟨f, c, rfl, HQ, ⟨i0, i1, i2, i3⟩⟩))
      all_goals go_wp2_with fail
      all_goals go_meet
      ·exact ⟨w5.heap.size, f, c, rfl, rfl, hideIt ⟨heap_alloc_new w5 _, HQ.out.1.keep (below1 w5 _), below_via HQ.out.2.1 (below1 w5 _)⟩⟩
      ·have hz := (HQ.out.2.2.block W1.heap.size (show W1.heap.size < (W1.alloc (.cells #[.slice none 0 0, .int .i64 0] 44)).heap.size by simp)).trans (heap_alloc_new W1 _);have hp2 := puts2 w5 W1.heap.size 44 (.slice f cl.length c) (.int .i64 cct) hz
       exact ⟨W1.heap.size, f, c, rfl, rfl, hideIt ⟨hp2.1, (HQ.out.1.set hz (by decide)).set (heap_set hz 0 _) (by decide), belowSet _ (belowSet _ HQ.out.2.1 (Nat.le_refl _)) (Nat.le_refl _)⟩⟩
     case rest =>
     obtain ⟨km, f, c, rfl, rfl, HM⟩ := hcut;clear HCY NA ZF y1 y2 y3 y4 n0 n1 nz a0 a1 af az;have HX5 := hideIt (HXa.out.keep HM.out.2.2);have hB5 : w.heap.size ≤ W1.heap.size := HXa.out.bel.size;have hacc := HX5.out.acc (i := i) (by simp only [List.length_set]; exact hi)
     simp only [List.getElem_set_self] at hacc;obtain ⟨⟨a0, a1⟩, af, az, -⟩ := hacc;have HPUT := hideIt (HX5.out.putA (i := i) (by simp only [List.length_set]; exact hi) ⟨⟨cl, cct⟩, f, c⟩ (HM.out.2.1.base hB5))
     simp only [List.set_set] at HPUT;obtain ⟨⟨m0, m1⟩, -, mz⟩ := at2 HM.out.1;clear HM HXa;have ge := HSTEP.out
     by_cases her : cer = 0
     ·rw [if_pos her] at ge;have HN := hideIt ge;have herb : (cer == 0) = true := beq_iff_eq.2 her;clear ge HSTEP HX5 her;go_wp2
      revert HPUT
      generalize (World.setCell _ ⟨X.ga, i * 2 + 1, none⟩ _) = WF;intro HPUT
      go_roundw
      case rel => exact ⟨t + 1, ⟨⟨cl, cct⟩, f, c⟩, by go_num, by omega, hideIt ⟨by rw [← HN.out]; exact HRE.out, HPUT.out⟩⟩
      case measure => simp [intOf]; omega
     ·rw [if_neg her] at ge;have HN := hideIt ge;have herb : (cer == 0) = false := beq_eq_false_iff_ne.2 her;clear ge HSTEP HPUT her;go_wp2;go_ret;have hE := HRE.out;rw [HN.out] at hE;rw [← HPL.out, ← hE]
      exact ⟨{X with fm := some ⟨b, off, none⟩, cm := cm, am := PL, A := X.A.set i ⟨⟨al, act⟩, xa, xc⟩}, rfl, by simp only [WkX.st, List.map_set], rfl, by simp, rfl, HX5.out⟩
    ·have hltI : ¬ (t : Int) < (PL.length : Int) := by omega
     obtain rfl : t = PL.length := by omega
     have HE := hideIt HR.out.1;have HG := hideIt HR.out.2;clear HR;go_wp2;go_ret;have hE := HE.out;rw [List.drop_length] at hE;rw [← HPL.out, ← hE]
     exact ⟨{X with fm := fm, cm := cm, am := PL, A := X.A.set i x}, rfl, by simp only [WkX.st, List.map_set]; rfl, rfl, by simp, rfl, HG.out⟩
 ·rw [hab] at HZ HAB;have hz := HZ.out;simp only [Bool.true_or, if_true] at hz;rw [hz];clear HZ hz HAM hab HA0;generalize A0.l.length = n at *;generalize A0.ct = ct at *
  go_enter Tryz.func78, Tryz.ntmps78
  go_wp2_with fail
  refine HAB.out.mono ?_;rintro e w1 ⟨rfl, hb⟩;dsimp only;have HX1 := hideIt (HX.out.keep hb);clear hb HX HAB c0 c1 cf cz;go_wp2;go_ret
  exact ⟨X, rfl, rfl, rfl, rfl, rfl, HX1.out⟩
end Go.Proofs.YtiinigifjdpicaaGreatDoor
