/- Texts of my own, laid together. -/
import Derived.Test.YtiinigifjdpicaaGreatDoorMc05
import Derived.Test.YtiinigifjdpicaaGreatDoorMc00
import Derived.Test.YtiinigifjdpicaaGreatDoorPx06
namespace Go.Proofs.YtiinigifjdpicaaGreatDoor
open Go.RowKit
set_option linter.all false
def FLaneBack (L : LaneV) (w : World) (e : Ending) (w' : World) : Prop := ∃ b a o, e = .returned (laneV L b a o) ∧ w'.ownsRow w.heap.size 115 4 b L.bids.length (celC ordE L.bids) ∧ w'.ownsRow w.heap.size 115 4 a L.asks.length (celC ordE L.asks) ∧ w'.ownsRow w.heap.size 61 3 o L.owed.length (celC oweE L.owed) ∧ (b.ownBlock = none ∨ b.ownBlock ≠ a.ownBlock) ∧ Below w.heap.size w w'
set_option maxHeartbeats 8000000 in
set_option maxRecDepth 100000 in
theorem fLane_is (L : LaneV) (b a o : Value) (w : World) (h : Lan w L b a o) : Calls Tryz.prog 48 #[laneV L b a o] w (FLaneBack L w) := by
 have X0 := hideIt (CB.first w L b a o);have H1 := hideIt (fun W (hW : Below w.heap.size w W) => cloneO_is b L.bids W (h.keep hW).bids);have H2 := hideIt (fun W (hW : Below w.heap.size w W) => cloneO_is a L.asks W (h.keep hW).asks);have H3 := hideIt (fun W (hW : Below w.heap.size w W) => cloneW_is o L.owed W (h.keep hW).owed);unfold FLaneBack;obtain ⟨ba, bc, rfl⟩ := h.bids.slice;obtain ⟨aa, ac, rfl⟩ := h.asks.slice;obtain ⟨oa, oc, rfl⟩ := h.owed.slice;clear h;unfold laneV laneA at *;obtain ⟨cl, nx, bids, asks, owed⟩ := L;simp only at *
 go_enter Tryz.func48, Tryz.ntmps48
 go_upto_region 1 with fail
 generalize (w.alloc (.cells #[.bool cl, .int .i64 nx, .slice ba bids.length bc, .slice aa asks.length ac, .slice oa owed.length oc] 59)).alloc (.cells #[.bool false, .int .i64 0, .slice none 0 0, .slice none 0 0, .slice none 0 0] 59) = w0 at *;obtain ⟨c0, c1, c2, c3, c4⟩ := X0.out.cells;simp only at c0 c1 c2 c3 c4
 go_wp2_with fail
 refine (H1.out _ X0.out.bel).mono ?_;rintro e w1 ⟨b1, rfl, ho, hb⟩;dsimp only;obtain ⟨b1a, b1c, rfl⟩ := own_len ho;have X1 := hideIt ((X0.out.keep hb).set2 (.slice b1a bids.length b1c));have O1 := hideIt (own_base (own_cell (j := 2) (u := .slice b1a bids.length b1c) ho (X0.out.keep hb).box (by decide)) (Nat.le_trans (Nat.le_add_right w.heap.size 2) X0.out.size));have fz : w1.frozen? ⟨w.heap.size, 2, none⟩ = false := free_at (X0.out.keep hb).box 2;have k2 : w1.cell? ⟨w.heap.size, 2, none⟩ = some (.slice ba bids.length bc) := (X0.out.keep hb).cells.2.2.1;clear ho hb H1 c0 c1 c2 c3 c4 X0
 go_upto_region 2 with fail
 clear fz k2;generalize w1.setCell ⟨w.heap.size, 2, none⟩ (.slice b1a bids.length b1c) = w2 at *;have K2 := hideIt (O1.out.lt);obtain ⟨c0, c1, c2, c3, c4⟩ := X1.out.cells;simp only at c0 c1 c2 c3 c4
 go_wp2_with fail
 refine (H2.out _ X1.out.bel).mono ?_;rintro e w3 ⟨a1, rfl, ho, hb⟩;dsimp only;obtain ⟨a1a, a1c, rfl⟩ := own_len ho;have SP : Hid ((Value.slice b1a bids.length b1c).ownBlock = none ∨ (Value.slice b1a bids.length b1c).ownBlock ≠ (Value.slice a1a asks.length a1c).ownBlock) := by
  cases hq : (Value.slice b1a bids.length b1c).ownBlock with
  | none => exact .inl rfl
  | some q =>
   refine .inr (fun e => ?_);have h1 := K2.out q hq;have h2 := ho.lt q e.symm;omega
 have X3 := hideIt ((X1.out.keep hb).set3 (.slice a1a asks.length a1c));have O3 := hideIt (own_cell (j := 3) (u := .slice a1a asks.length a1c) (own_keep O1.out hb) (X1.out.keep hb).box (by decide));have A3 := hideIt (own_base (own_cell (j := 3) (u := .slice a1a asks.length a1c) ho (X1.out.keep hb).box (by decide)) (Nat.le_trans (Nat.le_add_right w.heap.size 2) X1.out.size));have fz : w3.frozen? ⟨w.heap.size, 3, none⟩ = false := free_at (X1.out.keep hb).box 3;have k2 : w3.cell? ⟨w.heap.size, 3, none⟩ = some (.slice aa asks.length ac) := (X1.out.keep hb).cells.2.2.2.1;clear ho hb H2 c0 c1 c2 c3 c4 X1 O1 K2
 go_upto_region 3 with fail
 clear fz k2;generalize w3.setCell ⟨w.heap.size, 3, none⟩ (.slice a1a asks.length a1c) = w4 at *;obtain ⟨c0, c1, c2, c3, c4⟩ := X3.out.cells;simp only at c0 c1 c2 c3 c4
 go_wp2_with fail
 refine (H3.out _ X3.out.bel).mono ?_;rintro e w5 ⟨o1, rfl, ho, hb⟩;dsimp only;obtain ⟨o1a, o1c, rfl⟩ := own_len ho;have X5 := hideIt ((X3.out.keep hb).set4 (.slice o1a owed.length o1c));have O5 := hideIt (own_cell (j := 4) (u := .slice o1a owed.length o1c) (own_keep O3.out hb) (X3.out.keep hb).box (by decide));have A5 := hideIt (own_cell (j := 4) (u := .slice o1a owed.length o1c) (own_keep A3.out hb) (X3.out.keep hb).box (by decide));have W5 := hideIt (own_base (own_cell (j := 4) (u := .slice o1a owed.length o1c) ho (X3.out.keep hb).box (by decide)) (Nat.le_trans (Nat.le_add_right w.heap.size 2) X3.out.size));have fz : w5.frozen? ⟨w.heap.size, 4, none⟩ = false := free_at (X3.out.keep hb).box 4;have k2 : w5.cell? ⟨w.heap.size, 4, none⟩ = some (.slice oa owed.length oc) := (X3.out.keep hb).cells.2.2.2.2;clear ho hb H3 c0 c1 c2 c3 c4 X3 O3 A3
 go_upto_region 4 with fail
 clear fz k2;generalize w5.setCell ⟨w.heap.size, 4, none⟩ (.slice o1a owed.length o1c) = w6 at *;obtain ⟨c0, c1, c2, c3, c4⟩ := X5.out.cells;simp only at c0 c1 c2 c3 c4;have z0 : w6.cell? ⟨w.heap.size + 1, 0, none⟩ = some (.bool false) := by rw [cell_at X5.out.res]; rfl
 have z1 : w6.cell? ⟨w.heap.size + 1, 1, none⟩ = some (.int .i64 0) := by rw [cell_at X5.out.res]; rfl
 have z2 : w6.cell? ⟨w.heap.size + 1, 2, none⟩ = some (.slice none 0 0) := by rw [cell_at X5.out.res]; rfl
 have z3 : w6.cell? ⟨w.heap.size + 1, 3, none⟩ = some (.slice none 0 0) := by rw [cell_at X5.out.res]; rfl
 have z4 : w6.cell? ⟨w.heap.size + 1, 4, none⟩ = some (.slice none 0 0) := by rw [cell_at X5.out.res]; rfl
 have zf : ∀ j, w6.frozen? ⟨w.heap.size + 1, j, none⟩ = false := fun j => free_at X5.out.res j
 have HP := hideIt (X5.out.put (.bool cl) (.int .i64 nx) (.slice b1a bids.length b1c) (.slice a1a asks.length a1c) (.slice o1a owed.length o1c));have HO := hideIt (own_five O5.out X5.out.res (by decide) (.bool cl) (.int .i64 nx) (.slice b1a bids.length b1c) (.slice a1a asks.length a1c) (.slice o1a owed.length o1c));have HA := hideIt (own_five A5.out X5.out.res (by decide) (.bool cl) (.int .i64 nx) (.slice b1a bids.length b1c) (.slice a1a asks.length a1c) (.slice o1a owed.length o1c));have HW := hideIt (own_five W5.out X5.out.res (by decide) (.bool cl) (.int .i64 nx) (.slice b1a bids.length b1c) (.slice a1a asks.length a1c) (.slice o1a owed.length o1c));clear X5 O5 A5 W5;go_wp2
 revert HP HO HA HW
 generalize (World.setCell _ ⟨w.heap.size + 1, 4, none⟩ _) = W;intro HP HO HA HW;exact bodyPost_ret (v := laneV ⟨cl, nx, bids, asks, owed⟩ (.slice b1a bids.length b1c) (.slice a1a asks.length a1c) (.slice o1a owed.length o1c)) (by simp [results, Tryz.results48, go_sem, cell_at HP.out.1, laneV, laneA]) rfl ⟨_, _, _, rfl, HO.out, HA.out, HW.out, SP.out, HP.out.2⟩
set_option maxRecDepth 100000 in
set_option maxHeartbeats 4000000 in
theorem cloneA_is (v : Value) (l : List AmtV) (w : World) (h : Amts w v l) : Calls Tryz.prog 71 #[v] w fun e w' => ∃ a' c', e = .returned (.slice a' l.length c') ∧ w'.ownsRow w.heap.size 53 2 (.slice a' l.length c') l.length (celC amtE l) ∧ Below w.heap.size w w' := by
 obtain ⟨a, c, rfl⟩ := h.slice;have q22 : ∀ (w : World) (a : Option Addr) (n c n' c' : Nat), (binOp .eql 33 (.slice a n c) (.slice none n' c')).run Tryz.prog w = .ok (.bool a.isNone) w := fun w a n c n' c' => Lib.run_eql_slice_nil w _ _ a n c n' c' Tryz.underlying33
 cases a with
 | none =>
  have h0 : l.length = 0 := by
   obtain ⟨_, a', c', e', _, hr⟩ := h;simp only [Value.slice.injEq] at e'
   rcases Nat.eq_zero_or_pos l.length with h0 | h0
   ·exact h0
   ·obtain ⟨b, off, hb, _⟩ := hr h0;rw [← e'.1] at hb;cases hb
  have hl : l = [] := List.length_eq_zero_iff.1 h0;subst hl;simp only [List.length_nil];clear h h0
  go_enter Tryz.func71, Tryz.ntmps71
  go_wp2;go_ret
  exact ⟨_, _, rfl, own_nil _ _, Below.refl _ _⟩
 | some b =>
  obtain ⟨v', w', hrun, how, hgr⟩ := appL (enc := amtE) (t := 33) amtK amt1 Tryz.underlying33 infoAmt rfl (by omega) (by omega) (w.alloc (.cells #[] 53)) w.heap.size (.slice (some ⟨w.heap.size, 0, none⟩) 0 0) [] l b l.length c rfl (by simp) (World.ownsRow_made w #[] 0 (Nat.le_refl _) (Nat.zero_le _) (by simp)) (h.keep (below1 w _)) (by have := h.1; rw [List.length_nil]; omega)
  rw [List.nil_append] at how;obtain ⟨a5, c5, rfl⟩ := own_len how;have HRUN := hideIt hrun;have HR := hideIt (And.intro how (below_out (below1 w (.cells #[] 53)) (Out.ofGrown (F := fun k => w.heap.size ≤ k) hgr (fun k hk => by simp only [Value.ownBlock, Option.some.injEq] at hk; omega)) (fun _ h => h)))
  clear hrun how hgr h;generalize l.length = n at *;obtain ⟨bb, bo, bp⟩ := b
  go_enter Tryz.func71, Tryz.ntmps71
  go_wp2_with (at_builtin; refine Lib.wpList_append_run _ rfl _ _ _ _ rfl _ _ rfl rfl _ _ HRUN.out ?_)
  go_ret
  exact ⟨_, _, rfl, HR.out.1, HR.out.2⟩
set_option maxRecDepth 100000 in
set_option maxHeartbeats 4000000 in
theorem acct_is (fa : Option Addr) (fc : Nat) (fr : List AmtV) (cnt : Int) (w : World) (h : Amts w (.slice fa fr.length fc) fr) : Calls Tryz.prog 46 #[.agg #[.slice fa fr.length fc, .int .i64 cnt]] w fun e w' => ∃ a c, e = .returned (.agg #[.slice a fr.length c, .int .i64 cnt]) ∧ w'.ownsRow w.heap.size 53 2 (.slice a fr.length c) fr.length (celC amtE fr) ∧ Below w.heap.size w w' := by
 obtain ⟨t1, t2, t3⟩ := two_heap w (.cells #[.slice fa fr.length fc, .int .i64 cnt] 44) (.cells #[.slice none 0 0, .int .i64 0] 44);have T1 := hideIt t1;have T2 := hideIt t2;have HB := hideIt (below2 w (.cells #[.slice fa fr.length fc, .int .i64 cnt] 44) (.cells #[.slice none 0 0, .int .i64 0] 44));have HT := hideIt t3;have HC := hideIt (fun W (hW : Below w.heap.size w W) => cloneA_is (.slice fa fr.length fc) fr W (h.keep hW));clear t1 t2 t3 h
 go_enter Tryz.func46, Tryz.ntmps46
 go_upto_region 1 with fail
 generalize (w.alloc (.cells #[.slice fa fr.length fc, .int .i64 cnt] 44)).alloc (.cells #[.slice none 0 0, .int .i64 0] 44) = W0 at *;obtain ⟨⟨c0, c1⟩, cf, cz⟩ := at2 T1.out
 go_wp2_with fail
 refine (HC.out _ HB.out).mono ?_;rintro e w1 ⟨a, c, rfl, ho, hb⟩;dsimp only;have U1 : Hid ((w1.setCell ⟨w.heap.size, 0, none⟩ (.slice a fr.length c)).heap[w.heap.size]? = some (.cells #[.slice a fr.length c, .int .i64 cnt] 44 (0, 0))) := heap_set (blkK T1.out hb) 0 _;have U2 := hideIt (setOther (b := w.heap.size) (j := 0) (.slice a fr.length c) (blkK T2.out hb) (by omega));have O1 := hideIt (ownSet (b := w.heap.size) (j := 0) (.slice a fr.length c) ho (by have := HT.out; omega))
 have B1 : Hid (Below w.heap.size w (w1.setCell ⟨w.heap.size, 0, none⟩ (.slice a fr.length c))) := belowSet _ (below_via HB.out hb) (Nat.le_refl _);obtain ⟨⟨d0, d1⟩, df, dz⟩ := at2 (blkK T1.out hb);clear ho hb c0 c1 cf cz T1 T2 HB HC
 go_upto_region 2 with fail
 clear d0 d1 df dz;generalize w1.setCell ⟨w.heap.size, 0, none⟩ (.slice a fr.length c) = W1 at *;obtain ⟨⟨c0, c1⟩, cf, cz⟩ := at2 U1.out;obtain ⟨⟨d0, d1⟩, df, dz⟩ := at2 U2.out;go_wp2;obtain ⟨hzz, hoo⟩ := puts2 W1 (w.heap.size + 1) 44 (.slice a fr.length c) (.int .i64 cnt) U2.out;have ht := HT.out;exact bodyPost_ret (v := .agg #[.slice a fr.length c, .int .i64 cnt]) (by simp [results, Tryz.results46, go_sem, cell_at hzz]) rfl ⟨a, c, rfl, own_base (own_out O1.out hoo (fun k hk => by omega)) (by omega), below_out B1.out hoo (fun k hk => by omega)⟩
theorem Accs.two {w : World} {v : Value} {l : List AccX} (h : Accs w v l) : ∃ a c, v = .slice a l.length c ∧ l.length * 32 ≤ 140737488355328 ∧ ∀ i (h : i < l.length), ∃ b off, a = some ⟨b, off, none⟩ ∧ b < w.heap.size ∧ w.cell? ⟨b, off + i * 2, none⟩ = some (.slice (l[i]).fa (l[i]).v.l.length (l[i]).fc) ∧ w.cell? ⟨b, off + i * 2 + 1, none⟩ = some (.int .i64 (l[i]).v.ct) := by
 obtain ⟨h8, a, c, e, hc, hr⟩ := h.row;refine ⟨a, c, e, h8, fun i hi => ?_⟩;obtain ⟨b, off, ha, hb, hcell⟩ := hr (by omega);have g := celC_get accK l i hi
 exact ⟨b, off, ha, hb, (hcell (i * 2) (by omega)).trans (g 0 (by omega)), (hcell (i * 2 + 1) (by omega)).trans (g 1 (by omega))⟩
theorem Lns.five {w : World} {v : Value} {l : List LanX} (h : Lns w v l) : ∃ a c, v = .slice a l.length c ∧ l.length * 88 ≤ 140737488355328 ∧ ∀ i (h : i < l.length), ∃ b off, a = some ⟨b, off, none⟩ ∧ b < w.heap.size ∧ w.cell? ⟨b, off + i * 5, none⟩ = some (.bool (l[i]).v.call) ∧ w.cell? ⟨b, off + i * 5 + 1, none⟩ = some (.int .i64 (l[i]).v.next) ∧ w.cell? ⟨b, off + i * 5 + 2, none⟩ = some (.slice (l[i]).ba (l[i]).v.bids.length (l[i]).bc) ∧ w.cell? ⟨b, off + i * 5 + 3, none⟩ = some (.slice (l[i]).aa (l[i]).v.asks.length (l[i]).ac) ∧ w.cell? ⟨b, off + i * 5 + 4, none⟩ = some (.slice (l[i]).oa (l[i]).v.owed.length (l[i]).oc) := by
 obtain ⟨h8, a, c, e, hc, hr⟩ := h.row;refine ⟨a, c, e, h8, fun i hi => ?_⟩;obtain ⟨b, off, ha, hb, hcell⟩ := hr (by omega);have g := celC_get lanK l i hi
 exact ⟨b, off, ha, hb, (hcell (i * 5) (by omega)).trans (g 0 (by omega)), (hcell (i * 5 + 1) (by omega)).trans (g 1 (by omega)), (hcell (i * 5 + 2) (by omega)).trans (g 2 (by omega)), (hcell (i * 5 + 3) (by omega)).trans (g 3 (by omega)), (hcell (i * 5 + 4) (by omega)).trans (g 4 (by omega))⟩
def AccLBack (vs : List AccV) (w : World) (e : Ending) (w' : World) : Prop := ∃ a c ys, e = .returned (.slice a vs.length c) ∧ ys.map AccX.v = vs ∧ AccsOwn w.heap.size w' (.slice a vs.length c) ys ∧ Below w.heap.size w w'
set_option maxHeartbeats 8000000 in
set_option maxRecDepth 100000 in
theorem accts_is (v : Value) (l : List AccX) (w : World) (h : Accs w v l) : Calls Tryz.prog 45 #[v, .func (.func 46) #[] #[]] w (AccLBack (l.map AccX.v) w) := by
 have HA := hideIt (fun (t : Nat) (ht : t < l.length) W (hW : Below w.heap.size w W) => And.intro (acct_is (l[t]).fa (l[t]).fc (l[t]).v.l (l[t]).v.ct W ((h.at_ l[t] (List.getElem_mem ht)).keep hW)) (h.at_ l[t] (List.getElem_mem ht)).1);obtain ⟨a, c, rfl, h8, hr⟩ := h.two;have HH := hideIt hr;clear hr h
 go_enter Tryz.func45, Tryz.ntmps45
 go_wp2
 go_loopw [5, 10] (fun u x wr => ∃ t : Nat, x = .int .i64 t ∧ t ≤ l.length ∧ ∃ ys : List AccX, Hid (ys.map AccX.v = (l.take t).map AccX.v ∧ AccsOwn w.heap.size wr u ys ∧ Below w.heap.size w wr)) (fun _ x _ => l.length - (intOf x).toNat)
 case atStart => exact ⟨0, rfl, Nat.zero_le _, [], hideIt ⟨rfl, AccsOwn.nil _ _, Below.refl _ _⟩⟩
 case round =>
  obtain ⟨t, rfl, ht, ys, HR⟩ := hrel
  by_cases hlt : t < l.length
  ·have hltI : (t : Int) < (l.length : Int) := by omega
   have ht0 : (0 : Int) ≤ (t : Int) := by omega
   have hyl : ys.length = t := by
    have := congrArg List.length HR.out.1
    simp at this
    omega
   obtain ⟨b, off, rfl, hbl, q0, q1⟩ := HH.out t hlt;have hB := HR.out.2.2;have c0 := (hB.cell (p := ⟨b, off + t * 2, none⟩) hbl).trans q0;have c1 := (hB.cell (p := ⟨b, off + t * 2 + 1, none⟩) hbl).trans q1;have hblr : b < wr.heap.size := Nat.lt_of_lt_of_le hbl hB.size;have HT : Hid ((l.take (t + 1)).map AccX.v = (l.take t).map AccX.v ++ [l[t].v]) := by
    show _ = _
    rw [List.take_succ_eq_append_getElem hlt, List.map_append]
    rfl
   have HC := hideIt (HA.out t hlt);clear q0 q1 HH HA hB hbl;generalize l[t] = s at *;obtain ⟨⟨fr, cnt⟩, fa, fc⟩ := s;simp only at c0 c1 HC HT;have hb1 := below1 wr (.cells #[.slice fa fr.length fc, .int .i64 cnt] 44);have HB1 := hideIt (And.intro hb1 (below_via HR.out.2.2 hb1));clear hb1
   go_wp2_with fail
   refine (HC.out _ HB1.out.2).1.mono ?_;rintro e w1 ⟨a1, d1, rfl, ho, hb⟩;dsimp only;have hfl : fr.length * 16 ≤ 140737488355328 := (HC.out _ HB1.out.2).2;have hb2 := below_via HB1.out.2 hb;have k2 := below_via HB1.out.1 hb;have hs2 := hb2.size;have hb3 := below1 w1 (.cells #[.slice a1 fr.length d1, .int .i64 cnt] 44);have hw2 : w.heap.size ≤ (wr.alloc (.cells #[.slice fa fr.length fc, .int .i64 cnt] 44)).heap.size := HB1.out.2.size;have hO := (HR.out.2.1.keep k2).keep hb3;have hY := ((AccOwn.mk (c := ⟨⟨fr, cnt⟩, a1, d1⟩) ho hfl).base hw2).keep hb3;obtain ⟨v', w', hrun, how, hgr⟩ := app1 (enc := accE) (t := 27) accK acc1 Tryz.underlying27 infoAcc rfl (by omega) (w1.alloc (.cells #[.slice a1 fr.length d1, .int .i64 cnt] 44)) w.heap.size u5 ys ⟨⟨fr, cnt⟩, a1, d1⟩ w1.heap.size 1 (Nat.le_trans hs2 hb3.size) hO.row (heap_alloc_new w1 _) (by omega) (by unfold maxLen; omega)
   have hN := hO.app hY how hgr (by omega);have HN : Hid ((ys ++ [AccX.mk ⟨fr, cnt⟩ a1 d1]).map AccX.v = (l.take (t + 1)).map AccX.v ∧ AccsOwn w.heap.size w' v' (ys ++ [AccX.mk ⟨fr, cnt⟩ a1 d1]) ∧ Below w.heap.size w w') := ⟨by rw [List.map_append, HR.out.1, HT.out]; rfl, hN, grown_own hgr hO.row (Nat.le_refl _) (below_via hb2 hb3)⟩
   have HRUN := hideIt hrun;clear hrun how hgr hN hO hY hw2 hb3 k2 hs2 hb2 ho hb HC HB1 HT HR c0 c1 hfl;generalize fr.length = n1 at *
   go_wp2_with (at_builtin; refine Lib.wpList_append_run _ rfl _ _ _ _ rfl _ _ rfl rfl _ _ HRUN.out ?_)
   clear HRUN;go_wp2
   go_roundw
   case rel => exact ⟨t + 1, by go_num, by omega, _, HN⟩
   case measure => simp [intOf]; omega
  ·have hltI : ¬ (t : Int) < (l.length : Int) := by omega
   have hE : l.take t = l := List.take_of_length_le (by omega);have HG := hideIt HR.out;rw [hE] at HG;obtain ⟨va, vc, hv⟩ := own_len HG.out.2.1.row;have hyl : ys.length = (l.map AccX.v).length := by rw [← HG.out.1, List.length_map]
   clear HR HH hE HA;rw [hv] at HG ⊢;rw [hyl] at HG ⊢;clear hv hyl;go_wp2;go_ret
   exact ⟨va, vc, ys, by simp, HG.out.1, HG.out.2.1, HG.out.2.2⟩
def LanLBack (vs : List LaneV) (w : World) (e : Ending) (w' : World) : Prop := ∃ a c ys, e = .returned (.slice a vs.length c) ∧ ys.map LanX.v = vs ∧ LnsOwn w.heap.size w' (.slice a vs.length c) ys ∧ Below w.heap.size w w'
theorem fLaneX_is (call : Bool) (next : Int) (bids asks : List OrdV) (owed : List OweV) (ba : Option Addr) (bc : Nat) (aa : Option Addr) (ac : Nat) (oa : Option Addr) (oc : Nat) (w : World) (h : LanAt w ⟨⟨call, next, bids, asks, owed⟩, ba, bc, aa, ac, oa, oc⟩) : Calls Tryz.prog 48 #[.agg #[.bool call, .int .i64 next, .slice ba bids.length bc, .slice aa asks.length ac, .slice oa owed.length oc]] w fun e w' => ∃ a2 d2 a3 d3 a4 d4, e = .returned (.agg #[.bool call, .int .i64 next, .slice a2 bids.length d2, .slice a3 asks.length d3, .slice a4 owed.length d4]) ∧ Hid (LanOwn w.heap.size w' ⟨⟨call, next, bids, asks, owed⟩, a2, d2, a3, d3, a4, d4⟩ ∧ Below w.heap.size w w') := by
 refine (fLane_is ⟨call, next, bids, asks, owed⟩ _ _ _ w h).mono ?_;intro e w' hx;obtain ⟨b, a, o, he, ob, oa, oo, _, hb⟩ := hx;obtain ⟨b1, b2, rfl⟩ := own_len ob;obtain ⟨a1, a2, rfl⟩ := own_len oa;obtain ⟨o1, o2, rfl⟩ := own_len oo
 exact ⟨b1, b2, a1, a2, o1, o2, he, hideIt ⟨⟨ob, oa, oo, h.bids.1, h.asks.1, h.owed.1⟩, hb⟩⟩
set_option maxHeartbeats 8000000 in
set_option maxRecDepth 100000 in
theorem lanes_is (v : Value) (l : List LanX) (w : World) (h : Lns w v l) : Calls Tryz.prog 47 #[v, .func (.func 48) #[] #[]] w (LanLBack (l.map LanX.v) w) := by
 have HA := hideIt (fun (t : Nat) (ht : t < l.length) W (hW : Below w.heap.size w W) => fLaneX_is (l[t]).v.call (l[t]).v.next (l[t]).v.bids (l[t]).v.asks (l[t]).v.owed (l[t]).ba (l[t]).bc (l[t]).aa (l[t]).ac (l[t]).oa (l[t]).oc W (LanAt.keep (h.at_ l[t] (List.getElem_mem ht)) hW));obtain ⟨a, c, rfl, h8, hr⟩ := h.five;have HH := hideIt hr;clear hr h
 go_enter Tryz.func47, Tryz.ntmps47
 go_wp2
 go_loopw [5, 10] (fun u x wr => ∃ t : Nat, x = .int .i64 t ∧ t ≤ l.length ∧ ∃ ys : List LanX, Hid (ys.map LanX.v = (l.take t).map LanX.v ∧ LnsOwn w.heap.size wr u ys ∧ Below w.heap.size w wr)) (fun _ x _ => l.length - (intOf x).toNat)
 case atStart => exact ⟨0, rfl, Nat.zero_le _, [], hideIt ⟨rfl, LnsOwn.nil _ _, Below.refl _ _⟩⟩
 case round =>
  obtain ⟨t, rfl, ht, ys, HR⟩ := hrel
  by_cases hlt : t < l.length
  ·have hltI : (t : Int) < (l.length : Int) := by omega
   have ht0 : (0 : Int) ≤ (t : Int) := by omega
   have hyl : ys.length = t := by
    have := congrArg List.length HR.out.1
    simp at this
    omega
   obtain ⟨b, off, rfl, hbl, q0, q1, q2, q3, q4⟩ := HH.out t hlt;have hB := HR.out.2.2;have c0 := (hB.cell (p := ⟨b, off + t * 5, none⟩) hbl).trans q0;have c1 := (hB.cell (p := ⟨b, off + t * 5 + 1, none⟩) hbl).trans q1;have c2 := (hB.cell (p := ⟨b, off + t * 5 + 2, none⟩) hbl).trans q2;have c3 := (hB.cell (p := ⟨b, off + t * 5 + 3, none⟩) hbl).trans q3;have c4 := (hB.cell (p := ⟨b, off + t * 5 + 4, none⟩) hbl).trans q4;have hblr : b < wr.heap.size := Nat.lt_of_lt_of_le hbl hB.size;have HT : Hid ((l.take (t + 1)).map LanX.v = (l.take t).map LanX.v ++ [l[t].v]) := by
    show _ = _
    rw [List.take_succ_eq_append_getElem hlt, List.map_append]
    rfl
   have HC := hideIt (HA.out t hlt);clear q0 q1 q2 q3 q4 HH HA hB hbl;generalize l[t] = s at *;obtain ⟨⟨call, next, bids, asks, owed⟩, ba, bc, aa, ac, oa, oc⟩ := s;simp only at c0 c1 c2 c3 c4 HC HT;have hb1 := below1 wr (.cells #[.bool call, .int .i64 next, .slice ba bids.length bc, .slice aa asks.length ac, .slice oa owed.length oc] 59);have HB1 := hideIt (And.intro hb1 (below_via HR.out.2.2 hb1));clear hb1
   go_wp2_with fail
   refine (HC.out _ HB1.out.2).mono ?_;rintro e w1 ⟨a2, d2, a3, d3, a4, d4, rfl, ho⟩;dsimp only;have hb2 := below_via HB1.out.2 ho.out.2;have k2 := below_via HB1.out.1 ho.out.2;have hs2 := hb2.size;have hb3 := below1 w1 (.cells #[.bool call, .int .i64 next, .slice a2 bids.length d2, .slice a3 asks.length d3, .slice a4 owed.length d4] 59);have hw2 : w.heap.size ≤ (wr.alloc (.cells #[.bool call, .int .i64 next, .slice ba bids.length bc, .slice aa asks.length ac, .slice oa owed.length oc] 59)).heap.size := HB1.out.2.size;have hO := (HR.out.2.1.keep k2).keep hb3;have hY := (ho.out.1.base hw2).keep hb3;obtain ⟨v', w', hrun, how, hgr⟩ := app1 (enc := lanE) (t := 28) lanK lan1 Tryz.underlying28 infoLan rfl (by omega) (w1.alloc (.cells #[.bool call, .int .i64 next, .slice a2 bids.length d2, .slice a3 asks.length d3, .slice a4 owed.length d4] 59)) w.heap.size u5 ys ⟨⟨call, next, bids, asks, owed⟩, a2, d2, a3, d3, a4, d4⟩ w1.heap.size 1 (Nat.le_trans hs2 hb3.size) hO.row (heap_alloc_new w1 _) (by omega) (by unfold maxLen; omega)
   have hN := hO.app hY how hgr (by omega);have HN : Hid ((ys ++ [LanX.mk ⟨call, next, bids, asks, owed⟩ a2 d2 a3 d3 a4 d4]).map LanX.v = (l.take (t + 1)).map LanX.v ∧ LnsOwn w.heap.size w' v' (ys ++ [LanX.mk ⟨call, next, bids, asks, owed⟩ a2 d2 a3 d3 a4 d4]) ∧ Below w.heap.size w w') := ⟨by rw [List.map_append, HR.out.1, HT.out]; rfl, hN, grown_own hgr hO.row (Nat.le_refl _) (below_via hb2 hb3)⟩
   have HRUN := hideIt hrun;clear hrun how hgr hN hO hY hw2 hb3 k2 hs2 hb2 ho HC HB1 HT HR c0 c1 c2 c3 c4;generalize bids.length = n2 at *;generalize asks.length = n3 at *;generalize owed.length = n4 at *
   go_wp2_with (at_builtin; refine Lib.wpList_append_run _ rfl _ _ _ _ rfl _ _ rfl rfl _ _ HRUN.out ?_)
   clear HRUN;go_wp2
   go_roundw
   case rel => exact ⟨t + 1, by go_num, by omega, _, HN⟩
   case measure => simp [intOf]; omega
  ·have hltI : ¬ (t : Int) < (l.length : Int) := by omega
   have hE : l.take t = l := List.take_of_length_le (by omega);have HG := hideIt HR.out;rw [hE] at HG;obtain ⟨va, vc, hv⟩ := own_len HG.out.2.1.row;have hyl : ys.length = (l.map LanX.v).length := by rw [← HG.out.1, List.length_map]
   clear HR HH hE HA;rw [hv] at HG ⊢;rw [hyl] at HG ⊢;clear hv hyl;go_wp2;go_ret
   exact ⟨va, vc, ys, by simp, HG.out.1, HG.out.2.1, HG.out.2.2⟩
def MdlBack (M : MdlV) (w : World) (e : Ending) (w' : World) : Prop := ∃ a c b d, e = .returned (.agg #[.slice a M.a.length c, .slice b M.l.length d]) ∧ MdlOwn w.heap.size w' (.slice a M.a.length c) (.slice b M.l.length d) M ∧ Below w.heap.size w w'
theorem MdlOwn.set {B D j : Nat} {w : World} {va vl : Value} {M : MdlV} {cs : Array Value} {t : TypeId} {u : Value} (h : MdlOwn B w va vl M) (hd : w.heap[D]? = some (.cells cs t (0, 0))) (h1 : (53 : TypeId) ≠ t) (h2 : (44 : TypeId) ≠ t) (h3 : (115 : TypeId) ≠ t) (h4 : (61 : TypeId) ≠ t) (h5 : (59 : TypeId) ≠ t) : MdlOwn B (w.setCell ⟨D, j, none⟩ u) va vl M := by
 obtain ⟨⟨xs, k1, k2⟩, ys, k3, k4⟩ := h
 exact ⟨⟨xs, k1, k2.set hd h1 h2⟩, ys, k3, k4.set hd h3 h4 h5⟩
set_option maxRecDepth 100000 in
set_option maxHeartbeats 4000000 in
theorem model_is (va vl : Value) (M : MdlV) (w : World) (h : Mdl w va vl M) : Calls Tryz.prog 22 #[.agg #[va, vl]] w (MdlBack M w) := by
 obtain ⟨⟨xs, hx, h1⟩, ys, hy, h2⟩ := h;obtain ⟨aa, ac, rfl⟩ := h1.row.slice;obtain ⟨la, lc, rfl⟩ := h2.row.slice;obtain ⟨ma, ml⟩ := M;simp only at hx hy;have hxl : xs.length = ma.length := by rw [← hx, List.length_map]
 have hyl : ys.length = ml.length := by rw [← hy, List.length_map]
 obtain ⟨t1, t2, t3⟩ := two_heap w (.cells #[.slice aa xs.length ac, .slice la ys.length lc] 30) (.cells #[.slice none 0 0, .slice none 0 0] 30);have T1 := hideIt t1;have T2 := hideIt t2;have HT := hideIt t3;have HB := hideIt (below2 w (.cells #[.slice aa xs.length ac, .slice la ys.length lc] 30) (.cells #[.slice none 0 0, .slice none 0 0] 30));have HA := hideIt (fun W (hW : Below w.heap.size w W) => accts_is _ xs W (h1.keep hW));have HL := hideIt (fun W (hW : Below w.heap.size w W) => lanes_is _ ys W (h2.keep hW));rw [hx] at HA;rw [hy] at HL;rw [hxl] at T1 HB HA HT T2;rw [hyl] at T1 HB HL HT T2;clear t1 t2 t3 h1 h2;rw [hxl, hyl];clear hx hy hxl hyl;unfold MdlBack
 simp only
 go_enter Tryz.func22, Tryz.ntmps22
 go_upto_region 1 with fail
 generalize (w.alloc (.cells #[.slice aa ma.length ac, .slice la ml.length lc] 30)).alloc (.cells #[.slice none 0 0, .slice none 0 0] 30) = W0 at *;obtain ⟨⟨c0, c1⟩, cf, cz⟩ := at2 T1.out
 go_wp2_with fail
 refine (HA.out _ HB.out).mono ?_;rintro e w1 ⟨a, c, zs, rfl, hz, ho, hb⟩;dsimp only;have hM0 : w.heap.size + 2 ≤ W0.heap.size := by have := HT.out; omega
 have U1 : Hid ((w1.setCell ⟨w.heap.size, 0, none⟩ (.slice a ma.length c)).heap[w.heap.size]? = some (.cells #[.slice a ma.length c, .slice la ml.length lc] 30 (0, 0))) := heap_set (blkK T1.out hb) 0 _;have U2 := hideIt (setOther (b := w.heap.size) (j := 0) (.slice a ma.length c) (blkK T2.out hb) (by omega));have O1 := hideIt ((ho.base (B' := w.heap.size) (by omega)).set (D := w.heap.size) (j := 0) (u := .slice a ma.length c) (blkK T1.out hb) (by decide) (by decide));have B1 : Hid (Below w.heap.size w (w1.setCell ⟨w.heap.size, 0, none⟩ (.slice a ma.length c))) := belowSet _ (below_via HB.out hb) (Nat.le_refl _);have HZ := hideIt hz;have hs1 : w.heap.size ≤ (w1.setCell ⟨w.heap.size, 0, none⟩ (.slice a ma.length c)).heap.size := B1.out.size;obtain ⟨⟨d0, d1⟩, df, dz⟩ := at2 (blkK T1.out hb);clear ho hb hz c0 c1 cf cz T1 T2 HB HA
 go_upto_region 2 with fail
 clear d0 d1 df dz;generalize w1.setCell ⟨w.heap.size, 0, none⟩ (.slice a ma.length c) = W1 at *;obtain ⟨⟨c0, c1⟩, cf, cz⟩ := at2 U1.out
 go_wp2_with fail
 refine (HL.out _ B1.out).mono ?_;rintro e w2 ⟨b, d, us, rfl, hu, ho, hb⟩;dsimp only;have V1 : Hid ((w2.setCell ⟨w.heap.size, 1, none⟩ (.slice b ml.length d)).heap[w.heap.size]? = some (.cells #[.slice a ma.length c, .slice b ml.length d] 30 (0, 0))) := heap_set (blkK U1.out hb) 1 _;have V2 := hideIt (setOther (b := w.heap.size) (j := 1) (.slice b ml.length d) (blkK U2.out hb) (by omega));have P1 := hideIt ((ho.base hs1).set (D := w.heap.size) (j := 1) (u := .slice b ml.length d) (blkK U1.out hb) (by decide) (by decide) (by decide));have Q1 := hideIt ((O1.out.keep hb).set (D := w.heap.size) (j := 1) (u := .slice b ml.length d) (blkK U1.out hb) (by decide) (by decide));have B2 : Hid (Below w.heap.size w (w2.setCell ⟨w.heap.size, 1, none⟩ (.slice b ml.length d))) := belowSet _ (below_via B1.out hb) (Nat.le_refl _);have HM : Hid (MdlOwn w.heap.size (w2.setCell ⟨w.heap.size, 1, none⟩ (.slice b ml.length d)) (.slice a ma.length c) (.slice b ml.length d) ⟨ma, ml⟩) := ⟨⟨zs, HZ.out, Q1.out⟩, us, hu, P1.out⟩;obtain ⟨⟨d0, d1⟩, df, dz⟩ := at2 (blkK U1.out hb);clear ho hb hu c0 c1 cf cz U1 U2 B1 HL O1 Q1 P1 HZ
 go_upto_region 3 with fail
 clear d0 d1 df dz;generalize w2.setCell ⟨w.heap.size, 1, none⟩ (.slice b ml.length d) = W2 at *;obtain ⟨⟨c0, c1⟩, cf, cz⟩ := at2 V1.out;obtain ⟨⟨d0, d1⟩, df, dz⟩ := at2 V2.out;go_wp2;obtain ⟨hzz, hoo⟩ := puts2 W2 (w.heap.size + 1) 30 (.slice a ma.length c) (.slice b ml.length d) V2.out;refine bodyPost_ret (v := .agg #[.slice a ma.length c, .slice b ml.length d]) (by simp [results, Tryz.results22, go_sem, cell_at hzz]) rfl ⟨a, c, b, d, rfl, ?_, below_out B2.out hoo (fun k hk => by omega)⟩;have g1 := heap_set V2.out 0 (.slice a ma.length c);exact (HM.out.set (D := w.heap.size + 1) (j := 0) (u := .slice a ma.length c) V2.out (by decide) (by decide) (by decide) (by decide) (by decide)).set g1 (by decide) (by decide) (by decide) (by decide) (by decide)
end Go.Proofs.YtiinigifjdpicaaGreatDoor
namespace Go.Proofs.YtiinigifjdpicaaGreatDoor.Lg
open Go.RowKit
set_option linter.all false
set_option maxHeartbeats 4000000 in
set_option maxRecDepth 100000 in
theorem amountsM_is (p o : Nat) (s : Nat → Int) (w : World) (hp : ∀ t, t < 4 → w.cell? ⟨p, o + t, none⟩ = some (.int .i64 (s t))) (hpl : p < w.heap.size) : Calls Tryz.prog 35 #[.pointer (some ⟨p, o, none⟩)] w fun e w' => ∃ g, e = .returned g ∧ Mine w g (pre s 4) w' := by
 have HP := hideIt hp;clear hp
 go_enter Tryz.func35, Tryz.ntmps35
 go_wp2
 go_loopw [3, 7] (fun u v wr => ∃ (t : Nat), v = .int .i64 t ∧ t ≤ 4 ∧ Hid (Mine w u (pre s t) wr)) (fun _ v _ => 4 - (intOf v).toNat)
 case atStart => exact ⟨0, rfl, Nat.zero_le _, hideIt ⟨own_nil _ _, Below.refl _ _⟩⟩
 case round =>
  obtain ⟨t, rfl, ht, HR⟩ := hrel
  by_cases hlt : t < 4
  ·have hltI : (t : Int) < 4 := by omega
   have ht0 : (0 : Int) ≤ (t : Int) := by omega
   have c0 := (HR.out.bel.cell (p := ⟨p, o + t, none⟩) hpl).trans (HP.out t hlt);have HE : Hid (pre s (t + 1) = pre s t ++ one s t) := rfl
   by_cases h0 : 0 < s t
   ·have HO : Hid (one s t = [⟨t, s t⟩]) := if_pos h0;have hpl4 := pre_len s t
    go_upto_region 4 with fail
    go_quiet (fail)
    have HM : Mine w u3 (pre s t) (wr.drewN nq) := ⟨HR.out.own, bN HR.out.bel _⟩;generalize wr.drewN nq = wq at *;obtain ⟨v', w', hrun, hm⟩ := HM.grow t (s t) (by omega);have HRUN := hideIt hrun;have HM2 := hideIt hm;clear hrun hm HM HR
    go_wp2_with (at_builtin; refine wpList_append_run _ rfl _ _ rfl rfl rfl rfl HRUN.out ?_)
    clear HRUN;go_wp2
    go_roundw
    case rel => exact ⟨t + 1, by go_num, by omega, hideIt (by rw [HE.out, HO.out]; exact HM2.out)⟩
    case measure => simp [intOf]; omega
   ·have HO : Hid (one s t = []) := if_neg h0;have h0I : s t ≤ 0 := by omega
    clear h0
    go_upto_region 4 with fail
    go_quiet (fail)
    go_wp2
    go_roundw
    case rel => exact ⟨t + 1, by go_num, by omega, hideIt (by rw [HE.out, HO.out, List.append_nil]; exact ⟨HR.out.own, bN HR.out.bel _⟩)⟩
    case measure => simp [intOf]; omega
  ·have hltI : ¬ (t : Int) < 4 := by omega
   obtain rfl : t = 4 := by omega
   go_wp2;go_ret
   exact ⟨_, rfl, HR.out⟩
end Go.Proofs.YtiinigifjdpicaaGreatDoor.Lg
namespace Go.Proofs.YtiinigifjdpicaaGreatDoor.Lg
open Go.RowKit
theorem accB_mk {A : AccV} (h : amtsB A.l (-1) = true) (hc : 0 ≤ A.ct ∧ A.ct ≤ 1000000000) : accB A = true := by
 unfold accB wiB;rw [h, decide_eq_true hc]
 rfl
theorem refI_mk {A : AccV} {a n : Int} (h : accB A = true) (ha : 0 ≤ a ∧ a ≤ 3) (hn : 1 ≤ n ∧ n ≤ 9007199254740992) : refI A a n = 0 := by
 unfold refI;rw [if_pos h, if_pos (by unfold wiB; rw [decide_eq_true ha, decide_eq_true hn]; rfl)]
theorem cred_zero {A : AccV} {a n : Int} (h : (credL A a n).2 ≠ 0) : (credL A a n).1 = zA := by
 unfold credL at h ⊢
 split at h
 ·split at h
  ·rw [if_pos (by assumption), if_pos (by assumption)]
  ·exact absurd rfl h
 ·rw [if_neg (by assumption)]
theorem cred_ok {A : AccV} {a n : Int} (h : (credL A a n).2 = 0) : refI A a n = 0 ∧ balL A.l a + n ≤ 9007199254740992 ∧ A.ct ≠ 1000000000 ∧ credL A a n = (⟨pre (moreS A.l a n) 4, A.ct + 1⟩, 0) := by
 unfold credL at h ⊢
 split at h
 ·rename_i hr
  split at h
  ·cases h
  ·rename_i hn
   rw [if_pos hr, if_neg hn]
   exact ⟨hr, by omega, by omega, rfl⟩
 ·rename_i hr
  exact absurd h hr
theorem deb_ok {A : AccV} {a n : Int} (h : (debL A a n).2 = 0) : refI A a n = 0 ∧ n ≤ balL A.l a ∧ A.ct ≠ 1000000000 ∧ debL A a n = (⟨pre (moreS A.l a (-n)) 4, A.ct + 1⟩, 0) := by
 unfold debL at h ⊢
 split at h
 ·rename_i hr
  split at h
  ·cases h
  ·rename_i hn
   split at h
   ·cases h
   ·rename_i hc
    rw [if_pos hr, if_neg hn, if_neg hc]
    exact ⟨hr, by omega, hc, rfl⟩
 ·rename_i hr
  exact absurd h hr
theorem more_in {l : List AmtV} {a n : Int} (h : amtsB l (-1) = true) (hn : 0 ≤ balL l a + n ∧ balL l a + n ≤ 9007199254740992) : ∀ k, k < 4 → 0 ≤ moreS l a n k ∧ moreS l a n k ≤ 9007199254740992 := by
 intro k _;have hb := bal_in l _ (k : Int) h;unfold moreS
 by_cases c : (k : Int) = a
 ·rw [if_pos c, c];exact hn
 ·rw [if_neg c];omega
theorem more_bal {l : List AmtV} {a n : Int} (h : amtsB l (-1) = true) (hn : 0 ≤ balL l a + n ∧ balL l a + n ≤ 9007199254740992) (k : Nat) (hk : k < 4) : balL (pre (moreS l a n) 4) k = moreS l a n k := pre_bal (more_in h hn) k hk
theorem more_ok {l : List AmtV} {a n : Int} (h : amtsB l (-1) = true) (hn : 0 ≤ balL l a + n ∧ balL l a + n ≤ 9007199254740992) : amtsB (pre (moreS l a n) 4) (-1) = true := pre_ok (more_in h hn)
theorem more_at {l : List AmtV} {a n : Int} (h : amtsB l (-1) = true) (hn : 0 ≤ balL l a + n ∧ balL l a + n ≤ 9007199254740992) (b : Int) (hb : 0 ≤ b ∧ b ≤ 3) : balL (pre (moreS l a n) 4) b = balL l b + if b = a then n else 0 := by
 obtain ⟨k, rfl⟩ : ∃ k : Nat, b = k := Int.eq_ofNat_of_zero_le hb.1;rw [more_bal h hn k (by omega)]
 rfl
theorem cred_len (A : AccV) (a n : Int) : (credL A a n).1.l.length * 16 ≤ 140737488355328 := by
 by_cases h : (credL A a n).2 = 0
 ·rw [(cred_ok h).2.2.2];have := pre_len (moreS A.l a n) 4
  simp only
  omega
 ·rw [cred_zero h]
  simp [zA]
theorem deb_zero {A : AccV} {a n : Int} (h : (debL A a n).2 ≠ 0) : (debL A a n).1 = zA := by
 unfold debL at h ⊢
 split at h
 ·rename_i hr
  rw [if_pos hr]
  split at h
  ·rename_i hb
   rw [if_pos hb]
  ·rename_i hb
   rw [if_neg hb]
   split at h
   ·rename_i hc
    rw [if_pos hc]
   ·exact absurd rfl h
 ·rename_i hr
  rw [if_neg hr]
theorem deb_len (A : AccV) (a n : Int) : (debL A a n).1.l.length * 16 ≤ 140737488355328 := by
 by_cases h : (debL A a n).2 = 0
 ·rw [(deb_ok h).2.2.2];have := pre_len (moreS A.l a (-n)) 4
  simp only
  omega
 ·rw [deb_zero h]
  simp [zA]
end Go.Proofs.YtiinigifjdpicaaGreatDoor.Lg
namespace Go.Proofs.YtiinigifjdpicaaGreatDoor
open Go.RowKit
set_option linter.all false
def prL (l : List OrdV) : List Int := l.map OrdV.price
theorem prL_take (l : List OrdV) (t : Nat) (h : t < l.length) : prL (l.take (t + 1)) = prL (l.take t) ++ [l[t].price] := by
 unfold prL;rw [List.take_succ_eq_append_getElem h, List.map_append]
 rfl
theorem prL_len (l : List OrdV) : (prL l).length = l.length := List.length_map ..
theorem sortI_is (v : Value) (m : List Int) (B : Nat) (W : World) (ho : W.ownsRow B 3 1 v m.length (m.map (Value.int .i64))) (hm : m.length ≤ 1000) : Calls Tryz.prog 93 #[v] W fun e w' => e = .returned (.tuple #[]) ∧ w'.ownsRow B 3 1 v m.length ((sortL m).map (Value.int .i64)) ∧ W.grownBy w' v.ownBlock := by
 have hsl := sortL_len m;obtain ⟨h1, ⟨hv, hm0⟩ | ⟨q, cap, cur, rfl, hB, hg, hnc, hcm, hs, ht⟩⟩ := ho
 ·subst hv;have hmn : m = [] := List.length_eq_zero_iff.1 hm0;subst hmn;refine (slices_Sort_int_none _ _ _).mono ?_;rintro e w2 ⟨rfl, rfl⟩;refine ⟨rfl, ?_, grown_refl _ _⟩;rw [show sortL ([] : List Int) = [] by simp [sortL]]
  exact ⟨h1, .inl ⟨rfl, hm0⟩⟩
 ·have hql := (Array.getElem?_eq_some_iff.1 hg).1;rw [Nat.mul_one] at ht;refine (slices_Sort_int q 0 cap m W (holds_of_blockI hg ht) hql (by omega)).mono ?_;rintro e w2 ⟨rfl, N, os, rfl⟩;have ow := ownsRow_sortedI (base := B) (n := N) (os := os) (ss := m) (ts := m.mergeSort fun x y => decide (x ≤ y)) hsl hB hg hnc hcm hs
  exact ⟨rfl, ow, grownBy_sortedI _⟩
structure PX (w : World) (L : LaneV) (b a o : Value) (wx : World) : Prop where
 box : BoxL w L b a o wx
 two : wx.heap[w.heap.size + 1]? = some (.cells #[b, a] 56 (0, 0))
 size : w.heap.size + 2 ≤ wx.heap.size
theorem PX.first (w : World) (L : LaneV) (b a o : Value) : PX w L b a o ((w.alloc (.cells (laneA L b a o) 59)).alloc (.cells #[b, a] 56)) := by
 obtain ⟨k1, k2, k3⟩ := two_heap w (.cells (laneA L b a o) 59) (.cells #[b, a] 56)
 exact ⟨⟨k1, below2 w _ _, by omega⟩, k2, by omega⟩
theorem PX.keep {w wx wy : World} {L : LaneV} {b a o : Value} (h : PX w L b a o wx) (hb : Below wx.heap.size wx wy) : PX w L b a o wy :=
 ⟨h.box.keep hb, (hb.block _ (by have := h.size; omega)).trans h.two, Nat.le_trans h.size hb.size⟩
theorem PX.grow {w wx wy : World} {F : Nat → Prop} {L : LaneV} {b a o : Value} (h : PX w L b a o wx) (ho : Out F wx wy) (hF : ∀ k, F k → w.heap.size + 2 ≤ k) : PX w L b a o wy :=
 ⟨h.box.out ho (fun k e => by have := hF k e; omega), (ho.block _ (by have := h.size; omega) (fun e => by have := hF _ e; omega)).trans h.two, Nat.le_trans h.size ho.size⟩
def prK (b a : List OrdV) : Nat → List Int
 | 0 => []
 | 1 => [] ++ prL b
 | _ => prL b ++ prL a
theorem two_at2 {w : World} {p : Nat} {t : TypeId} {a b : Value} (h : w.heap[p]? = some (.cells #[a, b] t (0, 0))) : (w.cell? ⟨p, 0, none⟩ = some a ∧ w.cell? ⟨p, 1, none⟩ = some b) ∧ (∀ j, w.frozen? ⟨p, j, none⟩ = false) ∧ p < w.heap.size :=
 ⟨⟨by rw [cell_at h]; rfl, by rw [cell_at h]; rfl⟩, fun j => free_at h j, (Array.getElem?_eq_some_iff.1 h).1⟩
set_option maxHeartbeats 8000000 in
set_option maxRecDepth 100000 in
theorem prices_is (L : LaneV) (b a o : Value) (w : World) (h : Lan w L b a o) (hb4 : L.bids.length ≤ 40) (ha4 : L.asks.length ≤ 40) : Calls Tryz.prog 149 #[laneV L b a o] w fun e w' => ∃ v, e = .returned v ∧ w'.ownsRow w.heap.size 3 1 v (prL L.bids ++ prL L.asks).length ((sortL (prL L.bids ++ prL L.asks)).map (Value.int .i64)) ∧ Below w.heap.size w w' := by
 have X0 := hideIt (PX.first w L b a o);obtain ⟨ba, bc, rfl, b8, hb⟩ := h.bids.ords;obtain ⟨aa, ac, rfl, a8, ha⟩ := h.asks.ords;obtain ⟨oa, oc, rfl⟩ := h.owed.slice;have HB := hideIt hb;have HA := hideIt ha;unfold laneV laneA at *;obtain ⟨cl, nx, bids, asks, owed⟩ := L;simp only at *;clear h hb ha
 go_enter Tryz.func149, Tryz.ntmps149
 go_upto_region 3 with fail
 generalize (w.alloc (.cells #[.bool cl, .int .i64 nx, .slice ba bids.length bc, .slice aa asks.length ac, .slice oa owed.length oc] 59)).alloc (.cells #[.slice ba bids.length bc, .slice aa asks.length ac] 56) = W0 at *
 go_loopw [3, 14] (fun v3 v14 wr => ∃ k : Int, v14 = .int .i64 k ∧ (k = 0 ∨ k = 1 ∨ k = 2) ∧ Hid (wr.ownsRow (w.heap.size + 2) 3 1 v3 (prK bids asks k.toNat).length ((prK bids asks k.toNat).map (Value.int .i64)) ∧ PX w ⟨cl, nx, bids, asks, owed⟩ (.slice ba bids.length bc) (.slice aa asks.length ac) (.slice oa owed.length oc) wr)) (fun _ v _ => 2 - (intOf v).toNat)
 case atStart => exact ⟨0, rfl, .inl rfl, hideIt ⟨own_nil _ _, X0.out⟩⟩
 case round =>
  clear X0;obtain ⟨k, rfl, hk2, HR⟩ := hrel
  rcases hk2 with rfl | rfl | rfl
  ·obtain ⟨c0, -, cz⟩ := two_at2 HR.out.2.two
   go_upto_region 6 with fail
   go_loopw [3, 20] (fun v3 v20 wx => ∃ t : Nat, v20 = .int .i64 t ∧ t ≤ bids.length ∧ Hid (wx.ownsRow (w.heap.size + 2) 3 1 v3 (([] : List Int) ++ prL (bids.take t)).length (celC intE (([] : List Int) ++ prL (bids.take t))) ∧ PX w ⟨cl, nx, bids, asks, owed⟩ (.slice ba bids.length bc) (.slice aa asks.length ac) (.slice oa owed.length oc) wx)) (fun _ v _ => bids.length - (intOf v).toNat)
   case atStart => exact ⟨0, rfl, Nat.zero_le _, hideIt ⟨by rw [intC]; simpa [prL, prK] using HR.out.1, HR.out.2⟩⟩
   case round =>
    clear HR c0 cz;obtain ⟨t, rfl, ht, HR⟩ := hrel
    by_cases hlt : t < bids.length
    ·have hltI : (t : Int) < (bids.length : Int) := by omega
     have ht0 : (0 : Int) ≤ (t : Int) := by omega
     have hw2 : IntKind.i64.wrap ((t : Int) + 1) = ((t + 1 : Nat) : Int) := by rw [IntKind.wrap_i64]; omega
     obtain ⟨b, off, rfl, hbl, q0, q1, q2, q3⟩ := HB.out t hlt;have hBw := HR.out.2.box.bel;have hblr : b < wr.heap.size := Nat.lt_of_lt_of_le hbl hBw.size;have d0 := (hBw.cell (p := ⟨b, off + t * 4, none⟩) hbl).trans q0;have d1 := (hBw.cell (p := ⟨b, off + t * 4 + 1, none⟩) hbl).trans q1;have d2 := (hBw.cell (p := ⟨b, off + t * 4 + 2, none⟩) hbl).trans q2;have d3 := (hBw.cell (p := ⟨b, off + t * 4 + 3, none⟩) hbl).trans q3;have HI := hideIt (prL_take bids t hlt);have hL : (prL (bids.take t)).length ≤ 40 := by simp [prL]; omega
     have hL2 : ([] : List Int).length ≤ 40 := by simp [prL]; try omega
     clear q0 q1 q2 q3 hBw;generalize bids[t] = en at *;obtain ⟨ei, ea, ep, el⟩ := en;simp only at d0 d1 d2 d3 HI;have hT := two_heap wr (.cells #[.int .i64 ei, .int .i64 ea, .int .i64 ep, .int .i64 el] 115) (.cells #[.int .i64 ep] 3);have hB2 := below2 wr (.cells #[.int .i64 ei, .int .i64 ea, .int .i64 ep, .int .i64 el] 115) (.cells #[.int .i64 ep] 3);obtain ⟨v', w', hrun, how, hgr⟩ := app1 (enc := intE) (k := 1) (bytes := 8) (t := 153) (e := 3) (fun _ => rfl) (fun x u hu => by simp only [intE, List.mem_cons, List.not_mem_nil, or_false] at hu; rw [hu]; rfl) Tryz.underlying153 info3 rfl (by omega) _ (w.heap.size + 2) _ (([] : List Int) ++ prL (bids.take t)) ep (wr.heap.size + 1) 1 (Nat.le_trans HR.out.2.size hB2.size) (own_keep HR.out.1 hB2) hT.2.1 (by rw [List.length_append]; omega) (by rw [List.length_append]; unfold maxLen; omega)
     have HN : Hid (w'.ownsRow (w.heap.size + 2) 3 1 v' (([] : List Int) ++ prL (bids.take (t + 1))).length (celC intE (([] : List Int) ++ prL (bids.take (t + 1))))) := by
      show World.ownsRow _ _ _ _ _ _ _
      rw [HI.out, ← List.append_assoc];exact how
     have HX := hideIt ((HR.out.2.keep hB2).grow (Out.ofGrown (F := fun k => w.heap.size + 2 ≤ k) hgr (fun k hk => ((own_keep HR.out.1 hB2).lt k hk).1)) (fun _ h => h));have HRUN := hideIt hrun;clear hrun how hgr hT hB2 HR HI hL hL2
     go_wp2_with (at_builtin; refine Lib.wpList_append_run _ rfl _ _ _ _ rfl _ _ rfl rfl _ _ HRUN.out ?_)
     clear HRUN d0 d1 d2 d3;go_wp2
     go_roundw
     case rel => exact ⟨t + 1, by go_num, by omega, hideIt ⟨HN.out, HX.out⟩⟩
     case measure => simp [intOf]; omega
    ·have hltI : ¬ (t : Int) < (bids.length : Int) := by omega
     have het : bids.take t = bids := List.take_of_length_le (by omega);have HN : Hid (wr.ownsRow (w.heap.size + 2) 3 1 u3 (prK bids asks 1).length ((prK bids asks 1).map (Value.int .i64))) := by
      have := HR.out.1;rw [het, intC] at this;exact this
     have HX := hideIt HR.out.2;clear HR het;go_wp2
     go_roundw
     case rel => exact ⟨1, by go_num, by omega, hideIt ⟨HN.out, HX.out⟩⟩
     case measure => simp [intOf]
  ·obtain ⟨c0, -, cz⟩ := two_at2 HR.out.2.two
   go_upto_region 6 with fail
   go_loopw [3, 20] (fun v3 v20 wx => ∃ t : Nat, v20 = .int .i64 t ∧ t ≤ asks.length ∧ Hid (wx.ownsRow (w.heap.size + 2) 3 1 v3 ((prL bids : List Int) ++ prL (asks.take t)).length (celC intE ((prL bids : List Int) ++ prL (asks.take t))) ∧ PX w ⟨cl, nx, bids, asks, owed⟩ (.slice ba bids.length bc) (.slice aa asks.length ac) (.slice oa owed.length oc) wx)) (fun _ v _ => asks.length - (intOf v).toNat)
   case atStart => exact ⟨0, rfl, Nat.zero_le _, hideIt ⟨by rw [intC]; simpa [prL, prK] using HR.out.1, HR.out.2⟩⟩
   case round =>
    clear HR c0 cz;obtain ⟨t, rfl, ht, HR⟩ := hrel
    by_cases hlt : t < asks.length
    ·have hltI : (t : Int) < (asks.length : Int) := by omega
     have ht0 : (0 : Int) ≤ (t : Int) := by omega
     have hw2 : IntKind.i64.wrap ((t : Int) + 1) = ((t + 1 : Nat) : Int) := by rw [IntKind.wrap_i64]; omega
     obtain ⟨b, off, rfl, hbl, q0, q1, q2, q3⟩ := HA.out t hlt;have hBw := HR.out.2.box.bel;have hblr : b < wr.heap.size := Nat.lt_of_lt_of_le hbl hBw.size;have d0 := (hBw.cell (p := ⟨b, off + t * 4, none⟩) hbl).trans q0;have d1 := (hBw.cell (p := ⟨b, off + t * 4 + 1, none⟩) hbl).trans q1;have d2 := (hBw.cell (p := ⟨b, off + t * 4 + 2, none⟩) hbl).trans q2;have d3 := (hBw.cell (p := ⟨b, off + t * 4 + 3, none⟩) hbl).trans q3;have HI := hideIt (prL_take asks t hlt);have hL : (prL (asks.take t)).length ≤ 40 := by simp [prL]; omega
     have hL2 : (prL bids : List Int).length ≤ 40 := by simp [prL]; try omega
     clear q0 q1 q2 q3 hBw;generalize asks[t] = en at *;obtain ⟨ei, ea, ep, el⟩ := en;simp only at d0 d1 d2 d3 HI;have hT := two_heap wr (.cells #[.int .i64 ei, .int .i64 ea, .int .i64 ep, .int .i64 el] 115) (.cells #[.int .i64 ep] 3);have hB2 := below2 wr (.cells #[.int .i64 ei, .int .i64 ea, .int .i64 ep, .int .i64 el] 115) (.cells #[.int .i64 ep] 3);obtain ⟨v', w', hrun, how, hgr⟩ := app1 (enc := intE) (k := 1) (bytes := 8) (t := 153) (e := 3) (fun _ => rfl) (fun x u hu => by simp only [intE, List.mem_cons, List.not_mem_nil, or_false] at hu; rw [hu]; rfl) Tryz.underlying153 info3 rfl (by omega) _ (w.heap.size + 2) _ ((prL bids : List Int) ++ prL (asks.take t)) ep (wr.heap.size + 1) 1 (Nat.le_trans HR.out.2.size hB2.size) (own_keep HR.out.1 hB2) hT.2.1 (by rw [List.length_append]; omega) (by rw [List.length_append]; unfold maxLen; omega)
     have HN : Hid (w'.ownsRow (w.heap.size + 2) 3 1 v' ((prL bids : List Int) ++ prL (asks.take (t + 1))).length (celC intE ((prL bids : List Int) ++ prL (asks.take (t + 1))))) := by
      show World.ownsRow _ _ _ _ _ _ _
      rw [HI.out, ← List.append_assoc];exact how
     have HX := hideIt ((HR.out.2.keep hB2).grow (Out.ofGrown (F := fun k => w.heap.size + 2 ≤ k) hgr (fun k hk => ((own_keep HR.out.1 hB2).lt k hk).1)) (fun _ h => h));have HRUN := hideIt hrun;clear hrun how hgr hT hB2 HR HI hL hL2
     go_wp2_with (at_builtin; refine Lib.wpList_append_run _ rfl _ _ _ _ rfl _ _ rfl rfl _ _ HRUN.out ?_)
     clear HRUN d0 d1 d2 d3;go_wp2
     go_roundw
     case rel => exact ⟨t + 1, by go_num, by omega, hideIt ⟨HN.out, HX.out⟩⟩
     case measure => simp [intOf]; omega
    ·have hltI : ¬ (t : Int) < (asks.length : Int) := by omega
     have het : asks.take t = asks := List.take_of_length_le (by omega);have HN : Hid (wr.ownsRow (w.heap.size + 2) 3 1 u3 (prK bids asks 2).length ((prK bids asks 2).map (Value.int .i64))) := by
      have := HR.out.1;rw [het, intC] at this;exact this
     have HX := hideIt HR.out.2;clear HR het;go_wp2
     go_roundw
     case rel => exact ⟨2, by go_num, by omega, hideIt ⟨HN.out, HX.out⟩⟩
     case measure => simp [intOf]
  ·have HO := hideIt HR.out.1;have HX := hideIt HR.out.2.box.bel;have HZ := hideIt HR.out.2.size;rw [show prK bids asks (2 : Int).toNat = prL bids ++ prL asks from rfl] at HO;have hlen : (prL bids ++ prL asks).length ≤ 80 := by simp [prL]; omega
   clear HR HB HA;obtain ⟨m, hm⟩ : ∃ m, m = prL bids ++ prL asks := ⟨_, rfl⟩;rw [← hm] at HO hlen;have HMM := hideIt hm;clear hm;have HSO := hideIt (sortI_is _ m _ wr HO.out (by omega))
   go_wp2_with fail
   refine HSO.out.mono ?_;rintro e w2 ⟨rfl, how, hgr⟩;dsimp only;have B2 := hideIt (grown_own hgr HO.out (show w.heap.size ≤ w.heap.size + 2 by omega) HX.out);have O2 := hideIt (own_base how (show w.heap.size ≤ w.heap.size + 2 by omega));clear how hgr HSO HO HX HZ;go_wp2;go_ret
   exact ⟨u3, rfl, by rw [← HMM.out]; exact O2.out, B2.out⟩
end Go.Proofs.YtiinigifjdpicaaGreatDoor
