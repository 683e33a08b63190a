/- Texts of my own, laid together. -/
import Derived.Test.YtcaehfkfohianaaGreatZq
import Derived.Test.YtcaehfkfohianaaGreatPz07
import Derived.Lib.AppendZeros
set_option linter.all false
namespace Go.Proofs.YtcaehfkfohianaaGreat
open Go.RowKit
set_option maxHeartbeats 4000000 in
theorem grow_is (n : Nat) (w : World) (hn : n ≤ 1000) : Calls Tryz.prog 153 #[.slice none 0 0, .int .i64 (n : Int)] w fun e w' => ∃ v, e = .returned v ∧ w'.ownsRow w.heap.size 55 3 v 0 [] ∧ Below w.heap.size w w' := by
 rcases Nat.eq_zero_or_pos n with rfl | hp
 ·go_enter Tryz.func153, Tryz.ntmps153
  go_wp2;go_ret
  exact ⟨_, rfl, ⟨rfl, .inl ⟨rfl, rfl⟩⟩, Below.refl _ _⟩
 ·obtain ⟨i, hi, hz0, hz1, hz2⟩ := info_parts info39;have hrun := Lib.run_append_nil_zeros (P := Tryz.prog) w 28 3 28 55 i _ .i64 .i64 Tryz.underlying28 Tryz.underlying3 hi hz0 n hp (by omega) (by omega) (by rw [hz2]; omega)
  have hcap := grownCap_ge w n 0 55;have hcm := grownCap_le_maxLen w n 0 55 (by unfold maxLen; omega)
  generalize grownCap w n 0 55 = cap at *;obtain ⟨W, HRUN, hH⟩ : ∃ W, Hid ((Builtin.append_ #[28, 3] 28 #[.slice none 0 0, .int .i64 (n : Int)]).run Tryz.prog w = .ok (.slice (some ⟨w.heap.size, 0, none⟩) n cap) W) ∧ Hid (W.ownsRow w.heap.size 55 3 (.slice (some ⟨w.heap.size, 0, none⟩) 0 cap) 0 [] ∧ Below w.heap.size w W) := by
   refine ⟨_, hrun, ⟨rfl, .inr ⟨w.heap.size, cap, _, rfl, Nat.le_refl _, heap_alloc_new w.drew _, Nat.zero_le _, hcm, ?_, by simp⟩⟩, (Below.refl _ w).drew.alloc (Nat.le_refl _) _⟩;rw [Array.size_append, size_zeroCells, size_zeroCells]
   show n * 3 + (cap - n) * 3 = cap * 3
   omega
  have hnI : (0 : Int) < (n : Int) := by omega
  have hn0 : ¬ ((n : Int) < 0) := by omega
  have hcapI : (0 : Int) ≤ (cap : Int) := by omega
  clear hi hz0 hz1 hz2 hcm hrun
  go_enter Tryz.func153, Tryz.ntmps153
  go_wp2_with (at_builtin; refine Lib.wpList_append_run _ rfl _ _ _ _ rfl _ _ rfl rfl _ _ HRUN.out ?_)
  clear HRUN;go_wp2;go_ret
  exact ⟨_, rfl, hH.out.1, hH.out.2⟩
theorem EGot.slice {w : World} {v : Value} {l : List EntV} (h : EGot w v l) : ∃ a c, v = .slice a l.length c := by
 obtain ⟨a, c, e, _⟩ := h.open
 exact ⟨a, c, e⟩
def LsGot (w : World) (v : Value) (gs : List Value) (ls : List (List EntV)) : Prop :=
 gs.length = ls.length ∧ ∃ a c, v = .slice a ls.length c ∧ ∀ j (h : j < ls.length) (h2 : j < gs.length), ∃ b off, a = some ⟨b, off, none⟩ ∧ b < w.heap.size ∧ w.cell? ⟨b, off + j, none⟩ = some gs[j] ∧ EGot w gs[j] ls[j]
theorem flat_step (ls : List (List EntV)) (t : Nat) (h : t < ls.length) : (ls.take (t + 1)).flatten = (ls.take t).flatten ++ ls[t] := by
 rw [List.take_succ_eq_append_getElem h, List.flatten_append]
 simp
theorem flat_le (ls : List (List EntV)) (t : Nat) : (ls.take t).flatten.length ≤ ls.flatten.length := by
 have : ls.flatten.length = (ls.take t).flatten.length + (ls.drop t).flatten.length := by
  rw [← List.length_append, ← List.flatten_append, List.take_append_drop]
 omega
theorem grown_own {W w w' : World} {v : Value} {n : Nat} {xs : List Value} (h : w.grownBy w' v.ownBlock) (ho : w.ownsRow W.heap.size 55 3 v n xs) (hb : Below W.heap.size W w) : Below W.heap.size W w' := by
 refine below_out hb (Out.ofGrown (F := fun k => W.heap.size ≤ k) h (fun k hk => ?_)) (fun _ h => h);obtain ⟨_, ⟨rfl, _⟩ | ⟨g, cap, cur, rfl, hgB, _⟩⟩ := ho
 ·cases hk
 ·simp [Value.ownBlock] at hk
  omega
set_option maxHeartbeats 8000000 in
set_option maxRecDepth 100000 in
theorem concat_is (v : Value) (gs : List Value) (ls : List (List EntV)) (l : List EntV) (hf : ls.flatten = l) (w : World) (h : LsGot w v gs ls) (hl : l.length ≤ 1000) (hll : ls.length ≤ 1000) : Calls Tryz.prog 129 #[v] w fun e w' => ∃ r, e = .returned r ∧ w'.ownsRow w.heap.size 55 3 r l.length (entC l) ∧ Below w.heap.size w w' := by
 obtain ⟨hgl, a, c, rfl, hr⟩ := h;have HR := hideIt hr;have HG := hideIt (grow_is l.length w hl);have HF := hideIt (flat_step ls);have HFL := hideIt (flat_le ls);rw [hf] at HFL;have HHF := hideIt hf;clear hf;clear hr
 go_enter Tryz.func129, Tryz.ntmps129
 go_wp2
 go_loopw [3, 11] (fun u x wr => ∃ t : Nat, u = .int .i64 ((ls.take t).flatten.length : Int) ∧ x = .int .i64 t ∧ t ≤ ls.length ∧ wr = w) (fun _ x _ => ls.length - (intOf x).toNat)
 case atStart => exact ⟨0, rfl, rfl, Nat.zero_le _, rfl⟩
 case round =>
  obtain ⟨t, rfl, rfl, ht, hw⟩ := hrel;have hw2 := hw.symm;subst hw2;clear hw
  by_cases hlt : t < ls.length
  ·have hltI : (t : Int) < (ls.length : Int) := by omega
   have ht0 : (0 : Int) ≤ (t : Int) := by omega
   obtain ⟨b, off, rfl, hbl, q0, hE⟩ := HR.out t hlt (by omega);obtain ⟨ga, gc, hg⟩ := hE.slice;rw [hg] at q0;have h1 := HFL.out t;have h2 := HFL.out (t + 1);have h3 : ((ls.take (t + 1)).flatten.length : Int) = ((ls.take t).flatten.length : Int) + (ls[t].length : Int) := by
    rw [HF.out t hlt, List.length_append];omega
   have H3 := hideIt h3;generalize ((ls.take t).flatten.length) = n1 at *;generalize (ls[t]).length = n2 at *;have h4 : n1 + n2 ≤ 1000 := by omega
   have h5 : ¬ ((n1 : Int) + (n2 : Int) < 0) := by omega
   clear hE h1 h2 h3;go_wp2
   go_roundw
   case rel => exact ⟨t + 1, by rw [H3.out], by go_num, by omega, by first | rfl | trivial⟩
   case measure => simp [intOf]; omega
  ·have hltI : ¬ (t : Int) < (ls.length : Int) := by omega
   have ht9 : ls.take t = ls := List.take_of_length_le (by omega);rw [ht9, HHF.out]
   go_wp2_with fail
   refine HG.out.mono ?_;rintro e w1 ⟨v0, rfl, ho, hb⟩;dsimp only;have HO := hideIt (And.intro ho hb);clear ho hb HG ht9;go_wp2
   go_loopw [6, 27] (fun u x wr => ∃ t : Nat, x = .int .i64 t ∧ t ≤ ls.length ∧ Hid (wr.ownsRow w.heap.size 55 3 u (ls.take t).flatten.length (entC (ls.take t).flatten) ∧ Below w.heap.size w wr)) (fun _ x _ => ls.length - (intOf x).toNat)
   case atStart => exact ⟨0, rfl, Nat.zero_le _, HO⟩
   case round =>
    clear HO;obtain ⟨s, rfl, hs, HO⟩ := hrel
    by_cases hls : s < ls.length
    ·have hlsI : (s : Int) < (ls.length : Int) := by omega
     have hs0 : (0 : Int) ≤ (s : Int) := by omega
     obtain ⟨b, off, rfl, hbl, q0, hE⟩ := HR.out s hls (by omega);have q1 := (HO.out.2.cell (p := ⟨b, off + s, none⟩) hbl).trans q0;have h2 := HFL.out (s + 1);rw [HF.out s hls, List.length_append] at h2;obtain ⟨v', w', hrun, how, hgr⟩ := run_app wr 28 w.heap.size u6 (ls.take s).flatten ls[s] gs[s] HO.out.2.size HO.out.1 (hE.keep HO.out.2) (by omega);rw [← HF.out s hls] at how;have HN := hideIt (And.intro how (grown_own hgr HO.out.1 HO.out.2));generalize gs[s] = gv at *;have HRUN := hideIt hrun;clear hrun how hgr q0 hE h2 HO
     go_wp2_with (at_builtin; refine wpList_append_run _ rfl _ _ rfl rfl rfl rfl HRUN.out ?_)
     clear HRUN q1;go_wp2
     go_roundw
     case rel => exact ⟨s + 1, by go_num, by omega, HN⟩
     case measure => simp [intOf]; omega
    ·have hlsI : ¬ (s : Int) < (ls.length : Int) := by omega
     have hs9 : ls.take s = ls := List.take_of_length_le (by omega);rw [hs9, HHF.out] at HO;go_wp2;go_ret
     exact ⟨_, rfl, HO.out.1, HO.out.2⟩
theorem own_same {w : World} {B : Nat} {e : TypeId} {z n : Nat} {v : Value} {xs : List Value} (h : w.ownsRow B e z v n xs) (b j : Nat) (x : Value) (hx : w.cell? ⟨b, j, none⟩ = some x) : (w.setCell ⟨b, j, none⟩ x).ownsRow B e z v n xs := by
 obtain ⟨h1, h2 | ⟨g, cap, cur, hv, hB, hg, r⟩⟩ := h
 ·exact ⟨h1, .inl h2⟩
 ·refine ⟨h1, .inr ⟨g, cap, cur, hv, hB, ?_, r⟩⟩
  by_cases hb : b = g
  ·subst hb;rw [heap_set hg j x];rw [cell_at hg] at hx;have : cur.setIfInBounds j x = cur := by
    apply Array.ext_getElem?
    intro i;rw [Array.getElem?_setIfInBounds]
    by_cases hij : j = i
    ·subst hij;rw [if_pos rfl];have hl := (Array.getElem?_eq_some_iff.1 hx).1;rw [if_pos hl, hx]
    ·rw [if_neg hij]
   rw [this]
  ·exact (heap_set_other _ _ _ _ _ (fun e => hb e.symm)).trans hg
theorem own_block {w : World} {B : Nat} {e : TypeId} {z n : Nat} {a : Option Addr} {c : Nat} {b off : Nat} {xs : List Value} (h : w.ownsRow B e z (.slice a n c) n xs) (ha : a = some ⟨b, off, none⟩) : B ≤ b ∧ ∀ j, w.frozen? ⟨b, j, none⟩ = false := by
 obtain ⟨_, ⟨hv, _⟩ | ⟨g, cap, cur, hv, hB, hg, _⟩⟩ := h
 ·simp only [Value.slice.injEq] at hv;rw [hv.1] at ha;cases ha
 ·simp only [Value.slice.injEq] at hv;rw [hv.1] at ha;simp only [Option.some.injEq, Addr.mk.injEq] at ha;rw [← ha.1]
  exact ⟨hB, fun j => free_at hg j⟩
set_option maxHeartbeats 8000000 in
set_option maxRecDepth 100000 in
theorem anew_is (v : Value) (gs : List Value) (ls : List (List EntV)) (l : List EntV) (hf : ls.flatten = l) (w : World) (h : LsGot w v gs ls) (hl : l.length ≤ 1000) (hll : ls.length ≤ 1000) (ht : ∀ e ∈ l, e.text.size ≤ 4000) : Calls Tryz.prog 85 #[v] w fun e w' => ∃ r, e = .returned r ∧ w'.ownsRow w.heap.size 55 3 r l.length (entC l) ∧ Below w.heap.size w w' := by
 have H1 := hideIt (concat_is v gs ls l hf w h hl hll);have HT := hideIt ht;have hv : ∃ a c, v = .slice a ls.length c := by
  obtain ⟨_, a, c, e, _⟩ := h
  exact ⟨a, c, e⟩
 obtain ⟨a, c, rfl⟩ := hv;clear hf h ht
 go_enter Tryz.func85, Tryz.ntmps85
 go_wp2_with fail
 refine H1.out.mono ?_;rintro e w1 ⟨r, rfl, ho, hb⟩;dsimp only;have HO := hideIt (And.intro ho hb);obtain ⟨ra, rc, rfl⟩ := own_len ho;clear ho hb H1;go_wp2
 go_loopw [9] (fun x wr => ∃ t : Nat, x = .int .i64 t ∧ t ≤ l.length ∧ Hid (wr.ownsRow w.heap.size 55 3 (.slice ra l.length rc) l.length (entC l) ∧ Below w.heap.size w wr)) (fun x _ => l.length - (intOf x).toNat)
 case atStart => exact ⟨0, rfl, Nat.zero_le _, HO⟩
 case round =>
  clear HO;obtain ⟨t, rfl, ht, HO⟩ := hrel
  by_cases hlt : t < l.length
  ·have hltI : (t : Int) < (l.length : Int) := by omega
   have ht0 : (0 : Int) ≤ (t : Int) := by omega
   obtain ⟨a2, c2, e2, _, hr⟩ := (own_egot HO.out.1 (by omega)).open;simp only [Value.slice.injEq] at e2;obtain ⟨rfl, _, rfl⟩ := e2;obtain ⟨b, off, rfl, hbl, q0, q1, q2⟩ := hr t hlt;have hsz := HT.out l[t] (List.getElem_mem hlt);generalize (l[t]).text = tx at *;have HC := hideIt (clone_any tx wr (by omega));obtain ⟨hBb, hfz⟩ := own_block HO.out.1 rfl;clear hr q0 q1 hsz
   go_wp2_with fail
   refine HC.out.mono ?_;rintro e w2 ⟨rfl, hcb⟩;dsimp only;have q3 := (hcb.cell (p := ⟨b, off + t * 3 + 2, none⟩) hbl).trans q2;have hown := own_keep HO.out.1 hcb;have fz : w2.frozen? ⟨b, off + t * 3 + 2, none⟩ = false := (own_block hown rfl).2 _;have HN := hideIt (And.intro (own_same hown b (off + t * 3 + 2) (.string tx) q3) (belowSet (b := b) (j := off + t * 3 + 2) (.string tx) (below_via HO.out.2 hcb) hBb));clear hown hcb HC HO q2 hfz;go_wp2
   go_roundw
   case rel => exact ⟨t + 1, by go_num, by omega, HN⟩
   case measure => simp [intOf]; omega
  ·have hltI : ¬ (t : Int) < (l.length : Int) := by omega
   go_wp2;go_ret
   exact ⟨_, rfl, HO.out.1, HO.out.2⟩
def fromL (L : LogV) (i m : Int) : List EntV := if mayB L && hasB L i && decide (1 ≤ m) then (L.l.drop (i - L.bi - 1).toNat).take m.toNat else []
theorem EGot.part {w : World} {a : Option Addr} {c : Nat} {l : List EntV} (h : EGot w (.slice a l.length c) l) (k n c2 : Nat) (hk : k + n ≤ l.length) (hc2 : n ≤ c2 ∧ c2 ≤ maxLen) (a2 : Option Addr) (ha : 0 < n → ∀ b off, a = some ⟨b, off, none⟩ → a2 = some ⟨b, off + k * 3, none⟩) : EGot w (.slice a2 n c2) ((l.drop k).take n) := by
 have hlen : ((l.drop k).take n).length = n := by
  rw [List.length_take, List.length_drop];omega
 obtain ⟨h8, a', c', e, _, hr⟩ := h;simp only [Value.slice.injEq] at e;obtain ⟨rfl, _, _⟩ := e;refine ⟨by omega, a2, c2, by rw [hlen], by rw [hlen]; exact hc2, fun hp => ?_⟩
 rw [hlen] at hp;obtain ⟨b, off, rfl, hlt, hc⟩ := hr (by omega);refine ⟨b, off + k * 3, ha hp b off rfl, hlt, fun j hj => ?_⟩;rw [hlen] at hj;rw [show off + k * 3 + j = off + (k * 3 + j) by omega, hc (k * 3 + j) (by omega)];have e1 : entC l = entC (l.take k) ++ (entC ((l.drop k).take n) ++ entC ((l.drop k).drop n)) := by
  rw [← entC_app, ← entC_app, List.take_append_drop, List.take_append_drop]
 have l1 : (entC (l.take k)).length = k * 3 := by
  rw [entC_len, List.length_take]
  congr 1
  omega
 rw [e1, List.getElem?_append_right (by omega), l1, Nat.add_sub_cancel_left, List.getElem?_append_left (by rw [entC_len, hlen]; exact hj)]
def EntsBack (l : List EntV) (w : World) (e : Ending) (w' : World) : Prop := ∃ r, e = .returned r ∧ w'.ownsRow w.heap.size 55 3 r l.length (entC l) ∧ Below w.heap.size w w'
theorem own_nil (w : World) (B : Nat) : w.ownsRow B 55 3 (.slice none 0 0) 0 (entC []) := ⟨rfl, .inl ⟨rfl, rfl⟩⟩
theorem LsGot.one {w : World} {g : Value} {l : List EntV} (h : EGot w g l) : LsGot (w.alloc (.cells #[g] 28)) (.slice (some ⟨w.heap.size, 0, none⟩) 1 1) [g] [l] := by
 refine ⟨rfl, _, 1, rfl, fun j h1 h2 => ?_⟩;have hj : j = 0 := by simpa using h1
 subst hj
 exact ⟨w.heap.size, 0, rfl, by simp, by rw [cell_at (heap_alloc_new w _)]; rfl, h.keep (below1 w _)⟩
theorem own_lift {w0 w w' : World} {r : Value} {n : Nat} {xs : List Value} (h : w'.ownsRow w.heap.size 55 3 r n xs) (hb : Below w0.heap.size w0 w) : w'.ownsRow w0.heap.size 55 3 r n xs := own_base h hb.size
theorem text_may {L : LogV} (h : mayB L = true) (k n : Nat) : ∀ e ∈ (L.l.drop k).take n, e.text.size ≤ 4000 := fun e he =>
 entB_text (rowsB_all L.l L.bt (mayB_in h).2.2.2.1 e (List.mem_of_mem_drop (List.mem_of_mem_take he)))
set_option maxHeartbeats 8000000 in
set_option maxRecDepth 100000 in
theorem from_is (L : LogV) (g : Value) (i m : Int) (w : World) (h : EGot w g L.l) (him : i64B i ∧ i64B m) : Calls Tryz.prog 51 #[logV L g, .int .i64 i, .int .i64 m] w (EntsBack (fromL L i m) w) := by
 have HI := hideIt (Box.first w L g);have H1 := hideIt (mayBe_is L g _ (h.keep HI.out.bel));have H2 := hideIt (fun wx (hx : Below w.heap.size w wx) (hm : mayB L = true) => hasEntry_is L g i wx (h.keep hx) (near_may hm));have hh := hideIt h;have HTX := hideIt (fun (hm : mayB L = true) => text_may hm);unfold EntsBack fromL;cases hm : mayB L
 ·rw [hm] at H1;simp only [Bool.false_and, Bool.false_eq_true, if_false];obtain ⟨a, c, rfl⟩ := h.slice;unfold logV logA at *;obtain ⟨bi, bt, l, cm⟩ := L;simp only at H1 HI ⊢;clear h H2 HTX
  go_enter Tryz.func51, Tryz.ntmps51
  go_wp2_with fail
  refine H1.out.mono ?_;rintro e w1 ⟨rfl, hbl⟩;dsimp only;have HB2 := hideIt (below_via HI.out.bel hbl);clear hbl;go_wp2;go_ret
  exact ⟨_, rfl, own_nil _ _, HB2.out⟩
 ·rw [hm] at H1;have H3 := hideIt (fun wx hx => H2.out wx hx hm);have HT := hideIt (HTX.out hm);clear H2 HTX;have hin := mayB_in hm;have HHB : Hid (hasB L i = decide (L.bi + 1 ≤ i ∧ i ≤ lasI L)) := rfl;have HL : Hid (lasI L = L.bi + (L.l.length : Int)) := rfl;cases hb : hasB L i
  ·simp only [Bool.and_false, Bool.false_and, Bool.false_eq_true, if_false];rw [hb] at H3;obtain ⟨a, c, rfl⟩ := h.slice;unfold logV logA at *;obtain ⟨bi, bt, l, cm⟩ := L;simp only at H1 H3 HI ⊢;clear h hin HT HHB HL
   go_enter Tryz.func51, Tryz.ntmps51
   go_wp2_with fail
   refine H1.out.mono ?_;rintro e w1 ⟨rfl, hbl⟩;dsimp only;have HI1 := hideIt (HI.out.keep hbl);obtain ⟨c0, c1, c2, c3⟩ := HI1.out.cells;simp only at c0 c1 c2 c3;clear hbl
   go_wp2_with fail
   refine (H3.out _ HI1.out.bel).mono ?_;rintro e w2 ⟨rfl, hbl⟩;dsimp only;have HB2 := hideIt (below_via HI1.out.bel hbl);clear hbl c0 c1 c2 c3;go_wp2;go_ret
   exact ⟨_, rfl, own_nil _ _, HB2.out⟩
  ·rw [hb] at H3
   by_cases h1 : 1 ≤ m
   ·rw [decide_eq_true h1];simp only [Bool.and_self, if_true];have hlo := HHB.out;rw [hb, eq_comm, decide_eq_true_eq, HL.out] at hlo;obtain ⟨a, c, rfl⟩ := h.slice;have hcap := h.cap;have hlas := HL.out;unfold maxLen at hcap;unfold logV logA at *;obtain ⟨bi, bt, l, cm⟩ := L;simp only at H1 H3 HI HT hlo hin hcap hh hlas ⊢;obtain ⟨k, hk⟩ : ∃ k : Nat, i - bi - 1 = (k : Int) := Int.eq_ofNat_of_zero_le (by omega);obtain ⟨mn, hmn⟩ : ∃ mn : Nat, m = (mn : Int) := Int.eq_ofNat_of_zero_le (by omega);subst hmn;have hkl : k < l.length := by omega
    rw [hk];simp only [Int.toNat_natCast];obtain ⟨q, hq⟩ : ∃ q : Nat, q = min mn (l.length - k) := ⟨_, rfl⟩;have hqk : k + q ≤ l.length := by omega
    have hpart : (l.drop k).take mn = (l.drop k).take q := by
     rw [hq]
     rcases Nat.le_total mn (l.length - k) with hle | hle
     ·rw [Nat.min_eq_left hle]
     ·rw [Nat.min_eq_right hle, List.take_of_length_le (by rw [List.length_drop]; omega), List.take_of_length_le (by rw [List.length_drop]; omega)]
    rw [hpart];obtain ⟨b0, off0, rfl⟩ : ∃ b off, a = some ⟨b, off, none⟩ := by
     obtain ⟨_, a', c', e, _, hr⟩ := hh.out;simp only [Value.slice.injEq] at e;obtain ⟨rfl, _, _⟩ := e;obtain ⟨b, off, e, _⟩ := hr (by omega)
     exact ⟨b, off, e⟩
    have HP := hideIt (fun wx (hx : Below w.heap.size w wx) => (hh.out.keep hx).part k q (c - k) hqk ⟨by omega, by unfold maxLen; omega⟩ (some ⟨b0, off0 + k * 3, none⟩) (fun _ b off e => by simp only [Option.some.injEq, Addr.mk.injEq] at e; rw [e.1, e.2.1]))
    have HA := hideIt (fun wx (hx : Below w.heap.size w wx) => anew_is _ _ [(l.drop k).take q] ((l.drop k).take q) (by simp) _ (LsGot.one (HP.out wx hx)) (by rw [List.length_take, List.length_drop]; omega) (by simp) (HT.out k q))
    have hi1 : i ≤ 1000000 ∧ 1 ≤ i := by omega
    have hb1 : bi ≤ 1000000 ∧ 0 ≤ bi := by omega
    obtain ⟨hi1, hi2⟩ := hi1;obtain ⟨hb1, hb2⟩ := hb1;have k0 : (0 : Int) ≤ (k : Int) := by omega
    have k1 : (k : Int) ≤ (l.length : Int) := by omega
    have k2 : (l.length : Int) ≤ (c : Int) := by omega
    have hm1 : ¬ ((mn : Int) < 1) := by omega
    have hdk : l.length - k ≤ c - k := by omega
    have hqI : min (mn : Int) ((l.length - k : Nat) : Int) = (q : Int) := by omega
    have hq0 : (0 : Int) ≤ (q : Int) := by omega
    have hq1 : (q : Int) ≤ ((c - k : Nat) : Int) := by omega
    clear h hin hlo hcap hq hpart HHB HL hlas
    go_enter Tryz.func51, Tryz.ntmps51
    go_wp2_with fail
    refine H1.out.mono ?_;rintro e w1 ⟨rfl, hbl⟩;dsimp only;have HI1 := hideIt (HI.out.keep hbl);obtain ⟨c0, c1, c2, c3⟩ := HI1.out.cells;simp only at c0 c1 c2 c3;clear hbl
    go_wp2_with fail
    refine (H3.out _ HI1.out.bel).mono ?_;rintro e w2 ⟨rfl, hbl⟩;dsimp only;have HI2 := hideIt (HI1.out.keep hbl);clear hbl c0 c1 c2 c3;obtain ⟨c0, c1, c2, c3⟩ := HI2.out.cells;simp only at c0 c1 c2 c3;clear HI HI1 H1 H3
    go_wp2_with fail
    refine (HA.out _ HI2.out.bel).mono ?_;rintro e w3 ⟨r, rfl, ho, hbl⟩;dsimp only;have HO := hideIt (And.intro (own_lift ho (below_via HI2.out.bel (below1 _ _))) (below_via (below_via HI2.out.bel (below1 _ _)) hbl));clear ho hbl HA HP;go_wp2;go_ret
    exact ⟨_, rfl, HO.out.1, HO.out.2⟩
   ·rw [decide_eq_false h1];simp only [Bool.and_false, Bool.false_eq_true, if_false];obtain ⟨a, c, rfl⟩ := h.slice;unfold logV logA at *;obtain ⟨bi, bt, l, cm⟩ := L;simp only at H1 H3 HI ⊢;have hm1 : m < 1 := by omega
    clear h hin HT HHB HL
    go_enter Tryz.func51, Tryz.ntmps51
    go_wp2_with fail
    refine H1.out.mono ?_;rintro e w1 ⟨rfl, hbl⟩;dsimp only;have HI1 := hideIt (HI.out.keep hbl);obtain ⟨c0, c1, c2, c3⟩ := HI1.out.cells;simp only at c0 c1 c2 c3;clear hbl
    go_wp2_with fail
    refine (H3.out _ HI1.out.bel).mono ?_;rintro e w2 ⟨rfl, hbl⟩;dsimp only;have HB2 := hideIt (below_via HI1.out.bel hbl);clear hbl c0 c1 c2 c3;go_wp2;go_ret
    exact ⟨_, rfl, own_nil _ _, HB2.out⟩
theorem eqE_refl (e : EntV) : eqE e e = true := by simp [eqE]
theorem neq39r (t k : Int) (x : ByteArray) (w : World) : (binOp .neq 55 (.agg #[.int .i64 t, .int .i64 k, .string x]) (.agg #[.int .i64 t, .int .i64 k, .string x])).run Tryz.prog w = .ok (.bool false) w := by
 rw [neq39, eqE_refl]
 rfl
set_option maxHeartbeats 8000000 in
set_option maxRecDepth 100000 in
theorem sameEnts_is (g k : Value) (l : List EntV) (w : World) (hg : EGot w g l) (hk : EGot w k l) : Calls Tryz.prog 13 #[g, k] w fun e w' => e = .returned (.bool true) ∧ Below w.heap.size w w' := by
 obtain ⟨a, c, rfl, h8, ha⟩ := hg.open;obtain ⟨a', c', rfl, _, hb⟩ := hk.open;have HA := hideIt ha;have HK := hideIt hb;have hl : ((l.length : Int) != (l.length : Int)) = false := by simp
 clear hg hk ha hb
 go_enter Tryz.func13, Tryz.ntmps13
 go_wp2
 go_loopw [5] (fun i wr => ∃ j : Nat, j ≤ l.length ∧ i = .int .i64 j ∧ Hid (Below w.heap.size w wr)) (fun i _ => l.length - (intOf i).toNat)
 case atStart => exact ⟨0, Nat.zero_le _, rfl, hideIt (Below.refl _ _)⟩
 case round =>
  obtain ⟨j, hj, rfl, HW⟩ := hrel
  by_cases hlt : j < l.length
  ·obtain ⟨b1, o1, rfl, l1, p0, p1, p2⟩ := HA.out j hlt;obtain ⟨b2, o2, rfl, l2, q0, q1, q2⟩ := HK.out j hlt;have x0 := (HW.out.cell (p := ⟨b1, o1 + j * 3, none⟩) l1).trans p0;have x1 := (HW.out.cell (p := ⟨b1, o1 + j * 3 + 1, none⟩) l1).trans p1;have x2 := (HW.out.cell (p := ⟨b1, o1 + j * 3 + 2, none⟩) l1).trans p2;have y0 := (HW.out.cell (p := ⟨b2, o2 + j * 3, none⟩) l2).trans q0;have y1 := (HW.out.cell (p := ⟨b2, o2 + j * 3 + 1, none⟩) l2).trans q1;have y2 := (HW.out.cell (p := ⟨b2, o2 + j * 3 + 2, none⟩) l2).trans q2;have hlt' : (j : Int) < l.length := by omega
   have hj0 : (0 : Int) ≤ j := by omega
   clear p0 p1 p2 q0 q1 q2;generalize l[j] = en at *;obtain ⟨et, ek, ex⟩ := en;simp only at x0 x1 x2 y0 y1 y2;have n1 := neq39r et ek ex
   go_upto_region 6 with fail
   refine wp_region_held_drew (S := fun w' => w'.cell? ⟨b1, o1 + j * 3, none⟩ = some (.int .i64 et) ∧ w'.cell? ⟨b1, o1 + j * 3 + 1, none⟩ = some (.int .i64 ek) ∧ w'.cell? ⟨b1, o1 + j * 3 + 2, none⟩ = some (.string ex) ∧ w'.cell? ⟨b2, o2 + j * 3, none⟩ = some (.int .i64 et) ∧ w'.cell? ⟨b2, o2 + j * 3 + 1, none⟩ = some (.int .i64 ek) ∧ w'.cell? ⟨b2, o2 + j * 3 + 2, none⟩ = some (.string ex)) (by kernel_rfl) ⟨x0, x1, x2, y0, y1, y2⟩ (fun hHeld => ?_);refine wpAnyH_take (i := 0) (oi := ⟨some 17, _, _, _, _, _⟩) (v := ?_) rfl (by kernel_rfl) (by kernel_rfl) (by kernel_rfl) (fun _ _ _ h => h) (Or.inl ⟨by rfl, ?_⟩) (by assumption) ?_
   rotate_left
   ·intro w5 hSw
    (try dsimp only at hSw)
    go_simp
    (try with_reducible rfl)
   try simp only [aP, aQ, aA, aB, aC]
   refine wpAnyH_take (i := 1) (oi := ⟨some 18, _, _, _, _, _⟩) (v := ?_) rfl (by kernel_rfl) (by kernel_rfl) (by kernel_rfl) (fun _ _ _ h => h) (Or.inl ⟨by rfl, ?_⟩) (by assumption) ?_
   rotate_left
   ·intro w5 hSw
    (try dsimp only at hSw)
    go_simp
    (try with_reducible rfl)
   try simp only [aP, aQ, aA, aB, aC]
   refine wpAnyH_take (i := 2) (oi := ⟨some 19, _, _, _, _, _⟩) (v := ?_) rfl (by kernel_rfl) (by kernel_rfl) (by kernel_rfl) (fun _ _ _ h => h) (Or.inl ⟨by rfl, ?_⟩) (by assumption) ?_
   rotate_left
   ·intro w5 hSw
    (try dsimp only at hSw)
    go_simp
    (try with_reducible rfl)
   try simp only [aP, aQ, aA, aB, aC]
   refine wpAnyH_take (i := 3) (oi := ⟨some 20, _, _, _, _, _⟩) (v := ?_) rfl (by kernel_rfl) (by kernel_rfl) (by kernel_rfl) (fun _ _ _ h => h) (Or.inl ⟨by rfl, ?_⟩) (by assumption) ?_
   rotate_left
   ·intro w5 hSw
    (try dsimp only at hSw)
    go_simp
    (try with_reducible rfl)
   try simp only [aP, aQ, aA, aB, aC]
   refine wpAnyH_take (i := 4) (oi := ⟨some 21, _, _, _, _, _⟩) (v := ?_) rfl (by kernel_rfl) (by kernel_rfl) (by kernel_rfl) (fun _ _ _ h => h) (Or.inl ⟨by rfl, ?_⟩) (by assumption) ?_
   rotate_left
   ·intro w5 hSw
    (try dsimp only at hSw)
    go_simp
    (try with_reducible rfl)
   try simp only [aP, aQ, aA, aB, aC]
   refine wpAnyH_take (i := 5) (oi := ⟨some 22, _, _, _, _, _⟩) (v := ?_) rfl (by kernel_rfl) (by kernel_rfl) (by kernel_rfl) (fun _ _ _ h => h) (Or.inl ⟨by rfl, ?_⟩) (by assumption) ?_
   rotate_left
   ·intro w5 hSw
    (try dsimp only at hSw)
    go_simp
    (try with_reducible rfl)
   try simp only [aP, aQ, aA, aB, aC]
   refine wpAnyH_take (i := 6) (oi := ⟨some 23, _, _, _, _, _⟩) (v := ?_) rfl (by kernel_rfl) (by kernel_rfl) (by kernel_rfl) (fun _ _ _ h => h) (Or.inl ⟨by rfl, ?_⟩) (by assumption) ?_
   rotate_left
   ·intro w5 hSw
    (try dsimp only at hSw)
    go_simp
    (try with_reducible rfl)
   try simp only [aP, aQ, aA, aB, aC]
   refine wpAnyH_take (i := 7) (oi := ⟨some 24, _, _, _, _, _⟩) (v := ?_) rfl (by kernel_rfl) (by kernel_rfl) (by kernel_rfl) (fun _ _ _ h => h) (Or.inl ⟨by rfl, ?_⟩) (by assumption) ?_
   rotate_left
   ·intro w5 hSw
    (try dsimp only at hSw)
    go_simp
    (try with_reducible rfl)
   try simp only [aP, aQ, aA, aB, aC]
   refine wpAnyH_take (i := 8) (oi := ⟨some 25, _, _, _, _, _⟩) (v := ?_) rfl (by kernel_rfl) (by kernel_rfl) (by kernel_rfl) (fun _ _ _ h => h) (Or.inl ⟨by rfl, ?_⟩) (by assumption) ?_
   rotate_left
   ·intro w5 hSw
    (try dsimp only at hSw)
    go_simp
    (try with_reducible rfl)
   try simp only [aP, aQ, aA, aB, aC]
   refine wpAnyH_done (by kernel_rfl) ?_ _;clear n1 x0 x1 x2 y0 y1 y2 hHeld;go_wp2
   go_roundw
   case rel => exact ⟨j + 1, by omega, by go_num, hideIt HW.out.drew⟩
   case measure => simp [intOf]; omega
  ·have hlt' : ¬ (j : Int) < l.length := by omega
   go_wp2;go_ret
   exact ⟨rfl, HW.out⟩
theorem eq23r (a b : Int) (w : World) : (binOp .eql 25 (.agg #[.int .i64 a, .int .i64 b]) (.agg #[.int .i64 a, .int .i64 b])).run Tryz.prog w = .ok (.bool true) w := by
 rw [eq23]
 simp
set_option maxHeartbeats 8000000 in
set_option maxRecDepth 100000 in
theorem same_is (L : LogV) (g k : Value) (w : World) (hg : EGot w g L.l) (hk : EGot w k L.l) : Calls Tryz.prog 17 #[logV L g, logV L k] w fun e w' => e = .returned (.bool true) ∧ Below w.heap.size w w' := by
 obtain ⟨bi, bt, l, cm⟩ := L;simp only at hg hk;have HB := hideIt (below2 w (.cells #[.int .i64 bi, .int .i64 bt, g, .int .i64 cm] 36) (.cells #[.int .i64 bi, .int .i64 bt, k, .int .i64 cm] 36));have H1 := hideIt (sameEnts_is g k l _ (hg.keep HB.out) (hk.keep HB.out));obtain ⟨a, c, rfl⟩ := hg.slice;obtain ⟨a', c', rfl⟩ := hk.slice;have n1 := eq23r bi bt;clear hg hk;unfold logV logA
 simp only
 go_enter Tryz.func17, Tryz.ntmps17
 go_wp2_with fail
 refine H1.out.mono ?_;rintro e w1 ⟨rfl, hbl⟩;dsimp only;have HB2 := hideIt (below_via HB.out hbl);clear hbl;go_wp2;go_ret
 exact ⟨rfl, HB2.out⟩
theorem fin4 {w wx : World} {R : Nat} {ty : TypeId} (v0 v1 v2 v3 : Value) {z0 z1 z2 z3 : Value} (hz : wx.heap[R]? = some (.cells #[z0, z1, z2, z3] ty (0, 0))) (hR : w.heap.size ≤ R) (hb : Below w.heap.size w wx) :
  Hid (((((wx.setCell ⟨R, 0, none⟩ v0).setCell ⟨R, 1, none⟩ v1).setCell ⟨R, 2, none⟩ v2).setCell ⟨R, 3, none⟩ v3).heap[R]? = some (.cells #[v0, v1, v2, v3] ty (0, 0)) ∧ Below w.heap.size w ((((wx.setCell ⟨R, 0, none⟩ v0).setCell ⟨R, 1, none⟩ v1).setCell ⟨R, 2, none⟩ v2).setCell ⟨R, 3, none⟩ v3)) :=
 ⟨put4 _ _ ty _ _ _ _ hz, belowSet _ (belowSet _ (belowSet _ (belowSet _ hb hR) hR) hR) hR⟩
theorem own4 {wx : World} {R B n : Nat} {e : TypeId} {z : Nat} {g : Value} {xs : List Value} (v0 v1 v2 v3 : Value) (ho : wx.ownsRow B e z g n xs) (hR : R < B) (B' : Nat) (hB : B' ≤ B) :
  Hid (((((wx.setCell ⟨R, 0, none⟩ v0).setCell ⟨R, 1, none⟩ v1).setCell ⟨R, 2, none⟩ v2).setCell ⟨R, 3, none⟩ v3).ownsRow B' e z g n xs) :=
 own_base (ownSet _ (ownSet _ (ownSet _ (ownSet _ ho hR) hR) hR) hR) hB
def LogErr (X : LogV × Int) (w : World) (e : Ending) (w' : World) : Prop := ∃ g, e = .returned (.tuple #[logV X.1 g, .int .i64 X.2]) ∧ w'.ownsRow w.heap.size 55 3 g X.1.l.length (entC X.1.l) ∧ Below w.heap.size w w'
structure LMR (w : World) (L : LogV) (g : Value) (i t : Int) (wx : World) : Prop where
 box : wx.heap[w.heap.size]? = some (.cells (logA L g) 36 (0, 0))
 mrk : wx.heap[w.heap.size + 1]? = some (.cells #[.int .i64 i, .int .i64 t] 25 (0, 0))
 res : wx.heap[w.heap.size + 2]? = some (.cells #[.int .i64 0, .int .i64 0, .slice none 0 0, .int .i64 0] 36 (0, 0))
 bel : Below w.heap.size w wx
theorem LMR.first (w : World) (L : LogV) (g : Value) (i t : Int) : LMR w L g i t (((w.alloc (.cells (logA L g) 36)).alloc (.cells #[.int .i64 i, .int .i64 t] 25)).alloc (.cells #[.int .i64 0, .int .i64 0, .slice none 0 0, .int .i64 0] 36)) := by
 have ht := three_heap w (.cells (logA L g) 36) (.cells #[.int .i64 i, .int .i64 t] 25) (.cells #[.int .i64 0, .int .i64 0, .slice none 0 0, .int .i64 0] 36)
 exact ⟨ht.1, ht.2.1, ht.2.2.1, below3 w _ _ _⟩
theorem LMR.size {w wx : World} {L : LogV} {g : Value} {i t : Int} (h : LMR w L g i t wx) : w.heap.size + 3 ≤ wx.heap.size := (Array.getElem?_eq_some_iff.1 h.res).1
theorem LMR.keep {w wx wy : World} {L : LogV} {g : Value} {i t : Int} (h : LMR w L g i t wx) (hb : Below wx.heap.size wx wy) : LMR w L g i t wy := by
 have := h.size
 exact ⟨(hb.block _ (by omega)).trans h.box, (hb.block _ (by omega)).trans h.mrk, (hb.block _ (by omega)).trans h.res, below_via h.bel hb⟩
theorem LMR.drew {w wx : World} {L : LogV} {g : Value} {i t : Int} (h : LMR w L g i t wx) : LMR w L g i t wx.drew := h.keep (Below.refl _ wx).drew
theorem LMR.cells {w wx : World} {L : LogV} {g : Value} {i t : Int} (h : LMR w L g i t wx) : wx.cell? ⟨w.heap.size, 0, none⟩ = some (.int .i64 L.bi) ∧ wx.cell? ⟨w.heap.size, 1, none⟩ = some (.int .i64 L.bt) ∧ wx.cell? ⟨w.heap.size, 2, none⟩ = some g ∧ wx.cell? ⟨w.heap.size, 3, none⟩ = some (.int .i64 L.cm) ∧ wx.cell? ⟨w.heap.size + 1, 0, none⟩ = some (.int .i64 i) ∧ wx.cell? ⟨w.heap.size + 1, 1, none⟩ = some (.int .i64 t) :=
 ⟨by rw [cell_at h.box]; rfl, by rw [cell_at h.box]; rfl, by rw [cell_at h.box]; rfl, by rw [cell_at h.box]; rfl, by rw [cell_at h.mrk]; rfl, by rw [cell_at h.mrk]; rfl⟩
theorem LMR.four {w wx : World} {L : LogV} {g : Value} {i t : Int} (h : LMR w L g i t wx) : wx.cell? ⟨w.heap.size, 0, none⟩ = some (.int .i64 L.bi) ∧ wx.cell? ⟨w.heap.size, 1, none⟩ = some (.int .i64 L.bt) ∧ wx.cell? ⟨w.heap.size, 2, none⟩ = some g ∧ wx.cell? ⟨w.heap.size, 3, none⟩ = some (.int .i64 L.cm) := ⟨h.cells.1, h.cells.2.1, h.cells.2.2.1, h.cells.2.2.2.1⟩
theorem LMR.free {w wx : World} {L : LogV} {g : Value} {i t : Int} (h : LMR w L g i t wx) : ∀ j, wx.frozen? ⟨w.heap.size, j, none⟩ = false := fun j => free_at h.box j
theorem LMR.zero {w wx : World} {L : LogV} {g : Value} {i t : Int} (h : LMR w L g i t wx) : wx.cell? ⟨w.heap.size + 2, 0, none⟩ = some (.int .i64 0) ∧ wx.cell? ⟨w.heap.size + 2, 1, none⟩ = some (.int .i64 0) ∧ wx.cell? ⟨w.heap.size + 2, 2, none⟩ = some (.slice none 0 0) ∧ wx.cell? ⟨w.heap.size + 2, 3, none⟩ = some (.int .i64 0) ∧ ∀ j, wx.frozen? ⟨w.heap.size + 2, j, none⟩ = false :=
 ⟨by rw [cell_at h.res]; rfl, by rw [cell_at h.res]; rfl, by rw [cell_at h.res]; rfl, by rw [cell_at h.res]; rfl, fun j => free_at h.res j⟩
theorem LMR.put {w wx : World} {L : LogV} {g : Value} {i t : Int} (h : LMR w L g i t wx) (v0 v1 v2 v3 : Value) : Hid (((((wx.setCell ⟨w.heap.size + 2, 0, none⟩ v0).setCell ⟨w.heap.size + 2, 1, none⟩ v1).setCell ⟨w.heap.size + 2, 2, none⟩ v2).setCell ⟨w.heap.size + 2, 3, none⟩ v3).heap[w.heap.size + 2]? = some (.cells #[v0, v1, v2, v3] 36 (0, 0)) ∧ Below w.heap.size w ((((wx.setCell ⟨w.heap.size + 2, 0, none⟩ v0).setCell ⟨w.heap.size + 2, 1, none⟩ v1).setCell ⟨w.heap.size + 2, 2, none⟩ v2).setCell ⟨w.heap.size + 2, 3, none⟩ v3)) :=
 fin4 v0 v1 v2 v3 h.res (by omega) h.bel
theorem LMR.setL {w wx : World} {L : LogV} {g : Value} {i t : Int} (h : LMR w L g i t wx) (l' : List EntV) (g' : Value) : LMR w ⟨L.bi, L.bt, l', L.cm⟩ g' i t (wx.setCell ⟨w.heap.size, 2, none⟩ g') :=
 ⟨heap_set h.box 2 g', setOther _ h.mrk (by omega), setOther _ h.res (by omega), belowSet _ h.bel (Nat.le_refl _)⟩
theorem LsGot.pair {w : World} {g k : Value} {l m : List EntV} (h : EGot w g l) (hk : EGot w k m) : LsGot (w.alloc (.cells #[g, k] 28)) (.slice (some ⟨w.heap.size, 0, none⟩) 2 2) [g, k] [l, m] := by
 refine ⟨rfl, _, 2, rfl, fun j h1 h2 => ?_⟩;have hj : j < 2 := by simpa using h1
 rcases (by omega : j = 0 ∨ j = 1) with rfl | rfl
 ·exact ⟨w.heap.size, 0, rfl, by simp, by rw [cell_at (heap_alloc_new w _)]; rfl, h.keep (below1 w _)⟩
 ·exact ⟨w.heap.size, 0, rfl, by simp, by rw [cell_at (heap_alloc_new w _)]; rfl, hk.keep (below1 w _)⟩
theorem text_rows {l : List EntV} {x : Int} (h : rowsB l x = true) : ∀ e ∈ l, e.text.size ≤ 4000 := fun e he => entB_text (rowsB_all l x h e he)
theorem fld23 (a b : Int) (w : World) : (Instr.field 25 (.agg #[.int .i64 a, .int .i64 b]) 1).run Tryz.prog w = .ok (.int .i64 b) w := by
 simp [Instr.field, run_underlying Tryz.underlying25, go_sem, asAgg]
set_option maxHeartbeats 16000000 in
set_option maxRecDepth 100000 in
theorem put_is (L : LogV) (g k : Value) (pi pt : Int) (es : List EntV) (w : World) (h : EGot w g L.l) (hk : EGot w k es) (hm : mayB L = true) (hp : 0 ≤ pi ∧ pi ≤ 1000000) (hpl : pi ≤ lasI L) (her : rowsB es pt = true) : Calls Tryz.prog 207 #[logV L g, .agg #[.int .i64 pi, .int .i64 pt], k] w (LogErr (putL L pi es) w) := by
 have T0 := hideIt (LMR.first w L g pi pt);have hin := mayB_in hm;have HPS := hideIt (passedOver_is L g k pi pt es _ (h.keep T0.out.bel) (hk.keep T0.out.bel) (near_may hm) hp);have hle := passR_le L es pi;have HPI := hideIt (passR_in L es pi hpl);have HPB := hideIt (passR_base L es pi);have hE8 := hk.1;unfold LogErr putL;generalize passR L pi es = n at *
 by_cases hn : n = es.length
 ·rw [if_pos hn];have HA := hideIt (fun wx (hx : Below w.heap.size w wx) => anew_is _ _ [L.l] L.l (by simp) _ (LsGot.one (h.keep hx)) (by omega) (by simp) (text_rows hin.2.2.2.1));obtain ⟨a, c, rfl⟩ := h.slice;obtain ⟨ka, kc, rfl⟩ := hk.slice;unfold logV logA at *;obtain ⟨bi, bt, l, cm⟩ := L;simp only at HPS T0 HA ⊢;have hnI : ((n : Int) == (es.length : Int)) = true := by simp [hn]
  clear h hk hin HPI HPB hle hm her hpl;have hnn := hideIt hn;clear hn
  go_enter Tryz.func207, Tryz.ntmps207
  go_wp2_with fail
  refine HPS.out.mono ?_;rintro e w1 ⟨rfl, hbl⟩;dsimp only;have T1 := hideIt (T0.out.keep hbl);obtain ⟨c0, c1, c2, c3, d0, d1⟩ := T1.out.cells;simp only at c0 c1 c2 c3;clear hbl T0 HPS
  go_wp2_with fail
  refine (HA.out _ T1.out.bel).mono ?_;rintro e w2 ⟨r, rfl, ho, hbl⟩;dsimp only;have T2 := hideIt (T1.out.keep (below_via (below1 w1 _) hbl));obtain ⟨ra, rc, rfl⟩ := own_len ho;have T3 := hideIt (T2.out.setL l (.slice ra l.length rc));have HO := hideIt (own_base ho (show w.heap.size + 3 ≤ _ from by have := T1.out.size; simp; omega))
  clear ho hbl T1 HA c0 c1 c2 c3 d0 d1;obtain ⟨c0, c1, c2, c3, d0, d1⟩ := T2.out.cells;have ff := T2.out.free;simp only at c0 c1 c2 c3;have HP := T3.out.put (.int .i64 bi) (.int .i64 bt) (.slice ra l.length rc) (.int .i64 cm);obtain ⟨z0, z1, z2, z3, zf⟩ := T3.out.zero;obtain ⟨e1, e2⟩ := HP.out;have e3 := (own4 (R := w.heap.size + 2) (.int .i64 bi) (.int .i64 bt) (.slice ra l.length rc) (.int .i64 cm) (ownSet (b := w.heap.size) (j := 2) (.slice ra l.length rc) HO.out (by omega)) (by omega) w.heap.size (by omega)).out;clear HP HO;go_wp2
  revert e1 e2 e3
  generalize (World.setCell _ ⟨w.heap.size + 2, 3, none⟩ _) = W;intro e1 e2 e3;exact bodyPost_ret (v := .tuple #[logV ⟨bi, bt, l, cm⟩ (.slice ra l.length rc), .int .i64 0]) (by simp [results, Tryz.results207, go_sem, cell_at e1, logV, logA]) rfl ⟨_, rfl, e3, e2⟩
 ·rw [if_neg hn];have hnl : n < es.length := by omega
  have hbn := HPB.out hnl (by omega);have hln := HPI.out;obtain ⟨q, hq⟩ : ∃ q : Nat, pi + n - L.bi = (q : Int) := Int.eq_ofNat_of_zero_le (by omega);have hql : q ≤ L.l.length := by unfold lasI at hln; omega
  have ecut : cutL L (pi + n) = ⟨L.bi, L.bt, L.l.take q, L.cm⟩ := by
   unfold cutL;rw [hq, Int.toNat_natCast]
  rw [ecut]
  simp only
  have hlt : (L.l.take q).length = q := by rw [List.length_take]; omega
  have hnb : ((n : Int) == (es.length : Int)) = false := by simp; omega
  have hmm : es.length - n ≤ 4398046511104 := by omega
  obtain ⟨kb, koff, hkk, hkt⟩ : ∃ kb koff, (∃ kc, k = .slice (some ⟨kb, koff, none⟩) es.length kc ∧ es.length ≤ kc ∧ kc ≤ 9223372036854775807) ∧ ∀ wx, Below w.heap.size w wx → wx.cell? ⟨kb, koff + n * 3, none⟩ = some (.int .i64 (es.getD n noE).term) := by
   have hk2 := hk;obtain ⟨ka, kc, e, _, hr⟩ := hk.open;obtain ⟨b, off, e2, hbl, q0, _⟩ := hr n hnl;subst e2;refine ⟨b, off, ⟨kc, e, ?_⟩, fun wx hx => ?_⟩
   ·subst e;have := hk2.cap;unfold maxLen at this;exact this
   ·rw [hx.cell hbl, q0]
    simp [List.getD, List.getElem?_eq_getElem hnl]
  obtain ⟨kc, rfl, hkc1, hkc2⟩ := hkk;have HKT := hideIt hkt;have HKP : Hid (∀ wx, Below w.heap.size w wx → EGot wx (.slice (some ⟨kb, koff + n * 3, none⟩) (es.length - n) (kc - n)) (es.drop n)) := fun wx hx => by
   have := (hk.keep hx).part n (es.length - n) (kc - n) (by omega) ⟨by omega, by unfold maxLen; omega⟩ (some ⟨kb, koff + n * 3, none⟩) (fun _ b off e => by simp only [Option.some.injEq, Addr.mk.injEq] at e; rw [e.1, e.2.1])
   rwa [List.take_of_length_le (by rw [List.length_drop]; omega)] at this
  have HQP : Hid (∀ a c, g = .slice a L.l.length c → ∀ wx, Below w.heap.size w wx → EGot wx (.slice a q c) (L.l.take q)) := fun a c e wx hx => by
   subst e;have hcap := h.cap;have := (h.keep hx).part 0 q c (by omega) ⟨by omega, hcap.2⟩ a (fun _ b off e => by rw [e, Nat.zero_mul, Nat.add_zero])
   rwa [List.drop_zero] at this
  have hcap : ∃ a c, g = .slice a L.l.length c ∧ L.l.length ≤ c ∧ c ≤ 9223372036854775807 ∧ (a = none → L.l.length = 0) := by
   obtain ⟨_, a, c, e, hcc, hr⟩ := h;unfold maxLen at hcc;refine ⟨a, c, e, hcc.1, hcc.2, fun ha => ?_⟩
   rcases Nat.eq_zero_or_pos L.l.length with h0 | h0
   ·exact h0
   ·obtain ⟨b, off, e2, _⟩ := hr h0;rw [ha] at e2;cases e2
  obtain ⟨a, c, rfl, hc1, hc2, hc3⟩ := hcap;replace HQP := hideIt (HQP.out a c rfl);have HNR : Hid (Near ⟨L.bi, L.bt, L.l.take q, L.cm⟩) := ⟨by simp only; omega, by simp only; omega, by simp only; omega⟩
  have HLM := hideIt (fun wx (hx : Below w.heap.size w wx) => lastMark_is ⟨L.bi, L.bt, L.l.take q, L.cm⟩ (.slice a q c) wx (HQP.out wx hx) HNR.out);have HLI := hideIt (fun wx (hx : Below w.heap.size w wx) => lastIndex_is ⟨L.bi, L.bt, L.l.take q, L.cm⟩ (.slice a q c) wx (HQP.out wx hx) HNR.out);have HTX : Hid (∀ e ∈ L.l.take q ++ es.drop n, e.text.size ≤ 4000) := fun e he => by
   rcases List.mem_append.1 he with he | he
   ·exact text_rows hin.2.2.2.1 e (List.mem_of_mem_take he)
   ·exact text_rows her e (List.mem_of_mem_drop he)
  have HA := hideIt (fun (hlen : q + (es.length - n) ≤ 400) wx (hx : Below w.heap.size w wx) => anew_is _ _ [L.l.take q, es.drop n] (L.l.take q ++ es.drop n) (by simp) _ (LsGot.pair (HQP.out wx hx) (HKP.out wx hx)) (by rw [List.length_append, hlt, List.length_drop]; omega) (by simp) HTX.out)
  have HLL : Hid ((L.l.take q ++ es.drop n).length = q + (es.length - n)) := by
   show _ = _
   rw [List.length_append, hlt, List.length_drop]
  have eli : lasI ⟨L.bi, L.bt, L.l.take q, L.cm⟩ = L.bi + q := by
   unfold lasI;rw [hlt]
  rw [eli] at HLI ⊢;rw [hlt];generalize L.l.take q ++ es.drop n = D at *;generalize lasM ⟨L.bi, L.bt, L.l.take q, L.cm⟩ = mk at *;obtain ⟨mi, mt⟩ := mk;generalize (es.getD n noE).term = et at *;unfold logV logA at *;obtain ⟨bi, bt, l, cm⟩ := L;have hbb := hin.1;have hcmb := hin.2.2.2.2.2.1;have hl4 := hin.2.2.1;simp only at HPS T0 hq hbb hcmb hl4 HLM HLI HA hc1 hc3 hql ⊢;have n0 : (0 : Int) ≤ (n : Int) := by omega
  have n1 : (n : Int) ≤ (es.length : Int) := by omega
  have n2 : (es.length : Int) ≤ (kc : Int) := by omega
  have n3 : ¬ (kc = n) := by omega
  have hw1 : IntKind.i64.wrap (pi + n) = pi + n := by rw [IntKind.wrap_i64]; omega
  have hw2 : IntKind.i64.wrap (pi + n - bi) = q := by rw [IntKind.wrap_i64]; omega
  have q0 : (0 : Int) ≤ (q : Int) := by omega
  have q1 : (q : Int) ≤ (c : Int) := by omega
  clear h hk hin hm her hpl hkt hln hbn HPI HPB hle HNR HTX hlt ecut eli
  by_cases hc : pi + n < cm
  ·rw [if_pos hc];clear HA HLM HLI HQP HKP HKT
   go_enter Tryz.func207, Tryz.ntmps207
   go_wp2_with fail
   refine HPS.out.mono ?_;rintro e w1 ⟨rfl, hbl⟩;dsimp only;have T1 := hideIt (T0.out.keep hbl);obtain ⟨c0, c1, c2, c3, d0, d1⟩ := T1.out.cells;obtain ⟨z0, z1, z2, z3, zf⟩ := T1.out.zero;have HP := T1.out.put (.int .i64 0) (.int .i64 0) (.slice none 0 0) (.int .i64 0);simp only at c0 c1 c2 c3;clear hbl T0 T1 HPS;obtain ⟨e1, e2⟩ := HP.out;clear HP;go_wp2
   revert e1 e2
   generalize (World.setCell _ ⟨w.heap.size + 2, 3, none⟩ _) = W;intro e1 e2;exact bodyPost_ret (v := .tuple #[logV zL (.slice none 0 0), .int .i64 80]) (by simp [results, Tryz.results207, go_sem, cell_at e1, logV, logA, zL]) rfl ⟨_, rfl, own_nil _ _, e2⟩
  ·rw [if_neg hc];have hcI : cm ≤ pi + n := by omega
   by_cases het : et < mt
   ·rw [if_pos het]
    go_enter Tryz.func207, Tryz.ntmps207
    go_wp2_with fail
    refine HPS.out.mono ?_;rintro e w1 ⟨rfl, hbl⟩;dsimp only;have T1 := hideIt (T0.out.keep hbl);obtain ⟨c0, c1, c2, c3, d0, d1⟩ := T1.out.cells;have ff := T1.out.free;have T2 := hideIt (T1.out.setL (l.take q) (.slice a q c)).drew;simp only at c0 c1 c2 c3;clear hbl T0 HPS
    go_upto_region 10 with fail
    have hzi : 0 < es.length - n := by omega
    have nf := fld23 mi mt;have T2k := hideIt (HKT.out _ T2.out.bel);refine wp_region_held_drew (S := fun w' => w'.cell? ⟨w.heap.size, 0, none⟩ = some (.int .i64 bi) ∧ w'.cell? ⟨w.heap.size, 1, none⟩ = some (.int .i64 bt) ∧ w'.cell? ⟨w.heap.size, 2, none⟩ = some (.slice a q c) ∧ w'.cell? ⟨w.heap.size, 3, none⟩ = some (.int .i64 cm) ∧ w'.cell? ⟨kb, koff + n * 3, none⟩ = some (.int .i64 et)) (by kernel_rfl) ⟨T2.out.four.1, T2.out.four.2.1, T2.out.four.2.2.1, T2.out.four.2.2.2, T2k.out⟩ (fun hHeld => ?_);generalize (w1.setCell ⟨w.heap.size, 2, none⟩ (.slice a q c)).drew = w2 at *;clear T1 c0 c1 c2 c3 d0 d1 ff;refine wpAnyH_take (i := 0) (oi := ⟨some 45, _, _, _, _, _⟩) (v := ?_) rfl (by kernel_rfl) (by kernel_rfl) (by kernel_rfl) (fun _ _ _ h => h) (Or.inl ⟨by rfl, ?_⟩) (by assumption) ?_
    rotate_left
    ·intro w5 hSw
     (try dsimp only at hSw)
     go_simp
     (try with_reducible rfl)
    try simp only [aP, aQ, aA, aB, aC]
    refine wpAnyH_take (i := 1) (oi := ⟨some 46, _, _, _, _, _⟩) (v := ?_) rfl (by kernel_rfl) (by kernel_rfl) (by kernel_rfl) (fun _ _ _ h => h) (Or.inl ⟨by rfl, ?_⟩) (by assumption) ?_
    rotate_left
    ·intro w5 hSw
     (try dsimp only at hSw)
     go_simp
     (try with_reducible rfl)
    try simp only [aP, aQ, aA, aB, aC]
    refine wpAnyH_take (i := 2) (oi := ⟨some 47, _, _, _, _, _⟩) (v := ?_) rfl (by kernel_rfl) (by kernel_rfl) (by kernel_rfl) (fun _ _ _ h => h) (Or.inl ⟨by rfl, ?_⟩) (by assumption) ?_
    rotate_left
    ·intro w5 hSw
     (try dsimp only at hSw)
     go_simp
     (try with_reducible rfl)
    try simp only [aP, aQ, aA, aB, aC]
    refine wpAnyH_take (i := 3) (oi := ⟨some 48, _, _, _, _, _⟩) (v := ?_) rfl (by kernel_rfl) (by kernel_rfl) (by kernel_rfl) (fun _ _ _ h => h) (Or.inl ⟨by rfl, ?_⟩) (by assumption) ?_
    rotate_left
    ·intro w5 hSw
     (try dsimp only at hSw)
     go_simp
     (try with_reducible rfl)
    try simp only [aP, aQ, aA, aB, aC]
    refine wpAnyH_take (i := 4) (oi := ⟨some 49, _, _, _, _, _⟩) (v := ?_) rfl (by kernel_rfl) (by kernel_rfl) (by kernel_rfl) (fun _ _ _ h => h) (Or.inl ⟨by rfl, ?_⟩) (by assumption) ?_
    rotate_left
    ·intro w5 hSw
     (try dsimp only at hSw)
     go_simp
     (try with_reducible rfl)
    try simp only [aP, aQ, aA, aB, aC]
    refine wpAnyH_ready (rs := [5]) (by kernel_rfl) (by simp) ?_;refine AllReadyH.cons (o := ⟨some 50, _, _, _, _, _⟩) rfl (fun K hK => ?_) AllReadyH.nil;go_simp
    go_at_call 126
    refine (HLM.out _ T2.out.bel).mono ?_;rintro e w3 ⟨rfl, hbl⟩;have T3 := hideIt (T2.out.keep hbl);have T3k := hideIt (HKT.out _ T3.out.bel);refine hK.out _ _ ⟨T3.out.four.1, T3.out.four.2.1, T3.out.four.2.2.1, T3.out.four.2.2.2, T3k.out⟩ (fun hHeld => ?_);clear hK K hbl T2 T2k HLM
    try simp only [aP, aQ, aA, aB, aC]
    refine wpAnyH_take (i := 6) (oi := ⟨some 51, _, _, _, _, _⟩) (v := ?_) rfl (by kernel_rfl) (by kernel_rfl) (by kernel_rfl) (fun _ _ _ h => h) (Or.inl ⟨by rfl, ?_⟩) (by assumption) ?_
    rotate_left
    ·intro w5 hSw
     (try dsimp only at hSw)
     go_simp
     (try with_reducible rfl)
    try simp only [aP, aQ, aA, aB, aC]
    refine wpAnyH_take (i := 7) (oi := ⟨some 52, _, _, _, _, _⟩) (v := ?_) rfl (by kernel_rfl) (by kernel_rfl) (by kernel_rfl) (fun _ _ _ h => h) (Or.inl ⟨by rfl, ?_⟩) (by assumption) ?_
    rotate_left
    ·intro w5 hSw
     (try dsimp only at hSw)
     go_simp
     (try with_reducible rfl)
    try simp only [aP, aQ, aA, aB, aC]
    refine wpAnyH_done (by kernel_rfl) ?_ _;clear hHeld;obtain ⟨c0, c1, c2, c3, d0, d1⟩ := T3.out.cells;simp only at c0 c1 c2 c3;obtain ⟨z0, z1, z2, z3, zf⟩ := T3.out.zero;have HP := T3.out.put (.int .i64 0) (.int .i64 0) (.slice none 0 0) (.int .i64 0);clear T3 T3k HA HLI HQP HKP HKT nf;obtain ⟨e1, e2⟩ := HP.out;clear HP;go_wp2
    revert e1 e2
    generalize (World.setCell _ ⟨w.heap.size + 2, 3, none⟩ _) = W;intro e1 e2;exact bodyPost_ret (v := .tuple #[logV zL (.slice none 0 0), .int .i64 80]) (by simp [results, Tryz.results207, go_sem, cell_at e1, logV, logA, zL]) rfl ⟨_, rfl, own_nil _ _, e2⟩
   ·rw [if_neg het];have hetI : mt ≤ et := by omega
    have hb2 : bi ≤ 1000000 := by omega
    have hb3 : 0 ≤ bi := by omega
    clear het
    by_cases hl1 : 400 < q + (es.length - n)
    ·rw [if_pos (.inl hl1)];have hl1I : (400 : Int) < (q : Int) + ((es.length - n : Nat) : Int) := by omega
     have hwl : IntKind.i64.wrap ((q : Int) + ((es.length - n : Nat) : Int)) = (q : Int) + ((es.length - n : Nat) : Int) := by rw [IntKind.wrap_i64]; omega
     go_enter Tryz.func207, Tryz.ntmps207
     go_wp2_with fail
     refine HPS.out.mono ?_;rintro e w1 ⟨rfl, hbl⟩;dsimp only;have T1 := hideIt (T0.out.keep hbl);obtain ⟨c0, c1, c2, c3, d0, d1⟩ := T1.out.cells;have ff := T1.out.free;have T2 := hideIt (T1.out.setL (l.take q) (.slice a q c)).drew;simp only at c0 c1 c2 c3;clear hbl T0 HPS
     go_upto_region 10 with fail
     have hzi : 0 < es.length - n := by omega
     have nf := fld23 mi mt;have T2k := hideIt (HKT.out _ T2.out.bel);refine wp_region_held_drew (S := fun w' => w'.cell? ⟨w.heap.size, 0, none⟩ = some (.int .i64 bi) ∧ w'.cell? ⟨w.heap.size, 1, none⟩ = some (.int .i64 bt) ∧ w'.cell? ⟨w.heap.size, 2, none⟩ = some (.slice a q c) ∧ w'.cell? ⟨w.heap.size, 3, none⟩ = some (.int .i64 cm) ∧ w'.cell? ⟨kb, koff + n * 3, none⟩ = some (.int .i64 et)) (by kernel_rfl) ⟨T2.out.four.1, T2.out.four.2.1, T2.out.four.2.2.1, T2.out.four.2.2.2, T2k.out⟩ (fun hHeld => ?_);generalize (w1.setCell ⟨w.heap.size, 2, none⟩ (.slice a q c)).drew = w2 at *;clear T1 c0 c1 c2 c3 d0 d1 ff;refine wpAnyH_take (i := 0) (oi := ⟨some 45, _, _, _, _, _⟩) (v := ?_) rfl (by kernel_rfl) (by kernel_rfl) (by kernel_rfl) (fun _ _ _ h => h) (Or.inl ⟨by rfl, ?_⟩) (by assumption) ?_
     rotate_left
     ·intro w5 hSw
      (try dsimp only at hSw)
      go_simp
      (try with_reducible rfl)
     try simp only [aP, aQ, aA, aB, aC]
     refine wpAnyH_take (i := 1) (oi := ⟨some 46, _, _, _, _, _⟩) (v := ?_) rfl (by kernel_rfl) (by kernel_rfl) (by kernel_rfl) (fun _ _ _ h => h) (Or.inl ⟨by rfl, ?_⟩) (by assumption) ?_
     rotate_left
     ·intro w5 hSw
      (try dsimp only at hSw)
      go_simp
      (try with_reducible rfl)
     try simp only [aP, aQ, aA, aB, aC]
     refine wpAnyH_take (i := 2) (oi := ⟨some 47, _, _, _, _, _⟩) (v := ?_) rfl (by kernel_rfl) (by kernel_rfl) (by kernel_rfl) (fun _ _ _ h => h) (Or.inl ⟨by rfl, ?_⟩) (by assumption) ?_
     rotate_left
     ·intro w5 hSw
      (try dsimp only at hSw)
      go_simp
      (try with_reducible rfl)
     try simp only [aP, aQ, aA, aB, aC]
     refine wpAnyH_take (i := 3) (oi := ⟨some 48, _, _, _, _, _⟩) (v := ?_) rfl (by kernel_rfl) (by kernel_rfl) (by kernel_rfl) (fun _ _ _ h => h) (Or.inl ⟨by rfl, ?_⟩) (by assumption) ?_
     rotate_left
     ·intro w5 hSw
      (try dsimp only at hSw)
      go_simp
      (try with_reducible rfl)
     try simp only [aP, aQ, aA, aB, aC]
     refine wpAnyH_take (i := 4) (oi := ⟨some 49, _, _, _, _, _⟩) (v := ?_) rfl (by kernel_rfl) (by kernel_rfl) (by kernel_rfl) (fun _ _ _ h => h) (Or.inl ⟨by rfl, ?_⟩) (by assumption) ?_
     rotate_left
     ·intro w5 hSw
      (try dsimp only at hSw)
      go_simp
      (try with_reducible rfl)
     try simp only [aP, aQ, aA, aB, aC]
     refine wpAnyH_ready (rs := [5]) (by kernel_rfl) (by simp) ?_;refine AllReadyH.cons (o := ⟨some 50, _, _, _, _, _⟩) rfl (fun K hK => ?_) AllReadyH.nil;go_simp
     go_at_call 126
     refine (HLM.out _ T2.out.bel).mono ?_;rintro e w3 ⟨rfl, hbl⟩;have T3 := hideIt (T2.out.keep hbl);have T3k := hideIt (HKT.out _ T3.out.bel);refine hK.out _ _ ⟨T3.out.four.1, T3.out.four.2.1, T3.out.four.2.2.1, T3.out.four.2.2.2, T3k.out⟩ (fun hHeld => ?_);clear hK K hbl T2 T2k HLM
     try simp only [aP, aQ, aA, aB, aC]
     refine wpAnyH_take (i := 6) (oi := ⟨some 51, _, _, _, _, _⟩) (v := ?_) rfl (by kernel_rfl) (by kernel_rfl) (by kernel_rfl) (fun _ _ _ h => h) (Or.inl ⟨by rfl, ?_⟩) (by assumption) ?_
     rotate_left
     ·intro w5 hSw
      (try dsimp only at hSw)
      go_simp
      (try with_reducible rfl)
     try simp only [aP, aQ, aA, aB, aC]
     refine wpAnyH_take (i := 7) (oi := ⟨some 52, _, _, _, _, _⟩) (v := ?_) rfl (by kernel_rfl) (by kernel_rfl) (by kernel_rfl) (fun _ _ _ h => h) (Or.inl ⟨by rfl, ?_⟩) (by assumption) ?_
     rotate_left
     ·intro w5 hSw
      (try dsimp only at hSw)
      go_simp
      (try with_reducible rfl)
     try simp only [aP, aQ, aA, aB, aC]
     refine wpAnyH_done (by kernel_rfl) ?_ _;clear hHeld;obtain ⟨c0, c1, c2, c3, d0, d1⟩ := T3.out.cells;simp only at c0 c1 c2 c3;obtain ⟨z0, z1, z2, z3, zf⟩ := T3.out.zero;have HP := T3.out.put (.int .i64 0) (.int .i64 0) (.slice none 0 0) (.int .i64 0);clear T3 T3k HA HLI HQP HKP HKT nf;obtain ⟨e1, e2⟩ := HP.out;clear HP;go_wp2
     revert e1 e2
     generalize (World.setCell _ ⟨w.heap.size + 2, 3, none⟩ _) = W;intro e1 e2;exact bodyPost_ret (v := .tuple #[logV zL (.slice none 0 0), .int .i64 2]) (by simp [results, Tryz.results207, go_sem, cell_at e1, logV, logA, zL]) rfl ⟨_, rfl, own_nil _ _, e2⟩
    ·have hl1I : (q : Int) + ((es.length - n : Nat) : Int) ≤ 400 := by omega
     have hwl : IntKind.i64.wrap ((q : Int) + ((es.length - n : Nat) : Int)) = (q : Int) + ((es.length - n : Nat) : Int) := by rw [IntKind.wrap_i64]; omega
     have hwm : IntKind.i64.wrap (bi + (q : Int) + ((es.length - n : Nat) : Int)) = bi + (q : Int) + ((es.length - n : Nat) : Int) := by rw [IntKind.wrap_i64]; omega
     by_cases hl2 : 1000000 < bi + q + ((es.length - n : Nat) : Int)
     ·rw [if_pos (.inr hl2)]
      go_enter Tryz.func207, Tryz.ntmps207
      go_wp2_with fail
      refine HPS.out.mono ?_;rintro e w1 ⟨rfl, hbl⟩;dsimp only;have T1 := hideIt (T0.out.keep hbl);obtain ⟨c0, c1, c2, c3, d0, d1⟩ := T1.out.cells;have ff := T1.out.free;have T2 := hideIt (T1.out.setL (l.take q) (.slice a q c)).drew;simp only at c0 c1 c2 c3;clear hbl T0 HPS
      go_upto_region 10 with fail
      have hzi : 0 < es.length - n := by omega
      have nf := fld23 mi mt;have T2k := hideIt (HKT.out _ T2.out.bel);refine wp_region_held_drew (S := fun w' => w'.cell? ⟨w.heap.size, 0, none⟩ = some (.int .i64 bi) ∧ w'.cell? ⟨w.heap.size, 1, none⟩ = some (.int .i64 bt) ∧ w'.cell? ⟨w.heap.size, 2, none⟩ = some (.slice a q c) ∧ w'.cell? ⟨w.heap.size, 3, none⟩ = some (.int .i64 cm) ∧ w'.cell? ⟨kb, koff + n * 3, none⟩ = some (.int .i64 et)) (by kernel_rfl) ⟨T2.out.four.1, T2.out.four.2.1, T2.out.four.2.2.1, T2.out.four.2.2.2, T2k.out⟩ (fun hHeld => ?_);generalize (w1.setCell ⟨w.heap.size, 2, none⟩ (.slice a q c)).drew = w2 at *;clear T1 c0 c1 c2 c3 d0 d1 ff;refine wpAnyH_take (i := 0) (oi := ⟨some 45, _, _, _, _, _⟩) (v := ?_) rfl (by kernel_rfl) (by kernel_rfl) (by kernel_rfl) (fun _ _ _ h => h) (Or.inl ⟨by rfl, ?_⟩) (by assumption) ?_
      rotate_left
      ·intro w5 hSw
       (try dsimp only at hSw)
       go_simp
       (try with_reducible rfl)
      try simp only [aP, aQ, aA, aB, aC]
      refine wpAnyH_take (i := 1) (oi := ⟨some 46, _, _, _, _, _⟩) (v := ?_) rfl (by kernel_rfl) (by kernel_rfl) (by kernel_rfl) (fun _ _ _ h => h) (Or.inl ⟨by rfl, ?_⟩) (by assumption) ?_
      rotate_left
      ·intro w5 hSw
       (try dsimp only at hSw)
       go_simp
       (try with_reducible rfl)
      try simp only [aP, aQ, aA, aB, aC]
      refine wpAnyH_take (i := 2) (oi := ⟨some 47, _, _, _, _, _⟩) (v := ?_) rfl (by kernel_rfl) (by kernel_rfl) (by kernel_rfl) (fun _ _ _ h => h) (Or.inl ⟨by rfl, ?_⟩) (by assumption) ?_
      rotate_left
      ·intro w5 hSw
       (try dsimp only at hSw)
       go_simp
       (try with_reducible rfl)
      try simp only [aP, aQ, aA, aB, aC]
      refine wpAnyH_take (i := 3) (oi := ⟨some 48, _, _, _, _, _⟩) (v := ?_) rfl (by kernel_rfl) (by kernel_rfl) (by kernel_rfl) (fun _ _ _ h => h) (Or.inl ⟨by rfl, ?_⟩) (by assumption) ?_
      rotate_left
      ·intro w5 hSw
       (try dsimp only at hSw)
       go_simp
       (try with_reducible rfl)
      try simp only [aP, aQ, aA, aB, aC]
      refine wpAnyH_take (i := 4) (oi := ⟨some 49, _, _, _, _, _⟩) (v := ?_) rfl (by kernel_rfl) (by kernel_rfl) (by kernel_rfl) (fun _ _ _ h => h) (Or.inl ⟨by rfl, ?_⟩) (by assumption) ?_
      rotate_left
      ·intro w5 hSw
       (try dsimp only at hSw)
       go_simp
       (try with_reducible rfl)
      try simp only [aP, aQ, aA, aB, aC]
      refine wpAnyH_ready (rs := [5]) (by kernel_rfl) (by simp) ?_;refine AllReadyH.cons (o := ⟨some 50, _, _, _, _, _⟩) rfl (fun K hK => ?_) AllReadyH.nil;go_simp
      go_at_call 126
      refine (HLM.out _ T2.out.bel).mono ?_;rintro e w3 ⟨rfl, hbl⟩;have T3 := hideIt (T2.out.keep hbl);have T3k := hideIt (HKT.out _ T3.out.bel);refine hK.out _ _ ⟨T3.out.four.1, T3.out.four.2.1, T3.out.four.2.2.1, T3.out.four.2.2.2, T3k.out⟩ (fun hHeld => ?_);clear hK K hbl T2 T2k HLM
      try simp only [aP, aQ, aA, aB, aC]
      refine wpAnyH_take (i := 6) (oi := ⟨some 51, _, _, _, _, _⟩) (v := ?_) rfl (by kernel_rfl) (by kernel_rfl) (by kernel_rfl) (fun _ _ _ h => h) (Or.inl ⟨by rfl, ?_⟩) (by assumption) ?_
      rotate_left
      ·intro w5 hSw
       (try dsimp only at hSw)
       go_simp
       (try with_reducible rfl)
      try simp only [aP, aQ, aA, aB, aC]
      refine wpAnyH_take (i := 7) (oi := ⟨some 52, _, _, _, _, _⟩) (v := ?_) rfl (by kernel_rfl) (by kernel_rfl) (by kernel_rfl) (fun _ _ _ h => h) (Or.inl ⟨by rfl, ?_⟩) (by assumption) ?_
      rotate_left
      ·intro w5 hSw
       (try dsimp only at hSw)
       go_simp
       (try with_reducible rfl)
      try simp only [aP, aQ, aA, aB, aC]
      refine wpAnyH_done (by kernel_rfl) ?_ _;clear hHeld;obtain ⟨c0, c1, c2, c3, d0, d1⟩ := T3.out.cells;simp only at c0 c1 c2 c3;clear HA HQP HKP HKT nf T3k
      go_wp2_with fail
      refine (HLI.out _ T3.out.bel).mono ?_;rintro e w4 ⟨rfl, rfl⟩;dsimp only;have T4 := hideIt (T3.out.keep (below1 w3 (.cells #[.int .i64 bi, .int .i64 bt, .slice a q c, .int .i64 cm] 36)));clear c0 c1 c2 c3 d0 d1;generalize w3.alloc (.cells #[.int .i64 bi, .int .i64 bt, .slice a q c, .int .i64 cm] 36) = w4 at *;obtain ⟨z0, z1, z2, z3, zf⟩ := T4.out.zero;have HP := T4.out.put (.int .i64 0) (.int .i64 0) (.slice none 0 0) (.int .i64 0);clear T3 T4 HLI;obtain ⟨e1, e2⟩ := HP.out;clear HP;go_wp2
      revert e1 e2
      generalize (World.setCell _ ⟨w.heap.size + 2, 3, none⟩ _) = W;intro e1 e2;exact bodyPost_ret (v := .tuple #[logV zL (.slice none 0 0), .int .i64 2]) (by simp [results, Tryz.results207, go_sem, cell_at e1, logV, logA, zL]) rfl ⟨_, rfl, own_nil _ _, e2⟩
     ·have hl2I : bi + q + ((es.length - n : Nat) : Int) ≤ 1000000 := by omega
      rw [if_neg (by omega)];replace HA := hideIt (HA.out (by omega))
      go_enter Tryz.func207, Tryz.ntmps207
      go_wp2_with fail
      refine HPS.out.mono ?_;rintro e w1 ⟨rfl, hbl⟩;dsimp only;have T1 := hideIt (T0.out.keep hbl);obtain ⟨c0, c1, c2, c3, d0, d1⟩ := T1.out.cells;have ff := T1.out.free;have T2 := hideIt (T1.out.setL (l.take q) (.slice a q c)).drew;simp only at c0 c1 c2 c3;clear hbl T0 HPS
      go_upto_region 10 with fail
      have hzi : 0 < es.length - n := by omega
      have nf := fld23 mi mt;have T2k := hideIt (HKT.out _ T2.out.bel);refine wp_region_held_drew (S := fun w' => w'.cell? ⟨w.heap.size, 0, none⟩ = some (.int .i64 bi) ∧ w'.cell? ⟨w.heap.size, 1, none⟩ = some (.int .i64 bt) ∧ w'.cell? ⟨w.heap.size, 2, none⟩ = some (.slice a q c) ∧ w'.cell? ⟨w.heap.size, 3, none⟩ = some (.int .i64 cm) ∧ w'.cell? ⟨kb, koff + n * 3, none⟩ = some (.int .i64 et)) (by kernel_rfl) ⟨T2.out.four.1, T2.out.four.2.1, T2.out.four.2.2.1, T2.out.four.2.2.2, T2k.out⟩ (fun hHeld => ?_);generalize (w1.setCell ⟨w.heap.size, 2, none⟩ (.slice a q c)).drew = w2 at *;clear T1 c0 c1 c2 c3 d0 d1 ff;refine wpAnyH_take (i := 0) (oi := ⟨some 45, _, _, _, _, _⟩) (v := ?_) rfl (by kernel_rfl) (by kernel_rfl) (by kernel_rfl) (fun _ _ _ h => h) (Or.inl ⟨by rfl, ?_⟩) (by assumption) ?_
      rotate_left
      ·intro w5 hSw
       (try dsimp only at hSw)
       go_simp
       (try with_reducible rfl)
      try simp only [aP, aQ, aA, aB, aC]
      refine wpAnyH_take (i := 1) (oi := ⟨some 46, _, _, _, _, _⟩) (v := ?_) rfl (by kernel_rfl) (by kernel_rfl) (by kernel_rfl) (fun _ _ _ h => h) (Or.inl ⟨by rfl, ?_⟩) (by assumption) ?_
      rotate_left
      ·intro w5 hSw
       (try dsimp only at hSw)
       go_simp
       (try with_reducible rfl)
      try simp only [aP, aQ, aA, aB, aC]
      refine wpAnyH_take (i := 2) (oi := ⟨some 47, _, _, _, _, _⟩) (v := ?_) rfl (by kernel_rfl) (by kernel_rfl) (by kernel_rfl) (fun _ _ _ h => h) (Or.inl ⟨by rfl, ?_⟩) (by assumption) ?_
      rotate_left
      ·intro w5 hSw
       (try dsimp only at hSw)
       go_simp
       (try with_reducible rfl)
      try simp only [aP, aQ, aA, aB, aC]
      refine wpAnyH_take (i := 3) (oi := ⟨some 48, _, _, _, _, _⟩) (v := ?_) rfl (by kernel_rfl) (by kernel_rfl) (by kernel_rfl) (fun _ _ _ h => h) (Or.inl ⟨by rfl, ?_⟩) (by assumption) ?_
      rotate_left
      ·intro w5 hSw
       (try dsimp only at hSw)
       go_simp
       (try with_reducible rfl)
      try simp only [aP, aQ, aA, aB, aC]
      refine wpAnyH_take (i := 4) (oi := ⟨some 49, _, _, _, _, _⟩) (v := ?_) rfl (by kernel_rfl) (by kernel_rfl) (by kernel_rfl) (fun _ _ _ h => h) (Or.inl ⟨by rfl, ?_⟩) (by assumption) ?_
      rotate_left
      ·intro w5 hSw
       (try dsimp only at hSw)
       go_simp
       (try with_reducible rfl)
      try simp only [aP, aQ, aA, aB, aC]
      refine wpAnyH_ready (rs := [5]) (by kernel_rfl) (by simp) ?_;refine AllReadyH.cons (o := ⟨some 50, _, _, _, _, _⟩) rfl (fun K hK => ?_) AllReadyH.nil;go_simp
      go_at_call 126
      refine (HLM.out _ T2.out.bel).mono ?_;rintro e w3 ⟨rfl, hbl⟩;have T3 := hideIt (T2.out.keep hbl);have T3k := hideIt (HKT.out _ T3.out.bel);refine hK.out _ _ ⟨T3.out.four.1, T3.out.four.2.1, T3.out.four.2.2.1, T3.out.four.2.2.2, T3k.out⟩ (fun hHeld => ?_);clear hK K hbl T2 T2k HLM
      try simp only [aP, aQ, aA, aB, aC]
      refine wpAnyH_take (i := 6) (oi := ⟨some 51, _, _, _, _, _⟩) (v := ?_) rfl (by kernel_rfl) (by kernel_rfl) (by kernel_rfl) (fun _ _ _ h => h) (Or.inl ⟨by rfl, ?_⟩) (by assumption) ?_
      rotate_left
      ·intro w5 hSw
       (try dsimp only at hSw)
       go_simp
       (try with_reducible rfl)
      try simp only [aP, aQ, aA, aB, aC]
      refine wpAnyH_take (i := 7) (oi := ⟨some 52, _, _, _, _, _⟩) (v := ?_) rfl (by kernel_rfl) (by kernel_rfl) (by kernel_rfl) (fun _ _ _ h => h) (Or.inl ⟨by rfl, ?_⟩) (by assumption) ?_
      rotate_left
      ·intro w5 hSw
       (try dsimp only at hSw)
       go_simp
       (try with_reducible rfl)
      try simp only [aP, aQ, aA, aB, aC]
      refine wpAnyH_done (by kernel_rfl) ?_ _;clear hHeld;obtain ⟨c0, c1, c2, c3, d0, d1⟩ := T3.out.cells;simp only at c0 c1 c2 c3;clear HQP HKP HKT nf T3k
      go_wp2_with fail
      refine (HLI.out _ T3.out.bel).mono ?_;rintro e w4 ⟨rfl, rfl⟩;dsimp only;have T4 := hideIt (T3.out.keep (below1 w3 (.cells #[.int .i64 bi, .int .i64 bt, .slice a q c, .int .i64 cm] 36)));clear c0 c1 c2 c3 d0 d1;generalize w3.alloc (.cells #[.int .i64 bi, .int .i64 bt, .slice a q c, .int .i64 cm] 36) = w4 at *;obtain ⟨c0, c1, c2, c3, d0, d1⟩ := T4.out.cells;simp only at c0 c1 c2 c3;clear T3 HLI
      go_wp2_with fail
      refine (HA.out _ T4.out.bel).mono ?_;rintro e w5 ⟨r, rfl, ho, hbl⟩;dsimp only;have T5 := hideIt (T4.out.keep (below_via (below1 w4 _) hbl));obtain ⟨ra, rc, rfl⟩ := own_len ho;have T6 := hideIt (T5.out.setL D (.slice ra D.length rc));have HO := hideIt (own_base ho (show w.heap.size + 3 ≤ _ from by have := T4.out.size; simp; omega))
      clear ho hbl T4 HA c0 c1 c2 c3 d0 d1;obtain ⟨c0, c1, c2, c3, d0, d1⟩ := T5.out.cells;have ff := T5.out.free;simp only at c0 c1 c2 c3;have HP := T6.out.put (.int .i64 bi) (.int .i64 bt) (.slice ra D.length rc) (.int .i64 cm);obtain ⟨z0, z1, z2, z3, zf⟩ := T6.out.zero;obtain ⟨e1, e2⟩ := HP.out;have e3 := (own4 (R := w.heap.size + 2) (.int .i64 bi) (.int .i64 bt) (.slice ra D.length rc) (.int .i64 cm) (ownSet (b := w.heap.size) (j := 2) (.slice ra D.length rc) HO.out (by omega)) (by omega) w.heap.size (by omega)).out;clear HP HO;go_wp2
      revert e1 e2 e3
      generalize (World.setCell _ ⟨w.heap.size + 2, 3, none⟩ _) = W;intro e1 e2 e3;exact bodyPost_ret (v := .tuple #[logV ⟨bi, bt, D, cm⟩ (.slice ra D.length rc), .int .i64 0]) (by simp [results, Tryz.results207, go_sem, cell_at e1, logV, logA]) rfl ⟨_, rfl, e3, e2⟩
end Go.Proofs.YtcaehfkfohianaaGreat
