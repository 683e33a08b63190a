/- Texts of my own, laid together. -/
import Derived.Test.YtiinigifjdpicaaGreatDoorMc20
import Derived.Test.YtiinigifjdpicaaGreatDoorMc17
import Derived.Test.YtiinigifjdpicaaGreatDoorMc19
import Derived.Test.YtiinigifjdpicaaGreatDoorMc07
import Derived.Deep.QuietTactic
import Derived.BigQuiet
import Derived.Test.YtiinigifjdpicaaGreatDoorMc06
import Derived.Test.YtiinigifjdpicaaGreatDoorMc01
import Derived.Deep.RegionHeld3
namespace Go.Proofs.YtiinigifjdpicaaGreatDoor
open Go.RowKit
set_option linter.all false
theorem getD_self {α : Type} {l : List α} {i : Nat} {x d : α} (h : i < l.length) : (l.set i x).getD i d = x := by
 rw [List.getD_eq_getElem?_getD, List.getElem?_set_self h]
 rfl
theorem getD_other {α : Type} {l : List α} {i j : Nat} {x d : α} (h : i ≠ j) : (l.set i x).getD j d = l.getD j d := by
 simp only [List.getD_eq_getElem?_getD, List.getElem?_set_ne h]
theorem place_rest {L : LaneV} {acc s price n : Int} (h : (placeL L acc s price n false).2.2.2 = 0) (hf : (placeL L acc s price n false).2.1 = []) :
  (placeL L acc s price n false).2.2.1 = L.next ∧ (1 ≤ L.next ∧ L.next ≤ 1000000) ∧ chkB L = true ∧ (1 ≤ acc ∧ acc ≤ 8) ∧ (1 ≤ price ∧ price ≤ 1000000) ∧ (1 ≤ n ∧ n ≤ 1000000) ∧ (s = 1 ∧ (placeL L acc s price n false).1 = ⟨L.call, L.next + 1, laidL (ahB 1) ⟨L.next, acc, price, n⟩ L.bids, L.asks, L.owed⟩ ∨ s = 2 ∧ (placeL L acc s price n false).1 = ⟨L.call, L.next + 1, L.bids, laidL (ahB 2) ⟨L.next, acc, price, n⟩ L.asks, L.owed⟩) := by
 obtain ⟨hr, _, _⟩ := place_ok h;obtain ⟨g1, hs, g3, g4, g5, g6, g7, g8⟩ := refE_ok hr;have hm := chk_may g1;have e := placeL_eq h;rw [e] at hf ⊢;simp only at hf;have hT : plT L s ⟨L.next, acc, price, n⟩ = (sideL L (if s = 1 then 2 else 1), n, L.owed, []) := by
  unfold plT at hf ⊢
  split
  ·rfl
  ·rename_i hc
   rw [if_neg hc] at hf;exact tr_quiet hf
 rw [hT];refine ⟨rfl, ⟨hm.next.1, g7⟩, g1, g8, g3, g4, ?_⟩;unfold plR plL sideL
 rcases hs with rfl | rfl
 ·left;refine ⟨rfl, ?_⟩;simp only [if_true, show ¬ (2 : Int) = 1 by decide, if_false, Bool.false_eq_true];rw [if_pos (by omega)]
 ·right;refine ⟨rfl, ?_⟩;simp only [if_true, show ¬ (2 : Int) = 1 by decide, if_false, Bool.false_eq_true];rw [if_pos (by omega)]
theorem find_laid {r : OrdV → OrdV → Bool} {x z : OrdV} {l : List OrdV} (h : x.id ∉ idsL l) : ∃ i, (laidL r x l).findIdx? (outP x.acc x.id) = some i ∧ (laidL r x l).getD i z = x := by
 cases hc : (laidL r x l).findIdx? (outP x.acc x.id) with
 | none =>
  rw [List.findIdx?_eq_none_iff] at hc;have := hc x (laid_mem.2 (.inl rfl));unfold outP at this
  simp at this
 | some i =>
  rw [List.findIdx?_eq_some_iff_getElem] at hc;obtain ⟨h1, h2, _⟩ := hc;refine ⟨i, rfl, ?_⟩;rw [List.getD_eq_getElem?_getD, List.getElem?_eq_getElem h1]
  show (laidL r x l)[i] = x
  rcases laid_mem.1 (List.getElem_mem h1) with e | e
  ·exact e
  ·exfalso
   apply h
   unfold idsL;rw [List.mem_map];refine ⟨_, e, ?_⟩;unfold outP at h2;simp only [Bool.and_eq_true, decide_eq_true_eq] at h2;exact h2.1
theorem can_rest {L : LaneV} {acc s price n : Int} (hk : chkB L = true) (hs : s = 1 ∨ s = 2) : ∃ M', canF (if s = 1 then ⟨L.call, L.next + 1, laidL (ahB 1) ⟨L.next, acc, price, n⟩ L.bids, L.asks, L.owed⟩ else ⟨L.call, L.next + 1, L.bids, laidL (ahB 2) ⟨L.next, acc, price, n⟩ L.asks, L.owed⟩) acc L.next = some (M', ⟨L.next, acc, price, n⟩) ∧ M'.owed = oweL acc (brA s) (brN s ⟨L.next, acc, price, n⟩) L.owed := by
 have hB := (chk_bok L).1 hk;have i1 := ids_in hB.sb;have i2 := ids_in hB.sa
 rcases hs with rfl | rfl
 ·obtain ⟨i, e1, e2⟩ := find_laid (r := ahB 1) (x := ⟨L.next, acc, price, n⟩) (z := ⟨0, 0, 0, 0⟩) i1;simp only at e1;unfold canF;rw [if_pos rfl];simp only [e1, e2]
  exact ⟨_, rfl, rfl⟩
 ·obtain ⟨i, e1, e2⟩ := find_laid (r := ahB 2) (x := ⟨L.next, acc, price, n⟩) (z := ⟨0, 0, 0, 0⟩) i2;simp only at e1;unfold canF;rw [if_neg (show ¬ (2 : Int) = 1 by decide)];simp only [out_none (acc := acc) i1, e1, e2]
  exact ⟨_, rfl, rfl⟩
theorem sumA_mem : ∀ (l : List OweV), (∀ y ∈ l, 1 ≤ y.n) → ∀ y ∈ l, y.n ≤ sumA y.asset l
 | [], _ => by simp
 | x :: l, h => by
  intro y hy;have hx := h x (by simp);have hp : ∀ (a : Int) (k : List OweV), (∀ y ∈ k, 1 ≤ y.n) → 0 ≤ sumA a k := by
   intro a k
   induction k with
   | nil => intro _; exact Int.le_refl _
   | cons z k ih =>
    intro hz;have h1 := hz z (by simp);have h2 := ih (fun q hq => hz q (List.mem_cons_of_mem _ hq));unfold sumA at h2 ⊢;simp only [List.map_cons, List.sum_cons]
    split <;> omega
  rcases List.mem_cons.1 hy with rfl | hy
  ·have := hp y.asset l (fun q hq => h q (List.mem_cons_of_mem _ hq));unfold sumA at this ⊢;simp only [List.map_cons, List.sum_cons, if_true];omega
  ·have := sumA_mem l (fun q hq => h q (List.mem_cons_of_mem _ hq)) y hy;unfold sumA at this ⊢;simp only [List.map_cons, List.sum_cons]
   split <;> omega
theorem filter_modify {p : OweV → Bool} {f : OweV → OweV} : ∀ (l : List OweV) (i : Nat) (h : i < l.length), p l[i] = false → p (f l[i]) = false → (l.modify i f).filter p = l.filter p
 | [], i, h, _, _ => absurd h (by simp)
 | y :: l, 0, h, h1, h2 => by
  rw [List.modify_zero_cons];simp only [List.getElem_cons_zero] at h1 h2;rw [List.filter_cons_of_neg (by rw [h2]; decide), List.filter_cons_of_neg (by rw [h1]; decide)]
 | y :: l, i + 1, h, h1, h2 => by
  rw [List.modify_succ_cons];have ih := filter_modify l i (by simpa using h) (by simpa using h1) (by simpa using h2)
  by_cases c : p y = true
  ·rw [List.filter_cons_of_pos c, List.filter_cons_of_pos c, ih]
  ·rw [List.filter_cons_of_neg c, List.filter_cons_of_neg c, ih]
theorem lef_owe (acc asset n : Int) (l : List OweV) : lefA acc (oweL acc asset n l) = lefA acc l := by
 unfold lefA oweL
 split
 ·rename_i i hi
  rw [List.findIdx?_eq_some_iff_getElem] at hi;obtain ⟨h1, h2, _⟩ := hi;unfold oweP at h2;simp only [Bool.and_eq_true, decide_eq_true_eq] at h2;exact filter_modify l i h1 (by simp [h2.1]) (by simp [h2.1])
 ·unfold laidL;have e := List.takeWhile_append_dropWhile (p := (owB · ⟨acc, asset, n⟩)) (l := l);rw [List.filter_append, List.filter_cons_of_neg (by simp), ← List.filter_append, e]
theorem tks_owe {q : Nat} (hq : 1 ≤ q) {acc a n : Int} (ha : a = 0 ∨ a = 1) {l : List OweV} (h : ∀ y ∈ l, y.asset = 0 ∨ y.asset = 1) (h2 : ∀ y ∈ oweL acc a n l, y.asset = 0 ∨ y.asset = 1) (k : Nat) : amS q (takA acc (oweL acc a n l)) k = amS q (takA acc l) k + if (if a = 1 then q else 0) = k then n else 0 := by
 rw [tak_sum q hq acc _ k h2, tak_sum q hq acc _ k h, lef_owe, sumA_owe, sumA_owe]
 rcases ha with rfl | rfl
 ·simp only [if_true, show ¬ (0 : Int) = 1 by decide, if_false]
  by_cases d : k = 0
  ·subst d;simp only [if_true];rw [if_neg (by omega), if_neg (by omega)];omega
  ·have d2 : ¬ 0 = k := fun x => d x.symm
   simp only [if_neg d, if_neg d2]
   split <;> omega
 ·simp only [if_true, show ¬ (1 : Int) = 0 by decide, if_false]
  by_cases d : k = q
  ·subst d;simp only [if_true];rw [if_neg (by omega), if_neg (by omega)];omega
  ·have d2 : ¬ q = k := fun x => d x.symm
   simp only [if_neg d, if_neg d2]
   split <;> omega
def canQ (acct lane id : Int) : ReqV := ⟨4, acct, lane, 0, 0, 0, id, false, (0, 0), 0⟩
def netQ (acct : Int) : ReqV := ⟨7, acct, 0, 0, 0, 0, 0, false, (0, 0), 0⟩
theorem netQ_fits {acct : Int} (h : 1 ≤ acct ∧ acct ≤ 8) : Se.fitsB (netQ acct) = true := (Se.fitF7 rfl).2 ⟨h, rfl, rfl, rfl, rfl, rfl, rfl, rfl, rfl⟩
theorem und_plain {M : MdlV} {r : ReqV} (h : Inv 100000000 M) (hk : r.kind = 3) (hn : r.now = false) (h0 : (doM M r).2.code = 0) (hfl : (doM M r).2.fl = []) :
  (doM (doM M r).1 (canQ r.acct r.lane (doM M r).2.num)).2.code = 0 ∧ (doM (doM M r).1 (canQ r.acct r.lane (doM M r).2.num)).2.num = r.n ∧
  (doM (doM (doM M r).1 (canQ r.acct r.lane (doM M r).2.num)).1 (netQ r.acct)).2.code = 0 ∧ (doM M (netQ r.acct)).2.code = 0 ∧
  (doM (doM (doM M r).1 (canQ r.acct r.lane (doM M r).2.num)).1 (netQ r.acct)).1.a.length = 8 ∧ (doM M (netQ r.acct)).1.a.length = 8 ∧
  ∃ i : Nat, i < 8 ∧ r.acct = (i : Int) + 1 ∧ ((doM (doM (doM M r).1 (canQ r.acct r.lane (doM M r).2.num)).1 (netQ r.acct)).1.a.getD i Lg.zA).l = ((doM M (netQ r.acct)).1.a.getD i Lg.zA).l := by
 obtain ⟨hm, hf⟩ := do_fits h0;obtain ⟨h8, h3, hA, hL⟩ := may_in hm;have hF := (Se.fitF3 hk).1 hf;obtain ⟨i, hi⟩ : ∃ i : Nat, (r.acct - 1).toNat = i := ⟨_, rfl⟩;obtain ⟨j, hj⟩ : ∃ j : Nat, (r.lane - 1).toNat = j := ⟨_, rfl⟩;have hi8 : i < 8 := by omega
 have hj3 : j < 3 := by omega
 have I1 := inv_do r h (by omega) (by omega);have e := do_ord hm hf hk hi hj;have hLj := hL _ (lanD_mem (S := st0 M) (show j < M.l.length by omega));have hLJ : lanD (st0 M) j = M.l.getD j zLane := rfl;rw [hLJ] at hLj;rw [hn] at e;have d : (Lg.debL (M.a.getD i Lg.zA) (brA_ r) (brN_ r)).2 = 0 := by
  rw [e] at h0
  by_cases d : (Lg.debL (M.a.getD i Lg.zA) (brA_ r) (brN_ r)).2 = 0
  ·exact d
  ·rw [if_neg d] at h0
   simp at h0
 rw [if_pos d] at e;have p : (placeL (M.l.getD j zLane) r.acct r.side r.price r.n false).2.2.2 = 0 := by
  rw [e] at h0
  by_cases p : (placeL (M.l.getD j zLane) r.acct r.side r.price r.n false).2.2.2 = 0
  ·exact p
  ·rw [if_neg p] at h0
   simp at h0
 rw [if_pos p] at e;rw [e] at hfl I1 ⊢;simp only at hfl I1 ⊢;obtain ⟨q1, q2, q3, q4, q5, q6, q7⟩ := place_rest p hfl;have hp := placeL_may p;have hhold := hold_placed p;rw [q1];generalize hLg : M.l.getD j zLane = L at *;obtain ⟨P, hP⟩ : ∃ P, P = (placeL L r.acct r.side r.price r.n false).1 := ⟨_, rfl⟩;rw [← hP] at I1 q7 hp hhold ⊢;clear hP e h0 hfl;have hs : r.side = 1 ∨ r.side = 2 := by omega
 obtain ⟨M', c1, c2⟩ := can_rest (acc := r.acct) (price := r.price) (n := r.n) q3 hs;have hPe : P = (if r.side = 1 then ⟨L.call, L.next + 1, laidL (ahB 1) ⟨L.next, r.acct, r.price, r.n⟩ L.bids, L.asks, L.owed⟩ else ⟨L.call, L.next + 1, L.bids, laidL (ahB 2) ⟨L.next, r.acct, r.price, r.n⟩ L.asks, L.owed⟩) := by
  rcases q7 with ⟨s, x⟩ | ⟨s, x⟩
  ·rw [if_pos s, x]
  ·rw [if_neg (by omega), x]
 rw [← hPe] at c1;have hPl := I1.lan hj3;simp only at hPl;rw [getD_self (by omega)] at hPl;have how : OwOk M'.owed := by
  rw [c2];refine owok_owe (owed_owok ((chk_bok _).1 q3).ow) q4 ?_ ?_
  ·unfold brA; split <;> omega
  ·unfold brN
   simp only
   split
   ·have := mul_bd q5 q6;have : 1 * 1 ≤ r.price * r.n := Int.mul_le_mul q5.1 q6.1 (by omega) (by omega);omega
   ·exact q6.1
 have hsums : sumA 0 M'.owed ≤ 101000000 ∧ sumA 1 M'.owed ≤ 101000000 := by
  have hLb := hol_bd q3;have hmL := chk_may q3;have b1 := sumP_bd _ hmL.tb;have b2 := sumQ_bd _ hmL.ta;have hh1 := hhold.1;have hh2 := hhold.2;have x1 := hPl.2.1.2;have x2 := hPl.2.2.2;rw [c2, sumA_owe, sumA_owe];unfold holM at hh1 x1 hLb;unfold holG at hh2 x2 hLb;have k0 := sumA_bd 0 _ hmL.ow.2;have k1 := sumA_bd 1 _ hmL.ow.2;have p1 := sumP_bd _ (chk_may hp).tb;have p2 := sumQ_bd _ (chk_may hp).ta
  rcases hs with s | s
  ·rw [if_pos s] at hh1 hh2;have e1 : brA r.side = 0 := by unfold brA; rw [if_pos s]
   have e2 : brN r.side ⟨L.next, r.acct, r.price, r.n⟩ = r.price * r.n := by unfold brN; rw [if_pos s]
   rw [e1, e2];simp only [if_true, show ¬ (0 : Int) = 1 by decide, if_false];omega
  ·have s2 : ¬ r.side = 1 := by omega
   rw [if_neg s2] at hh1 hh2;have e1 : brA r.side = 1 := by unfold brA; rw [if_neg s2]
   have e2 : brN r.side ⟨L.next, r.acct, r.price, r.n⟩ = r.n := by unfold brN; rw [if_neg s2]
   rw [e1, e2];simp only [if_true, show ¬ (1 : Int) = 0 by decide, if_false];omega
 have hov : overB M'.owed = false := by
  unfold overB;rw [List.any_eq_false];intro y hy;have y1 := how.2 y hy;have y2 := sumA_mem M'.owed (fun z hz => (how.2 z hz).2.2) y hy;simp only [decide_eq_true_eq]
  rcases (by omega : y.asset = 0 ∨ y.asset = 1) with f | f
  ·rw [f] at y2; omega
  ·rw [f] at y2; omega
 have hcan : canR P r.acct L.next = (M', r.n, 0) := by
  unfold canR;rw [if_pos hp, c1]
  simp only
  rw [if_neg (by rw [hov]; decide)]
 have hfc : Se.fitsB (canQ r.acct r.lane L.next) = true := (Se.fitF4 rfl).2 ⟨q4, hF.2.1, rfl, rfl, rfl, q2, rfl, rfl, rfl⟩;have e2 := do_lan (M := ⟨M.a.set i (Lg.debL (M.a.getD i Lg.zA) (brA_ r) (brN_ r)).1, M.l.set j P⟩) (r := canQ r.acct r.lane L.next) I1.may hfc (.inl rfl) hj;have s2 : stLan (canQ r.acct r.lane L.next) j (canQ r.acct r.lane L.next).lane (st0 ⟨M.a.set i (Lg.debL (M.a.getD i Lg.zA) (brA_ r) (brN_ r)).1, M.l.set j P⟩) = ({st0 ⟨M.a.set i (Lg.debL (M.a.getD i Lg.zA) (brA_ r) (brN_ r)).1, M.l.set j P⟩ with l := M.l.set j M', num := r.n}, 0) := by
  unfold stLan;rw [if_neg (by show ¬ (4 : Int) = 3; decide), if_pos (show (canQ r.acct r.lane L.next).kind = 4 from rfl)]
  have g : lanD (st0 ⟨M.a.set i (Lg.debL (M.a.getD i Lg.zA) (brA_ r) (brN_ r)).1, M.l.set j P⟩) j = P := getD_self (by omega);rw [g]
  show ((_ : StV), (canR P r.acct L.next).2.2) = _
  rw [show canR P (canQ r.acct r.lane L.next).acct (canQ r.acct r.lane L.next).n = (M', r.n, 0) from hcan, hcan]
  show ({st0 _ with l := (M.l.set j P).set j M', num := r.n}, (0 : Int)) = _
  rw [List.set_set]
 rw [s2] at e2;simp only [if_true] at e2;have I2 := inv_do (canQ r.acct r.lane L.next) I1 (by omega) (by omega);rw [e2] at I2 ⊢;simp only at I2 ⊢;refine ⟨trivial, trivial, ?_⟩;have hfn := netQ_fits q4;obtain ⟨n1, n2, n3, n4, n5, n6⟩ := do_net I2 (by omega) rfl hfn;obtain ⟨m1, m2, m3, m4, m5, m6⟩ := do_net h (by omega) rfl hfn;rw [n1, m1];obtain ⟨y8, _, _, _⟩ := may_in n6;obtain ⟨z8, _, _, _⟩ := may_in m6;refine ⟨rfl, rfl, y8, z8, i, hi8, by omega, ?_⟩;unfold netM;have hacc : ((netQ r.acct).acct - 1).toNat = i := hi;rw [hacc] at n3 n4 m3 m4 ⊢;simp only at n3 n4 ⊢;have q1 : ∀ X Y, ((M.a.set i X).set i Y).getD i Lg.zA = Y := fun X Y => getD_self (by rw [List.length_set]; omega)
 have q2 : ∀ X, (M.a.set i X).getD i Lg.zA = X := fun X => getD_self (by omega)
 simp only [q1, q2] at n3 n4 ⊢;refine Lg.uniq _ _ (-1) (Lg.accB_in n3).1 (Lg.accB_in m3).1 (fun a ha => ?_);obtain ⟨k, rfl⟩ : ∃ k : Nat, a = k := Int.eq_ofNat_of_zero_le ha.1;rw [(n4 k (by omega)).2, (m4 k (by omega)).2, (deb_acc d).2.1 k ha];have hl3 : r.lane = ((j + 1 : Nat) : Int) := by omega
 have t1 : tkS (j + 1) r.acct M' k = tkS (j + 1) r.acct L k + if (k : Int) = brA_ r then brN_ r else 0 := by
  unfold tkS;rw [c2, tks_owe (by omega) (by unfold brA; split <;> omega) (fun y hy => (owe_mem q3 y hy).2.1) (fun y hy => by
   rw [← c2] at hy;have := how.2 y hy
   omega)]
  congr 1
  unfold brA brN brA_ brN_
  simp only
  by_cases s : r.side = 1
  ·simp only [if_pos s, show ¬ (0 : Int) = 1 by decide, if_false]
   by_cases g : k = 0
   ·rw [if_pos g.symm, if_pos (by omega)]
   ·rw [if_neg (fun x => g x.symm), if_neg (by omega)]
  ·simp only [if_neg s, if_true];rw [hl3]
   by_cases g : k = j + 1
   ·rw [if_pos g.symm, if_pos (by omega)]
   ·rw [if_neg (fun x => g x.symm), if_neg (by omega)]
 have t2 : netS ⟨M.a.set i (Lg.debL (M.a.getD i Lg.zA) (brA_ r) (brN_ r)).1, M.l.set j M'⟩ r.acct k = netS M r.acct k + if (k : Int) = brA_ r then brN_ r else 0 := by
  unfold netS
  simp only
  rcases (by omega : j = 0 ∨ j = 1 ∨ j = 2) with rfl | rfl | rfl
  ·have t2 : tkS 1 r.acct M' k = tkS 1 r.acct L k + if (k : Int) = brA_ r then brN_ r else 0 := t1
   rw [getD_self (by omega), getD_other (by decide), getD_other (by decide), t2, hLg];omega
  ·have t2 : tkS 2 r.acct M' k = tkS 2 r.acct L k + if (k : Int) = brA_ r then brN_ r else 0 := t1
   rw [getD_self (by omega), getD_other (by decide), getD_other (by decide), t2, hLg];omega
  ·have t2 : tkS 3 r.acct M' k = tkS 3 r.acct L k + if (k : Int) = brA_ r then brN_ r else 0 := t1
   rw [getD_self (by omega), getD_other (by decide), getD_other (by decide), t2, hLg];omega
 show Lg.balL (M.a.getD i Lg.zA).l k - (if (k : Int) = brA_ r then brN_ r else 0) + netS ⟨M.a.set i (Lg.debL (M.a.getD i Lg.zA) (brA_ r) (brN_ r)).1, M.l.set j M'⟩ r.acct k = Lg.balL (M.a.getD i Lg.zA).l k + netS M r.acct k
 rw [t2];omega
def lq1 : ReqV := ⟨1, 1, 0, 0, 0, 0, 100, false, (0, 0), 0⟩
def lq2 : ReqV := ⟨1, 2, 0, 1, 0, 0, 5, false, (0, 0), 0⟩
def lq3 : ReqV := ⟨3, 2, 1, 0, 2, 10, 5, false, (0, 0), 0⟩
def lq4 : ReqV := ⟨3, 1, 1, 0, 1, 12, 5, false, (0, 0), 0⟩
def lq5 : ReqV := ⟨7, 1, 0, 0, 0, 0, 0, false, (0, 0), 0⟩
def lq6 : ReqV := ⟨2, 1, 0, 0, 0, 0, 41, false, (0, 0), 0⟩
def lm1 : MdlV := (doM newM lq1).1
def lm2 : MdlV := (doM lm1 lq2).1
def lm3 : MdlV := (doM lm2 lq3).1
def lm4 : MdlV := (doM lm3 lq4).1
theorem lv_one : (doM newM lq1).2.code = 0 := by kernel_rfl
theorem lv_two : (doM lm1 lq2).2.code = 0 := by kernel_rfl
theorem lv_three : (doM lm2 lq3).2.num = 1 := by kernel_rfl
theorem lv_four : (doM lm3 lq4).2.num = 2 ∧ (doM lm3 lq4).2.fl.length = 1 := ⟨by kernel_rfl, by kernel_rfl⟩
theorem lv_five : (doM lm4 lq5).2.am.map (·.n) = [10, 5] := by kernel_rfl
theorem lv_six : (doM lm4 lq6).2.code = 6 := by kernel_rfl
theorem map_two {l : List AmtV} {x y : Int} (h : l.map (·.n) = [x, y]) : ∃ i j, l = [⟨i, x⟩, ⟨j, y⟩] := by
 match l, h with
 | [⟨i, a⟩, ⟨j, b⟩], h =>
  simp only [List.map_cons, List.map_nil, List.cons.injEq, and_true] at h;obtain ⟨rfl, rfl⟩ := h
  exact ⟨i, j, rfl⟩
def DoH (M : MdlV) (r : ReqV) (Z : MdlV × AnsV) : Prop := ∀ va vl W, Mdl W va vl M → Se.Forms W → Calls Tryz.prog 10 #[.agg #[va, vl], .agg (Se.reqC r)] W (DoBack Z W)
abbrev ansC (A : AnsV) (f1 : Option Addr) (f2 : Nat) (g1 : Option Addr) (g2 : Nat) : Array Value := #[.int .i64 A.code, .int .i64 A.num, .slice f1 A.am.length f2, .slice g1 A.fl.length g2]
theorem lv_step {K : Nat} {w0 W V : World} {M : MdlV} {Z : MdlV × AnsV} {a b a1 b1 f1 g1 : Option Addr} {c d c1 d1 f2 g2 : Nat} (hM : MB w0.heap.size K M a c b d W) (hB : Below w0.heap.size w0 W) (hK : w0.heap.size ≤ K) (ho : DoOwn W.heap.size V (.slice a1 Z.1.a.length c1) (.slice b1 Z.1.l.length d1) (.slice f1 Z.2.am.length f2) (.slice g1 Z.2.fl.length g2) Z ∧ Below W.heap.size W V) :
  ∀ G, G = ((V.setCell ⟨K, 0, none⟩ (.slice a1 Z.1.a.length c1)).setCell ⟨K, 1, none⟩ (.slice b1 Z.1.l.length d1)).alloc (.cells (ansC Z.2 f1 f2 g1 g2) 36) →
  MB w0.heap.size K Z.1 a1 c1 b1 d1 G ∧ G.heap[V.heap.size]? = some (.cells (ansC Z.2 f1 f2 g1 g2) 36 (0, 0)) ∧ Below w0.heap.size w0 G ∧ ∀ (A : Nat) (cs : Array Value), W.heap[A]? = some (Obj.cells cs 36 (0, 0)) → G.heap[A]? = some (Obj.cells cs 36 (0, 0)) := by
 rintro G rfl;have hkz := (Array.getElem?_eq_some_iff.1 hM.box).1;have hbx := (ho.2.block K hkz).trans hM.box;have k1 := heap_set hbx 0 (.slice a1 Z.1.a.length c1);obtain ⟨hz, -⟩ := puts2 V K 30 (.slice a1 Z.1.a.length c1) (.slice b1 Z.1.l.length d1) hbx;have hm2 := (ho.1.m.set (j := 0) (u := .slice a1 Z.1.a.length c1) hbx (by decide) (by decide) (by decide) (by decide) (by decide)).set (j := 1) (u := .slice b1 Z.1.l.length d1) k1 (by decide) (by decide) (by decide) (by decide) (by decide);have hb2 := below1 ((V.setCell ⟨K, 0, none⟩ (.slice a1 Z.1.a.length c1)).setCell ⟨K, 1, none⟩ (.slice b1 Z.1.l.length d1)) (.cells (ansC Z.2 f1 f2 g1 g2) 36);have hbb := belowSet (j := 1) (.slice b1 Z.1.l.length d1) (belowSet (j := 0) (.slice a1 Z.1.a.length c1) (below_via hB ho.2) hK) hK;have hh := heap_alloc_new ((V.setCell ⟨K, 0, none⟩ (.slice a1 Z.1.a.length c1)).setCell ⟨K, 1, none⟩ (.slice b1 Z.1.l.length d1)) (.cells (ansC Z.2 f1 f2 g1 g2) 36);rw [show ((V.setCell ⟨K, 0, none⟩ (.slice a1 Z.1.a.length c1)).setCell ⟨K, 1, none⟩ (.slice b1 Z.1.l.length d1)).heap.size = V.heap.size by simp] at hh;refine ⟨⟨blkK hz hb2, (hm2.keep hb2).base hB.size⟩, hh, below_via hbb hb2, fun A cs hA => ?_⟩;have hne := ty_ne hA hM.box (by decide);exact blkK (setOther _ (setOther _ ((ho.2.block A (Array.getElem?_eq_some_iff.1 hA).1).trans hA) hne) hne) hb2
set_option maxRecDepth 100000 in
set_option maxHeartbeats 32000000 in
theorem live_is (w : World) (hF : Se.Forms w) : Calls Tryz.prog 11 #[] w fun e w' => e = .returned (.bool true) ∧ Below w.heap.size w w' := by
 have H0 := hideIt (mnew_is w);have HFO := hideIt (fun W (hW : Below w.heap.size w W) => hF.keep hW);have HFC : Hid (∃ Z1 Z2 Z3 Z4 Z5 Z6, DoH newM lq1 Z1 ∧ DoH Z1.1 lq2 Z2 ∧ DoH Z2.1 lq3 Z3 ∧ DoH Z3.1 lq4 Z4 ∧ DoH Z4.1 lq5 Z5 ∧ DoH Z4.1 lq6 Z6 ∧ Z1.2.code = 0 ∧ Z2.2.code = 0 ∧ Z3.2.num = 1 ∧ Z4.2.num = 2 ∧ Z4.2.fl.length = 1 ∧ (∃ i j, Z5.2.am = [⟨i, 10⟩, ⟨j, 5⟩]) ∧ Z6.2.code = 6) :=
  ⟨doM newM lq1, doM lm1 lq2, doM lm2 lq3, doM lm3 lq4, doM lm4 lq5, doM lm4 lq6, fun _ _ _ h hf => do_is _ _ _ _ _ h hf, fun _ _ _ h hf => do_is _ _ _ _ _ h hf, fun _ _ _ h hf => do_is _ _ _ _ _ h hf, fun _ _ _ h hf => do_is _ _ _ _ _ h hf, fun _ _ _ h hf => do_is _ _ _ _ _ h hf, fun _ _ _ h hf => do_is _ _ _ _ _ h hf, lv_one, lv_two, lv_three, lv_four.1, lv_four.2, map_two lv_five, lv_six⟩
 obtain ⟨Z1, Z2, Z3, Z4, Z5, Z6, d1, d2, d3, d4, d5, d6, FC⟩ := HFC.out;clear HFC hF;have HC := hideIt FC;clear FC;unfold DoH at d1 d2 d3 d4 d5 d6;simp only [Se.reqC, lq1, lq2, lq3, lq4, lq5, lq6] at d1 d2 d3 d4 d5 d6;have D1 := hideIt d1;have D2 := hideIt d2;have D3 := hideIt d3;have D4 := hideIt d4;have D5 := hideIt d5;have D6 := hideIt d6;clear d1 d2 d3 d4 d5 d6
 go_enter Tryz.func11, Tryz.ntmps11
 go_wp2_with fail
 refine H0.out.mono ?_;rintro e w1 ⟨a, c, b, d, rfl, ho, hb⟩;dsimp only;have hb1 := below1 w1 (.cells #[.slice a newM.a.length c, .slice b newM.l.length d] 30);have HM : Hid (MB w.heap.size w1.heap.size newM a c b d (w1.alloc (.cells #[.slice a newM.a.length c, .slice b newM.l.length d] 30))) := ⟨heap_alloc_new w1 _, ho.keep hb1⟩;have HK := hideIt hb.size;have HB := hideIt (below_via hb hb1);clear hb hb1 ho H0
 go_upto_region 2 with fail
 generalize w1.alloc (.cells #[.slice a newM.a.length c, .slice b newM.l.length d] 30) = W1 at *;obtain ⟨⟨p0, p1⟩, pf, pz⟩ := at2 HM.out.box
 go_wp2_with fail
 refine (D1.out _ _ _ HM.out.md.at_ (HFO.out _ HB.out)).mono ?_;rintro e V1 ⟨a1, c1, b1, d1, f1, i1, g1, j1, rfl, HDO⟩;dsimp only;have hx5 := (HDO.out.2.block w1.heap.size pz).trans HM.out.box;clear p0 p1 pf;obtain ⟨⟨p0, p1⟩, pf, pz'⟩ := at2 hx5;obtain ⟨hm, ha1, hb, hk⟩ := lv_step HM.out HB.out HK.out HDO.out _ rfl
 go_upto_region 3 with fail
 generalize (World.alloc (World.setCell _ _ _) (.cells #[.int .i64 Z1.2.code, .int .i64 Z1.2.num, .slice f1 Z1.2.am.length i1, .slice g1 Z1.2.fl.length j1] 36)) = W2 at *;have HM' := hideIt hm;have HB' := hideIt hb;have HA1 := hideIt ha1;clear hm hb ha1 hk HM HB HDO hx5 p0 p1 pf pz pz' D1;have HM := HM';have HB := HB';clear HM' HB';obtain ⟨⟨p0, p1⟩, pf, pz⟩ := at2 HM.out.box
 go_wp2_with fail
 refine (D2.out _ _ _ HM.out.md.at_ (HFO.out _ HB.out)).mono ?_;rintro e V2 ⟨a2, c2, b2, d2, f2, i2, g2, j2, rfl, HDO⟩;dsimp only;have hx5 := (HDO.out.2.block w1.heap.size pz).trans HM.out.box;clear p0 p1 pf;obtain ⟨⟨p0, p1⟩, pf, pz'⟩ := at2 hx5;obtain ⟨hm, ha2, hb, hk⟩ := lv_step HM.out HB.out HK.out HDO.out _ rfl
 go_upto_region 4 with fail
 generalize (World.alloc (World.setCell _ _ _) (.cells #[.int .i64 Z2.2.code, .int .i64 Z2.2.num, .slice f2 Z2.2.am.length i2, .slice g2 Z2.2.fl.length j2] 36)) = W3 at *;have HM' := hideIt hm;have HB' := hideIt hb;have HA2 := hideIt ha2;have HA1' := hideIt (hk _ _ HA1.out);clear hm hb ha2 hk HM HB HDO hx5 p0 p1 pf pz pz' D2 HA1;have HA1 := HA1';clear HA1';have HM := HM';have HB := HB';clear HM' HB';obtain ⟨⟨p0, p1⟩, pf, pz⟩ := at2 HM.out.box
 go_wp2_with fail
 refine (D3.out _ _ _ HM.out.md.at_ (HFO.out _ HB.out)).mono ?_;rintro e V3 ⟨a3, c3, b3, d3, f3, i3, g3, j3, rfl, HDO⟩;dsimp only;have hx5 := (HDO.out.2.block w1.heap.size pz).trans HM.out.box;clear p0 p1 pf;obtain ⟨⟨p0, p1⟩, pf, pz'⟩ := at2 hx5;obtain ⟨hm, ha3, hb, hk⟩ := lv_step HM.out HB.out HK.out HDO.out _ rfl
 go_upto_region 5 with fail
 generalize (World.alloc (World.setCell _ _ _) (.cells #[.int .i64 Z3.2.code, .int .i64 Z3.2.num, .slice f3 Z3.2.am.length i3, .slice g3 Z3.2.fl.length j3] 36)) = W4 at *;have HM' := hideIt hm;have HB' := hideIt hb;have HA3 := hideIt ha3;have HA1' := hideIt (hk _ _ HA1.out);have HA2' := hideIt (hk _ _ HA2.out);clear hm hb ha3 hk HM HB HDO hx5 p0 p1 pf pz pz' D3 HA1 HA2;have HA1 := HA1';clear HA1';have HA2 := HA2';clear HA2';have HM := HM';have HB := HB';clear HM' HB';obtain ⟨⟨p0, p1⟩, pf, pz⟩ := at2 HM.out.box
 go_wp2_with fail
 refine (D4.out _ _ _ HM.out.md.at_ (HFO.out _ HB.out)).mono ?_;rintro e V4 ⟨a4, c4, b4, d4, f4, i4, g4, j4, rfl, HDO⟩;dsimp only;have hx5 := (HDO.out.2.block w1.heap.size pz).trans HM.out.box;clear p0 p1 pf;obtain ⟨⟨p0, p1⟩, pf, pz'⟩ := at2 hx5;obtain ⟨hm, ha4, hb, hk⟩ := lv_step HM.out HB.out HK.out HDO.out _ rfl
 go_upto_region 6 with fail
 generalize (World.alloc (World.setCell _ _ _) (.cells #[.int .i64 Z4.2.code, .int .i64 Z4.2.num, .slice f4 Z4.2.am.length i4, .slice g4 Z4.2.fl.length j4] 36)) = W5 at *;have HM' := hideIt hm;have HB' := hideIt hb;have HA4 := hideIt ha4;have HA1' := hideIt (hk _ _ HA1.out);have HA2' := hideIt (hk _ _ HA2.out);have HA3' := hideIt (hk _ _ HA3.out);clear hm hb ha4 hk HM HB HDO hx5 p0 p1 pf pz pz' D4 HA1 HA2 HA3;have HA1 := HA1';clear HA1';have HA2 := HA2';clear HA2';have HA3 := HA3';clear HA3';have HM := HM';have HB := HB';clear HM' HB';obtain ⟨⟨p0, p1⟩, pf, pz⟩ := at2 HM.out.box
 go_wp2_with fail
 refine (D5.out _ _ _ HM.out.md.at_ (HFO.out _ HB.out)).mono ?_;rintro e V5 ⟨a5, c5, b5, d5, f5, i5, g5, j5, rfl, HDO⟩;dsimp only;have hb2 := below2 V5 (.cells #[.slice a5 Z5.1.a.length c5, .slice b5 Z5.1.l.length d5] 30) (.cells (ansC Z5.2 f5 i5 g5 j5) 36);obtain ⟨t1, t2, t3⟩ := two_heap V5 (.cells #[.slice a5 Z5.1.a.length c5, .slice b5 Z5.1.l.length d5] 30) (.cells (ansC Z5.2 f5 i5 g5 j5) 36);have hbw := below_via HDO.out.2 hb2;have HM' := hideIt (HM.out.keep hbw);have HB' := hideIt (below_via HB.out hbw);have HA1' := hideIt (blkK HA1.out hbw);have HA2' := hideIt (blkK HA2.out hbw);have HA3' := hideIt (blkK HA3.out hbw);have HA4' := hideIt (blkK HA4.out hbw);have HA5 := hideIt t2;have HAM := hideIt (own_sgot (bytes := 16) (own_keep HDO.out.1.am hb2) HDO.out.1.sa);clear p0 p1 pf pz t1 t2 t3 HM HB HA1 HA2 HA3 HA4 HDO hb2 hbw D5;have HA1 := HA1';have HA2 := HA2';have HA3 := HA3';have HA4 := HA4';have HM := HM';have HB := HB';clear HM' HB' HA1' HA2' HA3' HA4';obtain ⟨⟨p0, p1⟩, pf, pz⟩ := at2 HM.out.box
 go_upto_region 7 with fail
 generalize (World.alloc (World.alloc _ _) (.cells #[.int .i64 Z5.2.code, .int .i64 Z5.2.num, .slice f5 Z5.2.am.length i5, .slice g5 Z5.2.fl.length j5] 36)) = W6 at *
 go_wp2_with fail
 refine (D6.out _ _ _ HM.out.md.at_ (HFO.out _ HB.out)).mono ?_;rintro e V6 ⟨a6, c6, b6, d6, f6, i6, g6, j6, rfl, HDO⟩;dsimp only;have hb2 := below2 V6 (.cells #[.slice a6 Z6.1.a.length c6, .slice b6 Z6.1.l.length d6] 30) (.cells (ansC Z6.2 f6 i6 g6 j6) 36);obtain ⟨t1, t2, t3⟩ := two_heap V6 (.cells #[.slice a6 Z6.1.a.length c6, .slice b6 Z6.1.l.length d6] 30) (.cells (ansC Z6.2 f6 i6 g6 j6) 36);have hbw := below_via HDO.out.2 hb2;have HB' := hideIt (below_via HB.out hbw);have q1 := cell_at (blkK HA1.out hbw) 0;have q2 := cell_at (blkK HA2.out hbw) 0;have q3 := cell_at (blkK HA3.out hbw) 1;have q4 := cell_at (blkK HA4.out hbw) 1;have q5 := cell_at (blkK HA4.out hbw) 3;have q6 := cell_at (blkK HA5.out hbw) 2;have q7 := cell_at t2 0;have ham := HAM.out.keep hbw;clear p0 p1 pf pz t1 t2 t3 HM HB HA1 HA2 HA3 HA4 HA5 HDO hb2 hbw D6 HFO HAM;unfold ansC at q1 q2 q3 q4 q5 q6 q7 ham HB'
 go_upto_region 8 with fail
 generalize (World.alloc (World.alloc _ _) (.cells #[.int .i64 Z6.2.code, .int .i64 Z6.2.num, .slice f6 Z6.2.am.length i6, .slice g6 Z6.2.fl.length j6] 36)) = W7 at *;obtain ⟨e1, e2, e3, e4, e5, ⟨mi, mj, e6⟩, e7⟩ := HC.out;rw [e6] at ham q6;obtain ⟨_, fa, fc, ef, _, hr⟩ := ham;simp only [Value.slice.injEq] at ef;obtain ⟨rfl, _, rfl⟩ := ef;obtain ⟨gm, om, rfl, _, hmc⟩ := hr (by simp);have m1 : World.cell? _ ⟨gm, om + 1, none⟩ = some (.int .i64 10) := hmc 1 (by simp);have m3 : World.cell? _ ⟨gm, om + 3, none⟩ = some (.int .i64 5) := hmc 3 (by simp);simp only [e1, e2, e3, e4, e5, e7, List.getElem?_toArray, List.getElem?_cons_zero, List.getElem?_cons_succ, List.length_cons, List.length_nil] at q1 q2 q3 q4 q5 q6 q7;clear hmc hr HC
 go_wp2;go_ret
 exact ⟨rfl, HB'.out⟩
structure B2 (w : World) (L : LaneV) (b a o b' a' o' : Value) (W : World) : Prop where
 b0 : W.heap[w.heap.size]? = some (.cells #[.bool L.call, .int .i64 L.next, b, a, o] 59 (0, 0))
 b1 : W.heap[w.heap.size + 1]? = some (.cells #[.bool L.call, .int .i64 L.next, b', a', o'] 59 (0, 0))
 bel : Below w.heap.size w W
theorem B2.keep {w W W' : World} {L : LaneV} {b a o b' a' o' : Value} (h : B2 w L b a o b' a' o' W) (hb : Below W.heap.size W W') : B2 w L b a o b' a' o' W' :=
 ⟨(hb.block _ (Array.getElem?_eq_some_iff.1 h.b0).1).trans h.b0, (hb.block _ (Array.getElem?_eq_some_iff.1 h.b1).1).trans h.b1, below_via h.bel hb⟩
theorem B2.first (w : World) (L : LaneV) (b a o b' a' o' : Value) : B2 w L b a o b' a' o' ((w.alloc (.cells #[.bool L.call, .int .i64 L.next, b, a, o] 59)).alloc (.cells #[.bool L.call, .int .i64 L.next, b', a', o'] 59)) :=
 ⟨(two_heap w _ _).1, (two_heap w _ _).2.1, below2 w _ _⟩
structure AB (B Q : Nat) (A : AnsV) (f : Option Addr) (fc : Nat) (g : Option Addr) (gc : Nat) (W : World) : Prop where
 box : W.heap[Q]? = some (.cells (ansC A f fc g gc) 36 (0, 0))
 am : W.ownsRow B 53 2 (.slice f A.am.length fc) A.am.length (celC amtE A.am)
 fl : W.ownsRow B 106 4 (.slice g A.fl.length gc) A.fl.length (celC filE A.fl)
 sa : A.am.length * 16 ≤ 140737488355328
 sf : A.fl.length * 32 ≤ 140737488355328
theorem AB.keep {B Q : Nat} {A : AnsV} {f g : Option Addr} {fc gc : Nat} {W W' : World} (h : AB B Q A f fc g gc W) (hb : Below W.heap.size W W') : AB B Q A f fc g gc W' := ⟨blkK h.box hb, own_keep h.am hb, own_keep h.fl hb, h.sa, h.sf⟩
theorem AB.set {B Q K j : Nat} {A : AnsV} {f g : Option Addr} {fc gc : Nat} {W : World} {cs : Array Value} {u : Value} (h : AB B Q A f fc g gc W) (hd : W.heap[K]? = some (.cells cs 30 (0, 0))) : AB B Q A f fc g gc (W.setCell ⟨K, j, none⟩ u) :=
 ⟨setOther _ h.box (ty_ne h.box hd (by decide)), own_cell h.am hd (by decide), own_cell h.fl hd (by decide), h.sa, h.sf⟩
theorem AB.amts {B Q : Nat} {A : AnsV} {f g : Option Addr} {fc gc : Nat} {W : World} (h : AB B Q A f fc g gc W) : Amts W (.slice f A.am.length fc) A.am := own_sgot (bytes := 16) h.am h.sa
theorem MB.set {B K K2 j : Nat} {M : MdlV} {a : Option Addr} {c : Nat} {b : Option Addr} {d : Nat} {W : World} {cs : Array Value} {u : Value} (h : MB B K M a c b d W) (hd : W.heap[K2]? = some (.cells cs 30 (0, 0))) (hne : K ≠ K2) : MB B K M a c b d (W.setCell ⟨K2, j, none⟩ u) :=
 ⟨setOther _ h.box hne, h.md.set hd (by decide) (by decide) (by decide) (by decide) (by decide)⟩
theorem do_nw {w0 W V : World} {Z : MdlV × AnsV} {a1 b1 f1 g1 : Option Addr} {c1 d1 f2 g2 : Nat} (hB : Below w0.heap.size w0 W) (ho : DoOwn W.heap.size V (.slice a1 Z.1.a.length c1) (.slice b1 Z.1.l.length d1) (.slice f1 Z.2.am.length f2) (.slice g1 Z.2.fl.length g2) Z ∧ Below W.heap.size W V) :
  ∀ G, G = (V.alloc (.cells #[.slice a1 Z.1.a.length c1, .slice b1 Z.1.l.length d1] 30)).alloc (.cells (ansC Z.2 f1 f2 g1 g2) 36) →
  MB w0.heap.size V.heap.size Z.1 a1 c1 b1 d1 G ∧ AB w0.heap.size (V.heap.size + 1) Z.2 f1 f2 g1 g2 G ∧ Below W.heap.size W G := by
 rintro G rfl;have hb2 := below2 V (.cells #[.slice a1 Z.1.a.length c1, .slice b1 Z.1.l.length d1] 30) (.cells (ansC Z.2 f1 f2 g1 g2) 36);obtain ⟨t1, t2, t3⟩ := two_heap V (.cells #[.slice a1 Z.1.a.length c1, .slice b1 Z.1.l.length d1] 30) (.cells (ansC Z.2 f1 f2 g1 g2) 36)
 exact ⟨⟨t1, (ho.1.m.keep hb2).base hB.size⟩, ⟨t2, own_base (own_keep ho.1.am hb2) hB.size, own_base (own_keep ho.1.fl hb2) hB.size, ho.1.sa, ho.1.sf⟩, below_via ho.2 hb2⟩
theorem MdlOwn.free_at {B g c i : Nat} {w : World} {vl : Value} {M : MdlV} (h : MdlOwn B w (.slice (some ⟨g, 0, none⟩) M.a.length c) vl M) (hi : i < M.a.length) : g < w.heap.size ∧ ∃ fa fc, w.cell? ⟨g, i * 2, none⟩ = some (.slice fa (M.a.getD i Lg.zA).l.length fc) ∧ Amts w (.slice fa (M.a.getD i Lg.zA).l.length fc) (M.a.getD i Lg.zA).l := by
 obtain ⟨⟨xs, hx, ha⟩, -⟩ := h;have hxl : M.a.length = xs.length := by rw [← hx, List.length_map]
 rw [hxl] at ha hi;obtain ⟨a', c', e, _, hr⟩ := ha.at_.two;simp only [Value.slice.injEq] at e;obtain ⟨rfl, _, rfl⟩ := e;obtain ⟨b, off, e2, hb, h0, h1⟩ := hr i hi;simp only [Option.some.injEq, Addr.mk.injEq] at e2;obtain ⟨rfl, rfl, _⟩ := e2;rw [Nat.zero_add] at h0;have e3 : M.a.getD i Lg.zA = (xs[i]).v := by
  rw [← hx, List.getD_eq_getElem?_getD, List.getElem?_map, List.getElem?_eq_getElem hi]
  rfl
 rw [e3]
 exact ⟨hb, _, _, h0, ha.at_.at_ _ (List.getElem_mem hi)⟩
theorem MB.addr {B K : Nat} {M : MdlV} {a : Option Addr} {c : Nat} {b : Option Addr} {d : Nat} {W : World} (h : MB B K M a c b d W) (hl : 0 < M.a.length) : ∃ g, a = some ⟨g, 0, none⟩ := by
 obtain ⟨⟨xs, hx, ha⟩, -⟩ := h.md;have hxl : M.a.length = xs.length := by rw [← hx, List.length_map]
 rw [hxl] at ha;exact row_addr ha.row (by omega)
set_option maxRecDepth 100000 in
set_option maxHeartbeats 64000000 in
theorem undo_walk (v : Value) (l : List ReqV) (r : ReqV) (w : World) (h : Reqs w v l) (hF : Se.Forms w) : Calls Tryz.prog 5 #[v, .agg (Se.reqC r)] w fun e w' => e = .returned (.bool true) ∧ Below w.heap.size w w' := by
 have hb0 := below1 w (.cells (Se.reqC r) 26);have HX0 := hideIt (heap_alloc_new w (.cells (Se.reqC r) 26));have HP := hideIt (played_is v l _ (h.keep hb0) (hF.keep hb0));have HFO := hideIt (fun W (hW : Below w.heap.size w W) => hF.keep hW);have HB0 := hideIt hb0;have HL := hideIt (fun W (hW : Below w.heap.size w W) => live_is W (hF.keep hW));clear h hF hb0;have hlen : (l.take 40).length ≤ 100 := by rw [List.length_take]; omega
 have hinv := inv_ply (l.take 40) hlen;generalize plyM (l.take 40) = M at *;have HPL := hideIt (fun h0 h1 => und_plain (r := {r with kind := 3, now := false}) hinv rfl rfl h0 h1);have HD1 := hideIt (fun va vl W (hm : Mdl W va vl M) (hf : Se.Forms W) => do_is va vl M {r with kind := 3, now := false} W hm hf);have HD2 := hideIt (fun va vl W (hm : Mdl W va vl (doM M {r with kind := 3, now := false}).1) (hf : Se.Forms W) => do_is va vl (doM M {r with kind := 3, now := false}).1 (canQ r.acct r.lane (doM M {r with kind := 3, now := false}).2.num) W hm hf);have HD3 := hideIt (fun va vl W (hm : Mdl W va vl (doM (doM M {r with kind := 3, now := false}).1 (canQ r.acct r.lane (doM M {r with kind := 3, now := false}).2.num)).1) (hf : Se.Forms W) => do_is va vl _ (netQ r.acct) W hm hf);have HD4 := hideIt (fun va vl W (hm : Mdl W va vl M) (hf : Se.Forms W) => do_is va vl M (netQ r.acct) W hm hf);clear hlen hinv;simp only at HPL;generalize doM (doM (doM M {r with kind := 3, now := false}).1 (canQ r.acct r.lane (doM M {r with kind := 3, now := false}).2.num)).1 (netQ r.acct) = Z3 at *;generalize doM M (netQ r.acct) = Z4 at *;generalize doM (doM M {r with kind := 3, now := false}).1 (canQ r.acct r.lane (doM M {r with kind := 3, now := false}).2.num) = Z2 at *;generalize doM M {r with kind := 3, now := false} = Z1 at *;obtain ⟨M1, A1⟩ := Z1;obtain ⟨M2, A2⟩ := Z2;obtain ⟨M3, A3⟩ := Z3;obtain ⟨M4, A4⟩ := Z4;simp only at HPL HD1 HD2 HD3 HD4;unfold Se.reqC at HX0 HB0 HD1 HD2 HD3 HD4 HP HL ⊢;simp only [canQ, netQ] at HD1 HD2 HD3 HD4
 go_enter Tryz.func5, Tryz.ntmps5
 go_upto_region 1 with fail
 generalize (World.alloc w (.cells #[.int .i64 r.kind, .int .i64 r.acct, .int .i64 r.lane, .int .i64 r.asset, .int .i64 r.side, .int .i64 r.price, .int .i64 r.n, .bool r.now, .int .i64 r.key.1, .int .i64 r.key.2, .int .i64 r.dst] 26)) = W0 at *
 go_wp2_with fail
 refine HP.out.mono ?_;rintro e V1 ⟨a, c, b, d, rfl, ho, hb⟩;dsimp only;have hb1 := below1 V1 (.cells #[.slice a M.a.length c, .slice b M.l.length d] 30);have HM5 : Hid (MB w.heap.size V1.heap.size M a c b d (V1.alloc (.cells #[.slice a M.a.length c, .slice b M.l.length d] 30))) := ⟨heap_alloc_new V1 _, (ho.keep hb1).base HB0.out.size⟩;have HX1 := hideIt (blkK (blkK HX0.out hb) hb1);have HB1 := hideIt (below_via HB0.out (below_via hb hb1));clear HX0 HB0 HP ho hb hb1
 go_upto_region 2 with fail
 generalize (World.alloc V1 _) = W1 at *;generalize V1.heap.size = K at *;obtain ⟨⟨r0, r1, r2, r3, r4, r5, r6, r7, r8, r9, r10⟩, rf, rz⟩ := at11 HX1.out
 go_upto_region 3 with fail
 have HX2 : Hid ((W1.setCell ⟨w.heap.size, 0, none⟩ (.int .i64 3)).heap[w.heap.size]? = some (.cells #[.int .i64 3, .int .i64 r.acct, .int .i64 r.lane, .int .i64 r.asset, .int .i64 r.side, .int .i64 r.price, .int .i64 r.n, .bool r.now, .int .i64 r.key.1, .int .i64 r.key.2, .int .i64 r.dst] 26 (0, 0))) := heap_set HX1.out 0 (.int .i64 3);have HM6 : Hid (MB w.heap.size K M a c b d (W1.setCell ⟨w.heap.size, 0, none⟩ (.int .i64 3))) := ⟨setOther _ HM5.out.box (ty_ne HM5.out.box HX1.out (by decide)), HM5.out.md.set HX1.out (by decide) (by decide) (by decide) (by decide) (by decide)⟩;have HB2 := hideIt (belowSet (j := 0) (.int .i64 3) HB1.out (Nat.le_refl _));clear HM5 HX1 HB1;clear r0 r1 r2 r3 r4 r5 r6 r7 r8 r9 r10 rf rz;generalize (World.setCell W1 _ _) = W2 at *;obtain ⟨⟨r0, r1, r2, r3, r4, r5, r6, r7, r8, r9, r10⟩, rf, rz⟩ := at11 HX2.out
 go_upto_region 4 with fail
 have HX3 : Hid ((W2.setCell ⟨w.heap.size, 7, none⟩ (.bool false)).heap[w.heap.size]? = some (.cells #[.int .i64 3, .int .i64 r.acct, .int .i64 r.lane, .int .i64 r.asset, .int .i64 r.side, .int .i64 r.price, .int .i64 r.n, .bool false, .int .i64 r.key.1, .int .i64 r.key.2, .int .i64 r.dst] 26 (0, 0))) := heap_set HX2.out 7 (.bool false);have HM7 : Hid (MB w.heap.size K M a c b d (W2.setCell ⟨w.heap.size, 7, none⟩ (.bool false))) := ⟨setOther _ HM6.out.box (ty_ne HM6.out.box HX2.out (by decide)), HM6.out.md.set HX2.out (by decide) (by decide) (by decide) (by decide) (by decide)⟩;have HB3 := hideIt (belowSet (j := 7) (.bool false) HB2.out (Nat.le_refl _));clear HM6 HX2 HB2;clear r0 r1 r2 r3 r4 r5 r6 r7 r8 r9 r10 rf rz;generalize (World.setCell W2 _ _) = W3 at *;obtain ⟨⟨p0, p1⟩, pf, pz⟩ := at2 HM7.out.box;obtain ⟨⟨r0, r1, r2, r3, r4, r5, r6, r7, r8, r9, r10⟩, rf, rz⟩ := at11 HX3.out
 go_wp2_with fail
 refine (HD1.out _ _ _ HM7.out.md.at_ (HFO.out _ HB3.out)).mono ?_;rintro e V ⟨a1, c1, b1, d1, f1, i1, j1, k1, rfl, HDO⟩;dsimp only;obtain ⟨n1, n2, n3⟩ := do_nw (Z := (M1, A1)) HB3.out HDO.out _ rfl;have HP := hideIt n1;have HU := hideIt n2;have HM := hideIt (HM7.out.keep n3);have HX := hideIt (blkK HX3.out n3);have HB := hideIt (below_via HB3.out n3);clear r0 r1 r2 r3 r4 r5 r6 r7 r8 r9 r10 rf rz p0 p1 pf pz;clear n1 n2 n3 HDO HM7 HX3 HB3 HD1;unfold ansC at HP HU HM HX HB;simp only at HP HU HM HX HB
 go_upto_region 5 with fail
 generalize (World.alloc (World.alloc V _) (.cells #[.int .i64 A1.code, .int .i64 A1.num, .slice f1 A1.am.length i1, .slice j1 A1.fl.length k1] 36)) = W4 at *;generalize V.heap.size = P at *;obtain ⟨⟨s0, s1, s2, s3⟩, sf, sz⟩ := at4 HU.out.box
 by_cases h0 : A1.code = 0
 ·rw [h0] at s0
  by_cases hfl : A1.fl.length = 0
  ·rw [hfl] at s3;obtain ⟨g1, g2, g3, g4, g5, g6, i, hi, hacct, hfree⟩ := HPL.out h0 (List.eq_nil_of_length_eq_zero hfl);have HGI := hideIt (And.intro hi (And.intro hacct hfree));have HG56 := hideIt (And.intro g5 g6);have HG34 := hideIt (And.intro g3 g4);have HG12 := hideIt (And.intro g1 g2);clear hi hacct hfree g1 g2 g3 g4 g5 g6 HPL;obtain ⟨⟨p0, p1⟩, pf, pz⟩ := at2 HP.out.box;obtain ⟨⟨r0, r1, r2, r3, r4, r5, r6, r7, r8, r9, r10⟩, rf, rz⟩ := at11 HX.out
   go_wp2_with fail
   refine (HD2.out _ _ _ HP.out.md.at_ (HFO.out _ HB.out)).mono ?_;rintro e V ⟨a2, c2, b2, d2, f2, i2, j2, k2, rfl, HDO⟩;dsimp only;obtain ⟨n1, n2, n3⟩ := do_nw (Z := (M2, A2)) HB.out HDO.out _ rfl;have HQ := hideIt n1;have HV := hideIt n2;have HM5 := hideIt (HM.out.keep n3);have HX5 := hideIt (blkK HX.out n3);have HB5 := hideIt (below_via HB.out n3);clear r0 r1 r2 r3 r4 r5 r6 r7 r8 r9 r10 rf rz p0 p1 pf pz s0 s1 s2 s3 sf sz;clear n1 n2 n3 HDO HM HX HB HD2 HP HU;unfold ansC at HQ HV HM5 HX5 HB5;simp only at HQ HV HM5 HX5 HB5
   go_upto_region 8 with fail
   generalize (World.alloc (World.alloc V _) (.cells #[.int .i64 A2.code, .int .i64 A2.num, .slice f2 A2.am.length i2, .slice j2 A2.fl.length k2] 36)) = W5 at *;generalize V.heap.size = Q at *;obtain ⟨⟨s0, s1, s2, s3⟩, sf, sz⟩ := at4 HV.out.box;obtain ⟨⟨p0, p1⟩, pf, pz⟩ := at2 HQ.out.box;obtain ⟨⟨r0, r1, r2, r3, r4, r5, r6, r7, r8, r9, r10⟩, rf, rz⟩ := at11 HX5.out;rw [HG12.out.1] at s0;rw [HG12.out.2] at s1
   go_upto_region 10 with fail
   clear s0 s1 s2 s3 sf sz
   go_wp2_with fail
   refine (HD3.out _ _ _ HQ.out.md.at_ (HFO.out _ HB5.out)).mono ?_;rintro e V ⟨a3, c3, b3, d3, f3, i3, j3, k3, rfl, HDO⟩;dsimp only;obtain ⟨n1, n2, n3⟩ := do_nw (Z := (M3, A3)) HB5.out HDO.out _ rfl;have HC := hideIt n1;have HY := hideIt n2;have HM6 := hideIt (HM5.out.keep n3);have HX6 := hideIt (blkK HX5.out n3);have HB6 := hideIt (below_via HB5.out n3);clear r0 r1 r2 r3 r4 r5 r6 r7 r8 r9 r10 rf rz p0 p1 pf pz;clear n1 n2 n3 HDO HM5 HX5 HB5 HD3 HQ HV;unfold ansC at HC HY HM6 HX6 HB6;simp only at HC HY HM6 HX6 HB6
   go_upto_region 11 with fail
   generalize (World.alloc (World.alloc V _) (.cells #[.int .i64 A3.code, .int .i64 A3.num, .slice f3 A3.am.length i3, .slice j3 A3.fl.length k3] 36)) = W6 at *;generalize V.heap.size = C at *;obtain ⟨⟨p0, p1⟩, pf, pz⟩ := at2 HM6.out.box;obtain ⟨⟨r0, r1, r2, r3, r4, r5, r6, r7, r8, r9, r10⟩, rf, rz⟩ := at11 HX6.out
   go_wp2_with fail
   refine (HD4.out _ _ _ HM6.out.md.at_ (HFO.out _ HB6.out)).mono ?_;rintro e V ⟨a4, c4, b4, d4, f4, i4, j4, k4, rfl, HDO⟩;dsimp only;obtain ⟨n1, n2, n3⟩ := do_nw (Z := (M4, A4)) HB6.out HDO.out _ rfl;have HD := hideIt n1;have HZ := hideIt n2;have HC7 := hideIt (HC.out.keep n3);have HY7 := hideIt (HY.out.keep n3);have HX7 := hideIt (blkK HX6.out n3);have HB7 := hideIt (below_via HB6.out n3);clear r0 r1 r2 r3 r4 r5 r6 r7 r8 r9 r10 rf rz p0 p1 pf pz;clear n1 n2 n3 HDO HM6 HX6 HB6 HD4 HC HY;unfold ansC at HD HZ HC7 HY7 HX7 HB7;simp only at HD HZ HC7 HY7 HX7 HB7
   go_upto_region 12 with fail
   generalize (World.alloc (World.alloc V _) (.cells #[.int .i64 A4.code, .int .i64 A4.num, .slice f4 A4.am.length i4, .slice j4 A4.fl.length k4] 36)) = W7 at *;generalize V.heap.size = D at *;obtain ⟨i, hi⟩ : ∃ i : Nat, Hid (i < 8 ∧ r.acct = (i : Int) + 1 ∧ (M3.a.getD i Lg.zA).l = (M4.a.getD i Lg.zA).l) := ⟨_, HGI⟩;clear HGI;obtain ⟨ga, rfl⟩ := HC7.out.addr (by have := HG56.out.1; omega)
   obtain ⟨gb, rfl⟩ := HD.out.addr (by have := HG56.out.2; omega)
   obtain ⟨y1, fa, fc, y2, y3⟩ := HC7.out.md.free_at (i := i) (by have := HG56.out.1; have := hi.out.1; omega)
   obtain ⟨z1, fb, fd, z2, z3⟩ := HD.out.md.free_at (i := i) (by have := HG56.out.2; have := hi.out.1; omega)
   rw [hi.out.2.2] at y2 y3;obtain ⟨⟨p0, p1⟩, pf, pz⟩ := at2 HC7.out.box;obtain ⟨⟨q0, q1⟩, qf, qz⟩ := at2 HD.out.box;obtain ⟨⟨s0, s1, s2, s3⟩, sf, sz⟩ := at4 HY7.out.box;obtain ⟨⟨u0, u1, u2, u3⟩, uf, uz⟩ := at4 HZ.out.box;obtain ⟨⟨r0, r1, r2, r3, r4, r5, r6, r7, r8, r9, r10⟩, rf, rz⟩ := at11 HX7.out;rw [HG34.out.1] at s0;rw [HG34.out.2] at u0;rw [HG56.out.1] at p0;rw [HG56.out.2] at q0;rw [hi.out.2.1] at r1;have hw : IntKind.i64.wrap ((i : Int) + 1 - 1) = (i : Int) := by rw [IntKind.wrap_i64]; have := hi.out.1; omega
   have hw2 : IntKind.i64.wrap (i : Int) = (i : Int) := by rw [IntKind.wrap_i64]; have := hi.out.1; omega
   have hi8 : (i : Int) < 8 := by have := hi.out.1; omega
   have hi0 : (0 : Int) ≤ (i : Int) := by omega
   have HSA := hideIt (fun W (hW : Below W7.heap.size W7 W) => Lg.sameAm_is _ _ (M4.a.getD i Lg.zA).l W (y3.keep hW) (z3.keep hW));generalize (M4.a.getD i Lg.zA).l = fl at *;have HS : Hid (∀ W, Below W7.heap.size W7 W → W.cell? ⟨C, 0, none⟩ = some (.slice (some ⟨ga, 0, none⟩) 8 c3) ∧ W.cell? ⟨w.heap.size, 1, none⟩ = some (.int .i64 ((i : Int) + 1)) ∧ W.cell? ⟨ga, i * 2, none⟩ = some (.slice fa fl.length fc) ∧ W.cell? ⟨D, 0, none⟩ = some (.slice (some ⟨gb, 0, none⟩) 8 c4) ∧ W.cell? ⟨gb, i * 2, none⟩ = some (.slice fb fl.length fd)) := fun W hW => ⟨(hW.cell (p := ⟨C, 0, none⟩) pz).trans p0, (hW.cell (p := ⟨w.heap.size, 1, none⟩) rz).trans r1, (hW.cell (p := ⟨ga, i * 2, none⟩) y1).trans y2, (hW.cell (p := ⟨D, 0, none⟩) qz).trans q0, (hW.cell (p := ⟨gb, i * 2, none⟩) z1).trans z2⟩
   have HCS : Hid (∀ W, Below W7.heap.size W7 W → Calls Tryz.prog 14 #[.slice fa fl.length fc, .slice fb fl.length fd] W fun e w' => e = .returned (.bool true) ∧ Hid (Below W7.heap.size W7 w') ∧ (w'.cell? ⟨C, 0, none⟩ = some (.slice (some ⟨ga, 0, none⟩) 8 c3) ∧ w'.cell? ⟨w.heap.size, 1, none⟩ = some (.int .i64 ((i : Int) + 1)) ∧ w'.cell? ⟨ga, i * 2, none⟩ = some (.slice fa fl.length fc) ∧ w'.cell? ⟨D, 0, none⟩ = some (.slice (some ⟨gb, 0, none⟩) 8 c4) ∧ w'.cell? ⟨gb, i * 2, none⟩ = some (.slice fb fl.length fd))) := by
    intro W hW;refine (HSA.out W hW).mono ?_;rintro e w' ⟨rfl, hb⟩
    exact ⟨rfl, hideIt (below_via hW hb), HS.out w' (below_via hW hb)⟩
   have HCL : Hid (∀ W, Below W7.heap.size W7 W → Calls Tryz.prog 11 #[] W fun e w' => e = .returned (.bool true) ∧ Hid (Below W7.heap.size W7 w') ∧ (w'.cell? ⟨C, 0, none⟩ = some (.slice (some ⟨ga, 0, none⟩) 8 c3) ∧ w'.cell? ⟨w.heap.size, 1, none⟩ = some (.int .i64 ((i : Int) + 1)) ∧ w'.cell? ⟨ga, i * 2, none⟩ = some (.slice fa fl.length fc) ∧ w'.cell? ⟨D, 0, none⟩ = some (.slice (some ⟨gb, 0, none⟩) 8 c4) ∧ w'.cell? ⟨gb, i * 2, none⟩ = some (.slice fb fl.length fd))) := by
    intro W hW;refine (HL.out W (below_via HB7.out hW)).mono ?_;rintro e w' ⟨rfl, hb⟩
    exact ⟨rfl, hideIt (below_via hW hb), HS.out w' (below_via hW hb)⟩
   clear y3 z3 HSA HC7 HD HY7 HZ HX7 HG12 HG34 HG56 hi HL HFO
   go_upto_region 14 with fail
   clear s0 s1 s2 s3 sf sz u0 u1 u2 u3 uf uz r0 r2 r3 r4 r5 r6 r7 r8 r9 r10 pf qf rf p1 q1 HS
   go_region_held3 (fun W => W.cell? ⟨C, 0, none⟩ = some (.slice (some ⟨ga, 0, none⟩) 8 c3) ∧ W.cell? ⟨w.heap.size, 1, none⟩ = some (.int .i64 ((i : Int) + 1)) ∧ W.cell? ⟨ga, i * 2, none⟩ = some (.slice fa fl.length fc) ∧ W.cell? ⟨D, 0, none⟩ = some (.slice (some ⟨gb, 0, none⟩) 8 c4) ∧ W.cell? ⟨gb, i * 2, none⟩ = some (.slice fb fl.length fd)) (go_keep) (first | (go_at_call 14; refine (HCS.out W7.drew (Below.refl _ _).drew).mono ?_; clear HCS; rintro e w5 ⟨rfl, HQ, ⟨i0, i1, i2, i3, i4⟩⟩) | (go_at_call 11; refine (HCL.out w5 HQ.out).mono ?_; clear HCL; rintro e w6 ⟨rfl, HQ2, ⟨k0, k1, k2, k3, k4⟩⟩))
   have HF := hideIt (below_via HB7.out HQ2.out);go_wp2;go_ret
   exact ⟨rfl, HF.out⟩
  ·have hf0 : (0 : Int) < (A1.fl.length : Int) := by omega
   clear HPL HD2 HD3 HD4 HP HU HM HX
   go_wp2_with fail
   refine (HL.out _ HB.out).mono ?_;rintro e w3 ⟨rfl, hb⟩;have HF := hideIt (below_via HB.out hb);clear hb;go_wp2;go_ret
   exact ⟨rfl, HF.out⟩
 ·have h0b : (A1.code == 0) = false := beq_eq_false_iff_ne.2 h0;clear HPL HD2 HD3 HD4 HP HU HM HX s1 s2 s3
  go_wp2_with fail
  refine (HL.out _ HB.out).mono ?_;rintro e w3 ⟨rfl, hb⟩;have HF := hideIt (below_via HB.out hb);clear hb;go_wp2;go_ret
  exact ⟨rfl, HF.out⟩
end Go.Proofs.YtiinigifjdpicaaGreatDoor
