/- Texts of my own, laid together. -/
import Derived.Test.YtiinigifjdpicaaGreatDoorMe18
import Derived.Test.YtiinigifjdpicaaGreatDoorMe08
import Derived.Test.YtiinigifjdpicaaGreatDoorMe17
namespace Go.Proofs.YtiinigifjdpicaaGreatDoor
open Go.RowKit
set_option linter.all false
def lanH (q : Nat) (L : LaneV) (a : Int) : Int := (if a = 0 then holM L else 0) + (if a = (q : Int) then holG L else 0)
def lanS : List LaneV → Nat → Int → Int
 | [], _, _ => 0
 | L :: l, q, a => lanH q L a + lanS l (q + 1) a
def totM (M : MdlV) (a : Int) : Int := Lg.sumA M.a a + lanS M.l 1 a
theorem lanS_set : ∀ (l : List LaneV) (i q : Nat) (L : LaneV) (a : Int), i < l.length → lanS (l.set i L) q a = lanS l q a - lanH (q + i) (l.getD i zLane) a + lanH (q + i) L a
 | [], i, _, _, _, h => absurd h (by simp)
 | K :: l, 0, q, L, a, _ => by
  simp only [List.set_cons_zero, lanS, List.getD_cons_zero, Nat.add_zero];omega
 | K :: l, i + 1, q, L, a, h => by
  have ih := lanS_set l i (q + 1) L a (by simpa using h);simp only [List.set_cons_succ, lanS, List.getD_cons_succ, ih, (by omega : q + (i + 1) = q + 1 + i)];omega
theorem accS_set : ∀ (l : List AccV) (i : Nat) (A : AccV) (a : Int), i < l.length → Lg.sumA (l.set i A) a = Lg.sumA l a - Lg.balL (l.getD i Lg.zA).l a + Lg.balL A.l a
 | [], i, _, _, h => absurd h (by simp)
 | K :: l, 0, A, a, _ => by
  simp only [List.set_cons_zero, Lg.sumA, List.getD_cons_zero];omega
 | K :: l, i + 1, A, a, h => by
  have ih := accS_set l i A a (by simpa using h);simp only [List.set_cons_succ, Lg.sumA, List.getD_cons_succ, ih];omega
theorem lanH_pos {q : Nat} {L : LaneV} {a : Int} (h : chkB L = true) : 0 ≤ lanH q L a := by
 have := hol_bd h;unfold lanH
 split <;> split <;> omega
theorem lanS_pos : ∀ (l : List LaneV) (q : Nat) (a : Int), (∀ x ∈ l, chkB x = true) → 0 ≤ lanS l q a
 | [], _, _, _ => Int.le_refl _
 | L :: l, q, a, h => by
  have h1 := lanH_pos (q := q) (a := a) (h L (by simp));have h2 := lanS_pos l (q + 1) a (fun x hx => h x (List.mem_cons_of_mem _ hx));unfold lanS;omega
theorem lanS_at : ∀ (l : List LaneV) (i q : Nat) (a : Int), i < l.length → (∀ x ∈ l, chkB x = true) → lanH (q + i) (l.getD i zLane) a ≤ lanS l q a
 | [], i, _, _, h, _ => absurd h (by simp)
 | L :: l, 0, q, a, _, h => by
  have h2 := lanS_pos l (q + 1) a (fun x hx => h x (List.mem_cons_of_mem _ hx));simp only [lanS, List.getD_cons_zero, Nat.add_zero];omega
 | L :: l, i + 1, q, a, hi, h => by
  have h1 := lanH_pos (q := q) (a := a) (h L (by simp));have ih := lanS_at l i (q + 1) a (by simpa using hi) (fun x hx => h x (List.mem_cons_of_mem _ hx));simp only [lanS, List.getD_cons_succ, (by omega : q + (i + 1) = q + 1 + i)];omega
theorem accS_pos (l : List AccV) (a : Int) (h : ∀ x ∈ l, Lg.accB x = true) : 0 ≤ Lg.sumA l a := (Lg.sumA_in l a (List.all_eq_true.2 h)).1
theorem accS_at : ∀ (l : List AccV) (i : Nat) (a : Int), i < l.length → (∀ x ∈ l, Lg.accB x = true) → Lg.balL (l.getD i Lg.zA).l a ≤ Lg.sumA l a
 | [], i, _, h, _ => absurd h (by simp)
 | L :: l, 0, a, _, h => by
  have h2 := accS_pos l a (fun x hx => h x (List.mem_cons_of_mem _ hx));simp only [Lg.sumA, List.getD_cons_zero];omega
 | L :: l, i + 1, a, hi, h => by
  have h1 := (Lg.bal_in L.l _ a (Lg.accB_in (h L (by simp))).1).1;have ih := accS_at l i a (by simpa using hi) (fun x hx => h x (List.mem_cons_of_mem _ hx));simp only [Lg.sumA, List.getD_cons_succ];omega
structure Inv (c : Int) (M : MdlV) : Prop where
 may : mayM M = true
 tot : ∀ a, 0 ≤ a ∧ a ≤ 3 → 0 ≤ totM M a ∧ totM M a ≤ c
 ct : CtB c M.a
theorem Inv.acc {c : Int} {M : MdlV} (h : Inv c M) {i : Nat} (hi : i < 8) {a : Int} (ha : 0 ≤ a ∧ a ≤ 3) : 0 ≤ Lg.balL (M.a.getD i Lg.zA).l a ∧ Lg.balL (M.a.getD i Lg.zA).l a ≤ c := by
 obtain ⟨h8, h3, hA, hL⟩ := may_in h.may;have h1 := accS_at M.a i a (by omega) hA;have h2 := lanS_pos M.l 1 a hL;have h4 := h.tot a ha;have hm : M.a.getD i Lg.zA ∈ M.a := accD_mem (S := st0 M) (show i < M.a.length by omega);have h5 := Lg.bal_in _ _ a (Lg.accB_in (hA _ hm)).1;unfold totM at h4;omega
theorem Inv.lan {c : Int} {M : MdlV} (h : Inv c M) {i : Nat} (hi : i < 3) : chkB (M.l.getD i zLane) = true ∧ (0 ≤ holM (M.l.getD i zLane) ∧ holM (M.l.getD i zLane) ≤ c) ∧ (0 ≤ holG (M.l.getD i zLane) ∧ holG (M.l.getD i zLane) ≤ c) := by
 obtain ⟨h8, h3, hA, hL⟩ := may_in h.may;have hm : M.l.getD i zLane ∈ M.l := lanD_mem (S := st0 M) (show i < M.l.length by omega);have hk := hL _ hm;have hb := hol_bd hk;have m1 := lanS_at M.l i 1 0 (by omega) hL;have m2 := lanS_at M.l i 1 ((1 + i : Nat) : Int) (by omega) hL;have p1 := accS_pos M.a 0 hA;have p2 := accS_pos M.a ((1 + i : Nat) : Int) hA;have t1 := h.tot 0 (by omega);have t2 := h.tot ((1 + i : Nat) : Int) (by omega);unfold totM at t1 t2;unfold lanH at m1 m2;rw [if_pos rfl, if_neg (by omega)] at m1;rw [if_neg (by omega), if_pos rfl] at m2
 exact ⟨hk, ⟨hb.1.1, by omega⟩, hb.2.1, by omega⟩
theorem tot_new (a : Int) : totM newM a = 0 := by
 have h : holM newL = 0 ∧ holG newL = 0 := ⟨rfl, rfl⟩;have e : totM newM a = 0 + (0 + (0 + (0 + (0 + (0 + (0 + (0 + 0))))))) + (lanH 1 newL a + (lanH 2 newL a + (lanH 3 newL a + 0))) := rfl;rw [e];unfold lanH;rw [h.1, h.2]
 repeat' split
 all_goals rfl
theorem cred_acc {A : AccV} {a n : Int} (h : (Lg.credL A a n).2 = 0) : Lg.accB (Lg.credL A a n).1 = true ∧ (∀ b, 0 ≤ b ∧ b ≤ 3 → Lg.balL (Lg.credL A a n).1.l b = Lg.balL A.l b + if b = a then n else 0) ∧ (Lg.credL A a n).1.ct = A.ct + 1 := by
 obtain ⟨hr, hb, hc, he⟩ := Lg.cred_ok h;obtain ⟨hA, ha, hn⟩ := Lg.refI_in hr;have hi := Lg.accB_in hA;have hbi := Lg.bal_in A.l _ a hi.1;rw [he];refine ⟨Lg.accB_mk (Lg.more_ok hi.1 ⟨by omega, hb⟩) ⟨by simp only; omega, by simp only; omega⟩, fun b hbb => Lg.more_at hi.1 ⟨by omega, hb⟩ b hbb, rfl⟩
theorem deb_acc {A : AccV} {a n : Int} (h : (Lg.debL A a n).2 = 0) : Lg.accB (Lg.debL A a n).1 = true ∧ (∀ b, 0 ≤ b ∧ b ≤ 3 → Lg.balL (Lg.debL A a n).1.l b = Lg.balL A.l b - if b = a then n else 0) ∧ (Lg.debL A a n).1.ct = A.ct + 1 := by
 obtain ⟨hr, hb, hc, he⟩ := Lg.deb_ok h;obtain ⟨hA, ha, hn⟩ := Lg.refI_in hr;have hi := Lg.accB_in hA;have hbi := Lg.bal_in A.l _ a hi.1;rw [he];refine ⟨Lg.accB_mk (Lg.more_ok hi.1 ⟨by omega, by omega⟩) ⟨by simp only; omega, by simp only; omega⟩, fun b hbb => ?_, rfl⟩
 rw [show Lg.balL (Lg.pre (Lg.moreS A.l a (-n)) 4) b = _ from Lg.more_at hi.1 ⟨by omega, by omega⟩ b hbb]
 split <;> omega
theorem payF_ok : ∀ (l : List AmtV) (A : AccV), Lg.accB A = true → (payF l A).2 = 0 → Lg.accB (payF l A).1 = true ∧ (∀ b, 0 ≤ b ∧ b ≤ 3 → Lg.balL (payF l A).1.l b = Lg.balL A.l b + Lg.sumL l b) ∧ (payF l A).1.ct = A.ct + l.length
 | [], A, hA, _ => ⟨hA, fun b _ => by simp [payF, Lg.sumL], by simp [payF]⟩
 | e :: l, A, hA, h => by
  unfold payF at h ⊢
  by_cases h0 : (Lg.credL A e.k e.n).2 = 0
  ·rw [if_pos h0] at h ⊢;obtain ⟨k1, k2, k3⟩ := cred_acc h0;obtain ⟨i1, i2, i3⟩ := payF_ok l _ k1 h;refine ⟨i1, fun b hb => ?_, ?_⟩
   ·rw [i2 b hb, k2 b hb];simp only [Lg.sumL]
    by_cases c : b = e.k
    ·rw [if_pos c, if_pos c.symm]; omega
    ·rw [if_neg c, if_neg (fun d => c d.symm)]; omega
   ·rw [i3, k3, List.length_cons];omega
  ·rw [if_neg h0] at h;exact absurd h h0
theorem sumL_pos (l : List AmtV) (a : Int) (h : ∀ e ∈ l, 1 ≤ e.n) : 0 ≤ Lg.sumL l a := Lg.sum_pos l a h
theorem payF_do : ∀ (l : List AmtV) (A : AccV), Lg.accB A = true → (∀ e ∈ l, (0 ≤ e.k ∧ e.k ≤ 3) ∧ 1 ≤ e.n ∧ e.n ≤ 9007199254740992) → (∀ b, 0 ≤ b ∧ b ≤ 3 → Lg.balL A.l b + Lg.sumL l b ≤ 9007199254740992) → A.ct + l.length ≤ 1000000000 → (payF l A).2 = 0
 | [], _, _, _, _, _ => rfl
 | e :: l, A, hA, he, hb, hc => by
  have h1 := he e (by simp);have hl : ∀ x ∈ l, 1 ≤ x.n := fun x hx => (he x (List.mem_cons_of_mem _ hx)).2.1
  have hs := sumL_pos l e.k hl;have hbe := hb e.k h1.1;simp only [Lg.sumL, if_true] at hbe;rw [List.length_cons] at hc;have h0 : (Lg.credL A e.k e.n).2 = 0 := by
   unfold Lg.credL;rw [if_pos (Lg.refI_mk hA h1.1 h1.2), if_neg (by omega)]
  obtain ⟨k1, k2, k3⟩ := cred_acc h0;unfold payF;rw [if_pos h0];refine payF_do l _ k1 (fun x hx => he x (List.mem_cons_of_mem _ hx)) (fun b hbb => ?_) (by omega);have := hb b hbb;simp only [Lg.sumL] at this;rw [k2 b hbb]
  by_cases c : b = e.k
  ·rw [if_pos c]; rw [if_pos c.symm] at this; omega
  ·rw [if_neg c]; rw [if_neg (fun d => c d.symm)] at this; omega
theorem assQ0 {q : Int} {e : AmV} (h : e.asset = 0) : assQ q e = 0 := by
 unfold assQ;rw [h]
 rfl
theorem assQ1 {q : Nat} {e : AmV} (h : e.asset = 1) : assQ (q : Int) e = q := by
 unfold assQ;rw [if_pos h];exact Int.toNat_natCast q
def amS (q : Nat) : List AmV → Nat → Int
 | [], _ => 0
 | e :: l, k => (if assQ (q : Int) e = k then e.n else 0) + amS q l k
theorem wr_id {x : Int} (h : -9223372036854775808 ≤ x ∧ x ≤ 9223372036854775807) : wr64 x = x := by
 unfold wr64 RowKit.wrap64;omega
theorem amS_pos (q : Nat) : ∀ (l : List AmV) (k : Nat), (∀ e ∈ l, 1 ≤ e.n) → 0 ≤ amS q l k
 | [], _, _ => Int.le_refl _
 | e :: l, k, h => by
  have h1 := h e (by simp);have h2 := amS_pos q l k (fun x hx => h x (List.mem_cons_of_mem _ hx));unfold amS
  split <;> omega
theorem addT_is (q : Nat) (c : Int) (hc : c ≤ 9223372036854775807) : ∀ (l : List AmV) (s : Nat → Int), (∀ e ∈ l, 1 ≤ e.n) → (∀ k, 0 ≤ s k ∧ s k + amS q l k ≤ c) → ∀ k, addT q l s k = s k + amS q l k
 | [], s, _, _, k => by simp [addT, amS]
 | e :: l, s, he, h, k => by
  have h1 := he e (by simp);have hl : ∀ x ∈ l, 1 ≤ x.n := fun x hx => he x (List.mem_cons_of_mem _ hx)
  have hk := h (assQ q e);have hp := amS_pos q l (assQ q e) hl;simp only [amS, if_true] at hk;unfold addT;have hw : wr64 (s (assQ q e) + e.n) = s (assQ q e) + e.n := wr_id (by omega);rw [hw];have hu : ∀ j, Lg.upS s (assQ q e) (s (assQ q e) + e.n) j = s j + if assQ q e = j then e.n else 0 := by
   intro j;unfold Lg.upS
   by_cases d : j = assQ q e
   ·rw [if_pos d, if_pos d.symm, d]
   ·rw [if_neg d, if_neg (fun x => d x.symm)]; omega
  rw [addT_is q c hc l _ hl (fun j => by
   have := h j;simp only [amS] at this;rw [hu j]
   split at this <;> split <;> omega) k, hu k]
  simp only [amS];omega
theorem tak_sum (q : Nat) (hq : 1 ≤ q) (acc : Int) : ∀ (l : List OweV) (k : Nat), (∀ y ∈ l, y.asset = 0 ∨ y.asset = 1) → amS q (takA acc l) k = (if k = 0 then sumA 0 l - sumA 0 (lefA acc l) else 0) + (if k = q then sumA 1 l - sumA 1 (lefA acc l) else 0)
 | [], k, _ => by simp [takA, lefA, amS, sumA]
 | y :: l, k, h => by
  have ih := tak_sum q hq acc l k (fun x hx => h x (List.mem_cons_of_mem _ hx));have hy := h y (by simp)
  by_cases c : y.acc = acc
  ·have e1 : takA acc (y :: l) = ⟨y.asset, y.n⟩ :: takA acc l := by
    unfold takA;rw [List.filter_cons_of_pos (by simpa using c), List.map_cons]
   have e2 : lefA acc (y :: l) = lefA acc l := by
    unfold lefA;rw [List.filter_cons_of_neg (by simpa using c)]
   rw [e1, e2];simp only [amS, ih, assQ, sumA, List.map_cons, List.sum_cons]
   rcases hy with hy | hy
   ·rw [hy];simp only [if_true, show ¬ (0 : Int) = 1 by decide, if_false, Int.toNat_zero]
    by_cases d : k = 0
    ·subst d;simp only [if_true, show ¬ (0 : Nat) = q by omega, if_false];omega
    ·rw [if_neg (fun x => d x.symm), if_neg d, if_neg d]
     by_cases f : k = q
     ·rw [if_pos f, if_pos f]; omega
     ·rw [if_neg f, if_neg f]; omega
   ·rw [hy];simp only [if_true, show ¬ (1 : Int) = 0 by decide, if_false, Int.toNat_natCast]
    by_cases d : k = 0
    ·subst d;simp only [if_true, show ¬ (0 : Nat) = q by omega, show ¬ q = (0 : Nat) by omega, if_false];omega
    ·rw [if_neg d, if_neg d]
     by_cases f : k = q
     ·rw [if_pos f, if_pos f, if_pos f.symm]; omega
     ·rw [if_neg f, if_neg f, if_neg (fun x => f x.symm)]; omega
  ·have e1 : takA acc (y :: l) = takA acc l := by
    unfold takA;rw [List.filter_cons_of_neg (by simpa using c)]
   have e2 : lefA acc (y :: l) = y :: lefA acc l := by
    unfold lefA;rw [List.filter_cons_of_pos (by simpa using c)]
   rw [e1, e2, ih];simp only [sumA, List.map_cons, List.sum_cons]
   split <;> split <;> omega
def lefL (acc : Int) (L : LaneV) : LaneV := ⟨L.call, L.next, L.bids, L.asks, lefA acc L.owed⟩
def tkS (q : Nat) (acc : Int) (L : LaneV) (k : Nat) : Int := amS q (takA acc L.owed) k
theorem owe_mem {L : LaneV} (h : chkB L = true) : ∀ y ∈ L.owed, (1 ≤ y.acc ∧ y.acc ≤ 8) ∧ (y.asset = 0 ∨ y.asset = 1) ∧ 1 ≤ y.n ∧ y.n ≤ 9007199254740992 := by
 intro o ho;have hb := ((chk_bok _).1 h).ow;unfold owedB at hb;simp only [Bool.and_eq_true, Bool.not_eq_true', List.any_eq_false] at hb;have h2 := hb.1 o ho;unfold stoB at h2;simp only [Bool.or_eq_true, not_or, Bool.not_eq_true', Bool.not_eq_false] at h2;have h3 := wiB_in h2.1.2;have h4 := wiB_in h2.2;have h5 := wiB_in h2.1.1;omega
theorem tks_hold {q : Nat} (hq : 1 ≤ q) {acc : Int} {L : LaneV} (h : chkB L = true) (k : Nat) : lanH q (lefL acc L) k + tkS q acc L k = lanH q L k := by
 have := tak_sum q hq acc L.owed k (fun y hy => (owe_mem h y hy).2.1);have e0 : ((k : Int) = 0) ↔ k = 0 := by omega
 have e1 : ((k : Int) = (q : Int)) ↔ k = q := by omega
 unfold tkS lanH lefL holM holG;rw [this];simp only [e0, e1]
 by_cases d : k = 0
 ·by_cases f : k = q
  ·omega
  ·simp only [if_pos d, if_neg f]; omega
 ·by_cases f : k = q
  ·simp only [if_neg d, if_pos f]; omega
  ·simp only [if_neg d, if_neg f]; omega
theorem tks_pos {q : Nat} {acc : Int} {L : LaneV} (h : chkB L = true) (k : Nat) : 0 ≤ tkS q acc L k := amS_pos q _ k (fun e he => (tak_mem h e he).2.1)
theorem tak_le {q : Nat} (hq : 1 ≤ q) {c : Int} : ∀ (l : List AmV), (∀ e ∈ l, (e.asset = 0 ∨ e.asset = 1) ∧ 1 ≤ e.n) → amS q l 0 ≤ c → amS q l q ≤ c → ∀ e ∈ l, e.n ≤ c
 | [], _, _, _ => by simp
 | x :: l, h, h0, h1 => by
  have hx := h x (by simp);have hl : ∀ e ∈ l, (e.asset = 0 ∨ e.asset = 1) ∧ 1 ≤ e.n := fun e he => h e (List.mem_cons_of_mem _ he)
  have p0 := amS_pos q l 0 (fun e he => (hl e he).2);have p1 := amS_pos q l q (fun e he => (hl e he).2);simp only [amS] at h0 h1;intro e he;have hsub : amS q l 0 ≤ c ∧ amS q l q ≤ c ∧ x.n ≤ c := by
   rcases hx.1 with hy | hy
   ·rw [assQ0 hy] at h0 h1;rw [if_pos rfl] at h0;rw [if_neg (by omega)] at h1;omega
   ·rw [assQ1 hy] at h0 h1;rw [if_pos rfl] at h1;rw [if_neg (by omega)] at h0;omega
  rcases List.mem_cons.1 he with rfl | he
  ·exact hsub.2.2
  ·exact tak_le hq l hl hsub.1 hsub.2.1 e he
theorem lef_chk {acc : Int} {L : LaneV} (h : chkB L = true) : chkB (lefL acc L) = true := left_chk h
def netS (M : MdlV) (acc : Int) (k : Nat) : Int := tkS 1 acc (M.l.getD 0 zLane) k + tkS 2 acc (M.l.getD 1 zLane) k + tkS 3 acc (M.l.getD 2 zLane) k
def netM (M : MdlV) (acc : Int) : MdlV := ⟨M.a.set (acc - 1).toNat (payF (Lg.pre (netS M acc) 4) (M.a.getD (acc - 1).toNat Lg.zA)).1, [lefL acc (M.l.getD 0 zLane), lefL acc (M.l.getD 1 zLane), lefL acc (M.l.getD 2 zLane)]⟩
theorem three {α : Type} {l : List α} (h : l.length = 3) (d : α) : l = [l.getD 0 d, l.getD 1 d, l.getD 2 d] := by
 match l, h with
 | [a, b, c], _ => rfl
theorem above_no {α : Type} {f : α → Int} {l : List α} {m : Int} (h : ∀ e ∈ l, f e ≤ m) : aboveB f l m = false := by
 unfold aboveB;rw [List.any_eq_false];intro e he;have := h e he;simp only [decide_eq_true_eq];omega
theorem bal_mem : ∀ (l : List AmtV) (x : Int), Lg.amtsB l x = true → ∀ e ∈ l, Lg.balL l e.k = e.n
 | [], _, _ => by simp
 | c :: l, x, h => by
  intro e he;have hm := Lg.amts_mem (c :: l) x h
  rcases List.mem_cons.1 he with rfl | he
  ·simp [Lg.balL]
  ·have h2 : Lg.amtsB l c.k = true := by
    unfold Lg.amtsB at h;simp only [Bool.and_eq_true] at h;exact h.2
   have h3 := Lg.amts_mem l c.k h2 e he;have ih := bal_mem l c.k h2 e he;unfold Lg.balL;rw [if_neg (by omega)];exact ih
theorem st_net {r : ReqV} (hk : r.kind = 7) {S : StV} {i q : Nat} {c : Int} (hq : 1 ≤ q) (hc : c ≤ 1000000000) (hw : 1 ≤ r.acct ∧ r.acct ≤ 8) (hi : chkB (lanD S i) = true) (hm : holM (lanD S i) ≤ c) (hg : holG (lanD S i) ≤ c) (hs : ∀ k, 0 ≤ S.s k ∧ S.s k ≤ 2000000000) : ∃ s', (∀ k, s' k = S.s k + tkS q r.acct (lanD S i) k) ∧ stLan r i q S = ({S with l := S.l.set i (lefL r.acct (lanD S i)), s := s'}, 0) := by
 have hmem := tak_mem (acc := r.acct) hi;have hh := fun k => tks_hold hq (acc := r.acct) hi k
 have hl := hol_bd (lef_chk (acc := r.acct) hi);have h0 := hh 0;have h1 := hh q;unfold lanH at h0 h1;have z0 : ((0 : Nat) : Int) = 0 := rfl;have z1 : ¬ ((0 : Int) = (q : Int)) := by omega
 have z2 : ¬ ((q : Int) = 0) := by omega
 have hp0 := hol_bd hi;simp only [z0, z1, z2, if_true, if_false] at h0 h1;have hle := tak_le hq (c := c) (takA r.acct (lanD S i).owed) (fun e he => ⟨(hmem e he).1, (hmem e he).2.1⟩) (by unfold tkS at h0; omega) (by unfold tkS at h1; omega)
 have hbnd : ∀ k, tkS q r.acct (lanD S i) k ≤ c := by
  intro k;have h2 := hh k;have hp := lanH_pos (q := q) (a := k) (lef_chk (acc := r.acct) hi);unfold lanH at h2 hp
  split at h2 <;> split at h2 <;> omega
 have htk : takR (lanD S i) r.acct = (lefL r.acct (lanD S i), takA r.acct (lanD S i).owed, 0) := by
  unfold takR;rw [if_neg (by rw [hi]; decide), if_neg (by unfold wiB; rw [decide_eq_true hw]; decide)]
  rfl
 refine ⟨addT q (takA r.acct (lanD S i).owed) S.s, fun k => addT_is q 9223372036854775807 (Int.le_refl _) _ _ (fun e he => (hmem e he).2.1) (fun k => by have := hbnd k; have := hs k; unfold tkS at *; omega) k, ?_⟩
 unfold stLan;rw [if_neg (by omega), if_neg (by omega), if_neg (by omega), if_neg (by omega), if_pos hk, htk]
 simp only
 rw [above_no (fun e he => by have := hle e he; omega)]
 simp
theorem do_net {c : Int} {M : MdlV} {r : ReqV} (h : Inv c M) (hc : c ≤ 900000000) (hk : r.kind = 7) (hf : Se.fitsB r = true) :
  doM M r = (netM M r.acct, ⟨0, 0, Lg.pre (netS M r.acct) 4, []⟩) ∧ (1 ≤ r.acct ∧ r.acct ≤ 8) ∧
  Lg.accB (payF (Lg.pre (netS M r.acct) 4) (M.a.getD (r.acct - 1).toNat Lg.zA)).1 = true ∧
  (∀ k : Nat, k < 4 → 0 ≤ netS M r.acct k ∧ Lg.balL (payF (Lg.pre (netS M r.acct) 4) (M.a.getD (r.acct - 1).toNat Lg.zA)).1.l k = Lg.balL (M.a.getD (r.acct - 1).toNat Lg.zA).l k + netS M r.acct k) ∧
  (∀ a, 0 ≤ a ∧ a ≤ 3 → totM (netM M r.acct) a = totM M a) ∧ mayM (netM M r.acct) = true := by
 have hw := ((Se.fitF7 hk).1 hf).1;obtain ⟨i, hi⟩ : ∃ i : Nat, (r.acct - 1).toNat = i := ⟨_, rfl⟩;have hi8 : i < 8 := by omega
 rw [hi];obtain ⟨h8, h3, hA, hL⟩ := may_in h.may;have e3 := three h3 zLane;obtain ⟨a1, b1, c1⟩ := h.lan (i := 0) (by omega);obtain ⟨a2, b2, c2⟩ := h.lan (i := 1) (by omega);obtain ⟨a3, b3, c3⟩ := h.lan (i := 2) (by omega);have hAm : M.a.getD i Lg.zA ∈ M.a := accD_mem (S := st0 M) (show i < M.a.length by omega);have hab := hA _ hAm;have hct := h.ct _ hAm;have hbal := fun a ha => h.acc (i := i) hi8 (a := a) ha
 have hN : ∀ k, netS M r.acct k = tkS 1 r.acct (M.l.getD 0 zLane) k + tkS 2 r.acct (M.l.getD 1 zLane) k + tkS 3 r.acct (M.l.getD 2 zLane) k := fun k => rfl
 have hT : ∀ a, totM M a = Lg.sumA M.a a + (lanH 1 (M.l.getD 0 zLane) a + (lanH 2 (M.l.getD 1 zLane) a + (lanH 3 (M.l.getD 2 zLane) a + 0))) := fun a => by
  unfold totM;rw [e3]
  rfl
 have hI : ∀ a, 0 ≤ a ∧ a ≤ 3 → totM M a ≤ c := fun a ha => (h.tot a ha).2
 have hAS := accS_at M.a i;have hset := fun (X : AccV) (a : Int) => accS_set M.a i X a (by omega)
 unfold netM;rw [hi];generalize hL1 : M.l.getD 0 zLane = L1 at *;generalize hL2 : M.l.getD 1 zLane = L2 at *;generalize hL3 : M.l.getD 2 zLane = L3 at *;generalize hAA : M.a.getD i Lg.zA = A at *;have s1 := fun k => tks_hold (by decide : 1 ≤ 1) (acc := r.acct) a1 k
 have s2 := fun k => tks_hold (by decide : 1 ≤ 2) (acc := r.acct) a2 k
 have s3 := fun k => tks_hold (by decide : 1 ≤ 3) (acc := r.acct) a3 k
 have p1 := fun k => tks_pos (q := 1) (acc := r.acct) a1 k
 have p2 := fun k => tks_pos (q := 2) (acc := r.acct) a2 k
 have p3 := fun k => tks_pos (q := 3) (acc := r.acct) a3 k
 have q1 := fun (k : Int) => lanH_pos (q := 1) (a := k) (lef_chk (acc := r.acct) a1)
 have q2 := fun (k : Int) => lanH_pos (q := 2) (a := k) (lef_chk (acc := r.acct) a2)
 have q3 := fun (k : Int) => lanH_pos (q := 3) (a := k) (lef_chk (acc := r.acct) a3)
 have u1 : ∀ k, tkS 1 r.acct L1 k ≤ c := by
  intro k; have x := s1 k; have y := q1 k; unfold lanH at x y; split at x <;> split at x <;> omega
 have u2 : ∀ k, tkS 2 r.acct L2 k ≤ c := by
  intro k; have x := s2 k; have y := q2 k; unfold lanH at x y; split at x <;> split at x <;> omega
 have hin : ∀ k : Nat, k < 4 → 0 ≤ netS M r.acct k ∧ netS M r.acct k + Lg.balL A.l k ≤ c := by
  intro k hk4;have x1 := s1 k; have x2 := s2 k; have x3 := s3 k
  have y1 := q1 k; have y2 := q2 k; have y3 := q3 k
  have z1 := p1 k; have z2 := p2 k; have z3 := p3 k
  have t := hT k;have t2 := hI k (by omega);have t3 := hAS k (by omega) hA;have := hN k;omega
 have hpre : ∀ k : Nat, k < 4 → 0 ≤ netS M r.acct k ∧ netS M r.acct k ≤ 9007199254740992 := fun k hk4 => by
  have := hin k hk4;have := hbal k (by omega);omega
 have hok := Lg.pre_ok hpre;have hpb : ∀ b, 0 ≤ b ∧ b ≤ 3 → Lg.sumL (Lg.pre (netS M r.acct) 4) b = netS M r.acct b.toNat := fun b hb => by
  obtain ⟨k, rfl⟩ : ∃ k : Nat, b = k := Int.eq_ofNat_of_zero_le hb.1;rw [Lg.sum_bal _ _ _ hok, Lg.pre_bal hpre k (by omega), Int.toNat_natCast]
 have hplen := Lg.pre_len (netS M r.acct) 4;have hpay : (payF (Lg.pre (netS M r.acct) 4) A).2 = 0 := by
  refine payF_do _ _ hab (fun e he => ⟨(Lg.amts_mem _ _ hok e he).2.1, (Lg.amts_mem _ _ hok e he).2.2⟩) (fun b hb => ?_) (by omega);rw [hpb b hb];have := hin b.toNat (by omega);rw [show ((b.toNat : Nat) : Int) = b by omega] at this;omega
 obtain ⟨k1, k2, k3⟩ := payF_ok _ _ hab hpay;have hbals : ∀ k : Nat, k < 4 → Lg.balL (payF (Lg.pre (netS M r.acct) 4) A).1.l k = Lg.balL A.l k + netS M r.acct k := fun k hk4 => by
  rw [k2 k (by omega), hpb k (by omega), Int.toNat_natCast]
 refine ⟨?_, hw, k1, fun k hk4 => ⟨(hin k hk4).1, hbals k hk4⟩, ?_, ?_⟩
 ·have hkeys : turL r = [(2, 1), (2, 2), (2, 3), (1, r.acct)] := by
   unfold turL;rw [if_pos hk, Se.keysK7 hk hf]
   rfl
  have g1 : lanD (st0 M) 0 = L1 := hL1;obtain ⟨f1, w1, v1⟩ := st_net hk (S := st0 M) (i := 0) (q := 1) (c := c) (by decide) (by omega) hw (by rw [g1]; exact a1) (by rw [g1]; omega) (by rw [g1]; omega) (fun k => ⟨Int.le_refl _, (by decide : (0 : Int) ≤ 2000000000)⟩)
  rw [g1] at w1 v1;have g2 : lanD {st0 M with l := (st0 M).l.set 0 (lefL r.acct L1), s := f1} 1 = L2 := by
   show ((M.l.set 0 (lefL r.acct L1)).getD 1 zLane) = L2
   rw [e3]
   rfl
  obtain ⟨f2, w2, v2⟩ := st_net hk (S := {st0 M with l := (st0 M).l.set 0 (lefL r.acct L1), s := f1}) (i := 1) (q := 2) (c := c) (by decide) (by omega) hw (by rw [g2]; exact a2) (by rw [g2]; omega) (by rw [g2]; omega) (fun k => by
   have e : f1 k = 0 + tkS 1 r.acct L1 k := w1 k;have := p1 k;have := u1 k
   show 0 ≤ f1 k ∧ f1 k ≤ 2000000000
   omega)
  rw [g2] at w2 v2;have g3 : lanD {st0 M with l := ((st0 M).l.set 0 (lefL r.acct L1)).set 1 (lefL r.acct L2), s := f2} 2 = L3 := by
   show (((M.l.set 0 (lefL r.acct L1)).set 1 (lefL r.acct L2)).getD 2 zLane) = L3
   rw [e3]
   rfl
  have e2 : ∀ k, f2 k = tkS 1 r.acct L1 k + tkS 2 r.acct L2 k := fun k => by
   have x : f2 k = f1 k + tkS 2 r.acct L2 k := w2 k;have y : f1 k = 0 + tkS 1 r.acct L1 k := w1 k;omega
  obtain ⟨f3, w3, v3⟩ := st_net hk (S := {st0 M with l := ((st0 M).l.set 0 (lefL r.acct L1)).set 1 (lefL r.acct L2), s := f2}) (i := 2) (q := 3) (c := c) (by decide) (by omega) hw (by rw [g3]; exact a3) (by rw [g3]; omega) (by rw [g3]; omega) (fun k => by
   have := p1 k;have := u1 k;have := p2 k;have := u2 k;have := e2 k
   show 0 ≤ f2 k ∧ f2 k ≤ 2000000000
   omega)
  rw [g3] at w3 v3;have ef : f3 = netS M r.acct := by
   funext k
   have x : f3 k = f2 k + tkS 3 r.acct L3 k := w3 k;rw [x, e2 k, hN k]
  subst ef;have hl3 : (((M.l.set 0 (lefL r.acct L1)).set 1 (lefL r.acct L2)).set 2 (lefL r.acct L3)) = [lefL r.acct L1, lefL r.acct L2, lefL r.acct L3] := by
   rw [e3]
   rfl
  have v4 : stAcc r i {st0 M with l := [lefL r.acct L1, lefL r.acct L2, lefL r.acct L3], s := netS M r.acct} = ({st0 M with a := M.a.set i (payF (Lg.pre (netS M r.acct) 4) A).1, l := [lefL r.acct L1, lefL r.acct L2, lefL r.acct L3], s := netS M r.acct, am := Lg.pre (netS M r.acct) 4}, 0) := by
   unfold stAcc;rw [if_neg (by omega), if_neg (by omega), if_neg (by omega), if_pos hk];have hAD : accD {st0 M with l := [lefL r.acct L1, lefL r.acct L2, lefL r.acct L3], s := netS M r.acct} i = A := hAA;rw [hAD]
   simp only
   rw [above_no (fun e he => by
    have hm := Lg.amts_mem _ _ (Lg.accB_in hab).1 e he;have := hbal e.k hm.2.1;rw [bal_mem _ _ (Lg.accB_in hab).1 e he] at this
    omega), hpay]
   rw [if_neg (by simp only [Bool.false_or, decide_eq_true_eq]; omega)]
   rfl
  unfold doM;rw [h.may, hf, hkeys];have hrun : runT r [(2, 1), (2, 2), (2, 3), (1, r.acct)] (st0 M) = ({st0 M with a := M.a.set i (payF (Lg.pre (netS M r.acct) 4) A).1, l := [lefL r.acct L1, lefL r.acct L2, lefL r.acct L3], s := netS M r.acct, am := Lg.pre (netS M r.acct) 4}, 0) := by
   have x1 : stAt r (2, 1) (st0 M) = stLan r 0 ((1 : Nat) : Int) (st0 M) := by
    unfold stAt;rw [if_neg (by omega)]
    rfl
   have x2 : stAt r (2, 2) {st0 M with l := (st0 M).l.set 0 (lefL r.acct L1), s := f1} = stLan r 1 ((2 : Nat) : Int) {st0 M with l := (st0 M).l.set 0 (lefL r.acct L1), s := f1} := by
    unfold stAt;rw [if_neg (by omega)]
    rfl
   have x3 : stAt r (2, 3) {st0 M with l := ((st0 M).l.set 0 (lefL r.acct L1)).set 1 (lefL r.acct L2), s := f2} = stLan r 2 ((3 : Nat) : Int) {st0 M with l := ((st0 M).l.set 0 (lefL r.acct L1)).set 1 (lefL r.acct L2), s := f2} := by
    unfold stAt;rw [if_neg (by omega)]
    rfl
   have x4 : stAt r (1, r.acct) {st0 M with l := [lefL r.acct L1, lefL r.acct L2, lefL r.acct L3], s := netS M r.acct} = stAcc r i {st0 M with l := [lefL r.acct L1, lefL r.acct L2, lefL r.acct L3], s := netS M r.acct} := by
    unfold stAt;rw [if_neg (by omega), if_pos rfl]
    simp only
    rw [hi]
   simp only [st0] at x1 x2 x3 x4 v1 v2 v3 v4 ⊢;rw [hl3] at v3;rw [runT_cons, x1, v1];simp only [if_true];rw [runT_cons, x2, v2];simp only [if_true];rw [runT_cons, x3, v3];simp only [if_true];rw [runT_cons, x4, v4];simp only [if_true]
   rfl
  rw [hrun]
  rfl
 ·intro a ha;obtain ⟨k, rfl⟩ : ∃ k : Nat, a = k := Int.eq_ofNat_of_zero_le ha.1;have x1 := s1 k; have x2 := s2 k; have x3 := s3 k
  rw [hT k];have e : totM ⟨M.a.set i (payF (Lg.pre (netS M r.acct) 4) A).1, [lefL r.acct L1, lefL r.acct L2, lefL r.acct L3]⟩ k = Lg.sumA (M.a.set i (payF (Lg.pre (netS M r.acct) 4) A).1) k + (lanH 1 (lefL r.acct L1) k + (lanH 2 (lefL r.acct L2) k + (lanH 3 (lefL r.acct L3) k + 0))) := rfl;rw [e, hset, hbals k (by omega), hN k];omega
 ·unfold mayM;simp only [List.length_set, List.length_cons, List.length_nil, Bool.and_eq_true, decide_eq_true_eq, List.all_eq_true];refine ⟨h8, trivial, all_set hA k1, fun x hx => ?_⟩;simp only [List.mem_cons, List.not_mem_nil, or_false] at hx
  rcases hx with rfl | rfl | rfl
  ·exact lef_chk a1
  ·exact lef_chk a2
  ·exact lef_chk a3
theorem do_fits {M : MdlV} {r : ReqV} (h : (doM M r).2.code = 0) : mayM M = true ∧ Se.fitsB r = true := by
 have hm : mayM M = true := by
  cases hc : mayM M with
  | true => rfl
  | false =>
   unfold doM at h;rw [hc] at h
   simp at h
 refine ⟨hm, ?_⟩;cases hc : Se.fitsB r with
 | true => rfl
 | false =>
  unfold doM at h;rw [hm, hc] at h
  simp at h
theorem do_ord {M : MdlV} {r : ReqV} (hm : mayM M = true) (hf : Se.fitsB r = true) (hk : r.kind = 3) {i j : Nat} (hi : (r.acct - 1).toNat = i) (hj : (r.lane - 1).toNat = j) :
  doM M r = if (Lg.debL (M.a.getD i Lg.zA) (brA_ r) (brN_ r)).2 = 0 then (if (placeL (M.l.getD j zLane) r.acct r.side r.price r.n r.now).2.2.2 = 0 then (⟨M.a.set i (Lg.debL (M.a.getD i Lg.zA) (brA_ r) (brN_ r)).1, M.l.set j (placeL (M.l.getD j zLane) r.acct r.side r.price r.n r.now).1⟩, ⟨0, (placeL (M.l.getD j zLane) r.acct r.side r.price r.n r.now).2.2.1, [], (placeL (M.l.getD j zLane) r.acct r.side r.price r.n r.now).2.1⟩) else (M, ⟨6, 0, [], []⟩)) else (M, ⟨6, 0, [], []⟩) := by
 have hkeys : turL r = [(1, r.acct), (2, r.lane)] := by
  unfold turL;rw [if_neg (by omega), Se.keysK3 hk hf]
 have s1 : stAt r (1, r.acct) (st0 M) = ({st0 M with a := M.a.set i (Lg.debL (M.a.getD i Lg.zA) (brA_ r) (brN_ r)).1}, (Lg.debL (M.a.getD i Lg.zA) (brA_ r) (brN_ r)).2) := by
  unfold stAt stAcc;rw [if_neg (by omega), if_pos rfl, if_neg (by omega), if_pos hk]
  simp only
  rw [hi]
  rfl
 have s2 : ∀ X, stAt r (2, r.lane) {st0 M with a := X} = ({st0 M with a := X, l := M.l.set j (placeL (M.l.getD j zLane) r.acct r.side r.price r.n r.now).1, fl := (placeL (M.l.getD j zLane) r.acct r.side r.price r.n r.now).2.1, num := (placeL (M.l.getD j zLane) r.acct r.side r.price r.n r.now).2.2.1}, (placeL (M.l.getD j zLane) r.acct r.side r.price r.n r.now).2.2.2) := by
  intro X;unfold stAt stLan;rw [if_neg (by omega), if_neg (show ¬ (2 : Int) = 1 by decide), if_pos hk]
  simp only
  rw [hj]
  rfl
 unfold doM;rw [hm, hf, hkeys];simp only [Bool.and_self, if_true, runT, s1]
 by_cases h0 : (Lg.debL (M.a.getD i Lg.zA) (brA_ r) (brN_ r)).2 = 0
 ·rw [if_pos h0, if_pos h0];simp only [s2]
  by_cases h1 : (placeL (M.l.getD j zLane) r.acct r.side r.price r.n r.now).2.2.2 = 0
  ·rw [if_pos h1, if_pos h1];simp only [if_true]
   rfl
  ·rw [if_neg h1, if_neg h1];rw [if_neg h1]
 ·rw [if_neg h0, if_neg h0];rw [if_neg h0]
theorem do_lan {M : MdlV} {r : ReqV} (hm : mayM M = true) (hf : Se.fitsB r = true) (hk : r.kind = 4 ∨ r.kind = 5 ∨ r.kind = 6) {j : Nat} (hj : (r.lane - 1).toNat = j) :
  doM M r = if (stLan r j r.lane (st0 M)).2 = 0 then (⟨M.a, (stLan r j r.lane (st0 M)).1.l⟩, ⟨0, (stLan r j r.lane (st0 M)).1.num, [], (stLan r j r.lane (st0 M)).1.fl⟩) else (M, ⟨6, 0, [], []⟩) := by
 have hkeys : turL r = [(2, r.lane)] := by
  unfold turL;rw [if_neg (by omega)]
  rcases hk with h | h | h
  ·exact Se.keysK4 h hf
  ·exact Se.keysK5 h hf
  ·exact Se.keysK6 h hf
 have s1 : stAt r (2, r.lane) (st0 M) = stLan r j r.lane (st0 M) := by
  unfold stAt;rw [if_neg (by omega), if_neg (show ¬ (2 : Int) = 1 by decide)]
  simp only
  rw [hj]
 have ha : (stLan r j r.lane (st0 M)).1.a = M.a := stLan_a _ _ _ _;have hb : (stLan r j r.lane (st0 M)).1.am = [] := by
  unfold stLan
  rcases hk with h | h | h
  ·rw [if_neg (by omega), if_pos h]; rfl
  ·rw [if_neg (by omega), if_neg (by omega), if_pos h]; rfl
  ·rw [if_neg (by omega), if_neg (by omega), if_neg (by omega), if_pos h]; rfl
 unfold doM;rw [hm, hf, hkeys];simp only [Bool.and_self, if_true, runT, s1]
 by_cases h0 : (stLan r j r.lane (st0 M)).2 = 0
 ·rw [if_pos h0, if_pos h0];simp only [if_true];rw [ha, hb]
 ·rw [if_neg h0, if_neg h0, if_neg h0]
theorem lan_lane {r : ReqV} (hf : Se.fitsB r = true) (hk : r.kind = 3 ∨ r.kind = 4 ∨ r.kind = 5 ∨ r.kind = 6) : 1 ≤ r.lane ∧ r.lane ≤ 3 := by
 rcases hk with h | h | h | h
 ·exact ((Se.fitF3 h).1 hf).2.1
 ·exact ((Se.fitF4 h).1 hf).2.1
 ·exact ((Se.fitF5 h).1 hf).2.1
 ·exact ((Se.fitF6 h).1 hf).2.1
theorem may_mk {M : MdlV} (h8 : M.a.length = 8) (h3 : M.l.length = 3) (hA : ∀ x ∈ M.a, Lg.accB x = true) (hL : ∀ x ∈ M.l, chkB x = true) : mayM M = true := by
 unfold mayM;simp only [Bool.and_eq_true, decide_eq_true_eq, List.all_eq_true]
 exact ⟨h8, h3, hA, hL⟩
theorem lan_hold {r : ReqV} {M : MdlV} {j : Nat} {q : Int} (hk : r.kind = 4 ∨ r.kind = 5 ∨ r.kind = 6) (h0 : (stLan r j q (st0 M)).2 = 0) : ∃ L, (stLan r j q (st0 M)).1.l = M.l.set j L ∧ chkB L = true ∧ holM L = holM (M.l.getD j zLane) ∧ holG L = holG (M.l.getD j zLane) := by
 unfold stLan at h0 ⊢
 rcases hk with h | h | h
 ·rw [if_neg (by omega), if_pos h] at h0 ⊢;have hD : lanD (st0 M) j = M.l.getD j zLane := rfl;rw [hD] at h0 ⊢;simp only at h0 ⊢;refine ⟨_, rfl, canR_may h0, ?_⟩;have hk : chkB (M.l.getD j zLane) = true := by
   cases hc : chkB (M.l.getD j zLane) with
   | true => rfl
   | false =>
    unfold canR at h0;rw [hc] at h0
    simp at h0
  rcases can_cases _ r.acct r.n hk with e | e | e
  ·rw [e] at h0; simp at h0
  ·rw [e] at h0; simp at h0
  ·exact e.2
 ·rw [if_neg (by omega), if_neg (by omega), if_pos h] at h0 ⊢;simp only at h0 ⊢;have := cal_may h0;refine ⟨_, rfl, this.2.2.1, ?_⟩;rw [this.2.2.2]
  exact ⟨rfl, rfl⟩
 ·rw [if_neg (by omega), if_neg (by omega), if_neg (by omega), if_pos h] at h0 ⊢;simp only at h0 ⊢;have := unc_may h0
  exact ⟨_, rfl, this.2.2.1, this.2.2.2.1, this.2.2.2.2.1⟩
theorem do_tot {c : Int} {M : MdlV} {r : ReqV} (h : Inv c M) (hc : c ≤ 900000000) (h0 : (doM M r).2.code = 0) : mayM (doM M r).1 = true ∧ ∀ a, 0 ≤ a ∧ a ≤ 3 → totM (doM M r).1 a = totM M a + (if r.kind = 1 ∧ a = r.asset then r.n else 0) - (if r.kind = 2 ∧ a = r.asset then r.n else 0) := by
 obtain ⟨hm, hf⟩ := do_fits h0;obtain ⟨h8, h3, hA, hL⟩ := may_in hm;have hkk := Se.fits_kind hf
 rcases (by omega : r.kind = 1 ∨ r.kind = 2 ∨ r.kind = 3 ∨ (r.kind = 4 ∨ r.kind = 5 ∨ r.kind = 6) ∨ r.kind = 7 ∨ r.kind = 8 ∨ r.kind = 9) with k | k | k | k | k | k | k
 ·have hw := ((Se.fitF1 k).1 hf).1;have e := do_acc hm hf (.inl k);have s : stAcc r (r.acct - 1).toNat (st0 M) = ({st0 M with a := M.a.set (r.acct - 1).toNat (Lg.credL (M.a.getD (r.acct - 1).toNat Lg.zA) r.asset r.n).1}, (Lg.credL (M.a.getD (r.acct - 1).toNat Lg.zA) r.asset r.n).2) := by
   unfold stAcc;rw [if_pos k]
   rfl
  rw [s] at e;simp only at e;rw [e] at h0 ⊢
  by_cases d : (Lg.credL (M.a.getD (r.acct - 1).toNat Lg.zA) r.asset r.n).2 = 0
  ·rw [if_pos d];obtain ⟨d1, d2, d3⟩ := cred_acc d;refine ⟨may_mk (by simp only [List.length_set]; exact h8) h3 (all_set hA d1) hL, fun a ha => ?_⟩
   unfold totM
   simp only
   rw [accS_set _ _ _ _ (by omega), d2 a ha]
   by_cases f : a = r.asset
   ·rw [if_pos f, if_pos ⟨k, f⟩, if_neg (by omega)]; omega
   ·rw [if_neg f, if_neg (by omega), if_neg (by omega)]; omega
  ·rw [if_neg d] at h0
   simp at h0
 ·have hw := ((Se.fitF2 k).1 hf).1;have e := do_acc hm hf (.inr k);have s : stAcc r (r.acct - 1).toNat (st0 M) = ({st0 M with a := M.a.set (r.acct - 1).toNat (Lg.debL (M.a.getD (r.acct - 1).toNat Lg.zA) r.asset r.n).1}, (Lg.debL (M.a.getD (r.acct - 1).toNat Lg.zA) r.asset r.n).2) := by
   unfold stAcc;rw [if_neg (by omega), if_neg (by omega), if_pos k]
   rfl
  rw [s] at e;simp only at e;rw [e] at h0 ⊢
  by_cases d : (Lg.debL (M.a.getD (r.acct - 1).toNat Lg.zA) r.asset r.n).2 = 0
  ·rw [if_pos d];obtain ⟨d1, d2, d3⟩ := deb_acc d;refine ⟨may_mk (by simp only [List.length_set]; exact h8) h3 (all_set hA d1) hL, fun a ha => ?_⟩
   unfold totM
   simp only
   rw [accS_set _ _ _ _ (by omega), d2 a ha]
   by_cases f : a = r.asset
   ·rw [if_pos f, if_neg (by omega), if_pos ⟨k, f⟩]; omega
   ·rw [if_neg f, if_neg (by omega), if_neg (by omega)]; omega
  ·rw [if_neg d] at h0
   simp at h0
 ·have hF := (Se.fitF3 k).1 hf;obtain ⟨j, hj⟩ : ∃ j : Nat, (r.lane - 1).toNat = j := ⟨_, rfl⟩;have e := do_ord hm hf k (i := (r.acct - 1).toNat) rfl hj;rw [e] at h0 ⊢
  by_cases d : (Lg.debL (M.a.getD (r.acct - 1).toNat Lg.zA) (brA_ r) (brN_ r)).2 = 0
  ·rw [if_pos d] at h0 ⊢
   by_cases p : (placeL (M.l.getD j zLane) r.acct r.side r.price r.n r.now).2.2.2 = 0
   ·rw [if_pos p] at h0 ⊢;obtain ⟨d1, d2, d3⟩ := deb_acc d;have hp := hold_placed p;refine ⟨may_mk (by simp only [List.length_set]; exact h8) (by simp only [List.length_set]; exact h3) (all_set hA d1) (all_set hL (placeL_may p)), fun a ha => ?_⟩
    unfold totM
    simp only
    have z1 : ¬ (r.kind = 1 ∧ a = r.asset) := by omega
    have z2 : ¬ (r.kind = 2 ∧ a = r.asset) := by omega
    rw [if_neg z1, if_neg z2, accS_set _ _ _ _ (by omega), lanS_set _ _ _ _ _ (by omega), d2 a ha];unfold lanH;rw [hp.1, hp.2];unfold brA_ brN_;have hl : r.lane = ((1 + j : Nat) : Int) := by omega
    by_cases s : r.side = 1
    ·simp only [if_pos s]
     by_cases f : a = 0
     ·rw [if_pos f, if_pos f, if_pos f]; split <;> omega
     ·rw [if_neg f, if_neg f, if_neg f]; split <;> omega
    ·simp only [if_neg s];rw [hl]
     by_cases f : a = ((1 + j : Nat) : Int)
     ·rw [if_pos f, if_pos f, if_pos f]; split <;> omega
     ·rw [if_neg f, if_neg f, if_neg f]; split <;> omega
   ·rw [if_neg p] at h0
    simp at h0
  ·rw [if_neg d] at h0
   simp at h0
 ·have hl := lan_lane hf (.inr k);obtain ⟨j, hj⟩ : ∃ j : Nat, (r.lane - 1).toNat = j := ⟨_, rfl⟩;have e := do_lan hm hf k hj;rw [e] at h0 ⊢
  by_cases d : (stLan r j r.lane (st0 M)).2 = 0
  ·rw [if_pos d];obtain ⟨L, e1, e2, e3, e4⟩ := lan_hold k d;rw [e1];refine ⟨may_mk h8 (by simp only [List.length_set]; exact h3) hA (all_set hL e2), fun a ha => ?_⟩
   unfold totM
   simp only
   rw [lanS_set _ _ _ _ _ (by omega), if_neg (by omega), if_neg (by omega)];unfold lanH;rw [e3, e4];omega
  ·rw [if_neg d] at h0
   simp at h0
 ·obtain ⟨e, _, _, _, ht, hmm⟩ := do_net h hc k hf;rw [e];refine ⟨hmm, fun a ha => ?_⟩;rw [ht a ha, if_neg (by omega), if_neg (by omega)];omega
 ·have e : (doM M r).1 = M := by
   have hkeys : turL r = [(1, r.acct)] := by
    unfold turL;rw [if_neg (by omega), Se.keysK8 k hf]
   have s1 : stAt r (1, r.acct) (st0 M) = ({st0 M with am := (accD (st0 M) (r.acct - 1).toNat).l}, 0) := by
    unfold stAt stAcc;rw [if_neg (by omega), if_pos rfl, if_neg (by omega), if_neg (by omega), if_neg (by omega), if_neg (by omega), if_pos k]
   unfold doM;rw [hm, hf, hkeys];simp only [Bool.and_self, if_true, runT, s1]
   rfl
  rw [e];refine ⟨hm, fun a ha => ?_⟩;rw [if_neg (by omega), if_neg (by omega)];omega
 ·have e : (doM M r).1 = M := by
   have hs : ∀ (ks : List (Int × Int)), runT r ks (st0 M) = (st0 M, 0) := by
    intro ks
    induction ks with
    | nil => rfl
    | cons x ks ih =>
     rw [runT_cons];have : stAt r x (st0 M) = (st0 M, 0) := by
      unfold stAt;rw [if_pos k]
     rw [this];simp only [if_true];exact ih
   unfold doM;rw [hm, hf];simp only [Bool.and_self, if_true, hs]
   rfl
  rw [e];refine ⟨hm, fun a ha => ?_⟩;rw [if_neg (by omega), if_neg (by omega)];omega
theorem inv_new : Inv 0 newM := ⟨new_may, fun a _ => by rw [tot_new]; omega, fun A hA => by
 have : A = Lg.zA := by simpa [newM] using (List.mem_replicate.1 hA).2
 rw [this];exact Int.le_refl _⟩
theorem tot_pos {M : MdlV} (h : mayM M = true) (a : Int) : 0 ≤ totM M a := by
 obtain ⟨h8, h3, hA, hL⟩ := may_in h;have h1 := accS_pos M.a a hA;have h2 := lanS_pos M.l 1 a hL;unfold totM;omega
theorem inv_do {c : Int} {M : MdlV} (r : ReqV) (h : Inv c M) (hp : 0 ≤ c) (hc : c ≤ 900000000) : Inv (c + 1000000) (doM M r).1 := by
 by_cases h0 : (doM M r).2.code = 0
 ·obtain ⟨t1, t2⟩ := do_tot h hc h0;obtain ⟨hm, hf⟩ := do_fits h0;refine ⟨t1, fun a ha => ⟨tot_pos t1 a, ?_⟩, (doM_ct hp h.ct).mono (by omega)⟩;rw [t2 a ha];have := h.tot a ha
  by_cases k : r.kind = 1 ∧ a = r.asset
  ·have := ((Se.fitF1 k.1).1 hf).2.2.2.2.2.1;rw [if_pos k, if_neg (by omega)];omega
  ·rw [if_neg k]
   by_cases k2 : r.kind = 2 ∧ a = r.asset
   ·have := ((Se.fitF2 k2.1).1 hf).2.2.2.2.2.1;rw [if_pos k2];omega
   ·rw [if_neg k2];omega
 ·rw [(do_rej h0).1]
  exact ⟨h.may, fun a ha => ⟨(h.tot a ha).1, by have := (h.tot a ha).2; omega⟩, h.ct.mono (by omega)⟩
theorem inv_fold : ∀ (R : List ReqV) (M : MdlV) (c : Int), Inv c M → 0 ≤ c → c + 1000000 * R.length ≤ 900000000 → Inv (c + 1000000 * R.length) (R.foldl (fun M r => (doM M r).1) M)
 | [], M, c, h, _, _ => by simpa using h
 | r :: R, M, c, h, hp, hc => by
  rw [List.foldl_cons];rw [List.length_cons] at hc ⊢;have := inv_fold R _ (c + 1000000) (inv_do r h hp (by omega)) (by omega) (by omega);rw [show c + 1000000 * ((R.length + 1 : Nat) : Int) = c + 1000000 + 1000000 * (R.length : Int) by omega];exact this
theorem inv_ply (R : List ReqV) (h : R.length ≤ 100) : Inv 100000000 (plyM R) := by
 have := inv_fold R newM 0 inv_new (by omega) (by omega);unfold plyM
 exact ⟨this.may, fun a ha => ⟨(this.tot a ha).1, by have := (this.tot a ha).2; omega⟩, this.ct.mono (by omega)⟩
theorem getD_self {α : Type} {l : List α} {i : Nat} {x d : α} (h : i < l.length) : (l.set i x).getD i d = x := by
 rw [List.getD_eq_getElem?_getD, List.getElem?_set_self h]
 rfl
def netQ (acct : Int) : ReqV := ⟨7, acct, 0, 0, 0, 0, 0, false, (0, 0), 0⟩
theorem netQ_fits {acct : Int} (h : 1 ≤ acct ∧ acct ≤ 8) : Se.fitsB (netQ acct) = true := (Se.fitF7 rfl).2 ⟨h, rfl, rfl, rfl, rfl, rfl, rfl, rfl, rfl⟩
theorem net_again {M : MdlV} {acct : Int} (h : Inv 100000000 M) (hw : 1 ≤ acct ∧ acct ≤ 8) :
  (doM M (netQ acct)).2.code = 0 ∧ M.l.length = 3 ∧ M.a.length = 8 ∧ (doM M (netQ acct)).1.a.length = 8 ∧
  (∃ i : Nat, i < 8 ∧ acct = (i : Int) + 1 ∧ ∀ k : Nat, k < 4 → Lg.balL ((doM M (netQ acct)).1.a.getD i Lg.zA).l k = Lg.balL (M.a.getD i Lg.zA).l k + netS M acct k ∧ (0 ≤ netS M acct k ∧ netS M acct k ≤ 200000000)) ∧
  (doM (doM M (netQ acct)).1 (netQ acct)) = ((doM M (netQ acct)).1, ⟨0, 0, [], []⟩) := by
 have hfn := netQ_fits hw;obtain ⟨h8, h3, hA, hL⟩ := may_in h.may;obtain ⟨i, hi⟩ : ∃ i : Nat, (acct - 1).toNat = i := ⟨_, rfl⟩;have hi8 : i < 8 := by omega
 obtain ⟨m1, m2, m3, m4, m5, m6⟩ := do_net h (by omega) rfl hfn;have I1 := inv_do (netQ acct) h (by omega) (by omega);have hbal := fun a ha => I1.acc (i := i) hi8 (a := a) ha
 have hbal0 := fun a ha => h.acc (i := i) hi8 (a := a) ha
 rw [m1] at I1 hbal ⊢;obtain ⟨y8, y3, yA, yL⟩ := may_in m6;have hacc : ((netQ acct).acct - 1).toNat = i := hi;rw [hacc] at m3 m4;have hg : (netM M (netQ acct).acct).a.getD i Lg.zA = (payF (Lg.pre (netS M acct) 4) (M.a.getD i Lg.zA)).1 := by
  unfold netM;rw [hacc];exact getD_self (by omega)
 refine ⟨rfl, h3, h8, y8, ⟨i, hi8, by omega, fun k hk => ?_⟩, ?_⟩
 ·have x := m4 k hk;have b1 := hbal k (by omega);have b0 := hbal0 k (by omega);simp only at b1;rw [hg] at b1 ⊢;have x2 : 0 ≤ netS M acct k ∧ Lg.balL (payF (Lg.pre (netS M acct) 4) (M.a.getD i Lg.zA)).1.l k = Lg.balL (M.a.getD i Lg.zA).l k + netS M acct k := x;omega
 ·obtain ⟨k1, k2, k3, k4, k5, k6⟩ := do_net I1 (by omega) rfl hfn;simp only at k1 ⊢;rw [k1];have hz : ∀ q L k, tkS q acct (lefL acct L) k = 0 := by
   intro q L k;unfold tkS lefL takA
   simp only
   have : (lefA acct L.owed).filter (fun o => decide (o.acc = acct)) = [] := by
    unfold lefA;rw [List.filter_filter, List.filter_eq_nil_iff];intro o _
    simp
   rw [this]
   rfl
  have hn0 : ∀ k, netS (netM M acct) acct k = 0 := by
   intro k;have e : netS (netM M acct) acct k = tkS 1 acct (lefL acct (M.l.getD 0 zLane)) k + tkS 2 acct (lefL acct (M.l.getD 1 zLane)) k + tkS 3 acct (lefL acct (M.l.getD 2 zLane)) k := rfl;rw [e, hz, hz, hz]
   rfl
  have hp0 : Lg.pre (netS (netM M acct) acct) 4 = [] := by
   rw [Lg.pre_congr 4 (r := fun _ => 0) (fun k _ => hn0 k)]
   rfl
  have ha : (netQ acct).acct = acct := rfl;rw [ha, hp0];have hll : ∀ L, lefL acct (lefL acct L) = lefL acct L := by
   intro L;unfold lefL lefA
   simp only
   rw [List.filter_filter]
   simp
  have e : netM (netM M acct) acct = netM M acct := by
   have e1 : netM (netM M acct) acct = ⟨(netM M acct).a.set (acct - 1).toNat (payF (Lg.pre (netS (netM M acct) acct) 4) ((netM M acct).a.getD (acct - 1).toNat Lg.zA)).1, [lefL acct (lefL acct (M.l.getD 0 zLane)), lefL acct (lefL acct (M.l.getD 1 zLane)), lefL acct (lefL acct (M.l.getD 2 zLane))]⟩ := rfl;rw [e1, hp0, hll, hll, hll, hi];unfold payF
   simp only
   have e2 : (netM M acct).a.set i ((netM M acct).a.getD i Lg.zA) = (netM M acct).a := by
    rw [List.getD_eq_getElem?_getD, List.getElem?_eq_getElem (by rw [ha] at y8; omega)]
    exact List.set_getElem_self _
   rw [e2]
   rfl
  rw [e]
def lq1 : ReqV := ⟨1, 1, 0, 0, 0, 0, 100, false, (0, 0), 0⟩
def lq2 : ReqV := ⟨1, 2, 0, 1, 0, 0, 5, false, (0, 0), 0⟩
def lq3 : ReqV := ⟨3, 2, 1, 0, 2, 10, 5, false, (0, 0), 0⟩
def lq4 : ReqV := ⟨3, 1, 1, 0, 1, 12, 5, false, (0, 0), 0⟩
def lq5 : ReqV := ⟨7, 1, 0, 0, 0, 0, 0, false, (0, 0), 0⟩
def lq6 : ReqV := ⟨2, 1, 0, 0, 0, 0, 41, false, (0, 0), 0⟩
def lm1 : MdlV := (doM newM lq1).1
def lm2 : MdlV := (doM lm1 lq2).1
def lm3 : MdlV := (doM lm2 lq3).1
def lm4 : MdlV := (doM lm3 lq4).1
theorem lv_one : (doM newM lq1).2.code = 0 := by kernel_rfl
theorem lv_two : (doM lm1 lq2).2.code = 0 := by kernel_rfl
theorem lv_three : (doM lm2 lq3).2.num = 1 := by kernel_rfl
theorem lv_four : (doM lm3 lq4).2.num = 2 ∧ (doM lm3 lq4).2.fl.length = 1 := ⟨by kernel_rfl, by kernel_rfl⟩
theorem lv_five : (doM lm4 lq5).2.am.map (·.n) = [10, 5] := by kernel_rfl
theorem lv_six : (doM lm4 lq6).2.code = 6 := by kernel_rfl
end Go.Proofs.YtiinigifjdpicaaGreatDoor
