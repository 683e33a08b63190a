/- Texts of my own, laid together. -/
import Derived.Test.YtiinigifjdpicaaGreatDoorMb17
import Derived.Test.YtiinigifjdpicaaGreatDoorMb08
namespace Go.Proofs.YtiinigifjdpicaaGreatDoor
open Go.RowKit
set_option linter.all false
def lanH (q : Nat) (L : LaneV) (a : Int) : Int := (if a = 0 then holM L else 0) + (if a = (q : Int) then holG L else 0)
def lanS : List LaneV → Nat → Int → Int
 | [], _, _ => 0
 | L :: l, q, a => lanH q L a + lanS l (q + 1) a
def totM (M : MdlV) (a : Int) : Int := Lg.sumA M.a a + lanS M.l 1 a
theorem lanS_set : ∀ (l : List LaneV) (i q : Nat) (L : LaneV) (a : Int), i < l.length → lanS (l.set i L) q a = lanS l q a - lanH (q + i) (l.getD i zLane) a + lanH (q + i) L a
 | [], i, _, _, _, h => absurd h (by simp)
 | K :: l, 0, q, L, a, _ => by
  simp only [List.set_cons_zero, lanS, List.getD_cons_zero, Nat.add_zero];omega
 | K :: l, i + 1, q, L, a, h => by
  have ih := lanS_set l i (q + 1) L a (by simpa using h);simp only [List.set_cons_succ, lanS, List.getD_cons_succ, ih, (by omega : q + (i + 1) = q + 1 + i)];omega
theorem accS_set : ∀ (l : List AccV) (i : Nat) (A : AccV) (a : Int), i < l.length → Lg.sumA (l.set i A) a = Lg.sumA l a - Lg.balL (l.getD i Lg.zA).l a + Lg.balL A.l a
 | [], i, _, _, h => absurd h (by simp)
 | K :: l, 0, A, a, _ => by
  simp only [List.set_cons_zero, Lg.sumA, List.getD_cons_zero];omega
 | K :: l, i + 1, A, a, h => by
  have ih := accS_set l i A a (by simpa using h);simp only [List.set_cons_succ, Lg.sumA, List.getD_cons_succ, ih];omega
theorem lanH_pos {q : Nat} {L : LaneV} {a : Int} (h : chkB L = true) : 0 ≤ lanH q L a := by
 have := hol_bd h;unfold lanH
 split <;> split <;> omega
theorem lanS_pos : ∀ (l : List LaneV) (q : Nat) (a : Int), (∀ x ∈ l, chkB x = true) → 0 ≤ lanS l q a
 | [], _, _, _ => Int.le_refl _
 | L :: l, q, a, h => by
  have h1 := lanH_pos (q := q) (a := a) (h L (by simp));have h2 := lanS_pos l (q + 1) a (fun x hx => h x (List.mem_cons_of_mem _ hx));unfold lanS;omega
theorem lanS_at : ∀ (l : List LaneV) (i q : Nat) (a : Int), i < l.length → (∀ x ∈ l, chkB x = true) → lanH (q + i) (l.getD i zLane) a ≤ lanS l q a
 | [], i, _, _, h, _ => absurd h (by simp)
 | L :: l, 0, q, a, _, h => by
  have h2 := lanS_pos l (q + 1) a (fun x hx => h x (List.mem_cons_of_mem _ hx));simp only [lanS, List.getD_cons_zero, Nat.add_zero];omega
 | L :: l, i + 1, q, a, hi, h => by
  have h1 := lanH_pos (q := q) (a := a) (h L (by simp));have ih := lanS_at l i (q + 1) a (by simpa using hi) (fun x hx => h x (List.mem_cons_of_mem _ hx));simp only [lanS, List.getD_cons_succ, (by omega : q + (i + 1) = q + 1 + i)];omega
theorem accS_pos (l : List AccV) (a : Int) (h : ∀ x ∈ l, Lg.accB x = true) : 0 ≤ Lg.sumA l a := (Lg.sumA_in l a (List.all_eq_true.2 h)).1
theorem accS_at : ∀ (l : List AccV) (i : Nat) (a : Int), i < l.length → (∀ x ∈ l, Lg.accB x = true) → Lg.balL (l.getD i Lg.zA).l a ≤ Lg.sumA l a
 | [], i, _, h, _ => absurd h (by simp)
 | L :: l, 0, a, _, h => by
  have h2 := accS_pos l a (fun x hx => h x (List.mem_cons_of_mem _ hx));simp only [Lg.sumA, List.getD_cons_zero];omega
 | L :: l, i + 1, a, hi, h => by
  have h1 := (Lg.bal_in L.l _ a (Lg.accB_in (h L (by simp))).1).1;have ih := accS_at l i a (by simpa using hi) (fun x hx => h x (List.mem_cons_of_mem _ hx));simp only [Lg.sumA, List.getD_cons_succ];omega
structure Inv (c : Int) (M : MdlV) : Prop where
 may : mayM M = true
 tot : ∀ a, 0 ≤ a ∧ a ≤ 3 → 0 ≤ totM M a ∧ totM M a ≤ c
 ct : CtB c M.a
theorem Inv.acc {c : Int} {M : MdlV} (h : Inv c M) {i : Nat} (hi : i < 8) {a : Int} (ha : 0 ≤ a ∧ a ≤ 3) : 0 ≤ Lg.balL (M.a.getD i Lg.zA).l a ∧ Lg.balL (M.a.getD i Lg.zA).l a ≤ c := by
 obtain ⟨h8, h3, hA, hL⟩ := may_in h.may;have h1 := accS_at M.a i a (by omega) hA;have h2 := lanS_pos M.l 1 a hL;have h4 := h.tot a ha;have hm : M.a.getD i Lg.zA ∈ M.a := accD_mem (S := st0 M) (show i < M.a.length by omega);have h5 := Lg.bal_in _ _ a (Lg.accB_in (hA _ hm)).1;unfold totM at h4;omega
theorem Inv.lan {c : Int} {M : MdlV} (h : Inv c M) {i : Nat} (hi : i < 3) : chkB (M.l.getD i zLane) = true ∧ (0 ≤ holM (M.l.getD i zLane) ∧ holM (M.l.getD i zLane) ≤ c) ∧ (0 ≤ holG (M.l.getD i zLane) ∧ holG (M.l.getD i zLane) ≤ c) := by
 obtain ⟨h8, h3, hA, hL⟩ := may_in h.may;have hm : M.l.getD i zLane ∈ M.l := lanD_mem (S := st0 M) (show i < M.l.length by omega);have hk := hL _ hm;have hb := hol_bd hk;have m1 := lanS_at M.l i 1 0 (by omega) hL;have m2 := lanS_at M.l i 1 ((1 + i : Nat) : Int) (by omega) hL;have p1 := accS_pos M.a 0 hA;have p2 := accS_pos M.a ((1 + i : Nat) : Int) hA;have t1 := h.tot 0 (by omega);have t2 := h.tot ((1 + i : Nat) : Int) (by omega);unfold totM at t1 t2;unfold lanH at m1 m2;rw [if_pos rfl, if_neg (by omega)] at m1;rw [if_neg (by omega), if_pos rfl] at m2
 exact ⟨hk, ⟨hb.1.1, by omega⟩, hb.2.1, by omega⟩
theorem tot_new (a : Int) : totM newM a = 0 := by
 have h : holM newL = 0 ∧ holG newL = 0 := ⟨rfl, rfl⟩;have e : totM newM a = 0 + (0 + (0 + (0 + (0 + (0 + (0 + (0 + 0))))))) + (lanH 1 newL a + (lanH 2 newL a + (lanH 3 newL a + 0))) := rfl;rw [e];unfold lanH;rw [h.1, h.2]
 repeat' split
 all_goals rfl
theorem cred_acc {A : AccV} {a n : Int} (h : (Lg.credL A a n).2 = 0) : Lg.accB (Lg.credL A a n).1 = true ∧ (∀ b, 0 ≤ b ∧ b ≤ 3 → Lg.balL (Lg.credL A a n).1.l b = Lg.balL A.l b + if b = a then n else 0) ∧ (Lg.credL A a n).1.ct = A.ct + 1 := by
 obtain ⟨hr, hb, hc, he⟩ := Lg.cred_ok h;obtain ⟨hA, ha, hn⟩ := Lg.refI_in hr;have hi := Lg.accB_in hA;have hbi := Lg.bal_in A.l _ a hi.1;rw [he];refine ⟨Lg.accB_mk (Lg.more_ok hi.1 ⟨by omega, hb⟩) ⟨by simp only; omega, by simp only; omega⟩, fun b hbb => Lg.more_at hi.1 ⟨by omega, hb⟩ b hbb, rfl⟩
theorem deb_acc {A : AccV} {a n : Int} (h : (Lg.debL A a n).2 = 0) : Lg.accB (Lg.debL A a n).1 = true ∧ (∀ b, 0 ≤ b ∧ b ≤ 3 → Lg.balL (Lg.debL A a n).1.l b = Lg.balL A.l b - if b = a then n else 0) ∧ (Lg.debL A a n).1.ct = A.ct + 1 := by
 obtain ⟨hr, hb, hc, he⟩ := Lg.deb_ok h;obtain ⟨hA, ha, hn⟩ := Lg.refI_in hr;have hi := Lg.accB_in hA;have hbi := Lg.bal_in A.l _ a hi.1;rw [he];refine ⟨Lg.accB_mk (Lg.more_ok hi.1 ⟨by omega, by omega⟩) ⟨by simp only; omega, by simp only; omega⟩, fun b hbb => ?_, rfl⟩
 rw [show Lg.balL (Lg.pre (Lg.moreS A.l a (-n)) 4) b = _ from Lg.more_at hi.1 ⟨by omega, by omega⟩ b hbb]
 split <;> omega
theorem payF_ok : ∀ (l : List AmtV) (A : AccV), Lg.accB A = true → (payF l A).2 = 0 → Lg.accB (payF l A).1 = true ∧ (∀ b, 0 ≤ b ∧ b ≤ 3 → Lg.balL (payF l A).1.l b = Lg.balL A.l b + Lg.sumL l b) ∧ (payF l A).1.ct = A.ct + l.length
 | [], A, hA, _ => ⟨hA, fun b _ => by simp [payF, Lg.sumL], by simp [payF]⟩
 | e :: l, A, hA, h => by
  unfold payF at h ⊢
  by_cases h0 : (Lg.credL A e.k e.n).2 = 0
  ·rw [if_pos h0] at h ⊢;obtain ⟨k1, k2, k3⟩ := cred_acc h0;obtain ⟨i1, i2, i3⟩ := payF_ok l _ k1 h;refine ⟨i1, fun b hb => ?_, ?_⟩
   ·rw [i2 b hb, k2 b hb];simp only [Lg.sumL]
    by_cases c : b = e.k
    ·rw [if_pos c, if_pos c.symm]; omega
    ·rw [if_neg c, if_neg (fun d => c d.symm)]; omega
   ·rw [i3, k3, List.length_cons];omega
  ·rw [if_neg h0] at h;exact absurd h h0
theorem sumL_pos (l : List AmtV) (a : Int) (h : ∀ e ∈ l, 1 ≤ e.n) : 0 ≤ Lg.sumL l a := Lg.sum_pos l a h
theorem payF_do : ∀ (l : List AmtV) (A : AccV), Lg.accB A = true → (∀ e ∈ l, (0 ≤ e.k ∧ e.k ≤ 3) ∧ 1 ≤ e.n ∧ e.n ≤ 9007199254740992) → (∀ b, 0 ≤ b ∧ b ≤ 3 → Lg.balL A.l b + Lg.sumL l b ≤ 9007199254740992) → A.ct + l.length ≤ 1000000000 → (payF l A).2 = 0
 | [], _, _, _, _, _ => rfl
 | e :: l, A, hA, he, hb, hc => by
  have h1 := he e (by simp);have hl : ∀ x ∈ l, 1 ≤ x.n := fun x hx => (he x (List.mem_cons_of_mem _ hx)).2.1
  have hs := sumL_pos l e.k hl;have hbe := hb e.k h1.1;simp only [Lg.sumL, if_true] at hbe;rw [List.length_cons] at hc;have h0 : (Lg.credL A e.k e.n).2 = 0 := by
   unfold Lg.credL;rw [if_pos (Lg.refI_mk hA h1.1 h1.2), if_neg (by omega)]
  obtain ⟨k1, k2, k3⟩ := cred_acc h0;unfold payF;rw [if_pos h0];refine payF_do l _ k1 (fun x hx => he x (List.mem_cons_of_mem _ hx)) (fun b hbb => ?_) (by omega);have := hb b hbb;simp only [Lg.sumL] at this;rw [k2 b hbb]
  by_cases c : b = e.k
  ·rw [if_pos c]; rw [if_pos c.symm] at this; omega
  ·rw [if_neg c]; rw [if_neg (fun d => c d.symm)] at this; omega
theorem assQ0 {q : Int} {e : AmV} (h : e.asset = 0) : assQ q e = 0 := by
 unfold assQ;rw [h]
 rfl
theorem assQ1 {q : Nat} {e : AmV} (h : e.asset = 1) : assQ (q : Int) e = q := by
 unfold assQ;rw [if_pos h];exact Int.toNat_natCast q
def amS (q : Nat) : List AmV → Nat → Int
 | [], _ => 0
 | e :: l, k => (if assQ (q : Int) e = k then e.n else 0) + amS q l k
theorem wr_id {x : Int} (h : -9223372036854775808 ≤ x ∧ x ≤ 9223372036854775807) : wr64 x = x := by
 unfold wr64 RowKit.wrap64;omega
theorem amS_pos (q : Nat) : ∀ (l : List AmV) (k : Nat), (∀ e ∈ l, 1 ≤ e.n) → 0 ≤ amS q l k
 | [], _, _ => Int.le_refl _
 | e :: l, k, h => by
  have h1 := h e (by simp);have h2 := amS_pos q l k (fun x hx => h x (List.mem_cons_of_mem _ hx));unfold amS
  split <;> omega
theorem addT_is (q : Nat) (c : Int) (hc : c ≤ 9223372036854775807) : ∀ (l : List AmV) (s : Nat → Int), (∀ e ∈ l, 1 ≤ e.n) → (∀ k, 0 ≤ s k ∧ s k + amS q l k ≤ c) → ∀ k, addT q l s k = s k + amS q l k
 | [], s, _, _, k => by simp [addT, amS]
 | e :: l, s, he, h, k => by
  have h1 := he e (by simp);have hl : ∀ x ∈ l, 1 ≤ x.n := fun x hx => he x (List.mem_cons_of_mem _ hx)
  have hk := h (assQ q e);have hp := amS_pos q l (assQ q e) hl;simp only [amS, if_true] at hk;unfold addT;have hw : wr64 (s (assQ q e) + e.n) = s (assQ q e) + e.n := wr_id (by omega);rw [hw];have hu : ∀ j, Lg.upS s (assQ q e) (s (assQ q e) + e.n) j = s j + if assQ q e = j then e.n else 0 := by
   intro j;unfold Lg.upS
   by_cases d : j = assQ q e
   ·rw [if_pos d, if_pos d.symm, d]
   ·rw [if_neg d, if_neg (fun x => d x.symm)]; omega
  rw [addT_is q c hc l _ hl (fun j => by
   have := h j;simp only [amS] at this;rw [hu j]
   split at this <;> split <;> omega) k, hu k]
  simp only [amS];omega
theorem tak_sum (q : Nat) (hq : 1 ≤ q) (acc : Int) : ∀ (l : List OweV) (k : Nat), (∀ y ∈ l, y.asset = 0 ∨ y.asset = 1) → amS q (takA acc l) k = (if k = 0 then sumA 0 l - sumA 0 (lefA acc l) else 0) + (if k = q then sumA 1 l - sumA 1 (lefA acc l) else 0)
 | [], k, _ => by simp [takA, lefA, amS, sumA]
 | y :: l, k, h => by
  have ih := tak_sum q hq acc l k (fun x hx => h x (List.mem_cons_of_mem _ hx));have hy := h y (by simp)
  by_cases c : y.acc = acc
  ·have e1 : takA acc (y :: l) = ⟨y.asset, y.n⟩ :: takA acc l := by
    unfold takA;rw [List.filter_cons_of_pos (by simpa using c), List.map_cons]
   have e2 : lefA acc (y :: l) = lefA acc l := by
    unfold lefA;rw [List.filter_cons_of_neg (by simpa using c)]
   rw [e1, e2];simp only [amS, ih, assQ, sumA, List.map_cons, List.sum_cons]
   rcases hy with hy | hy
   ·rw [hy];simp only [if_true, show ¬ (0 : Int) = 1 by decide, if_false, Int.toNat_zero]
    by_cases d : k = 0
    ·subst d;simp only [if_true, show ¬ (0 : Nat) = q by omega, if_false];omega
    ·rw [if_neg (fun x => d x.symm), if_neg d, if_neg d]
     by_cases f : k = q
     ·rw [if_pos f, if_pos f]; omega
     ·rw [if_neg f, if_neg f]; omega
   ·rw [hy];simp only [if_true, show ¬ (1 : Int) = 0 by decide, if_false, Int.toNat_natCast]
    by_cases d : k = 0
    ·subst d;simp only [if_true, show ¬ (0 : Nat) = q by omega, show ¬ q = (0 : Nat) by omega, if_false];omega
    ·rw [if_neg d, if_neg d]
     by_cases f : k = q
     ·rw [if_pos f, if_pos f, if_pos f.symm]; omega
     ·rw [if_neg f, if_neg f, if_neg (fun x => f x.symm)]; omega
  ·have e1 : takA acc (y :: l) = takA acc l := by
    unfold takA;rw [List.filter_cons_of_neg (by simpa using c)]
   have e2 : lefA acc (y :: l) = y :: lefA acc l := by
    unfold lefA;rw [List.filter_cons_of_pos (by simpa using c)]
   rw [e1, e2, ih];simp only [sumA, List.map_cons, List.sum_cons]
   split <;> split <;> omega
def lefL (acc : Int) (L : LaneV) : LaneV := ⟨L.call, L.next, L.bids, L.asks, lefA acc L.owed⟩
def tkS (q : Nat) (acc : Int) (L : LaneV) (k : Nat) : Int := amS q (takA acc L.owed) k
theorem owe_mem {L : LaneV} (h : chkB L = true) : ∀ y ∈ L.owed, (1 ≤ y.acc ∧ y.acc ≤ 8) ∧ (y.asset = 0 ∨ y.asset = 1) ∧ 1 ≤ y.n ∧ y.n ≤ 9007199254740992 := by
 intro o ho;have hb := ((chk_bok _).1 h).ow;unfold owedB at hb;simp only [Bool.and_eq_true, Bool.not_eq_true', List.any_eq_false] at hb;have h2 := hb.1 o ho;unfold stoB at h2;simp only [Bool.or_eq_true, not_or, Bool.not_eq_true', Bool.not_eq_false] at h2;have h3 := wiB_in h2.1.2;have h4 := wiB_in h2.2;have h5 := wiB_in h2.1.1;omega
theorem tks_hold {q : Nat} (hq : 1 ≤ q) {acc : Int} {L : LaneV} (h : chkB L = true) (k : Nat) : lanH q (lefL acc L) k + tkS q acc L k = lanH q L k := by
 have := tak_sum q hq acc L.owed k (fun y hy => (owe_mem h y hy).2.1);have e0 : ((k : Int) = 0) ↔ k = 0 := by omega
 have e1 : ((k : Int) = (q : Int)) ↔ k = q := by omega
 unfold tkS lanH lefL holM holG;rw [this];simp only [e0, e1]
 by_cases d : k = 0
 ·by_cases f : k = q
  ·omega
  ·simp only [if_pos d, if_neg f]; omega
 ·by_cases f : k = q
  ·simp only [if_neg d, if_pos f]; omega
  ·simp only [if_neg d, if_neg f]; omega
theorem tks_pos {q : Nat} {acc : Int} {L : LaneV} (h : chkB L = true) (k : Nat) : 0 ≤ tkS q acc L k := amS_pos q _ k (fun e he => (tak_mem h e he).2.1)
theorem tak_le {q : Nat} (hq : 1 ≤ q) {c : Int} : ∀ (l : List AmV), (∀ e ∈ l, (e.asset = 0 ∨ e.asset = 1) ∧ 1 ≤ e.n) → amS q l 0 ≤ c → amS q l q ≤ c → ∀ e ∈ l, e.n ≤ c
 | [], _, _, _ => by simp
 | x :: l, h, h0, h1 => by
  have hx := h x (by simp);have hl : ∀ e ∈ l, (e.asset = 0 ∨ e.asset = 1) ∧ 1 ≤ e.n := fun e he => h e (List.mem_cons_of_mem _ he)
  have p0 := amS_pos q l 0 (fun e he => (hl e he).2);have p1 := amS_pos q l q (fun e he => (hl e he).2);simp only [amS] at h0 h1;intro e he;have hsub : amS q l 0 ≤ c ∧ amS q l q ≤ c ∧ x.n ≤ c := by
   rcases hx.1 with hy | hy
   ·rw [assQ0 hy] at h0 h1;rw [if_pos rfl] at h0;rw [if_neg (by omega)] at h1;omega
   ·rw [assQ1 hy] at h0 h1;rw [if_pos rfl] at h1;rw [if_neg (by omega)] at h0;omega
  rcases List.mem_cons.1 he with rfl | he
  ·exact hsub.2.2
  ·exact tak_le hq l hl hsub.1 hsub.2.1 e he
theorem lef_chk {acc : Int} {L : LaneV} (h : chkB L = true) : chkB (lefL acc L) = true := left_chk h
def netS (M : MdlV) (acc : Int) (k : Nat) : Int := tkS 1 acc (M.l.getD 0 zLane) k + tkS 2 acc (M.l.getD 1 zLane) k + tkS 3 acc (M.l.getD 2 zLane) k
def netM (M : MdlV) (acc : Int) : MdlV := ⟨M.a.set (acc - 1).toNat (payF (Lg.pre (netS M acc) 4) (M.a.getD (acc - 1).toNat Lg.zA)).1, [lefL acc (M.l.getD 0 zLane), lefL acc (M.l.getD 1 zLane), lefL acc (M.l.getD 2 zLane)]⟩
theorem three {α : Type} {l : List α} (h : l.length = 3) (d : α) : l = [l.getD 0 d, l.getD 1 d, l.getD 2 d] := by
 match l, h with
 | [a, b, c], _ => rfl
theorem above_no {α : Type} {f : α → Int} {l : List α} {m : Int} (h : ∀ e ∈ l, f e ≤ m) : aboveB f l m = false := by
 unfold aboveB;rw [List.any_eq_false];intro e he;have := h e he;simp only [decide_eq_true_eq];omega
theorem bal_mem : ∀ (l : List AmtV) (x : Int), Lg.amtsB l x = true → ∀ e ∈ l, Lg.balL l e.k = e.n
 | [], _, _ => by simp
 | c :: l, x, h => by
  intro e he;have hm := Lg.amts_mem (c :: l) x h
  rcases List.mem_cons.1 he with rfl | he
  ·simp [Lg.balL]
  ·have h2 : Lg.amtsB l c.k = true := by
    unfold Lg.amtsB at h;simp only [Bool.and_eq_true] at h;exact h.2
   have h3 := Lg.amts_mem l c.k h2 e he;have ih := bal_mem l c.k h2 e he;unfold Lg.balL;rw [if_neg (by omega)];exact ih
theorem st_net {r : ReqV} (hk : r.kind = 7) {S : StV} {i q : Nat} {c : Int} (hq : 1 ≤ q) (hc : c ≤ 1000000000) (hw : 1 ≤ r.acct ∧ r.acct ≤ 8) (hi : chkB (lanD S i) = true) (hm : holM (lanD S i) ≤ c) (hg : holG (lanD S i) ≤ c) (hs : ∀ k, 0 ≤ S.s k ∧ S.s k ≤ 2000000000) : ∃ s', (∀ k, s' k = S.s k + tkS q r.acct (lanD S i) k) ∧ stLan r i q S = ({S with l := S.l.set i (lefL r.acct (lanD S i)), s := s'}, 0) := by
 have hmem := tak_mem (acc := r.acct) hi;have hh := fun k => tks_hold hq (acc := r.acct) hi k
 have hl := hol_bd (lef_chk (acc := r.acct) hi);have h0 := hh 0;have h1 := hh q;unfold lanH at h0 h1;have z0 : ((0 : Nat) : Int) = 0 := rfl;have z1 : ¬ ((0 : Int) = (q : Int)) := by omega
 have z2 : ¬ ((q : Int) = 0) := by omega
 have hp0 := hol_bd hi;simp only [z0, z1, z2, if_true, if_false] at h0 h1;have hle := tak_le hq (c := c) (takA r.acct (lanD S i).owed) (fun e he => ⟨(hmem e he).1, (hmem e he).2.1⟩) (by unfold tkS at h0; omega) (by unfold tkS at h1; omega)
 have hbnd : ∀ k, tkS q r.acct (lanD S i) k ≤ c := by
  intro k;have h2 := hh k;have hp := lanH_pos (q := q) (a := k) (lef_chk (acc := r.acct) hi);unfold lanH at h2 hp
  split at h2 <;> split at h2 <;> omega
 have htk : takR (lanD S i) r.acct = (lefL r.acct (lanD S i), takA r.acct (lanD S i).owed, 0) := by
  unfold takR;rw [if_neg (by rw [hi]; decide), if_neg (by unfold wiB; rw [decide_eq_true hw]; decide)]
  rfl
 refine ⟨addT q (takA r.acct (lanD S i).owed) S.s, fun k => addT_is q 9223372036854775807 (Int.le_refl _) _ _ (fun e he => (hmem e he).2.1) (fun k => by have := hbnd k; have := hs k; unfold tkS at *; omega) k, ?_⟩
 unfold stLan;rw [if_neg (by omega), if_neg (by omega), if_neg (by omega), if_neg (by omega), if_pos hk, htk]
 simp only
 rw [above_no (fun e he => by have := hle e he; omega)]
 simp
theorem do_net {c : Int} {M : MdlV} {r : ReqV} (h : Inv c M) (hc : c ≤ 900000000) (hk : r.kind = 7) (hf : Se.fitsB r = true) :
  doM M r = (netM M r.acct, ⟨0, 0, Lg.pre (netS M r.acct) 4, []⟩) ∧ (1 ≤ r.acct ∧ r.acct ≤ 8) ∧
  Lg.accB (payF (Lg.pre (netS M r.acct) 4) (M.a.getD (r.acct - 1).toNat Lg.zA)).1 = true ∧
  (∀ k : Nat, k < 4 → 0 ≤ netS M r.acct k ∧ Lg.balL (payF (Lg.pre (netS M r.acct) 4) (M.a.getD (r.acct - 1).toNat Lg.zA)).1.l k = Lg.balL (M.a.getD (r.acct - 1).toNat Lg.zA).l k + netS M r.acct k) ∧
  (∀ a, 0 ≤ a ∧ a ≤ 3 → totM (netM M r.acct) a = totM M a) ∧ mayM (netM M r.acct) = true := by
 have hw := ((Se.fitF7 hk).1 hf).1;obtain ⟨i, hi⟩ : ∃ i : Nat, (r.acct - 1).toNat = i := ⟨_, rfl⟩;have hi8 : i < 8 := by omega
 rw [hi];obtain ⟨h8, h3, hA, hL⟩ := may_in h.may;have e3 := three h3 zLane;obtain ⟨a1, b1, c1⟩ := h.lan (i := 0) (by omega);obtain ⟨a2, b2, c2⟩ := h.lan (i := 1) (by omega);obtain ⟨a3, b3, c3⟩ := h.lan (i := 2) (by omega);have hAm : M.a.getD i Lg.zA ∈ M.a := accD_mem (S := st0 M) (show i < M.a.length by omega);have hab := hA _ hAm;have hct := h.ct _ hAm;have hbal := fun a ha => h.acc (i := i) hi8 (a := a) ha
 have hN : ∀ k, netS M r.acct k = tkS 1 r.acct (M.l.getD 0 zLane) k + tkS 2 r.acct (M.l.getD 1 zLane) k + tkS 3 r.acct (M.l.getD 2 zLane) k := fun k => rfl
 have hT : ∀ a, totM M a = Lg.sumA M.a a + (lanH 1 (M.l.getD 0 zLane) a + (lanH 2 (M.l.getD 1 zLane) a + (lanH 3 (M.l.getD 2 zLane) a + 0))) := fun a => by
  unfold totM;rw [e3]
  rfl
 have hI : ∀ a, 0 ≤ a ∧ a ≤ 3 → totM M a ≤ c := fun a ha => (h.tot a ha).2
 have hAS := accS_at M.a i;have hset := fun (X : AccV) (a : Int) => accS_set M.a i X a (by omega)
 unfold netM;rw [hi];generalize hL1 : M.l.getD 0 zLane = L1 at *;generalize hL2 : M.l.getD 1 zLane = L2 at *;generalize hL3 : M.l.getD 2 zLane = L3 at *;generalize hAA : M.a.getD i Lg.zA = A at *;have s1 := fun k => tks_hold (by decide : 1 ≤ 1) (acc := r.acct) a1 k
 have s2 := fun k => tks_hold (by decide : 1 ≤ 2) (acc := r.acct) a2 k
 have s3 := fun k => tks_hold (by decide : 1 ≤ 3) (acc := r.acct) a3 k
 have p1 := fun k => tks_pos (q := 1) (acc := r.acct) a1 k
 have p2 := fun k => tks_pos (q := 2) (acc := r.acct) a2 k
 have p3 := fun k => tks_pos (q := 3) (acc := r.acct) a3 k
 have q1 := fun (k : Int) => lanH_pos (q := 1) (a := k) (lef_chk (acc := r.acct) a1)
 have q2 := fun (k : Int) => lanH_pos (q := 2) (a := k) (lef_chk (acc := r.acct) a2)
 have q3 := fun (k : Int) => lanH_pos (q := 3) (a := k) (lef_chk (acc := r.acct) a3)
 have u1 : ∀ k, tkS 1 r.acct L1 k ≤ c := by
  intro k; have x := s1 k; have y := q1 k; unfold lanH at x y; split at x <;> split at x <;> omega
 have u2 : ∀ k, tkS 2 r.acct L2 k ≤ c := by
  intro k; have x := s2 k; have y := q2 k; unfold lanH at x y; split at x <;> split at x <;> omega
 have hin : ∀ k : Nat, k < 4 → 0 ≤ netS M r.acct k ∧ netS M r.acct k + Lg.balL A.l k ≤ c := by
  intro k hk4;have x1 := s1 k; have x2 := s2 k; have x3 := s3 k
  have y1 := q1 k; have y2 := q2 k; have y3 := q3 k
  have z1 := p1 k; have z2 := p2 k; have z3 := p3 k
  have t := hT k;have t2 := hI k (by omega);have t3 := hAS k (by omega) hA;have := hN k;omega
 have hpre : ∀ k : Nat, k < 4 → 0 ≤ netS M r.acct k ∧ netS M r.acct k ≤ 9007199254740992 := fun k hk4 => by
  have := hin k hk4;have := hbal k (by omega);omega
 have hok := Lg.pre_ok hpre;have hpb : ∀ b, 0 ≤ b ∧ b ≤ 3 → Lg.sumL (Lg.pre (netS M r.acct) 4) b = netS M r.acct b.toNat := fun b hb => by
  obtain ⟨k, rfl⟩ : ∃ k : Nat, b = k := Int.eq_ofNat_of_zero_le hb.1;rw [Lg.sum_bal _ _ _ hok, Lg.pre_bal hpre k (by omega), Int.toNat_natCast]
 have hplen := Lg.pre_len (netS M r.acct) 4;have hpay : (payF (Lg.pre (netS M r.acct) 4) A).2 = 0 := by
  refine payF_do _ _ hab (fun e he => ⟨(Lg.amts_mem _ _ hok e he).2.1, (Lg.amts_mem _ _ hok e he).2.2⟩) (fun b hb => ?_) (by omega);rw [hpb b hb];have := hin b.toNat (by omega);rw [show ((b.toNat : Nat) : Int) = b by omega] at this;omega
 obtain ⟨k1, k2, k3⟩ := payF_ok _ _ hab hpay;have hbals : ∀ k : Nat, k < 4 → Lg.balL (payF (Lg.pre (netS M r.acct) 4) A).1.l k = Lg.balL A.l k + netS M r.acct k := fun k hk4 => by
  rw [k2 k (by omega), hpb k (by omega), Int.toNat_natCast]
 refine ⟨?_, hw, k1, fun k hk4 => ⟨(hin k hk4).1, hbals k hk4⟩, ?_, ?_⟩
 ·have hkeys : turL r = [(2, 1), (2, 2), (2, 3), (1, r.acct)] := by
   unfold turL;rw [if_pos hk, Se.keysK7 hk hf]
   rfl
  have g1 : lanD (st0 M) 0 = L1 := hL1;obtain ⟨f1, w1, v1⟩ := st_net hk (S := st0 M) (i := 0) (q := 1) (c := c) (by decide) (by omega) hw (by rw [g1]; exact a1) (by rw [g1]; omega) (by rw [g1]; omega) (fun k => ⟨Int.le_refl _, (by decide : (0 : Int) ≤ 2000000000)⟩)
  rw [g1] at w1 v1;have g2 : lanD {st0 M with l := (st0 M).l.set 0 (lefL r.acct L1), s := f1} 1 = L2 := by
   show ((M.l.set 0 (lefL r.acct L1)).getD 1 zLane) = L2
   rw [e3]
   rfl
  obtain ⟨f2, w2, v2⟩ := st_net hk (S := {st0 M with l := (st0 M).l.set 0 (lefL r.acct L1), s := f1}) (i := 1) (q := 2) (c := c) (by decide) (by omega) hw (by rw [g2]; exact a2) (by rw [g2]; omega) (by rw [g2]; omega) (fun k => by
   have e : f1 k = 0 + tkS 1 r.acct L1 k := w1 k;have := p1 k;have := u1 k
   show 0 ≤ f1 k ∧ f1 k ≤ 2000000000
   omega)
  rw [g2] at w2 v2;have g3 : lanD {st0 M with l := ((st0 M).l.set 0 (lefL r.acct L1)).set 1 (lefL r.acct L2), s := f2} 2 = L3 := by
   show (((M.l.set 0 (lefL r.acct L1)).set 1 (lefL r.acct L2)).getD 2 zLane) = L3
   rw [e3]
   rfl
  have e2 : ∀ k, f2 k = tkS 1 r.acct L1 k + tkS 2 r.acct L2 k := fun k => by
   have x : f2 k = f1 k + tkS 2 r.acct L2 k := w2 k;have y : f1 k = 0 + tkS 1 r.acct L1 k := w1 k;omega
  obtain ⟨f3, w3, v3⟩ := st_net hk (S := {st0 M with l := ((st0 M).l.set 0 (lefL r.acct L1)).set 1 (lefL r.acct L2), s := f2}) (i := 2) (q := 3) (c := c) (by decide) (by omega) hw (by rw [g3]; exact a3) (by rw [g3]; omega) (by rw [g3]; omega) (fun k => by
   have := p1 k;have := u1 k;have := p2 k;have := u2 k;have := e2 k
   show 0 ≤ f2 k ∧ f2 k ≤ 2000000000
   omega)
  rw [g3] at w3 v3;have ef : f3 = netS M r.acct := by
   funext k
   have x : f3 k = f2 k + tkS 3 r.acct L3 k := w3 k;rw [x, e2 k, hN k]
  subst ef;have hl3 : (((M.l.set 0 (lefL r.acct L1)).set 1 (lefL r.acct L2)).set 2 (lefL r.acct L3)) = [lefL r.acct L1, lefL r.acct L2, lefL r.acct L3] := by
   rw [e3]
   rfl
  have v4 : stAcc r i {st0 M with l := [lefL r.acct L1, lefL r.acct L2, lefL r.acct L3], s := netS M r.acct} = ({st0 M with a := M.a.set i (payF (Lg.pre (netS M r.acct) 4) A).1, l := [lefL r.acct L1, lefL r.acct L2, lefL r.acct L3], s := netS M r.acct, am := Lg.pre (netS M r.acct) 4}, 0) := by
   unfold stAcc;rw [if_neg (by omega), if_neg (by omega), if_neg (by omega), if_pos hk];have hAD : accD {st0 M with l := [lefL r.acct L1, lefL r.acct L2, lefL r.acct L3], s := netS M r.acct} i = A := hAA;rw [hAD]
   simp only
   rw [above_no (fun e he => by
    have hm := Lg.amts_mem _ _ (Lg.accB_in hab).1 e he;have := hbal e.k hm.2.1;rw [bal_mem _ _ (Lg.accB_in hab).1 e he] at this
    omega), hpay]
   rw [if_neg (by simp only [Bool.false_or, decide_eq_true_eq]; omega)]
   rfl
  unfold doM;rw [h.may, hf, hkeys];have hrun : runT r [(2, 1), (2, 2), (2, 3), (1, r.acct)] (st0 M) = ({st0 M with a := M.a.set i (payF (Lg.pre (netS M r.acct) 4) A).1, l := [lefL r.acct L1, lefL r.acct L2, lefL r.acct L3], s := netS M r.acct, am := Lg.pre (netS M r.acct) 4}, 0) := by
   have x1 : stAt r (2, 1) (st0 M) = stLan r 0 ((1 : Nat) : Int) (st0 M) := by
    unfold stAt;rw [if_neg (by omega)]
    rfl
   have x2 : stAt r (2, 2) {st0 M with l := (st0 M).l.set 0 (lefL r.acct L1), s := f1} = stLan r 1 ((2 : Nat) : Int) {st0 M with l := (st0 M).l.set 0 (lefL r.acct L1), s := f1} := by
    unfold stAt;rw [if_neg (by omega)]
    rfl
   have x3 : stAt r (2, 3) {st0 M with l := ((st0 M).l.set 0 (lefL r.acct L1)).set 1 (lefL r.acct L2), s := f2} = stLan r 2 ((3 : Nat) : Int) {st0 M with l := ((st0 M).l.set 0 (lefL r.acct L1)).set 1 (lefL r.acct L2), s := f2} := by
    unfold stAt;rw [if_neg (by omega)]
    rfl
   have x4 : stAt r (1, r.acct) {st0 M with l := [lefL r.acct L1, lefL r.acct L2, lefL r.acct L3], s := netS M r.acct} = stAcc r i {st0 M with l := [lefL r.acct L1, lefL r.acct L2, lefL r.acct L3], s := netS M r.acct} := by
    unfold stAt;rw [if_neg (by omega), if_pos rfl]
    simp only
    rw [hi]
   simp only [st0] at x1 x2 x3 x4 v1 v2 v3 v4 ⊢;rw [hl3] at v3;rw [runT_cons, x1, v1];simp only [if_true];rw [runT_cons, x2, v2];simp only [if_true];rw [runT_cons, x3, v3];simp only [if_true];rw [runT_cons, x4, v4];simp only [if_true]
   rfl
  rw [hrun]
  rfl
 ·intro a ha;obtain ⟨k, rfl⟩ : ∃ k : Nat, a = k := Int.eq_ofNat_of_zero_le ha.1;have x1 := s1 k; have x2 := s2 k; have x3 := s3 k
  rw [hT k];have e : totM ⟨M.a.set i (payF (Lg.pre (netS M r.acct) 4) A).1, [lefL r.acct L1, lefL r.acct L2, lefL r.acct L3]⟩ k = Lg.sumA (M.a.set i (payF (Lg.pre (netS M r.acct) 4) A).1) k + (lanH 1 (lefL r.acct L1) k + (lanH 2 (lefL r.acct L2) k + (lanH 3 (lefL r.acct L3) k + 0))) := rfl;rw [e, hset, hbals k (by omega), hN k];omega
 ·unfold mayM;simp only [List.length_set, List.length_cons, List.length_nil, Bool.and_eq_true, decide_eq_true_eq, List.all_eq_true];refine ⟨h8, trivial, all_set hA k1, fun x hx => ?_⟩;simp only [List.mem_cons, List.not_mem_nil, or_false] at hx
  rcases hx with rfl | rfl | rfl
  ·exact lef_chk a1
  ·exact lef_chk a2
  ·exact lef_chk a3
theorem do_fits {M : MdlV} {r : ReqV} (h : (doM M r).2.code = 0) : mayM M = true ∧ Se.fitsB r = true := by
 have hm : mayM M = true := by
  cases hc : mayM M with
  | true => rfl
  | false =>
   unfold doM at h;rw [hc] at h
   simp at h
 refine ⟨hm, ?_⟩;cases hc : Se.fitsB r with
 | true => rfl
 | false =>
  unfold doM at h;rw [hm, hc] at h
  simp at h
theorem do_ord {M : MdlV} {r : ReqV} (hm : mayM M = true) (hf : Se.fitsB r = true) (hk : r.kind = 3) {i j : Nat} (hi : (r.acct - 1).toNat = i) (hj : (r.lane - 1).toNat = j) :
  doM M r = if (Lg.debL (M.a.getD i Lg.zA) (brA_ r) (brN_ r)).2 = 0 then (if (placeL (M.l.getD j zLane) r.acct r.side r.price r.n r.now).2.2.2 = 0 then (⟨M.a.set i (Lg.debL (M.a.getD i Lg.zA) (brA_ r) (brN_ r)).1, M.l.set j (placeL (M.l.getD j zLane) r.acct r.side r.price r.n r.now).1⟩, ⟨0, (placeL (M.l.getD j zLane) r.acct r.side r.price r.n r.now).2.2.1, [], (placeL (M.l.getD j zLane) r.acct r.side r.price r.n r.now).2.1⟩) else (M, ⟨6, 0, [], []⟩)) else (M, ⟨6, 0, [], []⟩) := by
 have hkeys : turL r = [(1, r.acct), (2, r.lane)] := by
  unfold turL;rw [if_neg (by omega), Se.keysK3 hk hf]
 have s1 : stAt r (1, r.acct) (st0 M) = ({st0 M with a := M.a.set i (Lg.debL (M.a.getD i Lg.zA) (brA_ r) (brN_ r)).1}, (Lg.debL (M.a.getD i Lg.zA) (brA_ r) (brN_ r)).2) := by
  unfold stAt stAcc;rw [if_neg (by omega), if_pos rfl, if_neg (by omega), if_pos hk]
  simp only
  rw [hi]
  rfl
 have s2 : ∀ X, stAt r (2, r.lane) {st0 M with a := X} = ({st0 M with a := X, l := M.l.set j (placeL (M.l.getD j zLane) r.acct r.side r.price r.n r.now).1, fl := (placeL (M.l.getD j zLane) r.acct r.side r.price r.n r.now).2.1, num := (placeL (M.l.getD j zLane) r.acct r.side r.price r.n r.now).2.2.1}, (placeL (M.l.getD j zLane) r.acct r.side r.price r.n r.now).2.2.2) := by
  intro X;unfold stAt stLan;rw [if_neg (by omega), if_neg (show ¬ (2 : Int) = 1 by decide), if_pos hk]
  simp only
  rw [hj]
  rfl
 unfold doM;rw [hm, hf, hkeys];simp only [Bool.and_self, if_true, runT, s1]
 by_cases h0 : (Lg.debL (M.a.getD i Lg.zA) (brA_ r) (brN_ r)).2 = 0
 ·rw [if_pos h0, if_pos h0];simp only [s2]
  by_cases h1 : (placeL (M.l.getD j zLane) r.acct r.side r.price r.n r.now).2.2.2 = 0
  ·rw [if_pos h1, if_pos h1];simp only [if_true]
   rfl
  ·rw [if_neg h1, if_neg h1];rw [if_neg h1]
 ·rw [if_neg h0, if_neg h0];rw [if_neg h0]
theorem do_lan {M : MdlV} {r : ReqV} (hm : mayM M = true) (hf : Se.fitsB r = true) (hk : r.kind = 4 ∨ r.kind = 5 ∨ r.kind = 6) {j : Nat} (hj : (r.lane - 1).toNat = j) :
  doM M r = if (stLan r j r.lane (st0 M)).2 = 0 then (⟨M.a, (stLan r j r.lane (st0 M)).1.l⟩, ⟨0, (stLan r j r.lane (st0 M)).1.num, [], (stLan r j r.lane (st0 M)).1.fl⟩) else (M, ⟨6, 0, [], []⟩) := by
 have hkeys : turL r = [(2, r.lane)] := by
  unfold turL;rw [if_neg (by omega)]
  rcases hk with h | h | h
  ·exact Se.keysK4 h hf
  ·exact Se.keysK5 h hf
  ·exact Se.keysK6 h hf
 have s1 : stAt r (2, r.lane) (st0 M) = stLan r j r.lane (st0 M) := by
  unfold stAt;rw [if_neg (by omega), if_neg (show ¬ (2 : Int) = 1 by decide)]
  simp only
  rw [hj]
 have ha : (stLan r j r.lane (st0 M)).1.a = M.a := stLan_a _ _ _ _;have hb : (stLan r j r.lane (st0 M)).1.am = [] := by
  unfold stLan
  rcases hk with h | h | h
  ·rw [if_neg (by omega), if_pos h]; rfl
  ·rw [if_neg (by omega), if_neg (by omega), if_pos h]; rfl
  ·rw [if_neg (by omega), if_neg (by omega), if_neg (by omega), if_pos h]; rfl
 unfold doM;rw [hm, hf, hkeys];simp only [Bool.and_self, if_true, runT, s1]
 by_cases h0 : (stLan r j r.lane (st0 M)).2 = 0
 ·rw [if_pos h0, if_pos h0];simp only [if_true];rw [ha, hb]
 ·rw [if_neg h0, if_neg h0, if_neg h0]
theorem lan_lane {r : ReqV} (hf : Se.fitsB r = true) (hk : r.kind = 3 ∨ r.kind = 4 ∨ r.kind = 5 ∨ r.kind = 6) : 1 ≤ r.lane ∧ r.lane ≤ 3 := by
 rcases hk with h | h | h | h
 ·exact ((Se.fitF3 h).1 hf).2.1
 ·exact ((Se.fitF4 h).1 hf).2.1
 ·exact ((Se.fitF5 h).1 hf).2.1
 ·exact ((Se.fitF6 h).1 hf).2.1
theorem may_mk {M : MdlV} (h8 : M.a.length = 8) (h3 : M.l.length = 3) (hA : ∀ x ∈ M.a, Lg.accB x = true) (hL : ∀ x ∈ M.l, chkB x = true) : mayM M = true := by
 unfold mayM;simp only [Bool.and_eq_true, decide_eq_true_eq, List.all_eq_true]
 exact ⟨h8, h3, hA, hL⟩
theorem lan_hold {r : ReqV} {M : MdlV} {j : Nat} {q : Int} (hk : r.kind = 4 ∨ r.kind = 5 ∨ r.kind = 6) (h0 : (stLan r j q (st0 M)).2 = 0) : ∃ L, (stLan r j q (st0 M)).1.l = M.l.set j L ∧ chkB L = true ∧ holM L = holM (M.l.getD j zLane) ∧ holG L = holG (M.l.getD j zLane) := by
 unfold stLan at h0 ⊢
 rcases hk with h | h | h
 ·rw [if_neg (by omega), if_pos h] at h0 ⊢;have hD : lanD (st0 M) j = M.l.getD j zLane := rfl;rw [hD] at h0 ⊢;simp only at h0 ⊢;refine ⟨_, rfl, canR_may h0, ?_⟩;have hk : chkB (M.l.getD j zLane) = true := by
   cases hc : chkB (M.l.getD j zLane) with
   | true => rfl
   | false =>
    unfold canR at h0;rw [hc] at h0
    simp at h0
  rcases can_cases _ r.acct r.n hk with e | e | e
  ·rw [e] at h0; simp at h0
  ·rw [e] at h0; simp at h0
  ·exact e.2
 ·rw [if_neg (by omega), if_neg (by omega), if_pos h] at h0 ⊢;simp only at h0 ⊢;have := cal_may h0;refine ⟨_, rfl, this.2.2.1, ?_⟩;rw [this.2.2.2]
  exact ⟨rfl, rfl⟩
 ·rw [if_neg (by omega), if_neg (by omega), if_neg (by omega), if_pos h] at h0 ⊢;simp only at h0 ⊢;have := unc_may h0
  exact ⟨_, rfl, this.2.2.1, this.2.2.2.1, this.2.2.2.2.1⟩
theorem do_tot {c : Int} {M : MdlV} {r : ReqV} (h : Inv c M) (hc : c ≤ 900000000) (h0 : (doM M r).2.code = 0) : mayM (doM M r).1 = true ∧ ∀ a, 0 ≤ a ∧ a ≤ 3 → totM (doM M r).1 a = totM M a + (if r.kind = 1 ∧ a = r.asset then r.n else 0) - (if r.kind = 2 ∧ a = r.asset then r.n else 0) := by
 obtain ⟨hm, hf⟩ := do_fits h0;obtain ⟨h8, h3, hA, hL⟩ := may_in hm;have hkk := Se.fits_kind hf
 rcases (by omega : r.kind = 1 ∨ r.kind = 2 ∨ r.kind = 3 ∨ (r.kind = 4 ∨ r.kind = 5 ∨ r.kind = 6) ∨ r.kind = 7 ∨ r.kind = 8 ∨ r.kind = 9) with k | k | k | k | k | k | k
 ·have hw := ((Se.fitF1 k).1 hf).1;have e := do_acc hm hf (.inl k);have s : stAcc r (r.acct - 1).toNat (st0 M) = ({st0 M with a := M.a.set (r.acct - 1).toNat (Lg.credL (M.a.getD (r.acct - 1).toNat Lg.zA) r.asset r.n).1}, (Lg.credL (M.a.getD (r.acct - 1).toNat Lg.zA) r.asset r.n).2) := by
   unfold stAcc;rw [if_pos k]
   rfl
  rw [s] at e;simp only at e;rw [e] at h0 ⊢
  by_cases d : (Lg.credL (M.a.getD (r.acct - 1).toNat Lg.zA) r.asset r.n).2 = 0
  ·rw [if_pos d];obtain ⟨d1, d2, d3⟩ := cred_acc d;refine ⟨may_mk (by simp only [List.length_set]; exact h8) h3 (all_set hA d1) hL, fun a ha => ?_⟩
   unfold totM
   simp only
   rw [accS_set _ _ _ _ (by omega), d2 a ha]
   by_cases f : a = r.asset
   ·rw [if_pos f, if_pos ⟨k, f⟩, if_neg (by omega)]; omega
   ·rw [if_neg f, if_neg (by omega), if_neg (by omega)]; omega
  ·rw [if_neg d] at h0
   simp at h0
 ·have hw := ((Se.fitF2 k).1 hf).1;have e := do_acc hm hf (.inr k);have s : stAcc r (r.acct - 1).toNat (st0 M) = ({st0 M with a := M.a.set (r.acct - 1).toNat (Lg.debL (M.a.getD (r.acct - 1).toNat Lg.zA) r.asset r.n).1}, (Lg.debL (M.a.getD (r.acct - 1).toNat Lg.zA) r.asset r.n).2) := by
   unfold stAcc;rw [if_neg (by omega), if_neg (by omega), if_pos k]
   rfl
  rw [s] at e;simp only at e;rw [e] at h0 ⊢
  by_cases d : (Lg.debL (M.a.getD (r.acct - 1).toNat Lg.zA) r.asset r.n).2 = 0
  ·rw [if_pos d];obtain ⟨d1, d2, d3⟩ := deb_acc d;refine ⟨may_mk (by simp only [List.length_set]; exact h8) h3 (all_set hA d1) hL, fun a ha => ?_⟩
   unfold totM
   simp only
   rw [accS_set _ _ _ _ (by omega), d2 a ha]
   by_cases f : a = r.asset
   ·rw [if_pos f, if_neg (by omega), if_pos ⟨k, f⟩]; omega
   ·rw [if_neg f, if_neg (by omega), if_neg (by omega)]; omega
  ·rw [if_neg d] at h0
   simp at h0
 ·have hF := (Se.fitF3 k).1 hf;obtain ⟨j, hj⟩ : ∃ j : Nat, (r.lane - 1).toNat = j := ⟨_, rfl⟩;have e := do_ord hm hf k (i := (r.acct - 1).toNat) rfl hj;rw [e] at h0 ⊢
  by_cases d : (Lg.debL (M.a.getD (r.acct - 1).toNat Lg.zA) (brA_ r) (brN_ r)).2 = 0
  ·rw [if_pos d] at h0 ⊢
   by_cases p : (placeL (M.l.getD j zLane) r.acct r.side r.price r.n r.now).2.2.2 = 0
   ·rw [if_pos p] at h0 ⊢;obtain ⟨d1, d2, d3⟩ := deb_acc d;have hp := hold_placed p;refine ⟨may_mk (by simp only [List.length_set]; exact h8) (by simp only [List.length_set]; exact h3) (all_set hA d1) (all_set hL (placeL_may p)), fun a ha => ?_⟩
    unfold totM
    simp only
    have z1 : ¬ (r.kind = 1 ∧ a = r.asset) := by omega
    have z2 : ¬ (r.kind = 2 ∧ a = r.asset) := by omega
    rw [if_neg z1, if_neg z2, accS_set _ _ _ _ (by omega), lanS_set _ _ _ _ _ (by omega), d2 a ha];unfold lanH;rw [hp.1, hp.2];unfold brA_ brN_;have hl : r.lane = ((1 + j : Nat) : Int) := by omega
    by_cases s : r.side = 1
    ·simp only [if_pos s]
     by_cases f : a = 0
     ·rw [if_pos f, if_pos f, if_pos f]; split <;> omega
     ·rw [if_neg f, if_neg f, if_neg f]; split <;> omega
    ·simp only [if_neg s];rw [hl]
     by_cases f : a = ((1 + j : Nat) : Int)
     ·rw [if_pos f, if_pos f, if_pos f]; split <;> omega
     ·rw [if_neg f, if_neg f, if_neg f]; split <;> omega
   ·rw [if_neg p] at h0
    simp at h0
  ·rw [if_neg d] at h0
   simp at h0
 ·have hl := lan_lane hf (.inr k);obtain ⟨j, hj⟩ : ∃ j : Nat, (r.lane - 1).toNat = j := ⟨_, rfl⟩;have e := do_lan hm hf k hj;rw [e] at h0 ⊢
  by_cases d : (stLan r j r.lane (st0 M)).2 = 0
  ·rw [if_pos d];obtain ⟨L, e1, e2, e3, e4⟩ := lan_hold k d;rw [e1];refine ⟨may_mk h8 (by simp only [List.length_set]; exact h3) hA (all_set hL e2), fun a ha => ?_⟩
   unfold totM
   simp only
   rw [lanS_set _ _ _ _ _ (by omega), if_neg (by omega), if_neg (by omega)];unfold lanH;rw [e3, e4];omega
  ·rw [if_neg d] at h0
   simp at h0
 ·obtain ⟨e, _, _, _, ht, hmm⟩ := do_net h hc k hf;rw [e];refine ⟨hmm, fun a ha => ?_⟩;rw [ht a ha, if_neg (by omega), if_neg (by omega)];omega
 ·have e : (doM M r).1 = M := by
   have hkeys : turL r = [(1, r.acct)] := by
    unfold turL;rw [if_neg (by omega), Se.keysK8 k hf]
   have s1 : stAt r (1, r.acct) (st0 M) = ({st0 M with am := (accD (st0 M) (r.acct - 1).toNat).l}, 0) := by
    unfold stAt stAcc;rw [if_neg (by omega), if_pos rfl, if_neg (by omega), if_neg (by omega), if_neg (by omega), if_neg (by omega), if_pos k]
   unfold doM;rw [hm, hf, hkeys];simp only [Bool.and_self, if_true, runT, s1]
   rfl
  rw [e];refine ⟨hm, fun a ha => ?_⟩;rw [if_neg (by omega), if_neg (by omega)];omega
 ·have e : (doM M r).1 = M := by
   have hs : ∀ (ks : List (Int × Int)), runT r ks (st0 M) = (st0 M, 0) := by
    intro ks
    induction ks with
    | nil => rfl
    | cons x ks ih =>
     rw [runT_cons];have : stAt r x (st0 M) = (st0 M, 0) := by
      unfold stAt;rw [if_pos k]
     rw [this];simp only [if_true];exact ih
   unfold doM;rw [hm, hf];simp only [Bool.and_self, if_true, hs]
   rfl
  rw [e];refine ⟨hm, fun a ha => ?_⟩;rw [if_neg (by omega), if_neg (by omega)];omega
theorem inv_new : Inv 0 newM := ⟨new_may, fun a _ => by rw [tot_new]; omega, fun A hA => by
 have : A = Lg.zA := by simpa [newM] using (List.mem_replicate.1 hA).2
 rw [this];exact Int.le_refl _⟩
theorem tot_pos {M : MdlV} (h : mayM M = true) (a : Int) : 0 ≤ totM M a := by
 obtain ⟨h8, h3, hA, hL⟩ := may_in h;have h1 := accS_pos M.a a hA;have h2 := lanS_pos M.l 1 a hL;unfold totM;omega
theorem inv_do {c : Int} {M : MdlV} (r : ReqV) (h : Inv c M) (hp : 0 ≤ c) (hc : c ≤ 900000000) : Inv (c + 1000000) (doM M r).1 := by
 by_cases h0 : (doM M r).2.code = 0
 ·obtain ⟨t1, t2⟩ := do_tot h hc h0;obtain ⟨hm, hf⟩ := do_fits h0;refine ⟨t1, fun a ha => ⟨tot_pos t1 a, ?_⟩, (doM_ct hp h.ct).mono (by omega)⟩;rw [t2 a ha];have := h.tot a ha
  by_cases k : r.kind = 1 ∧ a = r.asset
  ·have := ((Se.fitF1 k.1).1 hf).2.2.2.2.2.1;rw [if_pos k, if_neg (by omega)];omega
  ·rw [if_neg k]
   by_cases k2 : r.kind = 2 ∧ a = r.asset
   ·have := ((Se.fitF2 k2.1).1 hf).2.2.2.2.2.1;rw [if_pos k2];omega
   ·rw [if_neg k2];omega
 ·rw [(do_rej h0).1]
  exact ⟨h.may, fun a ha => ⟨(h.tot a ha).1, by have := (h.tot a ha).2; omega⟩, h.ct.mono (by omega)⟩
theorem inv_fold : ∀ (R : List ReqV) (M : MdlV) (c : Int), Inv c M → 0 ≤ c → c + 1000000 * R.length ≤ 900000000 → Inv (c + 1000000 * R.length) (R.foldl (fun M r => (doM M r).1) M)
 | [], M, c, h, _, _ => by simpa using h
 | r :: R, M, c, h, hp, hc => by
  rw [List.foldl_cons];rw [List.length_cons] at hc ⊢;have := inv_fold R _ (c + 1000000) (inv_do r h hp (by omega)) (by omega) (by omega);rw [show c + 1000000 * ((R.length + 1 : Nat) : Int) = c + 1000000 + 1000000 * (R.length : Int) by omega];exact this
theorem inv_ply (R : List ReqV) (h : R.length ≤ 100) : Inv 100000000 (plyM R) := by
 have := inv_fold R newM 0 inv_new (by omega) (by omega);unfold plyM
 exact ⟨this.may, fun a ha => ⟨(this.tot a ha).1, by have := (this.tot a ha).2; omega⟩, this.ct.mono (by omega)⟩
def okK (k : Int × Int) : Prop := k.1 = 1 ∧ 1 ≤ k.2 ∧ k.2 ≤ 8 ∨ k.1 = 2 ∧ 1 ≤ k.2 ∧ k.2 ≤ 3
def cel (a : List AccV) (l : List LaneV) (k : Int × Int) : AccV ⊕ LaneV := if k.1 = 1 then .inl (a.getD (k.2 - 1).toNat Lg.zA) else .inr (l.getD (k.2 - 1).toNat zLane)
theorem getD_ne {α : Type} {l : List α} {i j : Nat} {x d : α} (h : i ≠ j) : (l.set i x).getD j d = l.getD j d := by
 simp only [List.getD_eq_getElem?_getD, List.getElem?_set_ne h]
theorem getD_eq {α : Type} {l : List α} {i : Nat} {x d : α} (h : i < l.length) : (l.set i x).getD i d = x := by
 rw [List.getD_eq_getElem?_getD, List.getElem?_set_self h]
 rfl
theorem stAcc_ne {r : ReqV} {i j : Nat} {S : StV} (h : i ≠ j) : (stAcc r i S).1.a.getD j Lg.zA = S.a.getD j Lg.zA := by
 unfold stAcc
 repeat' split
 all_goals first | rfl | exact getD_ne h
theorem stLan_ne {r : ReqV} {i j : Nat} {q : Int} {S : StV} (h : i ≠ j) : (stLan r i q S).1.l.getD j zLane = S.l.getD j zLane := by
 unfold stLan
 repeat' split
 all_goals first | rfl | exact getD_ne h
theorem stAt_fr {r : ReqV} {k k' : Int × Int} {S : StV} (hk : okK k) (hk' : okK k') (h : k ≠ k') : cel (stAt r k S).1.a (stAt r k S).1.l k' = cel S.a S.l k' := by
 obtain ⟨k1, k2⟩ := k;obtain ⟨j1, j2⟩ := k';unfold okK at hk hk';simp only at hk hk';have hne : k1 = j1 → (k2 - 1).toNat ≠ (j2 - 1).toNat := fun e f => h (by rw [e, (by omega : k2 = j2)])
 unfold stAt
 split
 ·rfl
 ·simp only
  by_cases c : k1 = 1
  ·rw [if_pos c];unfold cel
   simp only
   by_cases d : j1 = 1
   ·rw [if_pos d, if_pos d, stAcc_ne (hne (by omega))]
   ·rw [if_neg d, if_neg d, stAcc_l]
  ·rw [if_neg c];unfold cel
   simp only
   by_cases d : j1 = 1
   ·rw [if_pos d, if_pos d, stLan_a]
   ·rw [if_neg d, if_neg d, stLan_ne (hne (by omega))]
structure Ag (K : List (Int × Int)) (S T : StV) : Prop where
 c : ∀ k ∈ K, cel S.a S.l k = cel T.a T.l k
 s : S.s = T.s
 num : S.num = T.num
 am : S.am = T.am
 fl : S.fl = T.fl
 la : S.a.length = 8 ∧ T.a.length = 8
 ll : S.l.length = 3 ∧ T.l.length = 3
theorem stAcc_cg {r : ReqV} {i : Nat} {S T : StV} (h : S.a.getD i Lg.zA = T.a.getD i Lg.zA) (hs : S.s = T.s) (hn : S.num = T.num) (ha : S.am = T.am) (hf : S.fl = T.fl) (hS : i < S.a.length) (hT : i < T.a.length) :
  (stAcc r i S).2 = (stAcc r i T).2 ∧ (stAcc r i S).1.a.getD i Lg.zA = (stAcc r i T).1.a.getD i Lg.zA ∧ (stAcc r i S).1.s = (stAcc r i T).1.s ∧ (stAcc r i S).1.num = (stAcc r i T).1.num ∧ (stAcc r i S).1.am = (stAcc r i T).1.am ∧ (stAcc r i S).1.fl = (stAcc r i T).1.fl := by
 have e : accD S i = accD T i := h;unfold stAcc;rw [e, hs]
 by_cases h1 : r.kind = 1
 ·simp only [if_pos h1, getD_eq hS, getD_eq hT];refine ⟨?_, ?_, ?_, ?_, ?_, ?_⟩ <;> first | trivial | assumption | rfl
 ·simp only [if_neg h1]
  by_cases h3 : r.kind = 3
  ·simp only [if_pos h3, getD_eq hS, getD_eq hT];refine ⟨?_, ?_, ?_, ?_, ?_, ?_⟩ <;> first | trivial | assumption | rfl
  ·simp only [if_neg h3]
   by_cases h2 : r.kind = 2
   ·simp only [if_pos h2, getD_eq hS, getD_eq hT];refine ⟨?_, ?_, ?_, ?_, ?_, ?_⟩ <;> first | trivial | assumption | rfl
   ·simp only [if_neg h2]
    by_cases h7 : r.kind = 7
    ·simp only [if_pos h7]
     split
     ·refine ⟨?_, ?_, ?_, ?_, ?_, ?_⟩ <;> first | trivial | assumption | rfl
     ·simp only [getD_eq hS, getD_eq hT];refine ⟨?_, ?_, ?_, ?_, ?_, ?_⟩ <;> first | trivial | assumption | rfl
    ·simp only [if_neg h7]
     by_cases h8 : r.kind = 8
     ·simp only [if_pos h8];refine ⟨?_, ?_, ?_, ?_, ?_, ?_⟩ <;> first | trivial | assumption | rfl
     ·simp only [if_neg h8];refine ⟨?_, ?_, ?_, ?_, ?_, ?_⟩ <;> first | trivial | assumption | rfl
theorem stLan_cg {r : ReqV} {i : Nat} {q : Int} {S T : StV} (h : S.l.getD i zLane = T.l.getD i zLane) (hs : S.s = T.s) (hn : S.num = T.num) (ha : S.am = T.am) (hf : S.fl = T.fl) (hS : i < S.l.length) (hT : i < T.l.length) :
  (stLan r i q S).2 = (stLan r i q T).2 ∧ (stLan r i q S).1.l.getD i zLane = (stLan r i q T).1.l.getD i zLane ∧ (stLan r i q S).1.s = (stLan r i q T).1.s ∧ (stLan r i q S).1.num = (stLan r i q T).1.num ∧ (stLan r i q S).1.am = (stLan r i q T).1.am ∧ (stLan r i q S).1.fl = (stLan r i q T).1.fl := by
 have e : lanD S i = lanD T i := h;unfold stLan;rw [e, hs]
 by_cases h3 : r.kind = 3
 ·simp only [if_pos h3, getD_eq hS, getD_eq hT];refine ⟨?_, ?_, ?_, ?_, ?_, ?_⟩ <;> first | trivial | assumption | rfl
 ·simp only [if_neg h3]
  by_cases h4 : r.kind = 4
  ·simp only [if_pos h4, getD_eq hS, getD_eq hT];refine ⟨?_, ?_, ?_, ?_, ?_, ?_⟩ <;> first | trivial | assumption | rfl
  ·simp only [if_neg h4]
   by_cases h5 : r.kind = 5
   ·simp only [if_pos h5, getD_eq hS, getD_eq hT];refine ⟨?_, ?_, ?_, ?_, ?_, ?_⟩ <;> first | trivial | assumption | rfl
   ·simp only [if_neg h5]
    by_cases h6 : r.kind = 6
    ·simp only [if_pos h6, getD_eq hS, getD_eq hT];refine ⟨?_, ?_, ?_, ?_, ?_, ?_⟩ <;> first | trivial | assumption | rfl
    ·simp only [if_neg h6]
     by_cases h7 : r.kind = 7
     ·simp only [if_pos h7]
      split
      ·refine ⟨?_, ?_, ?_, ?_, ?_, ?_⟩ <;> first | trivial | assumption | rfl
      ·simp only [getD_eq hS, getD_eq hT];refine ⟨?_, ?_, ?_, ?_, ?_, ?_⟩ <;> first | trivial | assumption | rfl
     ·simp only [if_neg h7];refine ⟨?_, ?_, ?_, ?_, ?_, ?_⟩ <;> first | trivial | assumption | rfl
theorem stAt_ag {r : ReqV} {K : List (Int × Int)} {k : Int × Int} {S T : StV} (hK : ∀ k ∈ K, okK k) (hk : k ∈ K) (h : Ag K S T) : (stAt r k S).2 = (stAt r k T).2 ∧ Ag K (stAt r k S).1 (stAt r k T).1 := by
 have ho := hK k hk;have hlS := stAt_len r k S;have hlT := stAt_len r k T;have hla : (stAt r k S).1.a.length = 8 ∧ (stAt r k T).1.a.length = 8 := ⟨hlS.1.trans h.la.1, hlT.1.trans h.la.2⟩;have hll : (stAt r k S).1.l.length = 3 ∧ (stAt r k T).1.l.length = 3 := ⟨hlS.2.trans h.ll.1, hlT.2.trans h.ll.2⟩;have hfr : ∀ k' ∈ K, k ≠ k' → cel (stAt r k S).1.a (stAt r k S).1.l k' = cel (stAt r k T).1.a (stAt r k T).1.l k' := fun k' hk' hne => by
  rw [stAt_fr ho (hK k' hk') hne, stAt_fr ho (hK k' hk') hne];exact h.c k' hk'
 have hc := h.c k hk
 by_cases h9 : r.kind = 9
 ·have e : ∀ X, stAt r k X = (X, 0) := fun X => by unfold stAt; rw [if_pos h9]
  rw [e, e]
  exact ⟨rfl, h⟩
 ·unfold okK at ho
  by_cases c : k.1 = 1
  ·have e : ∀ X, stAt r k X = stAcc r (k.2 - 1).toNat X := fun X => by unfold stAt; rw [if_neg h9, if_pos c]
   unfold cel at hc;rw [if_pos c, if_pos c] at hc;obtain ⟨g1, g2, g3, g4, g5, g6⟩ := stAcc_cg (r := r) (i := (k.2 - 1).toNat) (Sum.inl.inj hc) h.s h.num h.am h.fl (by rw [h.la.1]; omega) (by rw [h.la.2]; omega)
   rw [← e, ← e] at g1 g2 g3 g4 g5 g6;refine ⟨g1, fun k' hk' => ?_, g3, g4, g5, g6, hla, hll⟩
   by_cases d : k = k'
   ·subst d;unfold cel;rw [if_pos c, if_pos c, g2]
   ·exact hfr k' hk' d
  ·have e : ∀ X, stAt r k X = stLan r (k.2 - 1).toNat k.2 X := fun X => by unfold stAt; rw [if_neg h9, if_neg c]
   unfold cel at hc;rw [if_neg c, if_neg c] at hc;obtain ⟨g1, g2, g3, g4, g5, g6⟩ := stLan_cg (r := r) (i := (k.2 - 1).toNat) (q := k.2) (Sum.inr.inj hc) h.s h.num h.am h.fl (by rw [h.ll.1]; omega) (by rw [h.ll.2]; omega)
   rw [← e, ← e] at g1 g2 g3 g4 g5 g6;refine ⟨g1, fun k' hk' => ?_, g3, g4, g5, g6, hla, hll⟩
   by_cases d : k = k'
   ·subst d;unfold cel;rw [if_neg c, if_neg c, g2]
   ·exact hfr k' hk' d
theorem runT_ag {r : ReqV} {K : List (Int × Int)} (hK : ∀ k ∈ K, okK k) : ∀ (ks : List (Int × Int)) (S T : StV), (∀ k ∈ ks, k ∈ K) → Ag K S T → (runT r ks S).2 = (runT r ks T).2 ∧ Ag K (runT r ks S).1 (runT r ks T).1
 | [], S, T, _, h => ⟨rfl, h⟩
 | k :: ks, S, T, hs, h => by
  obtain ⟨g1, g2⟩ := stAt_ag (r := r) hK (hs k (by simp)) h;rw [runT_cons, runT_cons, g1]
  by_cases h0 : (stAt r k T).2 = 0
  ·rw [if_pos h0, if_pos h0];exact runT_ag hK ks _ _ (fun x hx => hs x (List.mem_cons_of_mem _ hx)) g2
  ·rw [if_neg h0, if_neg h0]
   exact ⟨g1, g2⟩
theorem runT_fr {r : ReqV} {k' : Int × Int} (hk' : okK k') : ∀ (ks : List (Int × Int)) (S : StV), (∀ k ∈ ks, okK k) → k' ∉ ks → cel (runT r ks S).1.a (runT r ks S).1.l k' = cel S.a S.l k'
 | [], S, _, _ => rfl
 | k :: ks, S, hs, h => by
  have e := stAt_fr (r := r) (S := S) (hs k (by simp)) hk' (fun e => h (by rw [e]; simp))
  rw [runT_cons]
  split
  ·rw [runT_fr hk' ks _ (fun x hx => hs x (List.mem_cons_of_mem _ hx)) (fun x => h (List.mem_cons_of_mem _ x)), e]
  ·exact e
theorem tur_mem (r : ReqV) (k : Int × Int) : k ∈ turL r ↔ k ∈ Se.keysB r := by
 unfold turL
 split
 ·constructor
  ·intro h
   rcases List.mem_append.1 h with h | h
   ·exact List.mem_of_mem_drop h
   ·exact List.mem_of_mem_take h
  ·intro h;rw [← List.take_append_drop 1 (Se.keysB r)] at h
   rcases List.mem_append.1 h with h | h
   ·exact List.mem_append.2 (.inr h)
   ·exact List.mem_append.2 (.inl h)
 ·exact Iff.rfl
theorem tur_okK {r : ReqV} (hf : Se.fitsB r = true) (h9 : r.kind ≠ 9) : ∀ k ∈ turL r, okK k := by
 intro k hk;obtain ⟨n, e, h⟩ := (tur_ok hf h9).2 k hk;unfold okK;omega
theorem key_ok {r : ReqV} {k : Int × Int} (h : k ∈ Se.keysB r) : okK k := by
 have hf : Se.fitsB r = true := by
  cases hc : Se.fitsB r with
  | true => rfl
  | false =>
   unfold Se.keysB at h;rw [hc] at h
   simp at h
 by_cases h9 : r.kind = 9
 ·rw [Se.keysK9 h9 hf] at h;have e : k = r.key := by simpa using h
  have hb := ((Se.fitF9 h9).1 hf).2.2.2.2.2.2.2.1;rw [e];unfold Se.keyB at hb;unfold okK
  split at hb
  ·rename_i c
   have := of_decide_eq_true hb;omega
  ·split at hb
   ·rename_i c d
    have := of_decide_eq_true hb;omega
   ·simp at hb
 ·exact tur_okK hf h9 k ((tur_mem r k).2 h)
theorem run9 {r : ReqV} (h9 : r.kind = 9) (S : StV) : ∀ (ks : List (Int × Int)), runT r ks S = (S, 0)
 | [] => rfl
 | k :: ks => by
  rw [runT_cons];have : stAt r k S = (S, 0) := by
   unfold stAt;rw [if_pos h9]
  rw [this];simp only [if_true];exact run9 h9 S ks
theorem do_fr {M : MdlV} {r : ReqV} {k' : Int × Int} (hk' : okK k') (h : k' ∉ Se.keysB r) : cel (doM M r).1.a (doM M r).1.l k' = cel M.a M.l k' := by
 unfold doM
 split
 ·rename_i hc
  simp only [Bool.and_eq_true] at hc
  split
  ·by_cases h9 : r.kind = 9
   ·rw [run9 h9]
    rfl
   ·exact runT_fr (r := r) hk' (turL r) (st0 M) (tur_okK hc.2 h9) (fun x => h ((tur_mem r k').1 x))
  ·rfl
 ·rfl
theorem do_ag {M N : MdlV} {r : ReqV} (hM : mayM M = true) (hN : mayM N = true) (h : ∀ k ∈ Se.keysB r, cel M.a M.l k = cel N.a N.l k) : (doM M r).2 = (doM N r).2 ∧ ∀ k ∈ Se.keysB r, cel (doM M r).1.a (doM M r).1.l k = cel (doM N r).1.a (doM N r).1.l k := by
 obtain ⟨m8, m3, _, _⟩ := may_in hM;obtain ⟨n8, n3, _, _⟩ := may_in hN;unfold doM;rw [hM, hN]
 by_cases hf : Se.fitsB r = true
 ·rw [hf];simp only [Bool.and_self, if_true]
  by_cases h9 : r.kind = 9
  ·rw [run9 h9, run9 h9]
   exact ⟨rfl, h⟩
  ·obtain ⟨g1, g2⟩ := runT_ag (r := r) (K := turL r) (tur_okK hf h9) (turL r) (st0 M) (st0 N) (fun _ x => x) ⟨fun k hk => h k ((tur_mem r k).1 hk), rfl, rfl, rfl, rfl, ⟨m8, n8⟩, m3, n3⟩;rw [g1, g2.num, g2.am, g2.fl]
   split
   ·exact ⟨rfl, fun k hk => g2.c k ((tur_mem r k).2 hk)⟩
   ·exact ⟨rfl, h⟩
 ·rw [show Se.fitsB r = false by simpa using hf];simp only [Bool.and_false, Bool.false_eq_true, if_false]
  exact ⟨trivial, h⟩
theorem mdl_ext {M N : MdlV} (hM : mayM M = true) (hN : mayM N = true) (h : ∀ k, okK k → cel M.a M.l k = cel N.a N.l k) : M = N := by
 obtain ⟨m8, m3, _, _⟩ := may_in hM;obtain ⟨n8, n3, _, _⟩ := may_in hN;obtain ⟨a, l⟩ := M;obtain ⟨b, m⟩ := N;simp only at m8 m3 n8 n3 h;have e1 : a = b := by
  refine List.ext_getElem (by omega) (fun i hi hj => ?_);have := h (1, (i : Int) + 1) (.inl ⟨rfl, by simp only; omega, by simp only; omega⟩)
  unfold cel at this;rw [if_pos rfl, if_pos rfl] at this;have := Sum.inl.inj this;simp only [show (((i : Int) + 1 - 1).toNat) = i by omega, List.getD_eq_getElem?_getD, List.getElem?_eq_getElem hi, List.getElem?_eq_getElem hj, Option.getD_some] at this;exact this
 have e2 : l = m := by
  refine List.ext_getElem (by omega) (fun i hi hj => ?_);have := h (2, (i : Int) + 1) (.inr ⟨rfl, by simp only; omega, by simp only; omega⟩)
  unfold cel at this;rw [if_neg (show ¬ (2 : Int) = 1 by decide), if_neg (show ¬ (2 : Int) = 1 by decide)] at this;have := Sum.inr.inj this;simp only [show (((i : Int) + 1 - 1).toNat) = i by omega, List.getD_eq_getElem?_getD, List.getElem?_eq_getElem hi, List.getElem?_eq_getElem hj, Option.getD_some] at this;exact this
 rw [e1, e2]
theorem apart_plain {M : MdlV} {a b : ReqV} (h : Inv 100000000 M) (hk : ∀ k ∈ Se.keysB a, k ∉ Se.keysB b) :
  (doM (doM M a).1 b).1 = (doM (doM M b).1 a).1 ∧ (doM M a).2 = (doM (doM M b).1 a).2 ∧ (doM (doM M a).1 b).2 = (doM M b).2 := by
 have ia := inv_do a h (by omega) (by omega);have ib := inv_do b h (by omega) (by omega);have iab := inv_do b ia (by omega) (by omega);have iba := inv_do a ib (by omega) (by omega);obtain ⟨u1, u2⟩ := do_ag (r := a) h.may ib.may (fun k hx => (do_fr (key_ok hx) (hk k hx)).symm);obtain ⟨v1, v2⟩ := do_ag (r := b) ia.may h.may (fun k hx => do_fr (key_ok hx) (fun c => hk k c hx));refine ⟨mdl_ext iab.may iba.may (fun k ho => ?_), u1, v1⟩
 by_cases ca : k ∈ Se.keysB a
 ·rw [do_fr ho (hk k ca)];exact u2 k ca
 ·by_cases cb : k ∈ Se.keysB b
  ·rw [v2 k cb, do_fr (r := a) ho ca]
  ·rw [do_fr ho cb, do_fr ho ca, do_fr ho ca, do_fr ho cb]
end Go.Proofs.YtiinigifjdpicaaGreatDoor
