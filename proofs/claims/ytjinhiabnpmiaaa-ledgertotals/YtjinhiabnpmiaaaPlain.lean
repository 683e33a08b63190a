/- Accounts as plain data: what they have, what is given and taken, what all have in all. -/
import Derived.Test.YtjinhiabnpmiaaaKit
namespace Go.Proofs.Ytjinhiabnpmiaaa
open Go.RowKit
def amtsB : List AmtV → Int → Bool
  | [], _ => true
  | e :: l, h => decide (h < e.k) && wiB e.k 0 3 && wiB e.n 1 9007199254740992 && amtsB l e.k
theorem amtsB_drop (l : List AmtV) (t : Nat) (x : Int) (h : t < l.length) : amtsB (l.drop t) x = (decide (x < (l[t]).k) && wiB (l[t]).k 0 3 && wiB (l[t]).n 1 9007199254740992 && amtsB (l.drop (t + 1)) (l[t]).k) := by
  rw [List.drop_eq_getElem_cons h]
  rfl
def balL : List AmtV → Int → Int
  | [], _ => 0
  | e :: l, a => if e.k = a then e.n else balL l a
theorem balL_drop (l : List AmtV) (t : Nat) (a : Int) (h : t < l.length) : balL (l.drop t) a = if (l[t]).k = a then (l[t]).n else balL (l.drop (t + 1)) a := by
  rw [List.drop_eq_getElem_cons h]
  rfl
def sumL : List AmtV → Int → Int
  | [], _ => 0
  | e :: l, a => (if e.k = a then e.n else 0) + sumL l a
def accB (A : AccV) : Bool := amtsB A.l (-1) && wiB A.ct 0 1000000000
def chkI (A : AccV) : Int := if accB A then 0 else 120
theorem sumL_app (l k : List AmtV) (a : Int) : sumL (l ++ k) a = sumL l a + sumL k a := by
  induction l with
  | nil => simp [sumL]
  | cons e l ih => simp [sumL, ih, Int.add_assoc]
theorem sumL_take (l : List AmtV) (t : Nat) (a : Int) (h : t < l.length) : sumL (l.take (t + 1)) a = sumL (l.take t) a + if (l[t]).k = a then (l[t]).n else 0 := by
  rw [List.take_succ_eq_append_getElem h, sumL_app]
  simp [sumL]
theorem amts_mem : ∀ (l : List AmtV) (x : Int), amtsB l x = true → ∀ e ∈ l, x < e.k ∧ (0 ≤ e.k ∧ e.k ≤ 3) ∧ (1 ≤ e.n ∧ e.n ≤ 9007199254740992)
  | [], _, _, e, he => by cases he
  | c :: l, x, h, e, he => by
    simp only [amtsB, wiB, Bool.and_eq_true, decide_eq_true_eq] at h
    obtain ⟨⟨⟨h1, h2⟩, h3⟩, h4⟩ := h
    rcases List.mem_cons.1 he with rfl | he
    · exact ⟨h1, h2, h3⟩
    · have := amts_mem l c.k h4 e he
      exact ⟨by omega, this.2⟩
theorem sum_zero : ∀ (l : List AmtV) (x a : Int), amtsB l x = true → a ≤ x → sumL l a = 0
  | [], _, _, _, _ => rfl
  | c :: l, x, a, h, ha => by
    have hm := amts_mem _ _ h c (List.mem_cons_self ..)
    simp only [amtsB, Bool.and_eq_true] at h
    rw [sumL, sum_zero l c.k a h.2 (by omega), if_neg (by omega)]
    rfl
theorem bal_zero : ∀ (l : List AmtV) (x a : Int), amtsB l x = true → a ≤ x → balL l a = 0
  | [], _, _, _, _ => rfl
  | c :: l, x, a, h, ha => by
    have hm := amts_mem _ _ h c (List.mem_cons_self ..)
    simp only [amtsB, Bool.and_eq_true] at h
    rw [balL, bal_zero l c.k a h.2 (by omega), if_neg (by omega)]
theorem sum_bal : ∀ (l : List AmtV) (x a : Int), amtsB l x = true → sumL l a = balL l a
  | [], _, _, _ => rfl
  | c :: l, x, a, h => by
    simp only [amtsB, Bool.and_eq_true] at h
    rw [sumL, balL]
    by_cases e : c.k = a
    · rw [if_pos e, if_pos e, sum_zero l c.k a h.2 (by omega), Int.add_zero]
    · rw [if_neg e, if_neg e, sum_bal l c.k a h.2, Int.zero_add]
theorem bal_in : ∀ (l : List AmtV) (x a : Int), amtsB l x = true → 0 ≤ balL l a ∧ balL l a ≤ 9007199254740992
  | [], _, _, _ => by simp [balL]
  | c :: l, x, a, h => by
    have hm := amts_mem _ _ h c (List.mem_cons_self ..)
    simp only [amtsB, Bool.and_eq_true] at h
    rw [balL]
    split
    · omega
    · exact bal_in l c.k a h.2
theorem sum_pos (l : List AmtV) (a : Int) (h : ∀ e ∈ l, 1 ≤ e.n) : 0 ≤ sumL l a := by
  induction l with
  | nil => simp [sumL]
  | cons e l ih =>
    have := ih (fun x hx => h x (List.mem_cons_of_mem _ hx))
    have := h e (List.mem_cons_self ..)
    rw [sumL]
    split <;> omega
theorem take_in (l : List AmtV) (x a : Int) (t : Nat) (h : amtsB l x = true) : 0 ≤ sumL (l.take t) a ∧ sumL (l.take t) a ≤ 9007199254740992 := by
  have h1 : sumL l a = sumL (l.take t) a + sumL (l.drop t) a := by rw [← sumL_app, List.take_append_drop]
  have hm := amts_mem l x h
  have h2 := sum_pos (l.take t) a (fun e he => (hm e (List.mem_of_mem_take he)).2.2.1)
  have h3 := sum_pos (l.drop t) a (fun e he => (hm e (List.mem_of_mem_drop he)).2.2.1)
  have h4 := bal_in l x a h
  rw [sum_bal l x a h] at h1
  omega
/-- So much of each, as amounts. -/
def one (s : Nat → Int) (t : Nat) : List AmtV := if 0 < s t then [⟨t, s t⟩] else []
def pre (s : Nat → Int) : Nat → List AmtV
  | 0 => []
  | t + 1 => pre s t ++ one s t
theorem pre_len (s : Nat → Int) (t : Nat) : (pre s t).length ≤ t := by
  induction t with
  | zero => exact Nat.le_refl _
  | succ t ih =>
    have : (one s t).length ≤ 1 := by unfold one; split <;> simp
    rw [pre, List.length_append]
    omega
theorem pre_congr {s r : Nat → Int} : ∀ t, (∀ k, k < t → s k = r k) → pre s t = pre r t
  | 0, _ => rfl
  | t + 1, h => by
    rw [pre, pre, pre_congr t (fun k hk => h k (by omega)), one, one, h t (by omega)]
theorem pre4 (s : Nat → Int) : pre s 4 = one s 0 ++ (one s 1 ++ (one s 2 ++ one s 3)) := by simp [pre]
theorem one_bal (s : Nat → Int) (t : Nat) (l : List AmtV) (a : Int) (h : 0 ≤ s t) (hl : (t : Int) = a → balL l a = 0) : balL (one s t ++ l) a = if (t : Int) = a then s t else balL l a := by
  unfold one
  split
  · simp [balL]
  · rw [List.nil_append]
    split
    · rw [hl (by assumption)]
      omega
    · rfl
theorem one_nil (s : Nat → Int) (t : Nat) : one s t = one s t ++ [] := by simp
theorem one_amts (s : Nat → Int) (t : Nat) (l : List AmtV) (x : Int) (hx : x < t) (h : 0 ≤ s t ∧ s t ≤ 9007199254740992) (ht : t ≤ 3) (hl : ∀ y : Int, y ≤ t → amtsB l y = true) : amtsB (one s t ++ l) x = true := by
  unfold one
  split
  · simp only [List.cons_append, List.nil_append, amtsB, wiB, Bool.and_eq_true, decide_eq_true_eq]
    exact ⟨⟨⟨hx, by omega⟩, by omega⟩, hl t (Int.le_refl _)⟩
  · exact hl x (by omega)
theorem pre_ok {s : Nat → Int} (h : ∀ k, k < 4 → 0 ≤ s k ∧ s k ≤ 9007199254740992) : amtsB (pre s 4) (-1) = true := by
  rw [pre4]
  refine one_amts s 0 _ _ (by decide) (h 0 (by omega)) (by omega) fun y hy => ?_
  refine one_amts s 1 _ _ (by omega) (h 1 (by omega)) (by omega) fun z hz => ?_
  refine one_amts s 2 _ _ (by omega) (h 2 (by omega)) (by omega) fun u hu => ?_
  rw [one_nil s 3]
  exact one_amts s 3 _ _ (by omega) (h 3 (by omega)) (by omega) fun _ _ => rfl
theorem pre_bal {s : Nat → Int} (h : ∀ k, k < 4 → 0 ≤ s k ∧ s k ≤ 9007199254740992) (k : Nat) (hk : k < 4) : balL (pre s 4) k = s k := by
  have b3 : amtsB (one s 3) 2 = true := by
    rw [one_nil s 3]
    exact one_amts s 3 _ _ (by omega) (h 3 (by omega)) (by omega) fun _ _ => rfl
  have b2 : amtsB (one s 2 ++ one s 3) 1 = true := by
    refine one_amts s 2 _ _ (by omega) (h 2 (by omega)) (by omega) fun u hu => ?_
    rw [one_nil s 3]
    exact one_amts s 3 _ _ (by omega) (h 3 (by omega)) (by omega) fun _ _ => rfl
  have b1 : amtsB (one s 1 ++ (one s 2 ++ one s 3)) 0 = true := by
    refine one_amts s 1 _ _ (by omega) (h 1 (by omega)) (by omega) fun z hz => ?_
    refine one_amts s 2 _ _ (by omega) (h 2 (by omega)) (by omega) fun u hu => ?_
    rw [one_nil s 3]
    exact one_amts s 3 _ _ (by omega) (h 3 (by omega)) (by omega) fun _ _ => rfl
  rw [pre4]
  rw [one_bal s 0 _ _ (h 0 (by omega)).1 (fun e => bal_zero _ 0 _ b1 (by omega))]
  rw [one_bal s 1 _ _ (h 1 (by omega)).1 (fun e => bal_zero _ 1 _ b2 (by omega))]
  rw [one_bal s 2 _ _ (h 2 (by omega)).1 (fun e => bal_zero _ 2 _ b3 (by omega))]
  rw [one_nil s 3, one_bal s 3 _ _ (h 3 (by omega)).1 (fun e => rfl)]
  rcases (by omega : k = 0 ∨ k = 1 ∨ k = 2 ∨ k = 3) with rfl | rfl | rfl | rfl <;> simp
theorem amts_low {c : AmtV} {l : List AmtV} {x y : Int} (h : amtsB (c :: l) x = true) (hy : y < c.k) : amtsB (c :: l) y = true := by
  simp only [amtsB, Bool.and_eq_true, decide_eq_true_eq] at h ⊢
  exact ⟨⟨⟨hy, h.1.1.2⟩, h.1.2⟩, h.2⟩
theorem uniq : ∀ (l r : List AmtV) (x : Int), amtsB l x = true → amtsB r x = true → (∀ a, 0 ≤ a ∧ a ≤ 3 → balL l a = balL r a) → l = r
  | [], [], _, _, _, _ => rfl
  | [], f :: r, x, _, hr, hb => by
    have hm := amts_mem _ _ hr f (List.mem_cons_self ..)
    have := hb f.k hm.2.1
    simp [balL] at this
    omega
  | e :: l, [], x, hl, _, hb => by
    have hm := amts_mem _ _ hl e (List.mem_cons_self ..)
    have := hb e.k hm.2.1
    simp [balL] at this
    omega
  | e :: l, f :: r, x, hl, hr, hb => by
    have he := amts_mem _ _ hl e (List.mem_cons_self ..)
    have hf := amts_mem _ _ hr f (List.mem_cons_self ..)
    have hl2 := hl
    have hr2 := hr
    simp only [amtsB, Bool.and_eq_true] at hl2 hr2
    rcases Int.lt_trichotomy e.k f.k with h | h | h
    · have h1 := hb e.k he.2.1
      rw [bal_zero (f :: r) e.k e.k (amts_low hr h) (Int.le_refl _)] at h1
      simp [balL] at h1
      omega
    · have h1 := hb e.k he.2.1
      have h2 : e.n = f.n := by simpa [balL, h] using h1
      have h3 : e = f := by
        cases e
        cases f
        simp only at h h2
        rw [h, h2]
      subst h3
      rw [uniq l r e.k hl2.2 hr2.2 (fun a ha => by
        by_cases c : e.k = a
        · rw [bal_zero l e.k a hl2.2 (by omega), bal_zero r e.k a hr2.2 (by omega)]
        · have := hb a ha
          simpa [balL, c] using this)]
    · have h1 := hb f.k hf.2.1
      rw [bal_zero (e :: l) f.k f.k (amts_low hl h) (Int.le_refl _)] at h1
      simp [balL] at h1
      omega
/-- What may be is just what it has of each. -/
theorem canon {l : List AmtV} {s : Nat → Int} (h : amtsB l (-1) = true) (hs : ∀ k : Nat, k < 4 → s k = balL l k) : pre s 4 = l := by
  have hb : ∀ k, k < 4 → 0 ≤ s k ∧ s k ≤ 9007199254740992 := fun k hk => by
    rw [hs k hk]
    exact bal_in l _ _ h
  refine uniq _ _ (-1) (pre_ok hb) h fun a ha => ?_
  obtain ⟨k, rfl⟩ : ∃ k : Nat, a = k := Int.eq_ofNat_of_zero_le ha.1
  rw [pre_bal hb k (by omega), hs k (by omega)]
/-- The document's: amounts in which one has another number. -/
def setR : List AmtV → Int → Int → Bool → List AmtV
  | [], a, n, put => if put then [] else [⟨a, n⟩]
  | e :: l, a, n, put => (if !put && decide (a ≤ e.k) then [⟨a, n⟩] else []) ++ ((if e.k = a then [] else [e]) ++ setR l a n (put || decide (a ≤ e.k)))
theorem setR_done : ∀ (l : List AmtV) (x a n : Int), amtsB l x = true → (∀ b, balL (setR l a n true) b = if b = a then 0 else balL l b) ∧ amtsB (setR l a n true) x = true
  | [], x, a, n, _ => ⟨fun b => by simp [setR, balL], rfl⟩
  | e :: l, x, a, n, h => by
    have h0 := h
    have hm := amts_mem _ _ h e (List.mem_cons_self ..)
    simp only [amtsB, Bool.and_eq_true] at h
    obtain ⟨i1, i2⟩ := setR_done l e.k a n h.2
    have e1 : setR (e :: l) a n true = (if e.k = a then [] else [e]) ++ setR l a n true := by simp [setR]
    rw [e1]
    by_cases c : e.k = a
    · rw [if_pos c, List.nil_append]
      refine ⟨fun b => ?_, ?_⟩
      · rw [i1 b, balL]
        split
        · rfl
        · rw [if_neg (by omega)]
      · cases hq : setR l a n true with
        | nil => rfl
        | cons q r =>
          rw [hq] at i2
          have := amts_mem _ _ i2 q (List.mem_cons_self ..)
          exact amts_low i2 (by omega)
    · rw [if_neg c, List.cons_append, List.nil_append]
      refine ⟨fun b => ?_, ?_⟩
      · rw [balL, balL, i1 b]
        by_cases q : e.k = b
        · rw [if_pos q, if_pos q, if_neg (by omega)]
        · rw [if_neg q, if_neg q]
      · simp only [amtsB, Bool.and_eq_true]
        exact ⟨h.1, i2⟩
theorem setR_is : ∀ (l : List AmtV) (x a n : Int), amtsB l x = true → x < a → 0 ≤ a ∧ a ≤ 3 → 1 ≤ n ∧ n ≤ 9007199254740992 → (∀ b, balL (setR l a n false) b = if b = a then n else balL l b) ∧ amtsB (setR l a n false) x = true
  | [], x, a, n, _, hx, ha, hn => by
    refine ⟨fun b => ?_, ?_⟩
    · simp only [setR, balL, Bool.false_eq_true, if_false]
      by_cases c : b = a
      · rw [if_pos c, if_pos c.symm]
      · rw [if_neg c, if_neg (fun e => c e.symm)]
    · simp only [setR, amtsB, wiB, Bool.false_eq_true, if_false, Bool.and_eq_true, decide_eq_true_eq]
      exact ⟨⟨⟨hx, ha⟩, hn⟩, trivial⟩
  | e :: l, x, a, n, h, hx, ha, hn => by
    have h0 := h
    have hm := amts_mem _ _ h e (List.mem_cons_self ..)
    simp only [amtsB, Bool.and_eq_true] at h
    by_cases c : a ≤ e.k
    · obtain ⟨i1, i2⟩ := setR_done l e.k a n h.2
      have e1 : setR (e :: l) a n false = ⟨a, n⟩ :: ((if e.k = a then [] else [e]) ++ setR l a n true) := by simp [setR, c]
      rw [e1]
      by_cases d : e.k = a
      · rw [if_pos d, List.nil_append]
        refine ⟨fun b => ?_, ?_⟩
        · rw [balL, balL, i1 b]
          simp only
          by_cases q : b = a
          · rw [if_pos q.symm, if_pos q]
          · rw [if_neg (fun e => q e.symm), if_neg q, if_neg q, if_neg (by omega)]
        · simp only [amtsB, wiB, Bool.and_eq_true, decide_eq_true_eq]
          exact ⟨⟨⟨hx, ha⟩, hn⟩, by rw [d] at i2; exact i2⟩
      · rw [if_neg d, List.cons_append, List.nil_append]
        refine ⟨fun b => ?_, ?_⟩
        · rw [balL, balL, balL, i1 b]
          simp only
          by_cases q : b = a
          · rw [if_pos q.symm, if_pos q]
          · rw [if_neg (fun e => q e.symm), if_neg q, if_neg q]
        · simp only [amtsB, wiB, Bool.and_eq_true, decide_eq_true_eq]
          exact ⟨⟨⟨hx, ha⟩, hn⟩, ⟨⟨by omega, hm.2.1⟩, hm.2.2⟩, i2⟩
    · obtain ⟨i1, i2⟩ := setR_is l e.k a n h.2 (by omega) ha hn
      have e1 : setR (e :: l) a n false = e :: setR l a n false := by
        have : ¬ e.k = a := by omega
        simp [setR, c, this]
      rw [e1]
      refine ⟨fun b => ?_, ?_⟩
      · rw [balL, balL, i1 b]
        by_cases q : e.k = b
        · rw [if_pos q, if_pos q, if_neg (by omega)]
        · rw [if_neg q, if_neg q]
      · simp only [amtsB, Bool.and_eq_true]
        exact ⟨h.1, i2⟩
/-- So much more of one. -/
def moreS (l : List AmtV) (a n : Int) : Nat → Int := fun k => balL l k + if (k : Int) = a then n else 0
theorem set_is {l : List AmtV} {a n : Int} (h : amtsB l (-1) = true) (ha : 0 ≤ a ∧ a ≤ 3) (hn : 0 ≤ balL l a + n ∧ balL l a + n ≤ 9007199254740992) : setR l a (balL l a + n) (balL l a + n == 0) = pre (moreS l a n) 4 := by
  by_cases c : balL l a + n = 0
  · rw [c]
    obtain ⟨i1, i2⟩ := setR_done l (-1) a 0 h
    refine (canon i2 fun k hk => ?_).symm
    rw [i1, moreS]
    by_cases d : (k : Int) = a
    · rw [if_pos d, if_pos d, d, c]
    · rw [if_neg d, if_neg d, Int.add_zero]
  · rw [beq_eq_false_iff_ne.2 c]
    obtain ⟨i1, i2⟩ := setR_is l (-1) a (balL l a + n) h (by omega) ha (by omega)
    refine (canon i2 fun k hk => ?_).symm
    rw [i1, moreS]
    by_cases d : (k : Int) = a
    · rw [if_pos d, if_pos d, d]
    · rw [if_neg d, if_neg d, Int.add_zero]
/-- Whether it may be given or taken at all. -/
def refI (A : AccV) (a n : Int) : Int := if accB A then (if wiB a 0 3 && wiB n 1 9007199254740992 then 0 else 1) else 120
def credL (A : AccV) (a n : Int) : AccV × Int :=
  if refI A a n = 0 then (if balL A.l a + n > 9007199254740992 ∨ A.ct = 1000000000 then (zA, 122) else (⟨pre (moreS A.l a n) 4, A.ct + 1⟩, 0)) else (zA, refI A a n)
def debL (A : AccV) (a n : Int) : AccV × Int :=
  if refI A a n = 0 then (if balL A.l a < n then (zA, 121) else if A.ct = 1000000000 then (zA, 122) else (⟨pre (moreS A.l a (-n)) 4, A.ct + 1⟩, 0)) else (zA, refI A a n)
theorem accB_in {A : AccV} (h : accB A = true) : amtsB A.l (-1) = true ∧ 0 ≤ A.ct ∧ A.ct ≤ 1000000000 := by
  simp only [accB, wiB, Bool.and_eq_true, decide_eq_true_eq] at h
  exact h
theorem refI_in {A : AccV} {a n : Int} (h : refI A a n = 0) : accB A = true ∧ (0 ≤ a ∧ a ≤ 3) ∧ (1 ≤ n ∧ n ≤ 9007199254740992) := by
  unfold refI at h
  cases h1 : accB A
  · simp [h1] at h
  · refine ⟨rfl, ?_⟩
    cases h2 : (wiB a 0 3 && wiB n 1 9007199254740992)
    · simp [h1, h2] at h
    · simpa [wiB] using h2
/-- What all have of one. -/
def sumA : List AccV → Int → Int
  | [], _ => 0
  | A :: l, a => balL A.l a + sumA l a
theorem sumA_app (l k : List AccV) (a : Int) : sumA (l ++ k) a = sumA l a + sumA k a := by
  induction l with
  | nil => simp [sumA]
  | cons e l ih => simp [sumA, ih, Int.add_assoc]
theorem sumA_take (l : List AccV) (t : Nat) (a : Int) (h : t < l.length) : sumA (l.take (t + 1)) a = sumA (l.take t) a + balL (l[t]).l a := by
  rw [List.take_succ_eq_append_getElem h, sumA_app]
  simp [sumA]
theorem sumA_in (l : List AccV) (a : Int) (h : l.all accB = true) : 0 ≤ sumA l a ∧ sumA l a ≤ l.length * 9007199254740992 := by
  induction l with
  | nil => simp [sumA]
  | cons A l ih =>
    simp only [List.all_cons, Bool.and_eq_true] at h
    have h1 := ih h.2
    have h2 := bal_in A.l _ a (accB_in h.1).1
    rw [sumA, List.length_cons]
    omega
def totL (l : List AccV) : List AmtV × Int :=
  if l.length ≤ 1000 ∧ l.all accB = true then (pre (fun k => sumA l k) 4, 0) else ([], 120)
end Go.Proofs.Ytjinhiabnpmiaaa
