/- Sessions of unlike clients, in plain data. -/
import Derived.Test.YtgdgpcheammbpaaDoorOnP
namespace Go.Proofs.YtgdgpcheammbpaaDoor
open Go.RowKit
set_option linter.all false
def insR (x : SesV) : List SesV → List SesV
  | [] => [x]
  | s :: l => if s.c < x.c then s :: insR x l else if s.c = x.c then x :: l else x :: s :: l
theorem with_ins (x : SesV) : ∀ l : List SesV, withV l x = insR x l
  | [] => by simp [withV, insR, atV, bhV]
  | s :: l => by
    rw [insR, ← with_ins x l]
    by_cases h1 : s.c < x.c
    · have ha : atV (s :: l) x.c = atV l x.c + 1 := by
        unfold atV
        rw [List.takeWhile_cons_of_pos (p := fun s : SesV => ltB s.c x.c) (show ltB s.c x.c = true from decide_eq_true h1), List.length_cons]
      have hb : bhV (s :: l) x.c = bhV l x.c + 1 := by
        unfold bhV
        rw [ha, List.getElem?_cons_succ]
        cases l[atV l x.c]? with
        | none => rfl
        | some y =>
          dsimp only
          split <;> rfl
      rw [if_pos h1]
      unfold withV
      rw [ha, hb, List.take_succ_cons, List.drop_succ_cons]
      rfl
    · have ha : atV (s :: l) x.c = 0 := by
        unfold atV
        rw [List.takeWhile_cons_of_neg (p := fun s : SesV => ltB s.c x.c) (by rw [show ltB s.c x.c = false from decide_eq_false h1]; simp)]
        rfl
      rw [if_neg h1]
      unfold withV bhV
      rw [ha, List.getElem?_cons_zero]
      dsimp only
      by_cases h2 : s.c = x.c
      · rw [if_pos h2, if_pos h2]
        rfl
      · rw [if_neg h2, if_neg h2]
        rfl
theorem ins_comm (x y : SesV) (h : x.c ≠ y.c) : ∀ l, insR y (insR x l) = insR x (insR y l)
  | [] => by
    simp only [insR]
    rcases Int.lt_trichotomy x.c y.c with h1 | h1 | h1
    · rw [if_pos h1, if_neg (by omega), if_neg (by omega)]
    · exact absurd h1 h
    · rw [if_neg (by omega), if_neg (by omega), if_pos h1]
  | s :: l => by
    have ih := ins_comm x y h l
    rcases Int.lt_trichotomy s.c x.c with h1 | h1 | h1 <;> rcases Int.lt_trichotomy s.c y.c with h2 | h2 | h2
    · simp only [insR, if_pos h1, if_pos h2, ih]
    · have e1 : ¬ s.c < y.c := by omega
      have e2 : y.c < x.c := by omega
      simp only [insR, if_pos h1, if_neg e1, if_pos h2, if_pos e2]
    · have e1 : ¬ s.c < y.c := by omega
      have e2 : ¬ s.c = y.c := by omega
      have e3 : y.c < x.c := by omega
      simp only [insR, if_pos h1, if_neg e1, if_neg e2, if_pos e3]
    · have e1 : ¬ s.c < x.c := by omega
      have e2 : x.c < y.c := by omega
      simp only [insR, if_neg e1, if_pos h1, if_pos h2, if_pos e2]
    · omega
    · have e1 : ¬ s.c < x.c := by omega
      have e2 : ¬ s.c < y.c := by omega
      have e3 : ¬ s.c = y.c := by omega
      have e4 : ¬ x.c < y.c := by omega
      have e5 : ¬ x.c = y.c := by omega
      have e6 : y.c < x.c := by omega
      simp only [insR, if_neg e1, if_pos h1, if_neg e2, if_neg e3, if_neg e4, if_neg e5, if_pos e6]
    · have e1 : ¬ s.c < x.c := by omega
      have e2 : ¬ s.c = x.c := by omega
      have e3 : x.c < y.c := by omega
      simp only [insR, if_neg e1, if_neg e2, if_pos h2, if_pos e3]
    · have e1 : ¬ s.c < x.c := by omega
      have e2 : ¬ s.c = x.c := by omega
      have e3 : ¬ s.c < y.c := by omega
      have e4 : x.c < y.c := by omega
      have e5 : ¬ y.c < x.c := by omega
      have e6 : ¬ y.c = x.c := by omega
      simp only [insR, if_neg e1, if_neg e2, if_neg e3, if_pos h2, if_pos e4, if_neg e5, if_neg e6]
    · have e1 : ¬ s.c < x.c := by omega
      have e2 : ¬ s.c = x.c := by omega
      have e3 : ¬ s.c < y.c := by omega
      have e4 : ¬ s.c = y.c := by omega
      rcases Int.lt_trichotomy x.c y.c with h3 | h3 | h3
      · have e5 : ¬ y.c < x.c := by omega
        have e6 : ¬ y.c = x.c := by omega
        simp only [insR, if_neg e1, if_neg e2, if_neg e3, if_neg e4, if_pos h3, if_neg e5, if_neg e6]
      · exact absurd h3 h
      · have e5 : ¬ x.c < y.c := by omega
        have e6 : ¬ x.c = y.c := by omega
        simp only [insR, if_neg e1, if_neg e2, if_neg e3, if_neg e4, if_pos h3, if_neg e5, if_neg e6]
theorem chk_ins (x : SesV) (hx : namB (x.c, x.q) = true) (hd : (x.d || zAb x.a) = true) : ∀ (l : List SesV) (a : Int), ltB a x.c = true → chkS a l = true → chkS a (insR x l) = true
  | [], a, ha, _ => by
    rw [insR, chkS, okS, ha, hx, hd]
    rfl
  | s :: l, a, ha, h => by
    rw [chkS, Bool.and_eq_true] at h
    rw [insR]
    by_cases h1 : s.c < x.c
    · rw [if_pos h1, chkS, h.1, Bool.true_and]
      exact chk_ins x hx hd l s.c (decide_eq_true h1) h.2
    · rw [if_neg h1]
      by_cases h2 : s.c = x.c
      · rw [if_pos h2, chkS, okS, ha, hx, hd, ← h2, h.2]
        rfl
      · have h3 : ltB x.c s.c = true := decide_eq_true (by omega)
        have h4 := h.1
        rw [okS, Bool.and_eq_true] at h4
        rw [if_neg h2, chkS, okS, ha, hx, hd, chkS, okS, h3, h.2]
        simpa using h4.2
/-- What goes well is a new session, or nothing turns. -/
theorem beg_ok {l : List SesV} {t : TxnV} (h : (begV l t).2.2.2 = 0) : rfsE l t = 0 ∧ (((lastV l t.1).d = true ∧ t.2 = (lastV l t.1).q + 1 ∧ (begV l t).1 = withV l ⟨t.1, t.2, false, zAns⟩) ∨ (¬ ((lastV l t.1).d = true ∧ t.2 = (lastV l t.1).q + 1) ∧ t.2 = (lastV l t.1).q ∧ (begV l t).1 = l)) ∧ 0 < (begV l t).2.1 := by
  unfold begV at h ⊢
  by_cases hr : rfsE l t = 0
  · rw [if_pos hr] at h ⊢
    refine ⟨hr, ?_⟩
    by_cases h1 : (lastV l t.1).d = true ∧ t.2 = (lastV l t.1).q + 1
    · rw [if_pos h1]
      exact ⟨.inl ⟨h1.1, h1.2, rfl⟩, by dsimp only; omega⟩
    · rw [if_neg h1] at h ⊢
      by_cases h2 : (lastV l t.1).d = true ∧ t.2 = (lastV l t.1).q
      · rw [if_pos h2]
        exact ⟨.inr ⟨h1, h2.2, rfl⟩, by dsimp only; omega⟩
      · rw [if_neg h2] at h ⊢
        by_cases h3 : t.2 = (lastV l t.1).q
        · rw [if_pos h3]
          exact ⟨.inr ⟨h1, h3, rfl⟩, by dsimp only; omega⟩
        · rw [if_neg h3] at h
          split at h
          · simp at h
          · simp at h
  · rw [if_neg hr] at h
    exact absurd h hr
theorem rfs_mk {l : List SesV} {t : TxnV} (h1 : chkS 0 l = true) (h2 : namB t = true) : rfsE l t = 0 := by
  unfold rfsE chkE bE
  rw [if_pos h1, if_pos rfl, if_pos h2]
/-- Where one goes well, it goes well when another client's session has come. -/
theorem beg_after {l l' : List SesV} {t : TxnV} (h : (begV l t).2.2.2 = 0) (hc : chkS 0 l' = true) (hl : lastV l' t.1 = lastV l t.1) : (begV l' t).2.2.2 = 0 ∧ 0 < (begV l' t).2.1 ∧ (((lastV l t.1).d = true ∧ t.2 = (lastV l t.1).q + 1 ∧ (begV l' t).1 = withV l' ⟨t.1, t.2, false, zAns⟩) ∨ (¬ ((lastV l t.1).d = true ∧ t.2 = (lastV l t.1).q + 1) ∧ (begV l' t).1 = l')) := by
  obtain ⟨hr, hk, _⟩ := beg_ok h
  have hr' := rfs_mk (t := t) hc (rfs_ok hr).2
  unfold begV
  rw [if_pos hr', hl]
  rcases hk with ⟨h1, h2, _⟩ | ⟨h1, h2, _⟩
  · rw [if_pos ⟨h1, h2⟩]
    exact ⟨rfl, by dsimp only; omega, .inl ⟨h1, h2, rfl⟩⟩
  · rw [if_neg h1]
    by_cases h3 : (lastV l t.1).d = true ∧ t.2 = (lastV l t.1).q
    · rw [if_pos h3]
      exact ⟨rfl, by dsimp only; omega, .inr ⟨h1, rfl⟩⟩
    · rw [if_neg h3, if_pos h2]
      exact ⟨rfl, by dsimp only; omega, .inr ⟨h1, rfl⟩⟩
theorem beg_chk {l : List SesV} {t : TxnV} (h : (begV l t).2.2.2 = 0) : chkS 0 (begV l t).1 = true := by
  obtain ⟨hr, hk, _⟩ := beg_ok h
  have hc := rfs_ok hr
  rcases hk with ⟨_, _, e⟩ | ⟨_, _, e⟩
  · rw [e, with_ins]
    have hn := nam_in hc.2
    exact chk_ins _ hc.2 rfl l 0 (decide_eq_true (show (0 : Int) < t.1 by omega)) hc.1
  · rw [e]
    exact hc.1
theorem beg_last {l : List SesV} {t : TxnV} (h : (begV l t).2.2.2 = 0) {c : Int} (hc : c ≠ t.1) : lastV (begV l t).1 c = lastV l c := by
  obtain ⟨_, hk, _⟩ := beg_ok h
  rcases hk with ⟨_, _, e⟩ | ⟨_, _, e⟩
  · rw [e, last_with, if_neg hc]
  · rw [e]
/-- Unlike clients, in either order. -/
theorem beg_comm {l : List SesV} {t u : TxnV} (ht : (begV l t).2.2.2 = 0) (hu : (begV l u).2.2.2 = 0) (hne : t.1 ≠ u.1) : ((begV (begV l t).1 u).2.2.2 = 0 ∧ 0 < (begV (begV l t).1 u).2.1) ∧ ((begV (begV l u).1 t).2.2.2 = 0 ∧ 0 < (begV (begV l u).1 t).2.1) ∧ (begV (begV l t).1 u).1 = (begV (begV l u).1 t).1 := by
  obtain ⟨a1, a2, a3⟩ := beg_after hu (beg_chk ht) (beg_last ht (Ne.symm hne))
  obtain ⟨b1, b2, b3⟩ := beg_after ht (beg_chk hu) (beg_last hu hne)
  refine ⟨⟨a1, a2⟩, ⟨b1, b2⟩, ?_⟩
  obtain ⟨_, kt, _⟩ := beg_ok ht
  obtain ⟨_, ku, _⟩ := beg_ok hu
  rcases kt with ⟨p1, p2, p3⟩ | ⟨p1, p2, p3⟩ <;> rcases ku with ⟨q1, q2, q3⟩ | ⟨q1, q2, q3⟩
  · rcases a3 with ⟨_, _, a3⟩ | ⟨a3, _⟩
    · rcases b3 with ⟨_, _, b3⟩ | ⟨b3, _⟩
      · rw [a3, b3, p3, q3, with_ins, with_ins, with_ins, with_ins, ins_comm _ _ (show (SesV.mk t.1 t.2 false zAns).c ≠ (SesV.mk u.1 u.2 false zAns).c from hne)]
      · exact absurd ⟨p1, p2⟩ b3
    · exact absurd ⟨q1, q2⟩ a3
  · rcases a3 with ⟨x, y, _⟩ | ⟨_, a3⟩
    · exact absurd ⟨x, y⟩ q1
    · rcases b3 with ⟨_, _, b3⟩ | ⟨b3, _⟩
      · rw [a3, b3, p3, q3]
      · exact absurd ⟨p1, p2⟩ b3
  · rcases a3 with ⟨_, _, a3⟩ | ⟨a3, _⟩
    · rcases b3 with ⟨x, y, _⟩ | ⟨_, b3⟩
      · exact absurd ⟨x, y⟩ p1
      · rw [a3, b3, p3, q3]
    · exact absurd ⟨q1, q2⟩ a3
  · rcases a3 with ⟨x, y, _⟩ | ⟨_, a3⟩
    · exact absurd ⟨x, y⟩ q1
    · rcases b3 with ⟨x, y, _⟩ | ⟨_, b3⟩
      · exact absurd ⟨x, y⟩ p1
      · rw [a3, b3, p3, q3]
end Go.Proofs.YtgdgpcheammbpaaDoor
