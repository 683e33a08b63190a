/- NetReads and its argument. -/
import Derived.Test.YtagfolckodpioaaTripF
import Derived.Test.YtagfolckodpioaaR1T
import Derived.Test.YtagfolckodpioaaLi
import Derived.BigQuiet
import Derived.Test.YtagfolckodpioaaWwM
import Derived.Test.YtagfolckodpioaaR2
import Derived.Test.YtagfolckodpioaaSeUnf
import Derived.Test.YtagfolckodpioaaSameN
import Derived.Test.YtagfolckodpioaaArB
import Derived.ShutString
namespace Go.Proofs.Ytagfolckodpioaa.K2
open Go.RowKit Go.Maps Go.Proofs.Ytagfolckodpioaa
set_option linter.all false
theorem endB_pos (i b : Nat) (h : endB i b = true) : i = 0 ∨ b ≠ 0 := by
  by_cases h0 : i = 0
  · exact .inl h0
  · right
    intro hb
    rw [endB_no i b (by omega) hb] at h
    cases h
theorem rd_form (f i acc : Nat) (l : List UInt8) (n c : Nat) (hf : f + i = 9) (h : rd (f + 1) i acc l = (n, c, 0)) :
    ∃ m, n = acc + m * 128 ^ i ∧ l.take (c - i) = uform f m ∧ (i = 0 ∨ m ≠ 0) := by
  induction f generalizing i acc l with
  | zero =>
    cases l with
    | nil => simp [rd] at h
    | cons b r =>
      by_cases hb : b.toNat < 128
      · cases he : endB i b.toNat with
        | true =>
          rw [rd_yes _ _ _ _ _ hb he] at h
          simp only [Prod.mk.injEq] at h
          obtain ⟨h1, h2, _⟩ := h
          refine ⟨b.toNat, h1.symm, ?_, endB_pos i _ he⟩
          rw [← h2, show i + 1 - i = 1 by omega, uform_small 0 _ hb]
          simp
        | false => rw [rd_no _ _ _ _ _ hb he] at h; simp at h
      · rw [rd_more _ _ _ _ _ hb, rd_zero] at h; simp at h
  | succ f ih =>
    cases l with
    | nil => simp [rd] at h
    | cons b r =>
      by_cases hb : b.toNat < 128
      · cases he : endB i b.toNat with
        | true =>
          rw [rd_yes _ _ _ _ _ hb he] at h
          simp only [Prod.mk.injEq] at h
          obtain ⟨h1, h2, _⟩ := h
          refine ⟨b.toNat, h1.symm, ?_, endB_pos i _ he⟩
          rw [← h2, show i + 1 - i = 1 by omega, uform_small _ _ hb]
          simp
        | false => rw [rd_no _ _ _ _ _ hb he] at h; simp at h
      · rw [rd_more _ _ _ _ _ hb] at h
        obtain ⟨m, h1, h2, h3⟩ := ih (i + 1) _ r (by omega) h
        have hc := rd_count (f + 1) (i + 1) _ r (by rw [h])
        rw [h] at hc
        simp only at hc
        have hb2 := UInt8.toNat_lt b
        refine ⟨b.toNat % 128 + 128 * m, ?_, ?_, .inr (by omega)⟩
        · rw [h1, Nat.pow_succ, Nat.add_assoc, Nat.add_mul]
          congr 2
          rw [Nat.mul_comm (128 ^ i) 128, ← Nat.mul_assoc, Nat.mul_comm m 128]
        · rw [uform_big f _ (by omega), show c - i = (c - (i + 1)) + 1 by omega, List.take_succ_cons, h2]
          have e1 : 128 + (b.toNat % 128 + 128 * m) % 128 = b.toNat := by omega
          have e2 : (b.toNat % 128 + 128 * m) / 128 = m := by omega
          rw [e1, e2]
          simp
/-- What a reading tells: a place, and how many bytes. -/
theorem tkU_inv (l : List UInt8) (a : Int) (n nx : Nat) (h : tkU l a = (n, nx, 0)) : ∃ p c : Nat, a = (p : Int) ∧ p ≤ l.length ∧ nx = p + c ∧ 0 < c ∧ nx ≤ l.length ∧ rd 10 0 0 (l.drop p) = (n, c, 0) := by
  have hh := tkU_next l a (by rw [h])
  rw [h] at hh
  simp only at hh
  obtain ⟨p, rfl⟩ := Int.eq_ofNat_of_zero_le hh.1
  rw [tkU_in l p (by omega)] at h
  unfold fin at h
  split at h
  · rename_i hz
    simp only [Prod.mk.injEq] at h
    have hc := rd_count 10 0 0 _ hz
    refine ⟨p, (rd 10 0 0 (l.drop p)).2.1, rfl, by omega, h.2.1.symm, by omega, by omega, Prod.ext h.1 (Prod.ext rfl hz)⟩
  · rename_i hz
    simp only [Prod.mk.injEq] at h
    exact absurd h.2.2 hz
theorem drop_take (l : List UInt8) (p k : Nat) : (l.take k).drop p = (l.drop p).take (k - p) := by rw [List.drop_take]
theorem tkU_form (l : List UInt8) (p n nx : Nat) (h : tkU l (p : Int) = (n, nx, 0)) : uintL n = (l.drop p).take (nx - p) := by
  obtain ⟨p', c, e, hp, h1, hc, hle, hr⟩ := tkU_inv l _ n nx h
  have e' : p = p' := by omega
  subst e'
  obtain ⟨m, hm, ht, _⟩ := rd_form 9 0 0 _ n c (by omega) hr
  have e2 : n = m := by simpa using hm
  subst e2
  rw [h1, show p + c - p = c - 0 by omega, ht]
  rfl
theorem tkU_pre {l : List UInt8} {p n nx : Nat} (h : tkU l (p : Int) = (n, nx, 0)) : l.take nx = l.take p ++ uintL n := by
  have hh := tkU_next l (p : Int) (by rw [h])
  rw [h] at hh
  simp only at hh
  rw [tkU_form l p n nx h]
  have e : nx = p + (nx - p) := by omega
  conv => lhs; rw [e, List.take_add]
theorem tkT_pre {l t : List UInt8} {p nx : Nat} (h : tkT l (p : Int) = (t, nx, 0)) : l.take nx = l.take p ++ textL t ∧ t.length ≤ 60000 := by
  unfold tkT at h
  obtain ⟨n, x, e, hr⟩ := tup_split l (p : Int)
  rw [hr] at h
  simp only at h
  by_cases h1 : e = 0
  · subst h1
    rw [if_neg (by simp)] at h
    by_cases h2 : 60000 < n
    · rw [if_pos h2] at h
      simp at h
    · rw [if_neg h2] at h
      by_cases h3 : l.length < x + n
      · rw [if_pos h3] at h
        simp at h
      · rw [if_neg h3] at h
        simp only [Prod.mk.injEq, and_true] at h
        obtain ⟨e1, e2⟩ := h
        have hl : t.length = n := by
          rw [← e1, List.length_take, List.length_drop]
          omega
        have hp := tkU_pre hr
        refine ⟨?_, by omega⟩
        unfold textL
        rw [if_pos (by omega), hl, ← List.append_assoc, ← hp, ← e2, List.take_add, e1]
  · rw [if_pos h1] at h
    simp only [Prod.mk.injEq] at h
    exact absurd h.2.2 h1
/-- The taker: it keeps its place where it reads nothing. -/
def tnum (l : List UInt8) (st : Nat × Bool) : Nat × (Nat × Bool) :=
  if (tkU l st.1).2.2 = 0 ∧ (tkU l st.1).1 ≤ 1000000 then ((tkU l st.1).1, ((tkU l st.1).2.1, st.2)) else (0, (st.1, false))
def ttext (l : List UInt8) (st : Nat × Bool) : List UInt8 × (Nat × Bool) :=
  if (tkT l st.1).2.2 = 0 then ((tkT l st.1).1, ((tkT l st.1).2.1, st.2)) else ([], (st.1, false))
def tent (l : List UInt8) (st : Nat × Bool) : EntV × (Nat × Bool) :=
  (⟨((tnum l st).1 : Int), ((tnum l (tnum l st).2).1 : Int), ⟨(ttext l (tnum l (tnum l st).2).2).1.toArray⟩⟩, (ttext l (tnum l (tnum l st).2).2).2)
def tents (l : List UInt8) : Nat → Nat × Bool → List EntV × (Nat × Bool)
  | 0, st => ([], st)
  | n + 1, st => if (tents l n st).2.2 = true then ((tents l n st).1 ++ [(tent l (tents l n st).2).1], (tent l (tents l n st).2).2) else tents l n st
def tspot (l : List UInt8) (st : Nat × Bool) : (Nat × Nat) × (Nat × Bool) := (((tnum l st).1, (tnum l (tnum l st).2).1), (tnum l (tnum l st).2).2)
def tbody (l : List UInt8) (k f d t : Nat) (st : Nat × Bool) : MsgV × List EntV × (Nat × Bool) :=
  if k = 1 then (⟨(k : Int), (f : Int), (d : Int), (t : Int), ((tspot l st).1.1 : Int), ((tspot l st).1.2 : Int), none, 0, 0, 0, false, 0, 0, 0, ⟨#[]⟩⟩, [], (tspot l st).2)
  else if k = 2 then (⟨(k : Int), (f : Int), (d : Int), (t : Int), 0, 0, none, 0, 0, 0, decide ((tnum l st).1 = 1), 0, 0, 0, ⟨#[]⟩⟩, [], (tnum l st).2)
  else if k = 3 then (⟨(k : Int), (f : Int), (d : Int), (t : Int), ((tspot l st).1.1 : Int), ((tspot l st).1.2 : Int), none, 0, 0, ((tnum l (tspot l st).2).1 : Int), false, 0, 0, 0, ⟨#[]⟩⟩, tents l (tnum l (tnum l (tspot l st).2).2).1 (tnum l (tnum l (tspot l st).2).2).2)
  else if k = 4 then (⟨(k : Int), (f : Int), (d : Int), (t : Int), 0, 0, none, 0, 0, 0, decide ((tnum l st).1 = 1), ((tnum l (tnum l st).2).1 : Int), 0, 0, ⟨#[]⟩⟩, [], (tnum l (tnum l st).2).2)
  else if k = 5 then (⟨(k : Int), (f : Int), (d : Int), (t : Int), 0, 0, none, 0, 0, 0, false, 0, ((tspot l st).1.1 : Int), ((tspot l st).1.2 : Int), ⟨(ttext l (tspot l st).2).1.toArray⟩⟩, [], (ttext l (tspot l st).2).2)
  else (hdV k f d t, [], st)
def tmsg (l : List UInt8) (st : Nat × Bool) : MsgV × List EntV × (Nat × Bool) :=
  tbody l (tnum l st).1 (tnum l (tnum l st).2).1 (tnum l (tnum l (tnum l st).2).2).1 (tnum l (tnum l (tnum l (tnum l st).2).2).2).1 (tnum l (tnum l (tnum l (tnum l st).2).2).2).2
/-- What the document reads. -/
def rdec (l : List UInt8) : Option (MsgV × List EntV) :=
  if (unf l 0).2.2 = 0 then
    (if (tmsg (unf l 0).1 (0, true)).2.2.2 = true ∧ mayB (withE (tmsg (unf l 0).1 (0, true)).1 none (tmsg (unf l 0).1 (0, true)).2.1.length 0) (tmsg (unf l 0).1 (0, true)).2.1 = true ∧ frameL (bodyL (withE (tmsg (unf l 0).1 (0, true)).1 none (tmsg (unf l 0).1 (0, true)).2.1.length 0) (tmsg (unf l 0).1 (0, true)).2.1) = l
     then some ((tmsg (unf l 0).1 (0, true)).1, (tmsg (unf l 0).1 (0, true)).2.1) else none)
  else none
/-- Where the reader goes on, the taker reads the same, and the bytes are those that would be written. -/
theorem rnum_ok {l : List UInt8} {st : Nat × Bool} (h : (rnum l st).2.2 = true) : st.2 = true ∧ tnum l st = rnum l st ∧ l.take (rnum l st).2.1 = l.take st.1 ++ uintL (rnum l st).1 := by
  obtain ⟨a, b⟩ := st
  unfold rnum at h ⊢
  unfold tnum
  simp only at h ⊢
  cases b with
  | false => simp at h
  | true =>
    simp only [if_true] at h ⊢
    by_cases hc : (tkU l (a : Int)).2.2 = 0 ∧ (tkU l (a : Int)).1 ≤ 1000000
    · rw [if_pos hc] at h ⊢
      rw [if_pos hc]
      refine ⟨trivial, rfl, ?_⟩
      obtain ⟨n, nx, e, hr⟩ := tup_split l (a : Int)
      rw [hr] at hc ⊢
      simp only at hc ⊢
      obtain ⟨rfl, _⟩ := hc
      exact tkU_pre hr
    · rw [if_neg hc] at h
      simp at h
theorem rpiece_ok {l : List UInt8} {st : Nat × Bool} (h : (rpiece l st).2.2 = true) : st.2 = true ∧ ttext l st = rpiece l st ∧ l.take (rpiece l st).2.1 = l.take st.1 ++ textL (rpiece l st).1 := by
  obtain ⟨a, b⟩ := st
  unfold rpiece at h ⊢
  unfold ttext
  simp only at h ⊢
  cases b with
  | false => simp at h
  | true =>
    simp only [if_true] at h ⊢
    have he : (tkT l (a : Int)).2.2 = 0 := by simpa using h
    rw [if_pos he]
    refine ⟨trivial, by rw [he]; rfl, ?_⟩
    obtain ⟨t, nx, e, hr⟩ : ∃ t nx e, tkT l (a : Int) = (t, nx, e) := ⟨_, _, _, rfl⟩
    rw [hr] at he ⊢
    simp only at he ⊢
    subst he
    exact (tkT_pre hr).1
theorem rspot_ok {l : List UInt8} {st : Nat × Bool} (h : (rspot l st).2.2 = true) : st.2 = true ∧ tspot l st = rspot l st ∧ l.take (rspot l st).2.1 = l.take st.1 ++ (uintL (rspot l st).1.1 ++ uintL (rspot l st).1.2) := by
  unfold rspot at h ⊢
  unfold tspot
  simp only at h ⊢
  obtain ⟨h1, h2, h3⟩ := rnum_ok h
  obtain ⟨g1, g2, g3⟩ := rnum_ok h1
  refine ⟨g1, ?_, ?_⟩
  · rw [g2, h2]
  · rw [h3, g3, List.append_assoc]
theorem rflag_ok {l : List UInt8} {st : Nat × Bool} (h : (rflag l st).2.2 = true) : st.2 = true ∧ decide ((tnum l st).1 = 1) = (rflag l st).1 ∧ (tnum l st).2 = (rflag l st).2 ∧ l.take (rflag l st).2.1 = l.take st.1 ++ flagL (rflag l st).1 := by
  unfold rflag at h ⊢
  simp only [Bool.and_eq_true, decide_eq_true_eq] at h ⊢
  obtain ⟨h1, h2, h3⟩ := rnum_ok h.1
  refine ⟨h1, by rw [h2], ?_, ?_⟩
  · rw [h2]
    refine Prod.ext rfl ?_
    simp only
    rw [h.1, decide_eq_true h.2]
    rfl
  · rw [h3]
    congr 1
    rcases (by omega : (rnum l st).1 = 0 ∨ (rnum l st).1 = 1) with e | e
    · rw [e]
      rfl
    · rw [e]
      rfl
theorem rent_ok {l : List UInt8} {st : Nat × Bool} (h : (rent l st).2.2 = true) : st.2 = true ∧ tent l st = rent l st ∧ l.take (rent l st).2.1 = l.take st.1 ++ entL (rent l st).1 := by
  unfold rent at h ⊢
  unfold tent
  simp only at h ⊢
  obtain ⟨h1, h2, h3⟩ := rpiece_ok h
  obtain ⟨g1, g2, g3⟩ := rnum_ok h1
  obtain ⟨f1, f2, f3⟩ := rnum_ok g1
  refine ⟨f1, ?_, ?_⟩
  · rw [f2, g2, h2]
  · rw [h3, g3, f3]
    simp [entL]
theorem rents_ok {l : List UInt8} {st : Nat × Bool} : ∀ n, (rents l n st).2.2 = true → st.2 = true ∧ tents l n st = rents l n st ∧ l.take (rents l n st).2.1 = l.take st.1 ++ ((rents l n st).1.map entL).flatten
  | 0, h => ⟨h, rfl, by simp [rents]⟩
  | n + 1, h => by
    unfold rents at h ⊢
    simp only at h ⊢
    obtain ⟨h1, h2, h3⟩ := rent_ok h
    obtain ⟨g1, g2, g3⟩ := rents_ok n h1
    refine ⟨g1, ?_, ?_⟩
    · unfold tents
      rw [g2, if_pos h1, h2]
    · rw [h3, g3]
      simp
theorem rentries_ok {l : List UInt8} {st : Nat × Bool} (h : (rentries l st).2.2 = true) : st.2 = true ∧ tents l (tnum l st).1 (tnum l st).2 = rentries l st ∧ l.take (rentries l st).2.1 = l.take st.1 ++ entsL (rentries l st).1 := by
  unfold rentries at h ⊢
  by_cases hc : (rnum l st).1 ≤ 16
  · rw [if_pos hc] at h ⊢
    obtain ⟨h1, h2, h3⟩ := rents_ok _ h
    obtain ⟨g1, g2, g3⟩ := rnum_ok h1
    refine ⟨g1, by rw [g2, h2], ?_⟩
    have hlen := rents_len l (rnum l st).1 (rnum l st).2
    rw [h3, g3]
    unfold entsL gathE
    rw [List.take_of_length_le (Nat.le_refl _), hlen, List.append_assoc]
  · rw [if_neg hc] at h
    simp at h
theorem may_kind {m : MsgV} {l : List EntV} (h : mayB m l = true) : m.kind = 1 ∨ m.kind = 2 ∨ m.kind = 3 ∨ m.kind = 4 ∨ m.kind = 5 := by
  by_cases k1 : m.kind = 1
  · exact .inl k1
  · by_cases k2 : m.kind = 2
    · exact .inr (.inl k2)
    · by_cases k3 : m.kind = 3
      · exact .inr (.inr (.inl k3))
      · by_cases k4 : m.kind = 4
        · exact .inr (.inr (.inr (.inl k4)))
        · by_cases k5 : m.kind = 5
          · exact .inr (.inr (.inr (.inr k5)))
          · exfalso
            unfold mayB bodyB at h
            rw [if_neg k1, if_neg k2, if_neg k3, if_neg k4, if_neg k5, Bool.and_false] at h
            cases h
end Go.Proofs.Ytagfolckodpioaa.K2
namespace Go.Proofs.Ytagfolckodpioaa.K2
open Go.RowKit Go.Maps Go.Proofs.Ytagfolckodpioaa
set_option linter.all false
theorem uI_cast (n : Nat) : uI (n : Int) = uintL n := by unfold uI; rw [Int.toNat_natCast]
theorem rbody_kind (l : List UInt8) (k f d t : Nat) (st : Nat × Bool) : (rbody l k f d t st).1.kind = (k : Int) := by
  unfold rbody
  split
  · rfl
  · split
    · rfl
    · split
      · rfl
      · split
        · rfl
        · split
          · rfl
          · rfl
theorem tbody_bare (l : List UInt8) (k f d t : Nat) (st : Nat × Bool) : withE (tbody l k f d t st).1 none 0 0 = (tbody l k f d t st).1 := by
  unfold tbody
  split
  · rfl
  · split
    · rfl
    · split
      · rfl
      · split
        · rfl
        · split
          · rfl
          · rfl
theorem rbody_ok {l : List UInt8} {k f d t : Nat} {st : Nat × Bool} (hk : k = 1 ∨ k = 2 ∨ k = 3 ∨ k = 4 ∨ k = 5) (h : (rbody l k f d t st).2.2.2 = true) : st.2 = true ∧ tbody l k f d t st = rbody l k f d t st ∧ (l.take st.1 = uintL k ++ uintL f ++ uintL d ++ uintL t → l.take (rbody l k f d t st).2.2.1 = bodyL (withE (rbody l k f d t st).1 none (rbody l k f d t st).2.1.length 0) (rbody l k f d t st).2.1) := by
  rcases hk with rfl | rfl | rfl | rfl | rfl
  · unfold rbody at h ⊢
    unfold tbody
    rw [if_pos rfl] at h ⊢
    rw [if_pos rfl]
    simp only at h ⊢
    obtain ⟨h1, h2, h3⟩ := rspot_ok h
    refine ⟨h1, by rw [h2], fun hp => ?_⟩
    rw [h3, hp]
    simp [bodyL, withE, headL, uI_cast]
    rfl
  · unfold rbody at h ⊢
    unfold tbody
    rw [if_neg (by decide), if_pos rfl] at h ⊢
    rw [if_neg (by decide), if_pos rfl]
    simp only at h ⊢
    obtain ⟨h1, h2, h3, h4⟩ := rflag_ok h
    refine ⟨h1, by rw [h2, h3], fun hp => ?_⟩
    rw [h4, hp]
    simp [bodyL, withE, headL, uI_cast]
    rfl
  · unfold rbody at h ⊢
    unfold tbody
    rw [if_neg (by decide), if_neg (by decide), if_pos rfl] at h ⊢
    rw [if_neg (by decide), if_neg (by decide), if_pos rfl]
    simp only at h ⊢
    obtain ⟨h1, h2, h3⟩ := rentries_ok h
    obtain ⟨g1, g2, g3⟩ := rnum_ok h1
    obtain ⟨f1, f2, f3⟩ := rspot_ok g1
    refine ⟨f1, by rw [f2, g2, h2], fun hp => ?_⟩
    rw [h3, g3, f3, hp]
    simp [bodyL, withE, headL, uI_cast]
    rfl
  · unfold rbody at h ⊢
    unfold tbody
    rw [if_neg (by decide), if_neg (by decide), if_neg (by decide), if_pos rfl] at h ⊢
    rw [if_neg (by decide), if_neg (by decide), if_neg (by decide), if_pos rfl]
    simp only at h ⊢
    obtain ⟨h1, h2, h3⟩ := rnum_ok h
    obtain ⟨g1, g2, g3, g4⟩ := rflag_ok h1
    refine ⟨g1, by rw [g2, g3, h2], fun hp => ?_⟩
    rw [h3, g4, hp]
    simp [bodyL, withE, headL, uI_cast]
    rfl
  · unfold rbody at h ⊢
    unfold tbody
    rw [if_neg (by decide), if_neg (by decide), if_neg (by decide), if_neg (by decide), if_pos rfl] at h ⊢
    rw [if_neg (by decide), if_neg (by decide), if_neg (by decide), if_neg (by decide), if_pos rfl]
    simp only at h ⊢
    obtain ⟨h1, h2, h3⟩ := rpiece_ok h
    obtain ⟨g1, g2, g3⟩ := rspot_ok h1
    refine ⟨g1, by rw [g2, h2], fun hp => ?_⟩
    rw [h3, g3, hp]
    simp [bodyL, withE, headL, uI_cast]
    rfl
theorem rmsg_ok {l : List UInt8} (hk : (rmsg l (0, true)).1.kind = 1 ∨ (rmsg l (0, true)).1.kind = 2 ∨ (rmsg l (0, true)).1.kind = 3 ∨ (rmsg l (0, true)).1.kind = 4 ∨ (rmsg l (0, true)).1.kind = 5) (h : (rmsg l (0, true)).2.2.2 = true) : tmsg l (0, true) = rmsg l (0, true) ∧ l.take (rmsg l (0, true)).2.2.1 = bodyL (withE (rmsg l (0, true)).1 none (rmsg l (0, true)).2.1.length 0) (rmsg l (0, true)).2.1 := by
  unfold rmsg at hk h ⊢
  unfold tmsg
  rw [rbody_kind] at hk
  obtain ⟨h1, h2, h3⟩ := rbody_ok (by omega) h
  obtain ⟨g1, g2, g3⟩ := rnum_ok h1
  obtain ⟨f1, f2, f3⟩ := rnum_ok g1
  obtain ⟨e1, e2, e3⟩ := rnum_ok f1
  obtain ⟨d1, d2, d3⟩ := rnum_ok e1
  refine ⟨?_, h3 ?_⟩
  · rw [d2, e2, f2, g2, h2]
  · rw [g3, f3, e3, d3]
    simp
theorem tmsg_bare (l : List UInt8) (st : Nat × Bool) : withE (tmsg l st).1 none 0 0 = (tmsg l st).1 := tbody_bare _ _ _ _ _ _
theorem with_with (m : MsgV) (a a' : Option Addr) (n c n' c' : Nat) : withE (withE m a n c) a' n' c' = withE m a' n' c' := rfl
theorem unf_form {l : List UInt8} (h : (unf l 0).2.2 = 0) (hl : l.length ≤ (unf l 0).2.1) : l = frameL (unf l 0).1 ∧ (unf l 0).1.length ≤ 70000 := by
  have h8 : 8 ≤ l.length := by
    rcases Nat.lt_or_ge l.length 8 with h' | h'
    · unfold unf at h
      rw [if_pos (by omega)] at h
      simp at h
    · exact h'
  obtain ⟨A, S, T, hA, hS, rfl⟩ : ∃ A S T : List UInt8, A.length = 4 ∧ S.length = 4 ∧ l = A ++ S ++ T := by
    refine ⟨l.take 4, (l.drop 4).take 4, l.drop 8, by rw [List.length_take]; omega, by rw [List.length_take, List.length_drop]; omega, ?_⟩
    have e1 : (l.drop 4).drop 4 = l.drop 8 := by rw [List.drop_drop]
    rw [List.append_assoc, ← e1, List.take_append_drop, List.take_append_drop]
  rw [unf_parts A S T hA hS] at h hl ⊢
  by_cases h1 : 70000 < numL A
  · rw [if_pos h1] at h
    simp at h
  · rw [if_neg h1] at h hl ⊢
    by_cases h2 : T.length < numL A
    · rw [if_pos h2] at h
      simp at h
    · rw [if_neg h2] at h hl ⊢
      by_cases h3 : numL S ≠ sumN (A ++ T.take (numL A))
      · rw [if_pos h3] at h
        simp at h
      · rw [if_neg h3] at h hl ⊢
        simp only at hl ⊢
        have hT : T.length = numL A := by
          simp only [List.length_append, hA, hS] at hl
          omega
        have ht : T.take (numL A) = T := List.take_of_length_le (by omega)
        rw [ht] at h3 ⊢
        have hs : numL S = sumN (A ++ T) := by simpa using h3
        have eA : A = wordL T.length := numL_inj A _ hA (wordL_len _) (by rw [numL_word _ (by omega), hT])
        have eS : S = wordL (sumN (wordL T.length ++ T)) := numL_inj S _ hS (wordL_len _) (by rw [numL_word _ (sumN_lt' _), hs, ← eA])
        refine ⟨?_, by omega⟩
        unfold frameL
        rw [← eS, ← eA]
theorem rdec_eq (l : List UInt8) : rdec l = decL l := by
  unfold rdec
  by_cases hu : (unf l 0).2.2 = 0
  · rw [if_pos hu]
    by_cases hc : (tmsg (unf l 0).1 (0, true)).2.2.2 = true ∧ mayB (withE (tmsg (unf l 0).1 (0, true)).1 none (tmsg (unf l 0).1 (0, true)).2.1.length 0) (tmsg (unf l 0).1 (0, true)).2.1 = true ∧ frameL (bodyL (withE (tmsg (unf l 0).1 (0, true)).1 none (tmsg (unf l 0).1 (0, true)).2.1.length 0) (tmsg (unf l 0).1 (0, true)).2.1) = l
    · rw [if_pos hc]
      obtain ⟨_, h2, h3⟩ := hc
      have hd := dec_enc _ _ rfl h2
      rw [h3] at hd
      rw [with_with, tmsg_bare] at hd
      exact hd.symm
    · rw [if_neg hc]
      symm
      cases hd : decL l with
      | none => rfl
      | some y =>
        exfalso
        apply hc
        unfold decL at hd
        by_cases hL : (unf l 0).2.2 = 0 ∧ l.length ≤ (unf l 0).2.1
        · rw [if_pos hL] at hd
          obtain ⟨hf, h7⟩ := unf_form hL.1 hL.2
          generalize (unf l 0).1 = t at *
          unfold msgIn at hd
          by_cases hm : (rmsg t (0, true)).2.2.2 = true ∧ t.length ≤ (rmsg t (0, true)).2.2.1
          · rw [if_pos hm] at hd
            simp only [Option.bind_some] at hd
            by_cases hy : mayB (withE (rmsg t (0, true)).1 none (rmsg t (0, true)).2.1.length 0) (rmsg t (0, true)).2.1 = true
            · obtain ⟨k1, k2⟩ := rmsg_ok (l := t) (may_kind (m := withE (rmsg t (0, true)).1 none (rmsg t (0, true)).2.1.length 0) hy) hm.1
              rw [k1]
              rw [List.take_of_length_le hm.2] at k2
              refine ⟨hm.1, hy, ?_⟩
              rw [← k2]
              exact hf.symm
            · rw [if_neg hy] at hd
              cases hd
          · rw [if_neg hm] at hd
            simp at hd
        · rw [if_neg hL] at hd
          cases hd
  · rw [if_neg hu]
    unfold decL
    rw [if_neg (fun h => hu h.1)]
end Go.Proofs.Ytagfolckodpioaa.K2
namespace Go.Proofs.Ytagfolckodpioaa.K2
open Go.RowKit Go.Maps Go.Proofs.Ytagfolckodpioaa
set_option linter.all false
def TkR (w : World) (r : Nat) (s : ByteArray) (st : Nat × Bool) : Prop := w.heap[r]? = some (.cells #[.string s, .int .i64 (st.1 : Int), .bool st.2] 82 (0, 0))
def TakIs (r : Nat) (s : ByteArray) (v : Value) (st : Nat × Bool) (w : World) (e : Ending) (w' : World) : Prop := e = .returned v ∧ TkR w' r s st ∧ Out (fun k => k = r) w w'
theorem tk_moved {w : World} {r : Nat} {s : ByteArray} {a : Nat} {b : Bool} (h : TkR w r s (a, b)) (n nx : Nat) : TkR ((w.drewN n).setCell ⟨r, 1, none⟩ (.int .i64 (nx : Int))) r s (nx, b) ∧ Out (fun k => k = r) w ((w.drewN n).setCell ⟨r, 1, none⟩ (.int .i64 (nx : Int))) := by
  have h0 : (w.drewN n).heap[r]? = some (.cells #[.string s, .int .i64 (a : Int), .bool b] 82 (0, 0)) := blkK h (below_drewN (Below.refl _ _) n)
  exact ⟨heap_set h0 1 _, (Out.ofBelow (F := fun k => k = r) (below_drewN (Below.refl _ _) n)).trans (Out.ofSet (F := fun k => k = r) _ ⟨r, 1, none⟩ _ rfl) (fun _ _ e => e)⟩
theorem tk_failed {w : World} {r : Nat} {s : ByteArray} {a : Nat} {b : Bool} (h : TkR w r s (a, b)) (n : Nat) : TkR ((w.drewN n).setCell ⟨r, 2, none⟩ (.bool false)) r s (a, false) ∧ Out (fun k => k = r) w ((w.drewN n).setCell ⟨r, 2, none⟩ (.bool false)) := by
  have h0 : (w.drewN n).heap[r]? = some (.cells #[.string s, .int .i64 (a : Int), .bool b] 82 (0, 0)) := blkK h (below_drewN (Below.refl _ _) n)
  exact ⟨heap_set h0 2 _, (Out.ofBelow (F := fun k => k = r) (below_drewN (Below.refl _ _) n)).trans (Out.ofSet (F := fun k => k = r) _ ⟨r, 2, none⟩ _ rfl) (fun _ _ e => e)⟩
set_option maxHeartbeats 4000000 in
set_option maxRecDepth 100000 in
theorem tnum_is (r : Nat) (s : ByteArray) (st : Nat × Bool) (w : World) (hs : s.size ≤ maxLen) (h : TkR w r s st) : Calls Try.prog 43 #[.pointer (some ⟨r, 0, none⟩)] w (TakIs r s (.int .i64 ((tnum s.data.toList st).1 : Int)) (tnum s.data.toList st).2 w) := by
  obtain ⟨a, b⟩ := st
  obtain ⟨c0, c1, c2, cf, cz⟩ := three_at (show w.heap[r]? = some (.cells #[.string s, .int .i64 (a : Int), .bool b] 82 (0, 0)) from h)
  obtain ⟨n, nx, er, hr⟩ := tup_split s.data.toList a
  have ht := fun wx => refTake_any s a wx hs
  simp only [hr, tup] at ht
  have hrn : tnum s.data.toList (a, b) = if er = 0 ∧ n ≤ 1000000 then (n, (nx, b)) else (0, (a, false)) := by
    unfold tnum
    simp only [hr]
  rw [hrn]
  have Ht := hideIt ht
  have Hh := hideIt h
  clear ht h hr hrn
  by_cases he : er = 0
  · subst he
    by_cases hle : n ≤ 1000000
    · have hleI : ¬ (1000000 : Int) < (n : Int) := by omega
      have hleb : decide ((1000000 : Int) < (n : Int)) = false := decide_eq_false hleI
      have hwn : IntKind.i64.wrap (n : Int) = (n : Int) := by rw [IntKind.wrap_i64]; omega
      clear hleI
      rw [if_pos ⟨rfl, hle⟩]
      go_enter Try.func43, Try.ntmps43
      go_wp2
      go_quiet (first | (go_at_call 74; exact Calls.quiet_of_same (Ht.out _)))
      go_wp2
      go_ret
      exact ⟨by first | rfl | rw [hwn], tk_moved Hh.out _ _⟩
    · have hleI : (1000000 : Int) < (n : Int) := by omega
      rw [if_neg (fun h => hle h.2)]
      go_enter Try.func43, Try.ntmps43
      go_wp2
      go_quiet (first | (go_at_call 74; exact Calls.quiet_of_same (Ht.out _)))
      go_wp2
      go_ret
      exact ⟨rfl, tk_failed Hh.out _⟩
  · have heb : ((er : Int) == 0) = false := beq_eq_false_iff_ne.2 (by omega)
    rw [if_neg (fun h => he h.1)]
    go_enter Try.func43, Try.ntmps43
    go_wp2
    go_quiet (first | (go_at_call 74; exact Calls.quiet_of_same (Ht.out _)))
    go_wp2
    go_ret
    exact ⟨rfl, tk_failed Hh.out _⟩
set_option maxHeartbeats 4000000 in
set_option maxRecDepth 100000 in
theorem ttext_is (r : Nat) (s : ByteArray) (st : Nat × Bool) (w : World) (hs : s.size ≤ maxLen) (h : TkR w r s st) : Calls Try.prog 44 #[.pointer (some ⟨r, 0, none⟩)] w (TakIs r s (.string ⟨(ttext s.data.toList st).1.toArray⟩) (ttext s.data.toList st).2 w) := by
  obtain ⟨a, b⟩ := st
  obtain ⟨c0, c1, c2, cf, cz⟩ := three_at (show w.heap[r]? = some (.cells #[.string s, .int .i64 (a : Int), .bool b] 82 (0, 0)) from h)
  obtain ⟨t, nx, er, hr⟩ : ∃ t nx er, tkT s.data.toList a = (t, nx, er) := ⟨_, _, _, rfl⟩
  have ht := fun wx => refTakeText_any s a wx hs
  simp only [hr, tupT] at ht
  have hrn : ttext s.data.toList (a, b) = if er = 0 then (t, (nx, b)) else ([], (a, false)) := by
    unfold ttext
    simp only [hr]
  rw [hrn]
  have Ht := hideIt ht
  have Hh := hideIt h
  clear ht h hr hrn
  by_cases he : er = 0
  · subst he
    rw [if_pos rfl]
    go_enter Try.func44, Try.ntmps44
    go_wp2
    go_quiet (first | (go_at_call 75; exact Calls.quiet_of_same (Ht.out _)))
    go_wp2
    go_ret
    exact ⟨rfl, tk_moved Hh.out _ _⟩
  · have heb : ((er : Int) == 0) = false := beq_eq_false_iff_ne.2 (by omega)
    rw [if_neg he]
    go_enter Try.func44, Try.ntmps44
    go_wp2
    go_quiet (first | (go_at_call 75; exact Calls.quiet_of_same (Ht.out _)))
    go_wp2
    go_ret
    exact ⟨rfl, tk_failed Hh.out _⟩
end Go.Proofs.Ytagfolckodpioaa.K2
namespace Go.Proofs.Ytagfolckodpioaa.K2
open Go.RowKit Go.Maps Go.Proofs.Ytagfolckodpioaa
set_option linter.all false
structure DM (w : World) (kr r km : Nat) (s : ByteArray) (st : Nat × Bool) (m : MsgV) (es : List EntV) (W : World) : Prop where
  tk : TkR W r s st
  ms : W.heap[km]? = some (.cells (msgC m) 28 (0, 0))
  rs : W.heap[kr]? = some (.cells (msgC zeroM) 28 (0, 0))
  own : W.ownsRow (km + 1) 41 3 (.slice m.ea m.en m.ec) m.en (entC es)
  hn : m.en = es.length
  bel : Below w.heap.size w W
  l1 : w.heap.size ≤ kr
  l2 : kr < r
  l3 : r < km
theorem DM.lt {w : World} {kr r km : Nat} {s : ByteArray} {st : Nat × Bool} {m : MsgV} {es : List EntV} {W : World} (h : DM w kr r km s st m es W) : km < W.heap.size := (Array.getElem?_eq_some_iff.1 h.ms).1
theorem DM.keep {w : World} {kr r km : Nat} {s : ByteArray} {st : Nat × Bool} {m : MsgV} {es : List EntV} {W W' : World} (h : DM w kr r km s st m es W) (hb : Below W.heap.size W W') : DM w kr r km s st m es W' :=
  ⟨blkK h.tk hb, blkK h.ms hb, blkK h.rs hb, own_keep h.own hb, h.hn, below_via h.bel hb, h.l1, h.l2, h.l3⟩
theorem DM.num {w : World} {kr r km : Nat} {s : ByteArray} {st st' : Nat × Bool} {m : MsgV} {es : List EntV} {W W' : World} (h : DM w kr r km s st m es W) (ht : TkR W' r s st') (ho : Out (fun k => k = r) W W') : DM w kr r km s st' m es W' := by
  have hlt := h.lt
  have h1 := h.l1
  have h2 := h.l2
  have h3 := h.l3
  refine ⟨ht, (ho.block km (by omega) (by omega)).trans h.ms, (ho.block kr (by omega) (by omega)).trans h.rs, own_out h.own ho (fun k hk => by omega), h.hn, below_out h.bel ho (fun k hk => by omega), h1, h2, h3⟩
theorem DM.put {w : World} {kr r km : Nat} {s : ByteArray} {st : Nat × Bool} {m m' : MsgV} {es : List EntV} {W : World} (h : DM w kr r km s st m es W) (j : Nat) (v : Value) (e : (msgC m).setIfInBounds j v = msgC m') (e2 : m'.ea = m.ea ∧ m'.en = m.en ∧ m'.ec = m.ec) : DM w kr r km s st m' es (W.setCell ⟨km, j, none⟩ v) := by
  have h1 := h.l1
  have h2 := h.l2
  have h3 := h.l3
  refine ⟨setOther _ h.tk (by omega), e ▸ heap_set h.ms j v, setOther _ h.rs (by omega), ?_, by rw [e2.2.1]; exact h.hn, belowSet _ h.bel (by omega), h1, h2, h3⟩
  rw [e2.1, e2.2.1, e2.2.2]
  exact ownSet _ h.own (by omega)
/-- A block beside them. -/
theorem box_num {r kx : Nat} {W W' : World} {o : Obj} (ho : Out (fun k => k = r) W W') (hx : W.heap[kx]? = some o) (hne : kx ≠ r) : W'.heap[kx]? = some o := (ho.block kx (Array.getElem?_eq_some_iff.1 hx).1 hne).trans hx
theorem tents_stop {l : List UInt8} {st : Nat × Bool} {t : Nat} (h : (tents l t st).2.2 = false) : ∀ n, t ≤ n → tents l n st = tents l t st
  | 0, hn => by
    have : t = 0 := by omega
    rw [this]
  | n + 1, hn => by
    by_cases e : t = n + 1
    · rw [e]
    · have ih := tents_stop h n (by omega)
      have e2 : tents l (n + 1) st = if (tents l n st).2.2 = true then ((tents l n st).1 ++ [(tent l (tents l n st).2).1], (tent l (tents l n st).2).2) else tents l n st := rfl
      rw [e2, if_neg (by rw [ih, h]; decide), ih]
theorem tents_step {l : List UInt8} {st st1 : Nat × Bool} {t : Nat} {es : List EntV} (h : tents l t st = (es, st1)) (hk : st1.2 = true) : tents l (t + 1) st = (es ++ [(tent l st1).1], (tent l st1).2) := by
  unfold tents
  rw [h, if_pos hk]
theorem tents_len (l : List UInt8) (st : Nat × Bool) : ∀ n, (tents l n st).1.length ≤ n
  | 0 => Nat.le_refl _
  | n + 1 => by
    have ih := tents_len l st n
    unfold tents
    split
    · simp
      omega
    · omega
theorem tnum_le (l : List UInt8) (st : Nat × Bool) : (tnum l st).1 ≤ 1000000 := by
  unfold tnum
  split
  · rename_i h
    exact h.2
  · simp
/-- What comes back: none, or a message whose entries lie in memory. -/
def RDB (x : Option (MsgV × List EntV)) (w : World) (e : Ending) (w' : World) : Prop :=
  (match x with
   | none => e = .returned (.tuple #[.agg (msgC zeroM), .int .i64 52])
   | some (m, es) => ∃ a c, e = .returned (.tuple #[.agg (msgC (withE m a es.length c)), .int .i64 0]) ∧ EntsAt w' a es) ∧ Below w.heap.size w w'
end Go.Proofs.Ytagfolckodpioaa.K2
namespace Go.Proofs.Ytagfolckodpioaa
open Go.RowKit

set_option maxHeartbeats 1000000 in
set_option maxRecDepth 100000 in
theorem refNumber_any (s : ByteArray) (w : World) (hs : s.size = 4) :
    Calls Try.prog 73 #[.string s] w fun e w' => e = .returned (.int .i64 (numL s.data.toList : Nat)) ∧ w' = w := by
  have Hs := hideIt hs
  have hs1 : 4 ≤ s.size := by omega
  clear hs
  go_enter Try.func73, Try.ntmps73
  go_wp2
  go_loop [3, 4] (fun x j => ∃ (n q : Nat), j = .int .i64 (n : Int) ∧ x = .int .i64 (q : Int) ∧ n ≤ 4 ∧ q < 256 ^ n ∧ Hid (q = numL (s.data.toList.take n))) (fun _ j => (4 - Go.RowKit.intOf j).toNat)
  case atStart => exact ⟨0, 0, rfl, rfl, by omega, by decide, rfl⟩
  case round =>
    obtain ⟨n, q, rfl, rfl, hn, hq, Hq⟩ := hrel
    by_cases hnl : n < 4
    · have hnl' : (n : Int) < 4 := by omega
      have hnl2 : (n : Int) < s.size := by omega
      have hnl3 : n < s.size := by omega
      have hqq : q * 256 < 4294967296 := by
        have : q < 256 ^ 3 := Nat.lt_of_lt_of_le hq (Nat.pow_le_pow_right (by decide) (by omega))
        omega
      have hb := UInt8.toNat_lt s[n]
      have Hn : Hid (q * 256 + s[n].toNat = numL (s.data.toList.take (n + 1))) := by
        show _ = _
        rw [List.take_succ_eq_append_getElem (by simpa using hnl3)]
        unfold numL
        rw [List.foldl_append, Hq.out]
        rfl
      have hq2 : q * 256 + s[n].toNat < 256 ^ (n + 1) := by rw [Nat.pow_succ]; omega
      have hw1 : (q : Int) * 256 + (s[n].toNat : Int) ≤ 9223372036854775807 := by omega
      go_wp2
      exact ⟨⟨n + 1, q * 256 + s[n].toNat, by go_num, by go_num, by omega, hq2, Hn⟩, by simp [Go.RowKit.intOf]; omega⟩
    · have hnl' : ¬ (n : Int) < 4 := by omega
      go_wp2
      go_ret
      rw [Hq.out, List.take_of_length_le (by have := Hs.out; simp; omega)]
      exact ⟨rfl, rfl⟩
set_option maxHeartbeats 4000000 in
set_option maxRecDepth 100000 in
theorem refUnframe_any (s : ByteArray) (a : Nat) (w : World) (hs : s.size ≤ maxLen) (ha : a ≤ s.size) :
    Calls Try.prog 42 #[.string s, .int .i64 (a : Int)] w fun e w' => e = tupT (unf s.data.toList a) ∧ Below w.heap.size w w' := by
  unfold maxLen at hs
  have ha0 : ¬ ((a : Int) < 0) := by omega
  have ha1 : ¬ ((s.size : Int) < a) := by omega
  have hsl : s.data.toList.length = s.size := by simp
  by_cases h8 : s.size < a + 8
  · have h8' : (s.size : Int) - a < 8 := by omega
    have Hu : Hid (unf s.data.toList a = ([], 0, 20)) := by show _ = _; unfold unf; rw [if_pos (by omega)]
    rw [Hu.out]
    clear Hu
    go_enter Try.func42, Try.ntmps42
    go_wp2
    go_ret3
    exact ⟨rfl, Below.refl _ _⟩
  · have h8' : ¬ (s.size : Int) - a < 8 := by omega
    have hu : unf s.data.toList a = (if 70000 < numL ((s.data.toList.drop a).take 4) then ([], 0, 22) else if s.data.toList.length < a + 8 + numL ((s.data.toList.drop a).take 4) then ([], 0, 20) else if numL (((s.data.toList.drop a).drop 4).take 4) ≠ sumN ((s.data.toList.drop a).take 4 ++ ((s.data.toList.drop (a + 8)).take (numL ((s.data.toList.drop a).take 4)))) then ([], 0, 21) else (((s.data.toList.drop (a + 8)).take (numL ((s.data.toList.drop a).take 4))), a + 8 + numL ((s.data.toList.drop a).take 4), 0)) := by unfold unf; rw [if_neg (by omega)]
    have e1 : (s.extract a (a + 4)).data.toList = (s.data.toList.drop a).take 4 := ext_list s a 4
    have e2 : (s.extract (a + 4) (a + 8)).data.toList = ((s.data.toList.drop a).drop 4).take 4 := by
      have := ext_list s (a + 4) 4
      rw [List.drop_drop]
      exact this
    have hN := fun W => refNumber_any (s.extract a (a + 4)) W (by rw [ByteArray.size_extract]; omega)
    have hM := fun W => refNumber_any (s.extract (a + 4) (a + 8)) W (by rw [ByteArray.size_extract]; omega)
    have hszl : numL ((s.data.toList.drop a).take 4) < 4294967296 := numL_lt _ (by simp; omega)
    have hxl : numL (((s.data.toList.drop a).drop 4).take 4) < 4294967296 := numL_lt _ (by simp; omega)
    have hS := fun (n : Nat) W => refSum_any (s.extract a (a + 4) ++ s.extract (a + 8) (a + 8 + n)) W (by rw [ByteArray.size_append, ByteArray.size_extract, ByteArray.size_extract]; omega)
    have e3 : ∀ n, (s.extract a (a + 4) ++ s.extract (a + 8) (a + 8 + n)).data.toList = (s.data.toList.drop a).take 4 ++ (s.data.toList.drop (a + 8)).take n := by
      intro n
      rw [ByteArray.data_append, Array.toList_append, e1, ext_list]
    simp only [e1, e2, e3] at hN hM hS
    rw [hu]
    rw [hsl]
    have h4e : (s.extract a (a + 4)).size = 4 := by rw [ByteArray.size_extract]; omega
    generalize numL ((s.data.toList.drop a).take 4) = sz at *
    generalize numL (((s.data.toList.drop a).drop 4).take 4) = x at *
    have hS2 := hS sz
    have hsl2 := sumN_lt' ((s.data.toList.drop a).take 4 ++ (s.data.toList.drop (a + 8)).take sz)
    generalize sumN ((s.data.toList.drop a).take 4 ++ (s.data.toList.drop (a + 8)).take sz) = y at *
    have e4 : (s.data.toList.drop (a + 8)).take sz = (s.extract (a + 8) (a + 8 + sz)).data.toList := (ext_list s (a + 8) sz).symm
    rw [e4]
    have HN := hideIt hN
    have HM := hideIt hM
    have HS := hideIt hS2
    clear hu e1 e2 e3 e4 hN hM hS hS2 hsl
    by_cases hlong : 70000 < sz
    · have hl' : (70000 : Int) < sz := by omega
      rw [if_pos hlong]
      go_enter Try.func42, Try.ntmps42
      go_wp2_with fail
      refine (HN.out _).mono ?_
      rintro e w1 ⟨rfl, rfl⟩
      dsimp only
      go_wp2
      go_ret3
      exact ⟨rfl, Below.refl _ _⟩
    · have hl' : ¬ (70000 : Int) < sz := by omega
      rw [if_neg hlong]
      by_cases hcut : s.size < a + 8 + sz
      · have hc' : (s.size : Int) - a - 8 < sz := by omega
        rw [if_pos hcut]
        go_enter Try.func42, Try.ntmps42
        go_wp2_with fail
        refine (HN.out _).mono ?_
        rintro e w1 ⟨rfl, rfl⟩
        dsimp only
        go_wp2
        go_ret3
        exact ⟨rfl, Below.refl _ _⟩
      · have hc' : ¬ (s.size : Int) - a - 8 < sz := by omega
        have hc2 : (a : Int) + 8 + sz ≤ s.size := by omega
        rw [if_neg hcut]
        have hcat : ¬ 9223372036854775807 < (s.extract a (a + 4)).size + (s.extract (a + 8) (a + 8 + sz)).size := by rw [ByteArray.size_extract, ByteArray.size_extract]; omega
        have hq1 : (a : Int) + 4 ≤ (s.size : Int) := by omega
        have hq2 : (a : Int) + 8 ≤ (s.size : Int) := by omega
        have hxw : (x : Int) % 4294967296 = (x : Int) := by omega
        by_cases hsum : x = y
        · have hne : ((x : Int) != (y : Int)) = false := by rw [hsum]; simp
          rw [if_neg (by omega)]
          clear hsum
          go_enter Try.func42, Try.ntmps42
          go_wp2_with fail
          refine (HN.out _).mono ?_
          rintro e w1 ⟨rfl, rfl⟩
          dsimp only
          go_wp2
          go_quiet (first | (go_at_call 73; exact Calls.quiet_of_same (HM.out _)) | (go_at_call 41; exact Calls.quiet_of_same (HS.out _)))
          go_wp2
          go_ret3
          exact ⟨by simp [tupT]; exact extract_eq s (a + 8) sz, below_drewN (Below.refl _ _) _⟩
        · have hne : ((x : Int) != (y : Int)) = true := by simp; omega
          rw [if_pos hsum]
          clear hsum
          go_enter Try.func42, Try.ntmps42
          go_wp2_with fail
          refine (HN.out _).mono ?_
          rintro e w1 ⟨rfl, rfl⟩
          dsimp only
          go_wp2
          go_quiet (first | (go_at_call 73; exact Calls.quiet_of_same (HM.out _)) | (go_at_call 41; exact Calls.quiet_of_same (HS.out _)))
          go_wp2
          go_ret3
          exact ⟨rfl, below_drewN (Below.refl _ _) _⟩
end Go.Proofs.Ytagfolckodpioaa
namespace Go.Proofs.Ytagfolckodpioaa.K2
open Go.RowKit Go.Maps Go.Proofs.Ytagfolckodpioaa
set_option linter.all false
theorem neq9_no (a : ByteArray) (w : World) : (binOp .neq 9 (.string a) (.string a)).run Try.prog w = .ok (.bool false) w := by
  simp [go_sem]
theorem neq9_yes {a b : ByteArray} (h : a.data.toList ≠ b.data.toList) (w : World) : (binOp .neq 9 (.string a) (.string b)).run Try.prog w = .ok (.bool true) w := by
  simp [go_sem]
  rw [Go.Lib.toList_data, Go.Lib.toList_data]
  exact h
set_option maxHeartbeats 8000000 in
set_option maxRecDepth 100000 in
theorem rDec_no (s : ByteArray) (w : World) (hs : s.size ≤ maxLen) (hu : (unf s.data.toList 0).2.2 ≠ 0) : Calls Try.prog 14 #[.string s] w (RDB none w) := by
  have HB := hideIt (below1 w (.cells (msgC zeroM) 28))
  have X := hideIt (heap_alloc_new w (.cells (msgC zeroM) 28))
  have HU := hideIt (fun W => refUnframe_any s 0 W hs (Nat.zero_le _))
  unfold tupT at HU
  unfold RDB
  obtain ⟨t, nx, er, hr⟩ : ∃ t nx er, unf s.data.toList 0 = (t, nx, er) := ⟨_, _, _, rfl⟩
  rw [hr] at hu
  have heb : ((er : Int) == 0) = false := beq_eq_false_iff_ne.2 (by simp only at hu; omega)
  simp only [hr] at HU
  clear hr hu
  simp only [msgC, zeroM] at HB X ⊢
  go_enter Try.func14, Try.ntmps14
  go_upto_region 1 with fail
  generalize w.alloc (.cells #[.int .i64 0, .int .i64 0, .int .i64 0, .int .i64 0, .int .i64 0, .int .i64 0, .slice none 0 0, .int .i64 0, .bool false, .int .i64 0, .int .i64 0, .int .i64 0, .string ⟨#[]⟩] 28) = W1 at *
  go_wp2_with fail
  refine (HU.out _).mono ?_
  rintro e w2 ⟨rfl, hb⟩
  dsimp only
  have X2 := hideIt (blkK X.out hb)
  have B2 := hideIt (below_via HB.out hb)
  clear hb X HB HU
  obtain ⟨⟨d0, d1, d2, d3, d4, d5, d6, d7, d8, d9, d10, d11, d12⟩, nf, nz⟩ := msg_at (m := ⟨0, 0, 0, 0, 0, 0, none, 0, 0, 0, false, 0, 0, 0, ⟨#[]⟩⟩) X2.out
  dsimp only at d0 d1 d2 d3 d4 d5 d6 d7 d8 d9 d10 d11 d12
  go_wp2
  obtain ⟨hzz, hoo⟩ := put13 w2 w.heap.size (.int .i64 0) (.int .i64 0) (.int .i64 0) (.int .i64 0) (.int .i64 0) (.int .i64 0) (.slice none 0 0) (.int .i64 0) (.bool false) (.int .i64 0) (.int .i64 0) (.int .i64 0) (.string ⟨#[]⟩) X2.out
  refine bodyPost_ret (v := .tuple #[.agg #[.int .i64 0, .int .i64 0, .int .i64 0, .int .i64 0, .int .i64 0, .int .i64 0, .slice none 0 0, .int .i64 0, .bool false, .int .i64 0, .int .i64 0, .int .i64 0, .string ⟨#[]⟩], .int .i64 52]) (by simp [results, Try.results14, go_sem, cell_at hzz]) rfl ⟨rfl, ?_⟩
  exact below_out B2.out hoo (fun k hk => by omega)
theorem tnum_at (tb : ByteArray) (hs : tb.size ≤ maxLen) (st st' : Nat × Bool) (n : Nat) (k : Int) (hE : tnum tb.data.toList st = (n, st')) (hk : k = (n : Int)) (r : Nat) (W : World) (h : TkR W r tb st) : Calls Try.prog 43 #[.pointer (some ⟨r, 0, none⟩)] W fun e w' => e = .returned (.int .i64 k) ∧ TkR w' r tb st' ∧ Out (fun j => j = r) W w' := by
  have := tnum_is r tb st W hs h
  rw [hE] at this
  rw [hk]
  exact this
theorem ttext_at (tb : ByteArray) (hs : tb.size ≤ maxLen) (st st' : Nat × Bool) (t : List UInt8) (hE : ttext tb.data.toList st = (t, st')) (r : Nat) (W : World) (h : TkR W r tb st) : Calls Try.prog 44 #[.pointer (some ⟨r, 0, none⟩)] W fun e w' => e = .returned (.string ⟨t.toArray⟩) ∧ TkR w' r tb st' ∧ Out (fun j => j = r) W w' := by
  have := ttext_is r tb st W hs h
  rw [hE] at this
  exact this
theorem dec_rx {L sl : List UInt8} {R : Option (MsgV × List EntV)} {m : MsgV} {es : List EntV} {sa : Nat} {sb : Bool} (h : R = if (tmsg L (0, true)).2.2.2 = true ∧ mayB (withE (tmsg L (0, true)).1 none (tmsg L (0, true)).2.1.length 0) (tmsg L (0, true)).2.1 = true ∧ frameL (bodyL (withE (tmsg L (0, true)).1 none (tmsg L (0, true)).2.1.length 0) (tmsg L (0, true)).2.1) = sl then some ((tmsg L (0, true)).1, (tmsg L (0, true)).2.1) else none) (ht : tmsg L (0, true) = (withE m none 0 0, es, (sa, sb))) (hn : m.en = es.length) : R = if sb = true ∧ mayB m es = true ∧ frameL (bodyL m es) = sl then some (withE m none 0 0, es) else none := by
  rw [h, ht]
  obtain ⟨kind, frm, dst, term, pi, pt, ea, en, ec, commit, ok, mtch, si, st, text⟩ := m
  simp only at hn
  subst hn
  rfl
end Go.Proofs.Ytagfolckodpioaa.K2
namespace Go.Proofs.Ytagfolckodpioaa.K2
open Go.RowKit Go.Maps Go.Proofs.Ytagfolckodpioaa
set_option linter.all false
set_option maxHeartbeats 16000000 in
set_option maxRecDepth 100000 in
theorem rDec_1 (s : ByteArray) (w : World) (hs : s.size ≤ maxLen) (hu : (unf s.data.toList 0).2.2 = 0) (hkd : (tnum (unf s.data.toList 0).1 (0, true)).1 = 1) : Calls Try.prog 14 #[.string s] w (RDB (rdec s.data.toList) w) := by
  obtain ⟨L, nx, er, hr⟩ : ∃ t nx er, unf s.data.toList 0 = (t, nx, er) := ⟨_, _, _, rfl⟩
  have hus := unf_size s.data.toList 0
  have HR : Hid (rdec s.data.toList = if (tmsg L (0, true)).2.2.2 = true ∧ mayB (withE (tmsg L (0, true)).1 none (tmsg L (0, true)).2.1.length 0) (tmsg L (0, true)).2.1 = true ∧ frameL (bodyL (withE (tmsg L (0, true)).1 none (tmsg L (0, true)).2.1.length 0) (tmsg L (0, true)).2.1) = s.data.toList then some ((tmsg L (0, true)).1, (tmsg L (0, true)).2.1) else none) := by
    show _ = _
    unfold rdec
    rw [if_pos hu, hr]
  rw [hr] at hu hus hkd
  simp only at hu hus hkd
  subst hu
  have HU := hideIt (fun W => refUnframe_any s 0 W hs (Nat.zero_le _))
  unfold tupT at HU
  simp only [hr] at HU
  have htz : (⟨L.toArray⟩ : ByteArray).size ≤ maxLen := by
    have e1 : (⟨L.toArray⟩ : ByteArray).size = L.length := rfl
    have e2 : s.data.toList.length = s.size := by simp
    omega
  clear hr
  generalize rdec s.data.toList = R at *
  obtain ⟨n1, s1, E1⟩ : ∃ n s', tnum L (0, true) = (n, s') := ⟨_, _, rfl⟩
  obtain ⟨n2, s2, E2⟩ : ∃ n s', tnum L s1 = (n, s') := ⟨_, _, rfl⟩
  obtain ⟨n3, s3, E3⟩ : ∃ n s', tnum L s2 = (n, s') := ⟨_, _, rfl⟩
  obtain ⟨n4, s4, E4⟩ : ∃ n s', tnum L s3 = (n, s') := ⟨_, _, rfl⟩
  rw [E1] at hkd
  simp only at hkd
  have HT2 := hideIt (fun r W => tnum_at ⟨L.toArray⟩ htz s1 s2 n2 _ E2 rfl r W)
  have HT3 := hideIt (fun r W => tnum_at ⟨L.toArray⟩ htz s2 s3 n3 _ E3 rfl r W)
  have HT4 := hideIt (fun r W => tnum_at ⟨L.toArray⟩ htz s3 s4 n4 _ E4 rfl r W)
  subst hkd
  have HT1 := hideIt (fun r W => tnum_at ⟨L.toArray⟩ htz (0, true) s1 1 1 E1 rfl r W)
  obtain ⟨n5, s5, E5⟩ : ∃ n s', tnum L s4 = (n, s') := ⟨_, _, rfl⟩
  obtain ⟨n6, s6, E6⟩ : ∃ n s', tnum L s5 = (n, s') := ⟨_, _, rfl⟩
  have HT5 := hideIt (fun r W => tnum_at ⟨L.toArray⟩ htz s4 s5 n5 _ E5 rfl r W)
  have HT6 := hideIt (fun r W => tnum_at ⟨L.toArray⟩ htz s5 s6 n6 _ E6 rfl r W)
  have HTM : Hid (tmsg L (0, true) = (withE ⟨1, n2, n3, n4, n5, n6, none, 0, 0, 0, false, 0, 0, 0, ⟨#[]⟩⟩ none 0 0, [], s6)) := by
    show _ = _
    unfold tmsg
    simp only [E1, E2, E3, E4]
    unfold tbody tspot
    rw [if_pos rfl]
    simp only [E5, E6]
    rfl
  clear E1 E2 E3 E4 E5 E6
  generalize (n5 : Int) = k5 at *
  generalize (n6 : Int) = k6 at *
  generalize (n2 : Int) = k2 at *
  generalize (n3 : Int) = k3 at *
  generalize (n4 : Int) = k4 at *
  have HB := hideIt (below1 w (.cells (msgC zeroM) 28))
  have X := hideIt (heap_alloc_new w (.cells (msgC zeroM) 28))
  simp only [msgC, zeroM] at HB X
  go_enter Try.func14, Try.ntmps14
  go_upto_region 1 with fail
  generalize w.alloc (.cells #[.int .i64 0, .int .i64 0, .int .i64 0, .int .i64 0, .int .i64 0, .int .i64 0, .slice none 0 0, .int .i64 0, .bool false, .int .i64 0, .int .i64 0, .int .i64 0, .string ⟨#[]⟩] 28) = W1 at *
  go_wp2_with fail
  refine (HU.out _).mono ?_
  rintro e w2 ⟨rfl, hb⟩
  dsimp only
  have D : Hid (DM w w.heap.size w2.heap.size (w2.heap.size + 1) ⟨L.toArray⟩ (0, true) zeroM [] ((w2.alloc (.cells #[.string ⟨L.toArray⟩, .int .i64 0, .bool true] 82)).alloc (.cells #[.int .i64 0, .int .i64 0, .int .i64 0, .int .i64 0, .int .i64 0, .int .i64 0, .slice none 0 0, .int .i64 0, .bool false, .int .i64 0, .int .i64 0, .int .i64 0, .string ⟨#[]⟩] 28))) := by
    obtain ⟨t1, t2, t3⟩ := two_heap w2 (.cells #[.string ⟨L.toArray⟩, .int .i64 0, .bool true] 82) (.cells #[.int .i64 0, .int .i64 0, .int .i64 0, .int .i64 0, .int .i64 0, .int .i64 0, .slice none 0 0, .int .i64 0, .bool false, .int .i64 0, .int .i64 0, .int .i64 0, .string ⟨#[]⟩] 28)
    have hb3 := below2 w2 (.cells #[.string ⟨L.toArray⟩, .int .i64 0, .bool true] 82) (.cells #[.int .i64 0, .int .i64 0, .int .i64 0, .int .i64 0, .int .i64 0, .int .i64 0, .slice none 0 0, .int .i64 0, .bool false, .int .i64 0, .int .i64 0, .int .i64 0, .string ⟨#[]⟩] 28)
    have hlt := (Array.getElem?_eq_some_iff.1 (blkK X.out hb)).1
    exact ⟨t1, t2, blkK (blkK X.out hb) hb3, own_none _ _, rfl, below_via (below_via HB.out hb) hb3, Nat.le_refl _, hlt, by omega⟩
  clear hb X HB HU
  go_upto_region 6 with fail
  generalize (w2.alloc (.cells #[.string ⟨L.toArray⟩, .int .i64 0, .bool true] 82)).alloc (.cells #[.int .i64 0, .int .i64 0, .int .i64 0, .int .i64 0, .int .i64 0, .int .i64 0, .slice none 0 0, .int .i64 0, .bool false, .int .i64 0, .int .i64 0, .int .i64 0, .string ⟨#[]⟩] 28) = W at *
  generalize w2.heap.size + 1 = km at *
  generalize w2.heap.size = r at *
  unfold zeroM at D
  go_wp2_with fail
  refine (HT1.out _ _ D.out.tk).mono ?_
  rintro e w' ⟨rfl, ht, ho⟩
  dsimp only
  have D' := hideIt ((D.out.num ht ho).put (m' := ⟨1, 0, 0, 0, 0, 0, none, 0, 0, 0, false, 0, 0, 0, ⟨#[]⟩⟩) 0 (.int .i64 1) rfl ⟨rfl, rfl, rfl⟩)
  obtain ⟨⟨d0, d1, d2, d3, d4, d5, d6, d7, d8, d9, d10, d11, d12⟩, nf, nz⟩ := msg_at (D.out.num ht ho).ms
  dsimp only at d0 d1 d2 d3 d4 d5 d6 d7 d8 d9 d10 d11 d12
  clear ht ho D HT1
  have D := D'
  clear D'
  go_upto_region 7 with fail
  clear d0 d1 d2 d3 d4 d5 d6 d7 d8 d9 d10 d11 d12 nf nz
  generalize w'.setCell ⟨km, 0, none⟩ (.int .i64 1) = W at *
  go_wp2_with fail
  refine (HT2.out _ _ D.out.tk).mono ?_
  rintro e w' ⟨rfl, ht, ho⟩
  dsimp only
  have D' := hideIt ((D.out.num ht ho).put (m' := ⟨1, k2, 0, 0, 0, 0, none, 0, 0, 0, false, 0, 0, 0, ⟨#[]⟩⟩) 1 (.int .i64 k2) rfl ⟨rfl, rfl, rfl⟩)
  obtain ⟨⟨d0, d1, d2, d3, d4, d5, d6, d7, d8, d9, d10, d11, d12⟩, nf, nz⟩ := msg_at (D.out.num ht ho).ms
  dsimp only at d0 d1 d2 d3 d4 d5 d6 d7 d8 d9 d10 d11 d12
  clear ht ho D HT2
  have D := D'
  clear D'
  go_upto_region 8 with fail
  clear d0 d1 d2 d3 d4 d5 d6 d7 d8 d9 d10 d11 d12 nf nz
  generalize w'.setCell ⟨km, 1, none⟩ (.int .i64 k2) = W at *
  go_wp2_with fail
  refine (HT3.out _ _ D.out.tk).mono ?_
  rintro e w' ⟨rfl, ht, ho⟩
  dsimp only
  have D' := hideIt ((D.out.num ht ho).put (m' := ⟨1, k2, k3, 0, 0, 0, none, 0, 0, 0, false, 0, 0, 0, ⟨#[]⟩⟩) 2 (.int .i64 k3) rfl ⟨rfl, rfl, rfl⟩)
  obtain ⟨⟨d0, d1, d2, d3, d4, d5, d6, d7, d8, d9, d10, d11, d12⟩, nf, nz⟩ := msg_at (D.out.num ht ho).ms
  dsimp only at d0 d1 d2 d3 d4 d5 d6 d7 d8 d9 d10 d11 d12
  clear ht ho D HT3
  have D := D'
  clear D'
  go_upto_region 9 with fail
  clear d0 d1 d2 d3 d4 d5 d6 d7 d8 d9 d10 d11 d12 nf nz
  generalize w'.setCell ⟨km, 2, none⟩ (.int .i64 k3) = W at *
  go_wp2_with fail
  refine (HT4.out _ _ D.out.tk).mono ?_
  rintro e w' ⟨rfl, ht, ho⟩
  dsimp only
  have D' := hideIt ((D.out.num ht ho).put (m' := ⟨1, k2, k3, k4, 0, 0, none, 0, 0, 0, false, 0, 0, 0, ⟨#[]⟩⟩) 3 (.int .i64 k4) rfl ⟨rfl, rfl, rfl⟩)
  obtain ⟨⟨d0, d1, d2, d3, d4, d5, d6, d7, d8, d9, d10, d11, d12⟩, nf, nz⟩ := msg_at (D.out.num ht ho).ms
  dsimp only at d0 d1 d2 d3 d4 d5 d6 d7 d8 d9 d10 d11 d12
  clear ht ho D HT4
  have D := D'
  clear D'
  go_upto_region 10 with fail
  clear d0 d1 d2 d3 d4 d5 d6 d7 d8 d9 d10 d11 d12 nf nz
  generalize w'.setCell ⟨km, 3, none⟩ (.int .i64 k4) = W at *
  have dk := (msg_at D.out.ms).1.1
  dsimp only at dk
  go_upto_region 12 with fail
  clear dk
  go_wp2_with fail
  refine (HT5.out _ _ D.out.tk).mono ?_
  rintro e w' ⟨rfl, ht, ho⟩
  dsimp only
  have D' := hideIt ((D.out.num ht ho).put (m' := ⟨1, k2, k3, k4, k5, 0, none, 0, 0, 0, false, 0, 0, 0, ⟨#[]⟩⟩) 4 (.int .i64 k5) rfl ⟨rfl, rfl, rfl⟩)
  obtain ⟨⟨d0, d1, d2, d3, d4, d5, d6, d7, d8, d9, d10, d11, d12⟩, nf, nz⟩ := msg_at (D.out.num ht ho).ms
  dsimp only at d0 d1 d2 d3 d4 d5 d6 d7 d8 d9 d10 d11 d12
  clear ht ho D HT5
  have D := D'
  clear D'
  go_upto_region 13 with fail
  clear d0 d1 d2 d3 d4 d5 d6 d7 d8 d9 d10 d11 d12 nf nz
  generalize w'.setCell ⟨km, 4, none⟩ (.int .i64 k5) = W at *
  go_wp2_with fail
  refine (HT6.out _ _ D.out.tk).mono ?_
  rintro e w' ⟨rfl, ht, ho⟩
  dsimp only
  have D' := hideIt ((D.out.num ht ho).put (m' := ⟨1, k2, k3, k4, k5, k6, none, 0, 0, 0, false, 0, 0, 0, ⟨#[]⟩⟩) 5 (.int .i64 k6) rfl ⟨rfl, rfl, rfl⟩)
  obtain ⟨⟨d0, d1, d2, d3, d4, d5, d6, d7, d8, d9, d10, d11, d12⟩, nf, nz⟩ := msg_at (D.out.num ht ho).ms
  dsimp only at d0 d1 d2 d3 d4 d5 d6 d7 d8 d9 d10 d11 d12
  clear ht ho D HT6
  have D := D'
  clear D'
  go_upto_region 36 with fail
  clear d0 d1 d2 d3 d4 d5 d6 d7 d8 d9 d10 d11 d12 nf nz
  generalize w'.setCell ⟨km, 5, none⟩ (.int .i64 k6) = W at *
  obtain ⟨sa, sb⟩ := s6
  have HX := hideIt (dec_rx HR.out HTM.out D.out.hn)
  clear HR HTM
  obtain ⟨m, hm⟩ : ∃ m : MsgV, m = ⟨1, k2, k3, k4, k5, k6, none, 0, 0, 0, false, 0, 0, 0, ⟨#[]⟩⟩ := ⟨_, rfl⟩
  rw [← hm] at D HX
  clear hm
  have hen := D.out.hn
  have HE := hideIt (fun W (hW : EntsAt W m.ea []) => refEncode_is m [] W hW hen (by simp))
  have HO : Hid (EntsAt W m.ea []) := own_ents (B := km + 1) (c := m.ec) (by have := D.out.own; rw [hen] at this; exact this)
  have HEN := hideIt hen
  clear hen
  obtain ⟨⟨d0, d1, d2, d3, d4, d5, d6, d7, d8, d9, d10, d11, d12⟩, nf, nz⟩ := msg_at D.out.ms
  simp only [msgC] at HE
  go_wp2_with fail
  refine (HE.out _ HO.out).mono ?_
  rintro e w5 ⟨rfl, hb⟩
  dsimp only
  have D5 := hideIt (D.out.keep hb)
  clear d0 d1 d2 d3 d4 d5 d6 d7 d8 d9 d10 d11 d12 nf nz hb D HO HE
  obtain ⟨t0, t1, t2, tf, tz⟩ := three_at (show w5.heap[r]? = some (.cells #[.string ⟨L.toArray⟩, .int .i64 (sa : Int), .bool sb] 82 (0, 0)) from D5.out.tk)
  cases sb with
  | false =>
    have HN : Hid (R = none) := by
      show _ = _
      rw [HX.out]
      exact if_neg (fun h => by cases h.1)
    clear HX
    obtain ⟨⟨d0, d1, d2, d3, d4, d5, d6, d7, d8, d9, d10, d11, d12⟩, nf, nz⟩ := msg_at (m := ⟨0, 0, 0, 0, 0, 0, none, 0, 0, 0, false, 0, 0, 0, ⟨#[]⟩⟩) D5.out.rs
    dsimp only at d0 d1 d2 d3 d4 d5 d6 d7 d8 d9 d10 d11 d12
    go_wp2
    obtain ⟨hzz, hoo⟩ := put13 w5 w.heap.size (.int .i64 0) (.int .i64 0) (.int .i64 0) (.int .i64 0) (.int .i64 0) (.int .i64 0) (.slice none 0 0) (.int .i64 0) (.bool false) (.int .i64 0) (.int .i64 0) (.int .i64 0) (.string ⟨#[]⟩) D5.out.rs
    refine bodyPost_ret (v := .tuple #[.agg #[.int .i64 0, .int .i64 0, .int .i64 0, .int .i64 0, .int .i64 0, .int .i64 0, .slice none 0 0, .int .i64 0, .bool false, .int .i64 0, .int .i64 0, .int .i64 0, .string ⟨#[]⟩], .int .i64 52]) (by simp [results, Try.results14, go_sem, cell_at hzz]) rfl ?_
    rw [HN.out]
    exact ⟨rfl, below_out D5.out.bel hoo (fun k hk => by omega)⟩
  | true =>
    cases hmy : mayB m [] with
    | false =>
      have hE : ((encE m [] : Nat) : Int) = 52 := by unfold encE; rw [hmy]; rfl
      rw [hE]
      have HN : Hid (R = none) := by
        show _ = _
        rw [HX.out]
        exact if_neg (fun h => by rw [hmy] at h; cases h.2.1)
      clear HX hE hmy
      obtain ⟨⟨d0, d1, d2, d3, d4, d5, d6, d7, d8, d9, d10, d11, d12⟩, nf, nz⟩ := msg_at (m := ⟨0, 0, 0, 0, 0, 0, none, 0, 0, 0, false, 0, 0, 0, ⟨#[]⟩⟩) D5.out.rs
      dsimp only at d0 d1 d2 d3 d4 d5 d6 d7 d8 d9 d10 d11 d12
      go_wp2
      obtain ⟨hzz, hoo⟩ := put13 w5 w.heap.size (.int .i64 0) (.int .i64 0) (.int .i64 0) (.int .i64 0) (.int .i64 0) (.int .i64 0) (.slice none 0 0) (.int .i64 0) (.bool false) (.int .i64 0) (.int .i64 0) (.int .i64 0) (.string ⟨#[]⟩) D5.out.rs
      refine bodyPost_ret (v := .tuple #[.agg #[.int .i64 0, .int .i64 0, .int .i64 0, .int .i64 0, .int .i64 0, .int .i64 0, .slice none 0 0, .int .i64 0, .bool false, .int .i64 0, .int .i64 0, .int .i64 0, .string ⟨#[]⟩], .int .i64 52]) (by simp [results, Try.results14, go_sem, cell_at hzz]) rfl ?_
      rw [HN.out]
      exact ⟨rfl, below_out D5.out.bel hoo (fun k hk => by omega)⟩
    | true =>
      have hE : ((encE m [] : Nat) : Int) = 0 := by unfold encE; rw [hmy]; rfl
      have hEL : encL m [] = frameL (bodyL m []) := by unfold encL; rw [hmy]; rfl
      rw [hE, hEL]
      clear hE hEL
      by_cases hq : frameL (bodyL m []) = s.data.toList
      · have hsq : (⟨(frameL (bodyL m [])).toArray⟩ : ByteArray) = s := by rw [hq]
        rw [hsq]
        have q9 := fun W => neq9_no s W
        have HS : Hid (R = some (withE m none 0 0, [])) := by
          show _ = _
          rw [HX.out]
          exact if_pos ⟨rfl, hmy, hq⟩
        clear HX hq hsq hmy
        obtain ⟨⟨d0, d1, d2, d3, d4, d5, d6, d7, d8, d9, d10, d11, d12⟩, nf, nz⟩ := msg_at (m := ⟨0, 0, 0, 0, 0, 0, none, 0, 0, 0, false, 0, 0, 0, ⟨#[]⟩⟩) D5.out.rs
        obtain ⟨⟨c0, c1, c2, c3, c4, c5, c6, c7, c8, c9, c10, c11, c12⟩, mf, mz⟩ := msg_at D5.out.ms
        dsimp only at d0 d1 d2 d3 d4 d5 d6 d7 d8 d9 d10 d11 d12
        have hdis : km ≠ w.heap.size := by have := D5.out.l2; have := D5.out.l3; omega
        go_wp2
        obtain ⟨hzz, hoo⟩ := put13 w5 w.heap.size (.int .i64 m.kind) (.int .i64 m.frm) (.int .i64 m.dst) (.int .i64 m.term) (.int .i64 m.pi) (.int .i64 m.pt) (.slice m.ea m.en m.ec) (.int .i64 m.commit) (.bool m.ok) (.int .i64 m.mtch) (.int .i64 m.si) (.int .i64 m.st) (.string m.text) D5.out.rs
        refine bodyPost_ret (v := .tuple #[.agg #[.int .i64 m.kind, .int .i64 m.frm, .int .i64 m.dst, .int .i64 m.term, .int .i64 m.pi, .int .i64 m.pt, .slice m.ea m.en m.ec, .int .i64 m.commit, .bool m.ok, .int .i64 m.mtch, .int .i64 m.si, .int .i64 m.st, .string m.text], .int .i64 0]) (by simp [results, Try.results14, go_sem, cell_at hzz]) rfl ?_
        rw [HS.out]
        refine ⟨⟨m.ea, m.ec, ?_, ?_⟩, below_out D5.out.bel hoo (fun k hk => by omega)⟩
        · rw [← HEN.out]
          rfl
        · refine own_ents (B := km + 1) (c := m.ec) ?_
          have h1 := D5.out.own
          rw [HEN.out] at h1
          exact own_out h1 hoo (fun k hk => by have := D5.out.l2; have := D5.out.l3; omega)
      · have hq9 : (frameL (bodyL m []) == s.toList) = false := by rw [Go.Lib.toList_data]; simpa using hq
        have HN : Hid (R = none) := by
          show _ = _
          rw [HX.out]
          exact if_neg (fun h => hq h.2.2)
        clear HX hq hmy
        obtain ⟨⟨d0, d1, d2, d3, d4, d5, d6, d7, d8, d9, d10, d11, d12⟩, nf, nz⟩ := msg_at (m := ⟨0, 0, 0, 0, 0, 0, none, 0, 0, 0, false, 0, 0, 0, ⟨#[]⟩⟩) D5.out.rs
        dsimp only at d0 d1 d2 d3 d4 d5 d6 d7 d8 d9 d10 d11 d12
        go_wp2
        obtain ⟨hzz, hoo⟩ := put13 w5 w.heap.size (.int .i64 0) (.int .i64 0) (.int .i64 0) (.int .i64 0) (.int .i64 0) (.int .i64 0) (.slice none 0 0) (.int .i64 0) (.bool false) (.int .i64 0) (.int .i64 0) (.int .i64 0) (.string ⟨#[]⟩) D5.out.rs
        refine bodyPost_ret (v := .tuple #[.agg #[.int .i64 0, .int .i64 0, .int .i64 0, .int .i64 0, .int .i64 0, .int .i64 0, .slice none 0 0, .int .i64 0, .bool false, .int .i64 0, .int .i64 0, .int .i64 0, .string ⟨#[]⟩], .int .i64 52]) (by simp [results, Try.results14, go_sem, cell_at hzz]) rfl ?_
        rw [HN.out]
        exact ⟨rfl, below_out D5.out.bel hoo (fun k hk => by omega)⟩
end Go.Proofs.Ytagfolckodpioaa.K2
namespace Go.Proofs.Ytagfolckodpioaa.K2
open Go.RowKit Go.Maps Go.Proofs.Ytagfolckodpioaa
set_option linter.all false
theorem dec_one (n : Nat) : decide (n = 1) = ((n : Int) == 1) := by
  rw [Bool.eq_iff_iff]
  simp
  omega
set_option maxHeartbeats 16000000 in
set_option maxRecDepth 100000 in
theorem rDec_2 (s : ByteArray) (w : World) (hs : s.size ≤ maxLen) (hu : (unf s.data.toList 0).2.2 = 0) (hkd : (tnum (unf s.data.toList 0).1 (0, true)).1 = 2) : Calls Try.prog 14 #[.string s] w (RDB (rdec s.data.toList) w) := by
  obtain ⟨L, nx, er, hr⟩ : ∃ t nx er, unf s.data.toList 0 = (t, nx, er) := ⟨_, _, _, rfl⟩
  have hus := unf_size s.data.toList 0
  have HR : Hid (rdec s.data.toList = if (tmsg L (0, true)).2.2.2 = true ∧ mayB (withE (tmsg L (0, true)).1 none (tmsg L (0, true)).2.1.length 0) (tmsg L (0, true)).2.1 = true ∧ frameL (bodyL (withE (tmsg L (0, true)).1 none (tmsg L (0, true)).2.1.length 0) (tmsg L (0, true)).2.1) = s.data.toList then some ((tmsg L (0, true)).1, (tmsg L (0, true)).2.1) else none) := by
    show _ = _
    unfold rdec
    rw [if_pos hu, hr]
  rw [hr] at hu hus hkd
  simp only at hu hus hkd
  subst hu
  have HU := hideIt (fun W => refUnframe_any s 0 W hs (Nat.zero_le _))
  unfold tupT at HU
  simp only [hr] at HU
  have htz : (⟨L.toArray⟩ : ByteArray).size ≤ maxLen := by
    have e1 : (⟨L.toArray⟩ : ByteArray).size = L.length := rfl
    have e2 : s.data.toList.length = s.size := by simp
    omega
  clear hr
  generalize rdec s.data.toList = R at *
  obtain ⟨n1, s1, E1⟩ : ∃ n s', tnum L (0, true) = (n, s') := ⟨_, _, rfl⟩
  obtain ⟨n2, s2, E2⟩ : ∃ n s', tnum L s1 = (n, s') := ⟨_, _, rfl⟩
  obtain ⟨n3, s3, E3⟩ : ∃ n s', tnum L s2 = (n, s') := ⟨_, _, rfl⟩
  obtain ⟨n4, s4, E4⟩ : ∃ n s', tnum L s3 = (n, s') := ⟨_, _, rfl⟩
  rw [E1] at hkd
  simp only at hkd
  have HT2 := hideIt (fun r W => tnum_at ⟨L.toArray⟩ htz s1 s2 n2 _ E2 rfl r W)
  have HT3 := hideIt (fun r W => tnum_at ⟨L.toArray⟩ htz s2 s3 n3 _ E3 rfl r W)
  have HT4 := hideIt (fun r W => tnum_at ⟨L.toArray⟩ htz s3 s4 n4 _ E4 rfl r W)
  subst hkd
  have HT1 := hideIt (fun r W => tnum_at ⟨L.toArray⟩ htz (0, true) s1 2 2 E1 rfl r W)
  obtain ⟨n5, s5, E5⟩ : ∃ n s', tnum L s4 = (n, s') := ⟨_, _, rfl⟩
  have HT5 := hideIt (fun r W => tnum_at ⟨L.toArray⟩ htz s4 s5 n5 _ E5 rfl r W)
  have HTM : Hid (tmsg L (0, true) = (withE ⟨2, n2, n3, n4, 0, 0, none, 0, 0, 0, ((n5 : Int) == 1), 0, 0, 0, ⟨#[]⟩⟩ none 0 0, [], s5)) := by
    show _ = _
    unfold tmsg
    simp only [E1, E2, E3, E4]
    unfold tbody
    rw [if_neg (by decide), if_pos rfl]
    simp only [E5, dec_one]
    rfl
  clear E1 E2 E3 E4 E5
  generalize (n5 : Int) = k5 at *
  generalize (n2 : Int) = k2 at *
  generalize (n3 : Int) = k3 at *
  generalize (n4 : Int) = k4 at *
  have HB := hideIt (below1 w (.cells (msgC zeroM) 28))
  have X := hideIt (heap_alloc_new w (.cells (msgC zeroM) 28))
  simp only [msgC, zeroM] at HB X
  go_enter Try.func14, Try.ntmps14
  go_upto_region 1 with fail
  generalize w.alloc (.cells #[.int .i64 0, .int .i64 0, .int .i64 0, .int .i64 0, .int .i64 0, .int .i64 0, .slice none 0 0, .int .i64 0, .bool false, .int .i64 0, .int .i64 0, .int .i64 0, .string ⟨#[]⟩] 28) = W1 at *
  go_wp2_with fail
  refine (HU.out _).mono ?_
  rintro e w2 ⟨rfl, hb⟩
  dsimp only
  have D : Hid (DM w w.heap.size w2.heap.size (w2.heap.size + 1) ⟨L.toArray⟩ (0, true) zeroM [] ((w2.alloc (.cells #[.string ⟨L.toArray⟩, .int .i64 0, .bool true] 82)).alloc (.cells #[.int .i64 0, .int .i64 0, .int .i64 0, .int .i64 0, .int .i64 0, .int .i64 0, .slice none 0 0, .int .i64 0, .bool false, .int .i64 0, .int .i64 0, .int .i64 0, .string ⟨#[]⟩] 28))) := by
    obtain ⟨t1, t2, t3⟩ := two_heap w2 (.cells #[.string ⟨L.toArray⟩, .int .i64 0, .bool true] 82) (.cells #[.int .i64 0, .int .i64 0, .int .i64 0, .int .i64 0, .int .i64 0, .int .i64 0, .slice none 0 0, .int .i64 0, .bool false, .int .i64 0, .int .i64 0, .int .i64 0, .string ⟨#[]⟩] 28)
    have hb3 := below2 w2 (.cells #[.string ⟨L.toArray⟩, .int .i64 0, .bool true] 82) (.cells #[.int .i64 0, .int .i64 0, .int .i64 0, .int .i64 0, .int .i64 0, .int .i64 0, .slice none 0 0, .int .i64 0, .bool false, .int .i64 0, .int .i64 0, .int .i64 0, .string ⟨#[]⟩] 28)
    have hlt := (Array.getElem?_eq_some_iff.1 (blkK X.out hb)).1
    exact ⟨t1, t2, blkK (blkK X.out hb) hb3, own_none _ _, rfl, below_via (below_via HB.out hb) hb3, Nat.le_refl _, hlt, by omega⟩
  clear hb X HB HU
  go_upto_region 6 with fail
  generalize (w2.alloc (.cells #[.string ⟨L.toArray⟩, .int .i64 0, .bool true] 82)).alloc (.cells #[.int .i64 0, .int .i64 0, .int .i64 0, .int .i64 0, .int .i64 0, .int .i64 0, .slice none 0 0, .int .i64 0, .bool false, .int .i64 0, .int .i64 0, .int .i64 0, .string ⟨#[]⟩] 28) = W at *
  generalize w2.heap.size + 1 = km at *
  generalize w2.heap.size = r at *
  unfold zeroM at D
  go_wp2_with fail
  refine (HT1.out _ _ D.out.tk).mono ?_
  rintro e w' ⟨rfl, ht, ho⟩
  dsimp only
  have D' := hideIt ((D.out.num ht ho).put (m' := ⟨2, 0, 0, 0, 0, 0, none, 0, 0, 0, false, 0, 0, 0, ⟨#[]⟩⟩) 0 (.int .i64 2) rfl ⟨rfl, rfl, rfl⟩)
  obtain ⟨⟨d0, d1, d2, d3, d4, d5, d6, d7, d8, d9, d10, d11, d12⟩, nf, nz⟩ := msg_at (D.out.num ht ho).ms
  dsimp only at d0 d1 d2 d3 d4 d5 d6 d7 d8 d9 d10 d11 d12
  clear ht ho D HT1
  have D := D'
  clear D'
  go_upto_region 7 with fail
  clear d0 d1 d2 d3 d4 d5 d6 d7 d8 d9 d10 d11 d12 nf nz
  generalize w'.setCell ⟨km, 0, none⟩ (.int .i64 2) = W at *
  go_wp2_with fail
  refine (HT2.out _ _ D.out.tk).mono ?_
  rintro e w' ⟨rfl, ht, ho⟩
  dsimp only
  have D' := hideIt ((D.out.num ht ho).put (m' := ⟨2, k2, 0, 0, 0, 0, none, 0, 0, 0, false, 0, 0, 0, ⟨#[]⟩⟩) 1 (.int .i64 k2) rfl ⟨rfl, rfl, rfl⟩)
  obtain ⟨⟨d0, d1, d2, d3, d4, d5, d6, d7, d8, d9, d10, d11, d12⟩, nf, nz⟩ := msg_at (D.out.num ht ho).ms
  dsimp only at d0 d1 d2 d3 d4 d5 d6 d7 d8 d9 d10 d11 d12
  clear ht ho D HT2
  have D := D'
  clear D'
  go_upto_region 8 with fail
  clear d0 d1 d2 d3 d4 d5 d6 d7 d8 d9 d10 d11 d12 nf nz
  generalize w'.setCell ⟨km, 1, none⟩ (.int .i64 k2) = W at *
  go_wp2_with fail
  refine (HT3.out _ _ D.out.tk).mono ?_
  rintro e w' ⟨rfl, ht, ho⟩
  dsimp only
  have D' := hideIt ((D.out.num ht ho).put (m' := ⟨2, k2, k3, 0, 0, 0, none, 0, 0, 0, false, 0, 0, 0, ⟨#[]⟩⟩) 2 (.int .i64 k3) rfl ⟨rfl, rfl, rfl⟩)
  obtain ⟨⟨d0, d1, d2, d3, d4, d5, d6, d7, d8, d9, d10, d11, d12⟩, nf, nz⟩ := msg_at (D.out.num ht ho).ms
  dsimp only at d0 d1 d2 d3 d4 d5 d6 d7 d8 d9 d10 d11 d12
  clear ht ho D HT3
  have D := D'
  clear D'
  go_upto_region 9 with fail
  clear d0 d1 d2 d3 d4 d5 d6 d7 d8 d9 d10 d11 d12 nf nz
  generalize w'.setCell ⟨km, 2, none⟩ (.int .i64 k3) = W at *
  go_wp2_with fail
  refine (HT4.out _ _ D.out.tk).mono ?_
  rintro e w' ⟨rfl, ht, ho⟩
  dsimp only
  have D' := hideIt ((D.out.num ht ho).put (m' := ⟨2, k2, k3, k4, 0, 0, none, 0, 0, 0, false, 0, 0, 0, ⟨#[]⟩⟩) 3 (.int .i64 k4) rfl ⟨rfl, rfl, rfl⟩)
  obtain ⟨⟨d0, d1, d2, d3, d4, d5, d6, d7, d8, d9, d10, d11, d12⟩, nf, nz⟩ := msg_at (D.out.num ht ho).ms
  dsimp only at d0 d1 d2 d3 d4 d5 d6 d7 d8 d9 d10 d11 d12
  clear ht ho D HT4
  have D := D'
  clear D'
  go_upto_region 10 with fail
  clear d0 d1 d2 d3 d4 d5 d6 d7 d8 d9 d10 d11 d12 nf nz
  generalize w'.setCell ⟨km, 3, none⟩ (.int .i64 k4) = W at *
  have dk := (msg_at D.out.ms).1.1
  dsimp only at dk
  go_upto_region 15 with fail
  clear dk
  go_wp2_with fail
  refine (HT5.out _ _ D.out.tk).mono ?_
  rintro e w' ⟨rfl, ht, ho⟩
  dsimp only
  have D' := hideIt ((D.out.num ht ho).put (m' := ⟨2, k2, k3, k4, 0, 0, none, 0, 0, 0, (k5 == 1), 0, 0, 0, ⟨#[]⟩⟩) 8 (.bool (k5 == 1)) rfl ⟨rfl, rfl, rfl⟩)
  obtain ⟨⟨d0, d1, d2, d3, d4, d5, d6, d7, d8, d9, d10, d11, d12⟩, nf, nz⟩ := msg_at (D.out.num ht ho).ms
  dsimp only at d0 d1 d2 d3 d4 d5 d6 d7 d8 d9 d10 d11 d12
  clear ht ho D HT5
  have D := D'
  clear D'
  go_upto_region 36 with fail
  clear d0 d1 d2 d3 d4 d5 d6 d7 d8 d9 d10 d11 d12 nf nz
  generalize w'.setCell ⟨km, 8, none⟩ (.bool (k5 == 1)) = W at *
  obtain ⟨sa, sb⟩ := s5
  have HX := hideIt (dec_rx HR.out HTM.out D.out.hn)
  clear HR HTM
  obtain ⟨m, hm⟩ : ∃ m : MsgV, m = ⟨2, k2, k3, k4, 0, 0, none, 0, 0, 0, (k5 == 1), 0, 0, 0, ⟨#[]⟩⟩ := ⟨_, rfl⟩
  rw [← hm] at D HX
  clear hm
  have hen := D.out.hn
  have HE := hideIt (fun W (hW : EntsAt W m.ea []) => refEncode_is m [] W hW hen (by simp))
  have HO : Hid (EntsAt W m.ea []) := own_ents (B := km + 1) (c := m.ec) (by have := D.out.own; rw [hen] at this; exact this)
  have HEN := hideIt hen
  clear hen
  obtain ⟨⟨d0, d1, d2, d3, d4, d5, d6, d7, d8, d9, d10, d11, d12⟩, nf, nz⟩ := msg_at D.out.ms
  simp only [msgC] at HE
  go_wp2_with fail
  refine (HE.out _ HO.out).mono ?_
  rintro e w5 ⟨rfl, hb⟩
  dsimp only
  have D5 := hideIt (D.out.keep hb)
  clear d0 d1 d2 d3 d4 d5 d6 d7 d8 d9 d10 d11 d12 nf nz hb D HO HE
  obtain ⟨t0, t1, t2, tf, tz⟩ := three_at (show w5.heap[r]? = some (.cells #[.string ⟨L.toArray⟩, .int .i64 (sa : Int), .bool sb] 82 (0, 0)) from D5.out.tk)
  cases sb with
  | false =>
    have HN : Hid (R = none) := by
      show _ = _
      rw [HX.out]
      exact if_neg (fun h => by cases h.1)
    clear HX
    obtain ⟨⟨d0, d1, d2, d3, d4, d5, d6, d7, d8, d9, d10, d11, d12⟩, nf, nz⟩ := msg_at (m := ⟨0, 0, 0, 0, 0, 0, none, 0, 0, 0, false, 0, 0, 0, ⟨#[]⟩⟩) D5.out.rs
    dsimp only at d0 d1 d2 d3 d4 d5 d6 d7 d8 d9 d10 d11 d12
    go_wp2
    obtain ⟨hzz, hoo⟩ := put13 w5 w.heap.size (.int .i64 0) (.int .i64 0) (.int .i64 0) (.int .i64 0) (.int .i64 0) (.int .i64 0) (.slice none 0 0) (.int .i64 0) (.bool false) (.int .i64 0) (.int .i64 0) (.int .i64 0) (.string ⟨#[]⟩) D5.out.rs
    refine bodyPost_ret (v := .tuple #[.agg #[.int .i64 0, .int .i64 0, .int .i64 0, .int .i64 0, .int .i64 0, .int .i64 0, .slice none 0 0, .int .i64 0, .bool false, .int .i64 0, .int .i64 0, .int .i64 0, .string ⟨#[]⟩], .int .i64 52]) (by simp [results, Try.results14, go_sem, cell_at hzz]) rfl ?_
    rw [HN.out]
    exact ⟨rfl, below_out D5.out.bel hoo (fun k hk => by omega)⟩
  | true =>
    cases hmy : mayB m [] with
    | false =>
      have hE : ((encE m [] : Nat) : Int) = 52 := by unfold encE; rw [hmy]; rfl
      rw [hE]
      have HN : Hid (R = none) := by
        show _ = _
        rw [HX.out]
        exact if_neg (fun h => by rw [hmy] at h; cases h.2.1)
      clear HX hE hmy
      obtain ⟨⟨d0, d1, d2, d3, d4, d5, d6, d7, d8, d9, d10, d11, d12⟩, nf, nz⟩ := msg_at (m := ⟨0, 0, 0, 0, 0, 0, none, 0, 0, 0, false, 0, 0, 0, ⟨#[]⟩⟩) D5.out.rs
      dsimp only at d0 d1 d2 d3 d4 d5 d6 d7 d8 d9 d10 d11 d12
      go_wp2
      obtain ⟨hzz, hoo⟩ := put13 w5 w.heap.size (.int .i64 0) (.int .i64 0) (.int .i64 0) (.int .i64 0) (.int .i64 0) (.int .i64 0) (.slice none 0 0) (.int .i64 0) (.bool false) (.int .i64 0) (.int .i64 0) (.int .i64 0) (.string ⟨#[]⟩) D5.out.rs
      refine bodyPost_ret (v := .tuple #[.agg #[.int .i64 0, .int .i64 0, .int .i64 0, .int .i64 0, .int .i64 0, .int .i64 0, .slice none 0 0, .int .i64 0, .bool false, .int .i64 0, .int .i64 0, .int .i64 0, .string ⟨#[]⟩], .int .i64 52]) (by simp [results, Try.results14, go_sem, cell_at hzz]) rfl ?_
      rw [HN.out]
      exact ⟨rfl, below_out D5.out.bel hoo (fun k hk => by omega)⟩
    | true =>
      have hE : ((encE m [] : Nat) : Int) = 0 := by unfold encE; rw [hmy]; rfl
      have hEL : encL m [] = frameL (bodyL m []) := by unfold encL; rw [hmy]; rfl
      rw [hE, hEL]
      clear hE hEL
      by_cases hq : frameL (bodyL m []) = s.data.toList
      · have hsq : (⟨(frameL (bodyL m [])).toArray⟩ : ByteArray) = s := by rw [hq]
        rw [hsq]
        have q9 := fun W => neq9_no s W
        have HS : Hid (R = some (withE m none 0 0, [])) := by
          show _ = _
          rw [HX.out]
          exact if_pos ⟨rfl, hmy, hq⟩
        clear HX hq hsq hmy
        obtain ⟨⟨d0, d1, d2, d3, d4, d5, d6, d7, d8, d9, d10, d11, d12⟩, nf, nz⟩ := msg_at (m := ⟨0, 0, 0, 0, 0, 0, none, 0, 0, 0, false, 0, 0, 0, ⟨#[]⟩⟩) D5.out.rs
        obtain ⟨⟨c0, c1, c2, c3, c4, c5, c6, c7, c8, c9, c10, c11, c12⟩, mf, mz⟩ := msg_at D5.out.ms
        dsimp only at d0 d1 d2 d3 d4 d5 d6 d7 d8 d9 d10 d11 d12
        have hdis : km ≠ w.heap.size := by have := D5.out.l2; have := D5.out.l3; omega
        go_wp2
        obtain ⟨hzz, hoo⟩ := put13 w5 w.heap.size (.int .i64 m.kind) (.int .i64 m.frm) (.int .i64 m.dst) (.int .i64 m.term) (.int .i64 m.pi) (.int .i64 m.pt) (.slice m.ea m.en m.ec) (.int .i64 m.commit) (.bool m.ok) (.int .i64 m.mtch) (.int .i64 m.si) (.int .i64 m.st) (.string m.text) D5.out.rs
        refine bodyPost_ret (v := .tuple #[.agg #[.int .i64 m.kind, .int .i64 m.frm, .int .i64 m.dst, .int .i64 m.term, .int .i64 m.pi, .int .i64 m.pt, .slice m.ea m.en m.ec, .int .i64 m.commit, .bool m.ok, .int .i64 m.mtch, .int .i64 m.si, .int .i64 m.st, .string m.text], .int .i64 0]) (by simp [results, Try.results14, go_sem, cell_at hzz]) rfl ?_
        rw [HS.out]
        refine ⟨⟨m.ea, m.ec, ?_, ?_⟩, below_out D5.out.bel hoo (fun k hk => by omega)⟩
        · rw [← HEN.out]
          rfl
        · refine own_ents (B := km + 1) (c := m.ec) ?_
          have h1 := D5.out.own
          rw [HEN.out] at h1
          exact own_out h1 hoo (fun k hk => by have := D5.out.l2; have := D5.out.l3; omega)
      · have hq9 : (frameL (bodyL m []) == s.toList) = false := by rw [Go.Lib.toList_data]; simpa using hq
        have HN : Hid (R = none) := by
          show _ = _
          rw [HX.out]
          exact if_neg (fun h => hq h.2.2)
        clear HX hq hmy
        obtain ⟨⟨d0, d1, d2, d3, d4, d5, d6, d7, d8, d9, d10, d11, d12⟩, nf, nz⟩ := msg_at (m := ⟨0, 0, 0, 0, 0, 0, none, 0, 0, 0, false, 0, 0, 0, ⟨#[]⟩⟩) D5.out.rs
        dsimp only at d0 d1 d2 d3 d4 d5 d6 d7 d8 d9 d10 d11 d12
        go_wp2
        obtain ⟨hzz, hoo⟩ := put13 w5 w.heap.size (.int .i64 0) (.int .i64 0) (.int .i64 0) (.int .i64 0) (.int .i64 0) (.int .i64 0) (.slice none 0 0) (.int .i64 0) (.bool false) (.int .i64 0) (.int .i64 0) (.int .i64 0) (.string ⟨#[]⟩) D5.out.rs
        refine bodyPost_ret (v := .tuple #[.agg #[.int .i64 0, .int .i64 0, .int .i64 0, .int .i64 0, .int .i64 0, .int .i64 0, .slice none 0 0, .int .i64 0, .bool false, .int .i64 0, .int .i64 0, .int .i64 0, .string ⟨#[]⟩], .int .i64 52]) (by simp [results, Try.results14, go_sem, cell_at hzz]) rfl ?_
        rw [HN.out]
        exact ⟨rfl, below_out D5.out.bel hoo (fun k hk => by omega)⟩
set_option maxHeartbeats 16000000 in
set_option maxRecDepth 100000 in
theorem rDec_4 (s : ByteArray) (w : World) (hs : s.size ≤ maxLen) (hu : (unf s.data.toList 0).2.2 = 0) (hkd : (tnum (unf s.data.toList 0).1 (0, true)).1 = 4) : Calls Try.prog 14 #[.string s] w (RDB (rdec s.data.toList) w) := by
  obtain ⟨L, nx, er, hr⟩ : ∃ t nx er, unf s.data.toList 0 = (t, nx, er) := ⟨_, _, _, rfl⟩
  have hus := unf_size s.data.toList 0
  have HR : Hid (rdec s.data.toList = if (tmsg L (0, true)).2.2.2 = true ∧ mayB (withE (tmsg L (0, true)).1 none (tmsg L (0, true)).2.1.length 0) (tmsg L (0, true)).2.1 = true ∧ frameL (bodyL (withE (tmsg L (0, true)).1 none (tmsg L (0, true)).2.1.length 0) (tmsg L (0, true)).2.1) = s.data.toList then some ((tmsg L (0, true)).1, (tmsg L (0, true)).2.1) else none) := by
    show _ = _
    unfold rdec
    rw [if_pos hu, hr]
  rw [hr] at hu hus hkd
  simp only at hu hus hkd
  subst hu
  have HU := hideIt (fun W => refUnframe_any s 0 W hs (Nat.zero_le _))
  unfold tupT at HU
  simp only [hr] at HU
  have htz : (⟨L.toArray⟩ : ByteArray).size ≤ maxLen := by
    have e1 : (⟨L.toArray⟩ : ByteArray).size = L.length := rfl
    have e2 : s.data.toList.length = s.size := by simp
    omega
  clear hr
  generalize rdec s.data.toList = R at *
  obtain ⟨n1, s1, E1⟩ : ∃ n s', tnum L (0, true) = (n, s') := ⟨_, _, rfl⟩
  obtain ⟨n2, s2, E2⟩ : ∃ n s', tnum L s1 = (n, s') := ⟨_, _, rfl⟩
  obtain ⟨n3, s3, E3⟩ : ∃ n s', tnum L s2 = (n, s') := ⟨_, _, rfl⟩
  obtain ⟨n4, s4, E4⟩ : ∃ n s', tnum L s3 = (n, s') := ⟨_, _, rfl⟩
  rw [E1] at hkd
  simp only at hkd
  have HT2 := hideIt (fun r W => tnum_at ⟨L.toArray⟩ htz s1 s2 n2 _ E2 rfl r W)
  have HT3 := hideIt (fun r W => tnum_at ⟨L.toArray⟩ htz s2 s3 n3 _ E3 rfl r W)
  have HT4 := hideIt (fun r W => tnum_at ⟨L.toArray⟩ htz s3 s4 n4 _ E4 rfl r W)
  subst hkd
  have HT1 := hideIt (fun r W => tnum_at ⟨L.toArray⟩ htz (0, true) s1 4 4 E1 rfl r W)
  obtain ⟨n5, s5, E5⟩ : ∃ n s', tnum L s4 = (n, s') := ⟨_, _, rfl⟩
  have HT5 := hideIt (fun r W => tnum_at ⟨L.toArray⟩ htz s4 s5 n5 _ E5 rfl r W)
  obtain ⟨n6, s6, E6⟩ : ∃ n s', tnum L s5 = (n, s') := ⟨_, _, rfl⟩
  have HT6 := hideIt (fun r W => tnum_at ⟨L.toArray⟩ htz s5 s6 n6 _ E6 rfl r W)
  have HTM : Hid (tmsg L (0, true) = (withE ⟨4, n2, n3, n4, 0, 0, none, 0, 0, 0, ((n5 : Int) == 1), n6, 0, 0, ⟨#[]⟩⟩ none 0 0, [], s6)) := by
    show _ = _
    unfold tmsg
    simp only [E1, E2, E3, E4]
    unfold tbody
    rw [if_neg (by decide), if_neg (by decide), if_neg (by decide), if_pos rfl]
    simp only [E5, E6, dec_one]
    rfl
  clear E1 E2 E3 E4 E5 E6
  generalize (n5 : Int) = k5 at *
  generalize (n6 : Int) = k6 at *
  generalize (n2 : Int) = k2 at *
  generalize (n3 : Int) = k3 at *
  generalize (n4 : Int) = k4 at *
  have HB := hideIt (below1 w (.cells (msgC zeroM) 28))
  have X := hideIt (heap_alloc_new w (.cells (msgC zeroM) 28))
  simp only [msgC, zeroM] at HB X
  go_enter Try.func14, Try.ntmps14
  go_upto_region 1 with fail
  generalize w.alloc (.cells #[.int .i64 0, .int .i64 0, .int .i64 0, .int .i64 0, .int .i64 0, .int .i64 0, .slice none 0 0, .int .i64 0, .bool false, .int .i64 0, .int .i64 0, .int .i64 0, .string ⟨#[]⟩] 28) = W1 at *
  go_wp2_with fail
  refine (HU.out _).mono ?_
  rintro e w2 ⟨rfl, hb⟩
  dsimp only
  have D : Hid (DM w w.heap.size w2.heap.size (w2.heap.size + 1) ⟨L.toArray⟩ (0, true) zeroM [] ((w2.alloc (.cells #[.string ⟨L.toArray⟩, .int .i64 0, .bool true] 82)).alloc (.cells #[.int .i64 0, .int .i64 0, .int .i64 0, .int .i64 0, .int .i64 0, .int .i64 0, .slice none 0 0, .int .i64 0, .bool false, .int .i64 0, .int .i64 0, .int .i64 0, .string ⟨#[]⟩] 28))) := by
    obtain ⟨t1, t2, t3⟩ := two_heap w2 (.cells #[.string ⟨L.toArray⟩, .int .i64 0, .bool true] 82) (.cells #[.int .i64 0, .int .i64 0, .int .i64 0, .int .i64 0, .int .i64 0, .int .i64 0, .slice none 0 0, .int .i64 0, .bool false, .int .i64 0, .int .i64 0, .int .i64 0, .string ⟨#[]⟩] 28)
    have hb3 := below2 w2 (.cells #[.string ⟨L.toArray⟩, .int .i64 0, .bool true] 82) (.cells #[.int .i64 0, .int .i64 0, .int .i64 0, .int .i64 0, .int .i64 0, .int .i64 0, .slice none 0 0, .int .i64 0, .bool false, .int .i64 0, .int .i64 0, .int .i64 0, .string ⟨#[]⟩] 28)
    have hlt := (Array.getElem?_eq_some_iff.1 (blkK X.out hb)).1
    exact ⟨t1, t2, blkK (blkK X.out hb) hb3, own_none _ _, rfl, below_via (below_via HB.out hb) hb3, Nat.le_refl _, hlt, by omega⟩
  clear hb X HB HU
  go_upto_region 6 with fail
  generalize (w2.alloc (.cells #[.string ⟨L.toArray⟩, .int .i64 0, .bool true] 82)).alloc (.cells #[.int .i64 0, .int .i64 0, .int .i64 0, .int .i64 0, .int .i64 0, .int .i64 0, .slice none 0 0, .int .i64 0, .bool false, .int .i64 0, .int .i64 0, .int .i64 0, .string ⟨#[]⟩] 28) = W at *
  generalize w2.heap.size + 1 = km at *
  generalize w2.heap.size = r at *
  unfold zeroM at D
  go_wp2_with fail
  refine (HT1.out _ _ D.out.tk).mono ?_
  rintro e w' ⟨rfl, ht, ho⟩
  dsimp only
  have D' := hideIt ((D.out.num ht ho).put (m' := ⟨4, 0, 0, 0, 0, 0, none, 0, 0, 0, false, 0, 0, 0, ⟨#[]⟩⟩) 0 (.int .i64 4) rfl ⟨rfl, rfl, rfl⟩)
  obtain ⟨⟨d0, d1, d2, d3, d4, d5, d6, d7, d8, d9, d10, d11, d12⟩, nf, nz⟩ := msg_at (D.out.num ht ho).ms
  dsimp only at d0 d1 d2 d3 d4 d5 d6 d7 d8 d9 d10 d11 d12
  clear ht ho D HT1
  have D := D'
  clear D'
  go_upto_region 7 with fail
  clear d0 d1 d2 d3 d4 d5 d6 d7 d8 d9 d10 d11 d12 nf nz
  generalize w'.setCell ⟨km, 0, none⟩ (.int .i64 4) = W at *
  go_wp2_with fail
  refine (HT2.out _ _ D.out.tk).mono ?_
  rintro e w' ⟨rfl, ht, ho⟩
  dsimp only
  have D' := hideIt ((D.out.num ht ho).put (m' := ⟨4, k2, 0, 0, 0, 0, none, 0, 0, 0, false, 0, 0, 0, ⟨#[]⟩⟩) 1 (.int .i64 k2) rfl ⟨rfl, rfl, rfl⟩)
  obtain ⟨⟨d0, d1, d2, d3, d4, d5, d6, d7, d8, d9, d10, d11, d12⟩, nf, nz⟩ := msg_at (D.out.num ht ho).ms
  dsimp only at d0 d1 d2 d3 d4 d5 d6 d7 d8 d9 d10 d11 d12
  clear ht ho D HT2
  have D := D'
  clear D'
  go_upto_region 8 with fail
  clear d0 d1 d2 d3 d4 d5 d6 d7 d8 d9 d10 d11 d12 nf nz
  generalize w'.setCell ⟨km, 1, none⟩ (.int .i64 k2) = W at *
  go_wp2_with fail
  refine (HT3.out _ _ D.out.tk).mono ?_
  rintro e w' ⟨rfl, ht, ho⟩
  dsimp only
  have D' := hideIt ((D.out.num ht ho).put (m' := ⟨4, k2, k3, 0, 0, 0, none, 0, 0, 0, false, 0, 0, 0, ⟨#[]⟩⟩) 2 (.int .i64 k3) rfl ⟨rfl, rfl, rfl⟩)
  obtain ⟨⟨d0, d1, d2, d3, d4, d5, d6, d7, d8, d9, d10, d11, d12⟩, nf, nz⟩ := msg_at (D.out.num ht ho).ms
  dsimp only at d0 d1 d2 d3 d4 d5 d6 d7 d8 d9 d10 d11 d12
  clear ht ho D HT3
  have D := D'
  clear D'
  go_upto_region 9 with fail
  clear d0 d1 d2 d3 d4 d5 d6 d7 d8 d9 d10 d11 d12 nf nz
  generalize w'.setCell ⟨km, 2, none⟩ (.int .i64 k3) = W at *
  go_wp2_with fail
  refine (HT4.out _ _ D.out.tk).mono ?_
  rintro e w' ⟨rfl, ht, ho⟩
  dsimp only
  have D' := hideIt ((D.out.num ht ho).put (m' := ⟨4, k2, k3, k4, 0, 0, none, 0, 0, 0, false, 0, 0, 0, ⟨#[]⟩⟩) 3 (.int .i64 k4) rfl ⟨rfl, rfl, rfl⟩)
  obtain ⟨⟨d0, d1, d2, d3, d4, d5, d6, d7, d8, d9, d10, d11, d12⟩, nf, nz⟩ := msg_at (D.out.num ht ho).ms
  dsimp only at d0 d1 d2 d3 d4 d5 d6 d7 d8 d9 d10 d11 d12
  clear ht ho D HT4
  have D := D'
  clear D'
  go_upto_region 10 with fail
  clear d0 d1 d2 d3 d4 d5 d6 d7 d8 d9 d10 d11 d12 nf nz
  generalize w'.setCell ⟨km, 3, none⟩ (.int .i64 k4) = W at *
  have dk := (msg_at D.out.ms).1.1
  dsimp only at dk
  go_upto_region 30 with fail
  clear dk
  go_wp2_with fail
  refine (HT5.out _ _ D.out.tk).mono ?_
  rintro e w' ⟨rfl, ht, ho⟩
  dsimp only
  have D' := hideIt ((D.out.num ht ho).put (m' := ⟨4, k2, k3, k4, 0, 0, none, 0, 0, 0, (k5 == 1), 0, 0, 0, ⟨#[]⟩⟩) 8 (.bool (k5 == 1)) rfl ⟨rfl, rfl, rfl⟩)
  obtain ⟨⟨d0, d1, d2, d3, d4, d5, d6, d7, d8, d9, d10, d11, d12⟩, nf, nz⟩ := msg_at (D.out.num ht ho).ms
  dsimp only at d0 d1 d2 d3 d4 d5 d6 d7 d8 d9 d10 d11 d12
  clear ht ho D HT5
  have D := D'
  clear D'
  go_upto_region 31 with fail
  clear d0 d1 d2 d3 d4 d5 d6 d7 d8 d9 d10 d11 d12 nf nz
  generalize w'.setCell ⟨km, 8, none⟩ (.bool (k5 == 1)) = W at *
  go_wp2_with fail
  refine (HT6.out _ _ D.out.tk).mono ?_
  rintro e w' ⟨rfl, ht, ho⟩
  dsimp only
  have D' := hideIt ((D.out.num ht ho).put (m' := ⟨4, k2, k3, k4, 0, 0, none, 0, 0, 0, (k5 == 1), k6, 0, 0, ⟨#[]⟩⟩) 9 (.int .i64 k6) rfl ⟨rfl, rfl, rfl⟩)
  obtain ⟨⟨d0, d1, d2, d3, d4, d5, d6, d7, d8, d9, d10, d11, d12⟩, nf, nz⟩ := msg_at (D.out.num ht ho).ms
  dsimp only at d0 d1 d2 d3 d4 d5 d6 d7 d8 d9 d10 d11 d12
  clear ht ho D HT6
  have D := D'
  clear D'
  go_upto_region 36 with fail
  clear d0 d1 d2 d3 d4 d5 d6 d7 d8 d9 d10 d11 d12 nf nz
  generalize w'.setCell ⟨km, 9, none⟩ (.int .i64 k6) = W at *
  obtain ⟨sa, sb⟩ := s6
  have HX := hideIt (dec_rx HR.out HTM.out D.out.hn)
  clear HR HTM
  obtain ⟨m, hm⟩ : ∃ m : MsgV, m = ⟨4, k2, k3, k4, 0, 0, none, 0, 0, 0, (k5 == 1), k6, 0, 0, ⟨#[]⟩⟩ := ⟨_, rfl⟩
  rw [← hm] at D HX
  clear hm
  have hen := D.out.hn
  have HE := hideIt (fun W (hW : EntsAt W m.ea []) => refEncode_is m [] W hW hen (by simp))
  have HO : Hid (EntsAt W m.ea []) := own_ents (B := km + 1) (c := m.ec) (by have := D.out.own; rw [hen] at this; exact this)
  have HEN := hideIt hen
  clear hen
  obtain ⟨⟨d0, d1, d2, d3, d4, d5, d6, d7, d8, d9, d10, d11, d12⟩, nf, nz⟩ := msg_at D.out.ms
  simp only [msgC] at HE
  go_wp2_with fail
  refine (HE.out _ HO.out).mono ?_
  rintro e w5 ⟨rfl, hb⟩
  dsimp only
  have D5 := hideIt (D.out.keep hb)
  clear d0 d1 d2 d3 d4 d5 d6 d7 d8 d9 d10 d11 d12 nf nz hb D HO HE
  obtain ⟨t0, t1, t2, tf, tz⟩ := three_at (show w5.heap[r]? = some (.cells #[.string ⟨L.toArray⟩, .int .i64 (sa : Int), .bool sb] 82 (0, 0)) from D5.out.tk)
  cases sb with
  | false =>
    have HN : Hid (R = none) := by
      show _ = _
      rw [HX.out]
      exact if_neg (fun h => by cases h.1)
    clear HX
    obtain ⟨⟨d0, d1, d2, d3, d4, d5, d6, d7, d8, d9, d10, d11, d12⟩, nf, nz⟩ := msg_at (m := ⟨0, 0, 0, 0, 0, 0, none, 0, 0, 0, false, 0, 0, 0, ⟨#[]⟩⟩) D5.out.rs
    dsimp only at d0 d1 d2 d3 d4 d5 d6 d7 d8 d9 d10 d11 d12
    go_wp2
    obtain ⟨hzz, hoo⟩ := put13 w5 w.heap.size (.int .i64 0) (.int .i64 0) (.int .i64 0) (.int .i64 0) (.int .i64 0) (.int .i64 0) (.slice none 0 0) (.int .i64 0) (.bool false) (.int .i64 0) (.int .i64 0) (.int .i64 0) (.string ⟨#[]⟩) D5.out.rs
    refine bodyPost_ret (v := .tuple #[.agg #[.int .i64 0, .int .i64 0, .int .i64 0, .int .i64 0, .int .i64 0, .int .i64 0, .slice none 0 0, .int .i64 0, .bool false, .int .i64 0, .int .i64 0, .int .i64 0, .string ⟨#[]⟩], .int .i64 52]) (by simp [results, Try.results14, go_sem, cell_at hzz]) rfl ?_
    rw [HN.out]
    exact ⟨rfl, below_out D5.out.bel hoo (fun k hk => by omega)⟩
  | true =>
    cases hmy : mayB m [] with
    | false =>
      have hE : ((encE m [] : Nat) : Int) = 52 := by unfold encE; rw [hmy]; rfl
      rw [hE]
      have HN : Hid (R = none) := by
        show _ = _
        rw [HX.out]
        exact if_neg (fun h => by rw [hmy] at h; cases h.2.1)
      clear HX hE hmy
      obtain ⟨⟨d0, d1, d2, d3, d4, d5, d6, d7, d8, d9, d10, d11, d12⟩, nf, nz⟩ := msg_at (m := ⟨0, 0, 0, 0, 0, 0, none, 0, 0, 0, false, 0, 0, 0, ⟨#[]⟩⟩) D5.out.rs
      dsimp only at d0 d1 d2 d3 d4 d5 d6 d7 d8 d9 d10 d11 d12
      go_wp2
      obtain ⟨hzz, hoo⟩ := put13 w5 w.heap.size (.int .i64 0) (.int .i64 0) (.int .i64 0) (.int .i64 0) (.int .i64 0) (.int .i64 0) (.slice none 0 0) (.int .i64 0) (.bool false) (.int .i64 0) (.int .i64 0) (.int .i64 0) (.string ⟨#[]⟩) D5.out.rs
      refine bodyPost_ret (v := .tuple #[.agg #[.int .i64 0, .int .i64 0, .int .i64 0, .int .i64 0, .int .i64 0, .int .i64 0, .slice none 0 0, .int .i64 0, .bool false, .int .i64 0, .int .i64 0, .int .i64 0, .string ⟨#[]⟩], .int .i64 52]) (by simp [results, Try.results14, go_sem, cell_at hzz]) rfl ?_
      rw [HN.out]
      exact ⟨rfl, below_out D5.out.bel hoo (fun k hk => by omega)⟩
    | true =>
      have hE : ((encE m [] : Nat) : Int) = 0 := by unfold encE; rw [hmy]; rfl
      have hEL : encL m [] = frameL (bodyL m []) := by unfold encL; rw [hmy]; rfl
      rw [hE, hEL]
      clear hE hEL
      by_cases hq : frameL (bodyL m []) = s.data.toList
      · have hsq : (⟨(frameL (bodyL m [])).toArray⟩ : ByteArray) = s := by rw [hq]
        rw [hsq]
        have q9 := fun W => neq9_no s W
        have HS : Hid (R = some (withE m none 0 0, [])) := by
          show _ = _
          rw [HX.out]
          exact if_pos ⟨rfl, hmy, hq⟩
        clear HX hq hsq hmy
        obtain ⟨⟨d0, d1, d2, d3, d4, d5, d6, d7, d8, d9, d10, d11, d12⟩, nf, nz⟩ := msg_at (m := ⟨0, 0, 0, 0, 0, 0, none, 0, 0, 0, false, 0, 0, 0, ⟨#[]⟩⟩) D5.out.rs
        obtain ⟨⟨c0, c1, c2, c3, c4, c5, c6, c7, c8, c9, c10, c11, c12⟩, mf, mz⟩ := msg_at D5.out.ms
        dsimp only at d0 d1 d2 d3 d4 d5 d6 d7 d8 d9 d10 d11 d12
        have hdis : km ≠ w.heap.size := by have := D5.out.l2; have := D5.out.l3; omega
        go_wp2
        obtain ⟨hzz, hoo⟩ := put13 w5 w.heap.size (.int .i64 m.kind) (.int .i64 m.frm) (.int .i64 m.dst) (.int .i64 m.term) (.int .i64 m.pi) (.int .i64 m.pt) (.slice m.ea m.en m.ec) (.int .i64 m.commit) (.bool m.ok) (.int .i64 m.mtch) (.int .i64 m.si) (.int .i64 m.st) (.string m.text) D5.out.rs
        refine bodyPost_ret (v := .tuple #[.agg #[.int .i64 m.kind, .int .i64 m.frm, .int .i64 m.dst, .int .i64 m.term, .int .i64 m.pi, .int .i64 m.pt, .slice m.ea m.en m.ec, .int .i64 m.commit, .bool m.ok, .int .i64 m.mtch, .int .i64 m.si, .int .i64 m.st, .string m.text], .int .i64 0]) (by simp [results, Try.results14, go_sem, cell_at hzz]) rfl ?_
        rw [HS.out]
        refine ⟨⟨m.ea, m.ec, ?_, ?_⟩, below_out D5.out.bel hoo (fun k hk => by omega)⟩
        · rw [← HEN.out]
          rfl
        · refine own_ents (B := km + 1) (c := m.ec) ?_
          have h1 := D5.out.own
          rw [HEN.out] at h1
          exact own_out h1 hoo (fun k hk => by have := D5.out.l2; have := D5.out.l3; omega)
      · have hq9 : (frameL (bodyL m []) == s.toList) = false := by rw [Go.Lib.toList_data]; simpa using hq
        have HN : Hid (R = none) := by
          show _ = _
          rw [HX.out]
          exact if_neg (fun h => hq h.2.2)
        clear HX hq hmy
        obtain ⟨⟨d0, d1, d2, d3, d4, d5, d6, d7, d8, d9, d10, d11, d12⟩, nf, nz⟩ := msg_at (m := ⟨0, 0, 0, 0, 0, 0, none, 0, 0, 0, false, 0, 0, 0, ⟨#[]⟩⟩) D5.out.rs
        dsimp only at d0 d1 d2 d3 d4 d5 d6 d7 d8 d9 d10 d11 d12
        go_wp2
        obtain ⟨hzz, hoo⟩ := put13 w5 w.heap.size (.int .i64 0) (.int .i64 0) (.int .i64 0) (.int .i64 0) (.int .i64 0) (.int .i64 0) (.slice none 0 0) (.int .i64 0) (.bool false) (.int .i64 0) (.int .i64 0) (.int .i64 0) (.string ⟨#[]⟩) D5.out.rs
        refine bodyPost_ret (v := .tuple #[.agg #[.int .i64 0, .int .i64 0, .int .i64 0, .int .i64 0, .int .i64 0, .int .i64 0, .slice none 0 0, .int .i64 0, .bool false, .int .i64 0, .int .i64 0, .int .i64 0, .string ⟨#[]⟩], .int .i64 52]) (by simp [results, Try.results14, go_sem, cell_at hzz]) rfl ?_
        rw [HN.out]
        exact ⟨rfl, below_out D5.out.bel hoo (fun k hk => by omega)⟩
end Go.Proofs.Ytagfolckodpioaa.K2
namespace Go.Proofs.Ytagfolckodpioaa.K2
open Go.RowKit Go.Maps Go.Proofs.Ytagfolckodpioaa
set_option linter.all false
theorem DM.box {w : World} {kr r km kx j : Nat} {s : ByteArray} {st : Nat × Bool} {m : MsgV} {es : List EntV} {W : World} {v : Value} (h : DM w kr r km s st m es W) (h1 : km < kx) (h4 : (Value.slice m.ea m.en m.ec).ownBlock ≠ some kx) : DM w kr r km s st m es (W.setCell ⟨kx, j, none⟩ v) := by
  have a1 := h.l1
  have a2 := h.l2
  have a3 := h.l3
  exact ⟨setOther _ h.tk (by omega), setOther _ h.ms (by omega), setOther _ h.rs (by omega), own_ne h.own h4, h.hn, belowSet _ h.bel (by omega), a1, a2, a3⟩
theorem DM.app {w : World} {kr r km n' c' : Nat} {a' : Option Addr} {s : ByteArray} {st : Nat × Bool} {m : MsgV} {es es' : List EntV} {W w5 : World} (h : DM w kr r km s st m es W) (hg : W.grownBy w5 (Value.slice m.ea m.en m.ec).ownBlock) (ho : w5.ownsRow (km + 1) 41 3 (.slice a' n' c') n' (entC es')) (hn : n' = es'.length) : DM w kr r km s st (withE m a' n' c') es' (w5.setCell ⟨km, 6, none⟩ (.slice a' n' c')) := by
  have a1 := h.l1
  have a2 := h.l2
  have a3 := h.l3
  have hlt := h.lt
  have hno : ∀ j, j ≤ km → some j ≠ (Value.slice m.ea m.en m.ec).ownBlock := fun j hj e => by
    have := (h.own.lt j e.symm).1
    omega
  have hm5 := (hg.block km hlt (hno km (Nat.le_refl _))).trans h.ms
  refine ⟨setOther _ ((hg.block r (by omega) (hno r (by omega))).trans h.tk) (by omega), ?_, setOther _ ((hg.block kr (by omega) (hno kr (by omega))).trans h.rs) (by omega), ownSet _ ho (by omega), hn, belowSet _ ?_ (by omega), a1, a2, a3⟩
  · exact heap_set hm5 6 (.slice a' n' c')
  · exact below_out h.bel (Out.ofGrown (F := fun j => km + 1 ≤ j) hg (fun j e => (h.own.lt j e).1)) (fun j e => by omega)
set_option maxHeartbeats 16000000 in
set_option maxRecDepth 100000 in
theorem rDec_3 (s : ByteArray) (w : World) (hs : s.size ≤ maxLen) (hu : (unf s.data.toList 0).2.2 = 0) (hkd : (tnum (unf s.data.toList 0).1 (0, true)).1 = 3) : Calls Try.prog 14 #[.string s] w (RDB (rdec s.data.toList) w) := by
  obtain ⟨L, nx, er, hr⟩ : ∃ t nx er, unf s.data.toList 0 = (t, nx, er) := ⟨_, _, _, rfl⟩
  have hus := unf_size s.data.toList 0
  have HR : Hid (rdec s.data.toList = if (tmsg L (0, true)).2.2.2 = true ∧ mayB (withE (tmsg L (0, true)).1 none (tmsg L (0, true)).2.1.length 0) (tmsg L (0, true)).2.1 = true ∧ frameL (bodyL (withE (tmsg L (0, true)).1 none (tmsg L (0, true)).2.1.length 0) (tmsg L (0, true)).2.1) = s.data.toList then some ((tmsg L (0, true)).1, (tmsg L (0, true)).2.1) else none) := by
    show _ = _
    unfold rdec
    rw [if_pos hu, hr]
  rw [hr] at hu hus hkd
  simp only at hu hus hkd
  subst hu
  have HU : Hid (∀ W, Calls Try.prog 42 #[.string s, .int .i64 0] W fun e w' => e = .returned (.tuple #[.string ⟨L.toArray⟩, .int .i64 (nx : Int), .int .i64 0]) ∧ Below W.heap.size W w') := fun W => by
    have hq := refUnframe_any s 0 W hs (Nat.zero_le _)
    unfold tupT at hq
    rw [hr] at hq
    exact hq
  have htz : (⟨L.toArray⟩ : ByteArray).size ≤ maxLen := by
    have e1 : (⟨L.toArray⟩ : ByteArray).size = L.length := rfl
    have e2 : s.data.toList.length = s.size := by simp
    omega
  clear hr
  generalize rdec s.data.toList = R at *
  obtain ⟨n1, s1, E1⟩ : ∃ n s', tnum L (0, true) = (n, s') := ⟨_, _, rfl⟩
  obtain ⟨n2, s2, E2⟩ : ∃ n s', tnum L s1 = (n, s') := ⟨_, _, rfl⟩
  obtain ⟨n3, s3, E3⟩ : ∃ n s', tnum L s2 = (n, s') := ⟨_, _, rfl⟩
  obtain ⟨n4, s4, E4⟩ : ∃ n s', tnum L s3 = (n, s') := ⟨_, _, rfl⟩
  rw [E1] at hkd
  simp only at hkd
  have HT2 := hideIt (fun r W => tnum_at ⟨L.toArray⟩ htz s1 s2 n2 _ E2 rfl r W)
  have HT3 := hideIt (fun r W => tnum_at ⟨L.toArray⟩ htz s2 s3 n3 _ E3 rfl r W)
  have HT4 := hideIt (fun r W => tnum_at ⟨L.toArray⟩ htz s3 s4 n4 _ E4 rfl r W)
  subst hkd
  have HT1 := hideIt (fun r W => tnum_at ⟨L.toArray⟩ htz (0, true) s1 3 3 E1 rfl r W)
  obtain ⟨n5, s5, E5⟩ : ∃ n s', tnum L s4 = (n, s') := ⟨_, _, rfl⟩
  obtain ⟨n6, s6, E6⟩ : ∃ n s', tnum L s5 = (n, s') := ⟨_, _, rfl⟩
  obtain ⟨n7, s7, E7⟩ : ∃ n s', tnum L s6 = (n, s') := ⟨_, _, rfl⟩
  obtain ⟨n8, s8, E8⟩ : ∃ n s', tnum L s7 = (n, s') := ⟨_, _, rfl⟩
  obtain ⟨ES, SF, E9⟩ : ∃ es s', tents L n8 s8 = (es, s') := ⟨_, _, rfl⟩
  have HT5 := hideIt (fun r W => tnum_at ⟨L.toArray⟩ htz s4 s5 n5 _ E5 rfl r W)
  have HT6 := hideIt (fun r W => tnum_at ⟨L.toArray⟩ htz s5 s6 n6 _ E6 rfl r W)
  have HT7 := hideIt (fun r W => tnum_at ⟨L.toArray⟩ htz s6 s7 n7 _ E7 rfl r W)
  have HT8 := hideIt (fun r W => tnum_at ⟨L.toArray⟩ htz s7 s8 n8 _ E8 rfl r W)
  have hn8 : n8 ≤ 1000000 := by
    have := tnum_le L s7
    rw [E8] at this
    exact this
  have hEL : ES.length ≤ 1000000 := by
    have := tents_len L s8 n8
    rw [E9] at this
    simp only at this
    omega
  have HTM0 : Hid (tmsg L (0, true) = (⟨3, n2, n3, n4, n5, n6, none, 0, 0, n7, false, 0, 0, 0, ⟨#[]⟩⟩, ES, SF)) := by
    show _ = _
    unfold tmsg
    simp only [E1, E2, E3, E4]
    unfold tbody tspot
    rw [if_neg (by decide), if_neg (by decide), if_pos rfl]
    simp only [E5, E6, E7, E8, E9]
    rfl
  have HE9 := hideIt E9
  have HTZ := hideIt htz
  clear E1 E2 E3 E4 E5 E6 E7 E8 E9
  generalize (n5 : Int) = k5 at *
  generalize (n6 : Int) = k6 at *
  generalize (n7 : Int) = k7 at *
  generalize (n2 : Int) = k2 at *
  generalize (n3 : Int) = k3 at *
  generalize (n4 : Int) = k4 at *
  have HB := hideIt (below1 w (.cells (msgC zeroM) 28))
  have X := hideIt (heap_alloc_new w (.cells (msgC zeroM) 28))
  simp only [msgC, zeroM] at HB X
  go_enter Try.func14, Try.ntmps14
  go_upto_region 1 with fail
  generalize w.alloc (.cells #[.int .i64 0, .int .i64 0, .int .i64 0, .int .i64 0, .int .i64 0, .int .i64 0, .slice none 0 0, .int .i64 0, .bool false, .int .i64 0, .int .i64 0, .int .i64 0, .string ⟨#[]⟩] 28) = W1 at *
  go_wp2_with fail
  refine (HU.out _).mono ?_
  rintro e w2 ⟨rfl, hb⟩
  dsimp only
  have D : Hid (DM w w.heap.size w2.heap.size (w2.heap.size + 1) ⟨L.toArray⟩ (0, true) zeroM [] ((w2.alloc (.cells #[.string ⟨L.toArray⟩, .int .i64 0, .bool true] 82)).alloc (.cells #[.int .i64 0, .int .i64 0, .int .i64 0, .int .i64 0, .int .i64 0, .int .i64 0, .slice none 0 0, .int .i64 0, .bool false, .int .i64 0, .int .i64 0, .int .i64 0, .string ⟨#[]⟩] 28))) := by
    obtain ⟨t1, t2, t3⟩ := two_heap w2 (.cells #[.string ⟨L.toArray⟩, .int .i64 0, .bool true] 82) (.cells #[.int .i64 0, .int .i64 0, .int .i64 0, .int .i64 0, .int .i64 0, .int .i64 0, .slice none 0 0, .int .i64 0, .bool false, .int .i64 0, .int .i64 0, .int .i64 0, .string ⟨#[]⟩] 28)
    have hb3 := below2 w2 (.cells #[.string ⟨L.toArray⟩, .int .i64 0, .bool true] 82) (.cells #[.int .i64 0, .int .i64 0, .int .i64 0, .int .i64 0, .int .i64 0, .int .i64 0, .slice none 0 0, .int .i64 0, .bool false, .int .i64 0, .int .i64 0, .int .i64 0, .string ⟨#[]⟩] 28)
    have hlt := (Array.getElem?_eq_some_iff.1 (blkK X.out hb)).1
    exact ⟨t1, t2, blkK (blkK X.out hb) hb3, own_none _ _, rfl, below_via (below_via HB.out hb) hb3, Nat.le_refl _, hlt, by omega⟩
  clear hb X HB HU
  go_upto_region 6 with fail
  generalize (w2.alloc (.cells #[.string ⟨L.toArray⟩, .int .i64 0, .bool true] 82)).alloc (.cells #[.int .i64 0, .int .i64 0, .int .i64 0, .int .i64 0, .int .i64 0, .int .i64 0, .slice none 0 0, .int .i64 0, .bool false, .int .i64 0, .int .i64 0, .int .i64 0, .string ⟨#[]⟩] 28) = W at *
  generalize w2.heap.size + 1 = km at *
  generalize w2.heap.size = r at *
  unfold zeroM at D
  go_wp2_with fail
  refine (HT1.out _ _ D.out.tk).mono ?_
  rintro e w' ⟨rfl, ht, ho⟩
  dsimp only
  have D' := hideIt ((D.out.num ht ho).put (m' := ⟨3, 0, 0, 0, 0, 0, none, 0, 0, 0, false, 0, 0, 0, ⟨#[]⟩⟩) 0 (.int .i64 3) rfl ⟨rfl, rfl, rfl⟩)
  obtain ⟨⟨d0, d1, d2, d3, d4, d5, d6, d7, d8, d9, d10, d11, d12⟩, nf, nz⟩ := msg_at (D.out.num ht ho).ms
  dsimp only at d0 d1 d2 d3 d4 d5 d6 d7 d8 d9 d10 d11 d12
  clear ht ho D HT1
  have D := D'
  clear D'
  go_upto_region 7 with fail
  clear d0 d1 d2 d3 d4 d5 d6 d7 d8 d9 d10 d11 d12 nf nz
  generalize w'.setCell ⟨km, 0, none⟩ (.int .i64 3) = W at *
  go_wp2_with fail
  refine (HT2.out _ _ D.out.tk).mono ?_
  rintro e w' ⟨rfl, ht, ho⟩
  dsimp only
  have D' := hideIt ((D.out.num ht ho).put (m' := ⟨3, k2, 0, 0, 0, 0, none, 0, 0, 0, false, 0, 0, 0, ⟨#[]⟩⟩) 1 (.int .i64 k2) rfl ⟨rfl, rfl, rfl⟩)
  obtain ⟨⟨d0, d1, d2, d3, d4, d5, d6, d7, d8, d9, d10, d11, d12⟩, nf, nz⟩ := msg_at (D.out.num ht ho).ms
  dsimp only at d0 d1 d2 d3 d4 d5 d6 d7 d8 d9 d10 d11 d12
  clear ht ho D HT2
  have D := D'
  clear D'
  go_upto_region 8 with fail
  clear d0 d1 d2 d3 d4 d5 d6 d7 d8 d9 d10 d11 d12 nf nz
  generalize w'.setCell ⟨km, 1, none⟩ (.int .i64 k2) = W at *
  go_wp2_with fail
  refine (HT3.out _ _ D.out.tk).mono ?_
  rintro e w' ⟨rfl, ht, ho⟩
  dsimp only
  have D' := hideIt ((D.out.num ht ho).put (m' := ⟨3, k2, k3, 0, 0, 0, none, 0, 0, 0, false, 0, 0, 0, ⟨#[]⟩⟩) 2 (.int .i64 k3) rfl ⟨rfl, rfl, rfl⟩)
  obtain ⟨⟨d0, d1, d2, d3, d4, d5, d6, d7, d8, d9, d10, d11, d12⟩, nf, nz⟩ := msg_at (D.out.num ht ho).ms
  dsimp only at d0 d1 d2 d3 d4 d5 d6 d7 d8 d9 d10 d11 d12
  clear ht ho D HT3
  have D := D'
  clear D'
  go_upto_region 9 with fail
  clear d0 d1 d2 d3 d4 d5 d6 d7 d8 d9 d10 d11 d12 nf nz
  generalize w'.setCell ⟨km, 2, none⟩ (.int .i64 k3) = W at *
  go_wp2_with fail
  refine (HT4.out _ _ D.out.tk).mono ?_
  rintro e w' ⟨rfl, ht, ho⟩
  dsimp only
  have D' := hideIt ((D.out.num ht ho).put (m' := ⟨3, k2, k3, k4, 0, 0, none, 0, 0, 0, false, 0, 0, 0, ⟨#[]⟩⟩) 3 (.int .i64 k4) rfl ⟨rfl, rfl, rfl⟩)
  obtain ⟨⟨d0, d1, d2, d3, d4, d5, d6, d7, d8, d9, d10, d11, d12⟩, nf, nz⟩ := msg_at (D.out.num ht ho).ms
  dsimp only at d0 d1 d2 d3 d4 d5 d6 d7 d8 d9 d10 d11 d12
  clear ht ho D HT4
  have D := D'
  clear D'
  go_upto_region 10 with fail
  clear d0 d1 d2 d3 d4 d5 d6 d7 d8 d9 d10 d11 d12 nf nz
  generalize w'.setCell ⟨km, 3, none⟩ (.int .i64 k4) = W at *
  have dk := (msg_at D.out.ms).1.1
  dsimp only at dk
  go_upto_region 17 with fail
  clear dk
  go_wp2_with fail
  refine (HT5.out _ _ D.out.tk).mono ?_
  rintro e w' ⟨rfl, ht, ho⟩
  dsimp only
  have D' := hideIt ((D.out.num ht ho).put (m' := ⟨3, k2, k3, k4, k5, 0, none, 0, 0, 0, false, 0, 0, 0, ⟨#[]⟩⟩) 4 (.int .i64 k5) rfl ⟨rfl, rfl, rfl⟩)
  obtain ⟨⟨d0, d1, d2, d3, d4, d5, d6, d7, d8, d9, d10, d11, d12⟩, nf, nz⟩ := msg_at (D.out.num ht ho).ms
  dsimp only at d0 d1 d2 d3 d4 d5 d6 d7 d8 d9 d10 d11 d12
  clear ht ho D HT5
  have D := D'
  clear D'
  go_upto_region 18 with fail
  clear d0 d1 d2 d3 d4 d5 d6 d7 d8 d9 d10 d11 d12 nf nz
  generalize w'.setCell ⟨km, 4, none⟩ (.int .i64 k5) = W at *
  go_wp2_with fail
  refine (HT6.out _ _ D.out.tk).mono ?_
  rintro e w' ⟨rfl, ht, ho⟩
  dsimp only
  have D' := hideIt ((D.out.num ht ho).put (m' := ⟨3, k2, k3, k4, k5, k6, none, 0, 0, 0, false, 0, 0, 0, ⟨#[]⟩⟩) 5 (.int .i64 k6) rfl ⟨rfl, rfl, rfl⟩)
  obtain ⟨⟨d0, d1, d2, d3, d4, d5, d6, d7, d8, d9, d10, d11, d12⟩, nf, nz⟩ := msg_at (D.out.num ht ho).ms
  dsimp only at d0 d1 d2 d3 d4 d5 d6 d7 d8 d9 d10 d11 d12
  clear ht ho D HT6
  have D := D'
  clear D'
  go_upto_region 19 with fail
  clear d0 d1 d2 d3 d4 d5 d6 d7 d8 d9 d10 d11 d12 nf nz
  generalize w'.setCell ⟨km, 5, none⟩ (.int .i64 k6) = W at *
  go_wp2_with fail
  refine (HT7.out _ _ D.out.tk).mono ?_
  rintro e w' ⟨rfl, ht, ho⟩
  dsimp only
  have D' := hideIt ((D.out.num ht ho).put (m' := ⟨3, k2, k3, k4, k5, k6, none, 0, 0, k7, false, 0, 0, 0, ⟨#[]⟩⟩) 7 (.int .i64 k7) rfl ⟨rfl, rfl, rfl⟩)
  obtain ⟨⟨d0, d1, d2, d3, d4, d5, d6, d7, d8, d9, d10, d11, d12⟩, nf, nz⟩ := msg_at (D.out.num ht ho).ms
  dsimp only at d0 d1 d2 d3 d4 d5 d6 d7 d8 d9 d10 d11 d12
  clear ht ho D HT7
  have D := D'
  clear D'
  go_upto_region 20 with fail
  clear d0 d1 d2 d3 d4 d5 d6 d7 d8 d9 d10 d11 d12 nf nz
  generalize w'.setCell ⟨km, 7, none⟩ (.int .i64 k7) = W at *
  go_wp2_with fail
  refine (HT8.out _ _ D.out.tk).mono ?_
  rintro e w' ⟨rfl, ht, ho⟩
  dsimp only
  have D0 := hideIt (D.out.num ht ho)
  clear ht ho D HT8
  go_upto_region 22 with fail
  go_loopw [10] (fun u wr => ∃ (t : Nat) (es : List EntV) (st : Nat × Bool) (a : Option Addr) (c : Nat), u = .int .i64 t ∧ t ≤ n8 ∧ Hid (DM w w.heap.size r km ⟨L.toArray⟩ st ⟨3, k2, k3, k4, k5, k6, a, es.length, c, k7, false, 0, 0, 0, ⟨#[]⟩⟩ es wr ∧ tents L t s8 = (es, st))) (fun u _ => n8 - (RowKit.intOf u).toNat)
  case atStart => exact ⟨0, [], s8, none, 0, rfl, Nat.zero_le _, ⟨D0.out, rfl⟩⟩
  case round =>
    clear D0
    obtain ⟨t, es, st, a, c, rfl, ht, HD⟩ := hrel
    have D := hideIt HD.out.1
    have HTT := hideIt HD.out.2
    clear HD
    obtain ⟨sa, sb⟩ := st
    obtain ⟨t0, t1, t2, tf, tz⟩ := three_at (show wr.heap[r]? = some (.cells #[.string ⟨L.toArray⟩, .int .i64 (sa : Int), .bool sb] 82 (0, 0)) from D.out.tk)
    by_cases hlt : t < n8
    · have hltI : (t : Int) < (n8 : Int) := by omega
      cases sb with
      | false =>
        have hfin : (ES, SF) = (es, (sa, false)) := by
          rw [← HE9.out, ← HTT.out]
          exact tents_stop (by rw [HTT.out]) n8 ht
        simp only [Prod.mk.injEq] at hfin
        obtain ⟨rfl, rfl⟩ := hfin
        have HTM : Hid (tmsg L (0, true) = (withE ⟨3, k2, k3, k4, k5, k6, a, ES.length, c, k7, false, 0, 0, 0, ⟨#[]⟩⟩ none 0 0, ES, (sa, false))) := HTM0.out
        clear HTT HE9 HTM0 HTZ
        go_upto_region 36 with fail
        clear t0 t1 t2 tf tz
        generalize wr = W at *
        have HX := hideIt (dec_rx HR.out HTM.out D.out.hn)
        clear HR HTM
        obtain ⟨m, hm⟩ : ∃ m : MsgV, m = ⟨3, k2, k3, k4, k5, k6, a, ES.length, c, k7, false, 0, 0, 0, ⟨#[]⟩⟩ := ⟨_, rfl⟩
        rw [← hm] at D HX
        clear hm
        have hen := D.out.hn
        have HE := hideIt (fun W (hW : EntsAt W m.ea ES) => refEncode_is m ES W hW hen (by omega))
        have HO : Hid (EntsAt W m.ea ES) := own_ents (B := km + 1) (c := m.ec) (by have := D.out.own; rw [hen] at this; exact this)
        have HEN := hideIt hen
        clear hen
        obtain ⟨⟨d0, d1, d2, d3, d4, d5, d6, d7, d8, d9, d10, d11, d12⟩, nf, nz⟩ := msg_at D.out.ms
        simp only [msgC] at HE
        go_wp2_with fail
        refine (HE.out _ HO.out).mono ?_
        rintro e w5 ⟨rfl, hb⟩
        dsimp only
        have D5 := hideIt (D.out.keep hb)
        clear d0 d1 d2 d3 d4 d5 d6 d7 d8 d9 d10 d11 d12 nf nz hb D HO HE
        obtain ⟨t0, t1, t2, tf, tz⟩ := three_at (show w5.heap[r]? = some (.cells #[.string ⟨L.toArray⟩, .int .i64 (sa : Int), .bool false] 82 (0, 0)) from D5.out.tk)
        have HN : Hid (R = none) := by
          show _ = _
          rw [HX.out]
          exact if_neg (fun h => by cases h.1)
        clear HX
        obtain ⟨⟨d0, d1, d2, d3, d4, d5, d6, d7, d8, d9, d10, d11, d12⟩, nf, nz⟩ := msg_at (m := ⟨0, 0, 0, 0, 0, 0, none, 0, 0, 0, false, 0, 0, 0, ⟨#[]⟩⟩) D5.out.rs
        dsimp only at d0 d1 d2 d3 d4 d5 d6 d7 d8 d9 d10 d11 d12
        go_wp2
        obtain ⟨hzz, hoo⟩ := put13 w5 w.heap.size (.int .i64 0) (.int .i64 0) (.int .i64 0) (.int .i64 0) (.int .i64 0) (.int .i64 0) (.slice none 0 0) (.int .i64 0) (.bool false) (.int .i64 0) (.int .i64 0) (.int .i64 0) (.string ⟨#[]⟩) D5.out.rs
        refine bodyPost_ret (v := .tuple #[.agg #[.int .i64 0, .int .i64 0, .int .i64 0, .int .i64 0, .int .i64 0, .int .i64 0, .slice none 0 0, .int .i64 0, .bool false, .int .i64 0, .int .i64 0, .int .i64 0, .string ⟨#[]⟩], .int .i64 52]) (by simp [results, Try.results14, go_sem, cell_at hzz]) rfl ?_
        rw [HN.out]
        exact ⟨rfl, below_out D5.out.bel hoo (fun k hk => by omega)⟩
      | true =>
        have ht0 : (0 : Int) ≤ (t : Int) := by omega
        have hw : IntKind.i64.wrap ((t : Int) + 1) = ((t + 1 : Nat) : Int) := by rw [IntKind.wrap_i64]; omega
        have hel : es.length ≤ t := by
          have := tents_len L s8 t
          rw [HTT.out] at this
          exact this
        obtain ⟨m1, q1, F1⟩ : ∃ n s', tnum L (sa, true) = (n, s') := ⟨_, _, rfl⟩
        obtain ⟨m2, q2, F2⟩ : ∃ n s', tnum L q1 = (n, s') := ⟨_, _, rfl⟩
        obtain ⟨tx, q3, F3⟩ : ∃ t s', ttext L q2 = (t, s') := ⟨_, _, rfl⟩
        have HA := hideIt (fun r W => tnum_at ⟨L.toArray⟩ HTZ.out (sa, true) q1 m1 _ F1 rfl r W)
        have HA2 := hideIt (fun r W => tnum_at ⟨L.toArray⟩ HTZ.out q1 q2 m2 _ F2 rfl r W)
        have HA3 := hideIt (fun r W => ttext_at ⟨L.toArray⟩ HTZ.out q2 q3 tx F3 r W)
        have HTN : Hid (tents L (t + 1) s8 = (es ++ [⟨m1, m2, ⟨tx.toArray⟩⟩], q3)) := by
          show _ = _
          rw [tents_step HTT.out rfl]
          unfold tent
          simp only [F1, F2, F3]
        clear F1 F2 F3 HTT
        generalize (m1 : Int) = x1 at *
        generalize (m2 : Int) = x2 at *
        have hlk := D.out.lt
        have hb1 := below1 wr (.cells #[.int .i64 0, .int .i64 0, .string ⟨#[]⟩] 41)
        have DA := hideIt (D.out.keep hb1)
        have XA := hideIt (heap_alloc_new wr (.cells #[.int .i64 0, .int .i64 0, .string ⟨#[]⟩] 41))
        have HNB : Hid ((Value.slice a es.length c).ownBlock ≠ some wr.heap.size) := fun e => by have := (D.out.own.lt _ e).2; omega
        have hrk : r < wr.heap.size := tz
        clear hb1 D
        go_upto_region 25 with fail
        clear t0 t1 t2 tf tz
        generalize wr.alloc (.cells #[.int .i64 0, .int .i64 0, .string ⟨#[]⟩] 41) = WA at *
        generalize wr.heap.size = kx at *
        go_wp2_with fail
        refine (HA.out _ _ DA.out.tk).mono ?_
        rintro e wa ⟨rfl, ht, ho⟩
        dsimp only
        have XB := box_num ho XA.out (by omega)
        have DB := hideIt ((DA.out.num ht ho).box (kx := kx) (j := 0) (v := .int .i64 x1) (by omega) HNB.out)
        have XC : Hid ((wa.setCell ⟨kx, 0, none⟩ (.int .i64 x1)).heap[kx]? = some (.cells #[.int .i64 x1, .int .i64 0, .string ⟨#[]⟩] 41 (0, 0))) := heap_set XB 0 (.int .i64 x1)
        obtain ⟨b0, b1, b2, bf, bz⟩ := three_at XB
        clear ht ho DA XA XB HA
        have DA := DB
        have XA := XC
        clear DB XC
        go_upto_region 26 with fail
        clear b0 b1 b2 bf bz
        generalize wa.setCell ⟨kx, 0, none⟩ (.int .i64 x1) = WA at *
        go_wp2_with fail
        refine (HA2.out _ _ DA.out.tk).mono ?_
        rintro e wb ⟨rfl, ht, ho⟩
        dsimp only
        have XB := box_num ho XA.out (by omega)
        have DB := hideIt ((DA.out.num ht ho).box (kx := kx) (j := 1) (v := .int .i64 x2) (by omega) HNB.out)
        have XC : Hid ((wb.setCell ⟨kx, 1, none⟩ (.int .i64 x2)).heap[kx]? = some (.cells #[.int .i64 x1, .int .i64 x2, .string ⟨#[]⟩] 41 (0, 0))) := heap_set XB 1 (.int .i64 x2)
        obtain ⟨b0, b1, b2, bf, bz⟩ := three_at XB
        clear ht ho DA XA XB HA2
        have DA := DB
        have XA := XC
        clear DB XC
        go_upto_region 27 with fail
        clear b0 b1 b2 bf bz
        generalize wb.setCell ⟨kx, 1, none⟩ (.int .i64 x2) = WA at *
        go_wp2_with fail
        refine (HA3.out _ _ DA.out.tk).mono ?_
        rintro e wc ⟨rfl, ht, ho⟩
        dsimp only
        have XB := box_num ho XA.out (by omega)
        have DB := hideIt ((DA.out.num ht ho).box (kx := kx) (j := 2) (v := .string ⟨tx.toArray⟩) (by omega) HNB.out)
        have XC : Hid ((wc.setCell ⟨kx, 2, none⟩ (.string ⟨tx.toArray⟩)).heap[kx]? = some (.cells #[.int .i64 x1, .int .i64 x2, .string ⟨tx.toArray⟩] 41 (0, 0))) := heap_set XB 2 (.string ⟨tx.toArray⟩)
        obtain ⟨b0, b1, b2, bf, bz⟩ := three_at XB
        clear ht ho DA XA XB HA3
        have DA := DB
        have XA := XC
        clear DB XC
        go_upto_region 28 with fail
        clear b0 b1 b2 bf bz
        generalize wc.setCell ⟨kx, 2, none⟩ (.string ⟨tx.toArray⟩) = WA at *
        have hb2 := below1 WA (.cells #[.int .i64 x1, .int .i64 x2, .string ⟨tx.toArray⟩] 41)
        have D2 := DA.out.keep hb2
        obtain ⟨v5, w5, hrun, how, hgr, -⟩ := app1At (enc := entE) (t := 24) entE_len entE_one Try.underlying24 info41 rfl (by omega) (WA.alloc (.cells #[.int .i64 x1, .int .i64 x2, .string ⟨tx.toArray⟩] 41)) (km + 1) (.slice a es.length c) es ⟨x1, x2, ⟨tx.toArray⟩⟩ WA.heap.size 1 (Nat.le_trans DA.out.lt hb2.size) D2.own (heap_alloc_new WA _) (by omega) (by unfold maxLen; omega)
        obtain ⟨a5, r5, rfl⟩ := own_len how
        have D5 := hideIt (D2.app hgr how rfl)
        have hm5 : w5.heap[km]? = some (.cells (msgC ⟨3, k2, k3, k4, k5, k6, a, es.length, c, k7, false, 0, 0, 0, ⟨#[]⟩⟩) 28 (0, 0)) := (hgr.block km D2.lt (fun e => by have := (D2.own.lt km e.symm).1; omega)).trans D2.ms
        obtain ⟨⟨d0, d1, d2, d3, d4, d5, d6, d7, d8, d9, d10, d11, d12⟩, nf, nz⟩ := msg_at DA.out.ms
        obtain ⟨⟨g0, g1, g2, g3, g4, g5, g6, g7, g8, g9, g10, g11, g12⟩, gf, gz⟩ := msg_at hm5
        obtain ⟨b0, b1, b2, bf, bz⟩ := three_at XA.out
        dsimp only at d6 g6
        have HRUN := hideIt hrun
        unfold withE at D5
        dsimp only at D5
        clear hrun how hgr D2 hb2 hm5 DA XA HNB d0 d1 d2 d3 d4 d5 d7 d8 d9 d10 d11 d12 g0 g1 g2 g3 g4 g5 g7 g8 g9 g10 g11 g12
        generalize hes : es ++ [(⟨x1, x2, ⟨tx.toArray⟩⟩ : EntV)] = es5 at *
        clear hes
        go_wp2_with (at_builtin; refine Lib.wpList_append_run _ rfl _ _ _ _ rfl _ _ rfl rfl _ _ HRUN.out ?_)
        go_roundw
        case rel => exact ⟨t + 1, es5, q3, a5, r5, by go_num, by omega, ⟨D5.out, HTN.out⟩⟩
        case measure => simp [RowKit.intOf]; omega
    · have hltI : ¬ (t : Int) < (n8 : Int) := by omega
      have het : t = n8 := by omega
      subst het
      have hfin : (ES, SF) = (es, (sa, sb)) := by rw [← HE9.out, ← HTT.out]
      simp only [Prod.mk.injEq] at hfin
      obtain ⟨rfl, rfl⟩ := hfin
      have HTM : Hid (tmsg L (0, true) = (withE ⟨3, k2, k3, k4, k5, k6, a, ES.length, c, k7, false, 0, 0, 0, ⟨#[]⟩⟩ none 0 0, ES, (sa, sb))) := HTM0.out
      clear HTT HE9 HTM0 HTZ
      go_upto_region 36 with fail
      clear t0 t1 t2 tf tz
      generalize wr = W at *
      have HX := hideIt (dec_rx HR.out HTM.out D.out.hn)
      clear HR HTM
      obtain ⟨m, hm⟩ : ∃ m : MsgV, m = ⟨3, k2, k3, k4, k5, k6, a, ES.length, c, k7, false, 0, 0, 0, ⟨#[]⟩⟩ := ⟨_, rfl⟩
      rw [← hm] at D HX
      clear hm
      have hen := D.out.hn
      have HE := hideIt (fun W (hW : EntsAt W m.ea ES) => refEncode_is m ES W hW hen (by omega))
      have HO : Hid (EntsAt W m.ea ES) := own_ents (B := km + 1) (c := m.ec) (by have := D.out.own; rw [hen] at this; exact this)
      have HEN := hideIt hen
      clear hen
      obtain ⟨⟨d0, d1, d2, d3, d4, d5, d6, d7, d8, d9, d10, d11, d12⟩, nf, nz⟩ := msg_at D.out.ms
      simp only [msgC] at HE
      go_wp2_with fail
      refine (HE.out _ HO.out).mono ?_
      rintro e w5 ⟨rfl, hb⟩
      dsimp only
      have D5 := hideIt (D.out.keep hb)
      clear d0 d1 d2 d3 d4 d5 d6 d7 d8 d9 d10 d11 d12 nf nz hb D HO HE
      obtain ⟨t0, t1, t2, tf, tz⟩ := three_at (show w5.heap[r]? = some (.cells #[.string ⟨L.toArray⟩, .int .i64 (sa : Int), .bool sb] 82 (0, 0)) from D5.out.tk)
      cases sb with
      | false =>
        have HN : Hid (R = none) := by
          show _ = _
          rw [HX.out]
          exact if_neg (fun h => by cases h.1)
        clear HX
        obtain ⟨⟨d0, d1, d2, d3, d4, d5, d6, d7, d8, d9, d10, d11, d12⟩, nf, nz⟩ := msg_at (m := ⟨0, 0, 0, 0, 0, 0, none, 0, 0, 0, false, 0, 0, 0, ⟨#[]⟩⟩) D5.out.rs
        dsimp only at d0 d1 d2 d3 d4 d5 d6 d7 d8 d9 d10 d11 d12
        go_wp2
        obtain ⟨hzz, hoo⟩ := put13 w5 w.heap.size (.int .i64 0) (.int .i64 0) (.int .i64 0) (.int .i64 0) (.int .i64 0) (.int .i64 0) (.slice none 0 0) (.int .i64 0) (.bool false) (.int .i64 0) (.int .i64 0) (.int .i64 0) (.string ⟨#[]⟩) D5.out.rs
        refine bodyPost_ret (v := .tuple #[.agg #[.int .i64 0, .int .i64 0, .int .i64 0, .int .i64 0, .int .i64 0, .int .i64 0, .slice none 0 0, .int .i64 0, .bool false, .int .i64 0, .int .i64 0, .int .i64 0, .string ⟨#[]⟩], .int .i64 52]) (by simp [results, Try.results14, go_sem, cell_at hzz]) rfl ?_
        rw [HN.out]
        exact ⟨rfl, below_out D5.out.bel hoo (fun k hk => by omega)⟩
      | true =>
        cases hmy : mayB m ES with
        | false =>
          have hE : ((encE m ES : Nat) : Int) = 52 := by unfold encE; rw [hmy]; rfl
          rw [hE]
          have HN : Hid (R = none) := by
            show _ = _
            rw [HX.out]
            exact if_neg (fun h => by rw [hmy] at h; cases h.2.1)
          clear HX hE hmy
          obtain ⟨⟨d0, d1, d2, d3, d4, d5, d6, d7, d8, d9, d10, d11, d12⟩, nf, nz⟩ := msg_at (m := ⟨0, 0, 0, 0, 0, 0, none, 0, 0, 0, false, 0, 0, 0, ⟨#[]⟩⟩) D5.out.rs
          dsimp only at d0 d1 d2 d3 d4 d5 d6 d7 d8 d9 d10 d11 d12
          go_wp2
          obtain ⟨hzz, hoo⟩ := put13 w5 w.heap.size (.int .i64 0) (.int .i64 0) (.int .i64 0) (.int .i64 0) (.int .i64 0) (.int .i64 0) (.slice none 0 0) (.int .i64 0) (.bool false) (.int .i64 0) (.int .i64 0) (.int .i64 0) (.string ⟨#[]⟩) D5.out.rs
          refine bodyPost_ret (v := .tuple #[.agg #[.int .i64 0, .int .i64 0, .int .i64 0, .int .i64 0, .int .i64 0, .int .i64 0, .slice none 0 0, .int .i64 0, .bool false, .int .i64 0, .int .i64 0, .int .i64 0, .string ⟨#[]⟩], .int .i64 52]) (by simp [results, Try.results14, go_sem, cell_at hzz]) rfl ?_
          rw [HN.out]
          exact ⟨rfl, below_out D5.out.bel hoo (fun k hk => by omega)⟩
        | true =>
          have hE : ((encE m ES : Nat) : Int) = 0 := by unfold encE; rw [hmy]; rfl
          have hEL : encL m ES = frameL (bodyL m ES) := by unfold encL; rw [hmy]; rfl
          rw [hE, hEL]
          clear hE hEL
          by_cases hq : frameL (bodyL m ES) = s.data.toList
          · have hsq : (⟨(frameL (bodyL m ES)).toArray⟩ : ByteArray) = s := by rw [hq]
            rw [hsq]
            have q9 := fun W => neq9_no s W
            have HS : Hid (R = some (withE m none 0 0, ES)) := by
              show _ = _
              rw [HX.out]
              exact if_pos ⟨rfl, hmy, hq⟩
            clear HX hq hsq hmy
            obtain ⟨⟨d0, d1, d2, d3, d4, d5, d6, d7, d8, d9, d10, d11, d12⟩, nf, nz⟩ := msg_at (m := ⟨0, 0, 0, 0, 0, 0, none, 0, 0, 0, false, 0, 0, 0, ⟨#[]⟩⟩) D5.out.rs
            obtain ⟨⟨c0, c1, c2, c3, c4, c5, c6, c7, c8, c9, c10, c11, c12⟩, mf, mz⟩ := msg_at D5.out.ms
            dsimp only at d0 d1 d2 d3 d4 d5 d6 d7 d8 d9 d10 d11 d12
            have hdis : km ≠ w.heap.size := by have := D5.out.l2; have := D5.out.l3; omega
            go_wp2
            obtain ⟨hzz, hoo⟩ := put13 w5 w.heap.size (.int .i64 m.kind) (.int .i64 m.frm) (.int .i64 m.dst) (.int .i64 m.term) (.int .i64 m.pi) (.int .i64 m.pt) (.slice m.ea m.en m.ec) (.int .i64 m.commit) (.bool m.ok) (.int .i64 m.mtch) (.int .i64 m.si) (.int .i64 m.st) (.string m.text) D5.out.rs
            refine bodyPost_ret (v := .tuple #[.agg #[.int .i64 m.kind, .int .i64 m.frm, .int .i64 m.dst, .int .i64 m.term, .int .i64 m.pi, .int .i64 m.pt, .slice m.ea m.en m.ec, .int .i64 m.commit, .bool m.ok, .int .i64 m.mtch, .int .i64 m.si, .int .i64 m.st, .string m.text], .int .i64 0]) (by simp [results, Try.results14, go_sem, cell_at hzz]) rfl ?_
            rw [HS.out]
            refine ⟨⟨m.ea, m.ec, ?_, ?_⟩, below_out D5.out.bel hoo (fun k hk => by omega)⟩
            · rw [← HEN.out]
              rfl
            · refine own_ents (B := km + 1) (c := m.ec) ?_
              have h1 := D5.out.own
              rw [HEN.out] at h1
              exact own_out h1 hoo (fun k hk => by have := D5.out.l2; have := D5.out.l3; omega)
          · have hq9 : (frameL (bodyL m ES) == s.toList) = false := by rw [Go.Lib.toList_data]; simpa using hq
            have HN : Hid (R = none) := by
              show _ = _
              rw [HX.out]
              exact if_neg (fun h => hq h.2.2)
            clear HX hq hmy
            obtain ⟨⟨d0, d1, d2, d3, d4, d5, d6, d7, d8, d9, d10, d11, d12⟩, nf, nz⟩ := msg_at (m := ⟨0, 0, 0, 0, 0, 0, none, 0, 0, 0, false, 0, 0, 0, ⟨#[]⟩⟩) D5.out.rs
            dsimp only at d0 d1 d2 d3 d4 d5 d6 d7 d8 d9 d10 d11 d12
            go_wp2
            obtain ⟨hzz, hoo⟩ := put13 w5 w.heap.size (.int .i64 0) (.int .i64 0) (.int .i64 0) (.int .i64 0) (.int .i64 0) (.int .i64 0) (.slice none 0 0) (.int .i64 0) (.bool false) (.int .i64 0) (.int .i64 0) (.int .i64 0) (.string ⟨#[]⟩) D5.out.rs
            refine bodyPost_ret (v := .tuple #[.agg #[.int .i64 0, .int .i64 0, .int .i64 0, .int .i64 0, .int .i64 0, .int .i64 0, .slice none 0 0, .int .i64 0, .bool false, .int .i64 0, .int .i64 0, .int .i64 0, .string ⟨#[]⟩], .int .i64 52]) (by simp [results, Try.results14, go_sem, cell_at hzz]) rfl ?_
            rw [HN.out]
            exact ⟨rfl, below_out D5.out.bel hoo (fun k hk => by omega)⟩
end Go.Proofs.Ytagfolckodpioaa.K2
namespace Go.Proofs.Ytagfolckodpioaa.K2
open Go.RowKit Go.Maps Go.Proofs.Ytagfolckodpioaa
set_option linter.all false
set_option maxHeartbeats 16000000 in
set_option maxRecDepth 100000 in
theorem rDec_5 (s : ByteArray) (w : World) (hs : s.size ≤ maxLen) (hu : (unf s.data.toList 0).2.2 = 0) (hkd : (tnum (unf s.data.toList 0).1 (0, true)).1 = 5) : Calls Try.prog 14 #[.string s] w (RDB (rdec s.data.toList) w) := by
  obtain ⟨L, nx, er, hr⟩ : ∃ t nx er, unf s.data.toList 0 = (t, nx, er) := ⟨_, _, _, rfl⟩
  have hus := unf_size s.data.toList 0
  have HR : Hid (rdec s.data.toList = if (tmsg L (0, true)).2.2.2 = true ∧ mayB (withE (tmsg L (0, true)).1 none (tmsg L (0, true)).2.1.length 0) (tmsg L (0, true)).2.1 = true ∧ frameL (bodyL (withE (tmsg L (0, true)).1 none (tmsg L (0, true)).2.1.length 0) (tmsg L (0, true)).2.1) = s.data.toList then some ((tmsg L (0, true)).1, (tmsg L (0, true)).2.1) else none) := by
    show _ = _
    unfold rdec
    rw [if_pos hu, hr]
  rw [hr] at hu hus hkd
  simp only at hu hus hkd
  subst hu
  have HU := hideIt (fun W => refUnframe_any s 0 W hs (Nat.zero_le _))
  unfold tupT at HU
  simp only [hr] at HU
  have htz : (⟨L.toArray⟩ : ByteArray).size ≤ maxLen := by
    have e1 : (⟨L.toArray⟩ : ByteArray).size = L.length := rfl
    have e2 : s.data.toList.length = s.size := by simp
    omega
  clear hr
  generalize rdec s.data.toList = R at *
  obtain ⟨n1, s1, E1⟩ : ∃ n s', tnum L (0, true) = (n, s') := ⟨_, _, rfl⟩
  obtain ⟨n2, s2, E2⟩ : ∃ n s', tnum L s1 = (n, s') := ⟨_, _, rfl⟩
  obtain ⟨n3, s3, E3⟩ : ∃ n s', tnum L s2 = (n, s') := ⟨_, _, rfl⟩
  obtain ⟨n4, s4, E4⟩ : ∃ n s', tnum L s3 = (n, s') := ⟨_, _, rfl⟩
  rw [E1] at hkd
  simp only at hkd
  have HT2 := hideIt (fun r W => tnum_at ⟨L.toArray⟩ htz s1 s2 n2 _ E2 rfl r W)
  have HT3 := hideIt (fun r W => tnum_at ⟨L.toArray⟩ htz s2 s3 n3 _ E3 rfl r W)
  have HT4 := hideIt (fun r W => tnum_at ⟨L.toArray⟩ htz s3 s4 n4 _ E4 rfl r W)
  subst hkd
  have HT1 := hideIt (fun r W => tnum_at ⟨L.toArray⟩ htz (0, true) s1 5 5 E1 rfl r W)
  obtain ⟨n5, s5, E5⟩ : ∃ n s', tnum L s4 = (n, s') := ⟨_, _, rfl⟩
  have HT5 := hideIt (fun r W => tnum_at ⟨L.toArray⟩ htz s4 s5 n5 _ E5 rfl r W)
  obtain ⟨n6, s6, E6⟩ : ∃ n s', tnum L s5 = (n, s') := ⟨_, _, rfl⟩
  have HT6 := hideIt (fun r W => tnum_at ⟨L.toArray⟩ htz s5 s6 n6 _ E6 rfl r W)
  obtain ⟨t7, s7, E7⟩ : ∃ t s', ttext L s6 = (t, s') := ⟨_, _, rfl⟩
  have HT7 := hideIt (fun r W => ttext_at ⟨L.toArray⟩ htz s6 s7 t7 E7 r W)
  have HTM : Hid (tmsg L (0, true) = (withE ⟨5, n2, n3, n4, 0, 0, none, 0, 0, 0, false, 0, n5, n6, ⟨t7.toArray⟩⟩ none 0 0, [], s7)) := by
    show _ = _
    unfold tmsg
    simp only [E1, E2, E3, E4]
    unfold tbody tspot
    rw [if_neg (by decide), if_neg (by decide), if_neg (by decide), if_neg (by decide), if_pos rfl]
    simp only [E5, E6, E7]
    rfl
  clear E1 E2 E3 E4 E5 E6 E7
  generalize (n5 : Int) = k5 at *
  generalize (n6 : Int) = k6 at *
  generalize (n2 : Int) = k2 at *
  generalize (n3 : Int) = k3 at *
  generalize (n4 : Int) = k4 at *
  have HB := hideIt (below1 w (.cells (msgC zeroM) 28))
  have X := hideIt (heap_alloc_new w (.cells (msgC zeroM) 28))
  simp only [msgC, zeroM] at HB X
  go_enter Try.func14, Try.ntmps14
  go_upto_region 1 with fail
  generalize w.alloc (.cells #[.int .i64 0, .int .i64 0, .int .i64 0, .int .i64 0, .int .i64 0, .int .i64 0, .slice none 0 0, .int .i64 0, .bool false, .int .i64 0, .int .i64 0, .int .i64 0, .string ⟨#[]⟩] 28) = W1 at *
  go_wp2_with fail
  refine (HU.out _).mono ?_
  rintro e w2 ⟨rfl, hb⟩
  dsimp only
  have D : Hid (DM w w.heap.size w2.heap.size (w2.heap.size + 1) ⟨L.toArray⟩ (0, true) zeroM [] ((w2.alloc (.cells #[.string ⟨L.toArray⟩, .int .i64 0, .bool true] 82)).alloc (.cells #[.int .i64 0, .int .i64 0, .int .i64 0, .int .i64 0, .int .i64 0, .int .i64 0, .slice none 0 0, .int .i64 0, .bool false, .int .i64 0, .int .i64 0, .int .i64 0, .string ⟨#[]⟩] 28))) := by
    obtain ⟨t1, t2, t3⟩ := two_heap w2 (.cells #[.string ⟨L.toArray⟩, .int .i64 0, .bool true] 82) (.cells #[.int .i64 0, .int .i64 0, .int .i64 0, .int .i64 0, .int .i64 0, .int .i64 0, .slice none 0 0, .int .i64 0, .bool false, .int .i64 0, .int .i64 0, .int .i64 0, .string ⟨#[]⟩] 28)
    have hb3 := below2 w2 (.cells #[.string ⟨L.toArray⟩, .int .i64 0, .bool true] 82) (.cells #[.int .i64 0, .int .i64 0, .int .i64 0, .int .i64 0, .int .i64 0, .int .i64 0, .slice none 0 0, .int .i64 0, .bool false, .int .i64 0, .int .i64 0, .int .i64 0, .string ⟨#[]⟩] 28)
    have hlt := (Array.getElem?_eq_some_iff.1 (blkK X.out hb)).1
    exact ⟨t1, t2, blkK (blkK X.out hb) hb3, own_none _ _, rfl, below_via (below_via HB.out hb) hb3, Nat.le_refl _, hlt, by omega⟩
  clear hb X HB HU
  go_upto_region 6 with fail
  generalize (w2.alloc (.cells #[.string ⟨L.toArray⟩, .int .i64 0, .bool true] 82)).alloc (.cells #[.int .i64 0, .int .i64 0, .int .i64 0, .int .i64 0, .int .i64 0, .int .i64 0, .slice none 0 0, .int .i64 0, .bool false, .int .i64 0, .int .i64 0, .int .i64 0, .string ⟨#[]⟩] 28) = W at *
  generalize w2.heap.size + 1 = km at *
  generalize w2.heap.size = r at *
  unfold zeroM at D
  go_wp2_with fail
  refine (HT1.out _ _ D.out.tk).mono ?_
  rintro e w' ⟨rfl, ht, ho⟩
  dsimp only
  have D' := hideIt ((D.out.num ht ho).put (m' := ⟨5, 0, 0, 0, 0, 0, none, 0, 0, 0, false, 0, 0, 0, ⟨#[]⟩⟩) 0 (.int .i64 5) rfl ⟨rfl, rfl, rfl⟩)
  obtain ⟨⟨d0, d1, d2, d3, d4, d5, d6, d7, d8, d9, d10, d11, d12⟩, nf, nz⟩ := msg_at (D.out.num ht ho).ms
  dsimp only at d0 d1 d2 d3 d4 d5 d6 d7 d8 d9 d10 d11 d12
  clear ht ho D HT1
  have D := D'
  clear D'
  go_upto_region 7 with fail
  clear d0 d1 d2 d3 d4 d5 d6 d7 d8 d9 d10 d11 d12 nf nz
  generalize w'.setCell ⟨km, 0, none⟩ (.int .i64 5) = W at *
  go_wp2_with fail
  refine (HT2.out _ _ D.out.tk).mono ?_
  rintro e w' ⟨rfl, ht, ho⟩
  dsimp only
  have D' := hideIt ((D.out.num ht ho).put (m' := ⟨5, k2, 0, 0, 0, 0, none, 0, 0, 0, false, 0, 0, 0, ⟨#[]⟩⟩) 1 (.int .i64 k2) rfl ⟨rfl, rfl, rfl⟩)
  obtain ⟨⟨d0, d1, d2, d3, d4, d5, d6, d7, d8, d9, d10, d11, d12⟩, nf, nz⟩ := msg_at (D.out.num ht ho).ms
  dsimp only at d0 d1 d2 d3 d4 d5 d6 d7 d8 d9 d10 d11 d12
  clear ht ho D HT2
  have D := D'
  clear D'
  go_upto_region 8 with fail
  clear d0 d1 d2 d3 d4 d5 d6 d7 d8 d9 d10 d11 d12 nf nz
  generalize w'.setCell ⟨km, 1, none⟩ (.int .i64 k2) = W at *
  go_wp2_with fail
  refine (HT3.out _ _ D.out.tk).mono ?_
  rintro e w' ⟨rfl, ht, ho⟩
  dsimp only
  have D' := hideIt ((D.out.num ht ho).put (m' := ⟨5, k2, k3, 0, 0, 0, none, 0, 0, 0, false, 0, 0, 0, ⟨#[]⟩⟩) 2 (.int .i64 k3) rfl ⟨rfl, rfl, rfl⟩)
  obtain ⟨⟨d0, d1, d2, d3, d4, d5, d6, d7, d8, d9, d10, d11, d12⟩, nf, nz⟩ := msg_at (D.out.num ht ho).ms
  dsimp only at d0 d1 d2 d3 d4 d5 d6 d7 d8 d9 d10 d11 d12
  clear ht ho D HT3
  have D := D'
  clear D'
  go_upto_region 9 with fail
  clear d0 d1 d2 d3 d4 d5 d6 d7 d8 d9 d10 d11 d12 nf nz
  generalize w'.setCell ⟨km, 2, none⟩ (.int .i64 k3) = W at *
  go_wp2_with fail
  refine (HT4.out _ _ D.out.tk).mono ?_
  rintro e w' ⟨rfl, ht, ho⟩
  dsimp only
  have D' := hideIt ((D.out.num ht ho).put (m' := ⟨5, k2, k3, k4, 0, 0, none, 0, 0, 0, false, 0, 0, 0, ⟨#[]⟩⟩) 3 (.int .i64 k4) rfl ⟨rfl, rfl, rfl⟩)
  obtain ⟨⟨d0, d1, d2, d3, d4, d5, d6, d7, d8, d9, d10, d11, d12⟩, nf, nz⟩ := msg_at (D.out.num ht ho).ms
  dsimp only at d0 d1 d2 d3 d4 d5 d6 d7 d8 d9 d10 d11 d12
  clear ht ho D HT4
  have D := D'
  clear D'
  go_upto_region 10 with fail
  clear d0 d1 d2 d3 d4 d5 d6 d7 d8 d9 d10 d11 d12 nf nz
  generalize w'.setCell ⟨km, 3, none⟩ (.int .i64 k4) = W at *
  have dk := (msg_at D.out.ms).1.1
  dsimp only at dk
  go_upto_region 33 with fail
  clear dk
  go_wp2_with fail
  refine (HT5.out _ _ D.out.tk).mono ?_
  rintro e w' ⟨rfl, ht, ho⟩
  dsimp only
  have D' := hideIt ((D.out.num ht ho).put (m' := ⟨5, k2, k3, k4, 0, 0, none, 0, 0, 0, false, 0, k5, 0, ⟨#[]⟩⟩) 10 (.int .i64 k5) rfl ⟨rfl, rfl, rfl⟩)
  obtain ⟨⟨d0, d1, d2, d3, d4, d5, d6, d7, d8, d9, d10, d11, d12⟩, nf, nz⟩ := msg_at (D.out.num ht ho).ms
  dsimp only at d0 d1 d2 d3 d4 d5 d6 d7 d8 d9 d10 d11 d12
  clear ht ho D HT5
  have D := D'
  clear D'
  go_upto_region 34 with fail
  clear d0 d1 d2 d3 d4 d5 d6 d7 d8 d9 d10 d11 d12 nf nz
  generalize w'.setCell ⟨km, 10, none⟩ (.int .i64 k5) = W at *
  go_wp2_with fail
  refine (HT6.out _ _ D.out.tk).mono ?_
  rintro e w' ⟨rfl, ht, ho⟩
  dsimp only
  have D' := hideIt ((D.out.num ht ho).put (m' := ⟨5, k2, k3, k4, 0, 0, none, 0, 0, 0, false, 0, k5, k6, ⟨#[]⟩⟩) 11 (.int .i64 k6) rfl ⟨rfl, rfl, rfl⟩)
  obtain ⟨⟨d0, d1, d2, d3, d4, d5, d6, d7, d8, d9, d10, d11, d12⟩, nf, nz⟩ := msg_at (D.out.num ht ho).ms
  dsimp only at d0 d1 d2 d3 d4 d5 d6 d7 d8 d9 d10 d11 d12
  clear ht ho D HT6
  have D := D'
  clear D'
  go_upto_region 35 with fail
  clear d0 d1 d2 d3 d4 d5 d6 d7 d8 d9 d10 d11 d12 nf nz
  generalize w'.setCell ⟨km, 11, none⟩ (.int .i64 k6) = W at *
  go_wp2_with fail
  refine (HT7.out _ _ D.out.tk).mono ?_
  rintro e w' ⟨rfl, ht, ho⟩
  dsimp only
  have D' := hideIt ((D.out.num ht ho).put (m' := ⟨5, k2, k3, k4, 0, 0, none, 0, 0, 0, false, 0, k5, k6, ⟨t7.toArray⟩⟩) 12 (.string ⟨t7.toArray⟩) rfl ⟨rfl, rfl, rfl⟩)
  obtain ⟨⟨d0, d1, d2, d3, d4, d5, d6, d7, d8, d9, d10, d11, d12⟩, nf, nz⟩ := msg_at (D.out.num ht ho).ms
  dsimp only at d0 d1 d2 d3 d4 d5 d6 d7 d8 d9 d10 d11 d12
  clear ht ho D HT7
  have D := D'
  clear D'
  go_upto_region 36 with fail
  clear d0 d1 d2 d3 d4 d5 d6 d7 d8 d9 d10 d11 d12 nf nz
  generalize w'.setCell ⟨km, 12, none⟩ (.string ⟨t7.toArray⟩) = W at *
  obtain ⟨sa, sb⟩ := s7
  have HX := hideIt (dec_rx HR.out HTM.out D.out.hn)
  clear HR HTM
  obtain ⟨m, hm⟩ : ∃ m : MsgV, m = ⟨5, k2, k3, k4, 0, 0, none, 0, 0, 0, false, 0, k5, k6, ⟨t7.toArray⟩⟩ := ⟨_, rfl⟩
  rw [← hm] at D HX
  clear hm
  have hen := D.out.hn
  have HE := hideIt (fun W (hW : EntsAt W m.ea []) => refEncode_is m [] W hW hen (by simp))
  have HO : Hid (EntsAt W m.ea []) := own_ents (B := km + 1) (c := m.ec) (by have := D.out.own; rw [hen] at this; exact this)
  have HEN := hideIt hen
  clear hen
  obtain ⟨⟨d0, d1, d2, d3, d4, d5, d6, d7, d8, d9, d10, d11, d12⟩, nf, nz⟩ := msg_at D.out.ms
  simp only [msgC] at HE
  go_wp2_with fail
  refine (HE.out _ HO.out).mono ?_
  rintro e w5 ⟨rfl, hb⟩
  dsimp only
  have D5 := hideIt (D.out.keep hb)
  clear d0 d1 d2 d3 d4 d5 d6 d7 d8 d9 d10 d11 d12 nf nz hb D HO HE
  obtain ⟨t0, t1, t2, tf, tz⟩ := three_at (show w5.heap[r]? = some (.cells #[.string ⟨L.toArray⟩, .int .i64 (sa : Int), .bool sb] 82 (0, 0)) from D5.out.tk)
  cases sb with
  | false =>
    have HN : Hid (R = none) := by
      show _ = _
      rw [HX.out]
      exact if_neg (fun h => by cases h.1)
    clear HX
    obtain ⟨⟨d0, d1, d2, d3, d4, d5, d6, d7, d8, d9, d10, d11, d12⟩, nf, nz⟩ := msg_at (m := ⟨0, 0, 0, 0, 0, 0, none, 0, 0, 0, false, 0, 0, 0, ⟨#[]⟩⟩) D5.out.rs
    dsimp only at d0 d1 d2 d3 d4 d5 d6 d7 d8 d9 d10 d11 d12
    go_wp2
    obtain ⟨hzz, hoo⟩ := put13 w5 w.heap.size (.int .i64 0) (.int .i64 0) (.int .i64 0) (.int .i64 0) (.int .i64 0) (.int .i64 0) (.slice none 0 0) (.int .i64 0) (.bool false) (.int .i64 0) (.int .i64 0) (.int .i64 0) (.string ⟨#[]⟩) D5.out.rs
    refine bodyPost_ret (v := .tuple #[.agg #[.int .i64 0, .int .i64 0, .int .i64 0, .int .i64 0, .int .i64 0, .int .i64 0, .slice none 0 0, .int .i64 0, .bool false, .int .i64 0, .int .i64 0, .int .i64 0, .string ⟨#[]⟩], .int .i64 52]) (by simp [results, Try.results14, go_sem, cell_at hzz]) rfl ?_
    rw [HN.out]
    exact ⟨rfl, below_out D5.out.bel hoo (fun k hk => by omega)⟩
  | true =>
    cases hmy : mayB m [] with
    | false =>
      have hE : ((encE m [] : Nat) : Int) = 52 := by unfold encE; rw [hmy]; rfl
      rw [hE]
      have HN : Hid (R = none) := by
        show _ = _
        rw [HX.out]
        exact if_neg (fun h => by rw [hmy] at h; cases h.2.1)
      clear HX hE hmy
      obtain ⟨⟨d0, d1, d2, d3, d4, d5, d6, d7, d8, d9, d10, d11, d12⟩, nf, nz⟩ := msg_at (m := ⟨0, 0, 0, 0, 0, 0, none, 0, 0, 0, false, 0, 0, 0, ⟨#[]⟩⟩) D5.out.rs
      dsimp only at d0 d1 d2 d3 d4 d5 d6 d7 d8 d9 d10 d11 d12
      go_wp2
      obtain ⟨hzz, hoo⟩ := put13 w5 w.heap.size (.int .i64 0) (.int .i64 0) (.int .i64 0) (.int .i64 0) (.int .i64 0) (.int .i64 0) (.slice none 0 0) (.int .i64 0) (.bool false) (.int .i64 0) (.int .i64 0) (.int .i64 0) (.string ⟨#[]⟩) D5.out.rs
      refine bodyPost_ret (v := .tuple #[.agg #[.int .i64 0, .int .i64 0, .int .i64 0, .int .i64 0, .int .i64 0, .int .i64 0, .slice none 0 0, .int .i64 0, .bool false, .int .i64 0, .int .i64 0, .int .i64 0, .string ⟨#[]⟩], .int .i64 52]) (by simp [results, Try.results14, go_sem, cell_at hzz]) rfl ?_
      rw [HN.out]
      exact ⟨rfl, below_out D5.out.bel hoo (fun k hk => by omega)⟩
    | true =>
      have hE : ((encE m [] : Nat) : Int) = 0 := by unfold encE; rw [hmy]; rfl
      have hEL : encL m [] = frameL (bodyL m []) := by unfold encL; rw [hmy]; rfl
      rw [hE, hEL]
      clear hE hEL
      by_cases hq : frameL (bodyL m []) = s.data.toList
      · have hsq : (⟨(frameL (bodyL m [])).toArray⟩ : ByteArray) = s := by rw [hq]
        rw [hsq]
        have q9 := fun W => neq9_no s W
        have HS : Hid (R = some (withE m none 0 0, [])) := by
          show _ = _
          rw [HX.out]
          exact if_pos ⟨rfl, hmy, hq⟩
        clear HX hq hsq hmy
        obtain ⟨⟨d0, d1, d2, d3, d4, d5, d6, d7, d8, d9, d10, d11, d12⟩, nf, nz⟩ := msg_at (m := ⟨0, 0, 0, 0, 0, 0, none, 0, 0, 0, false, 0, 0, 0, ⟨#[]⟩⟩) D5.out.rs
        obtain ⟨⟨c0, c1, c2, c3, c4, c5, c6, c7, c8, c9, c10, c11, c12⟩, mf, mz⟩ := msg_at D5.out.ms
        dsimp only at d0 d1 d2 d3 d4 d5 d6 d7 d8 d9 d10 d11 d12
        have hdis : km ≠ w.heap.size := by have := D5.out.l2; have := D5.out.l3; omega
        go_wp2
        obtain ⟨hzz, hoo⟩ := put13 w5 w.heap.size (.int .i64 m.kind) (.int .i64 m.frm) (.int .i64 m.dst) (.int .i64 m.term) (.int .i64 m.pi) (.int .i64 m.pt) (.slice m.ea m.en m.ec) (.int .i64 m.commit) (.bool m.ok) (.int .i64 m.mtch) (.int .i64 m.si) (.int .i64 m.st) (.string m.text) D5.out.rs
        refine bodyPost_ret (v := .tuple #[.agg #[.int .i64 m.kind, .int .i64 m.frm, .int .i64 m.dst, .int .i64 m.term, .int .i64 m.pi, .int .i64 m.pt, .slice m.ea m.en m.ec, .int .i64 m.commit, .bool m.ok, .int .i64 m.mtch, .int .i64 m.si, .int .i64 m.st, .string m.text], .int .i64 0]) (by simp [results, Try.results14, go_sem, cell_at hzz]) rfl ?_
        rw [HS.out]
        refine ⟨⟨m.ea, m.ec, ?_, ?_⟩, below_out D5.out.bel hoo (fun k hk => by omega)⟩
        · rw [← HEN.out]
          rfl
        · refine own_ents (B := km + 1) (c := m.ec) ?_
          have h1 := D5.out.own
          rw [HEN.out] at h1
          exact own_out h1 hoo (fun k hk => by have := D5.out.l2; have := D5.out.l3; omega)
      · have hq9 : (frameL (bodyL m []) == s.toList) = false := by rw [Go.Lib.toList_data]; simpa using hq
        have HN : Hid (R = none) := by
          show _ = _
          rw [HX.out]
          exact if_neg (fun h => hq h.2.2)
        clear HX hq hmy
        obtain ⟨⟨d0, d1, d2, d3, d4, d5, d6, d7, d8, d9, d10, d11, d12⟩, nf, nz⟩ := msg_at (m := ⟨0, 0, 0, 0, 0, 0, none, 0, 0, 0, false, 0, 0, 0, ⟨#[]⟩⟩) D5.out.rs
        dsimp only at d0 d1 d2 d3 d4 d5 d6 d7 d8 d9 d10 d11 d12
        go_wp2
        obtain ⟨hzz, hoo⟩ := put13 w5 w.heap.size (.int .i64 0) (.int .i64 0) (.int .i64 0) (.int .i64 0) (.int .i64 0) (.int .i64 0) (.slice none 0 0) (.int .i64 0) (.bool false) (.int .i64 0) (.int .i64 0) (.int .i64 0) (.string ⟨#[]⟩) D5.out.rs
        refine bodyPost_ret (v := .tuple #[.agg #[.int .i64 0, .int .i64 0, .int .i64 0, .int .i64 0, .int .i64 0, .int .i64 0, .slice none 0 0, .int .i64 0, .bool false, .int .i64 0, .int .i64 0, .int .i64 0, .string ⟨#[]⟩], .int .i64 52]) (by simp [results, Try.results14, go_sem, cell_at hzz]) rfl ?_
        rw [HN.out]
        exact ⟨rfl, below_out D5.out.bel hoo (fun k hk => by omega)⟩
set_option maxHeartbeats 16000000 in
set_option maxRecDepth 100000 in
theorem rDec_o (s : ByteArray) (w : World) (hs : s.size ≤ maxLen) (hu : (unf s.data.toList 0).2.2 = 0) (x : Nat) (hkd : (tnum (unf s.data.toList 0).1 (0, true)).1 = x) (j1 : x ≠ 1) (j2 : x ≠ 2) (j3 : x ≠ 3) (j4 : x ≠ 4) (j5 : x ≠ 5) : Calls Try.prog 14 #[.string s] w (RDB (rdec s.data.toList) w) := by
  obtain ⟨L, nx, er, hr⟩ : ∃ t nx er, unf s.data.toList 0 = (t, nx, er) := ⟨_, _, _, rfl⟩
  have hus := unf_size s.data.toList 0
  have HR : Hid (rdec s.data.toList = if (tmsg L (0, true)).2.2.2 = true ∧ mayB (withE (tmsg L (0, true)).1 none (tmsg L (0, true)).2.1.length 0) (tmsg L (0, true)).2.1 = true ∧ frameL (bodyL (withE (tmsg L (0, true)).1 none (tmsg L (0, true)).2.1.length 0) (tmsg L (0, true)).2.1) = s.data.toList then some ((tmsg L (0, true)).1, (tmsg L (0, true)).2.1) else none) := by
    show _ = _
    unfold rdec
    rw [if_pos hu, hr]
  rw [hr] at hu hus hkd
  simp only at hu hus hkd
  subst hu
  have HU := hideIt (fun W => refUnframe_any s 0 W hs (Nat.zero_le _))
  unfold tupT at HU
  simp only [hr] at HU
  have htz : (⟨L.toArray⟩ : ByteArray).size ≤ maxLen := by
    have e1 : (⟨L.toArray⟩ : ByteArray).size = L.length := rfl
    have e2 : s.data.toList.length = s.size := by simp
    omega
  clear hr
  generalize rdec s.data.toList = R at *
  obtain ⟨n1, s1, E1⟩ : ∃ n s', tnum L (0, true) = (n, s') := ⟨_, _, rfl⟩
  obtain ⟨n2, s2, E2⟩ : ∃ n s', tnum L s1 = (n, s') := ⟨_, _, rfl⟩
  obtain ⟨n3, s3, E3⟩ : ∃ n s', tnum L s2 = (n, s') := ⟨_, _, rfl⟩
  obtain ⟨n4, s4, E4⟩ : ∃ n s', tnum L s3 = (n, s') := ⟨_, _, rfl⟩
  rw [E1] at hkd
  simp only at hkd
  have HT2 := hideIt (fun r W => tnum_at ⟨L.toArray⟩ htz s1 s2 n2 _ E2 rfl r W)
  have HT3 := hideIt (fun r W => tnum_at ⟨L.toArray⟩ htz s2 s3 n3 _ E3 rfl r W)
  have HT4 := hideIt (fun r W => tnum_at ⟨L.toArray⟩ htz s3 s4 n4 _ E4 rfl r W)
  subst hkd
  have HT1 := hideIt (fun r W => tnum_at ⟨L.toArray⟩ htz (0, true) s1 n1 _ E1 rfl r W)
  have HTM : Hid (tmsg L (0, true) = (withE ⟨n1, n2, n3, n4, 0, 0, none, 0, 0, 0, false, 0, 0, 0, ⟨#[]⟩⟩ none 0 0, [], s4)) := by
    show _ = _
    unfold tmsg
    simp only [E1, E2, E3, E4]
    unfold tbody
    rw [if_neg j1, if_neg j2, if_neg j3, if_neg j4, if_neg j5]
    rfl
  clear E1 E2 E3 E4
  have i1 : ((n1 : Int) == 1) = false := beq_eq_false_iff_ne.2 (by omega)
  have i2 : ((n1 : Int) == 2) = false := beq_eq_false_iff_ne.2 (by omega)
  have i3 : ((n1 : Int) == 3) = false := beq_eq_false_iff_ne.2 (by omega)
  have i4 : ((n1 : Int) == 4) = false := beq_eq_false_iff_ne.2 (by omega)
  have i5 : ((n1 : Int) == 5) = false := beq_eq_false_iff_ne.2 (by omega)
  clear j1 j2 j3 j4 j5
  generalize (n1 : Int) = k1 at *
  generalize (n2 : Int) = k2 at *
  generalize (n3 : Int) = k3 at *
  generalize (n4 : Int) = k4 at *
  have HB := hideIt (below1 w (.cells (msgC zeroM) 28))
  have X := hideIt (heap_alloc_new w (.cells (msgC zeroM) 28))
  simp only [msgC, zeroM] at HB X
  go_enter Try.func14, Try.ntmps14
  go_upto_region 1 with fail
  generalize w.alloc (.cells #[.int .i64 0, .int .i64 0, .int .i64 0, .int .i64 0, .int .i64 0, .int .i64 0, .slice none 0 0, .int .i64 0, .bool false, .int .i64 0, .int .i64 0, .int .i64 0, .string ⟨#[]⟩] 28) = W1 at *
  go_wp2_with fail
  refine (HU.out _).mono ?_
  rintro e w2 ⟨rfl, hb⟩
  dsimp only
  have D : Hid (DM w w.heap.size w2.heap.size (w2.heap.size + 1) ⟨L.toArray⟩ (0, true) zeroM [] ((w2.alloc (.cells #[.string ⟨L.toArray⟩, .int .i64 0, .bool true] 82)).alloc (.cells #[.int .i64 0, .int .i64 0, .int .i64 0, .int .i64 0, .int .i64 0, .int .i64 0, .slice none 0 0, .int .i64 0, .bool false, .int .i64 0, .int .i64 0, .int .i64 0, .string ⟨#[]⟩] 28))) := by
    obtain ⟨t1, t2, t3⟩ := two_heap w2 (.cells #[.string ⟨L.toArray⟩, .int .i64 0, .bool true] 82) (.cells #[.int .i64 0, .int .i64 0, .int .i64 0, .int .i64 0, .int .i64 0, .int .i64 0, .slice none 0 0, .int .i64 0, .bool false, .int .i64 0, .int .i64 0, .int .i64 0, .string ⟨#[]⟩] 28)
    have hb3 := below2 w2 (.cells #[.string ⟨L.toArray⟩, .int .i64 0, .bool true] 82) (.cells #[.int .i64 0, .int .i64 0, .int .i64 0, .int .i64 0, .int .i64 0, .int .i64 0, .slice none 0 0, .int .i64 0, .bool false, .int .i64 0, .int .i64 0, .int .i64 0, .string ⟨#[]⟩] 28)
    have hlt := (Array.getElem?_eq_some_iff.1 (blkK X.out hb)).1
    exact ⟨t1, t2, blkK (blkK X.out hb) hb3, own_none _ _, rfl, below_via (below_via HB.out hb) hb3, Nat.le_refl _, hlt, by omega⟩
  clear hb X HB HU
  go_upto_region 6 with fail
  generalize (w2.alloc (.cells #[.string ⟨L.toArray⟩, .int .i64 0, .bool true] 82)).alloc (.cells #[.int .i64 0, .int .i64 0, .int .i64 0, .int .i64 0, .int .i64 0, .int .i64 0, .slice none 0 0, .int .i64 0, .bool false, .int .i64 0, .int .i64 0, .int .i64 0, .string ⟨#[]⟩] 28) = W at *
  generalize w2.heap.size + 1 = km at *
  generalize w2.heap.size = r at *
  unfold zeroM at D
  go_wp2_with fail
  refine (HT1.out _ _ D.out.tk).mono ?_
  rintro e w' ⟨rfl, ht, ho⟩
  dsimp only
  have D' := hideIt ((D.out.num ht ho).put (m' := ⟨k1, 0, 0, 0, 0, 0, none, 0, 0, 0, false, 0, 0, 0, ⟨#[]⟩⟩) 0 (.int .i64 k1) rfl ⟨rfl, rfl, rfl⟩)
  obtain ⟨⟨d0, d1, d2, d3, d4, d5, d6, d7, d8, d9, d10, d11, d12⟩, nf, nz⟩ := msg_at (D.out.num ht ho).ms
  dsimp only at d0 d1 d2 d3 d4 d5 d6 d7 d8 d9 d10 d11 d12
  clear ht ho D HT1
  have D := D'
  clear D'
  go_upto_region 7 with fail
  clear d0 d1 d2 d3 d4 d5 d6 d7 d8 d9 d10 d11 d12 nf nz
  generalize w'.setCell ⟨km, 0, none⟩ (.int .i64 k1) = W at *
  go_wp2_with fail
  refine (HT2.out _ _ D.out.tk).mono ?_
  rintro e w' ⟨rfl, ht, ho⟩
  dsimp only
  have D' := hideIt ((D.out.num ht ho).put (m' := ⟨k1, k2, 0, 0, 0, 0, none, 0, 0, 0, false, 0, 0, 0, ⟨#[]⟩⟩) 1 (.int .i64 k2) rfl ⟨rfl, rfl, rfl⟩)
  obtain ⟨⟨d0, d1, d2, d3, d4, d5, d6, d7, d8, d9, d10, d11, d12⟩, nf, nz⟩ := msg_at (D.out.num ht ho).ms
  dsimp only at d0 d1 d2 d3 d4 d5 d6 d7 d8 d9 d10 d11 d12
  clear ht ho D HT2
  have D := D'
  clear D'
  go_upto_region 8 with fail
  clear d0 d1 d2 d3 d4 d5 d6 d7 d8 d9 d10 d11 d12 nf nz
  generalize w'.setCell ⟨km, 1, none⟩ (.int .i64 k2) = W at *
  go_wp2_with fail
  refine (HT3.out _ _ D.out.tk).mono ?_
  rintro e w' ⟨rfl, ht, ho⟩
  dsimp only
  have D' := hideIt ((D.out.num ht ho).put (m' := ⟨k1, k2, k3, 0, 0, 0, none, 0, 0, 0, false, 0, 0, 0, ⟨#[]⟩⟩) 2 (.int .i64 k3) rfl ⟨rfl, rfl, rfl⟩)
  obtain ⟨⟨d0, d1, d2, d3, d4, d5, d6, d7, d8, d9, d10, d11, d12⟩, nf, nz⟩ := msg_at (D.out.num ht ho).ms
  dsimp only at d0 d1 d2 d3 d4 d5 d6 d7 d8 d9 d10 d11 d12
  clear ht ho D HT3
  have D := D'
  clear D'
  go_upto_region 9 with fail
  clear d0 d1 d2 d3 d4 d5 d6 d7 d8 d9 d10 d11 d12 nf nz
  generalize w'.setCell ⟨km, 2, none⟩ (.int .i64 k3) = W at *
  go_wp2_with fail
  refine (HT4.out _ _ D.out.tk).mono ?_
  rintro e w' ⟨rfl, ht, ho⟩
  dsimp only
  have D' := hideIt ((D.out.num ht ho).put (m' := ⟨k1, k2, k3, k4, 0, 0, none, 0, 0, 0, false, 0, 0, 0, ⟨#[]⟩⟩) 3 (.int .i64 k4) rfl ⟨rfl, rfl, rfl⟩)
  obtain ⟨⟨d0, d1, d2, d3, d4, d5, d6, d7, d8, d9, d10, d11, d12⟩, nf, nz⟩ := msg_at (D.out.num ht ho).ms
  dsimp only at d0 d1 d2 d3 d4 d5 d6 d7 d8 d9 d10 d11 d12
  clear ht ho D HT4
  have D := D'
  clear D'
  go_upto_region 10 with fail
  clear d0 d1 d2 d3 d4 d5 d6 d7 d8 d9 d10 d11 d12 nf nz
  generalize w'.setCell ⟨km, 3, none⟩ (.int .i64 k4) = W at *
  have dk := (msg_at D.out.ms).1.1
  dsimp only at dk
  go_upto_region 36 with fail
  clear dk
  obtain ⟨sa, sb⟩ := s4
  have HX := hideIt (dec_rx HR.out HTM.out D.out.hn)
  clear HR HTM
  obtain ⟨m, hm⟩ : ∃ m : MsgV, m = ⟨k1, k2, k3, k4, 0, 0, none, 0, 0, 0, false, 0, 0, 0, ⟨#[]⟩⟩ := ⟨_, rfl⟩
  rw [← hm] at D HX
  clear hm
  have hen := D.out.hn
  have HE := hideIt (fun W (hW : EntsAt W m.ea []) => refEncode_is m [] W hW hen (by simp))
  have HO : Hid (EntsAt W m.ea []) := own_ents (B := km + 1) (c := m.ec) (by have := D.out.own; rw [hen] at this; exact this)
  have HEN := hideIt hen
  clear hen
  obtain ⟨⟨d0, d1, d2, d3, d4, d5, d6, d7, d8, d9, d10, d11, d12⟩, nf, nz⟩ := msg_at D.out.ms
  simp only [msgC] at HE
  go_wp2_with fail
  refine (HE.out _ HO.out).mono ?_
  rintro e w5 ⟨rfl, hb⟩
  dsimp only
  have D5 := hideIt (D.out.keep hb)
  clear d0 d1 d2 d3 d4 d5 d6 d7 d8 d9 d10 d11 d12 nf nz hb D HO HE
  obtain ⟨t0, t1, t2, tf, tz⟩ := three_at (show w5.heap[r]? = some (.cells #[.string ⟨L.toArray⟩, .int .i64 (sa : Int), .bool sb] 82 (0, 0)) from D5.out.tk)
  cases sb with
  | false =>
    have HN : Hid (R = none) := by
      show _ = _
      rw [HX.out]
      exact if_neg (fun h => by cases h.1)
    clear HX
    obtain ⟨⟨d0, d1, d2, d3, d4, d5, d6, d7, d8, d9, d10, d11, d12⟩, nf, nz⟩ := msg_at (m := ⟨0, 0, 0, 0, 0, 0, none, 0, 0, 0, false, 0, 0, 0, ⟨#[]⟩⟩) D5.out.rs
    dsimp only at d0 d1 d2 d3 d4 d5 d6 d7 d8 d9 d10 d11 d12
    go_wp2
    obtain ⟨hzz, hoo⟩ := put13 w5 w.heap.size (.int .i64 0) (.int .i64 0) (.int .i64 0) (.int .i64 0) (.int .i64 0) (.int .i64 0) (.slice none 0 0) (.int .i64 0) (.bool false) (.int .i64 0) (.int .i64 0) (.int .i64 0) (.string ⟨#[]⟩) D5.out.rs
    refine bodyPost_ret (v := .tuple #[.agg #[.int .i64 0, .int .i64 0, .int .i64 0, .int .i64 0, .int .i64 0, .int .i64 0, .slice none 0 0, .int .i64 0, .bool false, .int .i64 0, .int .i64 0, .int .i64 0, .string ⟨#[]⟩], .int .i64 52]) (by simp [results, Try.results14, go_sem, cell_at hzz]) rfl ?_
    rw [HN.out]
    exact ⟨rfl, below_out D5.out.bel hoo (fun k hk => by omega)⟩
  | true =>
    cases hmy : mayB m [] with
    | false =>
      have hE : ((encE m [] : Nat) : Int) = 52 := by unfold encE; rw [hmy]; rfl
      rw [hE]
      have HN : Hid (R = none) := by
        show _ = _
        rw [HX.out]
        exact if_neg (fun h => by rw [hmy] at h; cases h.2.1)
      clear HX hE hmy
      obtain ⟨⟨d0, d1, d2, d3, d4, d5, d6, d7, d8, d9, d10, d11, d12⟩, nf, nz⟩ := msg_at (m := ⟨0, 0, 0, 0, 0, 0, none, 0, 0, 0, false, 0, 0, 0, ⟨#[]⟩⟩) D5.out.rs
      dsimp only at d0 d1 d2 d3 d4 d5 d6 d7 d8 d9 d10 d11 d12
      go_wp2
      obtain ⟨hzz, hoo⟩ := put13 w5 w.heap.size (.int .i64 0) (.int .i64 0) (.int .i64 0) (.int .i64 0) (.int .i64 0) (.int .i64 0) (.slice none 0 0) (.int .i64 0) (.bool false) (.int .i64 0) (.int .i64 0) (.int .i64 0) (.string ⟨#[]⟩) D5.out.rs
      refine bodyPost_ret (v := .tuple #[.agg #[.int .i64 0, .int .i64 0, .int .i64 0, .int .i64 0, .int .i64 0, .int .i64 0, .slice none 0 0, .int .i64 0, .bool false, .int .i64 0, .int .i64 0, .int .i64 0, .string ⟨#[]⟩], .int .i64 52]) (by simp [results, Try.results14, go_sem, cell_at hzz]) rfl ?_
      rw [HN.out]
      exact ⟨rfl, below_out D5.out.bel hoo (fun k hk => by omega)⟩
    | true =>
      have hE : ((encE m [] : Nat) : Int) = 0 := by unfold encE; rw [hmy]; rfl
      have hEL : encL m [] = frameL (bodyL m []) := by unfold encL; rw [hmy]; rfl
      rw [hE, hEL]
      clear hE hEL
      by_cases hq : frameL (bodyL m []) = s.data.toList
      · have hsq : (⟨(frameL (bodyL m [])).toArray⟩ : ByteArray) = s := by rw [hq]
        rw [hsq]
        have q9 := fun W => neq9_no s W
        have HS : Hid (R = some (withE m none 0 0, [])) := by
          show _ = _
          rw [HX.out]
          exact if_pos ⟨rfl, hmy, hq⟩
        clear HX hq hsq hmy
        obtain ⟨⟨d0, d1, d2, d3, d4, d5, d6, d7, d8, d9, d10, d11, d12⟩, nf, nz⟩ := msg_at (m := ⟨0, 0, 0, 0, 0, 0, none, 0, 0, 0, false, 0, 0, 0, ⟨#[]⟩⟩) D5.out.rs
        obtain ⟨⟨c0, c1, c2, c3, c4, c5, c6, c7, c8, c9, c10, c11, c12⟩, mf, mz⟩ := msg_at D5.out.ms
        dsimp only at d0 d1 d2 d3 d4 d5 d6 d7 d8 d9 d10 d11 d12
        have hdis : km ≠ w.heap.size := by have := D5.out.l2; have := D5.out.l3; omega
        go_wp2
        obtain ⟨hzz, hoo⟩ := put13 w5 w.heap.size (.int .i64 m.kind) (.int .i64 m.frm) (.int .i64 m.dst) (.int .i64 m.term) (.int .i64 m.pi) (.int .i64 m.pt) (.slice m.ea m.en m.ec) (.int .i64 m.commit) (.bool m.ok) (.int .i64 m.mtch) (.int .i64 m.si) (.int .i64 m.st) (.string m.text) D5.out.rs
        refine bodyPost_ret (v := .tuple #[.agg #[.int .i64 m.kind, .int .i64 m.frm, .int .i64 m.dst, .int .i64 m.term, .int .i64 m.pi, .int .i64 m.pt, .slice m.ea m.en m.ec, .int .i64 m.commit, .bool m.ok, .int .i64 m.mtch, .int .i64 m.si, .int .i64 m.st, .string m.text], .int .i64 0]) (by simp [results, Try.results14, go_sem, cell_at hzz]) rfl ?_
        rw [HS.out]
        refine ⟨⟨m.ea, m.ec, ?_, ?_⟩, below_out D5.out.bel hoo (fun k hk => by omega)⟩
        · rw [← HEN.out]
          rfl
        · refine own_ents (B := km + 1) (c := m.ec) ?_
          have h1 := D5.out.own
          rw [HEN.out] at h1
          exact own_out h1 hoo (fun k hk => by have := D5.out.l2; have := D5.out.l3; omega)
      · have hq9 : (frameL (bodyL m []) == s.toList) = false := by rw [Go.Lib.toList_data]; simpa using hq
        have HN : Hid (R = none) := by
          show _ = _
          rw [HX.out]
          exact if_neg (fun h => hq h.2.2)
        clear HX hq hmy
        obtain ⟨⟨d0, d1, d2, d3, d4, d5, d6, d7, d8, d9, d10, d11, d12⟩, nf, nz⟩ := msg_at (m := ⟨0, 0, 0, 0, 0, 0, none, 0, 0, 0, false, 0, 0, 0, ⟨#[]⟩⟩) D5.out.rs
        dsimp only at d0 d1 d2 d3 d4 d5 d6 d7 d8 d9 d10 d11 d12
        go_wp2
        obtain ⟨hzz, hoo⟩ := put13 w5 w.heap.size (.int .i64 0) (.int .i64 0) (.int .i64 0) (.int .i64 0) (.int .i64 0) (.int .i64 0) (.slice none 0 0) (.int .i64 0) (.bool false) (.int .i64 0) (.int .i64 0) (.int .i64 0) (.string ⟨#[]⟩) D5.out.rs
        refine bodyPost_ret (v := .tuple #[.agg #[.int .i64 0, .int .i64 0, .int .i64 0, .int .i64 0, .int .i64 0, .int .i64 0, .slice none 0 0, .int .i64 0, .bool false, .int .i64 0, .int .i64 0, .int .i64 0, .string ⟨#[]⟩], .int .i64 52]) (by simp [results, Try.results14, go_sem, cell_at hzz]) rfl ?_
        rw [HN.out]
        exact ⟨rfl, below_out D5.out.bel hoo (fun k hk => by omega)⟩
end Go.Proofs.Ytagfolckodpioaa.K2
namespace Go.Proofs.Ytagfolckodpioaa.K2
open Go.RowKit Go.Maps Go.Proofs.Ytagfolckodpioaa
set_option linter.all false
theorem refDecode_any (s : ByteArray) (w : World) (hs : s.size ≤ maxLen) : Calls Try.prog 14 #[.string s] w (RDB (decL s.data.toList) w) := by
  rw [← rdec_eq]
  by_cases hu : (unf s.data.toList 0).2.2 = 0
  · obtain ⟨x, hx⟩ : ∃ x, (tnum (unf s.data.toList 0).1 (0, true)).1 = x := ⟨_, rfl⟩
    by_cases j1 : x = 1
    · exact rDec_1 s w hs hu (by rw [hx, j1])
    · by_cases j2 : x = 2
      · exact rDec_2 s w hs hu (by rw [hx, j2])
      · by_cases j3 : x = 3
        · exact rDec_3 s w hs hu (by rw [hx, j3])
        · by_cases j4 : x = 4
          · exact rDec_4 s w hs hu (by rw [hx, j4])
          · by_cases j5 : x = 5
            · exact rDec_5 s w hs hu (by rw [hx, j5])
            · exact rDec_o s w hs hu x hx j1 j2 j3 j4 j5
  · have hn : rdec s.data.toList = none := by
      unfold rdec
      rw [if_neg hu]
    rw [hn]
    exact rDec_no s w hs hu
theorem dec_few {l : List UInt8} {m : MsgV} {es : List EntV} (h : decL l = some (m, es)) : es.length ≤ 16 := by
  unfold decL at h
  split at h
  · cases hm : msgIn (unf l 0).1 with
    | none =>
      rw [hm] at h
      simp at h
    | some y =>
      rw [hm] at h
      simp only [Option.bind_some] at h
      split at h
      · rename_i hy
        simp only [Option.some.injEq] at h
        subst h
        exact (mayB_ok _ _ rfl hy).1.few
      · cases h
  · cases h
/-- What both read of a text. -/
theorem both_read (x : ByteArray) (hs : x.size ≤ maxLen) : ∃ (mm : MsgV) (es : List EntV) (er : Int), es.length ≤ 16 ∧
    (∀ W, Calls Try.prog 14 #[.string x] W fun e w' => ∃ a c, e = .returned (.tuple #[.agg (msgC (withE mm a es.length c)), .int .i64 er]) ∧ EntsAt w' a es ∧ Below W.heap.size W w') ∧
    (∀ W, Calls Try.prog 15 #[.string x] W fun e w' => ∃ a c, e = .returned (.tuple #[.agg (msgC (withE mm a es.length c)), .int .i64 er]) ∧ w'.ownsRow W.heap.size 41 3 (.slice a es.length c) es.length (entC es) ∧ Below W.heap.size W w') := by
  have h1 := fun W => refDecode_any x W hs
  have h2 := fun W => decode_any x W hs
  cases hd : decL x.data.toList with
  | none =>
    rw [hd] at h1 h2
    refine ⟨zeroM, [], 52, by simp, fun W => (h1 W).mono ?_, fun W => (h2 W).mono ?_⟩
    · rintro e w' ⟨he, hb⟩
      exact ⟨none, 0, he, fun i hi => absurd hi (by simp), hb⟩
    · rintro e w' ⟨he, hb⟩
      exact ⟨none, 0, he, own_none _ _, hb⟩
  | some y =>
    obtain ⟨m, es⟩ := y
    have hf := dec_few hd
    rw [hd] at h1 h2
    refine ⟨m, es, 0, hf, fun W => (h1 W).mono ?_, fun W => (h2 W).mono ?_⟩
    · rintro e w' ⟨⟨a, c, he, ho⟩, hb⟩
      exact ⟨a, c, he, ho, hb⟩
    · rintro e w' ⟨⟨a, c, he, ho⟩, hb⟩
      exact ⟨a, c, he, ho, hb⟩
theorem eqE_my (e : EntV) : eqE e e = true := by simp [eqE]
theorem sameE_my : ∀ l : List EntV, sameE l l = true
  | [] => rfl
  | e :: l => by
    have ih := sameE_my l
    unfold sameE
    rw [eqE_my, ih]
    rfl
theorem sameF_two (m : MsgV) (a a' : Option Addr) (n c c' : Nat) : sameF (withE m a n c) (withE m a' n c') = true := by
  simp [sameF, withE, eqS, eqE]
theorem frm_size (l : List UInt8) : (frmL l).length ≤ 70008 := by
  unfold frmL
  split
  · rename_i h
    rw [frameL_len]
    omega
  · simp
set_option maxHeartbeats 16000000 in
set_option maxRecDepth 100000 in
theorem reads_walk (s : ByteArray) (w : World) (hs : s.size ≤ maxLen) : Calls Try.prog 4 #[.string s] w fun e w' => e = .returned (.bool true) ∧ Below w.heap.size w w' := by
  have HFR := hideIt (refFrame_any s w)
  have HLV := hideIt (fun W => live_is W)
  obtain ⟨fr, hfr⟩ : ∃ fr : ByteArray, fr = ⟨(frmL s.data.toList).toArray⟩ := ⟨_, rfl⟩
  have hfz : fr.size ≤ maxLen := by
    have h1 := frm_size s.data.toList
    have h2 : fr.size = (frmL s.data.toList).length := by rw [hfr]; rfl
    unfold maxLen
    omega
  rw [← hfr] at HFR
  generalize ((frmE s.data.toList : Nat) : Int) = fe at *
  have HZ := hideIt (And.intro hs hfz)
  clear hfr hs hfz
  go_enter Try.func4, Try.ntmps4
  go_wp2_with fail
  refine HFR.out.mono ?_
  rintro e w1 ⟨rfl, hb⟩
  dsimp only
  have hb1 := below1 w1 (.cells #[.string s, .string fr] 9)
  have L1 : Hid ((w1.alloc (.cells #[.string s, .string fr] 9)).heap[w1.heap.size]? = some (.cells #[.string s, .string fr] 9 (0, 0)) ∧ Below w.heap.size w (w1.alloc (.cells #[.string s, .string fr] 9))) := ⟨heap_alloc_new w1 _, below_via hb hb1⟩
  clear hb hb1 HFR
  go_upto_region 4 with fail
  generalize w1.alloc (.cells #[.string s, .string fr] 9) = W1 at *
  generalize w1.heap.size = kl at *
  go_loopw [6] (fun u wr => ∃ t : Nat, u = .int .i64 t ∧ t ≤ 2 ∧ Hid (wr.heap[kl]? = some (.cells #[.string s, .string fr] 9 (0, 0)) ∧ Below w.heap.size w wr)) (fun u _ => 2 - (RowKit.intOf u).toNat)
  case atStart => exact ⟨0, rfl, by omega, L1⟩
  case round =>
    clear L1
    obtain ⟨t, rfl, ht, HL⟩ := hrel
    by_cases hlt : t < 2
    · have hltI : (t : Int) < 2 := by omega
      have ht0 : (0 : Int) ≤ (t : Int) := by omega
      have hwt : IntKind.i64.wrap ((t : Int) + 1) = ((t + 1 : Nat) : Int) := by rw [IntKind.wrap_i64]; omega
      obtain ⟨x, hxz, hxc⟩ : ∃ x : ByteArray, x.size ≤ maxLen ∧ (#[Value.string s, Value.string fr])[t]? = some (.string x) := by
        rcases (by omega : t = 0 ∨ t = 1) with rfl | rfl
        · exact ⟨s, HZ.out.1, rfl⟩
        · exact ⟨fr, HZ.out.2, rfl⟩
      obtain ⟨mm, es, er, hes, hR, hP⟩ := both_read x hxz
      have HRD := hideIt hR
      have HPD := hideIt hP
      have HCL : Hid (∀ W : World, W.heap[kl]? = some (.cells #[.string s, .string fr] 9 (0, 0)) → W.cell? ⟨kl, t, none⟩ = some (.string x)) := fun W h => by rw [cell_at h]; exact hxc
      have HSM := hideIt (fun a c a' c' W (h1 : EntsAt W a es) (h2 : EntsAt W a' es) => same_any (withE mm a es.length c) (withE mm a' es.length c') es es W h1 h2 rfl rfl (by omega))
      simp only [sameF_two, sameE_my, Bool.and_self] at HSM
      clear hR hP hxc hxz
      obtain ⟨kind, frm, dst, term, pi, pt, ea, en, ec, commit, ok, mtch, si, st, text⟩ := mm
      simp only [msgC, withE] at HRD HPD HSM
      have cx := HCL.out _ HL.out.1
      have ckz : kl < wr.heap.size := (Array.getElem?_eq_some_iff.1 HL.out.1).1
      go_wp2_with fail
      refine (HRD.out _).mono ?_
      rintro e w2 ⟨a, c, rfl, he, hb⟩
      dsimp only
      clear HRD
      have hb2 := below1 w2 (.cells (msgC ⟨kind, frm, dst, term, pi, pt, a, es.length, c, commit, ok, mtch, si, st, text⟩) 28)
      have L2 : Hid (((w2.alloc (.cells (msgC ⟨kind, frm, dst, term, pi, pt, a, es.length, c, commit, ok, mtch, si, st, text⟩) 28)).heap[kl]? = some (.cells #[.string s, .string fr] 9 (0, 0)) ∧ Below w.heap.size w (w2.alloc (.cells (msgC ⟨kind, frm, dst, term, pi, pt, a, es.length, c, commit, ok, mtch, si, st, text⟩) 28))) ∧ (w2.alloc (.cells (msgC ⟨kind, frm, dst, term, pi, pt, a, es.length, c, commit, ok, mtch, si, st, text⟩) 28)).heap[w2.heap.size]? = some (.cells (msgC ⟨kind, frm, dst, term, pi, pt, a, es.length, c, commit, ok, mtch, si, st, text⟩) 28 (0, 0)) ∧ EntsAt (w2.alloc (.cells (msgC ⟨kind, frm, dst, term, pi, pt, a, es.length, c, commit, ok, mtch, si, st, text⟩) 28)) a es) :=
        ⟨⟨blkK (blkK HL.out.1 hb) hb2, below_via (below_via HL.out.2 hb) hb2⟩, heap_alloc_new w2 _, he.below hb2 (Nat.le_refl _)⟩
      simp only [msgC] at L2
      clear he hb hb2 cx ckz HL
      go_upto_region 8 with fail
      generalize w2.alloc (.cells #[.int .i64 kind, .int .i64 frm, .int .i64 dst, .int .i64 term, .int .i64 pi, .int .i64 pt, .slice a es.length c, .int .i64 commit, .bool ok, .int .i64 mtch, .int .i64 si, .int .i64 st, .string text] 28) = W2 at *
      generalize w2.heap.size = k7 at *
      go_loopw [9] (fun u wr => ∃ q : Nat, u = .int .i64 q ∧ q ≤ 2 ∧ Hid ((wr.heap[kl]? = some (.cells #[.string s, .string fr] 9 (0, 0)) ∧ Below w.heap.size w wr) ∧ wr.heap[k7]? = some (.cells #[.int .i64 kind, .int .i64 frm, .int .i64 dst, .int .i64 term, .int .i64 pi, .int .i64 pt, .slice a es.length c, .int .i64 commit, .bool ok, .int .i64 mtch, .int .i64 si, .int .i64 st, .string text] 28 (0, 0)) ∧ EntsAt wr a es)) (fun u _ => 2 - (RowKit.intOf u).toNat)
      case atStart => exact ⟨0, rfl, by omega, L2⟩
      case round =>
        clear L2
        obtain ⟨q, rfl, hq, HQ⟩ := hrel
        generalize wr = WQ at *
        by_cases hql : q < 2
        · have hqI : (q : Int) < 2 := by omega
          have hwq : IntKind.i64.wrap ((q : Int) + 1) = ((q + 1 : Nat) : Int) := by rw [IntKind.wrap_i64]; omega
          have cx := HCL.out _ HQ.out.1.1
          have ckz : kl < WQ.heap.size := (Array.getElem?_eq_some_iff.1 HQ.out.1.1).1
          go_wp2_with fail
          refine (HPD.out _).mono ?_
          rintro e w3 ⟨a2, c2, rfl, ho, hb⟩
          dsimp only
          have hb3 := below1 w3 (.cells #[.int .i64 kind, .int .i64 frm, .int .i64 dst, .int .i64 term, .int .i64 pi, .int .i64 pt, .slice a2 es.length c2, .int .i64 commit, .bool ok, .int .i64 mtch, .int .i64 si, .int .i64 st, .string text] 28)
          have Y7 := hideIt (blkK (blkK HQ.out.2.1 hb) hb3)
          have Y10 := hideIt (heap_alloc_new w3 (.cells #[.int .i64 kind, .int .i64 frm, .int .i64 dst, .int .i64 term, .int .i64 pi, .int .i64 pt, .slice a2 es.length c2, .int .i64 commit, .bool ok, .int .i64 mtch, .int .i64 si, .int .i64 st, .string text] 28))
          have EA := hideIt ((HQ.out.2.2.below hb (Nat.le_refl _)).below hb3 (Nat.le_refl _))
          have OW := hideIt (own_keep ho hb3)
          have BW := hideIt (below_via hb hb3)
          have hk10 : WQ.heap.size ≤ w3.heap.size := hb.size
          clear hb hb3 ho cx ckz
          go_upto_region 11 with fail
          generalize w3.alloc (.cells #[.int .i64 kind, .int .i64 frm, .int .i64 dst, .int .i64 term, .int .i64 pi, .int .i64 pt, .slice a2 es.length c2, .int .i64 commit, .bool ok, .int .i64 mtch, .int .i64 si, .int .i64 st, .string text] 28) = W3 at *
          generalize w3.heap.size = k10 at *
          obtain ⟨⟨c0, c1, c2', c3, c4, c5, c6, c7, c8, c9, c10, c11, c12⟩, mf, mz⟩ := msg_at (m := ⟨kind, frm, dst, term, pi, pt, a, es.length, c, commit, ok, mtch, si, st, text⟩) Y7.out
          obtain ⟨⟨d0, d1, d2, d3, d4, d5, d6, d7, d8, d9, d10, d11, d12⟩, nf, nz⟩ := msg_at (m := ⟨kind, frm, dst, term, pi, pt, a2, es.length, c2, commit, ok, mtch, si, st, text⟩) Y10.out
          dsimp only at c0 c1 c2' c3 c4 c5 c6 c7 c8 c9 c10 c11 c12 d0 d1 d2 d3 d4 d5 d6 d7 d8 d9 d10 d11 d12
          go_wp2_with fail
          refine (HSM.out _ _ _ _ _ (own_ents OW.out) EA.out).mono ?_
          rintro e w4 ⟨rfl, hb⟩
          dsimp only
          have Z10 := hideIt (blkK Y10.out hb)
          have OX := hideIt (own_keep OW.out hb)
          have BX := hideIt (below_via BW.out hb)
          clear c0 c1 c2' c3 c4 c5 c6 c7 c8 c9 c10 c11 c12 mf mz d0 d1 d2 d3 d4 d5 d6 d7 d8 d9 d10 d11 d12 nf nz hb Y7 Y10 EA OW BW
          go_upto_region 14 with fail
          go_loopw [12] (fun u wx => ∃ k : Nat, u = .int .i64 k ∧ k ≤ es.length ∧ Hid (wx.heap[k10]? = some (.cells #[.int .i64 kind, .int .i64 frm, .int .i64 dst, .int .i64 term, .int .i64 pi, .int .i64 pt, .slice a2 es.length c2, .int .i64 commit, .bool ok, .int .i64 mtch, .int .i64 si, .int .i64 st, .string text] 28 (0, 0)) ∧ (∃ xs, wx.ownsRow WQ.heap.size 41 3 (.slice a2 es.length c2) es.length xs) ∧ Below WQ.heap.size WQ wx)) (fun u _ => es.length - (RowKit.intOf u).toNat)
          case atStart => exact ⟨0, rfl, Nat.zero_le _, ⟨Z10.out, ⟨_, OX.out⟩, BX.out⟩⟩
          case round =>
            clear Z10 OX BX
            obtain ⟨k, rfl, hk, HK⟩ := hrel
            obtain ⟨h10, ⟨xs, hxs⟩, hbl⟩ := HK.out
            obtain ⟨⟨d0, d1, d2, d3, d4, d5, d6, d7, d8, d9, d10, d11, d12⟩, nf, nz⟩ := msg_at (m := ⟨kind, frm, dst, term, pi, pt, a2, es.length, c2, commit, ok, mtch, si, st, text⟩) h10
            dsimp only at d6
            clear d0 d1 d2 d3 d4 d5 d7 d8 d9 d10 d11 d12 nf
            by_cases hkl : k < es.length
            · have hkI : (k : Int) < (es.length : Int) := by omega
              have hk0 : (0 : Int) ≤ (k : Int) := by omega
              have hwk : IntKind.i64.wrap ((k : Int) + 1) = ((k + 1 : Nat) : Int) := by rw [IntKind.wrap_i64]; omega
              obtain ⟨a0, c0, e0, hat⟩ := row_atG hxs 2 (by omega)
              simp only [Value.slice.injEq, true_and] at e0
              obtain ⟨rfl, rfl⟩ := e0
              obtain ⟨g, off, cur, u, ha2, hgB, hg, hgl, e2, f2⟩ := hat k hkl
              have HN : Hid ((wr.setCell ⟨g, off + k * 3 + 2, none⟩ (.string ⟨#[119, 114, 105, 116, 116, 101, 110]⟩)).heap[k10]? = some (.cells #[.int .i64 kind, .int .i64 frm, .int .i64 dst, .int .i64 term, .int .i64 pi, .int .i64 pt, .slice a2 es.length c2, .int .i64 commit, .bool ok, .int .i64 mtch, .int .i64 si, .int .i64 st, .string text] 28 (0, 0)) ∧ (∃ xs, (wr.setCell ⟨g, off + k * 3 + 2, none⟩ (.string ⟨#[119, 114, 105, 116, 116, 101, 110]⟩)).ownsRow WQ.heap.size 41 3 (.slice a2 es.length c2) es.length xs) ∧ Below WQ.heap.size WQ (wr.setCell ⟨g, off + k * 3 + 2, none⟩ (.string ⟨#[119, 114, 105, 116, 116, 101, 110]⟩))) := ⟨ty_set h10 hg (by decide), row_setG hxs hg, belowSet _ hbl hgB⟩
              clear HK hxs hbl hg h10 hat HQ
              subst ha2
              go_wp2
              go_roundw
              case rel => exact ⟨k + 1, by go_num, by omega, HN⟩
              case measure => simp [RowKit.intOf]; omega
            · have hkI : ¬ (k : Int) < (es.length : Int) := by omega
              have HN : Hid ((wr.heap[kl]? = some (.cells #[.string s, .string fr] 9 (0, 0)) ∧ Below w.heap.size w wr) ∧ wr.heap[k7]? = some (.cells #[.int .i64 kind, .int .i64 frm, .int .i64 dst, .int .i64 term, .int .i64 pi, .int .i64 pt, .slice a es.length c, .int .i64 commit, .bool ok, .int .i64 mtch, .int .i64 si, .int .i64 st, .string text] 28 (0, 0)) ∧ EntsAt wr a es) := ⟨⟨blkK HQ.out.1.1 hbl, below_via HQ.out.1.2 hbl⟩, blkK HQ.out.2.1 hbl, HQ.out.2.2.below hbl (Nat.le_refl _)⟩
              clear HK hxs hbl h10 HQ
              go_wp2
              go_roundw
              case rel => exact ⟨q + 1, by go_num, by omega, HN⟩
              case measure => simp [RowKit.intOf]; omega
        · have hqI : ¬ (q : Int) < 2 := by omega
          have HN := hideIt HQ.out.1
          clear HQ
          go_wp2
          go_roundw
          case rel => exact ⟨t + 1, by go_num, by omega, HN⟩
          case measure => simp [RowKit.intOf]; omega
    · have hltI : ¬ (t : Int) < 2 := by omega
      have B9 := hideIt HL.out.2
      clear HL
      go_wp2_with fail
      refine (HLV.out _).mono ?_
      rintro e w7 ⟨rfl, hb⟩
      dsimp only
      have B10 := hideIt (below_via B9.out hb)
      clear hb B9 HLV
      go_wp2
      go_ret
      exact ⟨rfl, B10.out⟩
end Go.Proofs.Ytagfolckodpioaa.K2
namespace Go.Proofs.Ytagfolckodpioaa.K2
end Go.Proofs.Ytagfolckodpioaa.K2
