/- What a book holds; an order taken out: plain data. -/
import Derived.Test.YtgnmghcdfihmgaaPlN
import Derived.Test.YtgnmghcdfihmgaaCaP
namespace Go.Proofs.Ytgnmghcdfihmgaa
open Go.RowKit
set_option linter.all false
/-- What is owed of an asset in all; what a side holds. -/
def sumA (a : Int) (l : List OweV) : Int := (l.map (fun y => if y.asset = a then y.n else 0)).sum
def sumP (l : List OrdV) : Int := (l.map (fun o => o.price * o.left)).sum
def sumQ (l : List OrdV) : Int := (l.map (fun o => o.left)).sum
theorem sum_perm {l k : List Int} (h : l.Perm k) : l.sum = k.sum := by
  induction h with
  | nil => rfl
  | cons x _ ih => simp [ih]
  | swap x y l => simp only [List.sum_cons]; omega
  | trans _ _ h1 h2 => exact h1.trans h2
theorem sumA_modify (a n : Int) : ∀ (l : List OweV) (i : Nat) (h : i < l.length), sumA a (l.modify i (fun y => ⟨y.acc, y.asset, y.n + n⟩)) = sumA a l + (if l[i].asset = a then n else 0)
  | [], i, h => absurd h (by simp)
  | y :: l, 0, h => by
    rw [List.modify_zero_cons]
    simp only [sumA, List.map_cons, List.sum_cons, List.getElem_cons_zero]
    split <;> omega
  | y :: l, i + 1, h => by
    rw [List.modify_succ_cons]
    have ih := sumA_modify a n l i (by simpa using h)
    simp only [sumA, List.map_cons, List.sum_cons, List.getElem_cons_succ] at ih ⊢
    omega
theorem sumA_owe (a acc asset n : Int) (l : List OweV) : sumA a (oweL acc asset n l) = sumA a l + (if asset = a then n else 0) := by
  unfold oweL
  split
  · rename_i i hi
    rw [List.findIdx?_eq_some_iff_getElem] at hi
    obtain ⟨h1, h2, _⟩ := hi
    rw [sumA_modify a n l i h1]
    unfold oweP at h2
    simp only [Bool.and_eq_true, decide_eq_true_eq] at h2
    rw [h2.2]
  · have := sum_perm ((laid_perm (r := owB) (x := (⟨acc, asset, n⟩ : OweV)) (l := l)).map (fun y => if y.asset = a then y.n else 0))
    unfold sumA
    rw [this]
    simp only [List.map_cons, List.sum_cons]
    omega
theorem sumP_laid (s : Int) (x : OrdV) (l : List OrdV) : sumP (laidL (ahB s) x l) = sumP l + x.price * x.left := by
  have := sum_perm ((laid_perm (r := ahB s) (x := x) (l := l)).map (fun o => o.price * o.left))
  unfold sumP
  rw [this]
  simp only [List.map_cons, List.sum_cons]
  omega
theorem sumQ_laid (s : Int) (x : OrdV) (l : List OrdV) : sumQ (laidL (ahB s) x l) = sumQ l + x.left := by
  have := sum_perm ((laid_perm (r := ahB s) (x := x) (l := l)).map (fun o => o.left))
  unfold sumQ
  rw [this]
  simp only [List.map_cons, List.sum_cons]
  omega
/-- One trade: of a buyer. -/
theorem set_buy (x r : OrdV) (n : Int) (l : List OweV) (h : r.price ≤ x.price) : sumA 0 (setO 1 x r n l) = sumA 0 l + x.price * n ∧ sumA 1 (setO 1 x r n l) = sumA 1 l + n := by
  have hB : setB 1 x r = x := rfl
  have hS : setS 1 x r = r := rfl
  unfold setO
  rw [hB, hS]
  simp only
  split
  · rw [sumA_owe, sumA_owe, sumA_owe, sumA_owe, sumA_owe, sumA_owe]
    simp only [Int.sub_mul]
    constructor <;> (try simp) <;> omega
  · have : r.price = x.price := by omega
    rw [sumA_owe, sumA_owe, sumA_owe, sumA_owe, this]
    constructor <;> simp
theorem set_sell (x r : OrdV) (n : Int) (l : List OweV) : sumA 0 (setO 2 x r n l) = sumA 0 l + r.price * n ∧ sumA 1 (setO 2 x r n l) = sumA 1 l + n := by
  have hB : setB 2 x r = r := rfl
  have hS : setS 2 x r = x := rfl
  unfold setO
  rw [hB, hS]
  simp only
  rw [if_neg (by omega), sumA_owe, sumA_owe, sumA_owe, sumA_owe]
  constructor <;> simp
theorem tr_buy (x : OrdV) : ∀ (T : List OrdV) (left : Int) (ow : List OweV) (F : List FillV), sumA 0 (trL 1 x T left ow F).2.2.1 + x.price * (trL 1 x T left ow F).2.1 = sumA 0 ow + x.price * left ∧ sumQ (trL 1 x T left ow F).1 + sumA 1 (trL 1 x T left ow F).2.2.1 = sumQ T + sumA 1 ow
  | [], left, ow, F => ⟨rfl, rfl⟩
  | r :: rs, left, ow, F => by
    unfold trL
    by_cases hm : 0 < left ∧ meetB 1 x.price r.price = true
    · rw [if_pos hm]
      have hp : r.price ≤ x.price := by simpa [meetB] using hm.2
      have hs := set_buy x r (min left r.left) ow hp
      by_cases h0 : r.left - min left r.left = 0
      · rw [if_pos h0]
        have ih := tr_buy x rs (left - min left r.left) (setO 1 x r (min left r.left) ow) (F ++ [setF 1 x r (min left r.left)])
        rw [hs.1, hs.2, Int.mul_sub] at ih
        refine ⟨by omega, ?_⟩
        simp only [sumQ, List.map_cons, List.sum_cons] at ih ⊢
        omega
      · rw [if_neg h0]
        simp only
        rw [hs.1, hs.2, Int.mul_sub]
        refine ⟨by omega, ?_⟩
        simp only [sumQ, List.map_cons, List.sum_cons]
        omega
    · rw [if_neg hm]
      exact ⟨rfl, rfl⟩
theorem tr_sell (x : OrdV) : ∀ (T : List OrdV) (left : Int) (ow : List OweV) (F : List FillV), sumP (trL 2 x T left ow F).1 + sumA 0 (trL 2 x T left ow F).2.2.1 = sumP T + sumA 0 ow ∧ (trL 2 x T left ow F).2.1 + sumA 1 (trL 2 x T left ow F).2.2.1 = left + sumA 1 ow
  | [], left, ow, F => ⟨rfl, rfl⟩
  | r :: rs, left, ow, F => by
    unfold trL
    by_cases hm : 0 < left ∧ meetB 2 x.price r.price = true
    · rw [if_pos hm]
      have hs := set_sell x r (min left r.left) ow
      by_cases h0 : r.left - min left r.left = 0
      · rw [if_pos h0]
        have ih := tr_sell x rs (left - min left r.left) (setO 2 x r (min left r.left) ow) (F ++ [setF 2 x r (min left r.left)])
        rw [hs.1, hs.2] at ih
        have e : r.left = min left r.left := by omega
        refine ⟨?_, by omega⟩
        have e2 : r.price * r.left = r.price * min left r.left := by rw [← e]
        simp only [sumP, List.map_cons, List.sum_cons] at ih ⊢
        omega
      · rw [if_neg h0]
        simp only
        rw [hs.1, hs.2]
        refine ⟨?_, by omega⟩
        simp only [sumP, List.map_cons, List.sum_cons, Int.mul_sub]
        omega
    · rw [if_neg hm]
      exact ⟨rfl, rfl⟩
def holM (L : LaneV) : Int := sumP L.bids + sumA 0 L.owed
def holG (L : LaneV) : Int := sumQ L.asks + sumA 1 L.owed
/-- What an order brings with it, a book holds more. -/
theorem hold_place (L : LaneV) (s acc price n : Int) (now : Bool) (hs : s = 1 ∨ s = 2) (hl : 0 ≤ (plT L s ⟨L.next, acc, price, n⟩).2.1) :
    let M := plR (plL L s (plT L s ⟨L.next, acc, price, n⟩).1 (plT L s ⟨L.next, acc, price, n⟩).2.2.1) s ⟨L.next, acc, price, (plT L s ⟨L.next, acc, price, n⟩).2.1⟩ now
    holM M = holM L + (if s = 1 then price * n else 0) ∧ holG M = holG L + (if s = 1 then 0 else n) := by
  intro M
  have hT : (s = 1 → sumA 0 (plT L s ⟨L.next, acc, price, n⟩).2.2.1 + price * (plT L s ⟨L.next, acc, price, n⟩).2.1 = sumA 0 L.owed + price * n ∧ sumQ (plT L s ⟨L.next, acc, price, n⟩).1 + sumA 1 (plT L s ⟨L.next, acc, price, n⟩).2.2.1 = sumQ L.asks + sumA 1 L.owed) ∧ (s = 2 → sumP (plT L s ⟨L.next, acc, price, n⟩).1 + sumA 0 (plT L s ⟨L.next, acc, price, n⟩).2.2.1 = sumP L.bids + sumA 0 L.owed ∧ (plT L s ⟨L.next, acc, price, n⟩).2.1 + sumA 1 (plT L s ⟨L.next, acc, price, n⟩).2.2.1 = n + sumA 1 L.owed) := by
    constructor
    · rintro rfl
      unfold plT
      cases L.call
      · exact tr_buy ⟨L.next, acc, price, n⟩ L.asks n L.owed []
      · exact ⟨rfl, rfl⟩
    · rintro rfl
      unfold plT
      cases L.call
      · exact tr_sell ⟨L.next, acc, price, n⟩ L.bids n L.owed []
      · exact ⟨rfl, rfl⟩
  show holM M = _ ∧ holG M = _
  have hM : M = plR (plL L s (plT L s ⟨L.next, acc, price, n⟩).1 (plT L s ⟨L.next, acc, price, n⟩).2.2.1) s ⟨L.next, acc, price, (plT L s ⟨L.next, acc, price, n⟩).2.1⟩ now := rfl
  rw [hM]
  clear hM
  clear_value M
  generalize plT L s ⟨L.next, acc, price, n⟩ = X at *
  obtain ⟨T, left, ow, F⟩ := X
  dsimp only at *
  rcases hs with rfl | rfl
  · have h := hT.1 rfl
    simp only [plL, plR, holM, holG, if_true]
    by_cases h0 : 0 < left
    · rw [if_pos h0]
      cases now
      · simp only [Bool.false_eq_true, if_false, sumP_laid]
        omega
      · simp only [if_true, brA, brN, sumA_owe]
        constructor <;> (try simp) <;> omega
    · rw [if_neg h0]
      have : left = 0 := by omega
      subst this
      simp only [Int.mul_zero] at h
      simp only
      omega
  · have h := hT.2 rfl
    simp only [plL, plR, holM, holG, show ¬ (2 : Int) = 1 by omega, if_false]
    by_cases h0 : 0 < left
    · rw [if_pos h0]
      cases now
      · simp only [Bool.false_eq_true, if_false, sumQ_laid]
        omega
      · simp only [if_true, brA, brN, sumA_owe]
        constructor <;> (try simp) <;> omega
    · rw [if_neg h0]
      have : left = 0 := by omega
      subst this
      simp only
      omega
theorem sumP_erase : ∀ (l : List OrdV) (i : Nat) (h : i < l.length), sumP (l.eraseIdx i) + l[i].price * l[i].left = sumP l
  | [], i, h => absurd h (by simp)
  | o :: l, 0, h => by
    simp only [sumP, List.eraseIdx_cons_zero, List.map_cons, List.sum_cons, List.getElem_cons_zero]
    omega
  | o :: l, i + 1, h => by
    have ih := sumP_erase l i (by simpa using h)
    simp only [sumP, List.eraseIdx_cons_succ, List.map_cons, List.sum_cons, List.getElem_cons_succ] at ih ⊢
    omega
theorem sumQ_erase : ∀ (l : List OrdV) (i : Nat) (h : i < l.length), sumQ (l.eraseIdx i) + l[i].left = sumQ l
  | [], i, h => absurd h (by simp)
  | o :: l, 0, h => by
    simp only [sumQ, List.eraseIdx_cons_zero, List.map_cons, List.sum_cons, List.getElem_cons_zero]
    omega
  | o :: l, i + 1, h => by
    have ih := sumQ_erase l i (by simpa using h)
    simp only [sumQ, List.eraseIdx_cons_succ, List.map_cons, List.sum_cons, List.getElem_cons_succ] at ih ⊢
    omega
theorem hold_can {L M : LaneV} {acc id : Int} {o : OrdV} (h : canF L acc id = some (M, o)) : holM M = holM L ∧ holG M = holG L := by
  unfold canF at h
  split at h
  · rename_i i hi
    rw [List.findIdx?_eq_some_iff_getElem] at hi
    obtain ⟨h1, _, _⟩ := hi
    simp only [Option.some.injEq, Prod.mk.injEq] at h
    obtain ⟨rfl, rfl⟩ := h
    have e : L.bids.getD i ⟨0, 0, 0, 0⟩ = L.bids[i] := by simp [List.getD_eq_getElem?_getD, List.getElem?_eq_getElem h1]
    have := sumP_erase L.bids i h1
    simp only [holM, holG, sumA_owe, e, brN]
    constructor <;> (try simp) <;> omega
  · split at h
    · rename_i i hi
      rw [List.findIdx?_eq_some_iff_getElem] at hi
      obtain ⟨h1, _, _⟩ := hi
      simp only [Option.some.injEq, Prod.mk.injEq] at h
      obtain ⟨rfl, rfl⟩ := h
      have e : L.asks.getD i ⟨0, 0, 0, 0⟩ = L.asks[i] := by simp [List.getD_eq_getElem?_getD, List.getElem?_eq_getElem h1]
      have := sumQ_erase L.asks i h1
      simp only [holM, holG, sumA_owe, e, brN]
      constructor <;> (try simp) <;> omega
    · cases h
/-- Trades come behind one another. -/
theorem tr_pre (s : Int) (x : OrdV) : ∀ (T : List OrdV) (left : Int) (ow : List OweV) (F : List FillV), ∃ G, (trL s x T left ow F).2.2.2 = F ++ G
  | [], left, ow, F => ⟨[], by simp [trL]⟩
  | r :: rs, left, ow, F => by
    unfold trL
    split
    · split
      · obtain ⟨G, hG⟩ := tr_pre s x rs (left - min left r.left) (setO s x r (min left r.left) ow) (F ++ [setF s x r (min left r.left)])
        exact ⟨setF s x r (min left r.left) :: G, by rw [hG]; simp⟩
      · exact ⟨_, rfl⟩
    · exact ⟨[], by simp⟩
theorem tr_quiet {s : Int} {x : OrdV} {T : List OrdV} {left : Int} {ow : List OweV} (h : (trL s x T left ow []).2.2.2 = []) : trL s x T left ow [] = (T, left, ow, []) := by
  cases T with
  | nil => rfl
  | cons r rs =>
    unfold trL at h ⊢
    split
    · rename_i hm
      rw [if_pos hm] at h
      split at h
      · obtain ⟨G, hG⟩ := tr_pre s x rs (left - min left r.left) (setO s x r (min left r.left) ow) ([] ++ [setF s x r (min left r.left)])
        rw [hG] at h
        simp at h
      · simp at h
    · rfl
/-- Whoever is no greater than one that rests does not come behind it. -/
theorem tr_keep (s : Int) (x o : OrdV) (R : List OrdV) : ∀ (A : List OrdV) (left : Int) (ow : List OweV) (F : List FillV), (∀ r ∈ A, 1 ≤ r.left) → 1 ≤ o.left → left ≤ o.left → ∃ P, (trL s x (A ++ o :: R) left ow F).1 = P ++ R
  | [], left, ow, F, _, h1, h => by
    rw [List.nil_append]
    unfold trL
    split
    · rename_i hm
      split
      · rename_i h0
        rw [trL_stop (by omega)]
        exact ⟨[], rfl⟩
      · exact ⟨[_], rfl⟩
    · exact ⟨[o], rfl⟩
  | r :: A, left, ow, F, hA, h1, h => by
    rw [List.cons_append]
    unfold trL
    have hr := hA r (by simp)
    split
    · rename_i hm
      split
      · exact tr_keep s x o R A _ _ _ (fun q hq => hA q (by simp [hq])) h1 (by omega)
      · exact ⟨⟨r.id, r.acc, r.price, r.left - min left r.left⟩ :: (A ++ [o]), by simp⟩
    · exact ⟨r :: (A ++ [o]), by simp⟩
theorem ah_trans {s : Int} (hs : s = 1 ∨ s = 2) {a b c : OrdV} (h : ahB s a b = true) (k : ahB s b c = true) : ahB s a c = true := by
  unfold ahB at *
  rcases hs with rfl | rfl
  · by_cases h1 : a.price = b.price
    · rw [if_pos h1] at h
      by_cases h2 : b.price = c.price
      · rw [if_pos h2] at k
        rw [if_pos (h1.trans h2)]
        simp only [decide_eq_true_eq] at *
        omega
      · rw [if_neg h2] at k
        rw [if_neg (by omega)]
        simp at k ⊢
        omega
    · rw [if_neg h1] at h
      by_cases h2 : b.price = c.price
      · rw [if_neg (by omega)]
        simp at h ⊢
        omega
      · rw [if_neg h2] at k
        simp at h k
        rw [if_neg (by omega)]
        simp
        omega
  · by_cases h1 : a.price = b.price
    · rw [if_pos h1] at h
      by_cases h2 : b.price = c.price
      · rw [if_pos h2] at k
        rw [if_pos (h1.trans h2)]
        simp only [decide_eq_true_eq] at *
        omega
      · rw [if_neg h2] at k
        rw [if_neg (by omega)]
        simp at k ⊢
        omega
    · rw [if_neg h1] at h
      by_cases h2 : b.price = c.price
      · rw [if_neg (by omega)]
        simp at h ⊢
        omega
      · rw [if_neg h2] at k
        simp at h k
        rw [if_neg (by omega)]
        simp
        omega
/-- Where one comes in, all that were ahead of one that is ahead of it stand. -/
theorem laid_split {s : Int} (hs : s = 1 ∨ s = 2) {x o : OrdV} (hxo : ahB s o x = true) : ∀ (A B : List OrdV), (∀ r ∈ A, ahB s r o = true) → ∃ B1 B2, laidL (ahB s) x (A ++ o :: B) = A ++ o :: (B1 ++ x :: B2)
  | [], B, _ => by
    unfold laidL
    rw [List.nil_append, List.takeWhile_cons, if_pos hxo, List.dropWhile_cons, if_pos hxo]
    exact ⟨_, _, rfl⟩
  | r :: A, B, h => by
    obtain ⟨B1, B2, e⟩ := laid_split hs hxo A B (fun q hq => h q (by simp [hq]))
    have hr : ahB s r x = true := ah_trans hs (h r (by simp)) hxo
    refine ⟨B1, B2, ?_⟩
    unfold laidL at e ⊢
    rw [List.cons_append, List.takeWhile_cons, if_pos hr, List.dropWhile_cons, if_pos hr, List.cons_append, e]
    rfl
theorem laid_ahead {s : Int} {x : OrdV} (l : List OrdV) : ∃ A B, laidL (ahB s) x l = A ++ x :: B ∧ ∀ r ∈ A, ahB s r x = true :=
  ⟨_, _, rfl, fun r hr => by
    have := List.all_takeWhile (p := (ahB s · x)) (l := l)
    exact List.all_eq_true.1 this r hr⟩
end Go.Proofs.Ytgnmghcdfihmgaa
