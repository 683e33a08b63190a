/- The statement on orders and their trades: what lies in memory. -/
import Derived.Test.YtbpnnhalajbjnaaPlN
import Derived.Test.YtbpnnhalajbjnaaCaP
import Derived.Test.YtbpnnhalajbjnaaCan
import Derived.Test.YtbpnnhalajbjnaaNetW
import Derived.Test.YtbpnnhalajbjnaaLive
import Derived.BigQuiet
import Derived.Deep.CutRange
import Derived.RegionTactic
import Derived.BigRegion
import Derived.Deep.QuietTactic
import Derived.Test.YtbpnnhalajbjnaaTake
import Derived.Test.YtbpnnhalajbjnaaRCh
import Derived.Deep.RegionLaw
import Derived.Test.YtbpnnhalajbjnaaSml
import Derived.Test.YtbpnnhalajbjnaaPlX
namespace Go.Proofs.Ytbpnnhalajbjnaa
open Go.RowKit
set_option linter.all false
/-- What is owed of an asset in all; what a side holds. -/
def sumA (a : Int) (l : List OweV) : Int := (l.map (fun y => if y.asset = a then y.n else 0)).sum
def sumP (l : List OrdV) : Int := (l.map (fun o => o.price * o.left)).sum
def sumQ (l : List OrdV) : Int := (l.map (fun o => o.left)).sum
theorem sum_perm {l k : List Int} (h : l.Perm k) : l.sum = k.sum := by
  induction h with
  | nil => rfl
  | cons x _ ih => simp [ih]
  | swap x y l => simp only [List.sum_cons]; omega
  | trans _ _ h1 h2 => exact h1.trans h2
theorem sumA_modify (a n : Int) : ∀ (l : List OweV) (i : Nat) (h : i < l.length), sumA a (l.modify i (fun y => ⟨y.acc, y.asset, y.n + n⟩)) = sumA a l + (if l[i].asset = a then n else 0)
  | [], i, h => absurd h (by simp)
  | y :: l, 0, h => by
    rw [List.modify_zero_cons]
    simp only [sumA, List.map_cons, List.sum_cons, List.getElem_cons_zero]
    split <;> omega
  | y :: l, i + 1, h => by
    rw [List.modify_succ_cons]
    have ih := sumA_modify a n l i (by simpa using h)
    simp only [sumA, List.map_cons, List.sum_cons, List.getElem_cons_succ] at ih ⊢
    omega
theorem sumA_owe (a acc asset n : Int) (l : List OweV) : sumA a (oweL acc asset n l) = sumA a l + (if asset = a then n else 0) := by
  unfold oweL
  split
  · rename_i i hi
    rw [List.findIdx?_eq_some_iff_getElem] at hi
    obtain ⟨h1, h2, _⟩ := hi
    rw [sumA_modify a n l i h1]
    unfold oweP at h2
    simp only [Bool.and_eq_true, decide_eq_true_eq] at h2
    rw [h2.2]
  · have := sum_perm ((laid_perm (r := owB) (x := (⟨acc, asset, n⟩ : OweV)) (l := l)).map (fun y => if y.asset = a then y.n else 0))
    unfold sumA
    rw [this]
    simp only [List.map_cons, List.sum_cons]
    omega
theorem sumP_laid (s : Int) (x : OrdV) (l : List OrdV) : sumP (laidL (ahB s) x l) = sumP l + x.price * x.left := by
  have := sum_perm ((laid_perm (r := ahB s) (x := x) (l := l)).map (fun o => o.price * o.left))
  unfold sumP
  rw [this]
  simp only [List.map_cons, List.sum_cons]
  omega
theorem sumQ_laid (s : Int) (x : OrdV) (l : List OrdV) : sumQ (laidL (ahB s) x l) = sumQ l + x.left := by
  have := sum_perm ((laid_perm (r := ahB s) (x := x) (l := l)).map (fun o => o.left))
  unfold sumQ
  rw [this]
  simp only [List.map_cons, List.sum_cons]
  omega
/-- One trade: of a buyer. -/
theorem set_buy (x r : OrdV) (n : Int) (l : List OweV) (h : r.price ≤ x.price) : sumA 0 (setO 1 x r n l) = sumA 0 l + x.price * n ∧ sumA 1 (setO 1 x r n l) = sumA 1 l + n := by
  have hB : setB 1 x r = x := rfl
  have hS : setS 1 x r = r := rfl
  unfold setO
  rw [hB, hS]
  simp only
  split
  · rw [sumA_owe, sumA_owe, sumA_owe, sumA_owe, sumA_owe, sumA_owe]
    simp only [Int.sub_mul]
    constructor <;> (try simp) <;> omega
  · have : r.price = x.price := by omega
    rw [sumA_owe, sumA_owe, sumA_owe, sumA_owe, this]
    constructor <;> simp
theorem set_sell (x r : OrdV) (n : Int) (l : List OweV) : sumA 0 (setO 2 x r n l) = sumA 0 l + r.price * n ∧ sumA 1 (setO 2 x r n l) = sumA 1 l + n := by
  have hB : setB 2 x r = r := rfl
  have hS : setS 2 x r = x := rfl
  unfold setO
  rw [hB, hS]
  simp only
  rw [if_neg (by omega), sumA_owe, sumA_owe, sumA_owe, sumA_owe]
  constructor <;> simp
theorem tr_buy (x : OrdV) : ∀ (T : List OrdV) (left : Int) (ow : List OweV) (F : List FillV), sumA 0 (trL 1 x T left ow F).2.2.1 + x.price * (trL 1 x T left ow F).2.1 = sumA 0 ow + x.price * left ∧ sumQ (trL 1 x T left ow F).1 + sumA 1 (trL 1 x T left ow F).2.2.1 = sumQ T + sumA 1 ow
  | [], left, ow, F => ⟨rfl, rfl⟩
  | r :: rs, left, ow, F => by
    unfold trL
    by_cases hm : 0 < left ∧ meetB 1 x.price r.price = true
    · rw [if_pos hm]
      have hp : r.price ≤ x.price := by simpa [meetB] using hm.2
      have hs := set_buy x r (min left r.left) ow hp
      by_cases h0 : r.left - min left r.left = 0
      · rw [if_pos h0]
        have ih := tr_buy x rs (left - min left r.left) (setO 1 x r (min left r.left) ow) (F ++ [setF 1 x r (min left r.left)])
        rw [hs.1, hs.2, Int.mul_sub] at ih
        refine ⟨by omega, ?_⟩
        simp only [sumQ, List.map_cons, List.sum_cons] at ih ⊢
        omega
      · rw [if_neg h0]
        simp only
        rw [hs.1, hs.2, Int.mul_sub]
        refine ⟨by omega, ?_⟩
        simp only [sumQ, List.map_cons, List.sum_cons]
        omega
    · rw [if_neg hm]
      exact ⟨rfl, rfl⟩
theorem tr_sell (x : OrdV) : ∀ (T : List OrdV) (left : Int) (ow : List OweV) (F : List FillV), sumP (trL 2 x T left ow F).1 + sumA 0 (trL 2 x T left ow F).2.2.1 = sumP T + sumA 0 ow ∧ (trL 2 x T left ow F).2.1 + sumA 1 (trL 2 x T left ow F).2.2.1 = left + sumA 1 ow
  | [], left, ow, F => ⟨rfl, rfl⟩
  | r :: rs, left, ow, F => by
    unfold trL
    by_cases hm : 0 < left ∧ meetB 2 x.price r.price = true
    · rw [if_pos hm]
      have hs := set_sell x r (min left r.left) ow
      by_cases h0 : r.left - min left r.left = 0
      · rw [if_pos h0]
        have ih := tr_sell x rs (left - min left r.left) (setO 2 x r (min left r.left) ow) (F ++ [setF 2 x r (min left r.left)])
        rw [hs.1, hs.2] at ih
        have e : r.left = min left r.left := by omega
        refine ⟨?_, by omega⟩
        have e2 : r.price * r.left = r.price * min left r.left := by rw [← e]
        simp only [sumP, List.map_cons, List.sum_cons] at ih ⊢
        omega
      · rw [if_neg h0]
        simp only
        rw [hs.1, hs.2]
        refine ⟨?_, by omega⟩
        simp only [sumP, List.map_cons, List.sum_cons, Int.mul_sub]
        omega
    · rw [if_neg hm]
      exact ⟨rfl, rfl⟩
def holM (L : LaneV) : Int := sumP L.bids + sumA 0 L.owed
def holG (L : LaneV) : Int := sumQ L.asks + sumA 1 L.owed
/-- What an order brings with it, a book holds more. -/
theorem hold_place (L : LaneV) (s acc price n : Int) (now : Bool) (hs : s = 1 ∨ s = 2) (hl : 0 ≤ (plT L s ⟨L.next, acc, price, n⟩).2.1) :
    let M := plR (plL L s (plT L s ⟨L.next, acc, price, n⟩).1 (plT L s ⟨L.next, acc, price, n⟩).2.2.1) s ⟨L.next, acc, price, (plT L s ⟨L.next, acc, price, n⟩).2.1⟩ now
    holM M = holM L + (if s = 1 then price * n else 0) ∧ holG M = holG L + (if s = 1 then 0 else n) := by
  intro M
  have hT : (s = 1 → sumA 0 (plT L s ⟨L.next, acc, price, n⟩).2.2.1 + price * (plT L s ⟨L.next, acc, price, n⟩).2.1 = sumA 0 L.owed + price * n ∧ sumQ (plT L s ⟨L.next, acc, price, n⟩).1 + sumA 1 (plT L s ⟨L.next, acc, price, n⟩).2.2.1 = sumQ L.asks + sumA 1 L.owed) ∧ (s = 2 → sumP (plT L s ⟨L.next, acc, price, n⟩).1 + sumA 0 (plT L s ⟨L.next, acc, price, n⟩).2.2.1 = sumP L.bids + sumA 0 L.owed ∧ (plT L s ⟨L.next, acc, price, n⟩).2.1 + sumA 1 (plT L s ⟨L.next, acc, price, n⟩).2.2.1 = n + sumA 1 L.owed) := by
    constructor
    · rintro rfl
      unfold plT
      cases L.call
      · exact tr_buy ⟨L.next, acc, price, n⟩ L.asks n L.owed []
      · exact ⟨rfl, rfl⟩
    · rintro rfl
      unfold plT
      cases L.call
      · exact tr_sell ⟨L.next, acc, price, n⟩ L.bids n L.owed []
      · exact ⟨rfl, rfl⟩
  show holM M = _ ∧ holG M = _
  have hM : M = plR (plL L s (plT L s ⟨L.next, acc, price, n⟩).1 (plT L s ⟨L.next, acc, price, n⟩).2.2.1) s ⟨L.next, acc, price, (plT L s ⟨L.next, acc, price, n⟩).2.1⟩ now := rfl
  rw [hM]
  clear hM
  clear_value M
  generalize plT L s ⟨L.next, acc, price, n⟩ = X at *
  obtain ⟨T, left, ow, F⟩ := X
  dsimp only at *
  rcases hs with rfl | rfl
  · have h := hT.1 rfl
    simp only [plL, plR, holM, holG, if_true]
    by_cases h0 : 0 < left
    · rw [if_pos h0]
      cases now
      · simp only [Bool.false_eq_true, if_false, sumP_laid]
        omega
      · simp only [if_true, brA, brN, sumA_owe]
        constructor <;> (try simp) <;> omega
    · rw [if_neg h0]
      have : left = 0 := by omega
      subst this
      simp only [Int.mul_zero] at h
      simp only
      omega
  · have h := hT.2 rfl
    simp only [plL, plR, holM, holG, show ¬ (2 : Int) = 1 by omega, if_false]
    by_cases h0 : 0 < left
    · rw [if_pos h0]
      cases now
      · simp only [Bool.false_eq_true, if_false, sumQ_laid]
        omega
      · simp only [if_true, brA, brN, sumA_owe]
        constructor <;> (try simp) <;> omega
    · rw [if_neg h0]
      have : left = 0 := by omega
      subst this
      simp only
      omega
theorem sumP_erase : ∀ (l : List OrdV) (i : Nat) (h : i < l.length), sumP (l.eraseIdx i) + l[i].price * l[i].left = sumP l
  | [], i, h => absurd h (by simp)
  | o :: l, 0, h => by
    simp only [sumP, List.eraseIdx_cons_zero, List.map_cons, List.sum_cons, List.getElem_cons_zero]
    omega
  | o :: l, i + 1, h => by
    have ih := sumP_erase l i (by simpa using h)
    simp only [sumP, List.eraseIdx_cons_succ, List.map_cons, List.sum_cons, List.getElem_cons_succ] at ih ⊢
    omega
theorem sumQ_erase : ∀ (l : List OrdV) (i : Nat) (h : i < l.length), sumQ (l.eraseIdx i) + l[i].left = sumQ l
  | [], i, h => absurd h (by simp)
  | o :: l, 0, h => by
    simp only [sumQ, List.eraseIdx_cons_zero, List.map_cons, List.sum_cons, List.getElem_cons_zero]
    omega
  | o :: l, i + 1, h => by
    have ih := sumQ_erase l i (by simpa using h)
    simp only [sumQ, List.eraseIdx_cons_succ, List.map_cons, List.sum_cons, List.getElem_cons_succ] at ih ⊢
    omega
theorem hold_can {L M : LaneV} {acc id : Int} {o : OrdV} (h : canF L acc id = some (M, o)) : holM M = holM L ∧ holG M = holG L := by
  unfold canF at h
  split at h
  · rename_i i hi
    rw [List.findIdx?_eq_some_iff_getElem] at hi
    obtain ⟨h1, _, _⟩ := hi
    simp only [Option.some.injEq, Prod.mk.injEq] at h
    obtain ⟨rfl, rfl⟩ := h
    have e : L.bids.getD i ⟨0, 0, 0, 0⟩ = L.bids[i] := by simp [List.getD_eq_getElem?_getD, List.getElem?_eq_getElem h1]
    have := sumP_erase L.bids i h1
    simp only [holM, holG, sumA_owe, e, brN]
    constructor <;> (try simp) <;> omega
  · split at h
    · rename_i i hi
      rw [List.findIdx?_eq_some_iff_getElem] at hi
      obtain ⟨h1, _, _⟩ := hi
      simp only [Option.some.injEq, Prod.mk.injEq] at h
      obtain ⟨rfl, rfl⟩ := h
      have e : L.asks.getD i ⟨0, 0, 0, 0⟩ = L.asks[i] := by simp [List.getD_eq_getElem?_getD, List.getElem?_eq_getElem h1]
      have := sumQ_erase L.asks i h1
      simp only [holM, holG, sumA_owe, e, brN]
      constructor <;> (try simp) <;> omega
    · cases h
/-- Trades come behind one another. -/
theorem tr_pre (s : Int) (x : OrdV) : ∀ (T : List OrdV) (left : Int) (ow : List OweV) (F : List FillV), ∃ G, (trL s x T left ow F).2.2.2 = F ++ G
  | [], left, ow, F => ⟨[], by simp [trL]⟩
  | r :: rs, left, ow, F => by
    unfold trL
    split
    · split
      · obtain ⟨G, hG⟩ := tr_pre s x rs (left - min left r.left) (setO s x r (min left r.left) ow) (F ++ [setF s x r (min left r.left)])
        exact ⟨setF s x r (min left r.left) :: G, by rw [hG]; simp⟩
      · exact ⟨_, rfl⟩
    · exact ⟨[], by simp⟩
theorem tr_quiet {s : Int} {x : OrdV} {T : List OrdV} {left : Int} {ow : List OweV} (h : (trL s x T left ow []).2.2.2 = []) : trL s x T left ow [] = (T, left, ow, []) := by
  cases T with
  | nil => rfl
  | cons r rs =>
    unfold trL at h ⊢
    split
    · rename_i hm
      rw [if_pos hm] at h
      split at h
      · obtain ⟨G, hG⟩ := tr_pre s x rs (left - min left r.left) (setO s x r (min left r.left) ow) ([] ++ [setF s x r (min left r.left)])
        rw [hG] at h
        simp at h
      · simp at h
    · rfl
/-- Whoever is no greater than one that rests does not come behind it. -/
theorem tr_keep (s : Int) (x o : OrdV) (R : List OrdV) : ∀ (A : List OrdV) (left : Int) (ow : List OweV) (F : List FillV), (∀ r ∈ A, 1 ≤ r.left) → 1 ≤ o.left → left ≤ o.left → ∃ P, (trL s x (A ++ o :: R) left ow F).1 = P ++ R
  | [], left, ow, F, _, h1, h => by
    rw [List.nil_append]
    unfold trL
    split
    · rename_i hm
      split
      · rename_i h0
        rw [trL_stop (by omega)]
        exact ⟨[], rfl⟩
      · exact ⟨[_], rfl⟩
    · exact ⟨[o], rfl⟩
  | r :: A, left, ow, F, hA, h1, h => by
    rw [List.cons_append]
    unfold trL
    have hr := hA r (by simp)
    split
    · rename_i hm
      split
      · exact tr_keep s x o R A _ _ _ (fun q hq => hA q (by simp [hq])) h1 (by omega)
      · exact ⟨⟨r.id, r.acc, r.price, r.left - min left r.left⟩ :: (A ++ [o]), by simp⟩
    · exact ⟨r :: (A ++ [o]), by simp⟩
theorem ah_trans {s : Int} (hs : s = 1 ∨ s = 2) {a b c : OrdV} (h : ahB s a b = true) (k : ahB s b c = true) : ahB s a c = true := by
  unfold ahB at *
  rcases hs with rfl | rfl
  · by_cases h1 : a.price = b.price
    · rw [if_pos h1] at h
      by_cases h2 : b.price = c.price
      · rw [if_pos h2] at k
        rw [if_pos (h1.trans h2)]
        simp only [decide_eq_true_eq] at *
        omega
      · rw [if_neg h2] at k
        rw [if_neg (by omega)]
        simp at k ⊢
        omega
    · rw [if_neg h1] at h
      by_cases h2 : b.price = c.price
      · rw [if_neg (by omega)]
        simp at h ⊢
        omega
      · rw [if_neg h2] at k
        simp at h k
        rw [if_neg (by omega)]
        simp
        omega
  · by_cases h1 : a.price = b.price
    · rw [if_pos h1] at h
      by_cases h2 : b.price = c.price
      · rw [if_pos h2] at k
        rw [if_pos (h1.trans h2)]
        simp only [decide_eq_true_eq] at *
        omega
      · rw [if_neg h2] at k
        rw [if_neg (by omega)]
        simp at k ⊢
        omega
    · rw [if_neg h1] at h
      by_cases h2 : b.price = c.price
      · rw [if_neg (by omega)]
        simp at h ⊢
        omega
      · rw [if_neg h2] at k
        simp at h k
        rw [if_neg (by omega)]
        simp
        omega
/-- Where one comes in, all that were ahead of one that is ahead of it stand. -/
theorem laid_split {s : Int} (hs : s = 1 ∨ s = 2) {x o : OrdV} (hxo : ahB s o x = true) : ∀ (A B : List OrdV), (∀ r ∈ A, ahB s r o = true) → ∃ B1 B2, laidL (ahB s) x (A ++ o :: B) = A ++ o :: (B1 ++ x :: B2)
  | [], B, _ => by
    unfold laidL
    rw [List.nil_append, List.takeWhile_cons, if_pos hxo, List.dropWhile_cons, if_pos hxo]
    exact ⟨_, _, rfl⟩
  | r :: A, B, h => by
    obtain ⟨B1, B2, e⟩ := laid_split hs hxo A B (fun q hq => h q (by simp [hq]))
    have hr : ahB s r x = true := ah_trans hs (h r (by simp)) hxo
    refine ⟨B1, B2, ?_⟩
    unfold laidL at e ⊢
    rw [List.cons_append, List.takeWhile_cons, if_pos hr, List.dropWhile_cons, if_pos hr, List.cons_append, e]
    rfl
theorem laid_ahead {s : Int} {x : OrdV} (l : List OrdV) : ∃ A B, laidL (ahB s) x l = A ++ x :: B ∧ ∀ r ∈ A, ahB s r x = true :=
  ⟨_, _, rfl, fun r hr => by
    have := List.all_takeWhile (p := (ahB s · x)) (l := l)
    exact List.all_eq_true.1 this r hr⟩
end Go.Proofs.Ytbpnnhalajbjnaa
namespace Go.Proofs.Ytbpnnhalajbjnaa
open Go.RowKit
set_option linter.all false
/-- A book in its box, and two sums. -/
structure HS (w : World) (K : Nat) (L : LaneV) (b a o : Value) (m g : Int) (W : World) : Prop where
  box : W.heap[w.heap.size]? = some (.cells #[.bool L.call, .int .i64 L.next, b, a, o] 37 (0, 0))
  sm : W.heap[K]? = some (.cells #[.int .i64 m, .int .i64 g] 56 (0, 0))
  bel : Below w.heap.size w W
  lK : w.heap.size < K
theorem HS.keep {w : World} {K : Nat} {L : LaneV} {b a o : Value} {m g : Int} {W W' : World} (h : HS w K L b a o m g W) (hb : Below W.heap.size W W') : HS w K L b a o m g W' :=
  ⟨(hb.block _ (Array.getElem?_eq_some_iff.1 h.box).1).trans h.box, (hb.block _ (Array.getElem?_eq_some_iff.1 h.sm).1).trans h.sm, below_via h.bel hb, h.lK⟩
theorem HS.m {w : World} {K : Nat} {L : LaneV} {b a o : Value} {m g : Int} {W : World} (h : HS w K L b a o m g W) (x : Int) : HS w K L b a o x g (W.setCell ⟨K, 0, none⟩ (.int .i64 x)) :=
  ⟨setOther _ h.box (by have := h.lK; omega), heap_set h.sm 0 _, belowSet _ h.bel (by have := h.lK; omega), h.lK⟩
theorem HS.g {w : World} {K : Nat} {L : LaneV} {b a o : Value} {m g : Int} {W : World} (h : HS w K L b a o m g W) (x : Int) : HS w K L b a o m x (W.setCell ⟨K, 1, none⟩ (.int .i64 x)) :=
  ⟨setOther _ h.box (by have := h.lK; omega), heap_set h.sm 1 _, belowSet _ h.bel (by have := h.lK; omega), h.lK⟩
theorem two_at {w : World} {p : Nat} {t : TypeId} {a b : Value} (h : w.heap[p]? = some (.cells #[a, b] t (0, 0))) : w.cell? ⟨p, 0, none⟩ = some a ∧ w.cell? ⟨p, 1, none⟩ = some b ∧ (∀ j, w.frozen? ⟨p, j, none⟩ = false) ∧ p < w.heap.size :=
  ⟨by rw [cell_at h]; rfl, by rw [cell_at h]; rfl, fun j => free_at h j, (Array.getElem?_eq_some_iff.1 h).1⟩
theorem sumP_take {l : List OrdV} {t : Nat} (h : t < l.length) : sumP (l.take (t + 1)) = sumP (l.take t) + l[t].price * l[t].left := by
  unfold sumP
  rw [List.take_succ_eq_append_getElem h, List.map_append, List.sum_append]
  simp
theorem sumQ_take {l : List OrdV} {t : Nat} (h : t < l.length) : sumQ (l.take (t + 1)) = sumQ (l.take t) + l[t].left := by
  unfold sumQ
  rw [List.take_succ_eq_append_getElem h, List.map_append, List.sum_append]
  simp
theorem sumA_take {a : Int} {l : List OweV} {t : Nat} (h : t < l.length) : sumA a (l.take (t + 1)) = sumA a (l.take t) + (if l[t].asset = a then l[t].n else 0) := by
  unfold sumA
  rw [List.take_succ_eq_append_getElem h, List.map_append, List.sum_append]
  simp
theorem mul_bd {p n : Int} (hp : 1 ≤ p ∧ p ≤ 1000000) (hn : 1 ≤ n ∧ n ≤ 1000000) : 0 ≤ p * n ∧ p * n ≤ 1000000000000 :=
  ⟨Int.mul_nonneg (by omega) (by omega), by have := Int.mul_le_mul hp.2 hn.2 (by omega) (by omega : (0 : Int) ≤ 1000000); omega⟩
theorem sumP_bd : ∀ (l : List OrdV), OkT l → 0 ≤ sumP l ∧ sumP l ≤ l.length * 1000000000000
  | [], _ => by simp [sumP]
  | o :: l, h => by
    have ih := sumP_bd l (fun q hq => h q (List.mem_cons_of_mem _ hq))
    have ho := h o (by simp)
    have := mul_bd ho.1 ho.2
    simp only [sumP, List.map_cons, List.sum_cons, List.length_cons] at ih ⊢
    omega
theorem sumQ_bd : ∀ (l : List OrdV), OkT l → 0 ≤ sumQ l ∧ sumQ l ≤ l.length * 1000000
  | [], _ => by simp [sumQ]
  | o :: l, h => by
    have ih := sumQ_bd l (fun q hq => h q (List.mem_cons_of_mem _ hq))
    have ho := h o (by simp)
    simp only [sumQ, List.map_cons, List.sum_cons, List.length_cons] at ih ⊢
    omega
theorem sumA_bd (a : Int) : ∀ (l : List OweV), (∀ y ∈ l, 0 ≤ y.n ∧ y.n ≤ 9007199254740992) → 0 ≤ sumA a l ∧ sumA a l ≤ l.length * 9007199254740992
  | [], _ => by simp [sumA]
  | y :: l, h => by
    have ih := sumA_bd a l (fun q hq => h q (List.mem_cons_of_mem _ hq))
    have hy := h y (by simp)
    simp only [sumA, List.map_cons, List.sum_cons, List.length_cons] at ih ⊢
    split <;> omega
theorem okT_take {l : List OrdV} (h : OkT l) (t : Nat) : OkT (l.take t) := fun q hq => h q (List.mem_of_mem_take hq)
theorem sumP_b40 {l : List OrdV} (h : OkT l) (hl : l.length ≤ 40) (t : Nat) : 0 ≤ sumP (l.take t) ∧ sumP (l.take t) ≤ 40000000000000 := by
  have := sumP_bd _ (okT_take h t)
  have h2 : (l.take t).length ≤ 40 := by rw [List.length_take]; omega
  omega
theorem sumQ_b40 {l : List OrdV} (h : OkT l) (hl : l.length ≤ 40) (t : Nat) : 0 ≤ sumQ (l.take t) ∧ sumQ (l.take t) ≤ 40000000 := by
  have := sumQ_bd _ (okT_take h t)
  have h2 : (l.take t).length ≤ 40 := by rw [List.length_take]; omega
  omega
theorem sumA_b16 {a : Int} {l : List OweV} (h : OkO 0 l) (t : Nat) : 0 ≤ sumA a (l.take t) ∧ sumA a (l.take t) ≤ 144115188075855872 := by
  have := sumA_bd a (l.take t) (fun y hy => by have := h.2 y (List.mem_of_mem_take hy); omega)
  have h2 : (l.take t).length ≤ 16 := by rw [List.length_take]; have := h.1; omega
  omega
def holR (L : LaneV) : Int × Int × Int := if chkB L = true then (holM L, holG L, 0) else (0, 0, 130)
set_option maxHeartbeats 8000000 in
set_option maxRecDepth 100000 in
theorem holds_is (L : LaneV) (b a o : Value) (w : World) (h : Lan w L b a o) : Calls Try.prog 19 #[laneV L b a o] w fun e w' => e = .returned (.tuple #[.int .i64 (holR L).1, .int .i64 (holR L).2.1, .int .i64 (holR L).2.2]) ∧ Below w.heap.size w w' := by
  have HB0 := hideIt (below1 w (.cells (laneA L b a o) 37))
  have HX0 := hideIt (heap_alloc_new w (.cells (laneA L b a o) 37))
  have HC := hideIt (check_is L b a o _ (h.keep HB0.out))
  have HBS := hideIt (fun W => bothSides_is W)
  have HP1 := hideIt (fun W => sideOf_is w.heap.size 1 W)
  have HP2 := hideIt (fun W => sideOf_is w.heap.size 2 W)
  rw [show sideOff 1 = 2 from rfl] at HP1
  rw [show sideOff 2 = 3 from rfl] at HP2
  obtain ⟨ba, bc, rfl, b8, hb⟩ := h.bids.ords
  obtain ⟨aa, ac, rfl, a8, ha⟩ := h.asks.ords
  obtain ⟨oa, oc, rfl, o8, ho⟩ := h.owed.owes
  have HB := hideIt hb
  have HA := hideIt ha
  have HW := hideIt ho
  have hix0 := idx0
  have hix1 := idx1
  clear h hb ha ho
  unfold laneV holR
  unfold laneA at *
  cases hk : chkB L
  · rw [show chkI L = 130 by unfold chkI; rw [hk]; rfl] at HC
    obtain ⟨cl, nx, bids, asks, owed⟩ := L
    simp only [Bool.false_eq_true, if_false] at *
    clear hk
    go_enter Try.func19, Try.ntmps19
    go_wp2_with fail
    refine HC.out.mono ?_
    rintro e w1 ⟨rfl, hb⟩
    dsimp only
    have HB1 := hideIt (below_via HB0.out hb)
    clear hb
    go_wp2
    go_ret3
    exact ⟨rfl, HB1.out⟩
  · have hm := chk_may hk
    rw [show chkI L = 0 by unfold chkI; rw [hk]; rfl] at HC
    have HTB := hideIt hm.tb
    have HTA := hideIt hm.ta
    have HLP := hideIt (fun t => sumP_b40 hm.tb hm.lb t)
    have HLQ := hideIt (fun t => sumQ_b40 hm.ta hm.la t)
    have HLA := hideIt (fun (a : Int) t => sumA_b16 (a := a) hm.ow t)
    have HOY : Hid (∀ y ∈ L.owed, (0 ≤ y.asset ∧ y.asset ≤ 1) ∧ (0 ≤ y.n ∧ y.n ≤ 9007199254740992)) := fun y hy => by
      have h1 := (owed_owok ((chk_bok L).1 hk).ow).2 y hy
      have h2 := hm.ow.2 y hy
      omega
    simp only [if_true]
    unfold holM holG
    obtain ⟨cl, nx, bids, asks, owed⟩ := L
    simp only at *
    clear hk hm
    go_enter Try.func19, Try.ntmps19
    go_wp2_with fail
    refine HC.out.mono ?_
    rintro e w1 ⟨rfl, hb⟩
    dsimp only
    have HB1 := hideIt (below_via HB0.out hb)
    have HX1 := hideIt ((hb.block _ (by simp)).trans HX0.out)
    clear hb HC HB0 HX0
    have hb2 := below1 w1 (.cells #[.int .i64 0, .int .i64 0] 56)
    have H2 : Hid (HS w w1.heap.size ⟨cl, nx, bids, asks, owed⟩ (.slice ba bids.length bc) (.slice aa asks.length ac) (.slice oa owed.length oc) 0 0 (w1.alloc (.cells #[.int .i64 0, .int .i64 0] 56))) := ⟨(hb2.block _ (Array.getElem?_eq_some_iff.1 HX1.out).1).trans HX1.out, heap_alloc_new w1 _, below_via HB1.out hb2, (Array.getElem?_eq_some_iff.1 HX1.out).1⟩
    clear hb2 HB1 HX1
    go_upto_region 5 with fail
    generalize w1.alloc (.cells #[.int .i64 0, .int .i64 0] 56) = W2 at *
    generalize w1.heap.size = K at *
    go_wp2_with fail
    refine (HBS.out _).mono ?_
    rintro e w3 ⟨rfl, hb⟩
    dsimp only
    have H3 := hideIt (H2.out.keep hb)
    clear hb H2 HBS
    go_upto_region 6 with fail
    go_loopw [21] (fun v wr => ∃ k : Int, v = .int .i64 k ∧ (k = 0 ∨ k = 1 ∨ k = 2) ∧ Hid (HS w K ⟨cl, nx, bids, asks, owed⟩ (.slice ba bids.length bc) (.slice aa asks.length ac) (.slice oa owed.length oc) (if k = 0 then 0 else sumP bids) (if k = 2 then sumQ asks else 0) wr)) (fun v _ => 2 - (intOf v).toNat)
    case atStart => exact ⟨0, rfl, .inl rfl, H3⟩
    case round =>
      clear H3
      obtain ⟨k, rfl, hk2, HR⟩ := hrel
      rcases hk2 with rfl | rfl | rfl
      · simp only [show ¬ (0 : Int) = 2 by omega, if_true, if_false] at HR
        obtain ⟨⟨c0, c1, c2, c3, c4⟩, -, cl⟩ := five5_at HR.out.box
        obtain ⟨k0, k1, kf, kl⟩ := two_at HR.out.sm
        go_wp2_with fail
        refine (HP1.out _).mono ?_
        rintro e wr ⟨rfl, rfl⟩
        dsimp only
        go_wp2
        clear c0 c1 c2 c3 c4 cl k0 k1 kf kl
        go_loopw [29] (fun v wx => ∃ t : Nat, v = .int .i64 t ∧ t ≤ bids.length ∧ Hid (HS w K ⟨cl, nx, bids, asks, owed⟩ (.slice ba bids.length bc) (.slice aa asks.length ac) (.slice oa owed.length oc) (sumP (bids.take t)) (0) wx)) (fun v _ => bids.length - (intOf v).toNat)
        case atStart => exact ⟨0, rfl, Nat.zero_le _, hideIt (by simpa [sumP, sumQ] using HR.out)⟩
        case round =>
          clear HR
          obtain ⟨t, rfl, ht, HR⟩ := hrel
          by_cases hlt : t < bids.length
          · have hltI : (t : Int) < (bids.length : Int) := by omega
            have ht0 : (0 : Int) ≤ (t : Int) := by omega
            have hw2 : IntKind.i64.wrap ((t : Int) + 1) = ((t + 1 : Nat) : Int) := by rw [IntKind.wrap_i64]; omega
            obtain ⟨b, off, rfl, hbl, q0, q1, q2, q3⟩ := HB.out t hlt
            have hBw := HR.out.bel
            have hblr : b < wr.heap.size := Nat.lt_of_lt_of_le hbl hBw.size
            have d0 := (hBw.cell (p := ⟨b, off + t * 4, none⟩) hbl).trans q0
            have d1 := (hBw.cell (p := ⟨b, off + t * 4 + 1, none⟩) hbl).trans q1
            have d2 := (hBw.cell (p := ⟨b, off + t * 4 + 2, none⟩) hbl).trans q2
            have d3 := (hBw.cell (p := ⟨b, off + t * 4 + 3, none⟩) hbl).trans q3
            clear q0 q1 q2 q3 hBw
            have hok := HTB.out _ (List.getElem_mem hlt)
            have hmb := mul_bd hok.1 hok.2
            have HST := hideIt (sumP_take hlt)
            have hS0 := HLP.out t
            have HBR := hideIt (fun W => brings_is 1 bids[t] W (by omega))
            unfold brA brN ordE at HBR
            generalize bids[t] = en at *
            obtain ⟨ei, ea, ep, el⟩ := en
            simp only [show ¬ (2 : Int) = 1 by omega, if_true, if_false] at d0 d1 d2 d3 HST HBR hmb hok
            have hb1 := below1 wr (.cells #[.int .i64 ei, .int .i64 ea, .int .i64 ep, .int .i64 el] 47)
            have H1 := hideIt (HR.out.keep hb1)
            clear hb1 HR
            go_wp2_with fail
            refine (HBR.out _).mono ?_
            rintro e w3 ⟨rfl, hb⟩
            dsimp only
            have H3 := hideIt (H1.out.keep hb)
            clear hb H1 HBR d0 d1 d2 d3 hblr
            obtain ⟨⟨c0, c1, c2, c3, c4⟩, -, cl⟩ := five5_at H3.out.box
            obtain ⟨k0, k1, kf, kl⟩ := two_at H3.out.sm
            clear c0 c1 c2 c3 c4 cl
            have hws : IntKind.i64.wrap (sumP (bids.take t) + ep * el) = sumP (bids.take (t + 1)) := by rw [HST.out, IntKind.wrap_i64]; omega
            have H4 := hideIt (H3.out.m (sumP (bids.take (t + 1))))
            clear H3 HST hS0 hmb hok
            go_wp2
            go_roundw
            case rel => exact ⟨t + 1, by go_num, by omega, H4⟩
            case measure => simp [intOf]; omega
          · have hltI : ¬ (t : Int) < (bids.length : Int) := by omega
            have het : bids.take t = bids := List.take_of_length_le (by omega)
            rw [het] at HR
            clear het
            go_wp2
            go_roundw
            case rel => exact ⟨1, by go_num, by omega, HR⟩
            case measure => simp [intOf]
      · simp only [show ¬ (1 : Int) = 0 by omega, show ¬ (1 : Int) = 2 by omega, if_false] at HR
        obtain ⟨⟨c0, c1, c2, c3, c4⟩, -, cl⟩ := five5_at HR.out.box
        obtain ⟨k0, k1, kf, kl⟩ := two_at HR.out.sm
        go_wp2_with fail
        refine (HP2.out _).mono ?_
        rintro e wr ⟨rfl, rfl⟩
        dsimp only
        go_wp2
        clear c0 c1 c2 c3 c4 cl k0 k1 kf kl
        go_loopw [29] (fun v wx => ∃ t : Nat, v = .int .i64 t ∧ t ≤ asks.length ∧ Hid (HS w K ⟨cl, nx, bids, asks, owed⟩ (.slice ba bids.length bc) (.slice aa asks.length ac) (.slice oa owed.length oc) (sumP bids) (sumQ (asks.take t)) wx)) (fun v _ => asks.length - (intOf v).toNat)
        case atStart => exact ⟨0, rfl, Nat.zero_le _, hideIt (by simpa [sumP, sumQ] using HR.out)⟩
        case round =>
          clear HR
          obtain ⟨t, rfl, ht, HR⟩ := hrel
          by_cases hlt : t < asks.length
          · have hltI : (t : Int) < (asks.length : Int) := by omega
            have ht0 : (0 : Int) ≤ (t : Int) := by omega
            have hw2 : IntKind.i64.wrap ((t : Int) + 1) = ((t + 1 : Nat) : Int) := by rw [IntKind.wrap_i64]; omega
            obtain ⟨b, off, rfl, hbl, q0, q1, q2, q3⟩ := HA.out t hlt
            have hBw := HR.out.bel
            have hblr : b < wr.heap.size := Nat.lt_of_lt_of_le hbl hBw.size
            have d0 := (hBw.cell (p := ⟨b, off + t * 4, none⟩) hbl).trans q0
            have d1 := (hBw.cell (p := ⟨b, off + t * 4 + 1, none⟩) hbl).trans q1
            have d2 := (hBw.cell (p := ⟨b, off + t * 4 + 2, none⟩) hbl).trans q2
            have d3 := (hBw.cell (p := ⟨b, off + t * 4 + 3, none⟩) hbl).trans q3
            clear q0 q1 q2 q3 hBw
            have hok := HTA.out _ (List.getElem_mem hlt)
            have hmb := mul_bd hok.1 hok.2
            have HST := hideIt (sumQ_take hlt)
            have hS0 := HLQ.out t
            have HBR := hideIt (fun W => brings_is 2 asks[t] W (by omega))
            unfold brA brN ordE at HBR
            generalize asks[t] = en at *
            obtain ⟨ei, ea, ep, el⟩ := en
            simp only [show ¬ (2 : Int) = 1 by omega, if_true, if_false] at d0 d1 d2 d3 HST HBR hmb hok
            have hb1 := below1 wr (.cells #[.int .i64 ei, .int .i64 ea, .int .i64 ep, .int .i64 el] 47)
            have H1 := hideIt (HR.out.keep hb1)
            clear hb1 HR
            go_wp2_with fail
            refine (HBR.out _).mono ?_
            rintro e w3 ⟨rfl, hb⟩
            dsimp only
            have H3 := hideIt (H1.out.keep hb)
            clear hb H1 HBR d0 d1 d2 d3 hblr
            obtain ⟨⟨c0, c1, c2, c3, c4⟩, -, cl⟩ := five5_at H3.out.box
            obtain ⟨k0, k1, kf, kl⟩ := two_at H3.out.sm
            clear c0 c1 c2 c3 c4 cl
            have hws : IntKind.i64.wrap (sumQ (asks.take t) + el) = sumQ (asks.take (t + 1)) := by rw [HST.out, IntKind.wrap_i64]; omega
            have H4 := hideIt (H3.out.g (sumQ (asks.take (t + 1))))
            clear H3 HST hS0 hmb hok
            go_wp2
            go_roundw
            case rel => exact ⟨t + 1, by go_num, by omega, H4⟩
            case measure => simp [intOf]; omega
          · have hltI : ¬ (t : Int) < (asks.length : Int) := by omega
            have het : asks.take t = asks := List.take_of_length_le (by omega)
            rw [het] at HR
            clear het
            go_wp2
            go_roundw
            case rel => exact ⟨2, by go_num, by omega, HR⟩
            case measure => simp [intOf]
      · simp only [show ¬ (2 : Int) = 0 by omega, if_true, if_false] at HR
        obtain ⟨⟨c0, c1, c2, c3, c4⟩, -, cl⟩ := five5_at HR.out.box
        obtain ⟨k0, k1, kf, kl⟩ := two_at HR.out.sm
        go_upto_region 16 with fail
        clear c0 c1 c2 c3 c4 cl k0 k1 kf kl
        go_loopw [50] (fun v wx => ∃ t : Nat, v = .int .i64 t ∧ t ≤ owed.length ∧ Hid (HS w K ⟨cl, nx, bids, asks, owed⟩ (.slice ba bids.length bc) (.slice aa asks.length ac) (.slice oa owed.length oc) (sumP bids + sumA 0 (owed.take t)) (sumQ asks + sumA 1 (owed.take t)) wx)) (fun v _ => owed.length - (intOf v).toNat)
        case atStart => exact ⟨0, rfl, Nat.zero_le _, hideIt (by simpa [sumA] using HR.out)⟩
        case round =>
          clear HR
          obtain ⟨t, rfl, ht, HR⟩ := hrel
          by_cases hlt : t < owed.length
          · have hltI : (t : Int) < (owed.length : Int) := by omega
            have ht0 : (0 : Int) ≤ (t : Int) := by omega
            have hw2 : IntKind.i64.wrap ((t : Int) + 1) = ((t + 1 : Nat) : Int) := by rw [IntKind.wrap_i64]; omega
            obtain ⟨b, off, rfl, hbl, q0, q1, q2⟩ := HW.out t hlt
            have hBw := HR.out.bel
            have hblr : b < wr.heap.size := Nat.lt_of_lt_of_le hbl hBw.size
            have d0 := (hBw.cell (p := ⟨b, off + t * 3, none⟩) hbl).trans q0
            have d1 := (hBw.cell (p := ⟨b, off + t * 3 + 1, none⟩) hbl).trans q1
            have d2 := (hBw.cell (p := ⟨b, off + t * 3 + 2, none⟩) hbl).trans q2
            clear q0 q1 q2 hBw
            have HS0 := hideIt (sumA_take (a := 0) hlt)
            have HS1 := hideIt (sumA_take (a := 1) hlt)
            have hS0 := HLA.out 0 t
            have hS1 := HLA.out 1 t
            have hPB : 0 ≤ sumP bids ∧ sumP bids ≤ 40000000000000 := by have := HLP.out bids.length; rwa [List.take_of_length_le (Nat.le_refl _)] at this
            have hQB : 0 ≤ sumQ asks ∧ sumQ asks ≤ 40000000 := by have := HLQ.out asks.length; rwa [List.take_of_length_le (Nat.le_refl _)] at this
            have hbd := HOY.out _ (List.getElem_mem hlt)
            generalize owed[t] = y at *
            obtain ⟨ea, es, en⟩ := y
            simp only at d0 d1 d2 HS0 HS1 hbd
            have hb1 := below1 wr (.cells #[.int .i64 ea, .int .i64 es, .int .i64 en] 45)
            have H3 := hideIt (HR.out.keep hb1)
            have N3 := heap_alloc_new wr (.cells #[.int .i64 ea, .int .i64 es, .int .i64 en] 45)
            have z1 : (wr.alloc (.cells #[.int .i64 ea, .int .i64 es, .int .i64 en] 45)).cell? ⟨wr.heap.size, 1, none⟩ = some (.int .i64 es) := by rw [cell_at N3]; rfl
            have z2 : (wr.alloc (.cells #[.int .i64 ea, .int .i64 es, .int .i64 en] 45)).cell? ⟨wr.heap.size, 2, none⟩ = some (.int .i64 en) := by rw [cell_at N3]; rfl
            have hKn : K ≠ wr.heap.size := by have := (Array.getElem?_eq_some_iff.1 HR.out.sm).1; omega
            have hKn2 := hKn.symm
            clear hb1 HR N3
            go_upto_region 18 with fail
            clear d0 d1 d2 hblr
            generalize wr.alloc (.cells #[.int .i64 ea, .int .i64 es, .int .i64 en] 45) = W3 at *
            generalize wr.heap.size = KE at *
            have hes : es = 0 ∨ es = 1 := by omega
            rcases hes with rfl | rfl
            · have hws : IntKind.i64.wrap (sumP bids + sumA 0 (owed.take t) + en) = sumP bids + sumA 0 (owed.take (t + 1)) := by rw [HS0.out, IntKind.wrap_i64]; simp; omega
              have hsn : sumA 1 (owed.take (t + 1)) = sumA 1 (owed.take t) := by rw [HS1.out]; simp
              have H4 := hideIt (H3.out.m (sumP bids + sumA 0 (owed.take (t + 1))))
              rw [← hsn] at H4
              have HSN := hideIt hsn
              obtain ⟨k0, k1, kf, kl⟩ := two_at H3.out.sm
              clear H3 HS0 HS1 hS0 hS1 hPB hQB hsn hbd
              go_wp2_with fail
              go_region
              go_wp2
              go_roundw
              case rel => exact ⟨t + 1, by go_num, by omega, hideIt (H4.out.keep (Below.refl _ _).drew)⟩
              case measure => simp [intOf]; omega
            · have hws : IntKind.i64.wrap (sumQ asks + sumA 1 (owed.take t) + en) = sumQ asks + sumA 1 (owed.take (t + 1)) := by rw [HS1.out, IntKind.wrap_i64]; simp; omega
              have hsn : sumA 0 (owed.take (t + 1)) = sumA 0 (owed.take t) := by rw [HS0.out]; simp
              have H4 := hideIt (H3.out.g (sumQ asks + sumA 1 (owed.take (t + 1))))
              rw [← hsn] at H4
              have HSN := hideIt hsn
              obtain ⟨k0, k1, kf, kl⟩ := two_at H3.out.sm
              clear H3 HS0 HS1 hS0 hS1 hPB hQB hsn hbd
              go_wp2_with fail
              go_region
              go_wp2
              go_roundw
              case rel => exact ⟨t + 1, by go_num, by omega, hideIt (H4.out.keep (Below.refl _ _).drew)⟩
              case measure => simp [intOf]; omega
          · have hltI : ¬ (t : Int) < (owed.length : Int) := by omega
            have het : owed.take t = owed := List.take_of_length_le (by omega)
            rw [het] at HR
            clear het
            obtain ⟨k0, k1, kf, kl⟩ := two_at HR.out.sm
            go_wp2_with fail
            go_quiet (fail)
            go_wp2
            go_ret3
            exact ⟨rfl, below_drewN HR.out.bel _⟩
end Go.Proofs.Ytbpnnhalajbjnaa
namespace Go.Proofs.Ytbpnnhalajbjnaa
open Go.RowKit Go.Maps
set_option linter.all false
def gM (f : Sums) (x : Int) : Int := ((f x).getD (0, 0)).1
def gG (f : Sums) (x : Int) : Int := ((f x).getD (0, 0)).2
def sM (f : Sums) : Nat → Int
  | 0 => 0
  | t + 1 => sM f t + gM f ((t : Int) + 1)
def sG (f : Sums) : Nat → Int
  | 0 => 0
  | t + 1 => sG f t + gG f ((t : Int) + 1)
theorem sM_add (f : Sums) (x m g : Int) : ∀ t : Nat, sM (addS f x m g) t = sM f t + (if 1 ≤ x ∧ x ≤ (t : Int) then m else 0)
  | 0 => by simp [sM]; omega
  | t + 1 => by
    rw [sM, sM, sM_add f x m g t]
    unfold gM addS updS
    by_cases e : (t : Int) + 1 = x
    · rw [if_pos e, ← e]
      simp
      rw [if_neg (by omega), if_pos (by omega)]
      omega
    · rw [if_neg e]
      by_cases h : 1 ≤ x ∧ x ≤ (t : Int)
      · rw [if_pos h, if_pos (by push_cast; omega)]
        omega
      · rw [if_neg h, if_neg (by push_cast; omega)]
        omega
theorem sG_add (f : Sums) (x m g : Int) : ∀ t : Nat, sG (addS f x m g) t = sG f t + (if 1 ≤ x ∧ x ≤ (t : Int) then g else 0)
  | 0 => by simp [sG]; omega
  | t + 1 => by
    rw [sG, sG, sG_add f x m g t]
    unfold gG addS updS
    by_cases e : (t : Int) + 1 = x
    · rw [if_pos e, ← e]
      simp
      rw [if_neg (by omega), if_pos (by omega)]
      omega
    · rw [if_neg e]
      by_cases h : 1 ≤ x ∧ x ≤ (t : Int)
      · rw [if_pos h, if_pos (by push_cast; omega)]
        omega
      · rw [if_neg h, if_neg (by push_cast; omega)]
        omega
theorem s_net1 {f : Sums} {x : FillV} (h : strF x = false) : sM (netS1 f x) 8 = sM f 8 ∧ sG (netS1 f x) 8 = sG f 8 := by
  obtain ⟨h1, h2, -, -⟩ := str_ok h
  unfold netS1
  rw [sM_add, sM_add, sG_add, sG_add, if_pos (by push_cast; omega), if_pos (by push_cast; omega), if_pos (by push_cast; omega), if_pos (by push_cast; omega), Int.neg_mul]
  omega
theorem s_fold : ∀ (l : List FillV) (f : Sums), (∀ x ∈ l, strF x = false) → sM (l.foldl netS1 f) 8 = sM f 8 ∧ sG (l.foldl netS1 f) 8 = sG f 8
  | [], f, _ => ⟨rfl, rfl⟩
  | x :: l, f, h => by
    have h1 := s_net1 (f := f) (h x (by simp))
    have h2 := s_fold l (netS1 f x) (fun y hy => h y (by simp [hy]))
    rw [List.foldl_cons]
    exact ⟨h2.1.trans h1.1, h2.2.trans h1.2⟩
theorem small1 {c : Nat} {f : Sums} {x : FillV} (hs : Small c f) (h : strF x = false) : Small (c + 2) (netS1 f x) := by
  obtain ⟨h1, h2, h3, h4⟩ := str_ok h
  have hm := mul_bd2 h3 h4
  unfold netS1
  exact (hs.add (by rw [Int.neg_mul]; omega) (by omega)).add (by omega) (by omega)
theorem small_fold : ∀ (l : List FillV) (c : Nat) (f : Sums), Small c f → (∀ x ∈ l, strF x = false) → Small (c + 2 * l.length) (l.foldl netS1 f)
  | [], c, f, hs, _ => hs
  | x :: l, c, f, hs, h => by
    have h2 := small_fold l (c + 2) (netS1 f x) (small1 hs (h x (by simp))) (fun y hy => h y (by simp [hy]))
    rw [List.foldl_cons, List.length_cons, show c + 2 * (l.length + 1) = c + 2 + 2 * l.length by omega]
    exact h2
theorem pos_sum (f : Sums) : ∀ t : Nat, ((posT f t).map (·.m)).sum = sM f t ∧ ((posT f t).map (·.g)).sum = sG f t
  | 0 => by simp [posT, sM, sG]
  | t + 1 => by
    obtain ⟨h1, h2⟩ := pos_sum f t
    rw [posT_succ, List.map_append, List.map_append, List.sum_append, List.sum_append, h1, h2, sM, sG]
    unfold gM gG
    cases f ((t : Int) + 1) <;> simp
theorem pos_acc (f : Sums) : ∀ t : Nat, (posT f t).Pairwise (fun a b => a.acc < b.acc) ∧ ∀ p ∈ posT f t, p.acc ≤ (t : Int)
  | 0 => by simp [posT]
  | t + 1 => by
    obtain ⟨h1, h2⟩ := pos_acc f t
    rw [posT_succ]
    cases hf : f ((t : Int) + 1) with
    | none =>
      simp only [List.append_nil]
      exact ⟨h1, fun p hp => by have := h2 p hp; push_cast; omega⟩
    | some q =>
      simp only
      refine ⟨List.pairwise_append.2 ⟨h1, by simp, fun a ha b hb => ?_⟩, fun p hp => ?_⟩
      · rw [List.mem_singleton] at hb
        subst hb
        have := h2 a ha
        simp only
        omega
      · rcases List.mem_append.1 hp with hp | hp
        · have := h2 p hp
          push_cast
          omega
        · rw [List.mem_singleton] at hp
          subst hp
          push_cast
          simp
theorem pos_in (f : Sums) : ∀ (t : Nat) (p : PosV), p ∈ posT f t → ∃ x, f x = some (p.m, p.g)
  | 0, p, h => by simp [posT] at h
  | t + 1, p, h => by
    rw [posT_succ] at h
    rcases List.mem_append.1 h with h | h
    · exact pos_in f t p h
    · cases hf : f ((t : Int) + 1) with
      | none => rw [hf] at h; simp at h
      | some q =>
        rw [hf] at h
        simp only [List.mem_singleton] at h
        subst h
        exact ⟨_, hf⟩
theorem sum_bd (C : Int) (g : PosV → Int) : ∀ (l : List PosV), (∀ p ∈ l, -C ≤ g p ∧ g p ≤ C) → -((l.length : Int) * C) ≤ (l.map g).sum ∧ (l.map g).sum ≤ (l.length : Int) * C
  | [], _ => by simp
  | x :: l, h => by
    have h1 := h x (by simp)
    have h2 := sum_bd C g l (fun p hp => h p (by simp [hp]))
    rw [List.map_cons, List.sum_cons, List.length_cons]
    have e : ((l.length + 1 : Nat) : Int) * C = (l.length : Int) * C + C := by push_cast; rw [Int.add_mul, Int.one_mul]
    rw [e]
    omega
theorem sum_take {g : PosV → Int} {l : List PosV} {t : Nat} (h : t < l.length) : ((l.take (t + 1)).map g).sum = ((l.take t).map g).sum + g l[t] := by
  rw [List.take_succ_eq_append_getElem h, List.map_append, List.sum_append]
  simp
/-- All that the statement asks. -/
theorem zero_all {l : List FillV} (hl : l.length ≤ 1000) (h : ∀ x ∈ l, strF x = false) :
    (posT (netS l) 8).length ≤ 8 ∧ ((posT (netS l) 8).map (·.m)).sum = 0 ∧ ((posT (netS l) 8).map (·.g)).sum = 0 ∧ (∀ p ∈ posT (netS l) 8, (-2000000000000000 ≤ p.m ∧ p.m ≤ 2000000000000000) ∧ (-2000000000000000 ≤ p.g ∧ p.g ≤ 2000000000000000)) ∧ (∀ i j (hi : i < (posT (netS l) 8).length) (hj : j < (posT (netS l) 8).length), i < j → (posT (netS l) 8)[i].acc < (posT (netS l) 8)[j].acc) := by
  have h0 : sM (fun _ => none) 8 = 0 ∧ sG (fun _ => none) 8 = 0 := by decide
  have hs := s_fold l (fun _ => none) h
  have hp := pos_sum (netS l) 8
  have hb := small_fold l 0 (fun _ => none) ⟨fun x p h => by cases h⟩ h
  have ha := (pos_acc (netS l) 8).1
  refine ⟨posT_len _ 8, ?_, ?_, fun p hp => ?_, fun i j hi hj hij => (List.pairwise_iff_getElem.1 ha) i j hi hj hij⟩
  · rw [hp.1]
    exact hs.1.trans h0.1
  · rw [hp.2]
    exact hs.2.trans h0.2
  · obtain ⟨x, hx⟩ := pos_in _ 8 p hp
    have := hb.lo x _ hx
    simp only at this
    omega
end Go.Proofs.Ytbpnnhalajbjnaa
namespace Go.Proofs.Ytbpnnhalajbjnaa
open Go.RowKit
set_option linter.all false
abbrev Poss (w : World) (v : Value) (l : List PosV) : Prop := SGot 3 24 posE w v l
theorem SGot.poss {w : World} {v : Value} {l : List PosV} (h : Poss w v l) : ∃ a c, v = .slice a l.length c ∧ l.length * 24 ≤ 140737488355328 ∧ ∀ i (h : i < l.length), ∃ b off, a = some ⟨b, off, none⟩ ∧ b < w.heap.size ∧ w.cell? ⟨b, off + i * 3, none⟩ = some (.int .i64 (l[i]).acc) ∧ w.cell? ⟨b, off + i * 3 + 1, none⟩ = some (.int .i64 (l[i]).m) ∧ w.cell? ⟨b, off + i * 3 + 2, none⟩ = some (.int .i64 (l[i]).g) := by
  obtain ⟨h8, a, c, rfl, _, hr⟩ := h
  refine ⟨a, c, rfl, h8, fun i hi => ?_⟩
  obtain ⟨b, off, ha, hb, hc⟩ := hr (by omega)
  have g := celC_get posK l i hi
  exact ⟨b, off, ha, hb, by have := g 0 (by omega); rw [Nat.add_zero] at this; rw [hc _ (by omega), this]; rfl, by rw [Nat.add_assoc, hc _ (by omega), g 1 (by omega)]; rfl, by rw [Nat.add_assoc, hc _ (by omega), g 2 (by omega)]; rfl⟩
set_option maxHeartbeats 8000000 in
set_option maxRecDepth 100000 in
theorem zero_walk (v : Value) (l : List FillV) (w : World) (h : Fils w v l) : Calls Try.prog 4 #[v] w fun e w' => e = .returned (.bool true) ∧ Below w.heap.size w w' := by
  have HN := hideIt (net_is v l w h)
  have HLV := hideIt (fun W => live_is W)
  obtain ⟨a, c, rfl⟩ := h.slice
  clear h
  unfold NetB at HN
  by_cases hb : (decide (1000 < l.length) || l.any strF) = true
  · have e : netL l = ([], 150) := by unfold netL; rw [if_pos hb]
    rw [e] at HN
    dsimp only at HN
    clear e hb
    go_enter Try.func4, Try.ntmps4
    go_wp2_with fail
    refine HN.out.mono ?_
    rintro e w1 ⟨na, nc, rfl, ho, hb⟩
    dsimp only
    have HB1 := hideIt hb
    clear ho hb HN
    go_wp2_with fail
    refine (HLV.out _).mono ?_
    rintro e w2 ⟨rfl, hb⟩
    dsimp only
    have HB2 := hideIt (below_via HB1.out hb)
    clear hb HB1
    go_wp2
    go_ret
    exact ⟨rfl, HB2.out⟩
  · have e : netL l = (posT (netS l) 8, 0) := by unfold netL; rw [if_neg hb]
    rw [e] at HN
    dsimp only at HN
    have hb2 : l.length ≤ 1000 ∧ ∀ x ∈ l, strF x = false := by
      simp only [Bool.or_eq_true, decide_eq_true_eq, List.any_eq_true, not_or, not_exists, not_and] at hb
      exact ⟨by omega, fun x hx => by simpa using hb.2 x hx⟩
    obtain ⟨h1, h2, h3, h4, h5⟩ := zero_all hb2.1 hb2.2
    have HBD : Hid (∀ t, (-((8 : Int) * 2000000000000000) ≤ (((posT (netS l) 8).take t).map (·.m)).sum ∧ (((posT (netS l) 8).take t).map (·.m)).sum ≤ (8 : Int) * 2000000000000000) ∧ (-((8 : Int) * 2000000000000000) ≤ (((posT (netS l) 8).take t).map (·.g)).sum ∧ (((posT (netS l) 8).take t).map (·.g)).sum ≤ (8 : Int) * 2000000000000000)) := fun t => by
      have hlt : ((posT (netS l) 8).take t).length ≤ 8 := Nat.le_trans (List.length_take_le' _ _) h1
      have a1 := sum_bd 2000000000000000 (·.m) ((posT (netS l) 8).take t) (fun p hp => (h4 p (List.mem_of_mem_take hp)).1)
      have a2 := sum_bd 2000000000000000 (·.g) ((posT (netS l) 8).take t) (fun p hp => (h4 p (List.mem_of_mem_take hp)).2)
      omega
    generalize posT (netS l) 8 = PT at *
    have HM := hideIt h2
    have HG := hideIt h3
    have HP := hideIt h4
    have HA := hideIt h5
    have h8 := h1
    clear e hb hb2 h2 h3 h4 h5
    go_enter Try.func4, Try.ntmps4
    go_wp2_with fail
    refine HN.out.mono ?_
    rintro e w1 ⟨na, nc, rfl, ho, hb⟩
    dsimp only
    have HS : Hid (Poss w1 (.slice na PT.length nc) PT) := own_sgot ho (by omega)
    have HB1 := hideIt hb
    clear ho hb HN
    obtain ⟨pa, pc, e, -, hr⟩ := HS.out.poss
    simp only [Value.slice.injEq, true_and] at e
    obtain ⟨rfl, rfl⟩ := e
    have HH := hideIt hr
    clear hr HS
    go_upto_region 7 with fail
    go_loopw [5, 6, 7] (fun u1 u2 v wr => ∃ (t : Nat) (m1 m2 : Int), u1 = .int .i64 m1 ∧ u2 = .int .i64 m2 ∧ v = .int .i64 t ∧ t ≤ PT.length ∧ Hid (Below w1.heap.size w1 wr ∧ m1 = ((PT.take t).map (·.m)).sum ∧ m2 = ((PT.take t).map (·.g)).sum)) (fun _ _ v _ => PT.length - (intOf v).toNat)
    case atStart => exact ⟨0, 0, 0, rfl, rfl, rfl, Nat.zero_le _, hideIt ⟨Below.refl _ _, by simp, by simp⟩⟩
    case round =>
      obtain ⟨t, m1, m2, rfl, rfl, rfl, ht, HR⟩ := hrel
      by_cases hlt : t < PT.length
      · have hltI : (t : Int) < (PT.length : Int) := by omega
        have ht0 : (0 : Int) ≤ (t : Int) := by omega
        have hw2 : IntKind.i64.wrap ((t : Int) + 1) = ((t + 1 : Nat) : Int) := by rw [IntKind.wrap_i64]; omega
        obtain ⟨b, off, rfl, hbl, q0, q1, q2⟩ := HH.out t hlt
        have hblr : b < wr.heap.size := Nat.lt_of_lt_of_le hbl HR.out.1.size
        have c0 := (HR.out.1.cell (p := ⟨b, off + t * 3, none⟩) hbl).trans q0
        have c1 := (HR.out.1.cell (p := ⟨b, off + t * 3 + 1, none⟩) hbl).trans q1
        have c2 := (HR.out.1.cell (p := ⟨b, off + t * 3 + 2, none⟩) hbl).trans q2
        have s0 := HBD.out t
        have s1 := HBD.out (t + 1)
        rw [sum_take hlt, sum_take hlt] at s1
        have hm1 := HR.out.2.1
        have hm2 := HR.out.2.2
        have HNX : Hid (m1 + PT[t].m = ((PT.take (t + 1)).map (·.m)).sum ∧ m2 + PT[t].g = ((PT.take (t + 1)).map (·.g)).sum) := by
          rw [sum_take hlt, sum_take hlt, hm1, hm2]
          exact ⟨rfl, rfl⟩
        have HBR := hideIt HR.out.1
        by_cases h0 : 0 < t
        · obtain ⟨u, hu⟩ : ∃ u, t = u + 1 := ⟨t - 1, by omega⟩
          have hul : u < PT.length := by omega
          obtain ⟨b', off', e, -, p0, -, -⟩ := HH.out u hul
          simp only [Option.some.injEq, Addr.mk.injEq, and_true] at e
          obtain ⟨rfl, rfl⟩ := e
          have d0 := (HR.out.1.cell (p := ⟨b, off + u * 3, none⟩) hbl).trans p0
          have hlt2 := HA.out u t hul hlt (by omega)
          have hg : decide (0 < t) = true := decide_eq_true h0
          have hg2 : (0 : Int) < (t : Int) := by omega
          have hu0 : (0 : Int) ≤ (u : Int) := by omega
          have hu1 : (u : Int) < (PT.length : Int) := by omega
          have hw3 : IntKind.i64.wrap ((t : Int) - 1) = (u : Int) := by rw [IntKind.wrap_i64]; omega
          have hng : ¬ PT[t].acc ≤ (PT[u]'hul).acc := by omega
          have hngd : decide (PT[t].acc ≤ (PT[u]'hul).acc) = false := decide_eq_false hng
          have HU := hideIt hu
          clear hu q0 q1 q2 p0 HR HH hlt2
          generalize hgy : PT[t] = y at *
          generalize hgz : PT[u]'hul = z at *
          clear hgy hgz
          obtain ⟨ya, ym, yg⟩ := y
          obtain ⟨za, zm, zg⟩ := z
          dsimp only at c0 c1 c2 d0 s1 HNX hng hngd
          have hw4 : IntKind.i64.wrap (m1 + ym) = m1 + ym := by rw [IntKind.wrap_i64]; omega
          have hw5 : IntKind.i64.wrap (m2 + yg) = m2 + yg := by rw [IntKind.wrap_i64]; omega
          clear s0 s1 hm1 hm2
          go_upto_region 9 with fail
          go_quiet (fail)
          have B2 := hideIt (below_drewN HBR.out nq)
          clear HBR d0
          have c0' : (wr.drewN nq).cell? ⟨b, off + t * 3, none⟩ = some (.int .i64 ya) := c0
          have c1' : (wr.drewN nq).cell? ⟨b, off + t * 3 + 1, none⟩ = some (.int .i64 ym) := c1
          have c2' : (wr.drewN nq).cell? ⟨b, off + t * 3 + 2, none⟩ = some (.int .i64 yg) := c2
          have hbl2 : b < (wr.drewN nq).heap.size := hblr
          clear c0 c1 c2 hblr
          generalize wr.drewN nq = W2 at *
          go_wp2
          go_roundw
          case rel => exact ⟨t + 1, _, _, rfl, rfl, by go_num, by omega, hideIt ⟨B2.out, HNX.out⟩⟩
          case measure => simp [intOf]; omega
        · have ht00 : t = 0 := by omega
          subst ht00
          clear q0 q1 q2 HR HH
          generalize hgy : PT[0] = y at *
          clear hgy
          obtain ⟨ya, ym, yg⟩ := y
          dsimp only at c0 c1 c2 s1 HNX
          have hw4 : IntKind.i64.wrap (m1 + ym) = m1 + ym := by rw [IntKind.wrap_i64]; omega
          have hw5 : IntKind.i64.wrap (m2 + yg) = m2 + yg := by rw [IntKind.wrap_i64]; omega
          clear s0 s1 hm1 hm2
          go_upto_region 9 with fail
          go_quiet (fail)
          have B2 := hideIt (below_drewN HBR.out nq)
          clear HBR
          have c0' : (wr.drewN nq).cell? ⟨b, off + 0 * 3, none⟩ = some (.int .i64 ya) := c0
          have c1' : (wr.drewN nq).cell? ⟨b, off + 0 * 3 + 1, none⟩ = some (.int .i64 ym) := c1
          have c2' : (wr.drewN nq).cell? ⟨b, off + 0 * 3 + 2, none⟩ = some (.int .i64 yg) := c2
          have hbl2 : b < (wr.drewN nq).heap.size := hblr
          clear c0 c1 c2 hblr
          generalize wr.drewN nq = W2 at *
          go_wp2
          go_roundw
          case rel => exact ⟨1, _, _, rfl, rfl, by go_num, by omega, hideIt ⟨B2.out, HNX.out⟩⟩
          case measure => simp [intOf]; omega
      · have hltI : ¬ (t : Int) < (PT.length : Int) := by omega
        have het : PT.take t = PT := List.take_of_length_le (by omega)
        have hz := HR.out.2
        rw [het, HM.out, HG.out] at hz
        obtain ⟨rfl, rfl⟩ := hz
        have B2 := hideIt (below_via HB1.out HR.out.1)
        clear HR HH het HBD HM HG HP HA HB1
        go_wp2_with fail
        refine (HLV.out _).mono ?_
        rintro e w2 ⟨rfl, hb⟩
        dsimp only
        have HB2 := hideIt (below_via B2.out hb)
        clear hb B2
        go_wp2
        go_ret
        exact ⟨rfl, HB2.out⟩
end Go.Proofs.Ytbpnnhalajbjnaa
namespace Go.Proofs.Ytbpnnhalajbjnaa
open Go.RowKit
set_option linter.all false
/-- What an account has: money, goods, was it met? -/
def trp (f : Sums) (x : Int) : Int × Int × Bool := (gM f x, gG f x, (f x).isSome)
theorem trp_add (f : Sums) (y m g x : Int) : trp (addS f y m g) x = if y = x then (gM f x + m, gG f x + g, true) else trp f x := by
  unfold trp gM gG addS updS
  by_cases e : y = x
  · subst e
    simp
  · have e2 : ¬ x = y := fun h => e h.symm
    rw [if_neg e, if_neg e2]
theorem g_add (f : Sums) (y m g x : Int) : gM (addS f y m g) x = (if y = x then gM f x + m else gM f x) ∧ gG (addS f y m g) x = (if y = x then gG f x + g else gG f x) := by
  have h := trp_add f y m g x
  by_cases e : y = x
  · rw [if_pos e] at h
    rw [if_pos e, if_pos e]
    exact ⟨congrArg (·.1) h, congrArg (·.2.1) h⟩
  · rw [if_neg e] at h
    rw [if_neg e, if_neg e]
    exact ⟨congrArg (·.1) h, congrArg (·.2.1) h⟩
theorem trp_net (f : Sums) (y : FillV) (x : Int) : trp (netS1 f y) x = if y.seller = x then ((if y.buyer = x then gM f x - y.price * y.n else gM f x) + y.price * y.n, (if y.buyer = x then gG f x + y.n else gG f x) - y.n, true) else (if y.buyer = x then (gM f x - y.price * y.n, gG f x + y.n, true) else trp f x) := by
  unfold netS1
  rw [trp_add, trp_add]
  obtain ⟨h1, h2⟩ := g_add f y.buyer (-y.price * y.n) y.n x
  rw [h1, h2, Int.neg_mul]
  by_cases e1 : y.buyer = x <;> by_cases e2 : y.seller = x <;> simp [e1, e2, Int.sub_eq_add_neg]
theorem pos_trp (f : Sums) (t : Nat) : posT f (t + 1) = posT f t ++ (if (trp f ((t : Int) + 1)).2.2 = true then [⟨(t : Int) + 1, (trp f ((t : Int) + 1)).1, (trp f ((t : Int) + 1)).2.1⟩] else []) := by
  rw [posT_succ]
  unfold trp gM gG
  cases f ((t : Int) + 1) <;> simp
structure NB (w : World) (K : Nat) (x m g : Int) (pre : List PosV) (u : Value) (W : World) : Prop where
  bx : W.heap[K]? = some (.cells #[.int .i64 x, .int .i64 m, .int .i64 g] 31 (0, 0))
  row : W.ownsRow w.heap.size 31 3 u pre.length (celC posE pre)
  ne : u.ownBlock ≠ some K
  bel : Below w.heap.size w W
  hK : w.heap.size ≤ K
theorem NB.keep {w W W' : World} {K : Nat} {x m g : Int} {pre : List PosV} {u : Value} (h : NB w K x m g pre u W) (hb : Below W.heap.size W W') : NB w K x m g pre u W' := ⟨(hb.block _ (Array.getElem?_eq_some_iff.1 h.bx).1).trans h.bx, own_keep h.row hb, h.ne, below_via h.bel hb, h.hK⟩
theorem own_neK {w : World} {B k j : Nat} {e : TypeId} {z n : Nat} {v u : Value} {xs : List Value} (ho : w.ownsRow B e z v n xs) (hk : v.ownBlock ≠ some k) : (w.setCell ⟨k, j, none⟩ u).ownsRow B e z v n xs := by
  obtain ⟨h1, hn | ⟨g, cap, cur, hv, hb, hg, r⟩⟩ := ho
  · exact ⟨h1, .inl hn⟩
  · refine ⟨h1, .inr ⟨g, cap, cur, hv, hb, (heap_set_other _ _ _ _ _ (fun e => hk ?_)).trans hg, r⟩⟩
    rw [hv, ← e]
    rfl
theorem NB.setM {w W : World} {K : Nat} {x m g : Int} {pre : List PosV} {u : Value} (h : NB w K x m g pre u W) (v : Int) : NB w K x v g pre u (W.setCell ⟨K, 1, none⟩ (.int .i64 v)) := ⟨heap_set h.bx 1 _, own_neK h.row h.ne, h.ne, belowSet _ h.bel h.hK, h.hK⟩
theorem NB.setG {w W : World} {K : Nat} {x m g : Int} {pre : List PosV} {u : Value} (h : NB w K x m g pre u W) (v : Int) : NB w K x m v pre u (W.setCell ⟨K, 2, none⟩ (.int .i64 v)) := ⟨heap_set h.bx 2 _, own_neK h.row h.ne, h.ne, belowSet _ h.bel h.hK, h.hK⟩
theorem NB.cells {w W : World} {K : Nat} {x m g : Int} {pre : List PosV} {u : Value} (h : NB w K x m g pre u W) : W.cell? ⟨K, 0, none⟩ = some (.int .i64 x) ∧ W.cell? ⟨K, 1, none⟩ = some (.int .i64 m) ∧ W.cell? ⟨K, 2, none⟩ = some (.int .i64 g) ∧ (∀ j, W.frozen? ⟨K, j, none⟩ = false) ∧ K < W.heap.size :=
  ⟨by rw [cell_at h.bx]; rfl, by rw [cell_at h.bx]; rfl, by rw [cell_at h.bx]; rfl, fun j => free_at h.bx j, (Array.getElem?_eq_some_iff.1 h.bx).1⟩
/-- How far an account's sums may be. -/
theorem g_small {c : Nat} {f : Sums} (h : Small c f) (x : Int) : (-(c : Int) * 1000000000000 ≤ gM f x ∧ gM f x ≤ (c : Int) * 1000000000000) ∧ (-(c : Int) * 1000000000000 ≤ gG f x ∧ gG f x ≤ (c : Int) * 1000000000000) := by
  unfold gM gG
  cases hf : f x with
  | none => simp; omega
  | some p =>
    have := h.lo x p hf
    simp
    omega
theorem small_take {l : List FillV} (h : ∀ x ∈ l, strF x = false) (t : Nat) : Small (2 * (l.take t).length) (netS (l.take t)) := by
  have := small_fold (l.take t) 0 (fun _ => none) ⟨fun x p h => by cases h⟩ (fun x hx => h x (List.mem_of_mem_take hx))
  rw [Nat.zero_add] at this
  exact this
end Go.Proofs.Ytbpnnhalajbjnaa
namespace Go.Proofs.Ytbpnnhalajbjnaa
open Go.RowKit
set_option linter.all false
theorem any_at {l : List FillV} {t : Nat} (h : t < l.length) (hs : strF l[t] = true) : l.any strF = true := List.any_eq_true.2 ⟨_, List.getElem_mem h, hs⟩
set_option maxHeartbeats 16000000 in
set_option maxRecDepth 100000 in
theorem rNet_is (v : Value) (l : List FillV) (w : World) (h : Fils w v l) : Calls Try.prog 10 #[v] w (NetB (netL l) w) := by
  obtain ⟨a, c, rfl, h8, hr⟩ := h.fils
  have HH := hideIt hr
  clear hr h
  by_cases hl : 1000 < l.length
  · have hlI : (1000 : Int) < (l.length : Int) := by omega
    have e : netL l = ([], 150) := by unfold netL; rw [decide_eq_true hl, Bool.true_or, if_pos rfl]
    rw [e]
    clear HH e
    unfold NetB
    go_enter Try.func10, Try.ntmps10
    go_wp2
    go_ret2
    exact ⟨none, 0, rfl, own_nil _ _, Below.refl _ _⟩
  · have hlI : ¬ (1000 : Int) < (l.length : Int) := by omega
    have HB0 : Hid (l.any strF = true → ∀ W, Below w.heap.size w W → NetB (netL l) w (.returned (.tuple #[.slice none 0 0, .int .i64 150])) W) := fun hs W hW => by
      have e : netL l = ([], 150) := by unfold netL; rw [hs, Bool.or_true, if_pos rfl]
      rw [e]
      exact ⟨none, 0, rfl, own_nil _ _, hW⟩
    have HOKL : Hid ((∀ x ∈ l, strF x = false) → netL l = (posT (netS l) 8, 0)) := fun hs => by
      unfold netL
      rw [decide_eq_false hl, Bool.false_or, if_neg]
      rw [Bool.not_eq_true, List.any_eq_false]
      intro x hx
      simp [hs x hx]
    generalize netL l = NL at *
    go_enter Try.func10, Try.ntmps10
    go_wp2
    go_loopw [4] (fun v wr => ∃ t : Nat, v = .int .i64 t ∧ t ≤ l.length ∧ Hid ((∀ i (hi : i < l.length), i < t → strF l[i] = false) ∧ Below w.heap.size w wr)) (fun v _ => l.length - (RowKit.intOf v).toNat)
    case atStart => exact ⟨0, rfl, Nat.zero_le _, hideIt ⟨fun i _ hi => by omega, Below.refl _ _⟩⟩
    case round =>
      obtain ⟨t, rfl, ht, HR⟩ := hrel
      by_cases hlt : t < l.length
      · have hltI : (t : Int) < (l.length : Int) := by omega
        have ht0 : (0 : Int) ≤ (t : Int) := by omega
        have hw : IntKind.i64.wrap ((t : Int) + 1) = ((t + 1 : Nat) : Int) := by rw [IntKind.wrap_i64]; omega
        obtain ⟨b, off, rfl, hbl, q0, q1, q2, q3⟩ := HH.out t hlt
        have hblr : b < wr.heap.size := Nat.lt_of_lt_of_le hbl HR.out.2.size
        have c0 := (HR.out.2.cell (p := ⟨b, off + t * 4, none⟩) hbl).trans q0
        have c1 := (HR.out.2.cell (p := ⟨b, off + t * 4 + 1, none⟩) hbl).trans q1
        have c2 := (HR.out.2.cell (p := ⟨b, off + t * 4 + 2, none⟩) hbl).trans q2
        have c3 := (HR.out.2.cell (p := ⟨b, off + t * 4 + 3, none⟩) hbl).trans q3
        have HBA := hideIt (fun (hs : strF l[t] = true) => HB0.out (any_at hlt hs))
        have HNX : Hid (strF l[t] = false → ∀ i (hi : i < l.length), i < t + 1 → strF l[i] = false) := fun hs i hi h1 => by
          by_cases e : i = t
          · subst e; exact hs
          · exact HR.out.1 i hi (by omega)
        clear q0 q1 q2 q3 HH
        generalize l[t] = y at *
        obtain ⟨yb, ys, yp, yn⟩ := y
        dsimp only at c0 c1 c2 c3
        have B1 := hideIt (below_via HR.out.2 (below1 wr (.cells #[.int .i64 yb, .int .i64 ys, .int .i64 yp, .int .i64 yn] 67)))
        have K1 := hideIt (heap_alloc_new wr (.cells #[.int .i64 yb, .int .i64 ys, .int .i64 yp, .int .i64 yn] 67))
        clear HR
        go_upto_region 7 with fail
        clear c0 c1 c2 c3 hblr
        generalize wr.alloc (.cells #[.int .i64 yb, .int .i64 ys, .int .i64 yp, .int .i64 yn] 67) = W1 at *
        generalize wr.heap.size = kb at *
        have k0 : W1.cell? ⟨kb, 0, none⟩ = some (.int .i64 yb) := by rw [cell_at K1.out]; rfl
        have k1 : W1.cell? ⟨kb, 1, none⟩ = some (.int .i64 ys) := by rw [cell_at K1.out]; rfl
        have k2 : W1.cell? ⟨kb, 2, none⟩ = some (.int .i64 yp) := by rw [cell_at K1.out]; rfl
        have k3 : W1.cell? ⟨kb, 3, none⟩ = some (.int .i64 yn) := by rw [cell_at K1.out]; rfl
        have kz : kb < W1.heap.size := (Array.getElem?_eq_some_iff.1 K1.out).1
        have HBAD := hideIt (fun hs => HBA.out hs W1 B1.out)
        clear K1 HBA
        by_cases h1 : yb < 1
        · have HF := hideIt (HBAD.out (by unfold strF wiB; simp; omega))
          go_wp2
          go_ret2
          exact HF.out
        by_cases h2 : 8 < yb
        · have HF := hideIt (HBAD.out (by unfold strF wiB; simp; omega))
          go_wp2
          go_ret2
          exact HF.out
        by_cases h3 : ys < 1
        · have HF := hideIt (HBAD.out (by unfold strF wiB; simp; omega))
          go_wp2
          go_ret2
          exact HF.out
        by_cases h4 : 8 < ys
        · have HF := hideIt (HBAD.out (by unfold strF wiB; simp; omega))
          go_wp2
          go_ret2
          exact HF.out
        by_cases h5 : yp < 1
        · have HF := hideIt (HBAD.out (by unfold strF wiB; simp; omega))
          go_wp2
          go_ret2
          exact HF.out
        by_cases h6 : 1000000 < yp
        · have HF := hideIt (HBAD.out (by unfold strF wiB; simp; omega))
          go_wp2
          go_ret2
          exact HF.out
        by_cases h7 : yn < 1
        · have HF := hideIt (HBAD.out (by unfold strF wiB; simp; omega))
          go_wp2
          go_ret2
          exact HF.out
        by_cases h9 : 1000000 < yn
        · have HF := hideIt (HBAD.out (by unfold strF wiB; simp; omega))
          go_wp2
          go_ret2
          exact HF.out
        have HOK := hideIt (HNX.out (by unfold strF wiB; simp; omega))
        clear HBAD HNX
        go_wp2
        go_roundw
        case rel => exact ⟨t + 1, by go_num, by omega, hideIt ⟨HOK.out, B1.out⟩⟩
        case measure => simp [RowKit.intOf]; omega
      · have hltI : ¬ (t : Int) < (l.length : Int) := by omega
        have HALL : Hid (∀ x ∈ l, strF x = false) := fun x hx => by
          obtain ⟨i, hi, rfl⟩ := List.mem_iff_getElem.1 hx
          exact HR.out.1 i hi (by omega)
        have HNL := hideIt (HOKL.out HALL.out)
        have HB1 := hideIt HR.out.2
        clear HR HB0 HOKL
        have HPS := hideIt (fun t => pos_trp (netS l) t)
        have HPL := hideIt (fun t => posT_len (netS l) t)
        have H0 : Hid ((posT (netS l) 0).length = 0) := by show _ = _; simp [posT]
        have HST := hideIt (fun i (hi : i < l.length) x => show trp (netS (l.take (i + 1))) x = _ from (congrArg (fun f => trp f x) (show netS (l.take (i + 1)) = netS1 (netS (l.take i)) l[i] by unfold netS; rw [List.take_succ_eq_append_getElem hi, List.foldl_append]; rfl)).trans (trp_net (netS (l.take i)) l[i] x))
        have HGS := hideIt (fun i x => g_small (small_take HALL.out i) x)
        have HTI := hideIt (fun x => show trp (netS (l.take 0)) x = (0, 0, false) by simp [netS, trp, gM, gG])
        have HTL := hideIt (fun x => show trp (netS (l.take l.length)) x = trp (netS l) x by rw [List.take_length])
        have HEL : Hid (∀ i (hi : i < l.length), (1 ≤ l[i].price ∧ l[i].price ≤ 1000000) ∧ (1 ≤ l[i].n ∧ l[i].n ≤ 1000000)) := fun i hi => (str_ok (HALL.out _ (List.getElem_mem hi))).2.2
        have X0 : Hid (wr.ownsRow w.heap.size 31 3 (.slice none 0 0) (posT (netS l) 0).length (celC posE (posT (netS l) 0)) ∧ Below w.heap.size w wr) := ⟨by simpa [posT, celC] using own_nil (k := 3) (e := 31) wr w.heap.size, HB1.out⟩
        clear HALL HB1
        generalize hPT : posT (netS l) = PT at *
        clear hPT
        go_upto_region 11 with fail
        go_loopw [6, 7] (fun u v wr => ∃ t : Nat, ∃ ua un uc, u = .slice ua un uc ∧ v = .int .i64 ((t : Int) + 1) ∧ t ≤ 8 ∧ un = (PT t).length ∧ Hid (wr.ownsRow w.heap.size 31 3 (.slice ua un uc) (PT t).length (celC posE (PT t)) ∧ Below w.heap.size w wr)) (fun _ v _ => 9 - (RowKit.intOf v).toNat)
        case atStart => exact ⟨0, none, 0, 0, rfl, rfl, by omega, H0.out.symm, X0⟩
        case round =>
          clear X0 H0
          obtain ⟨t2, ua, un, uc, rfl, rfl, ht2, hun, HP⟩ := hrel
          have hln := HPL.out t2
          subst hun
          by_cases hlt2 : t2 < 8
          · have hlt2I : (t2 : Int) + 1 ≤ 8 := by omega
            have hwt : IntKind.i64.wrap ((t2 : Int) + 1 + 1) = (t2 : Int) + 1 + 1 := by rw [IntKind.wrap_i64]; omega
            have N0 : Hid (NB w wr.heap.size ((t2 : Int) + 1) 0 0 (PT t2) (.slice ua (PT t2).length uc) (wr.alloc (.cells #[.int .i64 ((t2 : Int) + 1), .int .i64 0, .int .i64 0] 31))) := ⟨heap_alloc_new wr _, own_keep HP.out.1 (below1 _ _), fun e => by have := (HP.out.1.lt _ e).2; omega, below_via HP.out.2 (below1 _ _), HP.out.2.size⟩
            have hpt := HPS.out t2
            have HTI2 := hideIt (HTI.out ((t2 : Int) + 1))
            have HTL2 := hideIt (HTL.out ((t2 : Int) + 1))
            have HST2 := hideIt (fun i hi => HST.out i hi ((t2 : Int) + 1))
            have HGS2 := hideIt (fun i => HGS.out i ((t2 : Int) + 1))
            have HPT2 := hideIt hpt
            clear HP hpt
            generalize hx : (t2 : Int) + 1 = x at *
            have HX := hideIt hx
            clear hx
            go_upto_region 16 with fail
            have N0' := N0
            clear N0
            generalize wr.alloc (.cells #[.int .i64 x, .int .i64 0, .int .i64 0] 31) = WB at *
            generalize wr.heap.size = K at *
            go_loopw [9, 10] (fun bv iv wr => ∃ (i : Nat) (m g : Int) (is : Bool), bv = .bool is ∧ iv = .int .i64 i ∧ i ≤ l.length ∧ Hid (trp (netS (l.take i)) x = (m, g, is)) ∧ Hid (NB w K x m g (PT t2) (.slice ua (PT t2).length uc) wr)) (fun _ iv _ => l.length - (RowKit.intOf iv).toNat)
            case atStart => exact ⟨0, 0, 0, false, rfl, rfl, Nat.zero_le _, HTI2, N0'⟩
            case round =>
              clear N0' HTI2
              obtain ⟨i, m, g, is, rfl, rfl, hi, HTR, N1⟩ := hrel
              by_cases hil : i < l.length
              · have hilI : (i : Int) < (l.length : Int) := by omega
                have hi0 : (0 : Int) ≤ (i : Int) := by omega
                have hwi : IntKind.i64.wrap ((i : Int) + 1) = ((i + 1 : Nat) : Int) := by rw [IntKind.wrap_i64]; omega
                obtain ⟨b, off, rfl, hbl, q0, q1, q2, q3⟩ := HH.out i hil
                have hel := HEL.out i hil
                have HNX := hideIt (HST2.out i hil)
                have hbd := HGS2.out i
                have hgm : gM (netS (l.take i)) x = m := congrArg (·.1) HTR.out
                have hgg : gG (netS (l.take i)) x = g := congrArg (·.2.1) HTR.out
                rw [hgm, hgg] at hbd
                have hlt3 : (l.take i).length ≤ 1000 := by rw [List.length_take]; omega
                generalize l[i] = y at *
                obtain ⟨yb, ys, yp, yn⟩ := y
                dsimp only at q0 q1 q2 q3 hel HNX
                have hmu := mul_bd2 hel.1 hel.2
                have u1 : IntKind.i64.wrap (yp * yn) = yp * yn := by rw [IntKind.wrap_i64]; omega
                have u2 : IntKind.i64.wrap (m - yp * yn) = m - yp * yn := by rw [IntKind.wrap_i64]; omega
                have u3 : IntKind.i64.wrap (g + yn) = g + yn := by rw [IntKind.wrap_i64]; omega
                have u4 : IntKind.i64.wrap (m + yp * yn) = m + yp * yn := by rw [IntKind.wrap_i64]; omega
                have u5 : IntKind.i64.wrap (g - yn) = g - yn := by rw [IntKind.wrap_i64]; omega
                have u6 : IntKind.i64.wrap (m - yp * yn + yp * yn) = m - yp * yn + yp * yn := by rw [IntKind.wrap_i64]; omega
                have u7 : IntKind.i64.wrap (g + yn - yn) = g + yn - yn := by rw [IntKind.wrap_i64]; omega
                have HGM := hideIt hgm
                have HGG := hideIt hgg
                clear hgm hgg hbd hel hmu
                by_cases hbq : yb = x
                · by_cases hsq : ys = x
                  · obtain ⟨n0, n1, n2, nf, nz⟩ := N1.out.cells
                    have p0 := (N1.out.bel.cell (p := ⟨b, off + i * 4, none⟩) hbl).trans q0
                    have p1 := (N1.out.bel.cell (p := ⟨b, off + i * 4 + 1, none⟩) hbl).trans q1
                    have p2 := (N1.out.bel.cell (p := ⟨b, off + i * 4 + 2, none⟩) hbl).trans q2
                    have p3 := (N1.out.bel.cell (p := ⟨b, off + i * 4 + 3, none⟩) hbl).trans q3
                    have pz : b < wr.heap.size := Nat.lt_of_lt_of_le hbl N1.out.bel.size
                    go_upto_region 19 with fail
                    clear n0 n1 n2 nf nz p0 p1 p2 p3 pz
                    obtain ⟨n0, n1, n2, nf, nz⟩ := N1.out.cells
                    have p0 := (N1.out.bel.cell (p := ⟨b, off + i * 4, none⟩) hbl).trans q0
                    have p1 := (N1.out.bel.cell (p := ⟨b, off + i * 4 + 1, none⟩) hbl).trans q1
                    have p2 := (N1.out.bel.cell (p := ⟨b, off + i * 4 + 2, none⟩) hbl).trans q2
                    have p3 := (N1.out.bel.cell (p := ⟨b, off + i * 4 + 3, none⟩) hbl).trans q3
                    have pz : b < wr.heap.size := Nat.lt_of_lt_of_le hbl N1.out.bel.size
                    have N2 := hideIt ((N1.out.keep (Below.refl _ _).drew).setM (m - yp * yn))
                    go_upto_region 19 with fail
                    go_cut [94] from 81 to 95 (fun _ wx => wr.drew.setCell ⟨K, 1, none⟩ (.int .i64 (m - yp * yn)) = wx)
                    case first =>
                      clear N1 N2 HST2 HGS2 HPT2 HTL2 HH
                      go_region
                      all_goals go_wp2_with fail
                      all_goals go_meet
                      all_goals rfl
                    case rest =>
                    subst hcut
                    clear N1 n0 n1 n2 nf nz p0 p1 p2 p3 pz
                    generalize wr.drew.setCell ⟨K, 1, none⟩ (.int .i64 (m - yp * yn)) = W2 at *
                    obtain ⟨n0, n1, n2, nf, nz⟩ := N2.out.cells
                    have p0 := (N2.out.bel.cell (p := ⟨b, off + i * 4, none⟩) hbl).trans q0
                    have p1 := (N2.out.bel.cell (p := ⟨b, off + i * 4 + 1, none⟩) hbl).trans q1
                    have p2 := (N2.out.bel.cell (p := ⟨b, off + i * 4 + 2, none⟩) hbl).trans q2
                    have p3 := (N2.out.bel.cell (p := ⟨b, off + i * 4 + 3, none⟩) hbl).trans q3
                    have pz : b < W2.heap.size := Nat.lt_of_lt_of_le hbl N2.out.bel.size
                    have N3 := hideIt ((N2.out.keep (Below.refl _ _).drew).setG (g + yn))
                    go_upto_region 20 with fail
                    go_cut [103] from 96 to 104 (fun _ wx => W2.drew.setCell ⟨K, 2, none⟩ (.int .i64 (g + yn)) = wx)
                    case first =>
                      clear N2 N3 HST2 HGS2 HPT2 HTL2 HH
                      go_region
                      all_goals go_wp2_with fail
                      all_goals go_meet
                      all_goals rfl
                    case rest =>
                    subst hcut
                    clear N2 n0 n1 n2 nf nz p0 p1 p2 p3 pz
                    generalize W2.drew.setCell ⟨K, 2, none⟩ (.int .i64 (g + yn)) = W3 at *
                    obtain ⟨m2, hm2⟩ : ∃ m2, m2 = m - yp * yn := ⟨_, rfl⟩
                    obtain ⟨g2, hg2⟩ : ∃ g2, g2 = g + yn := ⟨_, rfl⟩
                    rw [← hm2, ← hg2] at N3
                    have v6 : IntKind.i64.wrap (m2 + yp * yn) = m2 + yp * yn := by rw [hm2]; exact u6
                    have v7 : IntKind.i64.wrap (g2 - yn) = g2 - yn := by rw [hg2]; exact u7
                    have HM2 := hideIt hm2
                    have HG2 := hideIt hg2
                    clear hm2 hg2 u6 u7
                    obtain ⟨n0, n1, n2, nf, nz⟩ := N3.out.cells
                    have p0 := (N3.out.bel.cell (p := ⟨b, off + i * 4, none⟩) hbl).trans q0
                    have p1 := (N3.out.bel.cell (p := ⟨b, off + i * 4 + 1, none⟩) hbl).trans q1
                    have p2 := (N3.out.bel.cell (p := ⟨b, off + i * 4 + 2, none⟩) hbl).trans q2
                    have p3 := (N3.out.bel.cell (p := ⟨b, off + i * 4 + 3, none⟩) hbl).trans q3
                    have pz : b < W3.heap.size := Nat.lt_of_lt_of_le hbl N3.out.bel.size
                    go_upto_region 23 with fail
                    clear n0 n1 n2 nf nz p0 p1 p2 p3 pz
                    obtain ⟨n0, n1, n2, nf, nz⟩ := N3.out.cells
                    have p0 := (N3.out.bel.cell (p := ⟨b, off + i * 4, none⟩) hbl).trans q0
                    have p1 := (N3.out.bel.cell (p := ⟨b, off + i * 4 + 1, none⟩) hbl).trans q1
                    have p2 := (N3.out.bel.cell (p := ⟨b, off + i * 4 + 2, none⟩) hbl).trans q2
                    have p3 := (N3.out.bel.cell (p := ⟨b, off + i * 4 + 3, none⟩) hbl).trans q3
                    have pz : b < W3.heap.size := Nat.lt_of_lt_of_le hbl N3.out.bel.size
                    have N4 := hideIt ((N3.out.keep (Below.refl _ _).drew).setM (m2 + yp * yn))
                    go_upto_region 23 with fail
                    go_cut [125] from 112 to 126 (fun _ wx => W3.drew.setCell ⟨K, 1, none⟩ (.int .i64 (m2 + yp * yn)) = wx)
                    case first =>
                      clear N3 N4 HST2 HGS2 HPT2 HTL2 HH
                      go_region
                      all_goals go_wp2_with fail
                      all_goals go_meet
                      all_goals rfl
                    case rest =>
                    subst hcut
                    clear N3 n0 n1 n2 nf nz p0 p1 p2 p3 pz
                    generalize W3.drew.setCell ⟨K, 1, none⟩ (.int .i64 (m2 + yp * yn)) = W4 at *
                    obtain ⟨n0, n1, n2, nf, nz⟩ := N4.out.cells
                    have p0 := (N4.out.bel.cell (p := ⟨b, off + i * 4, none⟩) hbl).trans q0
                    have p1 := (N4.out.bel.cell (p := ⟨b, off + i * 4 + 1, none⟩) hbl).trans q1
                    have p2 := (N4.out.bel.cell (p := ⟨b, off + i * 4 + 2, none⟩) hbl).trans q2
                    have p3 := (N4.out.bel.cell (p := ⟨b, off + i * 4 + 3, none⟩) hbl).trans q3
                    have pz : b < W4.heap.size := Nat.lt_of_lt_of_le hbl N4.out.bel.size
                    have N5 := hideIt ((N4.out.keep (Below.refl _ _).drew).setG (g2 - yn))
                    go_upto_region 24 with fail
                    go_cut [134] from 127 to 135 (fun _ wx => W4.drew.setCell ⟨K, 2, none⟩ (.int .i64 (g2 - yn)) = wx)
                    case first =>
                      clear N4 N5 HST2 HGS2 HPT2 HTL2 HH
                      go_region
                      all_goals go_wp2_with fail
                      all_goals go_meet
                      all_goals rfl
                    case rest =>
                    subst hcut
                    clear N4 n0 n1 n2 nf nz p0 p1 p2 p3 pz
                    generalize W4.drew.setCell ⟨K, 2, none⟩ (.int .i64 (g2 - yn)) = W5 at *
                    obtain ⟨n0, n1, n2, nf, nz⟩ := N5.out.cells
                    have p0 := (N5.out.bel.cell (p := ⟨b, off + i * 4, none⟩) hbl).trans q0
                    have p1 := (N5.out.bel.cell (p := ⟨b, off + i * 4 + 1, none⟩) hbl).trans q1
                    have p2 := (N5.out.bel.cell (p := ⟨b, off + i * 4 + 2, none⟩) hbl).trans q2
                    have p3 := (N5.out.bel.cell (p := ⟨b, off + i * 4 + 3, none⟩) hbl).trans q3
                    have pz : b < W5.heap.size := Nat.lt_of_lt_of_le hbl N5.out.bel.size
                    have HN : Hid (trp (netS (l.take (i + 1))) x = ((m2 + yp * yn), (g2 - yn), true)) := by
                      show _ = _
                      rw [HNX.out]
                      rw [if_pos hsq, if_pos hbq, if_pos hbq, HGM.out, HGG.out, ← HM2.out, ← HG2.out]
                    go_wp2
                    go_roundw
                    case rel => first | exact ⟨i + 1, (m2 + yp * yn), (g2 - yn), true, rfl, by go_num, by omega, HN, N5⟩ | ((repeat apply Exists.intro); exact ⟨⟨i + 1, (m2 + yp * yn), (g2 - yn), true, rfl, by go_num, by omega, HN, N5⟩, rfl⟩)
                    case measure => simp [RowKit.intOf]; omega
                  · have hsqb : (ys == x) = false := by simp [hsq]
                    obtain ⟨n0, n1, n2, nf, nz⟩ := N1.out.cells
                    have p0 := (N1.out.bel.cell (p := ⟨b, off + i * 4, none⟩) hbl).trans q0
                    have p1 := (N1.out.bel.cell (p := ⟨b, off + i * 4 + 1, none⟩) hbl).trans q1
                    have p2 := (N1.out.bel.cell (p := ⟨b, off + i * 4 + 2, none⟩) hbl).trans q2
                    have p3 := (N1.out.bel.cell (p := ⟨b, off + i * 4 + 3, none⟩) hbl).trans q3
                    have pz : b < wr.heap.size := Nat.lt_of_lt_of_le hbl N1.out.bel.size
                    go_upto_region 19 with fail
                    clear n0 n1 n2 nf nz p0 p1 p2 p3 pz
                    obtain ⟨n0, n1, n2, nf, nz⟩ := N1.out.cells
                    have p0 := (N1.out.bel.cell (p := ⟨b, off + i * 4, none⟩) hbl).trans q0
                    have p1 := (N1.out.bel.cell (p := ⟨b, off + i * 4 + 1, none⟩) hbl).trans q1
                    have p2 := (N1.out.bel.cell (p := ⟨b, off + i * 4 + 2, none⟩) hbl).trans q2
                    have p3 := (N1.out.bel.cell (p := ⟨b, off + i * 4 + 3, none⟩) hbl).trans q3
                    have pz : b < wr.heap.size := Nat.lt_of_lt_of_le hbl N1.out.bel.size
                    have N2 := hideIt ((N1.out.keep (Below.refl _ _).drew).setM (m - yp * yn))
                    go_upto_region 19 with fail
                    go_cut [94] from 81 to 95 (fun _ wx => wr.drew.setCell ⟨K, 1, none⟩ (.int .i64 (m - yp * yn)) = wx)
                    case first =>
                      clear N1 N2 HST2 HGS2 HPT2 HTL2 HH
                      go_region
                      all_goals go_wp2_with fail
                      all_goals go_meet
                      all_goals rfl
                    case rest =>
                    subst hcut
                    clear N1 n0 n1 n2 nf nz p0 p1 p2 p3 pz
                    generalize wr.drew.setCell ⟨K, 1, none⟩ (.int .i64 (m - yp * yn)) = W2 at *
                    obtain ⟨n0, n1, n2, nf, nz⟩ := N2.out.cells
                    have p0 := (N2.out.bel.cell (p := ⟨b, off + i * 4, none⟩) hbl).trans q0
                    have p1 := (N2.out.bel.cell (p := ⟨b, off + i * 4 + 1, none⟩) hbl).trans q1
                    have p2 := (N2.out.bel.cell (p := ⟨b, off + i * 4 + 2, none⟩) hbl).trans q2
                    have p3 := (N2.out.bel.cell (p := ⟨b, off + i * 4 + 3, none⟩) hbl).trans q3
                    have pz : b < W2.heap.size := Nat.lt_of_lt_of_le hbl N2.out.bel.size
                    have N3 := hideIt ((N2.out.keep (Below.refl _ _).drew).setG (g + yn))
                    go_upto_region 20 with fail
                    go_cut [103] from 96 to 104 (fun _ wx => W2.drew.setCell ⟨K, 2, none⟩ (.int .i64 (g + yn)) = wx)
                    case first =>
                      clear N2 N3 HST2 HGS2 HPT2 HTL2 HH
                      go_region
                      all_goals go_wp2_with fail
                      all_goals go_meet
                      all_goals rfl
                    case rest =>
                    subst hcut
                    clear N2 n0 n1 n2 nf nz p0 p1 p2 p3 pz
                    generalize W2.drew.setCell ⟨K, 2, none⟩ (.int .i64 (g + yn)) = W3 at *
                    obtain ⟨n0, n1, n2, nf, nz⟩ := N3.out.cells
                    have p0 := (N3.out.bel.cell (p := ⟨b, off + i * 4, none⟩) hbl).trans q0
                    have p1 := (N3.out.bel.cell (p := ⟨b, off + i * 4 + 1, none⟩) hbl).trans q1
                    have p2 := (N3.out.bel.cell (p := ⟨b, off + i * 4 + 2, none⟩) hbl).trans q2
                    have p3 := (N3.out.bel.cell (p := ⟨b, off + i * 4 + 3, none⟩) hbl).trans q3
                    have pz : b < W3.heap.size := Nat.lt_of_lt_of_le hbl N3.out.bel.size
                    have HN : Hid (trp (netS (l.take (i + 1))) x = ((m - yp * yn), (g + yn), true)) := by
                      show _ = _
                      rw [HNX.out]
                      simp [hbq, hsq, HGM.out, HGG.out, HTR.out]
                    go_wp2
                    go_roundw
                    case rel => first | exact ⟨i + 1, (m - yp * yn), (g + yn), true, rfl, by go_num, by omega, HN, N3⟩ | ((repeat apply Exists.intro); exact ⟨⟨i + 1, (m - yp * yn), (g + yn), true, rfl, by go_num, by omega, HN, N3⟩, rfl⟩)
                    case measure => simp [RowKit.intOf]; omega
                · have hbqb : (yb == x) = false := by simp [hbq]
                  by_cases hsq : ys = x
                  · obtain ⟨n0, n1, n2, nf, nz⟩ := N1.out.cells
                    have p0 := (N1.out.bel.cell (p := ⟨b, off + i * 4, none⟩) hbl).trans q0
                    have p1 := (N1.out.bel.cell (p := ⟨b, off + i * 4 + 1, none⟩) hbl).trans q1
                    have p2 := (N1.out.bel.cell (p := ⟨b, off + i * 4 + 2, none⟩) hbl).trans q2
                    have p3 := (N1.out.bel.cell (p := ⟨b, off + i * 4 + 3, none⟩) hbl).trans q3
                    have pz : b < wr.heap.size := Nat.lt_of_lt_of_le hbl N1.out.bel.size
                    go_upto_region 23 with fail
                    clear n0 n1 n2 nf nz p0 p1 p2 p3 pz
                    obtain ⟨n0, n1, n2, nf, nz⟩ := N1.out.cells
                    have p0 := (N1.out.bel.cell (p := ⟨b, off + i * 4, none⟩) hbl).trans q0
                    have p1 := (N1.out.bel.cell (p := ⟨b, off + i * 4 + 1, none⟩) hbl).trans q1
                    have p2 := (N1.out.bel.cell (p := ⟨b, off + i * 4 + 2, none⟩) hbl).trans q2
                    have p3 := (N1.out.bel.cell (p := ⟨b, off + i * 4 + 3, none⟩) hbl).trans q3
                    have pz : b < wr.heap.size := Nat.lt_of_lt_of_le hbl N1.out.bel.size
                    have N4 := hideIt ((N1.out.keep (Below.refl _ _).drew).setM (m + yp * yn))
                    go_upto_region 23 with fail
                    go_cut [125] from 112 to 126 (fun _ wx => wr.drew.setCell ⟨K, 1, none⟩ (.int .i64 (m + yp * yn)) = wx)
                    case first =>
                      clear N1 N4 HST2 HGS2 HPT2 HTL2 HH
                      go_region
                      all_goals go_wp2_with fail
                      all_goals go_meet
                      all_goals rfl
                    case rest =>
                    subst hcut
                    clear N1 n0 n1 n2 nf nz p0 p1 p2 p3 pz
                    generalize wr.drew.setCell ⟨K, 1, none⟩ (.int .i64 (m + yp * yn)) = W4 at *
                    obtain ⟨n0, n1, n2, nf, nz⟩ := N4.out.cells
                    have p0 := (N4.out.bel.cell (p := ⟨b, off + i * 4, none⟩) hbl).trans q0
                    have p1 := (N4.out.bel.cell (p := ⟨b, off + i * 4 + 1, none⟩) hbl).trans q1
                    have p2 := (N4.out.bel.cell (p := ⟨b, off + i * 4 + 2, none⟩) hbl).trans q2
                    have p3 := (N4.out.bel.cell (p := ⟨b, off + i * 4 + 3, none⟩) hbl).trans q3
                    have pz : b < W4.heap.size := Nat.lt_of_lt_of_le hbl N4.out.bel.size
                    have N5 := hideIt ((N4.out.keep (Below.refl _ _).drew).setG (g - yn))
                    go_upto_region 24 with fail
                    go_cut [134] from 127 to 135 (fun _ wx => W4.drew.setCell ⟨K, 2, none⟩ (.int .i64 (g - yn)) = wx)
                    case first =>
                      clear N4 N5 HST2 HGS2 HPT2 HTL2 HH
                      go_region
                      all_goals go_wp2_with fail
                      all_goals go_meet
                      all_goals rfl
                    case rest =>
                    subst hcut
                    clear N4 n0 n1 n2 nf nz p0 p1 p2 p3 pz
                    generalize W4.drew.setCell ⟨K, 2, none⟩ (.int .i64 (g - yn)) = W5 at *
                    obtain ⟨n0, n1, n2, nf, nz⟩ := N5.out.cells
                    have p0 := (N5.out.bel.cell (p := ⟨b, off + i * 4, none⟩) hbl).trans q0
                    have p1 := (N5.out.bel.cell (p := ⟨b, off + i * 4 + 1, none⟩) hbl).trans q1
                    have p2 := (N5.out.bel.cell (p := ⟨b, off + i * 4 + 2, none⟩) hbl).trans q2
                    have p3 := (N5.out.bel.cell (p := ⟨b, off + i * 4 + 3, none⟩) hbl).trans q3
                    have pz : b < W5.heap.size := Nat.lt_of_lt_of_le hbl N5.out.bel.size
                    have HN : Hid (trp (netS (l.take (i + 1))) x = ((m + yp * yn), (g - yn), true)) := by
                      show _ = _
                      rw [HNX.out]
                      simp [hbq, hsq, HGM.out, HGG.out, HTR.out]
                    go_wp2
                    go_roundw
                    case rel => first | exact ⟨i + 1, (m + yp * yn), (g - yn), true, rfl, by go_num, by omega, HN, N5⟩ | ((repeat apply Exists.intro); exact ⟨⟨i + 1, (m + yp * yn), (g - yn), true, rfl, by go_num, by omega, HN, N5⟩, rfl⟩)
                    case measure => simp [RowKit.intOf]; omega
                  · have hsqb : (ys == x) = false := by simp [hsq]
                    obtain ⟨n0, n1, n2, nf, nz⟩ := N1.out.cells
                    have p0 := (N1.out.bel.cell (p := ⟨b, off + i * 4, none⟩) hbl).trans q0
                    have p1 := (N1.out.bel.cell (p := ⟨b, off + i * 4 + 1, none⟩) hbl).trans q1
                    have p2 := (N1.out.bel.cell (p := ⟨b, off + i * 4 + 2, none⟩) hbl).trans q2
                    have p3 := (N1.out.bel.cell (p := ⟨b, off + i * 4 + 3, none⟩) hbl).trans q3
                    have pz : b < wr.heap.size := Nat.lt_of_lt_of_le hbl N1.out.bel.size
                    have HN : Hid (trp (netS (l.take (i + 1))) x = (m, g, is)) := by
                      show _ = _
                      rw [HNX.out]
                      simp [hbq, hsq, HGM.out, HGG.out, HTR.out]
                    go_wp2
                    go_roundw
                    case rel => first | exact ⟨i + 1, m, g, is, rfl, by go_num, by omega, HN, N1⟩ | ((repeat apply Exists.intro); exact ⟨⟨i + 1, m, g, is, rfl, by go_num, by omega, HN, N1⟩, rfl⟩)
                    case measure => simp [RowKit.intOf]; omega
              · have hilI : ¬ (i : Int) < (l.length : Int) := by omega
                have hie : i = l.length := by omega
                subst hie
                have hq := HTL2.out
                rw [HTR.out] at hq
                have hP2 := HPT2.out
                rw [← hq] at hP2
                have HP2 := hideIt hP2
                clear HTL2 HST2 HGS2 HPT2 HH HTR hq hP2 HEL HST HGS HTI HTL HPS
                cases is
                · have Z : Hid (wr.ownsRow w.heap.size 31 3 (.slice ua (PT t2).length uc) (PT (t2 + 1)).length (celC posE (PT (t2 + 1))) ∧ Below w.heap.size w wr) := by
                    have e : PT (t2 + 1) = PT t2 := by rw [HP2.out]; simp
                    rw [e]
                    exact ⟨N1.out.row, N1.out.bel⟩
                  have HE : Hid ((PT t2).length = (PT (t2 + 1)).length) := by show _ = _; rw [HP2.out]; simp
                  clear N1
                  go_wp2
                  go_roundw
                  case rel => exact ⟨t2 + 1, ua, _, uc, rfl, by rw [← HX.out]; congr 1, by omega, HE.out, Z⟩
                  case measure => simp [RowKit.intOf]; have := HX.out; omega
                · have hS : PT (t2 + 1) = PT t2 ++ [⟨x, m, g⟩] := by rw [HP2.out]; simp
                  obtain ⟨k0, k1, k2, kf, kz⟩ := N1.out.cells
                  have hb2 := below1 wr (.cells (posE ⟨x, m, g⟩).toArray 31)
                  obtain ⟨v', w', hrun, how, hgr⟩ := app1 (enc := posE) (t := 23) posK pos1 Try.underlying23 info31 rfl (by omega) (wr.alloc (.cells (posE ⟨x, m, g⟩).toArray 31)) w.heap.size (.slice ua (PT t2).length uc) (PT t2) ⟨x, m, g⟩ wr.heap.size 1 (Nat.le_trans N1.out.bel.size hb2.size) (own_keep N1.out.row hb2) (heap_alloc_new _ _) (by omega) (by unfold maxLen; omega)
                  rw [← hS] at how
                  obtain ⟨a', c', rfl⟩ := own_len how
                  obtain ⟨n1, hn1⟩ : ∃ n1, (PT (t2 + 1)).length = n1 := ⟨_, rfl⟩
                  have Z : Hid (w'.ownsRow w.heap.size 31 3 (.slice a' n1 c') (PT (t2 + 1)).length (celC posE (PT (t2 + 1))) ∧ Below w.heap.size w w') := ⟨by rw [← hn1]; exact how, grown_own hgr (own_keep N1.out.row hb2) (Nat.le_refl _) (below_via N1.out.bel hb2)⟩
                  rw [hn1] at hrun
                  have HRUN := hideIt hrun
                  unfold posE at HRUN
                  dsimp only at HRUN
                  have HN2 := hideIt hn1
                  clear hrun how hgr hb2 hn1 N1 hS HP2
                  go_wp2_with (at_builtin; refine Lib.wpList_append_run _ rfl _ _ _ _ rfl _ _ rfl rfl _ _ HRUN.out ?_)
                  clear HRUN
                  go_wp2
                  go_roundw
                  case rel => first | exact ⟨t2 + 1, a', n1, c', rfl, by rw [← HX.out]; congr 1, by omega, HN2.out.symm, Z⟩ | ((repeat apply Exists.intro); exact ⟨⟨t2 + 1, a', n1, c', rfl, by rw [← HX.out]; congr 1, by omega, HN2.out.symm, Z⟩, rfl⟩)
                  case measure => simp [RowKit.intOf]; have := HX.out; omega
          · have hlt2I : ¬ (t2 : Int) + 1 ≤ 8 := by omega
            have het : t2 = 8 := by omega
            subst het
            clear HPS HPL HST HGS HTI HTL HEL HH
            go_wp2
            go_ret2
            rw [HNL.out]
            exact ⟨_, _, rfl, HP.out⟩
end Go.Proofs.Ytbpnnhalajbjnaa
namespace Go.Proofs.Ytbpnnhalajbjnaa
open Go.RowKit
set_option linter.all false
theorem neq31 (a b c : Int) (w : World) : (binOp .neq 31 (.agg #[.int .i64 a, .int .i64 b, .int .i64 c]) (.agg #[.int .i64 a, .int .i64 b, .int .i64 c])).run Try.prog w = .ok (.bool false) w := by
  simp [go_sem]
set_option maxHeartbeats 4000000 in
set_option maxRecDepth 100000 in
theorem sameP_is (v v' : Value) (l : List PosV) (w : World) (h : Poss w v l) (h' : Poss w v' l) : Calls Try.prog 11 #[v, v'] w fun e w' => e = .returned (.bool true) ∧ Below w.heap.size w w' := by
  obtain ⟨a, c, rfl, h8, hr⟩ := h.poss
  obtain ⟨a', c', rfl, h8', hr'⟩ := h'.poss
  have HH := hideIt hr
  have HM := hideIt hr'
  clear hr hr' h h'
  go_enter Try.func11, Try.ntmps11
  go_wp2
  go_loopw [5] (fun v wr => ∃ t : Nat, v = .int .i64 t ∧ t ≤ l.length ∧ Hid (Below w.heap.size w wr)) (fun v _ => l.length - (RowKit.intOf v).toNat)
  case atStart => exact ⟨0, rfl, Nat.zero_le _, hideIt (Below.refl _ _)⟩
  case round =>
    obtain ⟨t, rfl, ht, HR⟩ := hrel
    by_cases hlt : t < l.length
    · have hltI : (t : Int) < (l.length : Int) := by omega
      have ht0 : (0 : Int) ≤ (t : Int) := by omega
      have hw : IntKind.i64.wrap ((t : Int) + 1) = ((t + 1 : Nat) : Int) := by rw [IntKind.wrap_i64]; omega
      have hB := HR.out
      obtain ⟨b, off, rfl, hbl, q0, q1, q2⟩ := HH.out t hlt
      have hblr : b < wr.heap.size := Nat.lt_of_lt_of_le hbl hB.size
      have c0 := (hB.cell (p := ⟨b, off + t * 3, none⟩) hbl).trans q0
      have c1 := (hB.cell (p := ⟨b, off + t * 3 + 1, none⟩) hbl).trans q1
      have c2 := (hB.cell (p := ⟨b, off + t * 3 + 2, none⟩) hbl).trans q2
      clear q0 q1 q2
      obtain ⟨b', off', rfl, hbl', q0, q1, q2⟩ := HM.out t hlt
      have hblr' : b' < wr.heap.size := Nat.lt_of_lt_of_le hbl' hB.size
      have d0 := (hB.cell (p := ⟨b', off' + t * 3, none⟩) hbl').trans q0
      have d1 := (hB.cell (p := ⟨b', off' + t * 3 + 1, none⟩) hbl').trans q1
      have d2 := (hB.cell (p := ⟨b', off' + t * 3 + 2, none⟩) hbl').trans q2
      clear q0 q1 q2 hB HH HM
      generalize l[t] = en at *
      obtain ⟨x, y, z⟩ := en
      dsimp only at c0 c1 c2 d0 d1 d2
      have q1 := fun W => neq31 x y z W
      go_wp2_with fail
      go_quiet (fail)
      go_wp2
      go_roundw
      case rel => exact ⟨t + 1, by go_num, by omega, hideIt (below_drewN HR.out _)⟩
      case measure => simp [RowKit.intOf]; omega
    · have hltI : ¬ (t : Int) < (l.length : Int) := by omega
      clear HH HM
      go_wp2
      go_ret
      exact ⟨rfl, HR.out⟩
theorem netL_len (l : List FillV) : (netL l).1.length ≤ 8 := by
  unfold netL
  split
  · simp
  · exact posT_len _ 8
set_option maxHeartbeats 4000000 in
set_option maxRecDepth 100000 in
theorem nets_walk (v : Value) (l : List FillV) (w : World) (h : Fils w v l) : Calls Try.prog 3 #[v] w fun e w' => e = .returned (.bool true) ∧ Below w.heap.size w w' := by
  have HN := hideIt (net_is v l w h)
  have HR := hideIt (fun W (hW : Below w.heap.size w W) => rNet_is v l W (h.keep hW))
  have HLV := hideIt (fun W => live_is W)
  have HSM := hideIt (fun u u' W (hu : Poss W u (netL l).1) (hu' : Poss W u' (netL l).1) => sameP_is u u' (netL l).1 W hu hu')
  have hln := netL_len l
  obtain ⟨a, c, rfl⟩ := h.slice
  clear h
  unfold NetB at HN HR
  generalize netL l = NL at *
  obtain ⟨np, ne⟩ := NL
  dsimp only at HN HR HSM hln
  go_enter Try.func3, Try.ntmps3
  go_wp2_with fail
  refine HN.out.mono ?_
  rintro e w1 ⟨na, nc, rfl, ho, hb⟩
  dsimp only
  have O1 := hideIt ho
  have B1 := hideIt hb
  clear ho hb HN
  go_wp2_with fail
  refine (HR.out _ B1.out).mono ?_
  rintro e w2 ⟨ra, rc, rfl, ho, hb⟩
  dsimp only
  have P1 : Hid (Poss w2 (.slice na np.length nc) np) := own_sgot (own_keep O1.out hb) (by omega)
  have P2 : Hid (Poss w2 (.slice ra np.length rc) np) := own_sgot ho (by omega)
  have B2 := hideIt (below_via B1.out hb)
  clear ho hb HR O1 B1
  go_wp2_with fail
  refine (HSM.out _ _ _ P1.out P2.out).mono ?_
  rintro e w3 ⟨rfl, hb⟩
  dsimp only
  have B3 := hideIt (below_via B2.out hb)
  clear hb HSM P1 P2 B2
  go_wp2_with fail
  refine (HLV.out _).mono ?_
  rintro e w4 ⟨rfl, hb⟩
  dsimp only
  have B4 := hideIt (below_via B3.out hb)
  clear hb B3
  go_wp2
  go_ret
  exact ⟨rfl, B4.out⟩
end Go.Proofs.Ytbpnnhalajbjnaa
namespace Go.Proofs.Ytbpnnhalajbjnaa
open Go.RowKit
set_option linter.all false
theorem place_ok {L : LaneV} {acc s price n : Int} {now : Bool} (h : (placeL L acc s price n now).2.2.2 = 0) : refE L acc s price n now = 0 ∧ placeL L acc s price n now = plX L acc s price n now ∧ overB (plR (plL L s (plT L s ⟨L.next, acc, price, n⟩).1 (plT L s ⟨L.next, acc, price, n⟩).2.2.1) s ⟨L.next, acc, price, (plT L s ⟨L.next, acc, price, n⟩).2.1⟩ now).owed = false := by
  unfold placeL at h ⊢
  by_cases hr : refE L acc s price n now ≠ 0
  · rw [if_pos hr] at h
    exact absurd h hr
  · have hr0 : refE L acc s price n now = 0 := by simpa using hr
    rw [if_neg hr] at h ⊢
    refine ⟨hr0, rfl, ?_⟩
    unfold plX at h
    split at h
    · simp at h
    · rename_i ho
      simpa using ho
theorem place_bad {L : LaneV} {acc s price n : Int} {now : Bool} (h : (placeL L acc s price n now).2.2.2 ≠ 0) : (placeL L acc s price n now).1 = zLane ∧ (placeL L acc s price n now).2.1 = [] ∧ (placeL L acc s price n now).2.2.1 = 0 := by
  unfold placeL at h ⊢
  by_cases hr : refE L acc s price n now ≠ 0
  · rw [if_pos hr]
    exact ⟨rfl, rfl, rfl⟩
  · rw [if_neg hr] at h ⊢
    unfold plX at h ⊢
    split
    · exact ⟨rfl, rfl, rfl⟩
    · rename_i ho
      rw [if_neg ho] at h
      exact absurd rfl h
theorem placeL_eq {L : LaneV} {acc s price n : Int} {now : Bool} (h : (placeL L acc s price n now).2.2.2 = 0) : placeL L acc s price n now = (plR (plL L s (plT L s ⟨L.next, acc, price, n⟩).1 (plT L s ⟨L.next, acc, price, n⟩).2.2.1) s ⟨L.next, acc, price, (plT L s ⟨L.next, acc, price, n⟩).2.1⟩ now, (plT L s ⟨L.next, acc, price, n⟩).2.2.2, L.next, 0) := by
  obtain ⟨h1, h2, h3⟩ := place_ok h
  rw [h2]
  unfold plX
  rw [h3]
  rfl
/-- The trades of an order: what stays. -/
theorem plT_suf {L : LaneV} {acc s price n : Int} {now : Bool} (hr : refE L acc s price n now = 0) : Suf (sideL L (if s = 1 then 2 else 1)) (plT L s ⟨L.next, acc, price, n⟩).1 ∧ 0 ≤ (plT L s ⟨L.next, acc, price, n⟩).2.1 ∧ (plT L s ⟨L.next, acc, price, n⟩).2.1 ≤ n := by
  obtain ⟨h1, h2, h3, h4, h5, h6, h7, h8⟩ := refE_ok hr
  have hb := (chk_bok L).1 h1
  have hm := chk_may h1
  unfold plT
  cases L.call
  · have hT : OkT (sideL L (if s = 1 then 2 else 1)) ∧ AccT (sideL L (if s = 1 then 2 else 1)) := by
      rcases h2 with rfl | rfl
      · exact ⟨hm.ta, (side_acc hb.sa).1⟩
      · exact ⟨hm.tb, (side_acc hb.sb).1⟩
    have := trL_suf s ⟨L.next, acc, price, n⟩ h8 _ n L.owed [] hT.1 hT.2 (by omega) (owed_owok hb.ow)
    exact ⟨this.1, this.2.2.2⟩
  · exact ⟨Suf.all _, by simp only [if_true]; omega, by simp only [if_true]; omega⟩
theorem hold_placed {L : LaneV} {acc s price n : Int} {now : Bool} (h : (placeL L acc s price n now).2.2.2 = 0) : holM (placeL L acc s price n now).1 = holM L + (if s = 1 then price * n else 0) ∧ holG (placeL L acc s price n now).1 = holG L + (if s = 1 then 0 else n) := by
  obtain ⟨h1, _, _⟩ := place_ok h
  have hs := (refE_ok h1).2.1
  rw [placeL_eq h]
  exact hold_place L s acc price n now hs (plT_suf h1).2.1
/-- Cancelled, what a book holds is the same. -/
theorem can_cases (L : LaneV) (acc id : Int) (hk : chkB L = true) : (canR L acc id).2.2 = 132 ∨ (canR L acc id).2.2 = 131 ∨ ((canR L acc id).2.2 = 0 ∧ holM (canR L acc id).1 = holM L ∧ holG (canR L acc id).1 = holG L) := by
  unfold canR
  rw [if_pos hk]
  split
  · exact .inl rfl
  · rename_i Mx hMx
    split
    · exact .inr (.inl rfl)
    · exact .inr (.inr ⟨rfl, hold_can (M := Mx.1) (o := Mx.2) hMx⟩)
theorem side_erase {s nx : Int} (hs : s = 1 ∨ s = 2) {l : List OrdV} (h : sideB s nx l = true) (i : Nat) : sideB s nx (l.eraseIdx i) = true := by
  unfold sideB at *
  simp only [Bool.and_eq_true, decide_eq_true_eq, Bool.not_eq_true', List.any_eq_false, Bool.not_eq_true] at *
  refine ⟨Nat.le_trans (List.Sublist.length_le (List.eraseIdx_sublist l i)) h.1, fun q hq => h.2.1 q ((List.eraseIdx_sublist l i).subset hq), ?_⟩
  have hp : ∀ {l : List OrdV}, srtB (ahB s) l = true → l.Pairwise (fun a b => ahB s a b = true) := by
    intro l
    induction l with
    | nil => exact fun _ => List.Pairwise.nil
    | cons x l ih =>
      intro h
      have i2 := ih (srt_tail h)
      refine List.pairwise_cons.2 ⟨fun z hz => ?_, i2⟩
      cases l with
      | nil => simp at hz
      | cons y l =>
        rcases List.mem_cons.1 hz with rfl | hz
        · exact srt_head h
        · exact ah_trans hs (srt_head h) ((List.pairwise_cons.1 i2).1 z hz)
  have hq : ∀ {l : List OrdV}, l.Pairwise (fun a b => ahB s a b = true) → srtB (ahB s) l = true := by
    intro l
    induction l with
    | nil => exact fun _ => rfl
    | cons x l ih =>
      intro h
      rw [List.pairwise_cons] at h
      exact srt_cons (ih h.2) (fun y hy => h.1 y (List.mem_of_mem_head? hy))
  exact hq ((hp h.2.2).sublist (List.eraseIdx_sublist l i))
theorem erase_head {s : Int} (hs : s = 1 ∨ s = 2) {l : List OrdV} (h : srtB (ahB s) l = true) (i : Nat) {r : OrdV} (hr : (l.eraseIdx i).head? = some r) : ∃ t, l.head? = some t ∧ worse s r.price t.price := by
  cases l with
  | nil => simp at hr
  | cons q rs =>
    refine ⟨q, rfl, ?_⟩
    cases i with
    | zero =>
      cases rs with
      | nil => simp at hr
      | cons z rs =>
        simp only [List.eraseIdx_cons_zero, List.head?_cons, Option.some.injEq] at hr
        subst hr
        exact ah_worse hs (srt_head h)
    | succ i =>
      simp only [List.eraseIdx_cons_succ, List.head?_cons, Option.some.injEq] at hr
      subst hr
      unfold worse; split <;> omega
theorem ids_erase (l : List OrdV) (i : Nat) : (idsL (l.eraseIdx i)).Sublist (idsL l) := (List.eraseIdx_sublist l i).map _
theorem can_may {L M : LaneV} {acc id : Int} {x : OrdV} (hk : chkB L = true) (h : canF L acc id = some (M, x)) (ho : overB M.owed = false) : chkB M = true := by
  have hB := (chk_bok L).1 hk
  have hm := chk_may hk
  rw [chk_bok]
  unfold canF at h
  split at h
  · rename_i i hi
    rw [List.findIdx?_eq_some_iff_getElem] at hi
    obtain ⟨h1, _, _⟩ := hi
    have e : L.bids.getD i ⟨0, 0, 0, 0⟩ = L.bids[i] := by simp [List.getD_eq_getElem?_getD, List.getElem?_eq_getElem h1]
    rw [e] at h
    simp only [Option.some.injEq, Prod.mk.injEq] at h
    obtain ⟨rfl, rfl⟩ := h
    have ha := (side_acc hB.sb).1 _ (List.getElem_mem h1)
    have ht := hm.tb _ (List.getElem_mem h1)
    refine ⟨hB.next, side_erase (.inl rfl) hB.sb i, hB.sa, hB.nd.sublist ((ids_erase _ _).append (List.Sublist.refl _)), ?_, owok_owed (owok_owe (owed_owok hB.ow) ha (by omega) (by unfold brN; rw [if_pos rfl]; exact mul_pos1 ht.1.1 ht.2.1)) ho⟩
    rcases hB.cr with h | h
    · exact .inl h
    · refine .inr (fun p q hp hq => ?_)
      obtain ⟨t, htt, hw⟩ := erase_head (.inl rfl) (side_acc hB.sb).2.2 i hp
      have := h t q htt hq
      unfold worse at hw
      simp at hw
      omega
  · split at h
    · rename_i i hi
      rw [List.findIdx?_eq_some_iff_getElem] at hi
      obtain ⟨h1, _, _⟩ := hi
      have e : L.asks.getD i ⟨0, 0, 0, 0⟩ = L.asks[i] := by simp [List.getD_eq_getElem?_getD, List.getElem?_eq_getElem h1]
      rw [e] at h
      simp only [Option.some.injEq, Prod.mk.injEq] at h
      obtain ⟨rfl, rfl⟩ := h
      have ha := (side_acc hB.sa).1 _ (List.getElem_mem h1)
      have ht := hm.ta _ (List.getElem_mem h1)
      refine ⟨hB.next, hB.sb, side_erase (.inr rfl) hB.sa i, hB.nd.sublist ((List.Sublist.refl _).append (ids_erase _ _)), ?_, owok_owed (owok_owe (owed_owok hB.ow) ha (by omega) (by unfold brN; rw [if_neg (by omega)]; exact ht.2.1)) ho⟩
      rcases hB.cr with h | h
      · exact .inl h
      · refine .inr (fun p q hp hq => ?_)
        obtain ⟨t, htt, hw⟩ := erase_head (.inr rfl) (side_acc hB.sa).2.2 i hq
        have := h p t hp htt
        unfold worse at hw
        simp at hw
        omega
    · cases h
theorem canR_may {L : LaneV} {acc id : Int} (h : (canR L acc id).2.2 = 0) : chkB (canR L acc id).1 = true := by
  unfold canR at h ⊢
  by_cases hk : chkB L = true
  · rw [if_pos hk] at h ⊢
    split
    · rename_i hc
      rw [hc] at h
      simp at h
    · rename_i Mx hc
      rw [hc] at h
      simp only at h
      split
      · rename_i ho
        rw [if_pos ho] at h
        simp at h
      · rename_i ho
        exact can_may (M := Mx.1) (x := Mx.2) hk hc (by simpa using ho)
  · rw [if_neg hk] at h
    simp at h
/-- An order that is for now alone does not rest. -/
theorem out_none {acc id : Int} {l : List OrdV} (h : id ∉ idsL l) : l.findIdx? (outP acc id) = none := by
  rw [List.findIdx?_eq_none_iff]
  intro q hq
  unfold outP
  have : q.id ≠ id := fun e => h (by unfold idsL; rw [List.mem_map]; exact ⟨q, hq, e⟩)
  simp [this]
theorem can_none {M : LaneV} {acc id : Int} (h1 : id ∉ idsL M.bids) (h2 : id ∉ idsL M.asks) : canF M acc id = none := by
  unfold canF
  rw [out_none h1, out_none h2]
theorem now_out {L : LaneV} {acc s price n : Int} (h : (placeL L acc s price n true).2.2.2 = 0) : (placeL L acc s price n true).2.2.1 = L.next ∧ (canR (placeL L acc s price n true).1 acc L.next).2.2 = 132 ∧ (s = 1 ∧ (placeL L acc s price n true).1.bids = L.bids ∨ s = 2 ∧ (placeL L acc s price n true).1.asks = L.asks) := by
  have hk := placeL_may h
  obtain ⟨hr, _, _⟩ := place_ok h
  obtain ⟨g1, hs, _⟩ := refE_ok hr
  have hB := (chk_bok L).1 g1
  have hT := (plT_suf hr).1
  have e := placeL_eq h
  refine ⟨by rw [e], ?_, ?_⟩
  · have hn : canF (placeL L acc s price n true).1 acc L.next = none := by
      rw [e]
      unfold plR plL
      rcases hs with rfl | rfl
      · simp only [if_true, show ¬ (2 : Int) = 1 by omega, if_false, sideL] at hT ⊢
        by_cases h0 : 0 < (plT L 1 ⟨L.next, acc, price, n⟩).2.1
        · rw [if_pos h0]; exact can_none (ids_in hB.sb) (suf_nx hB.sa hT)
        · rw [if_neg h0]; exact can_none (ids_in hB.sb) (suf_nx hB.sa hT)
      · simp only [if_true, show ¬ (2 : Int) = 1 by omega, if_false, sideL] at hT ⊢
        by_cases h0 : 0 < (plT L 2 ⟨L.next, acc, price, n⟩).2.1
        · rw [if_pos h0]; exact can_none (suf_nx hB.sb hT) (ids_in hB.sa)
        · rw [if_neg h0]; exact can_none (suf_nx hB.sb hT) (ids_in hB.sa)
    unfold canR
    rw [if_pos hk, hn]
  · rw [e]
    unfold plR plL
    rcases hs with rfl | rfl
    · refine .inl ⟨rfl, ?_⟩
      simp only [if_true]
      split <;> rfl
    · refine .inr ⟨rfl, ?_⟩
      simp only [show ¬ (2 : Int) = 1 by omega, if_false, if_true]
      split <;> rfl
theorem now_bad {L : LaneV} {acc s price n : Int} {now : Bool} (h : (placeL L acc s price n now).2.2.2 ≠ 0) : (placeL L acc s price n now).2.2.1 = 0 := (place_bad h).2.2
theorem hol_bd {L : LaneV} (hk : chkB L = true) : (0 ≤ holM L ∧ holM L ≤ 184115188075855872) ∧ (0 ≤ holG L ∧ holG L ≤ 144115188115855872) := by
  have hm := chk_may hk
  have h1 := sumP_b40 hm.tb hm.lb L.bids.length
  have h2 := sumQ_b40 hm.ta hm.la L.asks.length
  have h3 := sumA_b16 (a := 0) hm.ow L.owed.length
  have h4 := sumA_b16 (a := 1) hm.ow L.owed.length
  rw [List.take_of_length_le (Nat.le_refl _)] at h1 h2 h3 h4
  unfold holM holG
  omega
end Go.Proofs.Ytbpnnhalajbjnaa
namespace Go.Proofs.Ytbpnnhalajbjnaa
open Go.RowKit
set_option linter.all false
theorem gM_net (f : Sums) (y : FillV) (x : Int) : gM (netS1 f y) x = gM f x + gM (netS1 (fun _ => none) y) x := by
  have h1 := congrArg (·.1) (trp_net f y x)
  have h2 := congrArg (·.1) (trp_net (fun _ => none) y x)
  unfold trp at h1 h2
  have e0 : gM (fun _ => none) x = 0 := rfl
  simp only [e0] at h1 h2
  rw [h1, h2]
  by_cases e1 : y.buyer = x <;> by_cases e2 : y.seller = x <;> simp [e1, e2] <;> omega
theorem gG_net (f : Sums) (y : FillV) (x : Int) : gG (netS1 f y) x = gG f x + gG (netS1 (fun _ => none) y) x := by
  have h1 := congrArg (·.2.1) (trp_net f y x)
  have h2 := congrArg (·.2.1) (trp_net (fun _ => none) y x)
  unfold trp at h1 h2
  have e0 : gG (fun _ => none) x = 0 := rfl
  simp only [e0] at h1 h2
  rw [h1, h2]
  by_cases e1 : y.buyer = x <;> by_cases e2 : y.seller = x <;> simp [e1, e2] <;> omega
theorem is_net (f : Sums) (y : FillV) (x : Int) : (netS1 f y x).isSome = ((f x).isSome || (netS1 (fun _ => none) y x).isSome) := by
  have h1 := congrArg (·.2.2) (trp_net f y x)
  have h2 := congrArg (·.2.2) (trp_net (fun _ => none) y x)
  unfold trp at h1 h2
  simp only at h1 h2
  rw [h1, h2]
  by_cases e1 : y.buyer = x <;> by_cases e2 : y.seller = x <;> simp [e1, e2]
theorem fold_net : ∀ (l : List FillV) (f : Sums) (x : Int), gM (l.foldl netS1 f) x = gM f x + gM (netS l) x ∧ gG (l.foldl netS1 f) x = gG f x + gG (netS l) x ∧ ((l.foldl netS1 f) x).isSome = ((f x).isSome || (netS l x).isSome)
  | [], f, x => by simp [netS, gM, gG]
  | y :: l, f, x => by
    obtain ⟨a1, a2, a3⟩ := fold_net l (netS1 f y) x
    obtain ⟨b1, b2, b3⟩ := fold_net l (netS1 (fun _ => none) y) x
    have e : netS (y :: l) = l.foldl netS1 (netS1 (fun _ => none) y) := rfl
    rw [List.foldl_cons, e, a1, a2, a3, b1, b2, b3, gM_net f y x, gG_net f y x, is_net f y x, Bool.or_assoc]
    exact ⟨by omega, by omega, rfl⟩
theorem net_app (l k : List FillV) (x : Int) : gM (netS (l ++ k)) x = gM (netS l) x + gM (netS k) x ∧ gG (netS (l ++ k)) x = gG (netS l) x + gG (netS k) x ∧ (netS (l ++ k) x).isSome = ((netS l x).isSome || (netS k x).isSome) := by
  have := fold_net k (netS l) x
  unfold netS at this ⊢
  rw [List.foldl_append]
  exact this
theorem posT_ext {f g : Sums} (h : ∀ x, trp f x = trp g x) : ∀ t, posT f t = posT g t
  | 0 => rfl
  | t + 1 => by rw [pos_trp, pos_trp, posT_ext h t, h]
theorem net_turn (l k : List FillV) (t : Nat) : posT (netS (k ++ l)) t = posT (netS (l ++ k)) t := by
  refine posT_ext (fun x => ?_) t
  obtain ⟨a1, a2, a3⟩ := net_app l k x
  obtain ⟨b1, b2, b3⟩ := net_app k l x
  unfold trp
  rw [a1, a2, a3, b1, b2, b3, Bool.or_comm]
  simp only [Prod.mk.injEq, and_true]
  omega
/-- The position of an account in a list, or nothing. -/
def ofP (l : List PosV) (x : Int) : PosV := (l.find? (fun p => decide (p.acc = x))).getD ⟨0, 0, 0⟩
theorem find_pos (f : Sums) (x : Int) : ∀ t : Nat, (posT f t).find? (fun p => decide (p.acc = x)) = if 1 ≤ x ∧ x ≤ (t : Int) ∧ (f x).isSome = true then some ⟨x, gM f x, gG f x⟩ else none
  | 0 => by
    rw [if_neg (by omega)]
    rfl
  | t + 1 => by
    rw [pos_trp, List.find?_append, find_pos f x t]
    by_cases h1 : 1 ≤ x ∧ x ≤ (t : Int) ∧ (f x).isSome = true
    · have h2 : 1 ≤ x ∧ x ≤ ((t + 1 : Nat) : Int) ∧ (f x).isSome = true := ⟨h1.1, by push_cast; omega, h1.2.2⟩
      rw [if_pos h1, Option.some_or, if_pos h2]
    · rw [if_neg h1]
      simp only [Option.none_or]
      unfold trp
      simp only
      by_cases e : (t : Int) + 1 = x
      · subst e
        cases hf : (f ((t : Int) + 1)).isSome
        · rw [if_neg (by simp), if_neg (by simp)]
          rfl
        · rw [if_pos rfl, if_pos ⟨by omega, by push_cast; omega, rfl⟩]
          simp
      · have h2 : ¬ (1 ≤ x ∧ x ≤ ((t + 1 : Nat) : Int) ∧ (f x).isSome = true) := fun hc => h1 ⟨hc.1, by have := hc.2.1; push_cast at this; omega, hc.2.2⟩
        rw [if_neg h2]
        split
        · simp [e]
        · rfl
theorem of_pos (f : Sums) {x : Int} (hx : 1 ≤ x ∧ x ≤ 8) : (ofP (posT f 8) x).m = gM f x ∧ (ofP (posT f 8) x).g = gG f x := by
  unfold ofP
  rw [find_pos]
  by_cases h : (f x).isSome = true
  · rw [if_pos ⟨hx.1, by push_cast; omega, h⟩]
    exact ⟨rfl, rfl⟩
  · rw [if_neg (fun hc => h hc.2.2)]
    have hn : f x = none := by
      cases hf : f x with
      | none => rfl
      | some p => rw [hf] at h; exact absurd rfl h
    unfold gM gG
    rw [hn]
    exact ⟨rfl, rfl⟩
end Go.Proofs.Ytbpnnhalajbjnaa
namespace Go.Proofs.Ytbpnnhalajbjnaa
open Go.RowKit
set_option linter.all false
theorem SGot.upto {α : Type} {k bytes : Nat} {enc : α → List Value} {w : World} {a : Option Addr} {c : Nat} {l : List α} (hk : ∀ x, (enc x).length = k) (h : SGot k bytes enc w (.slice a l.length c) l) (t : Nat) (ht : t ≤ l.length) : SGot k bytes enc w (.slice a t c) (l.take t) := by
  obtain ⟨h8, a', c', e, hc, hr⟩ := h
  simp only [Value.slice.injEq, true_and] at e
  obtain ⟨rfl, rfl⟩ := e
  have hl : (l.take t).length = t := by rw [List.length_take]; omega
  refine ⟨by rw [hl]; exact Nat.le_trans (Nat.mul_le_mul_right _ ht) h8, a, c, by rw [hl], ⟨by rw [hl]; omega, hc.2⟩, fun hp => ?_⟩
  rw [hl] at hp
  obtain ⟨b, off, ha, hb, hcell⟩ := hr (by omega)
  refine ⟨b, off, ha, hb, fun j hj => ?_⟩
  rw [hl] at hj
  have hjl : j < l.length * k := Nat.lt_of_lt_of_le hj (Nat.mul_le_mul_right _ ht)
  rw [hcell j hjl, ← celC_take hk, List.getElem?_take, if_pos hj]
theorem SGot.from {α : Type} {k bytes : Nat} {enc : α → List Value} {w : World} {a : Option Addr} {c : Nat} {l : List α} (hk : ∀ x, (enc x).length = k) (h : SGot k bytes enc w (.slice a l.length c) l) (t : Nat) (ht : t ≤ l.length) : SGot k bytes enc w (.slice (if c = t then a else a.map (·.add (t * k))) (l.length - t) (c - t)) (l.drop t) := by
  obtain ⟨h8, a', c', e, hc, hr⟩ := h
  simp only [Value.slice.injEq, true_and] at e
  obtain ⟨rfl, rfl⟩ := e
  have hl : (l.drop t).length = l.length - t := List.length_drop
  refine ⟨by rw [hl]; exact Nat.le_trans (Nat.mul_le_mul_right _ (Nat.sub_le _ _)) h8, _, _, by rw [hl], ⟨by rw [hl]; omega, by omega⟩, fun hp => ?_⟩
  rw [hl] at hp
  obtain ⟨b, off, ha, hb, hcell⟩ := hr (by omega)
  subst ha
  refine ⟨b, off + t * k, by rw [if_neg (by omega)]; simp only [Option.map_some, addN], hb, fun j hj => ?_⟩
  rw [hl, Nat.sub_mul] at hj
  have hle : t * k ≤ l.length * k := Nat.mul_le_mul_right _ ht
  rw [Nat.add_assoc, hcell (t * k + j) (by omega), ← celC_drop hk, List.getElem?_drop]
/-- Whatever list behind one of the call's own. -/
theorem appG {α : Type} {k bytes : Nat} {enc : α → List Value} {t e : TypeId} {z : Value} (hk : ∀ x, (enc x).length = k) (h1 : ∀ x, ∀ u ∈ enc x, u.oneCell' = true) (ht : Try.prog.underlying t = some (.slice e))
    (hi : (Try.prog.info? e).map (fun i => (i.zero, i.size, i.bytes)) = some (some z, k, bytes)) (hz : z.cells.size = k) (hk0 : 0 < k) (hb0 : 8 ≤ bytes) (w : World) (B : Nat) (v : Value) (xs l : List α) (g : Value) (hB : B ≤ w.heap.size)
    (ho : w.ownsRow B e k v xs.length (celC enc xs)) (hg : SGot k bytes enc w g l) (hl : (xs.length + l.length) * bytes ≤ 140737488355328) :
    ∃ v' w', (Builtin.append_ #[t, t] t #[v, g]).run Try.prog w = .ok v' w' ∧ w'.ownsRow B e k v' (xs ++ l).length (celC enc (xs ++ l)) ∧ w.grownBy w' v.ownBlock := by
  obtain ⟨a, c, rfl⟩ := hg.slice
  cases a with
  | none =>
    have h0 : l.length = 0 := by
      obtain ⟨_, a', c', e', _, hr⟩ := hg
      simp only [Value.slice.injEq] at e'
      rcases Nat.eq_zero_or_pos l.length with h0 | h0
      · exact h0
      · obtain ⟨b, off, hb, _⟩ := hr h0
        rw [← e'.1] at hb
        cases hb
    have hl0 : l = [] := List.length_eq_zero_iff.1 h0
    subst hl0
    refine ⟨v, w, app_none ht hi w B v _ _ ho c, ?_, grown_refl _ _⟩
    rw [List.append_nil]
    exact ho
  | some b => exact appL hk h1 ht hi hz hk0 hb0 w B v xs l b l.length c rfl hB ho hg hl
theorem of_at {l : List PosV} {t : Nat} (h : t < l.length) (x : Int) : ofP (l.drop t) x = if l[t].acc = x then l[t] else ofP (l.drop (t + 1)) x := by
  unfold ofP
  rw [List.drop_eq_getElem_cons h, List.find?_cons]
  by_cases e : l[t].acc = x <;> simp [e]
theorem pos_at (f : Sums) : ∀ (t : Nat) (p : PosV), p ∈ posT f t → 1 ≤ p.acc ∧ p.acc ≤ (t : Int) ∧ p.m = gM f p.acc ∧ p.g = gG f p.acc
  | 0, p, h => by simp [posT] at h
  | t + 1, p, h => by
    rw [pos_trp, List.mem_append] at h
    rcases h with h | h
    · obtain ⟨h1, h2, h3⟩ := pos_at f t p h
      exact ⟨h1, by push_cast; omega, h3⟩
    · split at h
      · rw [List.mem_singleton] at h
        subst h
        refine ⟨by show (1 : Int) ≤ (t : Int) + 1; omega, by show (t : Int) + 1 ≤ _; push_cast; omega, rfl, rfl⟩
      · simp at h
theorem nets_ok {l : List FillV} (hl : l.length ≤ 1000) (h : ∀ x ∈ l, strF x = false) : netL l = (posT (netS l) 8, 0) := by
  unfold netL
  rw [if_neg]
  simp only [Bool.or_eq_true, decide_eq_true_eq, List.any_eq_true, not_or, not_exists, not_and]
  exact ⟨by omega, fun x hx => by simp [h x hx]⟩
/-- All that ClearParts asks, in plain data. -/
theorem parts_all {l : List FillV} (hl : l.length ≤ 1000) (h : ∀ x ∈ l, strF x = false) (t : Nat) :
    netL l = (posT (netS l) 8, 0) ∧ netL (l.take t) = (posT (netS (l.take t)) 8, 0) ∧ netL (l.drop t) = (posT (netS (l.drop t)) 8, 0) ∧ netL (l.drop t ++ l.take t) = (posT (netS l) 8, 0) ∧
    ∀ p ∈ posT (netS l) 8, ((ofP (posT (netS (l.take t)) 8) p.acc).m + (ofP (posT (netS (l.drop t)) 8) p.acc).m = p.m ∧ (ofP (posT (netS (l.take t)) 8) p.acc).g + (ofP (posT (netS (l.drop t)) 8) p.acc).g = p.g) ∧ (-2000000000000000 ≤ p.m ∧ p.m ≤ 2000000000000000) ∧ (-2000000000000000 ≤ p.g ∧ p.g ≤ 2000000000000000) := by
  have ht : ∀ x ∈ l.take t, strF x = false := fun x hx => h x (List.mem_of_mem_take hx)
  have hd : ∀ x ∈ l.drop t, strF x = false := fun x hx => h x (List.mem_of_mem_drop hx)
  refine ⟨nets_ok hl h, nets_ok (Nat.le_trans (List.length_take_le' _ _) hl) ht, nets_ok (by rw [List.length_drop]; omega) hd, ?_, fun p hp => ?_⟩
  · rw [nets_ok (by simp; omega) (fun x hx => by
      rw [List.mem_append] at hx
      rcases hx with hx | hx
      · exact hd x hx
      · exact ht x hx), net_turn, List.take_append_drop]
  · obtain ⟨a1, a2, a3, a4⟩ := pos_at _ _ p hp
    obtain ⟨b1, b2⟩ := of_pos (netS (l.take t)) (x := p.acc) ⟨a1, a2⟩
    obtain ⟨c1, c2⟩ := of_pos (netS (l.drop t)) (x := p.acc) ⟨a1, a2⟩
    obtain ⟨d1, d2, -⟩ := net_app (l.take t) (l.drop t) p.acc
    rw [List.take_append_drop] at d1 d2
    have z := (zero_all hl h).2.2.2.1 p hp
    exact ⟨⟨by rw [b1, c1, a3, d1], by rw [b2, c2, a4, d2]⟩, z.1, z.2⟩
end Go.Proofs.Ytbpnnhalajbjnaa
namespace Go.Proofs.Ytbpnnhalajbjnaa
open Go.RowKit
set_option linter.all false
theorem put3 (wc : World) (b : Nat) (ty : TypeId) (v0 v1 v2 : Value) {z0 z1 z2 : Value} (h : wc.heap[b]? = some (.cells #[z0, z1, z2] ty (0, 0))) :
    (((wc.setCell ⟨b, 0, none⟩ v0).setCell ⟨b, 1, none⟩ v1).setCell ⟨b, 2, none⟩ v2).heap[b]? = some (.cells #[v0, v1, v2] ty (0, 0)) := by
  have h0 := heap_set h 0 v0
  have h1 := heap_set h0 1 v1
  exact heap_set h1 2 v2
theorem three_at {w : World} {p : Nat} {t : TypeId} {a b c : Value} (h : w.heap[p]? = some (.cells #[a, b, c] t (0, 0))) : (w.cell? ⟨p, 0, none⟩ = some a ∧ w.cell? ⟨p, 1, none⟩ = some b ∧ w.cell? ⟨p, 2, none⟩ = some c) ∧ (∀ j, w.frozen? ⟨p, j, none⟩ = false) ∧ p < w.heap.size :=
  ⟨⟨by rw [cell_at h]; rfl, by rw [cell_at h]; rfl, by rw [cell_at h]; rfl⟩, fun j => free_at h j, (Array.getElem?_eq_some_iff.1 h).1⟩
set_option maxHeartbeats 4000000 in
set_option maxRecDepth 100000 in
theorem of_is (v : Value) (l : List PosV) (x : Int) (w : World) (h : Poss w v l) : Calls Try.prog 13 #[v, .int .i64 x] w fun e w' => e = .returned (.agg #[.int .i64 (ofP l x).acc, .int .i64 (ofP l x).m, .int .i64 (ofP l x).g]) ∧ Below w.heap.size w w' := by
  obtain ⟨a, c, rfl, h8, hr⟩ := h.poss
  have HH := hideIt hr
  clear hr h
  have HF := hideIt (fun t (ht : t < l.length) => of_at ht x)
  have HE : Hid (ofP (l.drop 0) x = ofP l x) := by show _ = _; rw [List.drop_zero]
  have HZ : Hid (ofP (l.drop l.length) x = ⟨0, 0, 0⟩) := by show _ = _; rw [List.drop_length]; rfl
  generalize hfu : (fun t : Nat => ofP (l.drop t) x) = F at *
  have HT : Hid (∀ t, ofP (l.drop t) x = F t) := fun t => congrFun hfu t
  simp only [HT.out] at HF HE HZ
  clear hfu HT
  generalize ofP l x = R at *
  have X0 : Hid (Below w.heap.size w (w.alloc (.cells #[.int .i64 0, .int .i64 0, .int .i64 0] 31)) ∧ (w.alloc (.cells #[.int .i64 0, .int .i64 0, .int .i64 0] 31)).heap[w.heap.size]? = some (.cells #[.int .i64 0, .int .i64 0, .int .i64 0] 31 (0, 0))) := ⟨below1 w _, heap_alloc_new w _⟩
  go_enter Try.func13, Try.ntmps13
  go_upto_region 2 with fail
  generalize w.alloc (.cells #[.int .i64 0, .int .i64 0, .int .i64 0] 31) = W0 at *
  go_loopw [5] (fun v wr => ∃ t : Nat, v = .int .i64 t ∧ t ≤ l.length ∧ Hid (F t = R) ∧ Hid (wr = W0)) (fun v _ => l.length - (RowKit.intOf v).toNat)
  case atStart => exact ⟨0, rfl, Nat.zero_le _, HE, hideIt rfl⟩
  case round =>
    obtain ⟨t, rfl, ht, HR, HW⟩ := hrel
    have hw0 := HW.out
    subst hw0
    clear HW
    obtain ⟨⟨r0, r1, r2⟩, rf, rz⟩ := three_at X0.out.2
    by_cases hlt : t < l.length
    · have hltI : (t : Int) < (l.length : Int) := by omega
      have ht0 : (0 : Int) ≤ (t : Int) := by omega
      have hw : IntKind.i64.wrap ((t : Int) + 1) = ((t + 1 : Nat) : Int) := by rw [IntKind.wrap_i64]; omega
      have HF1 := hideIt (HF.out t hlt)
      obtain ⟨b, off, rfl, hbl, q0, q1, q2⟩ := HH.out t hlt
      have hblr : b < wr.heap.size := Nat.lt_of_lt_of_le hbl X0.out.1.size
      have c0 := (X0.out.1.cell (p := ⟨b, off + t * 3, none⟩) hbl).trans q0
      have c1 := (X0.out.1.cell (p := ⟨b, off + t * 3 + 1, none⟩) hbl).trans q1
      have c2 := (X0.out.1.cell (p := ⟨b, off + t * 3 + 2, none⟩) hbl).trans q2
      clear q0 q1 q2 HH HF
      generalize l[t] = y at *
      obtain ⟨ya, ym, yg⟩ := y
      dsimp only at c0 c1 c2 HF1
      by_cases e : ya = x
      · rw [if_pos e] at HF1
        have HV : Hid (R = ⟨ya, ym, yg⟩) := HR.out.symm.trans HF1.out
        have hne : b ≠ w.heap.size := by omega
        have HP := hideIt (put3 wr w.heap.size 31 (.int .i64 ya) (.int .i64 ym) (.int .i64 yg) X0.out.2)
        have HB := hideIt (belowSet (j := 2) (.int .i64 yg) (belowSet (j := 1) (.int .i64 ym) (belowSet (j := 0) (.int .i64 ya) X0.out.1 (Nat.le_refl _)) (Nat.le_refl _)) (Nat.le_refl _))
        subst e
        clear HF1 HR X0 HE HZ
        go_wp2
        revert HP HB
        generalize (World.setCell _ ⟨w.heap.size, 2, none⟩ _) = WF
        intro HP HB
        exact bodyPost_ret (v := .agg #[.int .i64 ya, .int .i64 ym, .int .i64 yg]) (by simp [results, Try.results13, go_sem, cell_at HP.out]) rfl ⟨by rw [HV.out], HB.out⟩
      · rw [if_neg e] at HF1
        have HV : Hid (F (t + 1) = R) := HF1.out.symm.trans HR.out
        have hee : (ya == x) = false := by simpa using e
        clear HF1 HR
        go_wp2
        go_roundw
        case rel => exact ⟨t + 1, by go_num, by omega, HV, by first | exact hideIt rfl | exact hideIt trivial⟩
        case measure => simp [RowKit.intOf]; omega
    · have hltI : ¬ (t : Int) < (l.length : Int) := by omega
      have het : t = l.length := by omega
      subst het
      have HV : Hid (R = ⟨0, 0, 0⟩) := HR.out.symm.trans HZ.out
      have HP := hideIt (put3 wr w.heap.size 31 (.int .i64 0) (.int .i64 0) (.int .i64 0) X0.out.2)
      have HB := hideIt (belowSet (j := 2) (.int .i64 0) (belowSet (j := 1) (.int .i64 0) (belowSet (j := 0) (.int .i64 0) X0.out.1 (Nat.le_refl _)) (Nat.le_refl _)) (Nat.le_refl _))
      clear HR X0 HE HZ HH HF
      go_wp2
      revert HP HB
      generalize (World.setCell _ ⟨w.heap.size, 2, none⟩ _) = WF
      intro HP HB
      exact bodyPost_ret (v := .agg #[.int .i64 0, .int .i64 0, .int .i64 0]) (by simp [results, Try.results13, go_sem, cell_at HP.out]) rfl ⟨by rw [HV.out], HB.out⟩
theorem ge_small {x : Int} (h : i64B x) (n : Nat) (hn : n ≤ 1000) : ∃ t : Nat, t ≤ n ∧ (x < 0 → Int.tmod (-(x + 1)) ((n : Int) + 1) = (t : Int)) ∧ (0 ≤ x → Int.tmod x ((n : Int) + 1) = (t : Int)) := by
  by_cases hx : x < 0
  · refine ⟨((-(x + 1)) % ((n : Int) + 1)).toNat, ?_, fun _ => ?_, fun h0 => by omega⟩
    · have := Int.emod_lt_of_pos (-(x + 1)) (show (0 : Int) < (n : Int) + 1 by omega)
      have := Int.emod_nonneg (-(x + 1)) (show (n : Int) + 1 ≠ 0 by omega)
      omega
    · rw [Int.tmod_eq_emod_of_nonneg (by omega)]
      have := Int.emod_nonneg (-(x + 1)) (show (n : Int) + 1 ≠ 0 by omega)
      omega
  · refine ⟨(x % ((n : Int) + 1)).toNat, ?_, fun h0 => by omega, fun _ => ?_⟩
    · have := Int.emod_lt_of_pos x (show (0 : Int) < (n : Int) + 1 by omega)
      have := Int.emod_nonneg x (show (n : Int) + 1 ≠ 0 by omega)
      omega
    · rw [Int.tmod_eq_emod_of_nonneg (by omega)]
      have := Int.emod_nonneg x (show (n : Int) + 1 ≠ 0 by omega)
      omega
theorem wfB3 {x : Int} (h : (Lit.int .i64 x).wf = true) : i64B x := by
  have e1 : IntKind.i64.min = -9223372036854775808 := by decide
  have e2 : IntKind.i64.max = 9223372036854775807 := by decide
  simpa [Lit.wf, e1, e2, i64B] using h
theorem size67 (w : World) : (Go.sizeOf 67).run Try.prog w = .ok 4 w := by simp [go_sem]
theorem run_upto (a : Option Addr) (n c t : Nat) (ht : t ≤ c) (W : World) : (Instr.slice 22 (.slice a n c) none (some (.int .i64 (t : Int))) none).run Try.prog W = .ok (.slice a t c) W := by
  have ht' : Try.prog.underlying 22 = some (.slice (Try.prog.elem 22)) := by simp [Program.elem, Try.underlying22]
  have he : Try.prog.elem 22 = 67 := by simp [Program.elem, Try.underlying22]
  rw [run_slice_h W 22 _ _ _ ht' .i64 _ (by omega) (by omega), he, size67]
  have e0 : (fun x : Addr => x.add (0 * 4)) = id := by funext x; simp [Addr.add]
  simp [Result.andThen, sliced, e0]
theorem run_from (a : Option Addr) (n c t : Nat) (ht : t ≤ n) (W : World) : (Instr.slice 22 (.slice a n c) (some (.int .i64 (t : Int))) none none).run Try.prog W = .ok (.slice (if c = t then a else a.map (·.add (t * 4))) (n - t) (c - t)) W := by
  have ht' : Try.prog.underlying 22 = some (.slice (Try.prog.elem 22)) := by simp [Program.elem, Try.underlying22]
  have he : Try.prog.elem 22 = 67 := by simp [Program.elem, Try.underlying22]
  rw [run_slice_l W 22 _ _ _ ht' .i64 _ (by omega) (by omega), he, size67]
  simp [Result.andThen, sliced]
set_option maxHeartbeats 16000000 in
set_option maxRecDepth 100000 in
theorem parts_walk (v : Value) (l : List FillV) (x : Int) (w : World) (h : Fils w v l) (hx : i64B x) : Calls Try.prog 5 #[v, .int .i64 x] w fun e w' => e = .returned (.bool true) ∧ Below w.heap.size w w' := by
  have HN := hideIt (net_is v l w h)
  have HLV := hideIt (fun W => live_is W)
  by_cases hb : (decide (1000 < l.length) || l.any strF) = true
  · obtain ⟨a, c, rfl⟩ := h.slice
    clear h
    have e : netL l = ([], 150) := by unfold netL; rw [if_pos hb]
    unfold NetB at HN
    rw [e] at HN
    dsimp only at HN
    clear e hb
    go_enter Try.func5, Try.ntmps5
    go_wp2_with fail
    refine HN.out.mono ?_
    rintro e w1 ⟨na, nc, rfl, ho, hb⟩
    dsimp only
    have HB1 := hideIt hb
    clear ho hb HN
    go_wp2_with fail
    refine (HLV.out _).mono ?_
    rintro e w2 ⟨rfl, hb⟩
    dsimp only
    have HB2 := hideIt (below_via HB1.out hb)
    clear hb HB1
    go_wp2
    go_ret
    exact ⟨rfl, HB2.out⟩
  · have hb2 : l.length ≤ 1000 ∧ ∀ x ∈ l, strF x = false := by
      simp only [Bool.or_eq_true, decide_eq_true_eq, List.any_eq_true, not_or, not_exists, not_and] at hb
      exact ⟨by omega, fun x hx => by simpa using hb.2 x hx⟩
    clear hb
    obtain ⟨t, htl, hm1, hm2⟩ := ge_small hx l.length hb2.1
    obtain ⟨n1, n2, n3, n4, hall⟩ := parts_all hb2.1 hb2.2 t
    have hl1 := posT_len (netS l) 8
    have hl2 := posT_len (netS (l.take t)) 8
    have hl3 := posT_len (netS (l.drop t)) 8
    obtain ⟨a, c, rfl⟩ := h.slice
    have hcap := h.cap
    have HG1 := hideIt (h.upto filK t htl)
    have HG2 := hideIt (h.from filK t htl)
    have R1 := fun W => run_upto a l.length c t (by omega) W
    have R2 := fun W => run_from a l.length c t htl W
    generalize (if c = t then a else a.map (·.add (t * 4))) = a2 at *
    generalize hA : posT (netS l) 8 = P at *
    generalize hB : posT (netS (l.take t)) 8 = PA at *
    generalize hC : posT (netS (l.drop t)) 8 = PB at *
    clear hA hB hC
    have HN1 := hideIt (fun W (hW : Below w.heap.size w W) => net_is (.slice a t c) (l.take t) W (HG1.out.keep hW))
    have HN2 := hideIt (fun W (hW : Below w.heap.size w W) => net_is (.slice a2 (l.length - t) (c - t)) (l.drop t) W (HG2.out.keep hW))
    have HN3 := hideIt (fun u W (hu : Fils W u (l.drop t ++ l.take t)) => net_is u (l.drop t ++ l.take t) W hu)
    have hsum : (l.drop t).length + (l.take t).length ≤ 1000 := by simp; omega
    have HA1 := hideIt (fun W (hW : Below w.heap.size w W) => app0 (t := 22) (e := 67) filK fil1 Try.underlying22 info39 rfl (by omega) (by omega) W (.slice a2 (l.length - t) (c - t)) (l.drop t) (HG2.out.keep hW))
    have HA2 := hideIt (fun W u (hW : Below w.heap.size w W) (hu : W.ownsRow w.heap.size 67 4 u (l.drop t).length (celC filE (l.drop t))) => appG (t := 22) (e := 67) filK fil1 Try.underlying22 info39 rfl (by omega) (by omega) W w.heap.size u (l.drop t) (l.take t) (.slice a t c) hW.size hu (HG1.out.keep hW) (by omega))
    unfold NetB at HN HN1 HN2 HN3
    rw [n1] at HN
    rw [n2] at HN1
    rw [n3] at HN2
    rw [n4] at HN3
    dsimp only at HN HN1 HN2 HN3
    have hln3 : (l.drop t ++ l.take t).length ≤ 1000 := by simp; omega
    have HALL := hideIt hall
    have HSM := hideIt (fun u u' W (hu : Poss W u P) (hu' : Poss W u' P) => sameP_is u u' P W hu hu')
    have HOA := hideIt (fun y u W (hu : Poss W u PA) => of_is u PA y W hu)
    have HOB := hideIt (fun y u W (hu : Poss W u PB) => of_is u PB y W hu)
    have hcI : (t : Int) ≤ (c : Int) := by omega
    have htI : (t : Int) ≤ (l.length : Int) := by omega
    have ht0 : (0 : Int) ≤ (t : Int) := by omega
    have hw1 : IntKind.i64.wrap ((l.length : Int) + 1) = (l.length : Int) + 1 := by rw [IntKind.wrap_i64]; omega
    have hnz : ((l.length : Int) + 1 == 0) = false := by simp; omega
    have hl0 := hb2.1
    generalize l.drop t = D at *
    generalize l.take t = T at *
    generalize D ++ T = Q at *
    clear n1 n2 n3 n4 hall HG1 HG2 hcap h hb2
    by_cases hxn : x < 0
    · have hw2 : IntKind.i64.wrap (x + 1) = x + 1 := by unfold i64B at hx; rw [IntKind.wrap_i64]; omega
      have hw3 : IntKind.i64.wrap (-(x + 1)) = -(x + 1) := by unfold i64B at hx; rw [IntKind.wrap_i64]; omega
      have hm := hm1 hxn
      have hw4 : IntKind.i64.wrap (t : Int) = (t : Int) := by rw [IntKind.wrap_i64]; omega
      clear hm1 hm2 hx
      go_enter Try.func5, Try.ntmps5
      go_wp2_with fail
      refine HN.out.mono ?_
      rintro e w1 ⟨na, nc, rfl, ho, hb⟩
      dsimp only
      have O1 := hideIt ho
      have B1 := hideIt hb
      clear ho hb HN
      go_wp2_with fail
      refine (HN1.out _ B1.out).mono ?_
      rintro e w2 ⟨aa, ac, rfl, ho, hb⟩
      dsimp only
      have O2 := hideIt (own_keep O1.out hb)
      have A2 := hideIt (own_base ho B1.out.size)
      have B2 := hideIt (below_via B1.out hb)
      clear ho hb HN1 O1 B1
      go_wp2_with fail
      refine (HN2.out _ B2.out).mono ?_
      rintro e w3 ⟨ba, bc, rfl, ho, hb⟩
      dsimp only
      have O3 := hideIt (own_keep O2.out hb)
      have A3 := hideIt (own_keep A2.out hb)
      have E3 := hideIt (own_base ho B2.out.size)
      have B3 := hideIt (below_via B2.out hb)
      clear ho hb HN2 O2 A2 B2
      obtain ⟨ta, tc, w4, hrun, how, hb⟩ := HA1.out w3 B3.out
      have HRUN1 := hideIt hrun
      have B4 := hideIt (below_via B3.out hb)
      have how4 := own_base how B3.out.size
      obtain ⟨tv, w5, hrun2, how5, hgr⟩ := HA2.out w4 _ B4.out how4
      obtain ⟨qa, qc, rfl⟩ := own_len how5
      have HRUN2 := hideIt hrun2
      have B5 := hideIt (grown_own hgr how4 (Nat.le_refl _) B4.out)
      have O5 := hideIt (own_type hgr how4 (own_keep O3.out hb) (by decide))
      have A5 := hideIt (own_type hgr how4 (own_keep A3.out hb) (by decide))
      have E5 := hideIt (own_type hgr how4 (own_keep E3.out hb) (by decide))
      have F5 : Hid (Fils w5 (.slice qa Q.length qc) Q) := own_sgot how5 (by omega)
      clear hrun hrun2 how how4 how5 hgr hb O3 A3 E3 B3 B4 HA1 HA2
      go_upto_region 11 with (at_builtin; refine Lib.wpList_append_run _ rfl _ _ _ _ rfl _ _ rfl rfl _ _ HRUN1.out ?_)
      go_upto_region 12 with (at_builtin; refine Lib.wpList_append_run _ rfl _ _ _ _ rfl _ _ rfl rfl _ _ HRUN2.out ?_)
      clear HRUN1 HRUN2
      go_wp2_with fail
      refine (HN3.out _ _ F5.out).mono ?_
      rintro e w6 ⟨ra, rc, rfl, ho, hb⟩
      dsimp only
      have P6 : Hid (Poss w6 (.slice na P.length nc) P) := own_sgot (own_keep O5.out hb) (by omega)
      have Q6 : Hid (Poss w6 (.slice ra P.length rc) P) := own_sgot ho (by omega)
      have A6 : Hid (Poss w6 (.slice aa PA.length ac) PA) := own_sgot (own_keep A5.out hb) (by omega)
      have E6 : Hid (Poss w6 (.slice ba PB.length bc) PB) := own_sgot (own_keep E5.out hb) (by omega)
      have B6 := hideIt (below_via B5.out hb)
      clear ho hb HN3 O5 A5 E5 B5 F5
      go_wp2_with fail
      refine (HSM.out _ _ _ P6.out Q6.out).mono ?_
      rintro e w7 ⟨rfl, hb⟩
      dsimp only
      have P7 := hideIt (P6.out.keep hb)
      have A7 := hideIt (A6.out.keep hb)
      have E7 := hideIt (E6.out.keep hb)
      have B7 := hideIt (below_via B6.out hb)
      clear hb P6 Q6 A6 E6 B6 HSM R1 R2
      obtain ⟨pa, pc, e, -, hr⟩ := P7.out.poss
      simp only [Value.slice.injEq, true_and] at e
      obtain ⟨rfl, rfl⟩ := e
      have HH := hideIt hr
      clear hr P7
      go_upto_region 16 with fail
      go_loopw [14] (fun v wr => ∃ i : Nat, v = .int .i64 i ∧ i ≤ P.length ∧ Hid (Below w7.heap.size w7 wr)) (fun v _ => P.length - (intOf v).toNat)
      case atStart => exact ⟨0, rfl, Nat.zero_le _, hideIt (Below.refl _ _)⟩
      case round =>
        obtain ⟨i, rfl, hi, HR⟩ := hrel
        by_cases hlt : i < P.length
        · have hltI : (i : Int) < (P.length : Int) := by omega
          have hi0 : (0 : Int) ≤ (i : Int) := by omega
          have hwi : IntKind.i64.wrap ((i : Int) + 1) = ((i + 1 : Nat) : Int) := by rw [IntKind.wrap_i64]; omega
          obtain ⟨b, off, rfl, hbl, q0, q1, q2⟩ := HH.out i hlt
          have hblr : b < wr.heap.size := Nat.lt_of_lt_of_le hbl HR.out.size
          have c0 := (HR.out.cell (p := ⟨b, off + i * 3, none⟩) hbl).trans q0
          have HPE := hideIt (HALL.out P[i] (List.getElem_mem hlt))
          clear HH HALL
          generalize P[i] = y at *
          obtain ⟨ya, ym, yg⟩ := y
          dsimp only at c0 q0 q1 q2 HPE
          go_wp2_with fail
          refine (HOA.out ya _ wr (A7.out.keep HR.out)).mono ?_
          rintro e w8 ⟨rfl, hb⟩
          dsimp only
          obtain ⟨s0, s1, s2⟩ := HPE.out
          have hs1 := s0.1
          have hs2 := s0.2
          generalize (ofP PA ya).acc = xa at *
          generalize (ofP PA ya).m = xm at *
          generalize (ofP PA ya).g = xg at *
          have hb1 := below1 w8 (.cells #[.int .i64 xa, .int .i64 xm, .int .i64 xg] 31)
          have R8 := hideIt (below_via HR.out (below_via hb hb1))
          have K8 := hideIt (heap_alloc_new w8 (.cells #[.int .i64 xa, .int .i64 xm, .int .i64 xg] 31))
          have d0 := (R8.out.cell (p := ⟨b, off + i * 3, none⟩) hbl).trans q0
          have dz : b < (w8.alloc (.cells #[.int .i64 xa, .int .i64 xm, .int .i64 xg] 31)).heap.size := Nat.lt_of_lt_of_le hbl R8.out.size
          clear hb hb1 HR c0 hblr HOA HPE s0
          go_upto_region 19 with fail
          generalize w8.alloc (.cells #[.int .i64 xa, .int .i64 xm, .int .i64 xg] 31) = W8 at *
          generalize w8.heap.size = k8 at *
          go_wp2_with fail
          refine (HOB.out ya _ W8 (E7.out.keep R8.out)).mono ?_
          rintro e w9 ⟨rfl, hb⟩
          dsimp only
          generalize (ofP PB ya).acc = za at *
          generalize (ofP PB ya).m = zm at *
          generalize (ofP PB ya).g = zg at *
          have hb1 := below1 w9 (.cells #[.int .i64 za, .int .i64 zm, .int .i64 zg] 31)
          have R9 := hideIt (below_via R8.out (below_via hb hb1))
          have K9 := hideIt (heap_alloc_new w9 (.cells #[.int .i64 za, .int .i64 zm, .int .i64 zg] 31))
          have K89 := hideIt (((below_via hb hb1).block _ (Array.getElem?_eq_some_iff.1 K8.out).1).trans K8.out)
          have f1 := (R9.out.cell (p := ⟨b, off + i * 3 + 1, none⟩) hbl).trans q1
          have f2 := (R9.out.cell (p := ⟨b, off + i * 3 + 2, none⟩) hbl).trans q2
          have fz : b < (w9.alloc (.cells #[.int .i64 za, .int .i64 zm, .int .i64 zg] 31)).heap.size := Nat.lt_of_lt_of_le hbl R9.out.size
          clear hb hb1 R8 K8 d0 dz q0 q1 q2 HOB hbl
          go_upto_region 20 with fail
          generalize w9.alloc (.cells #[.int .i64 za, .int .i64 zm, .int .i64 zg] 31) = W9 at *
          generalize w9.heap.size = k9 at *
          obtain ⟨⟨g0, g1, g2⟩, -, gz⟩ := three_at K89.out
          obtain ⟨⟨j0, j1, j2⟩, -, jz⟩ := three_at K9.out
          have hwA : IntKind.i64.wrap (xm + zm) = ym := by rw [hs1, IntKind.wrap_i64]; omega
          have hwB : IntKind.i64.wrap (xg + zg) = yg := by rw [hs2, IntKind.wrap_i64]; omega
          have hgA : (!decide (ym = ym)) = false := by simp
          have hgB : (!decide (yg = yg)) = false := by simp
          clear K89 K9 hs1 hs2 s1 s2
          go_quiet (fail)
          have R10 := hideIt (below_drewN R9.out nq)
          clear R9 f1 f2 fz g0 g1 g2 gz j0 j1 j2 jz
          generalize W9.drewN nq = W10 at *
          go_wp2
          go_roundw
          case rel => exact ⟨i + 1, by go_num, by omega, R10⟩
          case measure => simp [intOf]; omega
        · have hltI : ¬ (i : Int) < (P.length : Int) := by omega
          have B8 := hideIt (below_via B7.out HR.out)
          clear HR HH HALL HOA HOB A7 E7 B7
          go_wp2_with fail
          refine (HLV.out _).mono ?_
          rintro e w8 ⟨rfl, hb⟩
          dsimp only
          have B9 := hideIt (below_via B8.out hb)
          clear hb B8
          go_wp2
          go_ret
          exact ⟨rfl, B9.out⟩
    · have hm := hm2 (by omega)
      have hw4 : IntKind.i64.wrap (t : Int) = (t : Int) := by rw [IntKind.wrap_i64]; omega
      clear hm1 hm2 hx
      go_enter Try.func5, Try.ntmps5
      go_wp2_with fail
      refine HN.out.mono ?_
      rintro e w1 ⟨na, nc, rfl, ho, hb⟩
      dsimp only
      have O1 := hideIt ho
      have B1 := hideIt hb
      clear ho hb HN
      go_wp2_with fail
      refine (HN1.out _ B1.out).mono ?_
      rintro e w2 ⟨aa, ac, rfl, ho, hb⟩
      dsimp only
      have O2 := hideIt (own_keep O1.out hb)
      have A2 := hideIt (own_base ho B1.out.size)
      have B2 := hideIt (below_via B1.out hb)
      clear ho hb HN1 O1 B1
      go_wp2_with fail
      refine (HN2.out _ B2.out).mono ?_
      rintro e w3 ⟨ba, bc, rfl, ho, hb⟩
      dsimp only
      have O3 := hideIt (own_keep O2.out hb)
      have A3 := hideIt (own_keep A2.out hb)
      have E3 := hideIt (own_base ho B2.out.size)
      have B3 := hideIt (below_via B2.out hb)
      clear ho hb HN2 O2 A2 B2
      obtain ⟨ta, tc, w4, hrun, how, hb⟩ := HA1.out w3 B3.out
      have HRUN1 := hideIt hrun
      have B4 := hideIt (below_via B3.out hb)
      have how4 := own_base how B3.out.size
      obtain ⟨tv, w5, hrun2, how5, hgr⟩ := HA2.out w4 _ B4.out how4
      obtain ⟨qa, qc, rfl⟩ := own_len how5
      have HRUN2 := hideIt hrun2
      have B5 := hideIt (grown_own hgr how4 (Nat.le_refl _) B4.out)
      have O5 := hideIt (own_type hgr how4 (own_keep O3.out hb) (by decide))
      have A5 := hideIt (own_type hgr how4 (own_keep A3.out hb) (by decide))
      have E5 := hideIt (own_type hgr how4 (own_keep E3.out hb) (by decide))
      have F5 : Hid (Fils w5 (.slice qa Q.length qc) Q) := own_sgot how5 (by omega)
      clear hrun hrun2 how how4 how5 hgr hb O3 A3 E3 B3 B4 HA1 HA2
      go_upto_region 11 with (at_builtin; refine Lib.wpList_append_run _ rfl _ _ _ _ rfl _ _ rfl rfl _ _ HRUN1.out ?_)
      go_upto_region 12 with (at_builtin; refine Lib.wpList_append_run _ rfl _ _ _ _ rfl _ _ rfl rfl _ _ HRUN2.out ?_)
      clear HRUN1 HRUN2
      go_wp2_with fail
      refine (HN3.out _ _ F5.out).mono ?_
      rintro e w6 ⟨ra, rc, rfl, ho, hb⟩
      dsimp only
      have P6 : Hid (Poss w6 (.slice na P.length nc) P) := own_sgot (own_keep O5.out hb) (by omega)
      have Q6 : Hid (Poss w6 (.slice ra P.length rc) P) := own_sgot ho (by omega)
      have A6 : Hid (Poss w6 (.slice aa PA.length ac) PA) := own_sgot (own_keep A5.out hb) (by omega)
      have E6 : Hid (Poss w6 (.slice ba PB.length bc) PB) := own_sgot (own_keep E5.out hb) (by omega)
      have B6 := hideIt (below_via B5.out hb)
      clear ho hb HN3 O5 A5 E5 B5 F5
      go_wp2_with fail
      refine (HSM.out _ _ _ P6.out Q6.out).mono ?_
      rintro e w7 ⟨rfl, hb⟩
      dsimp only
      have P7 := hideIt (P6.out.keep hb)
      have A7 := hideIt (A6.out.keep hb)
      have E7 := hideIt (E6.out.keep hb)
      have B7 := hideIt (below_via B6.out hb)
      clear hb P6 Q6 A6 E6 B6 HSM R1 R2
      obtain ⟨pa, pc, e, -, hr⟩ := P7.out.poss
      simp only [Value.slice.injEq, true_and] at e
      obtain ⟨rfl, rfl⟩ := e
      have HH := hideIt hr
      clear hr P7
      go_upto_region 16 with fail
      go_loopw [14] (fun v wr => ∃ i : Nat, v = .int .i64 i ∧ i ≤ P.length ∧ Hid (Below w7.heap.size w7 wr)) (fun v _ => P.length - (intOf v).toNat)
      case atStart => exact ⟨0, rfl, Nat.zero_le _, hideIt (Below.refl _ _)⟩
      case round =>
        obtain ⟨i, rfl, hi, HR⟩ := hrel
        by_cases hlt : i < P.length
        · have hltI : (i : Int) < (P.length : Int) := by omega
          have hi0 : (0 : Int) ≤ (i : Int) := by omega
          have hwi : IntKind.i64.wrap ((i : Int) + 1) = ((i + 1 : Nat) : Int) := by rw [IntKind.wrap_i64]; omega
          obtain ⟨b, off, rfl, hbl, q0, q1, q2⟩ := HH.out i hlt
          have hblr : b < wr.heap.size := Nat.lt_of_lt_of_le hbl HR.out.size
          have c0 := (HR.out.cell (p := ⟨b, off + i * 3, none⟩) hbl).trans q0
          have HPE := hideIt (HALL.out P[i] (List.getElem_mem hlt))
          clear HH HALL
          generalize P[i] = y at *
          obtain ⟨ya, ym, yg⟩ := y
          dsimp only at c0 q0 q1 q2 HPE
          go_wp2_with fail
          refine (HOA.out ya _ wr (A7.out.keep HR.out)).mono ?_
          rintro e w8 ⟨rfl, hb⟩
          dsimp only
          obtain ⟨s0, s1, s2⟩ := HPE.out
          have hs1 := s0.1
          have hs2 := s0.2
          generalize (ofP PA ya).acc = xa at *
          generalize (ofP PA ya).m = xm at *
          generalize (ofP PA ya).g = xg at *
          have hb1 := below1 w8 (.cells #[.int .i64 xa, .int .i64 xm, .int .i64 xg] 31)
          have R8 := hideIt (below_via HR.out (below_via hb hb1))
          have K8 := hideIt (heap_alloc_new w8 (.cells #[.int .i64 xa, .int .i64 xm, .int .i64 xg] 31))
          have d0 := (R8.out.cell (p := ⟨b, off + i * 3, none⟩) hbl).trans q0
          have dz : b < (w8.alloc (.cells #[.int .i64 xa, .int .i64 xm, .int .i64 xg] 31)).heap.size := Nat.lt_of_lt_of_le hbl R8.out.size
          clear hb hb1 HR c0 hblr HOA HPE s0
          go_upto_region 19 with fail
          generalize w8.alloc (.cells #[.int .i64 xa, .int .i64 xm, .int .i64 xg] 31) = W8 at *
          generalize w8.heap.size = k8 at *
          go_wp2_with fail
          refine (HOB.out ya _ W8 (E7.out.keep R8.out)).mono ?_
          rintro e w9 ⟨rfl, hb⟩
          dsimp only
          generalize (ofP PB ya).acc = za at *
          generalize (ofP PB ya).m = zm at *
          generalize (ofP PB ya).g = zg at *
          have hb1 := below1 w9 (.cells #[.int .i64 za, .int .i64 zm, .int .i64 zg] 31)
          have R9 := hideIt (below_via R8.out (below_via hb hb1))
          have K9 := hideIt (heap_alloc_new w9 (.cells #[.int .i64 za, .int .i64 zm, .int .i64 zg] 31))
          have K89 := hideIt (((below_via hb hb1).block _ (Array.getElem?_eq_some_iff.1 K8.out).1).trans K8.out)
          have f1 := (R9.out.cell (p := ⟨b, off + i * 3 + 1, none⟩) hbl).trans q1
          have f2 := (R9.out.cell (p := ⟨b, off + i * 3 + 2, none⟩) hbl).trans q2
          have fz : b < (w9.alloc (.cells #[.int .i64 za, .int .i64 zm, .int .i64 zg] 31)).heap.size := Nat.lt_of_lt_of_le hbl R9.out.size
          clear hb hb1 R8 K8 d0 dz q0 q1 q2 HOB hbl
          go_upto_region 20 with fail
          generalize w9.alloc (.cells #[.int .i64 za, .int .i64 zm, .int .i64 zg] 31) = W9 at *
          generalize w9.heap.size = k9 at *
          obtain ⟨⟨g0, g1, g2⟩, -, gz⟩ := three_at K89.out
          obtain ⟨⟨j0, j1, j2⟩, -, jz⟩ := three_at K9.out
          have hwA : IntKind.i64.wrap (xm + zm) = ym := by rw [hs1, IntKind.wrap_i64]; omega
          have hwB : IntKind.i64.wrap (xg + zg) = yg := by rw [hs2, IntKind.wrap_i64]; omega
          have hgA : (!decide (ym = ym)) = false := by simp
          have hgB : (!decide (yg = yg)) = false := by simp
          clear K89 K9 hs1 hs2 s1 s2
          go_quiet (fail)
          have R10 := hideIt (below_drewN R9.out nq)
          clear R9 f1 f2 fz g0 g1 g2 gz j0 j1 j2 jz
          generalize W9.drewN nq = W10 at *
          go_wp2
          go_roundw
          case rel => exact ⟨i + 1, by go_num, by omega, R10⟩
          case measure => simp [intOf]; omega
        · have hltI : ¬ (i : Int) < (P.length : Int) := by omega
          have B8 := hideIt (below_via B7.out HR.out)
          clear HR HH HALL HOA HOB A7 E7 B7
          go_wp2_with fail
          refine (HLV.out _).mono ?_
          rintro e w8 ⟨rfl, hb⟩
          dsimp only
          have B9 := hideIt (below_via B8.out hb)
          clear hb B8
          go_wp2
          go_ret
          exact ⟨rfl, B9.out⟩
theorem parts_all2 (v : Value) (l : List FillV) (x : Int) (w : World) (h : Fils w v l) (hx : (Lit.int .i64 x).wf = true) : Calls Try.prog 5 #[v, .int .i64 x] w fun e w' => e = .returned (.bool true) ∧ Below w.heap.size w w' := parts_walk v l x w h (wfB3 hx)
end Go.Proofs.Ytbpnnhalajbjnaa
namespace Go.Proofs.Ytbpnnhalajbjnaa
open Go.RowKit
set_option linter.all false
/-- The document's Take on its way: the book's box, the result's, the copy's; what is taken and what is left. -/
structure RT (w : World) (K : Nat) (L : LaneV) (b a o ub ua uo ut : Value) (A : List AmV) (R : List OweV) (W : World) : Prop where
  bx : W.heap[w.heap.size]? = some (.cells (laneA L b a o) 37 (0, 0))
  rs : W.heap[w.heap.size + 1]? = some (.cells #[.bool false, .int .i64 0, .slice none 0 0, .slice none 0 0, .slice none 0 0] 37 (0, 0))
  ox : W.heap[K]? = some (.cells #[.bool L.call, .int .i64 L.next, ub, ua, uo] 37 (0, 0))
  rb : W.ownsRow (w.heap.size + 2) 47 4 ub L.bids.length (celC ordE L.bids)
  ra : W.ownsRow (w.heap.size + 2) 47 4 ua L.asks.length (celC ordE L.asks)
  ro : W.ownsRow (w.heap.size + 2) 45 3 uo R.length (celC oweE R)
  rt : W.ownsRow (w.heap.size + 2) 52 2 ut A.length (celC amE A)
  bel : Below w.heap.size w W
  hK : w.heap.size + 2 ≤ K
  hs : w.heap.size + 2 ≤ W.heap.size
theorem RT.keep {w W W' : World} {K : Nat} {L : LaneV} {b a o ub ua uo ut : Value} {A : List AmV} {R : List OweV} (h : RT w K L b a o ub ua uo ut A R W) (hb : Below W.heap.size W W') : RT w K L b a o ub ua uo ut A R W' :=
  ⟨blkK h.bx hb, blkK h.rs hb, blkK h.ox hb, own_keep h.rb hb, own_keep h.ra hb, own_keep h.ro hb, own_keep h.rt hb, below_via h.bel hb, h.hK, Nat.le_trans h.hs hb.size⟩
theorem grown_size {w w' : World} {r : Option Nat} (h : w.grownBy w' r) : w.heap.size ≤ w'.heap.size := (Out.ofGrown (F := fun _ => True) h (fun _ _ => trivial)).size
theorem RT.appT {w W : World} {K : Nat} {L : LaneV} {b a o ub ua uo ut : Value} {A : List AmV} {R : List OweV} (h : RT w K L b a o ub ua uo ut A R W) (x : AmV) (hl : A.length * 16 + 16 ≤ 140737488355328) : ∃ a' c' w', (Builtin.append_ #[39, 39] 39 #[ut, .slice (some ⟨W.heap.size, 0, none⟩) 1 1]).run Try.prog (W.alloc (.cells (amE x).toArray 52)) = .ok (.slice a' (A.length + 1) c') w' ∧ RT w K L b a o ub ua uo (.slice a' (A.length + 1) c') (A ++ [x]) R w' := by
  have hb := below1 W (.cells (amE x).toArray 52)
  have h1 := h.keep hb
  obtain ⟨v', w', hrun, how, hgr⟩ := app1 (enc := amE) (t := 39) amK am1 Try.underlying39 info52 rfl (by omega) (W.alloc (.cells (amE x).toArray 52)) (w.heap.size + 2) ut A x W.heap.size 1 h1.hs h1.rt (heap_alloc_new W _) (by omega) (by unfold maxLen; omega)
  obtain ⟨a', c', rfl⟩ := own_len how
  have hlen : (A ++ [x]).length = A.length + 1 := by simp
  rw [hlen] at hrun how
  exact ⟨a', c', w', hrun, box_type hgr h1.rt h1.bx (by decide), box_type hgr h1.rt h1.rs (by decide), box_type hgr h1.rt h1.ox (by decide), own_type hgr h1.rt h1.rb (by decide), own_type hgr h1.rt h1.ra (by decide), own_type hgr h1.rt h1.ro (by decide), by rw [hlen]; exact how, grown_own hgr h1.rt (by omega) h1.bel, h1.hK, Nat.le_trans h1.hs (grown_size hgr)⟩
theorem RT.appR {w W : World} {K : Nat} {L : LaneV} {b a o ub ua uo ut : Value} {A : List AmV} {R : List OweV} (h : RT w K L b a o ub ua uo ut A R W) (x : OweV) (hl : R.length * 24 + 24 ≤ 140737488355328) : ∃ a' c' w', (Builtin.append_ #[35, 35] 35 #[uo, .slice (some ⟨W.heap.size, 0, none⟩) 1 1]).run Try.prog (W.alloc (.cells (oweE x).toArray 45)) = .ok (.slice a' (R.length + 1) c') w' ∧ RT w K L b a o ub ua (.slice a' (R.length + 1) c') ut A (R ++ [x]) (w'.setCell ⟨K, 4, none⟩ (.slice a' (R.length + 1) c')) ∧ w'.cell? ⟨K, 4, none⟩ = some uo ∧ w'.frozen? ⟨K, 4, none⟩ = false ∧ K < w'.heap.size := by
  have hb := below1 W (.cells (oweE x).toArray 45)
  have h1 := h.keep hb
  obtain ⟨v', w', hrun, how, hgr⟩ := app1 (enc := oweE) (t := 35) oweK owe1 Try.underlying35 info63 rfl (by omega) (W.alloc (.cells (oweE x).toArray 45)) (w.heap.size + 2) uo R x W.heap.size 1 h1.hs h1.ro (heap_alloc_new W _) (by omega) (by unfold maxLen; omega)
  obtain ⟨a', c', rfl⟩ := own_len how
  have hlen : (R ++ [x]).length = R.length + 1 := by simp
  rw [hlen] at hrun how
  have hox := box_type hgr h1.ro h1.ox (by decide)
  have n1 : w.heap.size ≠ K := by have := h.hK; omega
  have n2 : w.heap.size + 1 ≠ K := by have := h.hK; omega
  exact ⟨a', c', w', hrun, ⟨setOther _ (box_type hgr h1.ro h1.bx (by decide)) n1, setOther _ (box_type hgr h1.ro h1.rs (by decide)) n2, heap_set hox 4 _, own_cell (own_type hgr h1.ro h1.rb (by decide)) hox (by decide), own_cell (own_type hgr h1.ro h1.ra (by decide)) hox (by decide), own_cell (by rw [hlen]; exact how) hox (by decide), own_cell (own_type hgr h1.ro h1.rt (by decide)) hox (by decide), belowSet _ (grown_own hgr h1.ro (by omega) h1.bel) (by have := h.hK; omega), h.hK, by simpa using Nat.le_trans h1.hs (grown_size hgr)⟩, by rw [cell_at hox]; rfl, free_at hox _, (Array.getElem?_eq_some_iff.1 hox).1⟩
theorem RT.first {w w2 : World} {L : LaneV} {b a o ub ua : Value} (h : CB w L b a o w2) (hb : w2.ownsRow (w.heap.size + 2) 47 4 ub L.bids.length (celC ordE L.bids)) (ha : w2.ownsRow (w.heap.size + 2) 47 4 ua L.asks.length (celC ordE L.asks)) :
    RT w w2.heap.size L b a o ub ua (.slice none 0 0) (.slice none 0 0) [] [] (w2.alloc (.cells #[.bool L.call, .int .i64 L.next, ub, ua, .slice none 0 0] 37)) := by
  have hb1 := below1 w2 (.cells #[.bool L.call, .int .i64 L.next, ub, ua, .slice none 0 0] 37)
  have hn := heap_alloc_new w2 (.cells #[.bool L.call, .int .i64 L.next, ub, ua, .slice none 0 0] 37)
  have h1 := h.keep hb1
  have hs := h.size
  exact ⟨h1.box, h1.res, hn, own_keep hb hb1, own_keep ha hb1, own_nil _ _, own_nil _ _, h1.bel, by omega, h1.size⟩
theorem put5 (wc : World) (b : Nat) (ty : TypeId) (v0 v1 v2 v3 v4 : Value) {z0 z1 z2 z3 z4 : Value} (h : wc.heap[b]? = some (.cells #[z0, z1, z2, z3, z4] ty (0, 0))) :
    (((((wc.setCell ⟨b, 0, none⟩ v0).setCell ⟨b, 1, none⟩ v1).setCell ⟨b, 2, none⟩ v2).setCell ⟨b, 3, none⟩ v3).setCell ⟨b, 4, none⟩ v4).heap[b]? = some (.cells #[v0, v1, v2, v3, v4] ty (0, 0)) := by
  have h0 := heap_set h 0 v0
  have h1 := heap_set h0 1 v1
  have h2 := heap_set h1 2 v2
  have h3 := heap_set h2 3 v3
  exact heap_set h3 4 v4
set_option maxHeartbeats 16000000 in
set_option maxRecDepth 100000 in
theorem rTake_is (L : LaneV) (b a o : Value) (acc : Int) (w : World) (h : Lan w L b a o) : Calls Try.prog 16 #[laneV L b a o, .int .i64 acc] w (TkB (takR L acc) w) := by
  have X0 := hideIt (CB.first w L b a o)
  have HC := hideIt (rCheck_is L b a o _ (h.keep X0.out.bel))
  have HCO := hideIt (fun W (hW : Below w.heap.size w W) => rCopy_is L b a o W (h.keep hW))
  have HOW := hideIt h.owed
  obtain ⟨ba, bc, rfl⟩ := h.bids.slice
  obtain ⟨aa, ac, rfl⟩ := h.asks.slice
  obtain ⟨oa, oc, rfl⟩ := h.owed.slice
  clear h
  cases hk : chkB L
  · have HR : Hid (takR L acc = (zLn, [], 130)) := by show _ = _; unfold takR; rw [if_pos hk]
    rw [show chkI L = 130 by unfold chkI; rw [hk]; rfl] at HC
    generalize takR L acc = RX at *
    unfold laneV laneA at *
    obtain ⟨cl, nx, bids, asks, owed⟩ := L
    simp only at *
    clear hk HCO HOW
    obtain ⟨x0, x1, x2, x3, x4⟩ := X0.out.cells
    go_enter Try.func16, Try.ntmps16
    go_wp2_with fail
    refine HC.out.mono ?_
    rintro e w1 ⟨rfl, hb⟩
    dsimp only
    have X1 := hideIt (X0.out.keep hb)
    clear hb X0 HC
    obtain ⟨⟨r0, r1, r2, r3, r4⟩, rf, rl⟩ := five5_at X1.out.res
    have HP := hideIt (X1.out.put (.bool false) (.int .i64 0) (.slice none 0 0) (.slice none 0 0) (.slice none 0 0))
    go_wp2
    revert HP
    generalize (World.setCell _ ⟨w.heap.size + 1, 4, none⟩ _) = W
    intro HP
    exact bodyPost_ret (v := .tuple #[laneV zLn (.slice none 0 0) (.slice none 0 0) (.slice none 0 0), .slice none 0 0, .int .i64 130]) (by simp [results, Try.results16, go_sem, cell_at HP.out.1, laneV, laneA, zLn]) rfl (by unfold TkB; rw [HR.out]; exact ⟨_, _, _, _, rfl, own_nil _ _, own_nil _ _, own_nil _ _, own_nil _ _, HP.out.2⟩)
  · rw [show chkI L = 0 by unfold chkI; rw [hk]; rfl] at HC
    cases ha : wiB acc 1 8
    · have HR : Hid (takR L acc = (zLn, [], 1)) := by show _ = _; unfold takR; rw [if_neg (by simp [hk]), if_pos ha]
      have ha2 : acc < 1 ∨ 8 < acc := by
        unfold wiB at ha
        simp only [decide_eq_false_iff_not] at ha
        omega
      generalize takR L acc = RX at *
      unfold laneV laneA at *
      obtain ⟨cl, nx, bids, asks, owed⟩ := L
      simp only at *
      clear hk ha HCO HOW
      go_enter Try.func16, Try.ntmps16
      go_wp2_with fail
      refine HC.out.mono ?_
      rintro e w1 ⟨rfl, hb⟩
      dsimp only
      have X1 := hideIt (X0.out.keep hb)
      clear hb X0 HC
      by_cases h1 : acc < 1
      · clear ha2
        obtain ⟨⟨r0, r1, r2, r3, r4⟩, rf, rl⟩ := five5_at X1.out.res
        have HP := hideIt (X1.out.put (.bool false) (.int .i64 0) (.slice none 0 0) (.slice none 0 0) (.slice none 0 0))
        go_wp2
        revert HP
        generalize (World.setCell _ ⟨w.heap.size + 1, 4, none⟩ _) = W
        intro HP
        exact bodyPost_ret (v := .tuple #[laneV zLn (.slice none 0 0) (.slice none 0 0) (.slice none 0 0), .slice none 0 0, .int .i64 1]) (by simp [results, Try.results16, go_sem, cell_at HP.out.1, laneV, laneA, zLn]) rfl (by unfold TkB; rw [HR.out]; exact ⟨_, _, _, _, rfl, own_nil _ _, own_nil _ _, own_nil _ _, own_nil _ _, HP.out.2⟩)
      · have h2 : 8 < acc := by omega
        clear ha2
        obtain ⟨⟨r0, r1, r2, r3, r4⟩, rf, rl⟩ := five5_at X1.out.res
        have HP := hideIt (X1.out.put (.bool false) (.int .i64 0) (.slice none 0 0) (.slice none 0 0) (.slice none 0 0))
        go_wp2
        revert HP
        generalize (World.setCell _ ⟨w.heap.size + 1, 4, none⟩ _) = W
        intro HP
        exact bodyPost_ret (v := .tuple #[laneV zLn (.slice none 0 0) (.slice none 0 0) (.slice none 0 0), .slice none 0 0, .int .i64 1]) (by simp [results, Try.results16, go_sem, cell_at HP.out.1, laneV, laneA, zLn]) rfl (by unfold TkB; rw [HR.out]; exact ⟨_, _, _, _, rfl, own_nil _ _, own_nil _ _, own_nil _ _, own_nil _ _, HP.out.2⟩)
    · have HR : Hid (takR L acc = (⟨L.call, L.next, L.bids, L.asks, lefA acc L.owed⟩, takA acc L.owed, 0)) := by show _ = _; unfold takR; rw [if_neg (by simp [hk]), if_neg (by simp [ha])]
      have ha2 : 1 ≤ acc ∧ acc ≤ 8 := of_decide_eq_true ha
      generalize takR L acc = RX at *
      unfold laneV laneA at *
      obtain ⟨cl, nx, bids, asks, owed⟩ := L
      simp only at *
      have HS1 := hideIt (fun t (ht : t < owed.length) => show takA acc (owed.take (t + 1)) = takA acc (owed.take t) ++ (if owed[t].acc = acc then [⟨owed[t].asset, owed[t].n⟩] else []) by
        unfold takA
        rw [List.take_succ_eq_append_getElem ht, List.filter_append, List.map_append]
        congr 1
        by_cases e : owed[t].acc = acc <;> simp [e])
      have HS2 := hideIt (fun t (ht : t < owed.length) => show lefA acc (owed.take (t + 1)) = lefA acc (owed.take t) ++ (if owed[t].acc = acc then [] else [owed[t]]) by
        unfold lefA
        rw [List.take_succ_eq_append_getElem ht, List.filter_append]
        congr 1
        by_cases e : owed[t].acc = acc <;> simp [e])
      have HL1 := hideIt (fun t => Nat.le_trans (takA_len acc (owed.take t)) (List.length_take_le t owed))
      have HL2 := hideIt (fun t => Nat.le_trans (lefA_len acc (owed.take t)) (List.length_take_le t owed))
      have HF1 : Hid (takA acc (owed.take owed.length) = takA acc owed) := by show _ = _; rw [List.take_length]
      have HF2 : Hid (lefA acc (owed.take owed.length) = lefA acc owed) := by show _ = _; rw [List.take_length]
      have HI : Hid (takA acc (owed.take 0) = [] ∧ lefA acc (owed.take 0) = []) := by constructor <;> simp [takA, lefA]
      generalize takA acc owed = TA at *
      generalize lefA acc owed = TL1 at *
      generalize hfu : (fun t : Nat => takA acc (owed.take t)) = FA at *
      generalize hfv : (fun t : Nat => lefA acc (owed.take t)) = FL at *
      have HT1 : Hid (∀ t, takA acc (owed.take t) = FA t) := fun t => congrFun hfu t
      have HT2 : Hid (∀ t, lefA acc (owed.take t) = FL t) := fun t => congrFun hfv t
      simp only [HT1.out, HT2.out] at HS1 HS2 HL1 HL2 HF1 HF2 HI
      clear hfu hfv HT1 HT2 hk ha
      obtain ⟨ob', oc', e, h8, hr⟩ := HOW.out.owes
      simp only [Value.slice.injEq, true_and] at e
      obtain ⟨rfl, rfl⟩ := e
      have HH := hideIt hr
      clear hr HOW
      have ha3 : ¬ acc < 1 := by omega
      have ha4 : ¬ 8 < acc := by omega
      clear ha2
      go_enter Try.func16, Try.ntmps16
      go_wp2_with fail
      refine HC.out.mono ?_
      rintro e w1 ⟨rfl, hb⟩
      dsimp only
      have X1 := hideIt (X0.out.keep hb)
      clear hb X0 HC
      obtain ⟨x0, x1, x2, x3, x4⟩ := X1.out.cells
      have xz : w.heap.size < w1.heap.size := by have := X1.out.size; omega
      simp only at x0 x1 x2 x3 x4
      go_wp2_with fail
      refine (HCO.out _ X1.out.bel).mono ?_
      rintro e w2 ⟨ub, ua, uo, rfl, hob, hoa, hoo, -, hb⟩
      unfold laneV laneA
      dsimp only
      obtain ⟨uba, ubc, rfl⟩ := own_len hob
      obtain ⟨uaa, uac, rfl⟩ := own_len hoa
      obtain ⟨uoa, uoc, rfl⟩ := own_len hoo
      dsimp only at hob hoa
      have R0 := hideIt (RT.first (X1.out.keep hb) (own_base hob X1.out.size) (own_base hoa X1.out.size))
      unfold laneA at R0
      dsimp only at R0
      clear hob hoa hoo hb HCO X1 x0 x1 x2 x3 x4 xz
      go_upto_region 9 with fail
      generalize w2.alloc (.cells #[.bool cl, .int .i64 nx, .slice uba bids.length ubc, .slice uaa asks.length uac, .slice none 0 0] 37) = W0 at *
      generalize w2.heap.size = K at *
      go_loopw [8, 9] (fun u x wr => ∃ t : Nat, ∃ A R, ∃ ta tc va vc, u = .slice ta A.length tc ∧ x = .int .i64 t ∧ t ≤ owed.length ∧ Hid (FA t = A ∧ FL t = R) ∧ Hid (RT w K ⟨cl, nx, bids, asks, owed⟩ (.slice ba bids.length bc) (.slice aa asks.length ac) (.slice oa owed.length oc) (.slice uba bids.length ubc) (.slice uaa asks.length uac) (.slice va R.length vc) (.slice ta A.length tc) A R wr)) (fun _ x _ => owed.length - (intOf x).toNat)
      case atStart => exact ⟨0, [], [], none, 0, none, 0, rfl, rfl, Nat.zero_le _, HI, R0⟩
      case round =>
        obtain ⟨t, A, R, ta, tc, va, vc, rfl, rfl, ht, HAR, HX⟩ := hrel
        obtain ⟨⟨b0, b1, b2, b3, b4⟩, bf, bz⟩ := five5_at HX.out.bx
        obtain ⟨⟨k0, k1, k2, k3, k4⟩, kf, kz⟩ := five5_at HX.out.ox
        clear b0 b1 b2 b3
        by_cases hlt : t < owed.length
        · have hltI : (t : Int) < (owed.length : Int) := by omega
          have ht0 : (0 : Int) ≤ (t : Int) := by omega
          have hwt : IntKind.i64.wrap ((t : Int) + 1) = ((t + 1 : Nat) : Int) := by rw [IntKind.wrap_i64]; omega
          have HB := hideIt HX.out.bel
          obtain ⟨b, off, rfl, hbl, q0, q1, q2⟩ := HH.out t hlt
          have hblr : b < wr.heap.size := Nat.lt_of_lt_of_le hbl HB.out.size
          have c0 := (HB.out.cell (p := ⟨b, off + t * 3, none⟩) hbl).trans q0
          have c1 := (HB.out.cell (p := ⟨b, off + t * 3 + 1, none⟩) hbl).trans q1
          have c2 := (HB.out.cell (p := ⟨b, off + t * 3 + 2, none⟩) hbl).trans q2
          have HF3 := hideIt (HS1.out t hlt)
          have HF4 := hideIt (HS2.out t hlt)
          have hA := HL1.out t
          have hR := HL2.out t
          rw [HAR.out.1] at HF3 hA
          rw [HAR.out.2] at HF4 hR
          clear q0 q1 q2 HH HS1 HS2 HL1 HL2 HB HAR
          generalize owed[t] = y at *
          obtain ⟨ya, ys, yn⟩ := y
          dsimp only at c0 c1 c2 HF3 HF4
          by_cases e : ya = acc
          · rw [if_pos e] at HF3 HF4
            rw [List.append_nil] at HF4
            obtain ⟨a', c', w', hrun, hX'⟩ := (HX.out.keep (Below.refl _ wr).drew).appT ⟨ys, yn⟩ (by omega)
            rw [show wr.drew.heap.size = wr.heap.size from rfl] at hrun
            have HRUN := hideIt hrun
            have HX2 := hideIt hX'
            unfold amE at HRUN
            dsimp only at HRUN
            subst e
            have hlen : (A ++ [(⟨ys, yn⟩ : AmV)]).length = A.length + 1 := by simp
            have nB : w.heap.size ≠ wr.heap.size := by omega
            have nb : b ≠ wr.heap.size := by omega
            clear hrun hX' HX k0 k1 k2 k3 k4 kf kz hbl
            rw [← hlen] at HX2
            go_upto_region 12 with fail
            go_region_law (refine step_app_runK rfl _ _ 39 39 rfl _ _ rfl rfl HRUN.out ?_)
            all_goals clear HRUN
            all_goals go_wp2
            all_goals go_roundw
            all_goals first | exact ⟨t + 1, A ++ [⟨ys, yn⟩], R, a', c', va, vc, by rw [hlen], by go_num, by omega, hideIt ⟨HF3.out, HF4.out⟩, HX2⟩ | (simp [intOf]; omega)
          · rw [if_neg e] at HF3 HF4
            rw [List.append_nil] at HF3
            obtain ⟨a', c', w', hrun, hX', s4, sf, sz⟩ := (HX.out.keep (Below.refl _ wr).drew).appR ⟨ya, ys, yn⟩ (by omega)
            rw [show wr.drew.heap.size = wr.heap.size from rfl] at hrun
            have HRUN := hideIt hrun
            have HX2 := hideIt hX'
            unfold oweE at HRUN
            dsimp only at HRUN
            have hee : (ya == acc) = false := by simpa using e
            have hlen : (R ++ [(⟨ya, ys, yn⟩ : OweV)]).length = R.length + 1 := by simp
            have nB : w.heap.size ≠ wr.heap.size := by omega
            have nK : K ≠ wr.heap.size := by omega
            have nb : b ≠ wr.heap.size := by omega
            have HX3 : Hid (RT w K ⟨cl, nx, bids, asks, owed⟩ (.slice ba bids.length bc) (.slice aa asks.length ac) (.slice (some ⟨b, off, none⟩) owed.length oc) (.slice uba bids.length ubc) (.slice uaa asks.length uac) (.slice a' (R ++ [(⟨ya, ys, yn⟩ : OweV)]).length c') (.slice ta A.length tc) A (R ++ [(⟨ya, ys, yn⟩ : OweV)]) (w'.setCell ⟨K, 4, none⟩ (.slice a' (R.length + 1) c'))) := by rw [hlen]; exact HX2
            clear hrun hX' HX HX2 k0 k1 k2 k3 hbl
            go_upto_region 13 with fail
            go_region_law (refine step_app_runK rfl _ _ 35 35 rfl _ _ rfl rfl HRUN.out ?_)
            all_goals clear HRUN
            all_goals go_wp2
            all_goals go_roundw
            all_goals first | exact ⟨t + 1, A, R ++ [⟨ya, ys, yn⟩], ta, tc, a', c', rfl, by go_num, by omega, hideIt ⟨HF3.out, HF4.out⟩, HX3⟩ | (simp [intOf]; omega)
        · have hltI : ¬ (t : Int) < (owed.length : Int) := by omega
          have het : t = owed.length := by omega
          subst het
          have e1 : A = TA := HAR.out.1.symm.trans HF1.out
          have e2 : R = TL1 := HAR.out.2.symm.trans HF2.out
          subst e1 e2
          obtain ⟨⟨r0, r1, r2, r3, r4⟩, rf, rz⟩ := five5_at HX.out.rs
          have nK : K ≠ w.heap.size + 1 := by have := HX.out.hK; omega
          have nK2 : w.heap.size + 1 ≠ K := nK.symm
          have HPT := hideIt (put5 wr (w.heap.size + 1) 37 (.bool cl) (.int .i64 nx) (.slice uba bids.length ubc) (.slice uaa asks.length uac) (.slice va R.length vc) HX.out.rs)
          have HB5 := hideIt (belowSet (j := 4) (.slice va R.length vc) (belowSet (j := 3) (.slice uaa asks.length uac) (belowSet (j := 2) (.slice uba bids.length ubc) (belowSet (j := 1) (.int .i64 nx) (belowSet (j := 0) (.bool cl) HX.out.bel (Nat.le_succ _)) (Nat.le_succ _)) (Nat.le_succ _)) (Nat.le_succ _)) (Nat.le_succ _))
          have HRW := hideIt (And.intro (own_five HX.out.rb HX.out.rs (by decide) (.bool cl) (.int .i64 nx) (.slice uba bids.length ubc) (.slice uaa asks.length uac) (.slice va R.length vc)) (And.intro (own_five HX.out.ra HX.out.rs (by decide) (.bool cl) (.int .i64 nx) (.slice uba bids.length ubc) (.slice uaa asks.length uac) (.slice va R.length vc)) (And.intro (own_five HX.out.ro HX.out.rs (by decide) (.bool cl) (.int .i64 nx) (.slice uba bids.length ubc) (.slice uaa asks.length uac) (.slice va R.length vc)) (own_five HX.out.rt HX.out.rs (by decide) (.bool cl) (.int .i64 nx) (.slice uba bids.length ubc) (.slice uaa asks.length uac) (.slice va R.length vc)))))
          clear HX HAR HF1 HF2 HH HS1 HS2 HL1 HL2
          go_wp2
          revert HPT HRW HB5
          generalize (World.setCell _ ⟨w.heap.size + 1, 4, none⟩ _) = WF
          intro HPT HB5 HRW
          exact bodyPost_ret (v := .tuple #[.agg #[.bool cl, .int .i64 nx, .slice uba bids.length ubc, .slice uaa asks.length uac, .slice va R.length vc], .slice ta A.length tc, .int .i64 0]) (by simp [results, Try.results16, go_sem, cell_at HPT.out]) rfl (by unfold TkB; rw [HR.out]; exact ⟨_, _, _, _, rfl, own_base HRW.out.1 (by omega), own_base HRW.out.2.1 (by omega), own_base HRW.out.2.2.1 (by omega), own_base HRW.out.2.2.2 (by omega), HB5.out⟩)
theorem neq52 (a b : Int) (w : World) : (binOp .neq 52 (.agg #[.int .i64 a, .int .i64 b]) (.agg #[.int .i64 a, .int .i64 b])).run Try.prog w = .ok (.bool false) w := by
  simp [go_sem]
abbrev Ams (w : World) (v : Value) (l : List AmV) : Prop := SGot 2 16 amE w v l
theorem SGot.ams {w : World} {v : Value} {l : List AmV} (h : Ams w v l) : ∃ a c, v = .slice a l.length c ∧ l.length * 16 ≤ 140737488355328 ∧ ∀ i (h : i < l.length), ∃ b off, a = some ⟨b, off, none⟩ ∧ b < w.heap.size ∧ w.cell? ⟨b, off + i * 2, none⟩ = some (.int .i64 (l[i]).asset) ∧ w.cell? ⟨b, off + i * 2 + 1, none⟩ = some (.int .i64 (l[i]).n) := by
  obtain ⟨h8, a, c, rfl, _, hr⟩ := h
  refine ⟨a, c, rfl, h8, fun i hi => ?_⟩
  obtain ⟨b, off, ha, hb, hc⟩ := hr (by omega)
  have g := celC_get amK l i hi
  exact ⟨b, off, ha, hb, by have := g 0 (by omega); rw [Nat.add_zero] at this; rw [hc _ (by omega), this]; rfl, by rw [Nat.add_assoc, hc _ (by omega), g 1 (by omega)]; rfl⟩
set_option maxHeartbeats 4000000 in
set_option maxRecDepth 100000 in
theorem sameM_is (v v' : Value) (l : List AmV) (w : World) (h : Ams w v l) (h' : Ams w v' l) : Calls Try.prog 18 #[v, v'] w fun e w' => e = .returned (.bool true) ∧ Below w.heap.size w w' := by
  obtain ⟨a, c, rfl, h8, hr⟩ := h.ams
  obtain ⟨a', c', rfl, h8', hr'⟩ := h'.ams
  have HH := hideIt hr
  have HM := hideIt hr'
  clear hr hr' h h'
  go_enter Try.func18, Try.ntmps18
  go_wp2
  go_loopw [5] (fun v wr => ∃ t : Nat, v = .int .i64 t ∧ t ≤ l.length ∧ Hid (Below w.heap.size w wr)) (fun v _ => l.length - (RowKit.intOf v).toNat)
  case atStart => exact ⟨0, rfl, Nat.zero_le _, hideIt (Below.refl _ _)⟩
  case round =>
    obtain ⟨t, rfl, ht, HR⟩ := hrel
    by_cases hlt : t < l.length
    · have hltI : (t : Int) < (l.length : Int) := by omega
      have ht0 : (0 : Int) ≤ (t : Int) := by omega
      have hw : IntKind.i64.wrap ((t : Int) + 1) = ((t + 1 : Nat) : Int) := by rw [IntKind.wrap_i64]; omega
      have hB := HR.out
      obtain ⟨b, off, rfl, hbl, q0, q1⟩ := HH.out t hlt
      have hblr : b < wr.heap.size := Nat.lt_of_lt_of_le hbl hB.size
      have c0 := (hB.cell (p := ⟨b, off + t * 2, none⟩) hbl).trans q0
      have c1 := (hB.cell (p := ⟨b, off + t * 2 + 1, none⟩) hbl).trans q1
      clear q0 q1
      obtain ⟨b', off', rfl, hbl', q0, q1⟩ := HM.out t hlt
      have hblr' : b' < wr.heap.size := Nat.lt_of_lt_of_le hbl' hB.size
      have d0 := (hB.cell (p := ⟨b', off' + t * 2, none⟩) hbl').trans q0
      have d1 := (hB.cell (p := ⟨b', off' + t * 2 + 1, none⟩) hbl').trans q1
      clear q0 q1 hB HH HM
      generalize l[t] = en at *
      obtain ⟨x, y⟩ := en
      dsimp only at c0 c1 d0 d1
      have q1 := fun W => neq52 x y W
      go_wp2_with fail
      go_quiet (fail)
      go_wp2
      go_roundw
      case rel => exact ⟨t + 1, by go_num, by omega, hideIt (below_drewN HR.out _)⟩
      case measure => simp [RowKit.intOf]; omega
    · have hltI : ¬ (t : Int) < (l.length : Int) := by omega
      clear HH HM
      go_wp2
      go_ret
      exact ⟨rfl, HR.out⟩
end Go.Proofs.Ytbpnnhalajbjnaa
namespace Go.Proofs.Ytbpnnhalajbjnaa
open Go.RowKit
set_option linter.all false
theorem row_setG {w : World} {B n g j z : Nat} {e : TypeId} {v u : Value} {xs : List Value} {cur : Array Value} (ho : w.ownsRow B e z v n xs) (hg : w.heap[g]? = some (.cells cur e (0, 0))) : ∃ ys, (w.setCell ⟨g, j, none⟩ u).ownsRow B e z v n ys := by
  obtain ⟨h1, hn | ⟨g', cap, cur', hv, hb, hg', hnc, hcm, hs, ht⟩⟩ := ho
  · exact ⟨xs, h1, .inl hn⟩
  · by_cases e1 : g' = g
    · subst e1
      refine ⟨(cur'.setIfInBounds j u).toList.take (n * z), ?_, .inr ⟨g', cap, cur'.setIfInBounds j u, hv, hb, heap_set hg' j u, hnc, hcm, by simp [hs], rfl⟩⟩
      rw [List.length_take]
      simp [hs]
      rw [Nat.min_eq_left hnc]
    · exact ⟨xs, h1, .inr ⟨g', cap, cur', hv, hb, (heap_set_other _ _ _ _ _ e1).trans hg', hnc, hcm, hs, ht⟩⟩
theorem row_atG {w : World} {B n z : Nat} {e : TypeId} {v : Value} {xs : List Value} (ho : w.ownsRow B e z v n xs) (q : Nat) (hq : q < z) : ∃ a c, v = .slice a n c ∧ ∀ i, i < n → ∃ g off cur u, a = some ⟨g, off, none⟩ ∧ B ≤ g ∧ w.heap[g]? = some (.cells cur e (0, 0)) ∧ g < w.heap.size ∧ w.cell? ⟨g, off + i * z + q, none⟩ = some u ∧ w.frozen? ⟨g, off + i * z + q, none⟩ = false := by
  obtain ⟨h1, ⟨rfl, rfl⟩ | ⟨g, cap, cur, rfl, hb, hg, hnc, hcm, hs, ht⟩⟩ := ho
  · exact ⟨_, _, rfl, fun i hi => by omega⟩
  · refine ⟨_, _, rfl, fun i hi => ?_⟩
    have hlt : 0 + i * z + q < cur.size := by
      rw [hs]
      have : (i + 1) * z ≤ cap * z := Nat.mul_le_mul_right _ (by omega)
      rw [Nat.add_mul, Nat.one_mul] at this
      omega
    exact ⟨g, 0, cur, cur[0 + i * z + q], rfl, hb, hg, (Array.getElem?_eq_some_iff.1 hg).1, by rw [cell_at hg, Array.getElem?_eq_getElem hlt], free_at hg _⟩
theorem ty_set {W : World} {b j k : Nat} {u : Value} {cs cur : Array Value} {t e : TypeId} (h : W.heap[b]? = some (.cells cs t (0, 0))) (hg : W.heap[k]? = some (.cells cur e (0, 0))) (hne : t ≠ e) : (W.setCell ⟨k, j, none⟩ u).heap[b]? = some (.cells cs t (0, 0)) :=
  setOther _ h (fun e1 => by rw [e1, hg] at h; simp at h; exact hne h.2.symm)
/-- A book that is spoiled: nothing below it turns. -/
structure SK (w1 : World) (K : Nat) (cs : Array Value) (u v : Value) (nu nv : Nat) (W : World) : Prop where
  bx : W.heap[K]? = some (.cells cs 37 (0, 0))
  ru : ∃ xs, W.ownsRow w1.heap.size 45 3 u nu xs
  rv : ∃ xs, W.ownsRow w1.heap.size 47 4 v nv xs
  bel : Below w1.heap.size w1 W
theorem SK.s45 {w1 W : World} {K nu nv g j : Nat} {cs cur : Array Value} {u v x : Value} (h : SK w1 K cs u v nu nv W) (hg : W.heap[g]? = some (.cells cur 45 (0, 0))) (hB : w1.heap.size ≤ g) : SK w1 K cs u v nu nv (W.setCell ⟨g, j, none⟩ x) := by
  obtain ⟨xu, hu⟩ := h.ru
  obtain ⟨xv, hv⟩ := h.rv
  exact ⟨ty_set h.bx hg (by decide), row_setG hu hg, ⟨xv, own_cell hv hg (by decide)⟩, belowSet _ h.bel hB⟩
theorem SK.s47 {w1 W : World} {K nu nv g j : Nat} {cs cur : Array Value} {u v x : Value} (h : SK w1 K cs u v nu nv W) (hg : W.heap[g]? = some (.cells cur 47 (0, 0))) (hB : w1.heap.size ≤ g) : SK w1 K cs u v nu nv (W.setCell ⟨g, j, none⟩ x) := by
  obtain ⟨xu, hu⟩ := h.ru
  obtain ⟨xv, hv⟩ := h.rv
  exact ⟨ty_set h.bx hg (by decide), ⟨xu, own_cell hu hg (by decide)⟩, row_setG hv hg, belowSet _ h.bel hB⟩
theorem own_lan {w : World} {B : Nat} {L : LaneV} {b a o : Value} (hb : w.ownsRow B 47 4 b L.bids.length (celC ordE L.bids)) (ha : w.ownsRow B 47 4 a L.asks.length (celC ordE L.asks)) (ho : w.ownsRow B 45 3 o L.owed.length (celC oweE L.owed)) (lb : L.bids.length * 32 ≤ 140737488355328) (la : L.asks.length * 32 ≤ 140737488355328) (lo : L.owed.length * 24 ≤ 140737488355328) : Lan w L b a o := ⟨own_sgot hb lb, own_sgot ha la, own_sgot ho lo⟩
theorem takR_len (L : LaneV) (acc : Int) : (takR L acc).1.bids.length ≤ L.bids.length ∧ (takR L acc).1.asks.length ≤ L.asks.length ∧ (takR L acc).1.owed.length ≤ L.owed.length ∧ (takR L acc).2.1.length ≤ L.owed.length := by
  unfold takR
  split
  · simp [zLn]
  · split
    · simp [zLn]
    · exact ⟨Nat.le_refl _, Nat.le_refl _, lefA_len _ _, takA_len _ _⟩
set_option maxHeartbeats 32000000 in
set_option maxRecDepth 100000 in
theorem takes_walk (L : LaneV) (b a o : Value) (acc : Int) (w : World) (h : Lan w L b a o) : Calls Try.prog 6 #[laneV L b a o, .int .i64 acc] w fun e w' => e = .returned (.bool true) ∧ Below w.heap.size w w' := by
  have HL := hideIt (fun W (hW : Below w.heap.size w W) => h.keep hW)
  have lb := h.bids.1
  have la := h.asks.1
  have lo := h.owed.1
  obtain ⟨tl1, tl2, tl3, tl4⟩ := takR_len L acc
  have HX0 := hideIt (heap_alloc_new w (.cells (laneA L b a o) 37))
  have HB0 := hideIt (below1 w (.cells (laneA L b a o) 37))
  have HCP := hideIt (rCopy_is L b a o _ (HL.out _ HB0.out))
  have HTK := hideIt (fun b' a' o' W (hW : Lan W L b' a' o') => take_is L b' a' o' acc W hW)
  have HTR := hideIt (fun W (hW : Below w.heap.size w W) => rTake_is L b a o acc W (HL.out W hW))
  have HSM := hideIt (fun b' a' o' W (hW : Lan W L b' a' o') (hV : Below w.heap.size w W) => sameL_is L b' a' o' b a o W hW (HL.out W hV))
  have HSR := hideIt (fun b' a' o' b'' a'' o'' W (hW : Lan W (takR L acc).1 b' a' o') (hV : Lan W (takR L acc).1 b'' a'' o'') => sameL_is (takR L acc).1 b' a' o' b'' a'' o'' W hW hV)
  have HSA := hideIt (fun u u' W (hu : Ams W u (takR L acc).2.1) (hu' : Ams W u' (takR L acc).2.1) => sameM_is u u' (takR L acc).2.1 W hu hu')
  have HLV := hideIt (fun W => live_is W)
  unfold LaneBack at HCP
  unfold TkB at HTK HTR
  generalize takR L acc = TR at *
  obtain ⟨ba, bc, rfl⟩ := h.bids.slice
  obtain ⟨aa, ac, rfl⟩ := h.asks.slice
  obtain ⟨oa, oc, rfl⟩ := h.owed.slice
  clear h
  unfold laneV at *
  unfold laneA at *
  obtain ⟨cl, nx, bids, asks, owed⟩ := L
  obtain ⟨⟨xc, xn, xb, xa, xo⟩, xm, xe⟩ := TR
  simp only at *
  obtain ⟨⟨c0, c1, c2, c3, c4⟩, -, cz⟩ := five5_at HX0.out
  go_enter Try.func6, Try.ntmps6
  go_wp2_with fail
  refine HCP.out.mono ?_
  rintro e w1 ⟨b1v, a1v, o1v, rfl, ob, oa1, oo, -, hb⟩
  dsimp only
  obtain ⟨b1, bk1, rfl⟩ := own_len ob
  obtain ⟨a1, ak1, rfl⟩ := own_len oa1
  obtain ⟨o1, ok1, rfl⟩ := own_len oo
  have hb1 := below1 w1 (.cells #[.bool cl, .int .i64 nx, .slice b1 bids.length bk1, .slice a1 asks.length ak1, .slice o1 owed.length ok1] 37)
  have HB1 := hideIt (below_via HB0.out (below_via hb hb1))
  have HX1 := hideIt (blkK HX0.out (below_via hb hb1))
  have HO1 : Hid (Lan (w1.alloc (.cells #[.bool cl, .int .i64 nx, .slice b1 bids.length bk1, .slice a1 asks.length ak1, .slice o1 owed.length ok1] 37)) ⟨cl, nx, bids, asks, owed⟩ (.slice b1 bids.length bk1) (.slice a1 asks.length ak1) (.slice o1 owed.length ok1)) := own_lan (own_keep ob hb1) (own_keep oa1 hb1) (own_keep oo hb1) lb la lo
  have HK1 := hideIt (heap_alloc_new w1 (.cells #[.bool cl, .int .i64 nx, .slice b1 bids.length bk1, .slice a1 asks.length ak1, .slice o1 owed.length ok1] 37))
  clear hb hb1 ob oa1 oo HCP HX0 HB0 c0 c1 c2 c3 c4 cz
  go_upto_region 2 with fail
  generalize w1.alloc (.cells #[.bool cl, .int .i64 nx, .slice b1 bids.length bk1, .slice a1 asks.length ak1, .slice o1 owed.length ok1] 37) = W1 at *
  generalize w1.heap.size = KO at *
  obtain ⟨⟨k0, k1, k2, k3, k4⟩, -, kz⟩ := five5_at HK1.out
  go_wp2_with fail
  refine (HTK.out _ _ _ _ HO1.out).mono ?_
  rintro e w2 ⟨b2v, a2v, o2v, u2v, rfl, ob, oa2, oo, ou, hb⟩
  dsimp only
  try dsimp only at ob oa2 oo ou
  obtain ⟨b2, bk2, rfl⟩ := own_len ob
  obtain ⟨a2, ak2, rfl⟩ := own_len oa2
  obtain ⟨o2, ok2, rfl⟩ := own_len oo
  obtain ⟨u2, uk2, rfl⟩ := own_len ou
  have hb2 := below1 w2 (.cells #[.bool xc, .int .i64 xn, .slice b2 xb.length bk2, .slice a2 xa.length ak2, .slice o2 xo.length ok2] 37)
  have D2 := hideIt (below_via hb hb2)
  have OB2 := hideIt (own_keep ob hb2)
  have OA2 := hideIt (own_keep oa2 hb2)
  have OO2 := hideIt (own_keep oo hb2)
  have OU2 := hideIt (own_keep ou hb2)
  have HA2 := hideIt (heap_alloc_new w2 (.cells #[.bool xc, .int .i64 xn, .slice b2 xb.length bk2, .slice a2 xa.length ak2, .slice o2 xo.length ok2] 37))
  clear hb hb2 ob oa2 oo ou HTK k0 k1 k2 k3 k4 kz
  go_upto_region 3 with fail
  generalize w2.alloc (.cells #[.bool xc, .int .i64 xn, .slice b2 xb.length bk2, .slice a2 xa.length ak2, .slice o2 xo.length ok2] 37) = W2 at *
  generalize w2.heap.size = KA at *
  obtain ⟨⟨c0, c1, c2, c3, c4⟩, -, cz⟩ := five5_at (blkK HX1.out D2.out)
  go_wp2_with fail
  refine (HTR.out _ (below_via HB1.out D2.out)).mono ?_
  rintro e w3 ⟨b3v, a3v, o3v, u3v, rfl, ob, oa3, oo, ou, hb⟩
  dsimp only
  try dsimp only at ob oa3 oo ou
  obtain ⟨b3, bk3, rfl⟩ := own_len ob
  obtain ⟨a3, ak3, rfl⟩ := own_len oa3
  obtain ⟨o3, ok3, rfl⟩ := own_len oo
  obtain ⟨u3, uk3, rfl⟩ := own_len ou
  have hb3 := below1 w3 (.cells #[.bool xc, .int .i64 xn, .slice b3 xb.length bk3, .slice a3 xa.length ak3, .slice o3 xo.length ok3] 37)
  have hbb := below_via hb hb3
  have D3 := hideIt (below_via D2.out hbb)
  have OB3 := hideIt (own_keep OB2.out hbb)
  have OA3 := hideIt (own_keep OA2.out hbb)
  have OO3 := hideIt (own_keep OO2.out hbb)
  have HA3 := hideIt (blkK HA2.out hbb)
  have HB3 := hideIt (heap_alloc_new w3 (.cells #[.bool xc, .int .i64 xn, .slice b3 xb.length bk3, .slice a3 xa.length ak3, .slice o3 xo.length ok3] 37))
  have HM2 : Hid (Lan (w3.alloc (.cells #[.bool xc, .int .i64 xn, .slice b3 xb.length bk3, .slice a3 xa.length ak3, .slice o3 xo.length ok3] 37)) ⟨xc, xn, xb, xa, xo⟩ (.slice b2 xb.length bk2) (.slice a2 xa.length ak2) (.slice o2 xo.length ok2)) := own_lan (own_keep OB2.out hbb) (own_keep OA2.out hbb) (own_keep OO2.out hbb) (by dsimp only; omega) (by dsimp only; omega) (by dsimp only; omega)
  have HM3 : Hid (Lan (w3.alloc (.cells #[.bool xc, .int .i64 xn, .slice b3 xb.length bk3, .slice a3 xa.length ak3, .slice o3 xo.length ok3] 37)) ⟨xc, xn, xb, xa, xo⟩ (.slice b3 xb.length bk3) (.slice a3 xa.length ak3) (.slice o3 xo.length ok3)) := own_lan (own_keep ob hb3) (own_keep oa3 hb3) (own_keep oo hb3) (by dsimp only; omega) (by dsimp only; omega) (by dsimp only; omega)
  have HU2 : Hid (Ams (w3.alloc (.cells #[.bool xc, .int .i64 xn, .slice b3 xb.length bk3, .slice a3 xa.length ak3, .slice o3 xo.length ok3] 37)) (.slice u2 xm.length uk2) xm) := own_sgot (own_keep OU2.out hbb) (by omega)
  have HU3 : Hid (Ams (w3.alloc (.cells #[.bool xc, .int .i64 xn, .slice b3 xb.length bk3, .slice a3 xa.length ak3, .slice o3 xo.length ok3] 37)) (.slice u3 xm.length uk3) xm) := own_sgot (own_keep ou hb3) (by omega)
  clear hb hb3 hbb ob oa3 oo ou HTR c0 c1 c2 c3 c4 cz D2 OB2 OA2 OO2 OU2 HA2
  go_upto_region 4 with fail
  generalize w3.alloc (.cells #[.bool xc, .int .i64 xn, .slice b3 xb.length bk3, .slice a3 xa.length ak3, .slice o3 xo.length ok3] 37) = W3 at *
  generalize w3.heap.size = KB at *
  obtain ⟨⟨k0, k1, k2, k3, k4⟩, -, kz⟩ := five5_at HA3.out
  obtain ⟨⟨c0, c1, c2, c3, c4⟩, -, cz⟩ := five5_at HB3.out
  go_wp2_with fail
  refine (HSR.out _ _ _ _ _ _ _ HM2.out HM3.out).mono ?_
  rintro e w4 ⟨rfl, hb4⟩
  dsimp only
  go_wp2_with fail
  refine (HSA.out _ _ _ (HU2.out.keep hb4) (HU3.out.keep hb4)).mono ?_
  rintro e W5 ⟨rfl, hb5⟩
  dsimp only
  have hbb := below_via hb4 hb5
  have D5 := hideIt (below_via D3.out hbb)
  clear k0 k1 k2 k3 k4 kz c0 c1 c2 c3 c4 cz HSR HSA HM2 HM3 HU2 HU3 HB3
  obtain ⟨⟨k0, k1, k2, k3, k4⟩, -, kz⟩ := five5_at (blkK HK1.out D5.out)
  obtain ⟨⟨c0, c1, c2, c3, c4⟩, -, cz⟩ := five5_at (blkK HX1.out D5.out)
  go_wp2_with fail
  refine (HSM.out _ _ _ _ (HO1.out.keep D5.out) (below_via HB1.out D5.out)).mono ?_
  rintro e W6 ⟨rfl, hb6⟩
  dsimp only
  have hb7 := below_via hbb hb6
  have S0 : Hid (SK W1 KA #[.bool xc, .int .i64 xn, .slice b2 xb.length bk2, .slice a2 xa.length ak2, .slice o2 xo.length ok2] (.slice o2 xo.length ok2) (.slice b2 xb.length bk2) xo.length xb.length W6) := ⟨blkK HA3.out hb7, ⟨_, own_keep OO3.out hb7⟩, ⟨_, own_keep OB3.out hb7⟩, below_via D3.out hb7⟩
  clear hb4 hb5 hbb hb6 hb7 D5 D3 OB3 OA3 OO3 HA3 k0 k1 k2 k3 k4 kz c0 c1 c2 c3 c4 cz
  go_upto_region 7 with fail
  go_loopw [12] (fun v wr => ∃ t : Nat, v = .int .i64 t ∧ t ≤ xo.length ∧ Hid (SK W1 KA #[.bool xc, .int .i64 xn, .slice b2 xb.length bk2, .slice a2 xa.length ak2, .slice o2 xo.length ok2] (.slice o2 xo.length ok2) (.slice b2 xb.length bk2) xo.length xb.length wr)) (fun v _ => xo.length - (RowKit.intOf v).toNat)
  case atStart => exact ⟨0, rfl, Nat.zero_le _, S0⟩
  case round =>
    obtain ⟨t, rfl, ht, HS⟩ := hrel
    obtain ⟨⟨k0, k1, k2, k3, k4⟩, -, kz⟩ := five5_at HS.out.bx
    clear k0 k1 k2 k3
    by_cases hlt : t < xo.length
    · have hltI : (t : Int) < (xo.length : Int) := by omega
      have ht0 : (0 : Int) ≤ (t : Int) := by omega
      have hwt : IntKind.i64.wrap ((t : Int) + 1) = ((t + 1 : Nat) : Int) := by rw [IntKind.wrap_i64]; omega
      obtain ⟨xs, hx⟩ := HS.out.ru
      obtain ⟨a', c', e, hr⟩ := row_atG hx 2 (by omega)
      simp only [Value.slice.injEq, true_and] at e
      obtain ⟨rfl, rfl⟩ := e
      obtain ⟨g, off, cu, u, rfl, hBb, hgb, hbl, hcu, hf⟩ := hr t hlt
      have HS2 := hideIt (HS.out.s45 (j := off + t * 3 + 2) (x := .int .i64 (-1)) hgb hBb)
      clear hx hr hgb hBb HS S0
      go_wp2
      go_roundw
      case rel => exact ⟨t + 1, by go_num, by omega, HS2⟩
      case measure => simp [RowKit.intOf]; omega
    · have hltI : ¬ (t : Int) < (xo.length : Int) := by omega
      clear S0
      go_upto_region 11 with fail
      clear k4 kz
      go_loopw [13] (fun v wr => ∃ t : Nat, v = .int .i64 t ∧ t ≤ xb.length ∧ Hid (SK W1 KA #[.bool xc, .int .i64 xn, .slice b2 xb.length bk2, .slice a2 xa.length ak2, .slice o2 xo.length ok2] (.slice o2 xo.length ok2) (.slice b2 xb.length bk2) xo.length xb.length wr)) (fun v _ => xb.length - (RowKit.intOf v).toNat)
      case atStart => exact ⟨0, rfl, Nat.zero_le _, HS⟩
      case round =>
        clear HS hltI ht hlt
        obtain ⟨t, rfl, ht, HS⟩ := hrel
        obtain ⟨⟨k0, k1, k2, k3, k4⟩, -, kz⟩ := five5_at HS.out.bx
        clear k0 k1 k3 k4
        by_cases hlt : t < xb.length
        · have hltI : (t : Int) < (xb.length : Int) := by omega
          have ht0 : (0 : Int) ≤ (t : Int) := by omega
          have hwt : IntKind.i64.wrap ((t : Int) + 1) = ((t + 1 : Nat) : Int) := by rw [IntKind.wrap_i64]; omega
          obtain ⟨xs, hx⟩ := HS.out.rv
          obtain ⟨a', c', e, hr⟩ := row_atG hx 0 (by omega)
          simp only [Value.slice.injEq, true_and] at e
          obtain ⟨rfl, rfl⟩ := e
          obtain ⟨g, off, cu, u, rfl, hBb, hgb, hbl, hcu, hf⟩ := hr t hlt
          have HS2 := hideIt (HS.out.s47 (j := off + t * 4 + 0) (x := .int .i64 (-1)) hgb hBb)
          rw [Nat.add_zero] at HS2 hcu hf
          clear hx hr hgb hBb HS
          go_wp2
          go_roundw
          case rel => exact ⟨t + 1, by go_num, by omega, HS2⟩
          case measure => simp [RowKit.intOf]; omega
        · have hltI : ¬ (t : Int) < (xb.length : Int) := by omega
          have D6 := hideIt HS.out.bel
          clear HS
          obtain ⟨⟨p0, p1, p2, p3, p4⟩, -, pz⟩ := five5_at (blkK HK1.out D6.out)
          obtain ⟨⟨c0, c1, c2, c3, c4⟩, -, cz⟩ := five5_at (blkK HX1.out D6.out)
          go_wp2_with fail
          refine (HSM.out _ _ _ _ (HO1.out.keep D6.out) (below_via HB1.out D6.out)).mono ?_
          rintro e W7 ⟨rfl, hb6⟩
          dsimp only
          have D7 := hideIt (below_via D6.out hb6)
          clear hb6 D6 p0 p1 p2 p3 p4 pz c0 c1 c2 c3 c4 cz k2 kz
          go_wp2_with fail
          refine (HLV.out _).mono ?_
          rintro e w8 ⟨rfl, hb⟩
          dsimp only
          have B8 := hideIt (below_via HB1.out (below_via D7.out hb))
          clear hb D7 HB1
          go_wp2
          go_ret
          exact ⟨rfl, B8.out⟩
end Go.Proofs.Ytbpnnhalajbjnaa
namespace Go.Proofs.Ytbpnnhalajbjnaa
open Go.RowKit
set_option linter.all false
def sumX (x a : Int) (l : List OweV) : Int := (l.map (fun y => if y.acc = x ∧ y.asset = a then y.n else 0)).sum
def sumPX (x : Int) (l : List OrdV) : Int := (l.map (fun o => if o.acc = x then o.price * o.left else 0)).sum
def sumQX (x : Int) (l : List OrdV) : Int := (l.map (fun o => if o.acc = x then o.left else 0)).sum
def fM (x : Int) (f : FillV) : Int := (if f.seller = x then f.price * f.n else 0) - (if f.buyer = x then f.price * f.n else 0)
def fG (x : Int) (f : FillV) : Int := (if f.buyer = x then f.n else 0) - (if f.seller = x then f.n else 0)
def SM (x : Int) (F : List FillV) : Int := (F.map (fM x)).sum
def SG (x : Int) (F : List FillV) : Int := (F.map (fG x)).sum
theorem SM_app (x : Int) (F G : List FillV) : SM x (F ++ G) = SM x F + SM x G := by unfold SM; rw [List.map_append, List.sum_append]
theorem SG_app (x : Int) (F G : List FillV) : SG x (F ++ G) = SG x F + SG x G := by unfold SG; rw [List.map_append, List.sum_append]
theorem net_sum (x : Int) : ∀ l : List FillV, gM (netS l) x = SM x l ∧ gG (netS l) x = SG x l
  | [] => ⟨rfl, rfl⟩
  | y :: l => by
    obtain ⟨a1, a2, -⟩ := fold_net l (netS1 (fun _ => none) y) x
    obtain ⟨b1, b2⟩ := net_sum x l
    have e : netS (y :: l) = l.foldl netS1 (netS1 (fun _ => none) y) := rfl
    have h := trp_net (fun _ => none) y x
    have h1 := congrArg (·.1) h
    have h2 := congrArg (·.2.1) h
    unfold trp at h1 h2
    have e0 : gM (fun _ => none) x = 0 := rfl
    have e1 : gG (fun _ => none) x = 0 := rfl
    simp only [e0, e1] at h1 h2
    rw [e, a1, a2, b1, b2, h1, h2]
    unfold SM SG
    rw [List.map_cons, List.sum_cons, List.map_cons, List.sum_cons]
    unfold fM fG
    by_cases e1 : y.buyer = x <;> by_cases e2 : y.seller = x <;> simp [e1, e2] <;> omega
theorem sumX_modify (x a n : Int) : ∀ (l : List OweV) (i : Nat) (h : i < l.length), sumX x a (l.modify i (fun y => ⟨y.acc, y.asset, y.n + n⟩)) = sumX x a l + (if l[i].acc = x ∧ l[i].asset = a then n else 0)
  | [], i, h => absurd h (by simp)
  | y :: l, 0, h => by
    rw [List.modify_zero_cons]
    simp only [sumX, List.map_cons, List.sum_cons, List.getElem_cons_zero]
    split <;> omega
  | y :: l, i + 1, h => by
    rw [List.modify_succ_cons]
    have ih := sumX_modify x a n l i (by simpa using h)
    simp only [sumX, List.map_cons, List.sum_cons, List.getElem_cons_succ] at ih ⊢
    omega
theorem sumX_owe (x a acc asset n : Int) (l : List OweV) : sumX x a (oweL acc asset n l) = sumX x a l + (if acc = x ∧ asset = a then n else 0) := by
  unfold oweL
  split
  · rename_i i hi
    rw [List.findIdx?_eq_some_iff_getElem] at hi
    obtain ⟨h1, h2, _⟩ := hi
    rw [sumX_modify x a n l i h1]
    unfold oweP at h2
    simp only [Bool.and_eq_true, decide_eq_true_eq] at h2
    rw [h2.1, h2.2]
  · have := sum_perm ((laid_perm (r := owB) (x := (⟨acc, asset, n⟩ : OweV)) (l := l)).map (fun y => if y.acc = x ∧ y.asset = a then y.n else 0))
    unfold sumX
    rw [this]
    simp only [List.map_cons, List.sum_cons]
    omega
theorem sumPX_laid (a s : Int) (x : OrdV) (l : List OrdV) : sumPX a (laidL (ahB s) x l) = sumPX a l + (if x.acc = a then x.price * x.left else 0) := by
  have := sum_perm ((laid_perm (r := ahB s) (x := x) (l := l)).map (fun o => if o.acc = a then o.price * o.left else 0))
  unfold sumPX
  rw [this]
  simp only [List.map_cons, List.sum_cons]
  omega
theorem sumQX_laid (a s : Int) (x : OrdV) (l : List OrdV) : sumQX a (laidL (ahB s) x l) = sumQX a l + (if x.acc = a then x.left else 0) := by
  have := sum_perm ((laid_perm (r := ahB s) (x := x) (l := l)).map (fun o => if o.acc = a then o.left else 0))
  unfold sumQX
  rw [this]
  simp only [List.map_cons, List.sum_cons]
  omega
/-- One trade of a buyer. -/
theorem setX_buy (a : Int) (x r : OrdV) (n : Int) (l : List OweV) (h : r.price ≤ x.price) : sumX a 0 (setO 1 x r n l) = sumX a 0 l + (if x.acc = a then x.price * n else 0) + fM a (setF 1 x r n) ∧ sumX a 1 (setO 1 x r n l) + (if r.acc = a then -n else 0) = sumX a 1 l + fG a (setF 1 x r n) := by
  have hB : setB 1 x r = x := rfl
  have hS : setS 1 x r = r := rfl
  unfold setO fM fG setF
  rw [hB, hS]
  simp only
  split
  · rw [sumX_owe, sumX_owe, sumX_owe, sumX_owe, sumX_owe, sumX_owe]
    simp only [Int.sub_mul]
    by_cases e1 : x.acc = a <;> by_cases e2 : r.acc = a <;> simp [e1, e2] <;> omega
  · have : r.price = x.price := by omega
    rw [sumX_owe, sumX_owe, sumX_owe, sumX_owe, this]
    by_cases e1 : x.acc = a <;> by_cases e2 : r.acc = a <;> simp [e1, e2] <;> omega
theorem setX_sell (a : Int) (x r : OrdV) (n : Int) (l : List OweV) : sumX a 0 (setO 2 x r n l) + (if r.acc = a then -(r.price * n) else 0) = sumX a 0 l + fM a (setF 2 x r n) ∧ sumX a 1 (setO 2 x r n l) = sumX a 1 l + (if x.acc = a then n else 0) + fG a (setF 2 x r n) := by
  have hB : setB 2 x r = r := rfl
  have hS : setS 2 x r = x := rfl
  unfold setO fM fG setF
  rw [hB, hS]
  simp only
  rw [if_neg (by omega), sumX_owe, sumX_owe, sumX_owe, sumX_owe]
  by_cases e1 : x.acc = a <;> by_cases e2 : r.acc = a <;> simp [e1, e2] <;> omega
theorem SM_one (a : Int) (f : FillV) : SM a [f] = fM a f := by simp [SM]
theorem SG_one (a : Int) (f : FillV) : SG a [f] = fG a f := by simp [SG]
theorem trX_buy (a : Int) (x : OrdV) : ∀ (T : List OrdV) (left : Int) (ow : List OweV) (F : List FillV), sumX a 0 (trL 1 x T left ow F).2.2.1 + (if x.acc = a then x.price * (trL 1 x T left ow F).2.1 else 0) + SM a F = sumX a 0 ow + (if x.acc = a then x.price * left else 0) + SM a (trL 1 x T left ow F).2.2.2 ∧ sumQX a (trL 1 x T left ow F).1 + sumX a 1 (trL 1 x T left ow F).2.2.1 + SG a F = sumQX a T + sumX a 1 ow + SG a (trL 1 x T left ow F).2.2.2
  | [], left, ow, F => ⟨rfl, rfl⟩
  | r :: rs, left, ow, F => by
    unfold trL
    by_cases hm : 0 < left ∧ meetB 1 x.price r.price = true
    · rw [if_pos hm]
      have hp : r.price ≤ x.price := by simpa [meetB] using hm.2
      have hs := setX_buy a x r (min left r.left) ow hp
      by_cases h0 : r.left - min left r.left = 0
      · rw [if_pos h0]
        have ih := trX_buy a x rs (left - min left r.left) (setO 1 x r (min left r.left) ow) (F ++ [setF 1 x r (min left r.left)])
        rw [SM_app, SG_app, SM_one, SG_one, Int.mul_sub] at ih
        have e : r.left = min left r.left := by omega
        simp only [sumQX, List.map_cons, List.sum_cons] at ih ⊢
        by_cases e1 : x.acc = a <;> by_cases e2 : r.acc = a <;> simp only [e1, e2, if_true, if_false] at ih hs ⊢ <;> omega
      · rw [if_neg h0]
        simp only
        rw [SM_app, SG_app, SM_one, SG_one, Int.mul_sub]
        simp only [sumQX, List.map_cons, List.sum_cons]
        by_cases e1 : x.acc = a <;> by_cases e2 : r.acc = a <;> simp only [e1, e2, if_true, if_false] at hs ⊢ <;> omega
    · rw [if_neg hm]
      exact ⟨rfl, rfl⟩
theorem trX_sell (a : Int) (x : OrdV) : ∀ (T : List OrdV) (left : Int) (ow : List OweV) (F : List FillV), sumPX a (trL 2 x T left ow F).1 + sumX a 0 (trL 2 x T left ow F).2.2.1 + SM a F = sumPX a T + sumX a 0 ow + SM a (trL 2 x T left ow F).2.2.2 ∧ (if x.acc = a then (trL 2 x T left ow F).2.1 else 0) + sumX a 1 (trL 2 x T left ow F).2.2.1 + SG a F = (if x.acc = a then left else 0) + sumX a 1 ow + SG a (trL 2 x T left ow F).2.2.2
  | [], left, ow, F => ⟨rfl, rfl⟩
  | r :: rs, left, ow, F => by
    unfold trL
    by_cases hm : 0 < left ∧ meetB 2 x.price r.price = true
    · rw [if_pos hm]
      have hs := setX_sell a x r (min left r.left) ow
      by_cases h0 : r.left - min left r.left = 0
      · rw [if_pos h0]
        have ih := trX_sell a x rs (left - min left r.left) (setO 2 x r (min left r.left) ow) (F ++ [setF 2 x r (min left r.left)])
        rw [SM_app, SG_app, SM_one, SG_one] at ih
        have e : r.left = min left r.left := by omega
        have e3 : r.price * r.left = r.price * min left r.left := by rw [← e]
        simp only [sumPX, List.map_cons, List.sum_cons] at ih ⊢
        by_cases e1 : x.acc = a <;> by_cases e2 : r.acc = a <;> simp only [e1, e2, if_true, if_false] at ih hs ⊢ <;> omega
      · rw [if_neg h0]
        simp only
        rw [SM_app, SG_app, SM_one, SG_one]
        simp only [sumPX, List.map_cons, List.sum_cons, Int.mul_sub]
        by_cases e1 : x.acc = a <;> by_cases e2 : r.acc = a <;> simp only [e1, e2, if_true, if_false] at hs ⊢ <;> omega
    · rw [if_neg hm]
      exact ⟨rfl, rfl⟩
/-- What an account has in a book: owed, and laid down. -/
def accM (a : Int) (L : LaneV) : Int := sumX a 0 L.owed + sumPX a L.bids
def accG (a : Int) (L : LaneV) : Int := sumX a 1 L.owed + sumQX a L.asks
theorem accX_place (a : Int) (L : LaneV) (s acc price n : Int) (now : Bool) (hs : s = 1 ∨ s = 2) (hl : 0 ≤ (plT L s ⟨L.next, acc, price, n⟩).2.1) :
    accM a (plR (plL L s (plT L s ⟨L.next, acc, price, n⟩).1 (plT L s ⟨L.next, acc, price, n⟩).2.2.1) s ⟨L.next, acc, price, (plT L s ⟨L.next, acc, price, n⟩).2.1⟩ now) = accM a L + (if s = 1 ∧ acc = a then price * n else 0) + SM a (plT L s ⟨L.next, acc, price, n⟩).2.2.2 ∧
    accG a (plR (plL L s (plT L s ⟨L.next, acc, price, n⟩).1 (plT L s ⟨L.next, acc, price, n⟩).2.2.1) s ⟨L.next, acc, price, (plT L s ⟨L.next, acc, price, n⟩).2.1⟩ now) = accG a L + (if s = 2 ∧ acc = a then n else 0) + SG a (plT L s ⟨L.next, acc, price, n⟩).2.2.2 := by
  have hT : (s = 1 → sumX a 0 (plT L s ⟨L.next, acc, price, n⟩).2.2.1 + (if acc = a then price * (plT L s ⟨L.next, acc, price, n⟩).2.1 else 0) = sumX a 0 L.owed + (if acc = a then price * n else 0) + SM a (plT L s ⟨L.next, acc, price, n⟩).2.2.2 ∧ sumQX a (plT L s ⟨L.next, acc, price, n⟩).1 + sumX a 1 (plT L s ⟨L.next, acc, price, n⟩).2.2.1 = sumQX a L.asks + sumX a 1 L.owed + SG a (plT L s ⟨L.next, acc, price, n⟩).2.2.2) ∧ (s = 2 → sumPX a (plT L s ⟨L.next, acc, price, n⟩).1 + sumX a 0 (plT L s ⟨L.next, acc, price, n⟩).2.2.1 = sumPX a L.bids + sumX a 0 L.owed + SM a (plT L s ⟨L.next, acc, price, n⟩).2.2.2 ∧ (if acc = a then (plT L s ⟨L.next, acc, price, n⟩).2.1 else 0) + sumX a 1 (plT L s ⟨L.next, acc, price, n⟩).2.2.1 = (if acc = a then n else 0) + sumX a 1 L.owed + SG a (plT L s ⟨L.next, acc, price, n⟩).2.2.2) := by
    constructor
    · rintro rfl
      unfold plT
      cases L.call
      · have := trX_buy a ⟨L.next, acc, price, n⟩ L.asks n L.owed []
        simp only [SM, SG, List.map_nil, List.sum_nil, Int.add_zero] at this ⊢
        exact this
      · simp [SM, SG, sideL]
    · rintro rfl
      unfold plT
      cases L.call
      · have := trX_sell a ⟨L.next, acc, price, n⟩ L.bids n L.owed []
        simp only [SM, SG, List.map_nil, List.sum_nil, Int.add_zero] at this ⊢
        exact this
      · simp [SM, SG, sideL]
  generalize plT L s ⟨L.next, acc, price, n⟩ = X at *
  obtain ⟨T, left, ow, F⟩ := X
  dsimp only at *
  rcases hs with rfl | rfl
  · have h := hT.1 rfl
    simp only [plL, plR, accM, accG, if_true]
    by_cases h0 : 0 < left
    · rw [if_pos h0]
      cases now
      · simp only [Bool.false_eq_true, if_false, sumPX_laid]
        by_cases e1 : acc = a <;> simp [e1] at h ⊢ <;> omega
      · simp only [if_true, brA, brN, sumX_owe]
        by_cases e1 : acc = a <;> simp [e1] at h ⊢ <;> omega
    · rw [if_neg h0]
      have : left = 0 := by omega
      subst this
      by_cases e1 : acc = a <;> simp [e1] at h ⊢ <;> omega
  · have h := hT.2 rfl
    simp only [plL, plR, accM, accG, show ¬ (2 : Int) = 1 by omega, if_false]
    by_cases h0 : 0 < left
    · rw [if_pos h0]
      cases now
      · simp only [Bool.false_eq_true, if_false, sumQX_laid]
        by_cases e1 : acc = a <;> simp [e1] at h ⊢ <;> omega
      · simp only [if_true, brA, brN, sumX_owe]
        by_cases e1 : acc = a <;> simp [e1] at h ⊢ <;> omega
    · rw [if_neg h0]
      have : left = 0 := by omega
      subst this
      by_cases e1 : acc = a <;> simp [e1] at h ⊢ <;> omega
end Go.Proofs.Ytbpnnhalajbjnaa
namespace Go.Proofs.Ytbpnnhalajbjnaa
open Go.RowKit
set_option linter.all false
theorem suf_len {T R : List OrdV} (h : Suf T R) : R.length ≤ T.length := by
  have := (suf_ids h).length_le
  simpa [idsL] using this
theorem tr_fine (s : Int) (x : OrdV) (hx : 1 ≤ x.acc ∧ x.acc ≤ 8) : ∀ (T : List OrdV) (left : Int) (ow : List OweV) (F : List FillV), OkT T → AccT T → left ≤ 1000000 → (∀ f ∈ F, strF f = false) → (∀ f ∈ (trL s x T left ow F).2.2.2, strF f = false) ∧ (trL s x T left ow F).2.2.2.length ≤ F.length + T.length
  | [], left, ow, F, _, _, _, hF => ⟨hF, Nat.le_refl _⟩
  | r :: rs, left, ow, F, hT, hA, hl, hF => by
    have hT2 : OkT rs := fun q hq => hT q (List.mem_cons_of_mem _ hq)
    have hA2 : AccT rs := fun q hq => hA q (List.mem_cons_of_mem _ hq)
    have hr := hT r (List.mem_cons_self ..)
    have ha := hA r (List.mem_cons_self ..)
    unfold trL
    by_cases hm : 0 < left ∧ meetB s x.price r.price = true
    · rw [if_pos hm]
      have hf : strF (setF s x r (min left r.left)) = false := by
        unfold strF setF setB setS wiB
        dsimp only
        by_cases e : s = 2
        · simp only [e, if_true, Bool.or_eq_false_iff, Bool.not_eq_false', decide_eq_true_eq]
          omega
        · simp only [e, if_false, Bool.or_eq_false_iff, Bool.not_eq_false', decide_eq_true_eq]
          omega
      have hF2 : ∀ f ∈ F ++ [setF s x r (min left r.left)], strF f = false := by
        intro f h
        rw [List.mem_append, List.mem_singleton] at h
        rcases h with h | rfl
        · exact hF f h
        · exact hf
      by_cases h0 : r.left - min left r.left = 0
      · rw [if_pos h0]
        have ih := tr_fine s x hx rs (left - min left r.left) (setO s x r (min left r.left) ow) (F ++ [setF s x r (min left r.left)]) hT2 hA2 (by omega) hF2
        refine ⟨ih.1, ?_⟩
        have := ih.2
        simp only [List.length_append, List.length_cons, List.length_nil] at this ⊢
        omega
      · rw [if_neg h0]
        refine ⟨hF2, ?_⟩
        simp only [List.length_append, List.length_cons, List.length_nil]
        omega
    · rw [if_neg hm]
      exact ⟨hF, Nat.le_add_right _ _⟩
/-- What an order is laid down with. -/
def layF (f : Nat → Int) (acc s price n : Int) : Nat → Int := fun j => if s = 1 then (if j = acc.toNat * 2 then f j + price * n else f j) else (if j = acc.toNat * 2 + 1 then f j + n else f j)
/-- Behind so many orders. -/
structure GS (i : Nat) (L : LaneV) (F : List FillV) (f : Nat → Int) : Prop where
  chk : chkB L = true
  len : L.bids.length + L.asks.length ≤ i
  hm : holM L ≤ (i : Int) * 1000000000000
  hg : holG L ≤ (i : Int) * 1000000000000
  fine : ∀ g ∈ F, strF g = false
  am : ∀ a : Int, 1 ≤ a → a ≤ 8 → accM a L = f (a.toNat * 2) + SM a F
  ag : ∀ a : Int, 1 ≤ a → a ≤ 8 → accG a L = f (a.toNat * 2 + 1) + SG a F
  bd : ∀ j, 0 ≤ f j ∧ f j ≤ (i : Int) * 1000000000000
  fl : F.length ≤ i * 40
def newL : LaneV := ⟨false, 1, [], [], []⟩
theorem chk_newL : chkB newL = true := by
  rw [chk_bok]
  exact ⟨by decide, rfl, rfl, List.nodup_nil, .inr (fun x y h => by cases h), rfl⟩
theorem GS.first : GS 0 newL [] (fun _ => 0) := by
  refine ⟨chk_newL, Nat.le_refl _, ?_, ?_, ?_, ?_, ?_, ?_, Nat.le_refl _⟩
  · show (0 : Int) ≤ _; omega
  · show (0 : Int) ≤ _; omega
  · simp
  · intro a _ _; rfl
  · intro a _ _; rfl
  · intro j; exact ⟨Int.le_refl _, by omega⟩
theorem GS.skip {i : Nat} {L : LaneV} {F : List FillV} {f : Nat → Int} (h : GS i L F f) : GS (i + 1) L F f := by
  have := h.len
  have := h.hm
  have := h.hg
  have := h.fl
  refine ⟨h.chk, by omega, by push_cast; omega, by push_cast; omega, h.fine, h.am, h.ag, fun j => ?_, by omega⟩
  have := h.bd j
  push_cast
  omega
theorem GS.place {i : Nat} {L : LaneV} {F : List FillV} {f : Nat → Int} {acc s price n : Int} {now : Bool} (h : GS i L F f) (hp : (placeL L acc s price n now).2.2.2 = 0) : GS (i + 1) (placeL L acc s price n now).1 (F ++ (placeL L acc s price n now).2.1) (layF f acc s price n) ∧ (1 ≤ acc ∧ acc ≤ 8) ∧ (s = 1 ∨ s = 2) ∧ (1 ≤ price ∧ price ≤ 1000000) ∧ (1 ≤ n ∧ n ≤ 1000000) ∧ (placeL L acc s price n now).2.1.length ≤ 40 := by
  obtain ⟨h1, -, -⟩ := place_ok hp
  obtain ⟨hk, hs, hpr, hn, -, -, -, ha⟩ := refE_ok h1
  have hb := (chk_bok L).1 hk
  have hm := chk_may hk
  have hol := hold_placed hp
  have hch := placeL_may hp
  have hsuf := plT_suf h1
  have hax := fun a => accX_place a L s acc price n now hs hsuf.2.1
  have hmul : 1 ≤ price * n ∧ price * n ≤ 1000000000000 := mul_bd2 hpr hn
  have hfl : (∀ g ∈ (plT L s ⟨L.next, acc, price, n⟩).2.2.2, strF g = false) ∧ (plT L s ⟨L.next, acc, price, n⟩).2.2.2.length ≤ 40 := by
    unfold plT
    cases L.call
    · have hT : OkT (sideL L (if s = 1 then 2 else 1)) ∧ AccT (sideL L (if s = 1 then 2 else 1)) ∧ (sideL L (if s = 1 then 2 else 1)).length ≤ 40 := by
        rcases hs with rfl | rfl
        · exact ⟨hm.ta, (side_acc hb.sa).1, hm.la⟩
        · exact ⟨hm.tb, (side_acc hb.sb).1, hm.lb⟩
      have := tr_fine s ⟨L.next, acc, price, n⟩ ha _ n L.owed [] hT.1 hT.2.1 hn.2 (by simp)
      refine ⟨this.1, ?_⟩
      have h2 := this.2
      have h3 := hT.2.2
      simp only [Bool.false_eq_true, if_false, List.length_nil] at h2 ⊢
      omega
    · simp
  rw [placeL_eq hp] at hol hch ⊢
  dsimp only at hol hch ⊢
  have hlen : (plR (plL L s (plT L s ⟨L.next, acc, price, n⟩).1 (plT L s ⟨L.next, acc, price, n⟩).2.2.1) s ⟨L.next, acc, price, (plT L s ⟨L.next, acc, price, n⟩).2.1⟩ now).bids.length + (plR (plL L s (plT L s ⟨L.next, acc, price, n⟩).1 (plT L s ⟨L.next, acc, price, n⟩).2.2.1) s ⟨L.next, acc, price, (plT L s ⟨L.next, acc, price, n⟩).2.1⟩ now).asks.length ≤ L.bids.length + L.asks.length + 1 := by
    have hl := suf_len hsuf.1
    generalize plT L s ⟨L.next, acc, price, n⟩ = X at *
    obtain ⟨T, left, ow, G⟩ := X
    dsimp only at *
    rcases hs with rfl | rfl
    · simp only [plL, plR, if_true, sideL] at hl ⊢
      split
      · split
        · simp at hl ⊢; omega
        · simp [laid_len] at hl ⊢; omega
      · simp at hl ⊢; omega
    · simp only [plL, plR, sideL, show ¬ (2 : Int) = 1 by omega, if_false, if_true] at hl ⊢
      split
      · split
        · simp at hl ⊢; omega
        · simp [laid_len] at hl ⊢; omega
      · simp at hl ⊢; omega
  generalize plR (plL L s (plT L s ⟨L.next, acc, price, n⟩).1 (plT L s ⟨L.next, acc, price, n⟩).2.2.1) s ⟨L.next, acc, price, (plT L s ⟨L.next, acc, price, n⟩).2.1⟩ now = M at *
  generalize (plT L s ⟨L.next, acc, price, n⟩).2.2.2 = G at *
  have e1 := h.len
  have e2 := h.hm
  have e3 := h.hg
  have e4 := h.fl
  refine ⟨⟨hch, by omega, ?_, ?_, ?_, ?_, ?_, ?_, ?_⟩, ha, hs, hpr, hn, hfl.2⟩
  · rw [hol.1]; push_cast; split <;> omega
  · rw [hol.2]; push_cast; split <;> omega
  · intro g hg
    rw [List.mem_append] at hg
    rcases hg with hg | hg
    · exact h.fine g hg
    · exact hfl.1 g hg
  · intro a a1 a8
    rw [(hax a).1, h.am a a1 a8, SM_app]
    unfold layF
    rcases hs with rfl | rfl
    · by_cases e : acc = a
      · subst e; simp; omega
      · have : ¬ a.toNat * 2 = acc.toNat * 2 := by omega
        simp [e, this]; omega
    · have : ¬ a.toNat * 2 = acc.toNat * 2 + 1 := by omega
      simp [this]; omega
  · intro a a1 a8
    rw [(hax a).2, h.ag a a1 a8, SG_app]
    unfold layF
    rcases hs with rfl | rfl
    · have : ¬ a.toNat * 2 + 1 = acc.toNat * 2 := by omega
      simp [this]; omega
    · by_cases e : acc = a
      · subst e; simp; omega
      · have : ¬ a.toNat * 2 + 1 = acc.toNat * 2 + 1 := by omega
        simp [e]
        rw [if_neg (by omega)]
        omega
  · intro j
    have := h.bd j
    unfold layF
    push_cast
    split
    · split <;> omega
    · split <;> omega
  · rw [List.length_append]
    omega
theorem mem_sum {l : List OweV} (h : ∀ z ∈ l, 1 ≤ z.n) : ∀ y ∈ l, y.n ≤ sumA y.asset l := by
  induction l with
  | nil => intro y hy; simp at hy
  | cons z l ih =>
    have ih' := ih (fun q hq => h q (List.mem_cons_of_mem _ hq))
    have pos : ∀ a, 0 ≤ sumA a l := by
      intro a
      have : ∀ k : List OweV, (∀ z ∈ k, 1 ≤ z.n) → 0 ≤ sumA a k := by
        intro k
        induction k with
        | nil => intro _; exact Int.le_refl _
        | cons q k ih2 =>
          intro hk
          have h1 := ih2 (fun z hz => hk z (List.mem_cons_of_mem _ hz))
          have h2 := hk q (List.mem_cons_self ..)
          unfold sumA at *
          simp only [List.map_cons, List.sum_cons]
          split <;> omega
      exact this l (fun q hq => h q (List.mem_cons_of_mem _ hq))
    intro y hy
    have hz := h z (List.mem_cons_self ..)
    rw [List.mem_cons] at hy
    have e : sumA y.asset (z :: l) = (if z.asset = y.asset then z.n else 0) + sumA y.asset l := by simp [sumA]
    rw [e]
    rcases hy with rfl | hy
    · rw [if_pos rfl]
      have := pos y.asset
      omega
    · have := ih' y hy
      split <;> omega
theorem over_hold {L : LaneV} (hw : OwOk L.owed) (hb : OkT L.bids) (ha : OkT L.asks) (hm : holM L ≤ 9007199254740992) (hg : holG L ≤ 9007199254740992) : overB L.owed = false := by
  unfold overB
  rw [List.any_eq_false]
  intro y hy
  have h1 := mem_sum (fun z hz => (hw.2 z hz).2.2) y hy
  have h2 := (hw.2 y hy).2.1
  have p := (sumP_bd L.bids hb).1
  have q := (sumQ_bd L.asks ha).1
  unfold holM at hm
  unfold holG at hg
  simp only [decide_eq_true_eq]
  have : y.asset = 0 ∨ y.asset = 1 := by omega
  rcases this with e | e <;> rw [e] at h1 <;> omega
theorem sumPX_cons (a : Int) (o : OrdV) (l : List OrdV) : sumPX a (o :: l) = (if o.acc = a then o.price * o.left else 0) + sumPX a l := by simp [sumPX]
theorem sumQX_cons (a : Int) (o : OrdV) (l : List OrdV) : sumQX a (o :: l) = (if o.acc = a then o.left else 0) + sumQX a l := by simp [sumQX]
theorem okT_tail {o : OrdV} {l : List OrdV} (h : OkT (o :: l)) : OkT l := fun q hq => h q (List.mem_cons_of_mem _ hq)
theorem GS.canB {i : Nat} {cl : Bool} {nx : Int} {o : OrdV} {rest asks : List OrdV} {owed : List OweV} {F : List FillV} {f : Nat → Int} (hi : i ≤ 30) (h : GS i ⟨cl, nx, o :: rest, asks, owed⟩ F f) :
    canR ⟨cl, nx, o :: rest, asks, owed⟩ o.acc o.id = (⟨cl, nx, rest, asks, oweL o.acc 0 (o.price * o.left) owed⟩, o.left, 0) ∧ GS i ⟨cl, nx, rest, asks, oweL o.acc 0 (o.price * o.left) owed⟩ F f := by
  have hb := (chk_bok _).1 h.chk
  have hm := chk_may h.chk
  have hf : canF ⟨cl, nx, o :: rest, asks, owed⟩ o.acc o.id = some (⟨cl, nx, rest, asks, oweL o.acc 0 (o.price * o.left) owed⟩, o) := by
    unfold canF
    have : (o :: rest).findIdx? (outP o.acc o.id) = some 0 := by simp [List.findIdx?_cons, outP]
    simp only [this]
    simp [brN]
  have hh := hold_can hf
  have hA := (side_acc hb.sb).1 o (List.mem_cons_self ..)
  have hO := hm.tb o (List.mem_cons_self ..)
  have e2 := h.hm
  have e3 := h.hg
  have ho : overB (oweL o.acc 0 (o.price * o.left) owed) = false := over_hold (L := ⟨cl, nx, rest, asks, oweL o.acc 0 (o.price * o.left) owed⟩) (owok_owe (owed_owok hb.ow) hA (by omega) (mul_pos1 hO.1.1 hO.2.1)) (okT_tail hm.tb) hm.ta (by rw [hh.1]; omega) (by rw [hh.2]; omega)
  have hr : canR ⟨cl, nx, o :: rest, asks, owed⟩ o.acc o.id = (⟨cl, nx, rest, asks, oweL o.acc 0 (o.price * o.left) owed⟩, o.left, 0) := by
    unfold canR
    rw [if_pos h.chk, hf]
    simp only [ho]
    rfl
  have hc := can_may h.chk hf ho
  have e1 := h.len
  simp only [List.length_cons] at e1
  refine ⟨hr, hc, by show rest.length + asks.length ≤ i; omega, by rw [hh.1]; exact e2, by rw [hh.2]; exact e3, h.fine, ?_, ?_, h.bd, h.fl⟩
  · intro a a1 a8
    rw [← h.am a a1 a8]
    unfold accM
    dsimp only
    rw [sumX_owe, sumPX_cons]
    by_cases e : o.acc = a <;> simp [e] <;> omega
  · intro a a1 a8
    rw [← h.ag a a1 a8]
    unfold accG
    dsimp only
    rw [sumX_owe]
    simp
theorem GS.canA {i : Nat} {cl : Bool} {nx : Int} {o : OrdV} {rest : List OrdV} {owed : List OweV} {F : List FillV} {f : Nat → Int} (hi : i ≤ 30) (h : GS i ⟨cl, nx, [], o :: rest, owed⟩ F f) :
    canR ⟨cl, nx, [], o :: rest, owed⟩ o.acc o.id = (⟨cl, nx, [], rest, oweL o.acc 1 o.left owed⟩, o.left, 0) ∧ GS i ⟨cl, nx, [], rest, oweL o.acc 1 o.left owed⟩ F f := by
  have hb := (chk_bok _).1 h.chk
  have hm := chk_may h.chk
  have hf : canF ⟨cl, nx, [], o :: rest, owed⟩ o.acc o.id = some (⟨cl, nx, [], rest, oweL o.acc 1 o.left owed⟩, o) := by
    unfold canF
    have : (o :: rest).findIdx? (outP o.acc o.id) = some 0 := by simp [List.findIdx?_cons, outP]
    simp only [this, List.findIdx?_nil]
    simp [brN]
  have hh := hold_can hf
  have hA := (side_acc hb.sa).1 o (List.mem_cons_self ..)
  have hO := hm.ta o (List.mem_cons_self ..)
  have e2 := h.hm
  have e3 := h.hg
  have ho : overB (oweL o.acc 1 o.left owed) = false := over_hold (L := ⟨cl, nx, [], rest, oweL o.acc 1 o.left owed⟩) (owok_owe (owed_owok hb.ow) hA (by omega) hO.2.1) hm.tb (okT_tail hm.ta) (by rw [hh.1]; omega) (by rw [hh.2]; omega)
  have hr : canR ⟨cl, nx, [], o :: rest, owed⟩ o.acc o.id = (⟨cl, nx, [], rest, oweL o.acc 1 o.left owed⟩, o.left, 0) := by
    unfold canR
    rw [if_pos h.chk, hf]
    simp only [ho]
    rfl
  have hc := can_may h.chk hf ho
  have e1 := h.len
  simp only [List.length_cons, List.length_nil] at e1
  refine ⟨hr, hc, by show 0 + rest.length ≤ i; omega, by rw [hh.1]; exact e2, by rw [hh.2]; exact e3, h.fine, ?_, ?_, h.bd, h.fl⟩
  · intro a a1 a8
    rw [← h.am a a1 a8]
    unfold accM
    dsimp only
    rw [sumX_owe]
    simp
  · intro a a1 a8
    rw [← h.ag a a1 a8]
    unfold accG
    dsimp only
    rw [sumX_owe, sumQX_cons]
    by_cases e : o.acc = a <;> simp [e] <;> omega
/-- The last amount of each asset. -/
def lstA (A : List AmV) : Int × Int := A.foldl (fun p y => if y.asset = 0 then (y.n, p.2) else (p.1, y.n)) (0, 0)
theorem lst_take {A : List AmV} {t : Nat} (h : t < A.length) : lstA (A.take (t + 1)) = if A[t].asset = 0 then (A[t].n, (lstA (A.take t)).2) else ((lstA (A.take t)).1, A[t].n) := by
  unfold lstA
  rw [List.take_succ_eq_append_getElem h, List.foldl_append]
  rfl
theorem lst_sum (x : Int) : ∀ (l : List OweV), l.Pairwise (fun a b => owB a b = true) → (∀ y ∈ l, 0 ≤ y.asset ∧ y.asset ≤ 1) → lstA (takA x l) = (sumX x 0 l, sumX x 1 l) := by
  intro l hp ha
  have e1 : ∀ k, sumX x k l = ((takA x l).map (fun y => if y.asset = k then y.n else 0)).sum := by
    intro k
    clear hp ha
    induction l with
    | nil => rfl
    | cons y l ih =>
      unfold sumX takA at *
      by_cases e : y.acc = x
      · simp only [List.map_cons, List.sum_cons, List.filter_cons, e, decide_true, if_true, true_and]
        rw [ih]
      · simp only [List.map_cons, List.sum_cons, List.filter_cons, e, decide_false, false_and, if_false]
        rw [ih]
        simp
  have hp2 : (takA x l).Pairwise (fun a b => a.asset < b.asset) := by
    unfold takA
    rw [List.pairwise_map]
    have h1 := List.Pairwise.filter (fun o : OweV => decide (o.acc = x)) hp
    refine List.Pairwise.imp_of_mem ?_ h1
    intro a b hma hmb hab
    have h3 := (List.mem_filter.1 hma).2
    have h4 := (List.mem_filter.1 hmb).2
    simp only [decide_eq_true_eq] at h3 h4
    unfold owB at hab
    simp only [Bool.or_eq_true, Bool.and_eq_true, decide_eq_true_eq] at hab
    show a.asset < b.asset
    omega
  have ha2 : ∀ y ∈ takA x l, 0 ≤ y.asset ∧ y.asset ≤ 1 := by
    intro y hy
    unfold takA at hy
    simp only [List.mem_map, List.mem_filter] at hy
    obtain ⟨z, ⟨hz, -⟩, rfl⟩ := hy
    exact ha z hz
  rw [e1, e1]
  generalize takA x l = A at *
  clear e1 hp ha
  match A, hp2, ha2 with
  | [], _, _ => rfl
  | [y], _, h =>
    have := h y (List.mem_cons_self ..)
    have : y.asset = 0 ∨ y.asset = 1 := by omega
    rcases this with e | e <;> simp [lstA, e]
  | [y, z], hp, h =>
    have h1 := h y (by simp)
    have h2 := h z (by simp)
    simp only [List.pairwise_cons, List.mem_singleton] at hp
    have h3 := hp.1 z rfl
    have e : y.asset = 0 := by omega
    have e' : z.asset = 1 := by omega
    simp [lstA, e, e']
  | y :: z :: u :: r, hp, h =>
    have h1 := h y (by simp)
    have h2 := h z (by simp)
    have h3 := h u (by simp)
    simp only [List.pairwise_cons, List.mem_cons] at hp
    have h4 := hp.1 z (.inl rfl)
    have h5 := hp.2.1 u (.inl rfl)
    omega
/-- In the end, when no orders are left. -/
theorem GS.fin {i : Nat} {cl : Bool} {nx : Int} {owed : List OweV} {F : List FillV} {f : Nat → Int} (h : GS i ⟨cl, nx, [], [], owed⟩ F f) (x : Int) (hx : 1 ≤ x ∧ x ≤ 8) :
    takR ⟨cl, nx, [], [], owed⟩ x = (⟨cl, nx, [], [], lefA x owed⟩, takA x owed, 0) ∧ lstA (takA x owed) = (f (x.toNat * 2) + gM (netS F) x, f (x.toNat * 2 + 1) + gG (netS F) x) := by
  have hb := (chk_bok _).1 h.chk
  have ho := owed_owok hb.ow
  refine ⟨?_, ?_⟩
  · unfold takR
    rw [if_neg (by rw [h.chk]; simp), if_neg (by unfold wiB; simp; omega)]
  · have tr : ∀ a b c : OweV, owB a b = true → owB b c = true → owB a c = true := by
      intro a b c h k
      unfold owB at *
      simp only [Bool.or_eq_true, Bool.and_eq_true, decide_eq_true_eq] at *
      omega
    have hp : ∀ l : List OweV, srtB owB l = true → l.Pairwise (fun a b => owB a b = true) := by
      intro l
      induction l with
      | nil => intro _; exact List.Pairwise.nil
      | cons y l ih =>
        intro hs
        rw [List.pairwise_cons]
        have ih' := ih (srt_tail hs)
        refine ⟨fun z hz => ?_, ih'⟩
        cases l with
        | nil => simp at hz
        | cons q l =>
          have h1 := srt_head hs
          rw [List.mem_cons] at hz
          rcases hz with rfl | hz
          · exact h1
          · exact tr _ _ _ h1 ((List.pairwise_cons.1 ih').1 z hz)
    rw [lst_sum x owed (hp _ ho.1) (fun y hy => (ho.2 y hy).2.1), (net_sum x F).1, (net_sum x F).2, ← h.am x hx.1 hx.2, ← h.ag x hx.1 hx.2]
    unfold accM accG sumPX sumQX
    simp
theorem GS.net {i : Nat} {L : LaneV} {F : List FillV} {f : Nat → Int} (h : GS i L F f) (hF : F.length ≤ 1000) : netL F = (posT (netS F) 8, 0) := nets_ok hF h.fine
end Go.Proofs.Ytbpnnhalajbjnaa
namespace Go.Proofs.Ytbpnnhalajbjnaa
open Go.RowKit
set_option linter.all false
structure PutV where
  acc : Int
  side : Int
  price : Int
  n : Int
  now : Bool
def putE (p : PutV) : List Value := [.int .i64 p.acc, .int .i64 p.side, .int .i64 p.price, .int .i64 p.n, .bool p.now]
theorem putK (p : PutV) : (putE p).length = 5 := rfl
abbrev Puts (w : World) (v : Value) (l : List PutV) : Prop := SGot 5 40 putE w v l
theorem SGot.puts {w : World} {v : Value} {l : List PutV} (h : Puts w v l) : ∃ a c, v = .slice a l.length c ∧ l.length * 40 ≤ 140737488355328 ∧ ∀ i (h : i < l.length), ∃ b off, a = some ⟨b, off, none⟩ ∧ b < w.heap.size ∧ w.cell? ⟨b, off + i * 5, none⟩ = some (.int .i64 (l[i]).acc) ∧ w.cell? ⟨b, off + i * 5 + 1, none⟩ = some (.int .i64 (l[i]).side) ∧ w.cell? ⟨b, off + i * 5 + 2, none⟩ = some (.int .i64 (l[i]).price) ∧ w.cell? ⟨b, off + i * 5 + 3, none⟩ = some (.int .i64 (l[i]).n) ∧ w.cell? ⟨b, off + i * 5 + 4, none⟩ = some (.bool (l[i]).now) := by
  obtain ⟨h8, a, c, rfl, _, hr⟩ := h
  refine ⟨a, c, rfl, h8, fun i hi => ?_⟩
  obtain ⟨b, off, rfl, hlt, hc⟩ := hr (by omega)
  have g := celC_get putK l i hi
  exact ⟨b, off, rfl, hlt, (hc (i * 5) (by omega)).trans (g 0 (by omega)), (hc (i * 5 + 1) (by omega)).trans (g 1 (by omega)), (hc (i * 5 + 2) (by omega)).trans (g 2 (by omega)), (hc (i * 5 + 3) (by omega)).trans (g 3 (by omega)), (hc (i * 5 + 4) (by omega)).trans (g 4 (by omega))⟩
/-- Nine pairs of numbers, in a row. -/
def arrC (f : Nat → Int) : Array Value := ((List.range 18).map (fun j => Value.int .i64 (f j))).toArray
theorem arr_at (f : Nat → Int) (j : Nat) (h : j < 18) : (arrC f)[j]? = some (.int .i64 (f j)) := by
  unfold arrC
  simp [h]
theorem arr_set (f : Nat → Int) (j : Nat) (v : Int) : (arrC f).setIfInBounds j (.int .i64 v) = arrC (fun i => if i = j then v else f i) := by
  unfold arrC
  apply Array.ext
  · simp
  · intro i h1 h2
    simp only [Array.getElem_setIfInBounds, List.getElem_toArray, List.getElem_map, List.getElem_range]
    by_cases e : j = i
    · subst e; simp
    · simp [e, Ne.symm e]
theorem arr_zero : arrC (fun _ => 0) = #[.int .i64 0, .int .i64 0, .int .i64 0, .int .i64 0, .int .i64 0, .int .i64 0, .int .i64 0, .int .i64 0, .int .i64 0, .int .i64 0, .int .i64 0, .int .i64 0, .int .i64 0, .int .i64 0, .int .i64 0, .int .i64 0, .int .i64 0, .int .i64 0] := rfl
/-- The book, the fills, what was laid down. -/
structure GW (w : World) (KL KA : Nat) (L : LaneV) (b a o : Value) (F : List FillV) (u : Value) (f : Nat → Int) (W : World) : Prop where
  bx : W.heap[KL]? = some (.cells (laneA L b a o) 37 (0, 0))
  ar : W.heap[KA]? = some (.cells (arrC f) 57 (0, 0))
  ob : W.ownsRow w.heap.size 47 4 b L.bids.length (celC ordE L.bids)
  oa : W.ownsRow w.heap.size 47 4 a L.asks.length (celC ordE L.asks)
  oo : W.ownsRow w.heap.size 45 3 o L.owed.length (celC oweE L.owed)
  ou : W.ownsRow w.heap.size 67 4 u F.length (celC filE F)
  bel : Below w.heap.size w W
  hL : w.heap.size ≤ KL
  hA : w.heap.size ≤ KA
  ne : KL ≠ KA
theorem GW.keep {w W W' : World} {KL KA : Nat} {L : LaneV} {b a o u : Value} {F : List FillV} {f : Nat → Int} (h : GW w KL KA L b a o F u f W) (hb : Below W.heap.size W W') : GW w KL KA L b a o F u f W' :=
  ⟨blkK h.bx hb, blkK h.ar hb, own_keep h.ob hb, own_keep h.oa hb, own_keep h.oo hb, own_keep h.ou hb, below_via h.bel hb, h.hL, h.hA, h.ne⟩
theorem GW.put {w W : World} {KL KA : Nat} {L : LaneV} {b a o u : Value} {F : List FillV} {f : Nat → Int} (h : GW w KL KA L b a o F u f W) (M : LaneV) {b' a' o' : Value} (hb : W.ownsRow w.heap.size 47 4 b' M.bids.length (celC ordE M.bids)) (ha : W.ownsRow w.heap.size 47 4 a' M.asks.length (celC ordE M.asks)) (ho : W.ownsRow w.heap.size 45 3 o' M.owed.length (celC oweE M.owed)) : GW w KL KA M b' a' o' F u f (((((W.setCell ⟨KL, 0, none⟩ (.bool M.call)).setCell ⟨KL, 1, none⟩ (.int .i64 M.next)).setCell ⟨KL, 2, none⟩ b').setCell ⟨KL, 3, none⟩ a').setCell ⟨KL, 4, none⟩ o') :=
  have hn : KA ≠ KL := fun e => h.ne e.symm
  ⟨put5 W KL 37 _ _ _ _ _ h.bx, setOther _ (setOther _ (setOther _ (setOther _ (setOther _ h.ar hn) hn) hn) hn) hn, own_five hb h.bx (by decide) _ _ _ _ _, own_five ha h.bx (by decide) _ _ _ _ _, own_five ho h.bx (by decide) _ _ _ _ _, own_five h.ou h.bx (by decide) _ _ _ _ _, belowSet _ (belowSet _ (belowSet _ (belowSet _ (belowSet _ h.bel h.hL) h.hL) h.hL) h.hL) h.hL, h.hL, h.hA, h.ne⟩
theorem GW.app {w W : World} {KL KA : Nat} {L : LaneV} {b a o u : Value} {F : List FillV} {f : Nat → Int} (h : GW w KL KA L b a o F u f W) (G : List FillV) (g : Value) (hg : Fils W g G) (hl : (F.length + G.length) * 32 ≤ 140737488355328) : ∃ a' c' W', (Builtin.append_ #[22, 22] 22 #[u, g]).run Try.prog W = .ok (.slice a' (F ++ G).length c') W' ∧ GW w KL KA L b a o (F ++ G) (.slice a' (F ++ G).length c') f W' ∧ (∀ (K : Nat) (cs : Array Value) (t : TypeId), t ≠ 67 → W.heap[K]? = some (.cells cs t (0, 0)) → W'.heap[K]? = some (.cells cs t (0, 0))) := by
  obtain ⟨v', w', hrun, how, hgr⟩ := appG (t := 22) (e := 67) filK fil1 Try.underlying22 info39 rfl (by omega) (by omega) W w.heap.size u F G g h.bel.size h.ou hg hl
  obtain ⟨a', c', rfl⟩ := own_len how
  exact ⟨a', c', w', hrun, ⟨box_type hgr h.ou h.bx (by decide), box_type hgr h.ou h.ar (by decide), own_type hgr h.ou h.ob (by decide), own_type hgr h.ou h.oa (by decide), own_type hgr h.ou h.oo (by decide), how, grown_own hgr h.ou (Nat.le_refl _) h.bel, h.hL, h.hA, h.ne⟩, fun K cs t hne hk => box_type hgr h.ou hk (fun e => hne e.symm)⟩
theorem GW.lay {w W : World} {KL KA : Nat} {L : LaneV} {b a o u : Value} {F : List FillV} {f : Nat → Int} (h : GW w KL KA L b a o F u f W) (j : Nat) (v : Int) : GW w KL KA L b a o F u (fun i => if i = j then v else f i) (W.setCell ⟨KA, j, none⟩ (.int .i64 v)) :=
  ⟨setOther _ h.bx h.ne, by rw [heap_set h.ar, arr_set], own_cell h.ob h.ar (by decide), own_cell h.oa h.ar (by decide), own_cell h.oo h.ar (by decide), own_cell h.ou h.ar (by decide), belowSet _ h.bel h.hA, h.hL, h.hA, h.ne⟩
theorem GW.lan {w W : World} {KL KA : Nat} {L : LaneV} {b a o u : Value} {F : List FillV} {f : Nat → Int} (h : GW w KL KA L b a o F u f W) (hk : chkB L = true) : Lan W L b a o := by
  have hm := chk_may hk
  have h1 := hm.lb
  have h2 := hm.la
  have h3 := hm.ow.1
  exact own_lan h.ob h.oa h.oo (by omega) (by omega) (by omega)
theorem GW.first {w w1 : World} (hb : Below w.heap.size w w1) : GW w w1.heap.size (w1.heap.size + 1) newL (.slice none 0 0) (.slice none 0 0) (.slice none 0 0) [] (.slice none 0 0) (fun _ => 0) ((w1.alloc (.cells #[.bool false, .int .i64 1, .slice none 0 0, .slice none 0 0, .slice none 0 0] 37)).alloc (.cells #[.int .i64 0, .int .i64 0, .int .i64 0, .int .i64 0, .int .i64 0, .int .i64 0, .int .i64 0, .int .i64 0, .int .i64 0, .int .i64 0, .int .i64 0, .int .i64 0, .int .i64 0, .int .i64 0, .int .i64 0, .int .i64 0, .int .i64 0, .int .i64 0] 57)) := by
  obtain ⟨k1, k2, k3⟩ := two_heap w1 (.cells #[.bool false, .int .i64 1, .slice none 0 0, .slice none 0 0, .slice none 0 0] 37) (.cells #[.int .i64 0, .int .i64 0, .int .i64 0, .int .i64 0, .int .i64 0, .int .i64 0, .int .i64 0, .int .i64 0, .int .i64 0, .int .i64 0, .int .i64 0, .int .i64 0, .int .i64 0, .int .i64 0, .int .i64 0, .int .i64 0, .int .i64 0, .int .i64 0] 57)
  have hs := hb.size
  exact ⟨k1, k2, own_nil _ _, own_nil _ _, own_nil _ _, own_nil _ _, below_via hb (below2 w1 _ _), hs, by omega, by omega⟩
set_option maxHeartbeats 1000000 in
theorem new_is (w : World) : Calls Try.prog 20 #[] w fun e w' => e = .returned (.agg #[.bool false, .int .i64 1, .slice none 0 0, .slice none 0 0, .slice none 0 0]) ∧ Below w.heap.size w w' := by
  have HB := hideIt (below1 w (.cells #[.bool false, .int .i64 1, .slice none 0 0, .slice none 0 0, .slice none 0 0] 37))
  have H2 := hideIt (heap_alloc_new w (.cells #[.bool false, .int .i64 1, .slice none 0 0, .slice none 0 0, .slice none 0 0] 37))
  go_enter Try.func20, Try.ntmps20
  go_wp2
  exact bodyPost_ret (v := .agg #[.bool false, .int .i64 1, .slice none 0 0, .slice none 0 0, .slice none 0 0]) (by simp [results, Try.results20, go_sem, cell_at H2.out]) rfl ⟨rfl, HB.out⟩
theorem size59 (w : World) : (Go.sizeOf 59).run Try.prog w = .ok 5 w := by simp [go_sem]
theorem run_upto54 (a : Option Addr) (n c t : Nat) (ht : t ≤ c) (W : World) : (Instr.slice 54 (.slice a n c) none (some (.int .i64 (t : Int))) none).run Try.prog W = .ok (.slice a t c) W := by
  have ht' : Try.prog.underlying 54 = some (.slice (Try.prog.elem 54)) := by simp [Program.elem, Try.underlying54]
  have he : Try.prog.elem 54 = 59 := by simp [Program.elem, Try.underlying54]
  rw [run_slice_h W 54 _ _ _ ht' .i64 _ (by omega) (by omega), he, size59]
  have e0 : (fun x : Addr => x.add (0 * 5)) = id := by funext x; simp [Addr.add]
  simp [Result.andThen, sliced, e0]
theorem lay_one (f : Nat → Int) (acc price n : Int) : layF f acc 1 price n = fun i => if i = acc.toNat * 2 then f (acc.toNat * 2) + price * n else f i := by
  funext j
  unfold layF
  by_cases e : j = acc.toNat * 2
  · subst e; simp
  · simp [e]
theorem lay_two (f : Nat → Int) (acc price n : Int) : layF f acc 2 price n = fun i => if i = acc.toNat * 2 + 1 then f (acc.toNat * 2 + 1) + n else f i := by
  funext j
  unfold layF
  by_cases e : j = acc.toNat * 2 + 1
  · subst e; simp
  · simp [e]
theorem ty_neK {W : World} {k j : Nat} {cs cs' : Array Value} {t t' : TypeId} (h : W.heap[k]? = some (.cells cs t (0, 0))) (h' : W.heap[j]? = some (.cells cs' t' (0, 0))) (hne : t ≠ t') : k ≠ j := by
  rintro rfl
  rw [h] at h'
  simp at h'
  exact hne h'.2
end Go.Proofs.Ytbpnnhalajbjnaa
