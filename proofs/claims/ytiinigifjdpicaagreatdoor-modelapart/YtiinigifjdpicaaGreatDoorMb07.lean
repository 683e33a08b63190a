/- Texts of my own, laid together. -/
import Derived.Test.YtiinigifjdpicaaGreatDoorPx03
import Derived.Test.YtiinigifjdpicaaGreatDoorMb06
import Derived.Test.YtiinigifjdpicaaGreatDoorPx06
import Derived.Test.YtiinigifjdpicaaGreatDoorPx04
import Derived.Test.YtiinigifjdpicaaGreatDoorPx07
namespace Go.Proofs.YtiinigifjdpicaaGreatDoor
open Go.RowKit
set_option linter.all false
def outP (acc id : Int) (o : OrdV) : Bool := decide (o.id = id) && decide (o.acc = acc)
def canF (L : LaneV) (acc id : Int) : Option (LaneV × OrdV) := match L.bids.findIdx? (outP acc id) with
 | some i => some (⟨L.call, L.next, L.bids.eraseIdx i, L.asks, oweL (L.bids.getD i ⟨0, 0, 0, 0⟩).acc 0 (brN 1 (L.bids.getD i ⟨0, 0, 0, 0⟩)) L.owed⟩, L.bids.getD i ⟨0, 0, 0, 0⟩)
 | none => match L.asks.findIdx? (outP acc id) with
  | some i => some (⟨L.call, L.next, L.bids, L.asks.eraseIdx i, oweL (L.asks.getD i ⟨0, 0, 0, 0⟩).acc 1 (brN 2 (L.asks.getD i ⟨0, 0, 0, 0⟩)) L.owed⟩, L.asks.getD i ⟨0, 0, 0, 0⟩)
  | none => none
def sumA (a : Int) (l : List OweV) : Int := (l.map (fun y => if y.asset = a then y.n else 0)).sum
def sumP (l : List OrdV) : Int := (l.map (fun o => o.price * o.left)).sum
def sumQ (l : List OrdV) : Int := (l.map (fun o => o.left)).sum
theorem sum_perm {l k : List Int} (h : l.Perm k) : l.sum = k.sum := by
 induction h with
 | nil => rfl
 | cons x _ ih => simp [ih]
 | swap x y l => simp only [List.sum_cons]; omega
 | trans _ _ h1 h2 => exact h1.trans h2
theorem sumA_modify (a n : Int) : ∀ (l : List OweV) (i : Nat) (h : i < l.length), sumA a (l.modify i (fun y => ⟨y.acc, y.asset, y.n + n⟩)) = sumA a l + (if l[i].asset = a then n else 0)
 | [], i, h => absurd h (by simp)
 | y :: l, 0, h => by
  rw [List.modify_zero_cons];simp only [sumA, List.map_cons, List.sum_cons, List.getElem_cons_zero]
  split <;> omega
 | y :: l, i + 1, h => by
  rw [List.modify_succ_cons];have ih := sumA_modify a n l i (by simpa using h);simp only [sumA, List.map_cons, List.sum_cons, List.getElem_cons_succ] at ih ⊢;omega
theorem sumA_owe (a acc asset n : Int) (l : List OweV) : sumA a (oweL acc asset n l) = sumA a l + (if asset = a then n else 0) := by
 unfold oweL
 split
 ·rename_i i hi
  rw [List.findIdx?_eq_some_iff_getElem] at hi;obtain ⟨h1, h2, _⟩ := hi;rw [sumA_modify a n l i h1];unfold oweP at h2;simp only [Bool.and_eq_true, decide_eq_true_eq] at h2;rw [h2.2]
 ·have := sum_perm ((laid_perm (r := owB) (x := (⟨acc, asset, n⟩ : OweV)) (l := l)).map (fun y => if y.asset = a then y.n else 0));unfold sumA;rw [this];simp only [List.map_cons, List.sum_cons];omega
theorem sumP_laid (s : Int) (x : OrdV) (l : List OrdV) : sumP (laidL (ahB s) x l) = sumP l + x.price * x.left := by
 have := sum_perm ((laid_perm (r := ahB s) (x := x) (l := l)).map (fun o => o.price * o.left));unfold sumP;rw [this];simp only [List.map_cons, List.sum_cons];omega
theorem sumQ_laid (s : Int) (x : OrdV) (l : List OrdV) : sumQ (laidL (ahB s) x l) = sumQ l + x.left := by
 have := sum_perm ((laid_perm (r := ahB s) (x := x) (l := l)).map (fun o => o.left));unfold sumQ;rw [this];simp only [List.map_cons, List.sum_cons];omega
theorem set_buy (x r : OrdV) (n : Int) (l : List OweV) (h : r.price ≤ x.price) : sumA 0 (setO 1 x r n l) = sumA 0 l + x.price * n ∧ sumA 1 (setO 1 x r n l) = sumA 1 l + n := by
 have hB : setB 1 x r = x := rfl;have hS : setS 1 x r = r := rfl;unfold setO;rw [hB, hS]
 simp only
 split
 ·rw [sumA_owe, sumA_owe, sumA_owe, sumA_owe, sumA_owe, sumA_owe];simp only [Int.sub_mul]
  constructor <;> (try simp) <;> omega
 ·have : r.price = x.price := by omega
  rw [sumA_owe, sumA_owe, sumA_owe, sumA_owe, this]
  constructor <;> simp
theorem set_sell (x r : OrdV) (n : Int) (l : List OweV) : sumA 0 (setO 2 x r n l) = sumA 0 l + r.price * n ∧ sumA 1 (setO 2 x r n l) = sumA 1 l + n := by
 have hB : setB 2 x r = r := rfl;have hS : setS 2 x r = x := rfl;unfold setO;rw [hB, hS]
 simp only
 rw [if_neg (by omega), sumA_owe, sumA_owe, sumA_owe, sumA_owe]
 constructor <;> simp
theorem tr_buy (x : OrdV) : ∀ (T : List OrdV) (left : Int) (ow : List OweV) (F : List FillV), sumA 0 (trL 1 x T left ow F).2.2.1 + x.price * (trL 1 x T left ow F).2.1 = sumA 0 ow + x.price * left ∧ sumQ (trL 1 x T left ow F).1 + sumA 1 (trL 1 x T left ow F).2.2.1 = sumQ T + sumA 1 ow
 | [], left, ow, F => ⟨rfl, rfl⟩
 | r :: rs, left, ow, F => by
  unfold trL
  by_cases hm : 0 < left ∧ meetB 1 x.price r.price = true
  ·rw [if_pos hm];have hp : r.price ≤ x.price := by simpa [meetB] using hm.2
   have hs := set_buy x r (min left r.left) ow hp
   by_cases h0 : r.left - min left r.left = 0
   ·rw [if_pos h0];have ih := tr_buy x rs (left - min left r.left) (setO 1 x r (min left r.left) ow) (F ++ [setF 1 x r (min left r.left)]);rw [hs.1, hs.2, Int.mul_sub] at ih;refine ⟨by omega, ?_⟩;simp only [sumQ, List.map_cons, List.sum_cons] at ih ⊢;omega
   ·rw [if_neg h0]
    simp only
    rw [hs.1, hs.2, Int.mul_sub];refine ⟨by omega, ?_⟩;simp only [sumQ, List.map_cons, List.sum_cons];omega
  ·rw [if_neg hm]
   exact ⟨rfl, rfl⟩
theorem tr_sell (x : OrdV) : ∀ (T : List OrdV) (left : Int) (ow : List OweV) (F : List FillV), sumP (trL 2 x T left ow F).1 + sumA 0 (trL 2 x T left ow F).2.2.1 = sumP T + sumA 0 ow ∧ (trL 2 x T left ow F).2.1 + sumA 1 (trL 2 x T left ow F).2.2.1 = left + sumA 1 ow
 | [], left, ow, F => ⟨rfl, rfl⟩
 | r :: rs, left, ow, F => by
  unfold trL
  by_cases hm : 0 < left ∧ meetB 2 x.price r.price = true
  ·rw [if_pos hm];have hs := set_sell x r (min left r.left) ow
   by_cases h0 : r.left - min left r.left = 0
   ·rw [if_pos h0];have ih := tr_sell x rs (left - min left r.left) (setO 2 x r (min left r.left) ow) (F ++ [setF 2 x r (min left r.left)]);rw [hs.1, hs.2] at ih;have e : r.left = min left r.left := by omega
    refine ⟨?_, by omega⟩;have e2 : r.price * r.left = r.price * min left r.left := by rw [← e]
    simp only [sumP, List.map_cons, List.sum_cons] at ih ⊢;omega
   ·rw [if_neg h0]
    simp only
    rw [hs.1, hs.2];refine ⟨?_, by omega⟩;simp only [sumP, List.map_cons, List.sum_cons, Int.mul_sub];omega
  ·rw [if_neg hm]
   exact ⟨rfl, rfl⟩
def holM (L : LaneV) : Int := sumP L.bids + sumA 0 L.owed
def holG (L : LaneV) : Int := sumQ L.asks + sumA 1 L.owed
theorem hold_place (L : LaneV) (s acc price n : Int) (now : Bool) (hs : s = 1 ∨ s = 2) (hl : 0 ≤ (plT L s ⟨L.next, acc, price, n⟩).2.1) :
  let M := plR (plL L s (plT L s ⟨L.next, acc, price, n⟩).1 (plT L s ⟨L.next, acc, price, n⟩).2.2.1) s ⟨L.next, acc, price, (plT L s ⟨L.next, acc, price, n⟩).2.1⟩ now
  holM M = holM L + (if s = 1 then price * n else 0) ∧ holG M = holG L + (if s = 1 then 0 else n) := by
 intro M;have hT : (s = 1 → sumA 0 (plT L s ⟨L.next, acc, price, n⟩).2.2.1 + price * (plT L s ⟨L.next, acc, price, n⟩).2.1 = sumA 0 L.owed + price * n ∧ sumQ (plT L s ⟨L.next, acc, price, n⟩).1 + sumA 1 (plT L s ⟨L.next, acc, price, n⟩).2.2.1 = sumQ L.asks + sumA 1 L.owed) ∧ (s = 2 → sumP (plT L s ⟨L.next, acc, price, n⟩).1 + sumA 0 (plT L s ⟨L.next, acc, price, n⟩).2.2.1 = sumP L.bids + sumA 0 L.owed ∧ (plT L s ⟨L.next, acc, price, n⟩).2.1 + sumA 1 (plT L s ⟨L.next, acc, price, n⟩).2.2.1 = n + sumA 1 L.owed) := by
  constructor
  ·rintro rfl;unfold plT;cases L.call
   ·exact tr_buy ⟨L.next, acc, price, n⟩ L.asks n L.owed []
   ·exact ⟨rfl, rfl⟩
  ·rintro rfl;unfold plT;cases L.call
   ·exact tr_sell ⟨L.next, acc, price, n⟩ L.bids n L.owed []
   ·exact ⟨rfl, rfl⟩
 show holM M = _ ∧ holG M = _
 have hM : M = plR (plL L s (plT L s ⟨L.next, acc, price, n⟩).1 (plT L s ⟨L.next, acc, price, n⟩).2.2.1) s ⟨L.next, acc, price, (plT L s ⟨L.next, acc, price, n⟩).2.1⟩ now := rfl;rw [hM];clear hM
 clear_value M
 generalize plT L s ⟨L.next, acc, price, n⟩ = X at *;obtain ⟨T, left, ow, F⟩ := X;dsimp only at *
 rcases hs with rfl | rfl
 ·have h := hT.1 rfl;simp only [plL, plR, holM, holG, if_true]
  by_cases h0 : 0 < left
  ·rw [if_pos h0];cases now
   ·simp only [Bool.false_eq_true, if_false, sumP_laid];omega
   ·simp only [if_true, brA, brN, sumA_owe]
    constructor <;> (try simp) <;> omega
  ·rw [if_neg h0];have : left = 0 := by omega
   subst this;simp only [Int.mul_zero] at h
   simp only
   omega
 ·have h := hT.2 rfl;simp only [plL, plR, holM, holG, show ¬ (2 : Int) = 1 by omega, if_false]
  by_cases h0 : 0 < left
  ·rw [if_pos h0];cases now
   ·simp only [Bool.false_eq_true, if_false, sumQ_laid];omega
   ·simp only [if_true, brA, brN, sumA_owe]
    constructor <;> (try simp) <;> omega
  ·rw [if_neg h0];have : left = 0 := by omega
   subst this
   simp only
   omega
theorem sumP_erase : ∀ (l : List OrdV) (i : Nat) (h : i < l.length), sumP (l.eraseIdx i) + l[i].price * l[i].left = sumP l
 | [], i, h => absurd h (by simp)
 | o :: l, 0, h => by
  simp only [sumP, List.eraseIdx_cons_zero, List.map_cons, List.sum_cons, List.getElem_cons_zero];omega
 | o :: l, i + 1, h => by
  have ih := sumP_erase l i (by simpa using h);simp only [sumP, List.eraseIdx_cons_succ, List.map_cons, List.sum_cons, List.getElem_cons_succ] at ih ⊢;omega
theorem sumQ_erase : ∀ (l : List OrdV) (i : Nat) (h : i < l.length), sumQ (l.eraseIdx i) + l[i].left = sumQ l
 | [], i, h => absurd h (by simp)
 | o :: l, 0, h => by
  simp only [sumQ, List.eraseIdx_cons_zero, List.map_cons, List.sum_cons, List.getElem_cons_zero];omega
 | o :: l, i + 1, h => by
  have ih := sumQ_erase l i (by simpa using h);simp only [sumQ, List.eraseIdx_cons_succ, List.map_cons, List.sum_cons, List.getElem_cons_succ] at ih ⊢;omega
theorem hold_can {L M : LaneV} {acc id : Int} {o : OrdV} (h : canF L acc id = some (M, o)) : holM M = holM L ∧ holG M = holG L := by
 unfold canF at h
 split at h
 ·rename_i i hi
  rw [List.findIdx?_eq_some_iff_getElem] at hi;obtain ⟨h1, _, _⟩ := hi;simp only [Option.some.injEq, Prod.mk.injEq] at h;obtain ⟨rfl, rfl⟩ := h;have e : L.bids.getD i ⟨0, 0, 0, 0⟩ = L.bids[i] := by simp [List.getD_eq_getElem?_getD, List.getElem?_eq_getElem h1]
  have := sumP_erase L.bids i h1;simp only [holM, holG, sumA_owe, e, brN]
  constructor <;> (try simp) <;> omega
 ·split at h
  ·rename_i i hi
   rw [List.findIdx?_eq_some_iff_getElem] at hi;obtain ⟨h1, _, _⟩ := hi;simp only [Option.some.injEq, Prod.mk.injEq] at h;obtain ⟨rfl, rfl⟩ := h;have e : L.asks.getD i ⟨0, 0, 0, 0⟩ = L.asks[i] := by simp [List.getD_eq_getElem?_getD, List.getElem?_eq_getElem h1]
   have := sumQ_erase L.asks i h1;simp only [holM, holG, sumA_owe, e, brN]
   constructor <;> (try simp) <;> omega
  ·cases h
theorem ah_trans {s : Int} (hs : s = 1 ∨ s = 2) {a b c : OrdV} (h : ahB s a b = true) (k : ahB s b c = true) : ahB s a c = true := by
 unfold ahB at *
 rcases hs with rfl | rfl
 ·by_cases h1 : a.price = b.price
  ·rw [if_pos h1] at h
   by_cases h2 : b.price = c.price
   ·rw [if_pos h2] at k;rw [if_pos (h1.trans h2)];simp only [decide_eq_true_eq] at *;omega
   ·rw [if_neg h2] at k;rw [if_neg (by omega)]
    simp at k ⊢
    omega
  ·rw [if_neg h1] at h
   by_cases h2 : b.price = c.price
   ·rw [if_neg (by omega)]
    simp at h ⊢
    omega
   ·rw [if_neg h2] at k
    simp at h k
    rw [if_neg (by omega)]
    simp
    omega
 ·by_cases h1 : a.price = b.price
  ·rw [if_pos h1] at h
   by_cases h2 : b.price = c.price
   ·rw [if_pos h2] at k;rw [if_pos (h1.trans h2)];simp only [decide_eq_true_eq] at *;omega
   ·rw [if_neg h2] at k;rw [if_neg (by omega)]
    simp at k ⊢
    omega
  ·rw [if_neg h1] at h
   by_cases h2 : b.price = c.price
   ·rw [if_neg (by omega)]
    simp at h ⊢
    omega
   ·rw [if_neg h2] at k
    simp at h k
    rw [if_neg (by omega)]
    simp
    omega
theorem eg53 : ∀ args w, (callFunc 145 args).run Tryz.prog w = .ok (.enter 145 args) w := enters_of Tryz.func145 (by kernel_rfl) rfl
theorem outP_is (acc id : Int) (B1 B2 : Nat) (o : OrdV) (w : World) (h1 : B1 < w.heap.size) (h2 : B2 < w.heap.size) (c1 : w.cell? ⟨B1, 0, none⟩ = some (.int .i64 id)) (c2 : w.cell? ⟨B2, 0, none⟩ = some (.int .i64 acc)) :
  Calls Tryz.prog 145 #[.agg (ordE o).toArray, .pointer (some ⟨B1, 0, none⟩), .pointer (some ⟨B2, 0, none⟩)] w fun e w' => e = .returned (.bool (outP acc id o)) ∧ Below w.heap.size w w' := by
 have HB := hideIt (below1 w (.cells (ordE o).toArray 115));have hne : B1 ≠ w.heap.size := by omega
 have hne2 : B2 ≠ w.heap.size := by omega
 unfold outP ordE at *;obtain ⟨i, ac, p, l⟩ := o;simp only at HB ⊢
 show Calls Tryz.prog 145 #[.agg #[.int .i64 i, .int .i64 ac, .int .i64 p, .int .i64 l], .pointer (some ⟨B1, 0, none⟩), .pointer (some ⟨B2, 0, none⟩)] w _
 by_cases h : i = id
 ·subst h
  go_enter Tryz.func145, Tryz.ntmps145
  go_wp2;go_ret
  exact ⟨by simp; rfl, HB.out⟩
 ·go_enter Tryz.func145, Tryz.ntmps145
  go_wp2;go_ret
  exact ⟨by simp [h], HB.out⟩
theorem pred53 {acc id : Int} {B1 B2 : Nat} {w : World} (h1 : B1 < w.heap.size) (h2 : B2 < w.heap.size) (c1 : w.cell? ⟨B1, 0, none⟩ = some (.int .i64 id)) (c2 : w.cell? ⟨B2, 0, none⟩ = some (.int .i64 acc)) : PredB 145 #[.pointer (some ⟨B1, 0, none⟩), .pointer (some ⟨B2, 0, none⟩)] ordE (outP acc id) w := fun W x hW =>
 (outP_is acc id B1 B2 x W (Nat.lt_of_lt_of_le h1 hW.size) (Nat.lt_of_lt_of_le h2 hW.size) ((hW.cell (p := ⟨B1, 0, none⟩) h1).trans c1) ((hW.cell (p := ⟨B2, 0, none⟩) h2).trans c2)).mono (fun _ _ h => ⟨h.1, below_via hW h.2⟩)
def TkBack (D B : Nat) (L : LaneV) (F : List FillV) (b a f : Value) (acc id : Int) (w : World) (e : Ending) (w' : World) : Prop :=
 (∃ M x, canF L acc id = some (M, x) ∧ e = .returned (.tuple #[.agg (ordE x).toArray, .bool true]) ∧ ∃ b' a' o' q, Deal D B M F b' a' o' f w' ∧ Tcr D B q w w' ∧ (q = b.ownBlock ∨ q = a.ownBlock)) ∨
 (canF L acc id = none ∧ e = .returned (.tuple #[.agg #[.int .i64 0, .int .i64 0, .int .i64 0, .int .i64 0], .bool false]) ∧ Below w.heap.size w w')
theorem four_at {w : World} {p : Nat} {t : TypeId} {a b c d : Value} (h : w.heap[p]? = some (.cells #[a, b, c, d] t (0, 0))) : w.cell? ⟨p, 0, none⟩ = some a ∧ w.cell? ⟨p, 1, none⟩ = some b ∧ w.cell? ⟨p, 2, none⟩ = some c ∧ w.cell? ⟨p, 3, none⟩ = some d ∧ p < w.heap.size :=
 ⟨by rw [cell_at h]; rfl, by rw [cell_at h]; rfl, by rw [cell_at h]; rfl, by rw [cell_at h]; rfl, (Array.getElem?_eq_some_iff.1 h).1⟩
structure TK (w : World) (D B : Nat) (L : LaneV) (F : List FillV) (b a o f : Value) (acc id : Int) (W : World) : Prop where
 deal : Deal D B L F b a o f W
 b0 : W.heap[w.heap.size]? = some (.cells #[.int .i64 acc] 3 (0, 0))
 b1 : W.heap[w.heap.size + 1]? = some (.cells #[.int .i64 id] 3 (0, 0))
 b2 : W.heap[w.heap.size + 2]? = some (.cells #[.int .i64 0, .int .i64 0, .int .i64 0, .int .i64 0] 115 (0, 0))
 bel : Below w.heap.size w W
theorem TK.keep {w : World} {D B : Nat} {L : LaneV} {F : List FillV} {b a o f : Value} {acc id : Int} {W W' : World} (h : TK w D B L F b a o f acc id W) (hb : Below W.heap.size W W') : TK w D B L F b a o f acc id W' :=
 ⟨h.deal.keep hb, (hb.block _ (Array.getElem?_eq_some_iff.1 h.b0).1).trans h.b0, (hb.block _ (Array.getElem?_eq_some_iff.1 h.b1).1).trans h.b1, (hb.block _ (Array.getElem?_eq_some_iff.1 h.b2).1).trans h.b2, below_via h.bel hb⟩
theorem TK.first {w : World} {D B : Nat} {L : LaneV} {F : List FillV} {b a o f : Value} (acc id : Int) (h : Deal D B L F b a o f w) : TK w D B L F b a o f acc id (((w.alloc (.cells #[.int .i64 acc] 3)).alloc (.cells #[.int .i64 id] 3)).alloc (.cells #[.int .i64 0, .int .i64 0, .int .i64 0, .int .i64 0] 115)) := by
 have ht := three_heap w (.cells #[.int .i64 acc] 3) (.cells #[.int .i64 id] 3) (.cells #[.int .i64 0, .int .i64 0, .int .i64 0, .int .i64 0] 115);have hb := below3 w (.cells #[.int .i64 acc] 3) (.cells #[.int .i64 id] 3) (.cells #[.int .i64 0, .int .i64 0, .int .i64 0, .int .i64 0] 115)
 exact ⟨h.keep hb, ht.1, ht.2.1, ht.2.2.1, hb⟩
theorem TK.pred {w : World} {D B : Nat} {L : LaneV} {F : List FillV} {b a o f : Value} {acc id : Int} {W : World} (h : TK w D B L F b a o f acc id W) : PredB 145 #[.pointer (some ⟨w.heap.size + 1, 0, none⟩), .pointer (some ⟨w.heap.size, 0, none⟩)] ordE (outP acc id) W :=
 pred53 (Array.getElem?_eq_some_iff.1 h.b1).1 (Array.getElem?_eq_some_iff.1 h.b0).1 (by rw [cell_at h.b1]; rfl) (by rw [cell_at h.b0]; rfl)
theorem ords_of {w : World} {B : Nat} {v : Value} {l : List OrdV} (h : w.ownsRow B 115 4 v l.length (celC ordE l)) (hl : l.length ≤ 40) : Ords w v l := own_sgot (bytes := 32) h (by omega)
theorem row36 {w : World} {B : Nat} {v : Value} {l : List OrdV} (h : w.ownsRow B 115 4 v l.length (celC ordE l)) (i : Nat) (hi : i < l.length) : ∃ g c, v = .slice (some ⟨g, 0, none⟩) l.length c ∧ g < w.heap.size ∧ w.cell? ⟨g, i * 4, none⟩ = some (.int .i64 l[i].id) ∧ w.cell? ⟨g, i * 4 + 1, none⟩ = some (.int .i64 l[i].acc) ∧ w.cell? ⟨g, i * 4 + 2, none⟩ = some (.int .i64 l[i].price) ∧ w.cell? ⟨g, i * 4 + 3, none⟩ = some (.int .i64 l[i].left) := by
 rcases h.2 with ⟨_, h2⟩ | ⟨g, cap, cur, rfl, hg0, hg, hn, hc, hs, ht⟩
 ·omega
 ·have k : ∀ r, r < 4 → w.cell? ⟨g, i * 4 + r, none⟩ = (ordE l[i])[r]? := fun r hr => by
   rw [cell_at hg, ← celC_get ordK l i hi r hr, ← ht, List.getElem?_take, if_pos (by omega)]
   simp
  exact ⟨g, cap, rfl, (Array.getElem?_eq_some_iff.1 hg).1, k 0 (by omega), k 1 (by omega), k 2 (by omega), k 3 (by omega)⟩
theorem take_erase {α : Type} (l : List α) (i : Nat) : l.take i ++ l.drop (i + 1) = l.eraseIdx i := (List.eraseIdx_eq_take_drop_succ l i).symm
theorem deal_set {D B k j : Nat} {M : LaneV} {F : List FillV} {b a o f v : Value} {W : World} {cs : Array Value} (h : Deal D B M F b a o f W) (hk : W.heap[k]? = some (.cells cs 115 (0, 0))) (hD : k ≠ D) (hb : b.ownBlock ≠ some k) (ha : a.ownBlock ≠ some k) : Deal D B M F b a o f (W.setCell ⟨k, j, none⟩ v) :=
 ⟨setOther _ h.box hD.symm, own_ne h.ob hb, own_ne h.oa ha, own_cell h.oo hk (by decide), own_cell h.fl hk (by decide), h.sep⟩
theorem deal_put4 {D B k : Nat} {M : LaneV} {F : List FillV} {b a o f v0 v1 v2 v3 : Value} {W : World} {z0 z1 z2 z3 : Value} (h : Deal D B M F b a o f W) (hk : W.heap[k]? = some (.cells #[z0, z1, z2, z3] 115 (0, 0))) (hD : k ≠ D) (hb : b.ownBlock ≠ some k) (ha : a.ownBlock ≠ some k) : Deal D B M F b a o f ((((W.setCell ⟨k, 0, none⟩ v0).setCell ⟨k, 1, none⟩ v1).setCell ⟨k, 2, none⟩ v2).setCell ⟨k, 3, none⟩ v3) := by
 have h0 := heap_set hk 0 v0;have h1 := heap_set h0 1 v1;have h2 := heap_set h1 2 v2;exact deal_set (deal_set (deal_set (deal_set h hk hD hb ha) h0 hD hb ha) h1 hD hb ha) h2 hD hb ha
/- a side in which nothing is found: the round goes on -/
/- a side in which it is found -/
set_option maxHeartbeats 8000000 in
set_option maxRecDepth 100000 in
theorem takeOut_is (D B c : Nat) (L : LaneV) (F : List FillV) (b a o f : Value) (acc id : Int) (w : World) (h : Deal D B L F b a o f w) (hB : B ≤ w.heap.size) (ho : OkO c L.owed) (hc : c ≤ 1000) (hlb : L.bids.length ≤ 40) (hla : L.asks.length ≤ 40) (hob : OkT L.bids) (hoa : OkT L.asks) :
  Calls Tryz.prog 117 #[.pointer (some ⟨D, 0, none⟩), .int .i64 acc, .int .i64 id] w (TkBack D B L F b a f acc id w) := by
 obtain ⟨ba, bc, rfl⟩ := own_len h.ob;obtain ⟨aa, ac, rfl⟩ := own_len h.oa;have X0 := hideIt (TK.first acc id h);have HBS := hideIt (fun W => bothSides_is W);have HO1 := hideIt (fun W => orders_is D 1 W);have HO2 := hideIt (fun W => orders_is D 2 W);rw [show sideOff 1 = 2 from rfl] at HO1;rw [show sideOff 2 = 3 from rfl] at HO2;have HI1 := hideIt (fun W (hW : TK w D B L F (.slice ba L.bids.length bc) (.slice aa L.asks.length ac) o f acc id W) => indexO_is 145 _ eg53 _ L.bids (outP acc id) W (ords_of hW.deal.ob hlb) hW.pred);have HI2 := hideIt (fun W (hW : TK w D B L F (.slice ba L.bids.length bc) (.slice aa L.asks.length ac) o f acc id W) => indexO_is 145 _ eg53 _ L.asks (outP acc id) W (ords_of hW.deal.oa hla) hW.pred);have hix0 := idx0;have hix1 := idx1;have hD0 := hideIt h.lt;have GB := hideIt h.ob.lt;have GA := hideIt h.oa.lt;have HOK := hideIt (And.intro ho hc);clear h;cases hfb : L.bids.findIdx? (outP acc id) with
 | some i =>
  rw [show idxI (outP acc id) L.bids = (i : Int) by unfold idxI; rw [hfb]] at HI1
  have hi : i < L.bids.length := by
   rw [List.findIdx?_eq_some_iff_getElem] at hfb;exact hfb.1
  have HRES : Hid (canF L acc id = some (⟨L.call, L.next, L.bids.eraseIdx i, L.asks, oweL L.bids[i].acc 0 (brN 1 L.bids[i]) L.owed⟩, L.bids[i])) := by
   show _ = _
   unfold canF;rw [hfb]
   simp [List.getD_eq_getElem?_getD, List.getElem?_eq_getElem hi]
  have hok := hob L.bids[i] (List.getElem_mem hi);have HQ := hideIt hok;clear hfb hok hob hoa ho hc
  go_enter Tryz.func117, Tryz.ntmps117
  go_wp2_with fail
  refine (HBS.out _).mono ?_;rintro e w1 ⟨rfl, hb⟩;dsimp only;have X := hideIt (X0.out.keep hb);clear hb X0 HBS
  go_upto_region 2 with fail
  go_loopw [14] (fun v wr => ∃ k : Int, v = .int .i64 k ∧ k = 0 ∧ Hid (TK w D B L F (.slice ba L.bids.length bc) (.slice aa L.asks.length ac) o f acc id wr)) (fun v _ => 2 - (intOf v).toNat)
  case atStart => exact ⟨0, rfl, rfl, X⟩
  case round =>
   clear X;obtain ⟨k, rfl, rfl, X⟩ := hrel;obtain ⟨c0, c1, c2, c3, c4, c5⟩ := X.out.deal.cells;have hDl := X.out.deal.lt
   go_wp2_with fail
   refine (HO1.out _).mono ?_;rintro e wr ⟨rfl, rfl⟩;dsimp only
   go_wp2_with fail
   refine (HI1.out _ X.out).mono ?_;rintro e w2 ⟨rfl, hb⟩;dsimp only;have X2 := hideIt (X.out.keep hb);clear hb X c0 c1 c2 c3 c4 c5 hDl;obtain ⟨c0, c1, c2, c3, c4, c5⟩ := X2.out.deal.cells;have hDl := X2.out.deal.lt;obtain ⟨g, gc, hv, hgl, g0, g1, g2, g3⟩ := row36 X2.out.deal.ob i hi;simp only [Value.slice.injEq, true_and] at hv;obtain ⟨rfl, rfl⟩ := hv;have G0 : Hid (g < w.heap.size) := (GB.out g rfl).2;have hltI : (i : Int) < (L.bids.length : Int) := by omega
   have hi0 : (0 : Int) ≤ (i : Int) := by omega
   have hwi : IntKind.i64.wrap ((i : Int) + 1) = ((i + 1 : Nat) : Int) := by rw [IntKind.wrap_i64]; omega
   have hb3 := below1 w2 (.cells (ordE L.bids[i]).toArray 115);have X3 := hideIt (X2.out.keep hb3);have N3 := hideIt (heap_alloc_new w2 (.cells (ordE L.bids[i]).toArray 115));have S3 := hideIt (And.intro (Array.getElem?_eq_some_iff.1 X2.out.b2).1 (And.intro X2.out.deal.lt (X2.out.deal.ob.lt)));have HDD := hideIt (fun W (hW : W.ownsRow B 115 4 (.slice (some ⟨g, 0, none⟩) L.bids.length bc) L.bids.length (celC ordE L.bids)) => deleteO_is B i (i + 1) rfl (.slice (some ⟨g, 0, none⟩) L.bids.length bc) L.bids W hW hi);rw [take_erase] at HDD;obtain ⟨x, hx⟩ : ∃ x, x = L.bids[i] := ⟨_, rfl⟩;rw [← hx] at g0 g1 g2 g3 X3 N3;have HX := hideIt hx;have HPR := hideIt HQ.out;rw [← hx] at HPR;clear hx hb3 HQ;obtain ⟨xi, xac, xp, xl⟩ := x;unfold ordE at X3 N3;dsimp only at g0 g1 g2 g3 X3 N3
   go_upto_region 8 with fail
   clear c0 c1 c2 c3 c4 c5 hDl g0 g1 g2 g3 hgl;generalize w2.alloc (.cells #[.int .i64 xi, .int .i64 xac, .int .i64 xp, .int .i64 xl] 115) = W3 at *;generalize w2.heap.size = K at *;obtain ⟨c0, c1, c2, c3, c4, c5⟩ := X3.out.deal.cells;have hDl := X3.out.deal.lt
   go_wp2_with fail
   refine (HDD.out _ X3.out.deal.ob).mono ?_;rintro e w4 ⟨v4, rfl, ho, hg, hob⟩;dsimp only;obtain ⟨va, vc, rfl⟩ := own_len ho;obtain ⟨hD4, e1, e2, e3⟩ := dealB_del X3.out.deal ho hg hob;have hgK : K ≠ g := fun e => by have := G0.out; have := S3.out.1; omega
   have hgR : w.heap.size + 2 ≠ g := fun e => by have := G0.out; omega
   have hDK : K ≠ D := fun e => by have := S3.out.2.1; omega
   have hDR : w.heap.size + 2 ≠ D := fun e => by have := hD0.out; omega
   have N4 := hideIt (setOther (b := D) (j := 2) (.slice va (L.bids.eraseIdx i).length vc) ((hg.block K (Array.getElem?_eq_some_iff.1 N3.out).1 (fun e => by simp only [Value.ownBlock, Option.some.injEq] at e; exact hgK e)).trans N3.out) hDK)
   have R4 := hideIt (setOther (b := D) (j := 2) (.slice va (L.bids.eraseIdx i).length vc) ((hg.block _ (Array.getElem?_eq_some_iff.1 X3.out.b2).1 (fun e => by simp only [Value.ownBlock, Option.some.injEq] at e; exact hgR e)).trans X3.out.b2) hDR)
   have D4 := hideIt hD4;have T4 := hideIt (((Tcr.ofTch (q := (Value.slice (some ⟨g, 0, none⟩) L.bids.length bc).ownBlock) (Tch.ofBelow (D := D) (B := B) X3.out.bel)).trans (Tcr.ofGrown (D := D) (B := B) hg)).setD (j := 2) (.slice va (L.bids.eraseIdx i).length vc));have OB := hideIt hob;have Z4 : Hid (B ≤ (w4.setCell ⟨D, 2, none⟩ (.slice va (L.bids.eraseIdx i).length vc)).heap.size) := Nat.le_trans hB T4.out.size;clear hD4 ho hg hob hgK hgR c0 c1 c2 c3 c4 c5 hDl HDD X3 N3
   go_upto_region 9 with fail
   clear e1 e2 e3;generalize w4.setCell ⟨D, 2, none⟩ (.slice va (L.bids.eraseIdx i).length vc) = W5 at *;have HGB := hideIt (giveBack_is D B c _ F _ _ o f 1 ⟨xi, xac, xp, xl⟩ W5 D4.out Z4.out HOK.out.1 HOK.out.2 (show 0 ≤ xp ∧ xp ≤ 1000000 by have := HPR.out; omega) (show 0 ≤ xl ∧ xl ≤ 1000000 by have := HPR.out; omega))
   unfold ordE at HGB;dsimp only at HGB;obtain ⟨y0, y1, y2, y3, yl⟩ := four_at N4.out
   go_wp2_with fail
   refine HGB.out.mono ?_;rintro e w6 ⟨rfl, o6, hD6, hT6⟩;dsimp only;have N6 := hT6.block N4.out hDK (by decide) (by decide);have R6 := hT6.block R4.out hDR (by decide) (by decide);have HD6 := hideIt hD6;have T6 := hideIt (T4.out.trans (Tcr.ofTch hT6));clear hD6 hT6 y0 y1 y2 y3 yl HGB D4 T4 N4 R4 Z4;obtain ⟨y0, y1, y2, y3, yl⟩ := four_at N6;obtain ⟨z0, z1, z2, z3, zl⟩ := four_at (p := w.heap.size + 1 + 1) R6;have zf : ∀ j, w6.frozen? ⟨w.heap.size + 1 + 1, j, none⟩ = false := fun j => free_at (p := w.heap.size + 1 + 1) R6 j
   have HP := hideIt (put4 w6 (w.heap.size + 1 + 1) 115 (.int .i64 xi) (.int .i64 xac) (.int .i64 xp) (.int .i64 xl) R6);have HDF := hideIt (deal_put4 (v0 := .int .i64 xi) (v1 := .int .i64 xac) (v2 := .int .i64 xp) (v3 := .int .i64 xl) HD6.out R6 hDR (by rw [OB.out]; simp only [Value.ownBlock, ne_eq, Option.some.injEq]; have := G0.out; omega) (fun e => by have := (GA.out _ e).2; omega))
   have HTF := hideIt ((((T6.out.set (k := w.heap.size + 1 + 1) (j := 0) (by omega) (.int .i64 xi)).set (k := w.heap.size + 1 + 1) (j := 1) (by omega) (.int .i64 xac)).set (k := w.heap.size + 1 + 1) (j := 2) (by omega) (.int .i64 xp)).set (k := w.heap.size + 1 + 1) (j := 3) (by omega) (.int .i64 xl));have nK : K ≠ w.heap.size + 1 + 1 := by have := S3.out.1; omega
   clear HD6 T6 N6 R6 S3 hDK hDR;go_wp2
   revert HP HDF HTF
   generalize (World.setCell _ ⟨w.heap.size + 1 + 1, 3, none⟩ _) = WW;intro HP HDF HTF;exact bodyPost_ret (v := .tuple #[.agg #[.int .i64 xi, .int .i64 xac, .int .i64 xp, .int .i64 xl], .bool true]) (by simp [results, Tryz.results117, go_sem, cell_at HP.out]) rfl (.inl ⟨_, _, HRES.out, by rw [← HX.out]; rfl, _, _, _, _, by rw [← HX.out]; exact HDF.out, HTF.out, by first | exact .inl rfl | exact .inr rfl⟩)
 | none =>
  rw [show idxI (outP acc id) L.bids = -1 by unfold idxI; rw [hfb]] at HI1
  cases hfa : L.asks.findIdx? (outP acc id) with
  | some i =>
   rw [show idxI (outP acc id) L.asks = (i : Int) by unfold idxI; rw [hfa]] at HI2
   have hi : i < L.asks.length := by
    rw [List.findIdx?_eq_some_iff_getElem] at hfa;exact hfa.1
   have HRES : Hid (canF L acc id = some (⟨L.call, L.next, L.bids, L.asks.eraseIdx i, oweL L.asks[i].acc 1 (brN 2 L.asks[i]) L.owed⟩, L.asks[i])) := by
    show _ = _
    unfold canF;rw [hfb, hfa]
    simp [List.getD_eq_getElem?_getD, List.getElem?_eq_getElem hi]
   have hok := hoa L.asks[i] (List.getElem_mem hi);have HQ := hideIt hok;clear hfb hfa hok hob hoa ho hc
   go_enter Tryz.func117, Tryz.ntmps117
   go_wp2_with fail
   refine (HBS.out _).mono ?_;rintro e w1 ⟨rfl, hb⟩;dsimp only;have X := hideIt (X0.out.keep hb);clear hb X0 HBS
   go_upto_region 2 with fail
   go_loopw [14] (fun v wr => ∃ k : Int, v = .int .i64 k ∧ (k = 0 ∨ k = 1) ∧ Hid (TK w D B L F (.slice ba L.bids.length bc) (.slice aa L.asks.length ac) o f acc id wr)) (fun v _ => 2 - (intOf v).toNat)
   case atStart => exact ⟨0, rfl, .inl rfl, X⟩
   case round =>
    clear X;obtain ⟨k, rfl, hk, X⟩ := hrel;obtain ⟨c0, c1, c2, c3, c4, c5⟩ := X.out.deal.cells;have hDl := X.out.deal.lt
    rcases hk with rfl | rfl
    ·go_wp2_with fail
     refine (HO1.out _).mono ?_;rintro e wr ⟨rfl, rfl⟩;dsimp only
     go_wp2_with fail
     refine (HI1.out _ X.out).mono ?_;rintro e w2 ⟨rfl, hb⟩;dsimp only;have X2 := hideIt (X.out.keep hb);clear hb;go_wp2
     go_roundw
     case rel => exact ⟨1, rfl, .inr rfl, X2⟩
     case measure => simp [intOf]
    ·go_wp2_with fail
     refine (HO2.out _).mono ?_;rintro e wr ⟨rfl, rfl⟩;dsimp only
     go_wp2_with fail
     refine (HI2.out _ X.out).mono ?_;rintro e w2 ⟨rfl, hb⟩;dsimp only;have X2 := hideIt (X.out.keep hb);clear hb X c0 c1 c2 c3 c4 c5 hDl;obtain ⟨c0, c1, c2, c3, c4, c5⟩ := X2.out.deal.cells;have hDl := X2.out.deal.lt;obtain ⟨g, gc, hv, hgl, g0, g1, g2, g3⟩ := row36 X2.out.deal.oa i hi;simp only [Value.slice.injEq, true_and] at hv;obtain ⟨rfl, rfl⟩ := hv;have G0 : Hid (g < w.heap.size) := (GA.out g rfl).2;have hltI : (i : Int) < (L.asks.length : Int) := by omega
     have hi0 : (0 : Int) ≤ (i : Int) := by omega
     have hwi : IntKind.i64.wrap ((i : Int) + 1) = ((i + 1 : Nat) : Int) := by rw [IntKind.wrap_i64]; omega
     have hb3 := below1 w2 (.cells (ordE L.asks[i]).toArray 115);have X3 := hideIt (X2.out.keep hb3);have N3 := hideIt (heap_alloc_new w2 (.cells (ordE L.asks[i]).toArray 115));have S3 := hideIt (And.intro (Array.getElem?_eq_some_iff.1 X2.out.b2).1 (And.intro X2.out.deal.lt (X2.out.deal.oa.lt)));have HDD := hideIt (fun W (hW : W.ownsRow B 115 4 (.slice (some ⟨g, 0, none⟩) L.asks.length ac) L.asks.length (celC ordE L.asks)) => deleteO_is B i (i + 1) rfl (.slice (some ⟨g, 0, none⟩) L.asks.length ac) L.asks W hW hi);rw [take_erase] at HDD;obtain ⟨x, hx⟩ : ∃ x, x = L.asks[i] := ⟨_, rfl⟩;rw [← hx] at g0 g1 g2 g3 X3 N3;have HX := hideIt hx;have HPR := hideIt HQ.out;rw [← hx] at HPR;clear hx hb3 HQ;obtain ⟨xi, xac, xp, xl⟩ := x;unfold ordE at X3 N3;dsimp only at g0 g1 g2 g3 X3 N3
     go_upto_region 8 with fail
     clear c0 c1 c2 c3 c4 c5 hDl g0 g1 g2 g3 hgl;generalize w2.alloc (.cells #[.int .i64 xi, .int .i64 xac, .int .i64 xp, .int .i64 xl] 115) = W3 at *;generalize w2.heap.size = K at *;obtain ⟨c0, c1, c2, c3, c4, c5⟩ := X3.out.deal.cells;have hDl := X3.out.deal.lt
     go_wp2_with fail
     refine (HDD.out _ X3.out.deal.oa).mono ?_;rintro e w4 ⟨v4, rfl, ho, hg, hob⟩;dsimp only;obtain ⟨va, vc, rfl⟩ := own_len ho;obtain ⟨hD4, e1, e2, e3⟩ := dealA_del X3.out.deal ho hg hob;have hgK : K ≠ g := fun e => by have := G0.out; have := S3.out.1; omega
     have hgR : w.heap.size + 2 ≠ g := fun e => by have := G0.out; omega
     have hDK : K ≠ D := fun e => by have := S3.out.2.1; omega
     have hDR : w.heap.size + 2 ≠ D := fun e => by have := hD0.out; omega
     have N4 := hideIt (setOther (b := D) (j := 3) (.slice va (L.asks.eraseIdx i).length vc) ((hg.block K (Array.getElem?_eq_some_iff.1 N3.out).1 (fun e => by simp only [Value.ownBlock, Option.some.injEq] at e; exact hgK e)).trans N3.out) hDK)
     have R4 := hideIt (setOther (b := D) (j := 3) (.slice va (L.asks.eraseIdx i).length vc) ((hg.block _ (Array.getElem?_eq_some_iff.1 X3.out.b2).1 (fun e => by simp only [Value.ownBlock, Option.some.injEq] at e; exact hgR e)).trans X3.out.b2) hDR)
     have D4 := hideIt hD4;have T4 := hideIt (((Tcr.ofTch (q := (Value.slice (some ⟨g, 0, none⟩) L.asks.length ac).ownBlock) (Tch.ofBelow (D := D) (B := B) X3.out.bel)).trans (Tcr.ofGrown (D := D) (B := B) hg)).setD (j := 3) (.slice va (L.asks.eraseIdx i).length vc));have OB := hideIt hob;have Z4 : Hid (B ≤ (w4.setCell ⟨D, 3, none⟩ (.slice va (L.asks.eraseIdx i).length vc)).heap.size) := Nat.le_trans hB T4.out.size;clear hD4 ho hg hob hgK hgR c0 c1 c2 c3 c4 c5 hDl HDD X3 N3
     go_upto_region 9 with fail
     clear e1 e2 e3;generalize w4.setCell ⟨D, 3, none⟩ (.slice va (L.asks.eraseIdx i).length vc) = W5 at *;have HGB := hideIt (giveBack_is D B c _ F _ _ o f 2 ⟨xi, xac, xp, xl⟩ W5 D4.out Z4.out HOK.out.1 HOK.out.2 (show 0 ≤ xp ∧ xp ≤ 1000000 by have := HPR.out; omega) (show 0 ≤ xl ∧ xl ≤ 1000000 by have := HPR.out; omega))
     unfold ordE at HGB;dsimp only at HGB;obtain ⟨y0, y1, y2, y3, yl⟩ := four_at N4.out
     go_wp2_with fail
     refine HGB.out.mono ?_;rintro e w6 ⟨rfl, o6, hD6, hT6⟩;dsimp only;have N6 := hT6.block N4.out hDK (by decide) (by decide);have R6 := hT6.block R4.out hDR (by decide) (by decide);have HD6 := hideIt hD6;have T6 := hideIt (T4.out.trans (Tcr.ofTch hT6));clear hD6 hT6 y0 y1 y2 y3 yl HGB D4 T4 N4 R4 Z4;obtain ⟨y0, y1, y2, y3, yl⟩ := four_at N6;obtain ⟨z0, z1, z2, z3, zl⟩ := four_at (p := w.heap.size + 1 + 1) R6;have zf : ∀ j, w6.frozen? ⟨w.heap.size + 1 + 1, j, none⟩ = false := fun j => free_at (p := w.heap.size + 1 + 1) R6 j
     have HP := hideIt (put4 w6 (w.heap.size + 1 + 1) 115 (.int .i64 xi) (.int .i64 xac) (.int .i64 xp) (.int .i64 xl) R6);have HDF := hideIt (deal_put4 (v0 := .int .i64 xi) (v1 := .int .i64 xac) (v2 := .int .i64 xp) (v3 := .int .i64 xl) HD6.out R6 hDR (fun e => by have := (GB.out _ e).2; omega) (by rw [OB.out]; simp only [Value.ownBlock, ne_eq, Option.some.injEq]; have := G0.out; omega))
     have HTF := hideIt ((((T6.out.set (k := w.heap.size + 1 + 1) (j := 0) (by omega) (.int .i64 xi)).set (k := w.heap.size + 1 + 1) (j := 1) (by omega) (.int .i64 xac)).set (k := w.heap.size + 1 + 1) (j := 2) (by omega) (.int .i64 xp)).set (k := w.heap.size + 1 + 1) (j := 3) (by omega) (.int .i64 xl));have nK : K ≠ w.heap.size + 1 + 1 := by have := S3.out.1; omega
     clear HD6 T6 N6 R6 S3 hDK hDR;go_wp2
     revert HP HDF HTF
     generalize (World.setCell _ ⟨w.heap.size + 1 + 1, 3, none⟩ _) = WW;intro HP HDF HTF;exact bodyPost_ret (v := .tuple #[.agg #[.int .i64 xi, .int .i64 xac, .int .i64 xp, .int .i64 xl], .bool true]) (by simp [results, Tryz.results117, go_sem, cell_at HP.out]) rfl (.inl ⟨_, _, HRES.out, by rw [← HX.out]; rfl, _, _, _, _, by rw [← HX.out]; exact HDF.out, HTF.out, by first | exact .inl rfl | exact .inr rfl⟩)
  | none =>
   rw [show idxI (outP acc id) L.asks = -1 by unfold idxI; rw [hfa]] at HI2
   have HRES : Hid (canF L acc id = none) := by
    show _ = _
    unfold canF;rw [hfb, hfa]
   clear hfb hfa hob hoa ho hc
   go_enter Tryz.func117, Tryz.ntmps117
   go_wp2_with fail
   refine (HBS.out _).mono ?_;rintro e w1 ⟨rfl, hb⟩;dsimp only;have X := hideIt (X0.out.keep hb);clear hb X0 HBS
   go_upto_region 2 with fail
   go_loopw [14] (fun v wr => ∃ k : Int, v = .int .i64 k ∧ (k = 0 ∨ k = 1 ∨ k = 2) ∧ Hid (TK w D B L F (.slice ba L.bids.length bc) (.slice aa L.asks.length ac) o f acc id wr)) (fun v _ => 2 - (intOf v).toNat)
   case atStart => exact ⟨0, rfl, .inl rfl, X⟩
   case round =>
    clear X;obtain ⟨k, rfl, hk, X⟩ := hrel;obtain ⟨c0, c1, c2, c3, c4, c5⟩ := X.out.deal.cells;have hDl := X.out.deal.lt
    rcases hk with rfl | rfl | rfl
    ·go_wp2_with fail
     refine (HO1.out _).mono ?_;rintro e wr ⟨rfl, rfl⟩;dsimp only
     go_wp2_with fail
     refine (HI1.out _ X.out).mono ?_;rintro e w2 ⟨rfl, hb⟩;dsimp only;have X2 := hideIt (X.out.keep hb);clear hb;go_wp2
     go_roundw
     case rel => exact ⟨1, rfl, .inr (.inl rfl), X2⟩
     case measure => simp [intOf]
    ·go_wp2_with fail
     refine (HO2.out _).mono ?_;rintro e wr ⟨rfl, rfl⟩;dsimp only
     go_wp2_with fail
     refine (HI2.out _ X.out).mono ?_;rintro e w2 ⟨rfl, hb⟩;dsimp only;have X2 := hideIt (X.out.keep hb);clear hb;go_wp2
     go_roundw
     case rel => exact ⟨2, rfl, .inr (.inr rfl), X2⟩
     case measure => simp [intOf]
    ·obtain ⟨z0, z1, z2, z3, zl⟩ := four_at (p := w.heap.size + 1 + 1) X.out.b2;have zf : ∀ j, wr.frozen? ⟨w.heap.size + 1 + 1, j, none⟩ = false := fun j => free_at (p := w.heap.size + 1 + 1) X.out.b2 j
     have HP := hideIt (put4 wr (w.heap.size + 1 + 1) 115 (.int .i64 0) (.int .i64 0) (.int .i64 0) (.int .i64 0) X.out.b2);have HBF := hideIt (belowSet (j := 3) (.int .i64 0) (belowSet (j := 2) (.int .i64 0) (belowSet (j := 1) (.int .i64 0) (belowSet (j := 0) (.int .i64 0) X.out.bel (b := w.heap.size + 1 + 1) (by omega)) (b := w.heap.size + 1 + 1) (by omega)) (b := w.heap.size + 1 + 1) (by omega)) (b := w.heap.size + 1 + 1) (by omega));go_wp2
     revert HP HBF
     generalize (World.setCell _ ⟨w.heap.size + 1 + 1, 3, none⟩ _) = WW;intro HP HBF;exact bodyPost_ret (v := .tuple #[.agg #[.int .i64 0, .int .i64 0, .int .i64 0, .int .i64 0], .bool false]) (by simp [results, Tryz.results117, go_sem, cell_at HP.out]) rfl (.inr ⟨HRES.out, rfl, HBF.out⟩)
def canR (L : LaneV) (acc id : Int) : LaneV × Int × Int :=
 if chkB L = true then (match canF L acc id with
  | none => (zLane, 0, 132)
  | some Mx => if overB Mx.1.owed then (zLane, 0, 131) else (Mx.1, Mx.2.left, 0))
 else (zLane, 0, 130)
def CnBack (X : LaneV × Int × Int) (w : World) (e : Ending) (w' : World) : Prop := ∃ b a o, e = .returned (.tuple #[laneV X.1 b a o, .int .i64 X.2.1, .int .i64 X.2.2]) ∧ w'.ownsRow w.heap.size 115 4 b X.1.bids.length (celC ordE X.1.bids) ∧ w'.ownsRow w.heap.size 115 4 a X.1.asks.length (celC ordE X.1.asks) ∧ w'.ownsRow w.heap.size 61 3 o X.1.owed.length (celC oweE X.1.owed) ∧ Below w.heap.size w w'
theorem five5_at {w : World} {p : Nat} {t : TypeId} {a b c d e : Value} (h : w.heap[p]? = some (.cells #[a, b, c, d, e] t (0, 0))) : (w.cell? ⟨p, 0, none⟩ = some a ∧ w.cell? ⟨p, 1, none⟩ = some b ∧ w.cell? ⟨p, 2, none⟩ = some c ∧ w.cell? ⟨p, 3, none⟩ = some d ∧ w.cell? ⟨p, 4, none⟩ = some e) ∧ (∀ j, w.frozen? ⟨p, j, none⟩ = false) ∧ p < w.heap.size :=
 ⟨⟨by rw [cell_at h]; rfl, by rw [cell_at h]; rfl, by rw [cell_at h]; rfl, by rw [cell_at h]; rfl, by rw [cell_at h]; rfl⟩, fun j => free_at h j, (Array.getElem?_eq_some_iff.1 h).1⟩
theorem can_owed {L M : LaneV} {acc id : Int} {x : OrdV} (h : canF L acc id = some (M, x)) : M.owed.length ≤ L.owed.length + 1 := by
 have hl : ∀ a s n, (oweL a s n L.owed).length ≤ L.owed.length + 1 := fun a s n => by
  unfold oweL
  split
  ·rw [List.length_modify]; omega
  ·unfold laidL;have := congrArg List.length (List.takeWhile_append_dropWhile (p := (owB · ⟨a, s, n⟩)) (l := L.owed));rw [List.length_append] at this ⊢;rw [List.length_cons];omega
 unfold canF at h
 split at h
 ·simp only [Option.some.injEq, Prod.mk.injEq] at h;obtain ⟨rfl, -⟩ := h;exact hl _ _ _
 ·split at h
  ·simp only [Option.some.injEq, Prod.mk.injEq] at h;obtain ⟨rfl, -⟩ := h;exact hl _ _ _
  ·cases h
set_option maxHeartbeats 8000000 in
set_option maxRecDepth 100000 in
theorem cancel_is (L : LaneV) (b a o : Value) (acc id : Int) (w : World) (h : Lan w L b a o) : Calls Tryz.prog 80 #[laneV L b a o, .int .i64 acc, .int .i64 id] w (CnBack (canR L acc id) w) := by
 have X0 := hideIt (CB.first w L b a o);have HC := hideIt (check_is L b a o _ (h.keep X0.out.bel));have HCP := hideIt (fun W (hW : Below w.heap.size w W) => copied_is L b a o W (h.keep hW));obtain ⟨ba, bc, rfl⟩ := h.bids.slice;obtain ⟨aa, ac, rfl⟩ := h.asks.slice;obtain ⟨oa, oc, rfl⟩ := h.owed.slice;clear h;cases hk : chkB L
 ·have HR : Hid (canR L acc id = (zLane, 0, 130)) := by
   show _ = _
   unfold canR;rw [hk]
   rfl
  rw [show chkI L = 130 by unfold chkI; rw [hk]; rfl] at HC
  generalize canR L acc id = RX at *;unfold laneV laneA at *;obtain ⟨cl, nx, bids, asks, owed⟩ := L;simp only at *;clear hk HCP
  go_enter Tryz.func80, Tryz.ntmps80
  go_wp2_with fail
  refine HC.out.mono ?_;rintro e w1 ⟨rfl, hb⟩;dsimp only;have X1 := hideIt (X0.out.keep hb);clear hb X0 HC;obtain ⟨⟨r0, r1, r2, r3, r4⟩, rf, rl⟩ := five5_at X1.out.res;have HP := hideIt (X1.out.put (.bool false) (.int .i64 0) (.slice none 0 0) (.slice none 0 0) (.slice none 0 0));go_wp2
  revert HP
  generalize (World.setCell _ ⟨w.heap.size + 1, 4, none⟩ _) = W;intro HP;exact bodyPost_ret (v := .tuple #[laneV zLane (.slice none 0 0) (.slice none 0 0) (.slice none 0 0), .int .i64 0, .int .i64 130]) (by simp [results, Tryz.results80, go_sem, cell_at HP.out.1, laneV, laneA, zLane]) rfl (by unfold CnBack; rw [HR.out]; exact ⟨_, _, _, rfl, own_nil _ _, own_nil _ _, own_nil _ _, HP.out.2⟩)
 ·have hm := chk_may hk;have HR0 : Hid (canR L acc id = match canF L acc id with
   | none => (zLane, 0, 132)
   | some Mx => if overB Mx.1.owed then (zLane, 0, 131) else (Mx.1, Mx.2.left, 0)) := by
   show _ = _
   unfold canR;rw [if_pos hk]
  rw [show chkI L = 0 by unfold chkI; rw [hk]; rfl] at HC
  have HTK := hideIt (fun D bv av ov W (hW : Deal D (w.heap.size + 2) L [] bv av ov (.slice none 0 0) W) hB => takeOut_is D (w.heap.size + 2) 0 L [] bv av ov (.slice none 0 0) acc id W hW hB hm.ow (by omega) hm.lb hm.la hm.tb hm.ta);have HOW := hideIt hm.ow.1;generalize canR L acc id = RX at *;have HL : Hid (∃ L', L' = L) := ⟨_, rfl⟩;clear hk hm;unfold LaneBack at HCP;unfold laneV laneA at *;obtain ⟨cl, nx, bids, asks, owed⟩ := L;simp only at *
  go_enter Tryz.func80, Tryz.ntmps80
  go_wp2_with fail
  refine HC.out.mono ?_;rintro e w1 ⟨rfl, hb⟩;dsimp only;have X1 := hideIt (X0.out.keep hb);clear hb X0 HC;obtain ⟨x0, x1, x2, x3, x4⟩ := X1.out.cells;simp only at x0 x1 x2 x3 x4
  go_wp2_with fail
  refine (HCP.out _ X1.out.bel).mono ?_;rintro e w2 ⟨b1, a1, o1, rfl, ob, oa1, oo, hs, hb⟩;dsimp only;have hb3 := below1 w2 (.cells #[.bool cl, .int .i64 nx, b1, a1, o1, .slice none 0 0] 174);have X3 := hideIt (X1.out.keep (below_via hb hb3));have Z1 := X1.out.size;have D3 : Hid (Deal w2.heap.size (w.heap.size + 2) ⟨cl, nx, bids, asks, owed⟩ [] b1 a1 o1 (.slice none 0 0) (w2.alloc (.cells #[.bool cl, .int .i64 nx, b1, a1, o1, .slice none 0 0] 174))) := ⟨heap_alloc_new w2 _, own_base (own_keep ob hb3) Z1, own_base (own_keep oa1 hb3) Z1, own_base (own_keep oo hb3) Z1, own_nil _ _, hs⟩;have LD : Hid (w.heap.size + 2 ≤ w2.heap.size) := Nat.le_trans Z1 hb.size;have Z3 : Hid (w.heap.size + 2 ≤ (w2.alloc (.cells #[.bool cl, .int .i64 nx, b1, a1, o1, .slice none 0 0] 174)).heap.size) := Nat.le_trans LD.out hb3.size;obtain ⟨b1a, b1c, rfl⟩ := own_len ob;obtain ⟨a1a, a1c, rfl⟩ := own_len oa1;obtain ⟨o1a, o1c, rfl⟩ := own_len oo;clear hb hb3 ob oa1 oo hs Z1 X1 x0 x1 x2 x3 x4 HCP
  go_upto_region 5 with fail
  generalize w2.alloc (.cells #[.bool cl, .int .i64 nx, .slice b1a bids.length b1c, .slice a1a asks.length a1c, .slice o1a owed.length o1c, .slice none 0 0] 174) = W3 at *;generalize w2.heap.size = D at *
  go_wp2_with fail
  refine (HTK.out D _ _ _ W3 D3.out Z3.out).mono ?_;rintro e w4 hback
  rcases hback with ⟨M, x, hcf, rfl, b4, a4, o4, q, hD4, hT4, hq⟩ | ⟨hcf, rfl, hb⟩
  ·dsimp only;have hqk : ∀ k, q = some k → w.heap.size + 2 ≤ k := fun k e => by
    rcases hq with rfl | rfl
    ·exact (D3.out.ob.lt k e).1
    ·exact (D3.out.oa.lt k e).1
   have hb5 := below1 w4 (.cells (ordE x).toArray 115);have K5 := hideIt (heap_alloc_new w4 (.cells (ordE x).toArray 115));have Y5 : Hid (FSt w D ⟨cl, nx, bids, asks, owed⟩ (.slice ba bids.length bc) (.slice aa asks.length ac) (.slice oa owed.length oc) M [] b4 a4 o4 (.slice none 0 0) (w4.alloc (.cells (ordE x).toArray 115))) := FSt.keep ⟨hD4.box, hD4.ob, hD4.oa, hD4.oo, hD4.fl, X3.out.tcr hT4 LD.out hqk, LD.out⟩ hb5;have HOL := hideIt (can_owed hcf);have LKO : Hid (w.heap.size + 2 ≤ w4.heap.size) := Nat.le_trans Z3.out hT4.size;rw [hcf] at HR0;dsimp only at HR0;obtain ⟨b4a, b4c, rfl⟩ := own_len hD4.ob;obtain ⟨a4a, a4c, rfl⟩ := own_len hD4.oa;obtain ⟨o4a, o4c, rfl⟩ := own_len hD4.oo;clear hD4 hT4 hq hqk hb5 hcf X3 D3 Z3 HTK;obtain ⟨xi, xac, xp, xl⟩ := x;unfold ordE at K5 Y5 ⊢;dsimp only at K5 Y5 HR0 ⊢;have HOV := hideIt (fun W hW => isOver2_is w D ⟨cl, nx, bids, asks, owed⟩ (.slice ba bids.length bc) (.slice aa asks.length ac) (.slice oa owed.length oc) M [] (.slice b4a M.bids.length b4c) (.slice a4a M.asks.length a4c) (.slice o4a M.owed.length o4c) (.slice none 0 0) W hW (by have := HOL.out; have := HOW.out; dsimp only at *; omega))
   go_upto_region 6 with fail
   generalize w4.alloc (.cells #[.int .i64 xi, .int .i64 xac, .int .i64 xp, .int .i64 xl] 115) = W5 at *;generalize w4.heap.size = KO at *
   go_wp2_with fail
   refine (HOV.out _ Y5.out).mono ?_;rintro e w6 ⟨rfl, hb⟩;dsimp only;have Y6 := hideIt (Y5.out.keep hb);have K6 := (hb.block _ (Array.getElem?_eq_some_iff.1 K5.out).1).trans K5.out;clear hb Y5 K5 HOV;cases hov : overB M.owed
   ·have HR : Hid (RX = (M, xl, 0)) := by
     show _ = _
     rw [HR0.out, hov]
     rfl
    clear HR0 hov;obtain ⟨⟨r0, r1, r2, r3, r4⟩, rf, rl⟩ := five5_at Y6.out.cb.res;obtain ⟨t0, t1, t2, t3, t4, t5⟩ := Y6.out.cells;obtain ⟨k0, k1, k2, k3, kl⟩ := four_at K6;have nD : D ≠ w.heap.size + 1 := by have := Y6.out.lD; omega
    have nD2 := nD.symm;have nK : KO ≠ w.heap.size + 1 := by have := LKO.out; omega
    have nK2 := nK.symm;have HD := hideIt Y6.out.done;unfold five5 at HD;clear Y6 K6 t5 k0 k1 k2
    go_upto_region 10 with fail
    go_region_held3 (fun W => W.cell? ⟨D, 0, none⟩ = some (.bool M.call) ∧ W.cell? ⟨D, 1, none⟩ = some (.int .i64 M.next) ∧ W.cell? ⟨D, 2, none⟩ = some (.slice b4a M.bids.length b4c) ∧ W.cell? ⟨D, 3, none⟩ = some (.slice a4a M.asks.length a4c) ∧ W.cell? ⟨D, 4, none⟩ = some (.slice o4a M.owed.length o4c) ∧ W.cell? ⟨KO, 3, none⟩ = some (.int .i64 xl)) (go_keep) (fail)
    go_wp2
    revert HD
    generalize (World.setCell _ ⟨w.heap.size + 1, 4, none⟩ _) = W;intro HD;exact bodyPost_ret (v := .tuple #[.agg #[.bool M.call, .int .i64 M.next, .slice b4a M.bids.length b4c, .slice a4a M.asks.length a4c, .slice o4a M.owed.length o4c], .int .i64 xl, .int .i64 0]) (by simp [results, Tryz.results80, go_sem, cell_at HD.out.res]) rfl (by unfold CnBack; rw [HR.out]; exact ⟨_, _, _, rfl, HD.out.ob, HD.out.oa, HD.out.oo, HD.out.bel⟩)
   ·have HR : Hid (RX = (zLane, 0, 131)) := by
     show _ = _
     rw [HR0.out, hov]
     rfl
    clear HR0 hov;obtain ⟨⟨r0, r1, r2, r3, r4⟩, rf, rl⟩ := five5_at Y6.out.cb.res;have HP := hideIt (Y6.out.cb.put (.bool false) (.int .i64 0) (.slice none 0 0) (.slice none 0 0) (.slice none 0 0));go_wp2
    revert HP
    generalize (World.setCell _ ⟨w.heap.size + 1, 4, none⟩ _) = W;intro HP;exact bodyPost_ret (v := .tuple #[laneV zLane (.slice none 0 0) (.slice none 0 0) (.slice none 0 0), .int .i64 0, .int .i64 131]) (by simp [results, Tryz.results80, go_sem, cell_at HP.out.1, laneV, laneA, zLane]) rfl (by unfold CnBack; rw [HR.out]; exact ⟨_, _, _, rfl, own_nil _ _, own_nil _ _, own_nil _ _, HP.out.2⟩)
  ·dsimp only;have HR : Hid (RX = (zLane, 0, 132)) := by
    show _ = _
    rw [HR0.out, hcf]
   have X4 := hideIt (X3.out.keep (below_via hb (below1 w4 (.cells #[.int .i64 0, .int .i64 0, .int .i64 0, .int .i64 0] 115))));clear hb HR0 hcf X3 D3 Z3 HTK
   go_upto_region 6 with fail
   generalize w4.alloc (.cells #[.int .i64 0, .int .i64 0, .int .i64 0, .int .i64 0] 115) = W4 at *;generalize w4.heap.size = K4 at *;obtain ⟨⟨r0, r1, r2, r3, r4⟩, rf, rl⟩ := five5_at X4.out.res;have HP := hideIt (X4.out.put (.bool false) (.int .i64 0) (.slice none 0 0) (.slice none 0 0) (.slice none 0 0));go_wp2
   revert HP
   generalize (World.setCell _ ⟨w.heap.size + 1, 4, none⟩ _) = W;intro HP;exact bodyPost_ret (v := .tuple #[laneV zLane (.slice none 0 0) (.slice none 0 0) (.slice none 0 0), .int .i64 0, .int .i64 132]) (by simp [results, Tryz.results80, go_sem, cell_at HP.out.1, laneV, laneA, zLane]) rfl (by unfold CnBack; rw [HR.out]; exact ⟨_, _, _, rfl, own_nil _ _, own_nil _ _, own_nil _ _, HP.out.2⟩)
end Go.Proofs.YtiinigifjdpicaaGreatDoor
