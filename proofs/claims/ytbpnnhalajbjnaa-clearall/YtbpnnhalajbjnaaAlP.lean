/- All that a book owes, taken: plain data. -/
import Derived.Test.YtbpnnhalajbjnaaHld
import Derived.Test.YtbpnnhalajbjnaaTake
import Derived.Test.YtbpnnhalajbjnaaPlN
namespace Go.Proofs.Ytbpnnhalajbjnaa
open Go.RowKit
set_option linter.all false
def sumT (a : Int) (A : List AmV) : Int := (A.map (fun y => if y.asset = a then y.n else 0)).sum
def upA (k : Int) (l : List OweV) : List OweV := l.filter (fun o => decide (k ≤ o.acc))
theorem sum_tl (a k : Int) : ∀ l : List OweV, sumA a l = sumA a (lefA k l) + sumT a (takA k l)
  | [] => rfl
  | y :: l => by
    have ih := sum_tl a k l
    unfold sumA sumT lefA takA at *
    by_cases e : y.acc = k
    · simp only [List.map_cons, List.sum_cons, List.filter_cons, e, decide_true, Bool.not_true, if_true]
      simp only [Bool.false_eq_true, if_false]
      omega
    · simp only [List.map_cons, List.sum_cons, List.filter_cons, e, decide_false, Bool.not_false, if_true]
      simp only [Bool.false_eq_true, if_false, List.map_cons, List.sum_cons]
      omega
theorem lef_up (k : Int) (l : List OweV) : lefA k (upA k l) = upA (k + 1) l := by
  unfold lefA upA
  rw [List.filter_filter]
  congr 1
  funext o
  by_cases e : o.acc = k
  · simp only [e, decide_true, Bool.not_true, Bool.false_and]
    exact (decide_eq_false (by omega)).symm
  · simp only [e, decide_false, Bool.not_false, Bool.true_and]
    by_cases h : k ≤ o.acc
    · rw [decide_eq_true h, decide_eq_true (by omega)]
    · rw [decide_eq_false h, decide_eq_false (by omega)]
theorem up_one {l : List OweV} (h : ∀ y ∈ l, 1 ≤ y.acc) : upA 1 l = l := List.filter_eq_self.2 (fun y hy => decide_eq_true (h y hy))
theorem up_nine {l : List OweV} (h : ∀ y ∈ l, y.acc ≤ 8) : upA 9 l = [] := List.filter_eq_nil_iff.2 (fun y hy => by have := h y hy; simp; omega)
theorem srt_pair {α : Type} {r : α → α → Bool} (tr : ∀ a b c, r a b = true → r b c = true → r a c = true) : ∀ {l : List α}, srtB r l = true → l.Pairwise (fun a b => r a b = true)
  | [], _ => List.Pairwise.nil
  | [x], _ => by simp
  | x :: y :: l, h => by
    have ih := srt_pair tr (srt_tail h)
    have hxy := srt_head h
    rw [List.pairwise_cons]
    refine ⟨fun z hz => ?_, ih⟩
    rw [List.mem_cons] at hz
    rcases hz with rfl | hz
    · exact hxy
    · exact tr _ _ _ hxy ((List.pairwise_cons.1 ih).1 z hz)
theorem pair_srt {α : Type} {r : α → α → Bool} : ∀ {l : List α}, l.Pairwise (fun a b => r a b = true) → srtB r l = true
  | [], _ => rfl
  | x :: l, h => by
    rw [List.pairwise_cons] at h
    exact srt_cons (pair_srt h.2) (fun y hy => h.1 y (List.mem_of_mem_head? hy))
theorem ow_trans (a b c : OweV) (h : owB a b = true) (k : owB b c = true) : owB a c = true := by
  unfold owB at *
  simp only [Bool.or_eq_true, Bool.and_eq_true, decide_eq_true_eq, bne_iff_ne, ne_eq, beq_iff_eq] at *
  omega
theorem owok_up {l : List OweV} (h : OwOk l) (k : Int) : OwOk (upA k l) :=
  ⟨pair_srt ((srt_pair ow_trans h.1).filter _), fun y hy => h.2 y (List.mem_filter.1 hy).1⟩
theorem over_up {l : List OweV} (h : overB l = false) (k : Int) : overB (upA k l) = false := by
  unfold overB at *
  rw [List.any_eq_false] at *
  exact fun y hy => h y (List.mem_filter.1 hy).1
def laU (L : LaneV) (k : Int) : LaneV := ⟨L.call, L.next, L.bids, L.asks, upA k L.owed⟩
theorem chk_up {L : LaneV} (h : chkB L = true) (k : Int) : chkB (laU L k) = true := by
  rw [chk_bok] at *
  have ho : overB L.owed = false := by
    have := h.ow
    unfold owedB at this
    simp only [Bool.and_eq_true, Bool.not_eq_true', List.any_eq_false] at this
    unfold overB
    rw [List.any_eq_false]
    intro y hy
    have h2 := this.1 y hy
    unfold stoB at h2
    simp only [Bool.or_eq_true, not_or, Bool.not_eq_true', Bool.not_eq_false] at h2
    have := (wiB_in h2.2).2
    simp
    omega
  exact ⟨h.next, h.sb, h.sa, h.nd, h.cr, owok_owed (owok_up (owed_owok h.ow) k) (over_up ho k)⟩
theorem lan_acc {L : LaneV} (h : chkB L = true) : ∀ y ∈ L.owed, (1 ≤ y.acc ∧ y.acc ≤ 8) ∧ (0 ≤ y.asset ∧ y.asset ≤ 1) ∧ 1 ≤ y.n := (owed_owok ((chk_bok L).1 h).ow).2
theorem la_one {L : LaneV} (h : chkB L = true) : laU L 1 = L := by
  unfold laU
  rw [up_one (fun y hy => (lan_acc h y hy).1.1)]
theorem la_nine {L : LaneV} (h : chkB L = true) : laU L 9 = ⟨L.call, L.next, L.bids, L.asks, []⟩ := by
  unfold laU
  rw [up_nine (fun y hy => (lan_acc h y hy).1.2)]
theorem la_take {L : LaneV} (h : chkB L = true) (k : Int) (hk : 1 ≤ k ∧ k ≤ 8) : takR (laU L k) k = (laU L (k + 1), takA k (upA k L.owed), 0) := by
  unfold takR
  rw [if_neg (by rw [chk_up h]; simp), if_neg (by unfold wiB; simp; omega)]
  unfold laU
  dsimp only
  rw [lef_up]
theorem la_sum (L : LaneV) (k : Int) : holM (laU L k) = holM (laU L (k + 1)) + sumT 0 (takA k (upA k L.owed)) ∧ holG (laU L k) = holG (laU L (k + 1)) + sumT 1 (takA k (upA k L.owed)) := by
  unfold holM holG laU
  dsimp only
  have h0 := sum_tl 0 k (upA k L.owed)
  have h1 := sum_tl 1 k (upA k L.owed)
  rw [lef_up] at h0 h1
  omega
theorem tak_as {L : LaneV} (h : chkB L = true) (k : Int) : ∀ y ∈ takA k (upA k L.owed), (y.asset = 0 ∨ y.asset = 1) ∧ 1 ≤ y.n := by
  intro y hy
  unfold takA upA at hy
  simp only [List.mem_map, List.mem_filter] at hy
  obtain ⟨z, ⟨⟨hz, -⟩, -⟩, rfl⟩ := hy
  obtain ⟨-, h1, h2⟩ := lan_acc h z hz
  exact ⟨by dsimp only; omega, h2⟩
theorem hol_bd {L : LaneV} (h : chkB L = true) : (0 ≤ holM L ∧ holM L ≤ 200000000000000000) ∧ (0 ≤ holG L ∧ holG L ≤ 200000000000000000) := by
  have hm := chk_may h
  have hb := (chk_bok L).1 h
  have b1 := side_ok hb.sb
  have b2 := side_ok hb.sa
  have p := sumP_b40 b1.2 b1.1 L.bids.length
  have q := sumQ_b40 b2.2 b2.1 L.asks.length
  have a0 := sumA_b16 (a := 0) (owed_ok hb.ow) L.owed.length
  have a1 := sumA_b16 (a := 1) (owed_ok hb.ow) L.owed.length
  rw [List.take_length] at p q a0 a1
  unfold holM holG
  omega
theorem sumT_take {a : Int} {A : List AmV} {t : Nat} (h : t < A.length) : sumT a (A.take (t + 1)) = sumT a (A.take t) + (if A[t].asset = a then A[t].n else 0) := by
  unfold sumT
  rw [List.take_succ_eq_append_getElem h, List.map_append, List.sum_append]
  simp
theorem sumT_mono {a : Int} {A : List AmV} (h : ∀ y ∈ A, 1 ≤ y.n) (t : Nat) : 0 ≤ sumT a (A.take t) ∧ sumT a (A.take t) ≤ sumT a A := by
  have pos : ∀ B : List AmV, (∀ y ∈ B, 1 ≤ y.n) → 0 ≤ sumT a B := by
    intro B
    induction B with
    | nil => intro _; exact Int.le_refl _
    | cons y B ih =>
      intro hB
      have h1 := ih (fun z hz => hB z (List.mem_cons_of_mem _ hz))
      have h2 := hB y (List.mem_cons_self ..)
      unfold sumT at *
      simp only [List.map_cons, List.sum_cons]
      split <;> omega
  have e : sumT a A = sumT a (A.take t) + sumT a (A.drop t) := by
    unfold sumT
    rw [← List.sum_append, ← List.map_append, List.take_append_drop]
  have h1 := pos (A.take t) (fun y hy => h y (List.mem_of_mem_take hy))
  have h2 := pos (A.drop t) (fun y hy => h y (List.mem_of_mem_drop hy))
  omega
end Go.Proofs.Ytbpnnhalajbjnaa
