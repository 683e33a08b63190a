/- The trades of an order are those of the best orders of the other side, in their order: plain data. -/
import Derived.Test.YtlffcoefejhabaaPlN
namespace Go.Proofs.Ytlffcoefejhabaa
open Go.RowKit
set_option linter.all false
/-- Fills as the other side serves an order. -/
def Srv (s : Int) (x : OrdV) : List OrdV → List FillV → Int → Prop
  | _, [], left => 0 ≤ left
  | [], _ :: _, _ => False
  | r :: rs, g :: gs, left => g = setF s x r g.n ∧ meetB s x.price r.price = true ∧ (1 ≤ g.n ∧ g.n ≤ r.left) ∧ g.n ≤ left ∧ (gs ≠ [] → g.n = r.left) ∧ Srv s x rs gs (left - g.n)
theorem srv_nil {s : Int} {x : OrdV} {T : List OrdV} {left : Int} (h : 0 ≤ left) : Srv s x T [] left := by
  cases T with
  | nil => exact h
  | cons r rs => exact h
theorem trL_srv (s : Int) (x : OrdV) : ∀ (T : List OrdV) (left : Int) (ow : List OweV) (F : List FillV), OkT T → 0 ≤ left → ∃ G, (trL s x T left ow F).2.2.2 = F ++ G ∧ Srv s x T G left
  | [], left, ow, F, _, hl => ⟨[], by simp [trL], srv_nil hl⟩
  | r :: rs, left, ow, F, ht, hl => by
    have hr := ht r (by simp)
    unfold trL
    by_cases hm : 0 < left ∧ meetB s x.price r.price = true
    · rw [if_pos hm]
      by_cases h0 : r.left - min left r.left = 0
      · rw [if_pos h0]
        obtain ⟨G, hG, hS⟩ := trL_srv s x rs (left - min left r.left) (setO s x r (min left r.left) ow) (F ++ [setF s x r (min left r.left)]) (fun q hq => ht q (List.mem_cons_of_mem _ hq)) (by omega)
        refine ⟨setF s x r (min left r.left) :: G, by rw [hG, List.append_assoc]; rfl, rfl, hm.2, ?_, ?_, ?_, hS⟩
        · show 1 ≤ min left r.left ∧ min left r.left ≤ r.left
          omega
        · show min left r.left ≤ left
          omega
        · show _ → min left r.left = r.left
          omega
      · rw [if_neg h0]
        refine ⟨[setF s x r (min left r.left)], rfl, rfl, hm.2, ?_, ?_, fun h => absurd rfl h, ?_⟩
        · show 1 ≤ min left r.left ∧ min left r.left ≤ r.left
          omega
        · show min left r.left ≤ left
          omega
        · refine srv_nil ?_
          show 0 ≤ left - min left r.left
          omega
    · rw [if_neg hm]
      exact ⟨[], by simp, srv_nil hl⟩
/-- What is served to an order that is placed. -/
theorem place_srv {L : LaneV} {acc s price n : Int} {now : Bool} (h : (placeL L acc s price n now).2.2.2 = 0) : (s = 1 ∨ s = 2) ∧ (1 ≤ price ∧ price ≤ 1000000) ∧ (1 ≤ n ∧ n ≤ 1000000) ∧ Srv s ⟨L.next, acc, price, n⟩ (sideL L (if s = 1 then 2 else 1)) (placeL L acc s price n now).2.1 n := by
  unfold placeL at h ⊢
  by_cases hr : refE L acc s price n now ≠ 0
  · rw [if_pos hr] at h
    exact absurd h hr
  · rw [if_neg hr] at h ⊢
    obtain ⟨hc, hs, hp, hn, _⟩ := refE_ok (L := L) (acc := acc) (s := s) (price := price) (n := n) (now := now) (by simpa using hr)
    have hB := (chk_bok L).1 hc
    refine ⟨hs, hp, hn, ?_⟩
    unfold plX at h ⊢
    split at h
    · simp at h
    · rename_i ho
      rw [if_neg ho]
      show Srv s _ _ (plT L s ⟨L.next, acc, price, n⟩).2.2.2 n
      have hT : OkT (sideL L (if s = 1 then 2 else 1)) := by
        rcases hs with rfl | rfl
        · exact (side_ok hB.sa).2
        · exact (side_ok hB.sb).2
      obtain ⟨G, hG, hS⟩ := trL_srv s ⟨L.next, acc, price, n⟩ _ n L.owed [] hT (by omega)
      rw [List.nil_append] at hG
      unfold plT
      cases L.call
      · simp only [Bool.false_eq_true, if_false]
        rw [hG]
        exact hS
      · simp only [if_true]
        exact srv_nil (by omega)
end Go.Proofs.Ytlffcoefejhabaa
