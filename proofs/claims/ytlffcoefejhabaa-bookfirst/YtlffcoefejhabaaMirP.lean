/- A book and what a mirror shows of it: plain data. -/
import Derived.Test.YtlffcoefejhabaaPlN
namespace Go.Proofs.Ytlffcoefejhabaa
open Go.RowKit
set_option linter.all false
def mirO (o : OrdV) : OrdV := ⟨o.id, o.acc, 1000001 - o.price, o.left⟩
def mirF (f : FillV) : FillV := ⟨f.seller, f.buyer, 1000001 - f.price, f.n⟩
structure Mir (L M : LaneV) : Prop where
  call : M.call = L.call
  next : M.next = L.next
  bids : M.bids = L.asks.map mirO
  asks : M.asks = L.bids.map mirO
theorem mir_ah {s : Int} (hs : s = 1 ∨ s = 2) (a b : OrdV) : ahB (3 - s) (mirO a) (mirO b) = ahB s a b := by
  unfold ahB mirO
  simp only
  by_cases hp : a.price = b.price
  · rw [if_pos hp, if_pos (by omega)]
  · rw [if_neg hp, if_neg (by omega)]
    by_cases h1 : b.price < a.price
    · rw [decide_eq_true h1, decide_eq_false (by omega)]
      rcases hs with rfl | rfl <;> rfl
    · rw [decide_eq_false h1, decide_eq_true (by omega)]
      rcases hs with rfl | rfl <;> rfl
theorem mir_meet {s : Int} (hs : s = 1 ∨ s = 2) (p q : Int) : meetB (3 - s) (1000001 - p) (1000001 - q) = meetB s p q := by
  unfold meetB
  rcases hs with rfl | rfl
  · rw [if_neg (by decide), if_pos rfl, decide_eq_decide]
    omega
  · rw [if_pos (by decide), if_neg (by decide), decide_eq_decide]
    omega
theorem mir_fill {s : Int} (hs : s = 1 ∨ s = 2) (x r : OrdV) (n : Int) : setF (3 - s) (mirO x) (mirO r) n = mirF (setF s x r n) := by
  rcases hs with rfl | rfl <;> rfl
theorem mir_tr {s : Int} (hs : s = 1 ∨ s = 2) (x : OrdV) : ∀ (T : List OrdV) (left : Int) (ow ov : List OweV) (F : List FillV), (trL (3 - s) (mirO x) (T.map mirO) left ov (F.map mirF)).1 = (trL s x T left ow F).1.map mirO ∧ (trL (3 - s) (mirO x) (T.map mirO) left ov (F.map mirF)).2.1 = (trL s x T left ow F).2.1 ∧ (trL (3 - s) (mirO x) (T.map mirO) left ov (F.map mirF)).2.2.2 = (trL s x T left ow F).2.2.2.map mirF
  | [], left, ow, ov, F => ⟨rfl, rfl, rfl⟩
  | r :: rs, left, ow, ov, F => by
    rw [List.map_cons]
    unfold trL
    have hm : meetB (3 - s) (mirO x).price (mirO r).price = meetB s x.price r.price := mir_meet hs _ _
    rw [hm, show (mirO r).left = r.left from rfl, mir_fill hs]
    by_cases hc : 0 < left ∧ meetB s x.price r.price = true
    · rw [if_pos hc, if_pos hc]
      by_cases h0 : r.left - min left r.left = 0
      · rw [if_pos h0, if_pos h0]
        have ih := mir_tr hs x rs (left - min left r.left) (setO s x r (min left r.left) ow) (setO (3 - s) (mirO x) (mirO r) (min left r.left) ov) (F ++ [setF s x r (min left r.left)])
        rw [List.map_append, List.map_cons, List.map_nil] at ih
        exact ih
      · rw [if_neg h0, if_neg h0]
        exact ⟨rfl, rfl, by simp⟩
    · rw [if_neg hc, if_neg hc]
      exact ⟨rfl, rfl, rfl⟩
theorem mir_laid {s : Int} (hs : s = 1 ∨ s = 2) (x : OrdV) (l : List OrdV) : laidL (ahB (3 - s)) (mirO x) (l.map mirO) = (laidL (ahB s) x l).map mirO := by
  unfold laidL
  have e : ((fun y => ahB (3 - s) y (mirO x)) ∘ mirO) = (fun y => ahB s y x) := funext (fun y => mir_ah hs y x)
  rw [List.takeWhile_map, List.dropWhile_map, List.map_append, List.map_cons, e]
/-- Little is owed. -/
def Sm (c : Int) (l : List OweV) : Prop := ∀ y ∈ l, y.n ≤ c
theorem Sm.le {c d : Int} {l : List OweV} (h : Sm c l) (hd : c ≤ d) : Sm d l := fun y hy => Int.le_trans (h y hy) hd
theorem sm_owe {c acc asset n : Int} {l : List OweV} (h : Sm c l) (hc : 0 ≤ c) (hn : 0 ≤ n) : Sm (c + n) (oweL acc asset n l) := by
  unfold oweL
  split
  · rename_i i hi
    intro y hy
    rw [List.mem_iff_getElem?] at hy
    obtain ⟨j, hj⟩ := hy
    rw [List.getElem?_modify] at hj
    cases hjl : l[j]? with
    | none => rw [hjl] at hj; simp at hj
    | some z =>
      have hz := h z (List.mem_of_getElem? hjl)
      rw [hjl] at hj
      simp only [Option.map_eq_map, Option.map_some, Option.some.injEq] at hj
      rw [← hj]
      split
      · simp only
        omega
      · first | omega | (simp only [id]; omega)
  · intro y hy
    rcases laid_mem.1 hy with rfl | hy
    · simp only
      omega
    · have := h y hy
      omega
theorem mul_le6 {p n : Int} (hp : 0 ≤ p ∧ p ≤ 1000000) (hn : 0 ≤ n) : 0 ≤ p * n ∧ p * n ≤ 1000000 * n := ⟨Int.mul_nonneg hp.1 hn, Int.mul_le_mul_of_nonneg_right hp.2 hn⟩
theorem sm_set {c s n : Int} {o r : OrdV} {l : List OweV} (h : Sm c l) (hc : 0 ≤ c) (hn : 0 ≤ n) (ho : 1 ≤ o.price ∧ o.price ≤ 1000000) (hr : 1 ≤ r.price ∧ r.price ≤ 1000000) : Sm (c + 2000001 * n) (setO s o r n l) := by
  have hb : 1 ≤ (setB s o r).price ∧ (setB s o r).price ≤ 1000000 := by unfold setB; split <;> assumption
  have m1 := mul_le6 (p := r.price) (n := n) (by omega) hn
  have h2 := sm_owe (acc := (setS s o r).acc) (asset := 0) (n := r.price * n) (sm_owe (acc := (setB s o r).acc) (asset := 1) (n := n) h hc hn) (by omega) m1.1
  unfold setO
  simp only
  split
  · rename_i hlt
    have m2 := mul_le6 (p := (setB s o r).price - r.price) (n := n) (by omega) hn
    exact (sm_owe (acc := (setB s o r).acc) (asset := 0) h2 (by omega) m2.1).le (by omega)
  · exact h2.le (by omega)
theorem sm_tr {s : Int} {x : OrdV} (hx : 1 ≤ x.price ∧ x.price ≤ 1000000) : ∀ (T : List OrdV) (left c : Int) (ow : List OweV) (F : List FillV), OkT T → 0 ≤ left → 0 ≤ c → Sm c ow → Sm (c + 2000001 * left) (trL s x T left ow F).2.2.1
  | [], left, c, ow, F, _, hl, hc, h => h.le (by omega)
  | r :: rs, left, c, ow, F, ht, hl, hc, h => by
    have hr := ht r (by simp)
    unfold trL
    by_cases hm : 0 < left ∧ meetB s x.price r.price = true
    · rw [if_pos hm]
      have hs := sm_set (s := s) (n := min left r.left) h hc (by omega) hx hr.1
      by_cases h0 : r.left - min left r.left = 0
      · rw [if_pos h0]
        exact (sm_tr hx rs (left - min left r.left) _ _ _ (fun q hq => ht q (List.mem_cons_of_mem _ hq)) (by omega) (by omega) hs).le (by omega)
      · rw [if_neg h0]
        exact hs.le (by omega)
    · rw [if_neg hm]
      exact h.le (by omega)
theorem sm_over {c : Int} {l : List OweV} (h : Sm c l) (hc : c ≤ 9007199254740992) : overB l = false := by
  unfold overB
  simp only [List.any_eq_false, decide_eq_true_eq]
  intro y hy
  have := h y hy
  omega
/-- What is owed behind an order. -/
theorem sm_place {L : LaneV} {acc s price n c : Int} {now : Bool} (hr : refE L acc s price n now = 0) (hc : 0 ≤ c) (h : Sm c L.owed) : Sm (c + 4000000000000) (plR (plL L s (plT L s ⟨L.next, acc, price, n⟩).1 (plT L s ⟨L.next, acc, price, n⟩).2.2.1) s ⟨L.next, acc, price, (plT L s ⟨L.next, acc, price, n⟩).2.1⟩ now).owed := by
  obtain ⟨hck, hs, hp, hn, hnc, hl, hnx, ha⟩ := refE_ok hr
  have hB := (chk_bok L).1 hck
  have hL := (plT_is (price := price) hB hs ha hn).2.2.2
  have hO : Sm (c + 2000001 * n) (plT L s ⟨L.next, acc, price, n⟩).2.2.1 := by
    unfold plT
    split
    · exact h.le (by omega)
    · refine sm_tr hp _ _ _ _ _ ?_ (by first | omega | (simp only; omega)) hc h
      rcases hs with rfl | rfl
      · exact (side_ok hB.sa).2
      · exact (side_ok hB.sb).2
  revert hL hO
  generalize (plT L s ⟨L.next, acc, price, n⟩).1 = T
  generalize (plT L s ⟨L.next, acc, price, n⟩).2.1 = left
  generalize (plT L s ⟨L.next, acc, price, n⟩).2.2.1 = ow
  intro hL hO
  have e : (plL L s T ow).owed = ow := by unfold plL; split <;> rfl
  unfold plR
  simp only
  split
  · rename_i h0
    split
    · simp only
      rw [e]
      have hb : 0 ≤ brN s ⟨L.next, acc, price, left⟩ ∧ brN s ⟨L.next, acc, price, left⟩ ≤ 1000000 * left := by
        unfold brN
        split
        · exact mul_le6 (p := price) (n := left) (by omega) (by omega)
        · simp only
          omega
      exact (sm_owe hO (by omega) hb.1).le (by omega)
    · split
      · simp only
        rw [e]
        exact hO.le (by omega)
      · simp only
        rw [e]
        exact hO.le (by omega)
  · rw [e]
    exact hO.le (by omega)
theorem mir_side {L M : LaneV} (h : Mir L M) {s : Int} (hs : s = 1 ∨ s = 2) : sideL M (3 - s) = (sideL L s).map mirO := by
  rcases hs with rfl | rfl
  · exact h.asks
  · exact h.bids
theorem mir_ref {L M : LaneV} (h : Mir L M) (hl : chkB L = true) (hm : chkB M = true) {acc s price n : Int} {now : Bool} (hs : s = 1 ∨ s = 2) : refE M acc (3 - s) (1000001 - price) n now = refE L acc s price n now := by
  have ha : argB acc (3 - s) (1000001 - price) n = argB acc s price n := by
    unfold argB
    congr 2
    · rcases hs with rfl | rfl <;> rfl
    · congr 1
      unfold wiB
      rw [decide_eq_decide]
      omega
  unfold refE
  rw [hl, hm, ha, mir_side h hs, List.length_map, h.call, h.next]
theorem mir_plT {L M : LaneV} (h : Mir L M) {s : Int} (hs : s = 1 ∨ s = 2) (acc price n : Int) : (plT M (3 - s) ⟨M.next, acc, 1000001 - price, n⟩).1 = (plT L s ⟨L.next, acc, price, n⟩).1.map mirO ∧ (plT M (3 - s) ⟨M.next, acc, 1000001 - price, n⟩).2.1 = (plT L s ⟨L.next, acc, price, n⟩).2.1 ∧ (plT M (3 - s) ⟨M.next, acc, 1000001 - price, n⟩).2.2.2 = (plT L s ⟨L.next, acc, price, n⟩).2.2.2.map mirF := by
  have hsd : sideL M (if 3 - s = 1 then 2 else 1) = (sideL L (if s = 1 then 2 else 1)).map mirO := by
    rcases hs with rfl | rfl
    · exact h.bids
    · exact h.asks
  unfold plT
  rw [hsd, h.call, h.next]
  split
  · exact ⟨rfl, rfl, rfl⟩
  · exact mir_tr hs ⟨L.next, acc, price, n⟩ _ n L.owed M.owed []
theorem mir_plR {L M : LaneV} (h : Mir L M) {s : Int} (hs : s = 1 ∨ s = 2) (acc price left : Int) (now : Bool) (T : List OrdV) (ow ov : List OweV) : Mir (plR (plL L s T ow) s ⟨L.next, acc, price, left⟩ now) (plR (plL M (3 - s) (T.map mirO) ov) (3 - s) ⟨M.next, acc, 1000001 - price, left⟩ now) := by
  have hlaid := mir_laid hs ⟨L.next, acc, price, left⟩ (sideL L s)
  unfold plR plL
  obtain ⟨cl, nx, bids, asks, owed⟩ := L
  obtain ⟨cl', nx', bids', asks', owed'⟩ := M
  obtain ⟨h1, h2, h3, h4⟩ := h
  simp only at h1 h2 h3 h4 hlaid
  subst h1 h2 h3 h4
  rcases hs with rfl | rfl
  · have e : (3 : Int) - 1 = 2 := rfl
    simp only [e, sideL, if_true, show ¬ ((2 : Int) = 1) by decide, if_false] at hlaid ⊢
    by_cases h0 : 0 < left
    · simp only [h0, if_true]
      cases now
      · simp only [Bool.false_eq_true, if_false]
        exact ⟨rfl, rfl, rfl, hlaid⟩
      · simp only [if_true]
        exact ⟨rfl, rfl, rfl, rfl⟩
    · simp only [h0, if_false]
      exact ⟨rfl, rfl, rfl, rfl⟩
  · have e : (3 : Int) - 2 = 1 := rfl
    simp only [e, sideL, if_true, show ¬ ((2 : Int) = 1) by decide, if_false] at hlaid ⊢
    by_cases h0 : 0 < left
    · simp only [h0, if_true]
      cases now
      · simp only [Bool.false_eq_true, if_false]
        exact ⟨rfl, rfl, hlaid, rfl⟩
      · simp only [if_true]
        exact ⟨rfl, rfl, rfl, rfl⟩
    · simp only [h0, if_false]
      exact ⟨rfl, rfl, rfl, rfl⟩
/-- Two books, one the mirror's. -/
structure MirOk (c : Int) (L M : LaneV) : Prop where
  mir : Mir L M
  kl : chkB L = true
  km : chkB M = true
  sl : Sm c L.owed
  sm : Sm c M.owed
theorem mir_place {L M : LaneV} {c : Int} (h : MirOk c L M) (hc : 0 ≤ c ∧ c ≤ 9000000000000000) {acc s price n : Int} {now : Bool} (hs : s = 1 ∨ s = 2) :
    (placeL M acc (3 - s) (1000001 - price) n now).2.1 = (placeL L acc s price n now).2.1.map mirF ∧ (placeL M acc (3 - s) (1000001 - price) n now).2.2 = (placeL L acc s price n now).2.2 ∧ ((placeL L acc s price n now).2.2.2 = 0 → MirOk (c + 4000000000000) (placeL L acc s price n now).1 (placeL M acc (3 - s) (1000001 - price) n now).1) := by
  have he := mir_ref h.mir h.kl h.km (acc := acc) (s := s) (price := price) (n := n) (now := now) hs
  have k1 := placeL_may (L := L) (acc := acc) (s := s) (price := price) (n := n) (now := now)
  have k2 := placeL_may (L := M) (acc := acc) (s := 3 - s) (price := 1000001 - price) (n := n) (now := now)
  unfold placeL at k1 k2 ⊢
  rw [he] at k2 ⊢
  by_cases hr : refE L acc s price n now ≠ 0
  · rw [if_pos hr, if_pos hr]
    exact ⟨rfl, rfl, fun h => absurd h hr⟩
  · rw [if_neg hr] at k1 k2
    rw [if_neg hr, if_neg hr]
    have hr0 : refE L acc s price n now = 0 := by simpa using hr
    have s1 := sm_place hr0 hc.1 h.sl
    have s2 := sm_place (he.trans hr0) hc.1 h.sm
    have o1 := sm_over s1 (by omega)
    have o2 := sm_over s2 (by omega)
    obtain ⟨t1, t2, t3⟩ := mir_plT h.mir hs acc price n
    have hR := mir_plR h.mir hs acc price (plT L s ⟨L.next, acc, price, n⟩).2.1 now (plT L s ⟨L.next, acc, price, n⟩).1 (plT L s ⟨L.next, acc, price, n⟩).2.2.1 (plT M (3 - s) ⟨M.next, acc, 1000001 - price, n⟩).2.2.1
    unfold plX at k1 k2 ⊢
    rw [o1] at k1
    rw [o2] at k2
    rw [o1, o2]
    simp only [Bool.false_eq_true, if_false] at k1 k2 ⊢
    rw [← t1] at hR
    exact ⟨t3, by rw [h.mir.next], fun _ => ⟨by rw [t2]; exact hR, k1 trivial, k2 trivial, s1, s2⟩⟩
end Go.Proofs.Ytlffcoefejhabaa
