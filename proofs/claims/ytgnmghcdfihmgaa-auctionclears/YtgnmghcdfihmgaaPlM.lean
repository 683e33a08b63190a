/- What is placed leaves a book that may be: plain data. -/
import Derived.Test.YtgnmghcdfihmgaaPlT
namespace Go.Proofs.Ytgnmghcdfihmgaa
open Go.RowKit
set_option linter.all false
theorem srt_tail {α : Type} {r : α → α → Bool} {x : α} {l : List α} (h : srtB r (x :: l) = true) : srtB r l = true := by
  cases l with
  | nil => rfl
  | cons y l =>
    unfold srtB at h
    simp only [Bool.and_eq_true] at h
    exact h.2
theorem srt_cons {α : Type} {r : α → α → Bool} {x : α} {l : List α} (h : srtB r l = true) (hx : ∀ y, l.head? = some y → r x y = true) : srtB r (x :: l) = true := by
  cases l with
  | nil => rfl
  | cons y l =>
    unfold srtB
    simp only [Bool.and_eq_true]
    exact ⟨hx y rfl, h⟩
theorem srt_head {α : Type} {r : α → α → Bool} {x y : α} {l : List α} (h : srtB r (x :: y :: l) = true) : r x y = true := by
  unfold srtB at h
  simp only [Bool.and_eq_true] at h
  exact h.1
/-- One more, behind all that stand ahead of it. -/
theorem srt_laid {α : Type} {r : α → α → Bool} {x : α} : ∀ {l : List α}, srtB r l = true → (∀ y ∈ l, r y x = false → r x y = true) → srtB r (laidL r x l) = true
  | [], _, _ => rfl
  | y :: l, h, ht => by
    unfold laidL
    rw [List.takeWhile_cons, List.dropWhile_cons]
    cases hy : r y x
    · simp only [Bool.false_eq_true, if_false, List.nil_append]
      exact srt_cons h (fun z hz => by
        simp only [List.head?_cons, Option.some.injEq] at hz
        rw [← hz]
        exact ht y (by simp) hy)
    · simp only [if_true, List.cons_append]
      have ih := srt_laid (srt_tail h) (fun z hz => ht z (List.mem_cons_of_mem _ hz))
      unfold laidL at ih
      refine srt_cons ih (fun z hz => ?_)
      cases l with
      | nil =>
        simp at hz
        rw [← hz]
        exact hy
      | cons w l =>
        rw [List.takeWhile_cons] at hz
        split at hz
        · simp at hz
          rw [← hz]
          exact srt_head h
        · simp at hz
          rw [← hz]
          exact hy
theorem laid_mem {α : Type} {r : α → α → Bool} {x : α} {l : List α} {y : α} : y ∈ laidL r x l ↔ y = x ∨ y ∈ l := by
  unfold laidL
  have e := List.takeWhile_append_dropWhile (p := (r · x)) (l := l)
  rw [List.mem_append, List.mem_cons]
  constructor
  · rintro (h | h | h)
    · exact .inr (List.takeWhile_subset _ h)
    · exact .inl h
    · exact .inr (List.dropWhile_subset _ h)
  · rintro (h | h)
    · exact .inr (.inl h)
    · rw [← e, List.mem_append] at h
      rcases h with h | h
      · exact .inl h
      · exact .inr (.inr h)
theorem laid_len {α : Type} {r : α → α → Bool} {x : α} {l : List α} : (laidL r x l).length = l.length + 1 := by
  unfold laidL
  have e := congrArg List.length (List.takeWhile_append_dropWhile (p := (r · x)) (l := l))
  rw [List.length_append] at e ⊢
  rw [List.length_cons]
  omega
theorem laid_perm {α : Type} {r : α → α → Bool} {x : α} {l : List α} : (laidL r x l).Perm (x :: l) := by
  unfold laidL
  have e := List.takeWhile_append_dropWhile (p := (r · x)) (l := l)
  conv => rhs; rw [← e]
  exact List.perm_middle
theorem laid_head {α : Type} {r : α → α → Bool} {x : α} {l : List α} {y : α} (h : (laidL r x l).head? = some y) : y = x ∨ l.head? = some y := by
  unfold laidL at h
  cases l with
  | nil => simp at h; exact .inl h.symm
  | cons z l =>
    rw [List.takeWhile_cons] at h
    split at h
    · simp at h
      exact .inr (by rw [← h]; rfl)
    · simp at h
      exact .inl h.symm
/-- What is owed stays in order. -/
def OwOk (l : List OweV) : Prop := srtB owB l = true ∧ ∀ y ∈ l, (1 ≤ y.acc ∧ y.acc ≤ 8) ∧ (0 ≤ y.asset ∧ y.asset ≤ 1) ∧ 1 ≤ y.n
theorem owed_owok {l : List OweV} (h : owedB l = true) : OwOk l := by
  unfold owedB at h
  simp only [Bool.and_eq_true, Bool.not_eq_true', List.any_eq_false] at h
  refine ⟨h.2, fun z hz => ?_⟩
  have h2 := h.1 z hz
  unfold stoB at h2
  simp only [Bool.or_eq_true, not_or, Bool.not_eq_true', Bool.not_eq_false] at h2
  exact ⟨wiB_in h2.1.1, wiB_in h2.1.2, (wiB_in h2.2).1⟩
theorem owok_owed {l : List OweV} (h : OwOk l) (ho : overB l = false) : owedB l = true := by
  unfold owedB
  simp only [Bool.and_eq_true, Bool.not_eq_true', List.any_eq_false]
  refine ⟨fun z hz => ?_, h.1⟩
  have h1 := h.2 z hz
  unfold overB at ho
  simp only [List.any_eq_false, decide_eq_true_eq] at ho
  have h3 := ho z hz
  unfold stoB wiB
  simp only [Bool.or_eq_true, not_or, Bool.not_eq_true', decide_eq_false_iff_not, Decidable.not_not]
  omega
theorem srt_modify {f : OweV → OweV} (hf : ∀ y, (f y).acc = y.acc ∧ (f y).asset = y.asset) : ∀ (l : List OweV) (i : Nat), srtB owB l = true → srtB owB (l.modify i f) = true
  | [], i, h => by simpa using h
  | y :: l, 0, h => by
    rw [List.modify_zero_cons]
    refine srt_cons (srt_tail h) (fun z hz => ?_)
    cases l with
    | nil => simp at hz
    | cons w l =>
      simp at hz
      have := srt_head h
      rw [← hz]
      unfold owB at this ⊢
      rw [(hf y).1, (hf y).2]
      exact this
  | y :: l, i + 1, h => by
    rw [List.modify_succ_cons]
    refine srt_cons (srt_modify hf l i (srt_tail h)) (fun z hz => ?_)
    cases l with
    | nil => simp at hz
    | cons w l =>
      have := srt_head h
      cases i with
      | zero =>
        rw [List.modify_zero_cons] at hz
        simp at hz
        rw [← hz]
        unfold owB at this ⊢
        rw [(hf w).1, (hf w).2]
        exact this
      | succ i =>
        rw [List.modify_succ_cons] at hz
        simp at hz
        rw [← hz]
        exact this
theorem owok_owe {l : List OweV} {acc asset n : Int} (h : OwOk l) (ha : 1 ≤ acc ∧ acc ≤ 8) (hs : 0 ≤ asset ∧ asset ≤ 1) (hn : 1 ≤ n) : OwOk (oweL acc asset n l) := by
  obtain ⟨h1, h2⟩ := h
  unfold oweL
  split
  · rename_i i hi
    refine ⟨srt_modify (f := fun y => ⟨y.acc, y.asset, y.n + n⟩) (fun y => ⟨rfl, rfl⟩) l i h1, fun y hy => ?_⟩
    rw [List.mem_iff_getElem?] at hy
    obtain ⟨j, hj⟩ := hy
    rw [List.getElem?_modify] at hj
    cases hjl : l[j]? with
    | none => rw [hjl] at hj; simp at hj
    | some z =>
      have hz := h2 z (List.mem_of_getElem? hjl)
      rw [hjl] at hj
      simp only [Option.map_eq_map, Option.map_some, Option.some.injEq] at hj
      rw [← hj]
      split
      · simp only
        omega
      · first | exact hz | (simp only [id]; exact hz)
  · rename_i hnone
    rw [List.findIdx?_eq_none_iff] at hnone
    refine ⟨srt_laid h1 (fun y hy hf => ?_), fun y hy => ?_⟩
    · have h3 := hnone y hy
      unfold oweP at h3
      unfold owB at hf ⊢
      simp only [Bool.or_eq_false_iff, Bool.and_eq_false_iff, decide_eq_false_iff_not] at hf h3
      simp only [Bool.or_eq_true, Bool.and_eq_true, decide_eq_true_eq]
      omega
    · rcases laid_mem.1 hy with rfl | hy
      · exact ⟨ha, hs, hn⟩
      · exact h2 y hy
/-- Accounts that are some. -/
def AccT (T : List OrdV) : Prop := ∀ r ∈ T, 1 ≤ r.acc ∧ r.acc ≤ 8
theorem mul_pos1 {a b : Int} (ha : 1 ≤ a) (hb : 1 ≤ b) : 1 ≤ a * b := by
  have := Int.mul_le_mul ha hb (by omega) (by omega)
  omega
theorem owok_set {l : List OweV} {s : Int} {o r : OrdV} {n : Int} (h : OwOk l) (hn : 1 ≤ n) (ho : 1 ≤ o.acc ∧ o.acc ≤ 8) (hr : 1 ≤ r.acc ∧ r.acc ≤ 8) (hp : 1 ≤ r.price) : OwOk (setO s o r n l) := by
  have hb : 1 ≤ (setB s o r).acc ∧ (setB s o r).acc ≤ 8 := by unfold setB; split <;> assumption
  have hs : 1 ≤ (setS s o r).acc ∧ (setS s o r).acc ≤ 8 := by unfold setS; split <;> assumption
  have h2 := owok_owe (owok_owe h hb (by omega : (0 : Int) ≤ 1 ∧ (1 : Int) ≤ 1) hn) hs (by omega : (0 : Int) ≤ 0 ∧ (0 : Int) ≤ 1) (mul_pos1 hp hn)
  unfold setO
  simp only
  split
  · rename_i hlt
    exact owok_owe h2 hb (by omega) (mul_pos1 (by omega) hn)
  · exact h2
/-- What is left of a side. -/
def Suf : List OrdV → List OrdV → Prop
  | [], R => R = []
  | r :: rs, R => R = r :: rs ∨ (∃ m, (1 ≤ m ∧ m ≤ r.left) ∧ R = ⟨r.id, r.acc, r.price, m⟩ :: rs) ∨ Suf rs R
theorem Suf.all : ∀ (T : List OrdV), Suf T T
  | [] => rfl
  | _ :: _ => .inl rfl
theorem Suf.cut (r : OrdV) (rs : List OrdV) (m : Int) (h : 1 ≤ m ∧ m ≤ r.left) : Suf (r :: rs) (⟨r.id, r.acc, r.price, m⟩ :: rs) := .inr (.inl ⟨m, h, rfl⟩)
theorem Suf.skip (r : OrdV) {rs R : List OrdV} (h : Suf rs R) : Suf (r :: rs) R := .inr (.inr h)
theorem Suf.ind {P : List OrdV → List OrdV → Prop} (all : ∀ T, P T T) (cut : ∀ (r : OrdV) (rs : List OrdV) (m : Int), (1 ≤ m ∧ m ≤ r.left) → P (r :: rs) (⟨r.id, r.acc, r.price, m⟩ :: rs)) (skip : ∀ (r : OrdV) (rs R : List OrdV), Suf rs R → P rs R → P (r :: rs) R) : ∀ {T R : List OrdV}, Suf T R → P T R
  | [], R, h => by
    have e : R = [] := h
    rw [e]
    exact all []
  | r :: rs, R, h => by
    rcases h with h | ⟨m, hm, h⟩ | h
    · rw [h]
      exact all _
    · rw [h]
      exact cut r rs m hm
    · exact skip r rs R h (Suf.ind all cut skip h)
theorem trL_suf (s : Int) (x : OrdV) (hxa : 1 ≤ x.acc ∧ x.acc ≤ 8) : ∀ (T : List OrdV) (left : Int) (ow : List OweV) (F : List FillV), OkT T → AccT T → 0 ≤ left → OwOk ow → Suf T (trL s x T left ow F).1 ∧ OwOk (trL s x T left ow F).2.2.1 ∧ (0 < (trL s x T left ow F).2.1 → ∀ r, (trL s x T left ow F).1.head? = some r → meetB s x.price r.price = false) ∧ (0 ≤ (trL s x T left ow F).2.1 ∧ (trL s x T left ow F).2.1 ≤ left)
  | [], left, ow, F, _, _, hl, ho => ⟨Suf.all _, ho, fun _ r hr => by simp [trL] at hr, by simp only [trL]; omega⟩
  | r :: rs, left, ow, F, ht, ha, hl, ho => by
    have hr := ht r (by simp)
    have hra := ha r (by simp)
    unfold trL
    by_cases hm : 0 < left ∧ meetB s x.price r.price = true
    · rw [if_pos hm]
      have hn : 1 ≤ min left r.left ∧ min left r.left ≤ left ∧ min left r.left ≤ r.left := by omega
      have hs := owok_set (s := s) (o := x) (r := r) (n := min left r.left) ho hn.1 hxa hra hr.1.1
      by_cases h0 : r.left - min left r.left = 0
      · rw [if_pos h0]
        have ih := trL_suf s x hxa rs (left - min left r.left) (setO s x r (min left r.left) ow) (F ++ [setF s x r (min left r.left)]) (fun q hq => ht q (List.mem_cons_of_mem _ hq)) (fun q hq => ha q (List.mem_cons_of_mem _ hq)) (by omega) hs
        exact ⟨Suf.skip r ih.1, ih.2.1, ih.2.2.1, by omega⟩
      · rw [if_neg h0]
        refine ⟨Suf.cut r rs _ (by omega), hs, fun hx => ?_, by simp only; omega⟩
        simp only at hx
        omega
    · rw [if_neg hm]
      refine ⟨Suf.all _, ho, fun hx q hq => ?_, by simp only; omega⟩
      simp only [List.head?_cons, Option.some.injEq] at hq
      subst hq
      cases hb : meetB s x.price r.price
      · rfl
      · exact absurd ⟨hx, hb⟩ hm
theorem str_mono {nx ny : Int} {o : OrdV} (h : strB nx o = false) (hn : nx ≤ ny) : strB ny o = false := by
  unfold strB wiB at *
  simp only [Bool.or_eq_false_iff, Bool.not_eq_false', decide_eq_true_eq] at *
  omega
theorem ah_left {s : Int} {a b : OrdV} (m : Int) : ahB s ⟨a.id, a.acc, a.price, m⟩ b = ahB s a b := rfl
theorem side_suf {s nx ny : Int} (hn : nx ≤ ny) : ∀ {T R : List OrdV}, Suf T R → sideB s nx T = true → sideB s ny R = true := by
  intro T R h
  refine Suf.ind (P := fun T R => sideB s nx T = true → sideB s ny R = true) ?_ ?_ ?_ h
  · intro T hs
    unfold sideB at *
    simp only [Bool.and_eq_true, decide_eq_true_eq, Bool.not_eq_true', List.any_eq_false, Bool.not_eq_true] at *
    exact ⟨hs.1, fun q hq => str_mono (hs.2.1 q hq) hn, hs.2.2⟩
  · intro r rs m hm hs
    unfold sideB at *
    simp only [Bool.and_eq_true, decide_eq_true_eq, Bool.not_eq_true', List.any_eq_false, Bool.not_eq_true] at *
    refine ⟨by simpa using hs.1, fun q hq => ?_, ?_⟩
    · rcases List.mem_cons.1 hq with rfl | hq
      · have h1 := str_mono (hs.2.1 r (by simp)) hn
        unfold strB wiB at *
        simp only [Bool.or_eq_false_iff, Bool.not_eq_false', decide_eq_true_eq] at *
        omega
      · exact str_mono (hs.2.1 q (List.mem_cons_of_mem _ hq)) hn
    · refine srt_cons (srt_tail hs.2.2) (fun z hz => ?_)
      cases rs with
      | nil => simp at hz
      | cons w rs =>
        simp at hz
        rw [← hz]
        exact srt_head hs.2.2
  · intro r rs R h ih hs
    refine ih ?_
    unfold sideB at *
    simp only [Bool.and_eq_true, decide_eq_true_eq, Bool.not_eq_true', List.any_eq_false, Bool.not_eq_true] at *
    exact ⟨by have := hs.1; simp at this; omega, fun q hq => hs.2.1 q (List.mem_cons_of_mem _ hq), srt_tail hs.2.2⟩
end Go.Proofs.Ytgnmghcdfihmgaa
