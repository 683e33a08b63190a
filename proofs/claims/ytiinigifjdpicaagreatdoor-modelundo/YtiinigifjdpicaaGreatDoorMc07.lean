/- Texts of my own, laid together. -/
import Derived.Test.YtiinigifjdpicaaGreatDoorPx06
import Derived.Test.YtiinigifjdpicaaGreatDoorPx07
import Derived.Test.YtiinigifjdpicaaGreatDoorPx03
namespace Go.Proofs.YtiinigifjdpicaaGreatDoor
open Go.RowKit
set_option linter.all false
theorem app_none {t e : TypeId} {z : Value} {k bytes : Nat} (ht : Tryz.prog.underlying t = some (.slice e)) (hi : (Tryz.prog.info? e).map (fun i => (i.zero, i.size, i.bytes)) = some (some z, k, bytes)) (w : World) (B : Nat) (v : Value) (n : Nat) (xs : List Value) (hown : w.ownsRow B e k v n xs) (c : Nat) : (Builtin.append_ #[t, t] t #[v, .slice none 0 c]).run Tryz.prog w = .ok v w := by
 obtain ⟨i, hi, hz0, hz1, hz2⟩ := info_parts hi
 rcases hown.2 with ⟨rfl, rfl⟩ | ⟨g, cap, cur, rfl, _, _, hnc, _⟩
 ·simp [Builtin.append_, run_underlying ht, sizeOf, typeInfo, hi, Builtin.lenOf, Builtin.firstCells]
 ·simp [Builtin.append_, run_underlying ht, sizeOf, typeInfo, hi, Builtin.lenOf, Builtin.firstCells, hnc, storeCells]
structure CC (w : World) (L : LaneV) (b a o X Y Z : Value) (W : World) : Prop where
 box : W.heap[w.heap.size]? = some (.cells (laneA L b a o) 59 (0, 0))
 res : W.heap[w.heap.size + 1]? = some (.cells #[.bool false, .int .i64 0, .slice none 0 0, .slice none 0 0, .slice none 0 0] 59 (0, 0))
 out : W.heap[w.heap.size + 2]? = some (.cells #[.bool L.call, .int .i64 L.next, X, Y, Z] 59 (0, 0))
 bel : Below w.heap.size w W
theorem CC.first (w : World) (L : LaneV) (b a o : Value) : CC w L b a o (.slice none 0 0) (.slice none 0 0) (.slice none 0 0) (((w.alloc (.cells (laneA L b a o) 59)).alloc (.cells #[.bool false, .int .i64 0, .slice none 0 0, .slice none 0 0, .slice none 0 0] 59)).alloc (.cells #[.bool L.call, .int .i64 L.next, .slice none 0 0, .slice none 0 0, .slice none 0 0] 59)) := by
 have ht := two_heap w (.cells (laneA L b a o) 59) (.cells #[.bool false, .int .i64 0, .slice none 0 0, .slice none 0 0, .slice none 0 0] 59);have hb := below1 ((w.alloc (.cells (laneA L b a o) 59)).alloc (.cells #[.bool false, .int .i64 0, .slice none 0 0, .slice none 0 0, .slice none 0 0] 59)) (.cells #[.bool L.call, .int .i64 L.next, .slice none 0 0, .slice none 0 0, .slice none 0 0] 59);refine ⟨(hb.block _ (by rw [ht.2.2]; omega)).trans ht.1, (hb.block _ (by rw [ht.2.2]; omega)).trans ht.2.1, ?_, below_via (below2 w _ _) hb⟩
 have := heap_alloc_new ((w.alloc (.cells (laneA L b a o) 59)).alloc (.cells #[.bool false, .int .i64 0, .slice none 0 0, .slice none 0 0, .slice none 0 0] 59)) (.cells #[.bool L.call, .int .i64 L.next, .slice none 0 0, .slice none 0 0, .slice none 0 0] 59)
 rwa [ht.2.2] at this
theorem CC.keep {w W W' : World} {L : LaneV} {b a o X Y Z : Value} (h : CC w L b a o X Y Z W) (hb : Below W.heap.size W W') : CC w L b a o X Y Z W' :=
 ⟨(hb.block _ (Array.getElem?_eq_some_iff.1 h.box).1).trans h.box, (hb.block _ (Array.getElem?_eq_some_iff.1 h.res).1).trans h.res, (hb.block _ (Array.getElem?_eq_some_iff.1 h.out).1).trans h.out, below_via h.bel hb⟩
theorem CC.x {w W : World} {L : LaneV} {b a o X Y Z : Value} (h : CC w L b a o X Y Z W) (v : Value) : CC w L b a o v Y Z (W.setCell ⟨w.heap.size + 2, 2, none⟩ v) :=
 ⟨setOther _ h.box (by omega), setOther _ h.res (by omega), heap_set h.out 2 v, belowSet _ h.bel (by omega)⟩
theorem CC.y {w W : World} {L : LaneV} {b a o X Y Z : Value} (h : CC w L b a o X Y Z W) (v : Value) : CC w L b a o X v Z (W.setCell ⟨w.heap.size + 2, 3, none⟩ v) :=
 ⟨setOther _ h.box (by omega), setOther _ h.res (by omega), heap_set h.out 3 v, belowSet _ h.bel (by omega)⟩
theorem CC.z {w W : World} {L : LaneV} {b a o X Y Z : Value} (h : CC w L b a o X Y Z W) (v : Value) : CC w L b a o X Y v (W.setCell ⟨w.heap.size + 2, 4, none⟩ v) :=
 ⟨setOther _ h.box (by omega), setOther _ h.res (by omega), heap_set h.out 4 v, belowSet _ h.bel (by omega)⟩
theorem srt_tail {α : Type} {r : α → α → Bool} {x : α} {l : List α} (h : srtB r (x :: l) = true) : srtB r l = true := by
 cases l with
 | nil => rfl
 | cons y l =>
  unfold srtB at h;simp only [Bool.and_eq_true] at h;exact h.2
theorem srt_cons {α : Type} {r : α → α → Bool} {x : α} {l : List α} (h : srtB r l = true) (hx : ∀ y, l.head? = some y → r x y = true) : srtB r (x :: l) = true := by
 cases l with
 | nil => rfl
 | cons y l =>
  unfold srtB;simp only [Bool.and_eq_true]
  exact ⟨hx y rfl, h⟩
theorem srt_head {α : Type} {r : α → α → Bool} {x y : α} {l : List α} (h : srtB r (x :: y :: l) = true) : r x y = true := by
 unfold srtB at h;simp only [Bool.and_eq_true] at h;exact h.1
theorem srt_laid {α : Type} {r : α → α → Bool} {x : α} : ∀ {l : List α}, srtB r l = true → (∀ y ∈ l, r y x = false → r x y = true) → srtB r (laidL r x l) = true
 | [], _, _ => rfl
 | y :: l, h, ht => by
  unfold laidL;rw [List.takeWhile_cons, List.dropWhile_cons];cases hy : r y x
  ·simp only [Bool.false_eq_true, if_false, List.nil_append];exact srt_cons h (fun z hz => by
    simp only [List.head?_cons, Option.some.injEq] at hz;rw [← hz];exact ht y (by simp) hy)
  ·simp only [if_true, List.cons_append];have ih := srt_laid (srt_tail h) (fun z hz => ht z (List.mem_cons_of_mem _ hz));unfold laidL at ih;refine srt_cons ih (fun z hz => ?_);cases l with
   | nil =>
    simp at hz
    rw [← hz];exact hy
   | cons w l =>
    rw [List.takeWhile_cons] at hz
    split at hz
    ·simp at hz
     rw [← hz];exact srt_head h
    ·simp at hz
     rw [← hz];exact hy
theorem laid_mem {α : Type} {r : α → α → Bool} {x : α} {l : List α} {y : α} : y ∈ laidL r x l ↔ y = x ∨ y ∈ l := by
 unfold laidL;have e := List.takeWhile_append_dropWhile (p := (r · x)) (l := l);rw [List.mem_append, List.mem_cons]
 constructor
 ·rintro (h | h | h)
  ·exact .inr (List.takeWhile_subset _ h)
  ·exact .inl h
  ·exact .inr (List.dropWhile_subset _ h)
 ·rintro (h | h)
  ·exact .inr (.inl h)
  ·rw [← e, List.mem_append] at h
   rcases h with h | h
   ·exact .inl h
   ·exact .inr (.inr h)
theorem laid_len {α : Type} {r : α → α → Bool} {x : α} {l : List α} : (laidL r x l).length = l.length + 1 := by
 unfold laidL;have e := congrArg List.length (List.takeWhile_append_dropWhile (p := (r · x)) (l := l));rw [List.length_append] at e ⊢;rw [List.length_cons];omega
theorem laid_perm {α : Type} {r : α → α → Bool} {x : α} {l : List α} : (laidL r x l).Perm (x :: l) := by
 unfold laidL;have e := List.takeWhile_append_dropWhile (p := (r · x)) (l := l)
 conv => rhs; rw [← e]
 exact List.perm_middle
theorem laid_head {α : Type} {r : α → α → Bool} {x : α} {l : List α} {y : α} (h : (laidL r x l).head? = some y) : y = x ∨ l.head? = some y := by
 unfold laidL at h;cases l with
 | nil => simp at h; exact .inl h.symm
 | cons z l =>
  rw [List.takeWhile_cons] at h
  split at h
  ·simp at h
   exact .inr (by rw [← h]; rfl)
  ·simp at h
   exact .inl h.symm
def OwOk (l : List OweV) : Prop := srtB owB l = true ∧ ∀ y ∈ l, (1 ≤ y.acc ∧ y.acc ≤ 8) ∧ (0 ≤ y.asset ∧ y.asset ≤ 1) ∧ 1 ≤ y.n
theorem owed_owok {l : List OweV} (h : owedB l = true) : OwOk l := by
 unfold owedB at h;simp only [Bool.and_eq_true, Bool.not_eq_true', List.any_eq_false] at h;refine ⟨h.2, fun z hz => ?_⟩;have h2 := h.1 z hz;unfold stoB at h2;simp only [Bool.or_eq_true, not_or, Bool.not_eq_true', Bool.not_eq_false] at h2
 exact ⟨wiB_in h2.1.1, wiB_in h2.1.2, (wiB_in h2.2).1⟩
theorem owok_owed {l : List OweV} (h : OwOk l) (ho : overB l = false) : owedB l = true := by
 unfold owedB;simp only [Bool.and_eq_true, Bool.not_eq_true', List.any_eq_false];refine ⟨fun z hz => ?_, h.1⟩;have h1 := h.2 z hz;unfold overB at ho;simp only [List.any_eq_false, decide_eq_true_eq] at ho;have h3 := ho z hz;unfold stoB wiB;simp only [Bool.or_eq_true, not_or, Bool.not_eq_true', decide_eq_false_iff_not, Decidable.not_not];omega
theorem srt_modify {f : OweV → OweV} (hf : ∀ y, (f y).acc = y.acc ∧ (f y).asset = y.asset) : ∀ (l : List OweV) (i : Nat), srtB owB l = true → srtB owB (l.modify i f) = true
 | [], i, h => by simpa using h
 | y :: l, 0, h => by
  rw [List.modify_zero_cons];refine srt_cons (srt_tail h) (fun z hz => ?_);cases l with
  | nil => simp at hz
  | cons w l =>
   simp at hz
   have := srt_head h;rw [← hz];unfold owB at this ⊢;rw [(hf y).1, (hf y).2];exact this
 | y :: l, i + 1, h => by
  rw [List.modify_succ_cons];refine srt_cons (srt_modify hf l i (srt_tail h)) (fun z hz => ?_);cases l with
  | nil => simp at hz
  | cons w l =>
   have := srt_head h;cases i with
   | zero =>
    rw [List.modify_zero_cons] at hz
    simp at hz
    rw [← hz];unfold owB at this ⊢;rw [(hf w).1, (hf w).2];exact this
   | succ i =>
    rw [List.modify_succ_cons] at hz
    simp at hz
    rw [← hz];exact this
theorem owok_owe {l : List OweV} {acc asset n : Int} (h : OwOk l) (ha : 1 ≤ acc ∧ acc ≤ 8) (hs : 0 ≤ asset ∧ asset ≤ 1) (hn : 1 ≤ n) : OwOk (oweL acc asset n l) := by
 obtain ⟨h1, h2⟩ := h;unfold oweL
 split
 ·rename_i i hi
  refine ⟨srt_modify (f := fun y => ⟨y.acc, y.asset, y.n + n⟩) (fun y => ⟨rfl, rfl⟩) l i h1, fun y hy => ?_⟩;rw [List.mem_iff_getElem?] at hy;obtain ⟨j, hj⟩ := hy;rw [List.getElem?_modify] at hj;cases hjl : l[j]? with
  | none => rw [hjl] at hj; simp at hj
  | some z =>
   have hz := h2 z (List.mem_of_getElem? hjl);rw [hjl] at hj;simp only [Option.map_eq_map, Option.map_some, Option.some.injEq] at hj;rw [← hj]
   split
   ·simp only
    omega
   ·first | exact hz | (simp only [id]; exact hz)
 ·rename_i hnone
  rw [List.findIdx?_eq_none_iff] at hnone;refine ⟨srt_laid h1 (fun y hy hf => ?_), fun y hy => ?_⟩
  ·have h3 := hnone y hy;unfold oweP at h3;unfold owB at hf ⊢;simp only [Bool.or_eq_false_iff, Bool.and_eq_false_iff, decide_eq_false_iff_not] at hf h3;simp only [Bool.or_eq_true, Bool.and_eq_true, decide_eq_true_eq];omega
  ·rcases laid_mem.1 hy with rfl | hy
   ·exact ⟨ha, hs, hn⟩
   ·exact h2 y hy
def AccT (T : List OrdV) : Prop := ∀ r ∈ T, 1 ≤ r.acc ∧ r.acc ≤ 8
theorem mul_pos1 {a b : Int} (ha : 1 ≤ a) (hb : 1 ≤ b) : 1 ≤ a * b := by
 have := Int.mul_le_mul ha hb (by omega) (by omega);omega
theorem owok_set {l : List OweV} {s : Int} {o r : OrdV} {n : Int} (h : OwOk l) (hn : 1 ≤ n) (ho : 1 ≤ o.acc ∧ o.acc ≤ 8) (hr : 1 ≤ r.acc ∧ r.acc ≤ 8) (hp : 1 ≤ r.price) : OwOk (setO s o r n l) := by
 have hb : 1 ≤ (setB s o r).acc ∧ (setB s o r).acc ≤ 8 := by unfold setB; split <;> assumption
 have hs : 1 ≤ (setS s o r).acc ∧ (setS s o r).acc ≤ 8 := by unfold setS; split <;> assumption
 have h2 := owok_owe (owok_owe h hb (by omega : (0 : Int) ≤ 1 ∧ (1 : Int) ≤ 1) hn) hs (by omega : (0 : Int) ≤ 0 ∧ (0 : Int) ≤ 1) (mul_pos1 hp hn);unfold setO
 simp only
 split
 ·rename_i hlt
  exact owok_owe h2 hb (by omega) (mul_pos1 (by omega) hn)
 ·exact h2
def Suf : List OrdV → List OrdV → Prop
 | [], R => R = []
 | r :: rs, R => R = r :: rs ∨ (∃ m, (1 ≤ m ∧ m ≤ r.left) ∧ R = ⟨r.id, r.acc, r.price, m⟩ :: rs) ∨ Suf rs R
theorem Suf.all : ∀ (T : List OrdV), Suf T T
 | [] => rfl
 | _ :: _ => .inl rfl
theorem Suf.cut (r : OrdV) (rs : List OrdV) (m : Int) (h : 1 ≤ m ∧ m ≤ r.left) : Suf (r :: rs) (⟨r.id, r.acc, r.price, m⟩ :: rs) := .inr (.inl ⟨m, h, rfl⟩)
theorem Suf.skip (r : OrdV) {rs R : List OrdV} (h : Suf rs R) : Suf (r :: rs) R := .inr (.inr h)
theorem Suf.ind {P : List OrdV → List OrdV → Prop} (all : ∀ T, P T T) (cut : ∀ (r : OrdV) (rs : List OrdV) (m : Int), (1 ≤ m ∧ m ≤ r.left) → P (r :: rs) (⟨r.id, r.acc, r.price, m⟩ :: rs)) (skip : ∀ (r : OrdV) (rs R : List OrdV), Suf rs R → P rs R → P (r :: rs) R) : ∀ {T R : List OrdV}, Suf T R → P T R
 | [], R, h => by
  have e : R = [] := h;rw [e];exact all []
 | r :: rs, R, h => by
  rcases h with h | ⟨m, hm, h⟩ | h
  ·rw [h];exact all _
  ·rw [h];exact cut r rs m hm
  ·exact skip r rs R h (Suf.ind all cut skip h)
theorem trL_suf (s : Int) (x : OrdV) (hxa : 1 ≤ x.acc ∧ x.acc ≤ 8) : ∀ (T : List OrdV) (left : Int) (ow : List OweV) (F : List FillV), OkT T → AccT T → 0 ≤ left → OwOk ow → Suf T (trL s x T left ow F).1 ∧ OwOk (trL s x T left ow F).2.2.1 ∧ (0 < (trL s x T left ow F).2.1 → ∀ r, (trL s x T left ow F).1.head? = some r → meetB s x.price r.price = false) ∧ (0 ≤ (trL s x T left ow F).2.1 ∧ (trL s x T left ow F).2.1 ≤ left)
 | [], left, ow, F, _, _, hl, ho => ⟨Suf.all _, ho, fun _ r hr => by simp [trL] at hr, by simp only [trL]; omega⟩
 | r :: rs, left, ow, F, ht, ha, hl, ho => by
  have hr := ht r (by simp);have hra := ha r (by simp);unfold trL
  by_cases hm : 0 < left ∧ meetB s x.price r.price = true
  ·rw [if_pos hm];have hn : 1 ≤ min left r.left ∧ min left r.left ≤ left ∧ min left r.left ≤ r.left := by omega
   have hs := owok_set (s := s) (o := x) (r := r) (n := min left r.left) ho hn.1 hxa hra hr.1.1
   by_cases h0 : r.left - min left r.left = 0
   ·rw [if_pos h0];have ih := trL_suf s x hxa rs (left - min left r.left) (setO s x r (min left r.left) ow) (F ++ [setF s x r (min left r.left)]) (fun q hq => ht q (List.mem_cons_of_mem _ hq)) (fun q hq => ha q (List.mem_cons_of_mem _ hq)) (by omega) hs
    exact ⟨Suf.skip r ih.1, ih.2.1, ih.2.2.1, by omega⟩
   ·rw [if_neg h0];refine ⟨Suf.cut r rs _ (by omega), hs, fun hx => ?_, by simp only; omega⟩
    simp only at hx;omega
  ·rw [if_neg hm];refine ⟨Suf.all _, ho, fun hx q hq => ?_, by simp only; omega⟩
   simp only [List.head?_cons, Option.some.injEq] at hq;subst hq;cases hb : meetB s x.price r.price
   ·rfl
   ·exact absurd ⟨hx, hb⟩ hm
theorem str_mono {nx ny : Int} {o : OrdV} (h : strB nx o = false) (hn : nx ≤ ny) : strB ny o = false := by
 unfold strB wiB at *;simp only [Bool.or_eq_false_iff, Bool.not_eq_false', decide_eq_true_eq] at *;omega
theorem side_suf {s nx ny : Int} (hn : nx ≤ ny) : ∀ {T R : List OrdV}, Suf T R → sideB s nx T = true → sideB s ny R = true := by
 intro T R h;refine Suf.ind (P := fun T R => sideB s nx T = true → sideB s ny R = true) ?_ ?_ ?_ h
 ·intro T hs;unfold sideB at *;simp only [Bool.and_eq_true, decide_eq_true_eq, Bool.not_eq_true', List.any_eq_false, Bool.not_eq_true] at *
  exact ⟨hs.1, fun q hq => str_mono (hs.2.1 q hq) hn, hs.2.2⟩
 ·intro r rs m hm hs;unfold sideB at *;simp only [Bool.and_eq_true, decide_eq_true_eq, Bool.not_eq_true', List.any_eq_false, Bool.not_eq_true] at *;refine ⟨by simpa using hs.1, fun q hq => ?_, ?_⟩
  ·rcases List.mem_cons.1 hq with rfl | hq
   ·have h1 := str_mono (hs.2.1 r (by simp)) hn;unfold strB wiB at *;simp only [Bool.or_eq_false_iff, Bool.not_eq_false', decide_eq_true_eq] at *;omega
   ·exact str_mono (hs.2.1 q (List.mem_cons_of_mem _ hq)) hn
  ·refine srt_cons (srt_tail hs.2.2) (fun z hz => ?_);cases rs with
   | nil => simp at hz
   | cons w rs =>
    simp at hz
    rw [← hz];exact srt_head hs.2.2
 ·intro r rs R h ih hs;refine ih ?_;unfold sideB at *;simp only [Bool.and_eq_true, decide_eq_true_eq, Bool.not_eq_true', List.any_eq_false, Bool.not_eq_true] at *
  exact ⟨by have := hs.1; simp at this; omega, fun q hq => hs.2.1 q (List.mem_cons_of_mem _ hq), srt_tail hs.2.2⟩
theorem srt_lt_pair : ∀ {l : List Int}, srtB ltB l = true → l.Pairwise (· < ·)
 | [], _ => List.Pairwise.nil
 | [x], _ => by simp
 | x :: y :: l, h => by
  have ih := srt_lt_pair (srt_tail h);have h1 : x < y := of_decide_eq_true (srt_head h);refine List.pairwise_cons.2 ⟨fun z hz => ?_, ih⟩
  rcases List.mem_cons.1 hz with rfl | hz
  ·exact h1
  ·exact Int.lt_trans h1 ((List.pairwise_cons.1 ih).1 z hz)
theorem pair_srt_lt : ∀ {l : List Int}, l.Pairwise (· ≤ ·) → l.Nodup → srtB ltB l = true
 | [], _, _ => rfl
 | x :: l, h, hn => by
  refine srt_cons (pair_srt_lt (List.pairwise_cons.1 h).2 (List.nodup_cons.1 hn).2) (fun y hy => ?_);have hm : y ∈ l := List.mem_of_mem_head? hy;have h1 := (List.pairwise_cons.1 h).1 y hm;have h2 : x ≠ y := fun e => (List.nodup_cons.1 hn).1 (e ▸ hm)
  exact decide_eq_true (by omega)
theorem sort_perm (m : List Int) : (sortL m).Perm m := List.mergeSort_perm m _
theorem sort_pair (m : List Int) : (sortL m).Pairwise (· ≤ ·) := by
 have h := List.pairwise_mergeSort (le := fun x y : Int => decide (x ≤ y)) (fun a b c h1 h2 => by simp only [decide_eq_true_eq] at *; omega) (fun a b => by simp only [Bool.or_eq_true, decide_eq_true_eq]; omega) m
 exact h.imp (fun h => of_decide_eq_true h)
theorem unl_iff (L : LaneV) : unlB L = true ↔ (idsL L.bids ++ idsL L.asks).Nodup := by
 unfold unlB
 constructor
 ·intro h;exact (sort_perm _).nodup_iff.1 ((srt_lt_pair h).imp (fun h => by omega))
 ·intro h;exact pair_srt_lt (sort_pair _) ((sort_perm _).nodup_iff.2 h)
theorem suf_ids {T R : List OrdV} (h : Suf T R) : (idsL R).Sublist (idsL T) := by
 refine Suf.ind (P := fun T R => (idsL R).Sublist (idsL T)) ?_ ?_ ?_ h
 ·exact fun T => List.Sublist.refl _
 ·exact fun r rs m hm => List.Sublist.refl _
 ·exact fun r rs R h ih => ih.trans (List.sublist_cons_self _ _)
def worse (s p q : Int) : Prop := if s = 1 then p ≤ q else q ≤ p
theorem ah_worse {s : Int} (hs : s = 1 ∨ s = 2) {a b : OrdV} (h : ahB s a b = true) : worse s b.price a.price := by
 unfold ahB at h;unfold worse
 rcases hs with rfl | rfl
 ·split at h
  ·simp; omega
  ·simp at h; simp; omega
 ·split at h
  ·simp; omega
  ·simp at h; simp; omega
theorem worse_trans {s p q r : Int} (h : worse s p q) (k : worse s q r) : worse s p r := by
 unfold worse at *
 split at h <;> simp_all <;> omega
theorem suf_head {s : Int} (hs : s = 1 ∨ s = 2) {T R : List OrdV} (h : Suf T R) : srtB (ahB s) T = true → ∀ r, R.head? = some r → ∃ t, T.head? = some t ∧ worse s r.price t.price := by
 refine Suf.ind (P := fun T R => srtB (ahB s) T = true → ∀ r, R.head? = some r → ∃ t, T.head? = some t ∧ worse s r.price t.price) ?_ ?_ ?_ h
 ·exact fun T _ r hr => ⟨r, hr, by unfold worse; split <;> omega⟩
 ·intro q rs m hm _ r hr;simp only [List.head?_cons, Option.some.injEq] at hr;subst hr
  exact ⟨q, rfl, by unfold worse; split <;> simp⟩
 ·intro q rs R' h ih hsr r hr;obtain ⟨t, ht, hw⟩ := ih (srt_tail hsr) r hr;refine ⟨q, rfl, ?_⟩;cases rs with
  | nil => simp at ht
  | cons z rs =>
   simp only [List.head?_cons, Option.some.injEq] at ht;subst ht;exact worse_trans hw (ah_worse hs (srt_head hsr))
theorem cross_iff (L : LaneV) : crossB L = false ↔ ∀ x y, L.bids.head? = some x → L.asks.head? = some y → x.price < y.price := by
 unfold crossB
 constructor
 ·intro h x y hx hy;cases hb : L.bids with
  | nil => rw [hb] at hx; simp at hx
  | cons p ps =>
   cases ha : L.asks with
   | nil => rw [ha] at hy; simp at hy
   | cons q qs =>
    rw [hb] at hx h;rw [ha] at hy h
    simp at hx hy h
    subst hx hy;omega
 ·intro h
  split
  ·rename_i p ps q qs hb ha
   have := h p q (by rw [hb]; rfl) (by rw [ha]; rfl)
   simp; omega
  ·rfl
structure BOk (L : LaneV) : Prop where
 next : 1 ≤ L.next ∧ L.next ≤ 1000001
 sb : sideB 1 L.next L.bids = true
 sa : sideB 2 L.next L.asks = true
 nd : (idsL L.bids ++ idsL L.asks).Nodup
 cr : L.call = true ∨ ∀ x y, L.bids.head? = some x → L.asks.head? = some y → x.price < y.price
 ow : owedB L.owed = true
theorem chk_bok (L : LaneV) : chkB L = true ↔ BOk L := by
 unfold chkB;simp only [Bool.and_eq_true, Bool.or_eq_true, Bool.not_eq_true', unl_iff, cross_iff]
 constructor
 ·rintro ⟨h1, h2, h3, h4, h5, h6⟩
  exact ⟨wiB_in h1, h2, h3, h4, h5, h6⟩
 ·rintro ⟨h1, h2, h3, h4, h5, h6⟩
  exact ⟨decide_eq_true h1, h2, h3, h4, h5, h6⟩
theorem side_acc {s nx : Int} {l : List OrdV} (h : sideB s nx l = true) : AccT l ∧ (∀ r ∈ l, 1 ≤ r.id ∧ r.id ≤ nx - 1) ∧ srtB (ahB s) l = true := by
 unfold sideB at h;simp only [Bool.and_eq_true, decide_eq_true_eq, Bool.not_eq_true', List.any_eq_false] at h;refine ⟨fun r hr => ?_, fun r hr => ?_, h.2.2⟩ <;>
 ·have h2 := h.2.1 r hr;unfold strB at h2;simp only [Bool.or_eq_true, not_or, Bool.not_eq_true', Bool.not_eq_false] at h2
  first | exact wiB_in h2.1.1.1 | exact wiB_in h2.2
theorem side_laid {s nx : Int} {l : List OrdV} {acc price left : Int} (h : sideB s nx l = true) (hl : l.length < 40) (ha : 1 ≤ acc ∧ acc ≤ 8) (hp : 1 ≤ price ∧ price ≤ 1000000) (hm : 1 ≤ left ∧ left ≤ 1000000) (hn : 1 ≤ nx) : sideB s (nx + 1) (laidL (ahB s) ⟨nx, acc, price, left⟩ l) = true := by
 have hx := side_acc h;have h' := side_suf (s := s) (ny := nx + 1) (by omega) (Suf.all l) h;unfold sideB at h' ⊢;simp only [Bool.and_eq_true, decide_eq_true_eq, Bool.not_eq_true', List.any_eq_false, Bool.not_eq_true] at h' ⊢;refine ⟨by rw [laid_len]; omega, fun q hq => ?_, srt_laid h'.2.2 (fun y hy hf => ?_)⟩
 ·rcases laid_mem.1 hq with rfl | hq
  ·unfold strB wiB;simp only [Bool.or_eq_false_iff, Bool.not_eq_false', decide_eq_true_eq];omega
  ·exact h'.2.1 q hq
 ·have hi := hx.2.1 y hy;unfold ahB at hf ⊢;simp only at hf ⊢
  by_cases hpe : y.price = price
  ·rw [if_pos hpe] at hf
   simp at hf
   omega
  ·rw [if_neg hpe] at hf;rw [if_neg (fun e => hpe e.symm)]
   by_cases h1 : price < y.price
   ·rw [decide_eq_true h1] at hf;rw [decide_eq_false (by omega)]
    revert hf
    cases decide (s = 1) <;> simp
   ·rw [decide_eq_false h1] at hf;rw [decide_eq_true (by omega)]
    revert hf
    cases decide (s = 1) <;> simp
theorem plT_is {L : LaneV} {s acc price n : Int} (h : BOk L) (hs : s = 1 ∨ s = 2) (ha : 1 ≤ acc ∧ acc ≤ 8) (hn : 1 ≤ n ∧ n ≤ 1000000) : Suf (sideL L (if s = 1 then 2 else 1)) (plT L s ⟨L.next, acc, price, n⟩).1 ∧ OwOk (plT L s ⟨L.next, acc, price, n⟩).2.2.1 ∧ (L.call = false → 0 < (plT L s ⟨L.next, acc, price, n⟩).2.1 → ∀ r, (plT L s ⟨L.next, acc, price, n⟩).1.head? = some r → meetB s price r.price = false) ∧ (0 ≤ (plT L s ⟨L.next, acc, price, n⟩).2.1 ∧ (plT L s ⟨L.next, acc, price, n⟩).2.1 ≤ n) := by
 have ho := owed_owok h.ow;unfold plT;cases hc : L.call
 ·have hside : OkT (sideL L (if s = 1 then 2 else 1)) ∧ AccT (sideL L (if s = 1 then 2 else 1)) := by
   rcases hs with rfl | rfl
   ·exact ⟨(side_ok h.sa).2, (side_acc h.sa).1⟩
   ·exact ⟨(side_ok h.sb).2, (side_acc h.sb).1⟩
  have ht := trL_suf s ⟨L.next, acc, price, n⟩ ha (sideL L (if s = 1 then 2 else 1)) n L.owed [] hside.1 hside.2 (by omega) ho;simp only [Bool.false_eq_true, if_false]
  exact ⟨ht.1, ht.2.1, fun _ => ht.2.2.1, ht.2.2.2⟩
 ·simp only [if_true]
  exact ⟨Suf.all _, ho, fun h => absurd h (by simp), by omega⟩
theorem nodup_laid {α : Type} {r : α → α → Bool} {x : α} {f : α → Int} {l : List α} {m : List Int} (h : (l.map f ++ m).Nodup) (h1 : ∀ y ∈ l, f y ≠ f x) (h2 : f x ∉ m) : ((laidL r x l).map f ++ m).Nodup := by
 have hp : ((laidL r x l).map f ++ m).Perm (f x :: (l.map f ++ m)) := (laid_perm.map f).append_right m;rw [hp.nodup_iff, List.nodup_cons];refine ⟨fun hx => ?_, h⟩;rw [List.mem_append, List.mem_map] at hx
 rcases hx with ⟨y, hy, e⟩ | hx
 ·exact h1 y hy e
 ·exact h2 hx
theorem ids_in {s nx : Int} {l : List OrdV} (h : sideB s nx l = true) : nx ∉ idsL l := by
 intro hx;unfold idsL at hx;rw [List.mem_map] at hx;obtain ⟨y, hy, e⟩ := hx;have := (side_acc h).2.1 y hy;omega
theorem suf_nx {s nx : Int} {T R : List OrdV} (h : sideB s nx T = true) (hs : Suf T R) : nx ∉ idsL R := fun hx => ids_in h ((suf_ids hs).subset hx)
theorem place_may {L : LaneV} {acc s price n : Int} {now : Bool} (hr : refE L acc s price n now = 0) (ho : overB (plR (plL L s (plT L s ⟨L.next, acc, price, n⟩).1 (plT L s ⟨L.next, acc, price, n⟩).2.2.1) s ⟨L.next, acc, price, (plT L s ⟨L.next, acc, price, n⟩).2.1⟩ now).owed = false) : BOk (plR (plL L s (plT L s ⟨L.next, acc, price, n⟩).1 (plT L s ⟨L.next, acc, price, n⟩).2.2.1) s ⟨L.next, acc, price, (plT L s ⟨L.next, acc, price, n⟩).2.1⟩ now) := by
 obtain ⟨hc, hs, hp, hn, hnc, hl, hnx, ha⟩ := refE_ok hr;have hB := (chk_bok L).1 hc;obtain ⟨ht1, ht2, ht3, ht4⟩ := plT_is (price := price) hB hs ha hn
 revert ho ht1 ht2 ht3 ht4
 generalize (plT L s ⟨L.next, acc, price, n⟩).1 = T;generalize (plT L s ⟨L.next, acc, price, n⟩).2.1 = left;generalize (plT L s ⟨L.next, acc, price, n⟩).2.2.1 = ow;intro ho hT hO hM hL;clear hr hc;obtain ⟨cl, nx, bids, asks, owed⟩ := L;obtain ⟨b1, b2, b3, b4, b5, b6⟩ := hB;simp only at *;have hb := side_suf (ny := nx + 1) (by omega) (Suf.all bids) b2;have hak := side_suf (ny := nx + 1) (by omega) (Suf.all asks) b3
 rcases hs with rfl | rfl
 ·simp only [sideL, if_true, show ¬ ((2 : Int) = 1) by decide, if_false] at hT hl;have hTs := side_suf (s := 2) (ny := nx + 1) (by omega) hT b3;have hnd : (idsL bids ++ idsL T).Nodup := b4.sublist ((List.Sublist.refl _).append (suf_ids hT));have hcr : cl = true ∨ ∀ x y, bids.head? = some x → T.head? = some y → x.price < y.price := by
   rcases b5 with h | h
   ·exact .inl h
   ·refine .inr (fun x y hx hy => ?_);obtain ⟨t, htt, hw⟩ := suf_head (.inr rfl) hT (side_acc b3).2.2 y hy;have := h x t hx htt;unfold worse at hw
    simp at hw
    omega
  unfold plR plL at ho ⊢;simp only [if_true] at ho ⊢
  by_cases h0 : 0 < left
  ·rw [if_pos h0] at ho ⊢;cases now
   ·simp only [Bool.false_eq_true, if_false] at ho ⊢;refine ⟨by simp only; omega, side_laid b2 hl ha hp (by omega) (by omega), hTs, nodup_laid (f := OrdV.id) hnd (fun y hy => ?_) (suf_nx b3 hT), ?_, owok_owed hO ho⟩
    ·have := (side_acc b2).2.1 y hy
     simp only
     omega
    ·cases hcl : cl
     ·refine .inr (fun x y hx hy => ?_);have hm := hM hcl h0 y hy
      rcases laid_head hx with rfl | hx
      ·unfold meetB at hm
       simp at hm
       exact hm
      ·exact (hcr.resolve_left (by simp [hcl])) x y hx hy
     ·exact .inl rfl
   ·simp only [if_true] at ho ⊢;refine ⟨by simp only; omega, hb, hTs, hnd, hcr, owok_owed (owok_owe hO ha (by unfold brA; simp) ?_) ho⟩
    unfold brN;simp only [if_true];exact mul_pos1 hp.1 (by omega)
  ·rw [if_neg h0] at ho ⊢
   exact ⟨by simp only; omega, hb, hTs, hnd, hcr, owok_owed hO ho⟩
 ·simp only [sideL, if_true, show ¬ ((2 : Int) = 1) by decide, if_false] at hT hl;have hTs := side_suf (s := 1) (ny := nx + 1) (by omega) hT b2;have hnd : (idsL T ++ idsL asks).Nodup := b4.sublist ((suf_ids hT).append (List.Sublist.refl _));have hcr : cl = true ∨ ∀ x y, T.head? = some x → asks.head? = some y → x.price < y.price := by
   rcases b5 with h | h
   ·exact .inl h
   ·refine .inr (fun x y hx hy => ?_);obtain ⟨t, htt, hw⟩ := suf_head (.inl rfl) hT (side_acc b2).2.2 x hx;have := h t y htt hy;unfold worse at hw
    simp at hw
    omega
  unfold plR plL at ho ⊢;simp only [show ¬ ((2 : Int) = 1) by decide, if_false] at ho ⊢
  by_cases h0 : 0 < left
  ·rw [if_pos h0] at ho ⊢;cases now
   ·simp only [Bool.false_eq_true, if_false] at ho ⊢;refine ⟨by simp only; omega, hTs, side_laid b3 hl ha hp (by omega) (by omega), ?_, ?_, owok_owed hO ho⟩
    ·refine List.perm_append_comm.nodup_iff.1 (nodup_laid (f := OrdV.id) (List.perm_append_comm.nodup_iff.1 hnd) (fun y hy => ?_) (suf_nx b2 hT));have := (side_acc b3).2.1 y hy
     simp only
     omega
    ·cases hcl : cl
     ·refine .inr (fun x y hx hy => ?_);have hm := hM hcl h0 x hx
      rcases laid_head hy with rfl | hy
      ·unfold meetB at hm
       simp at hm
       exact hm
      ·exact (hcr.resolve_left (by simp [hcl])) x y hx hy
     ·exact .inl rfl
   ·simp only [if_true] at ho ⊢;refine ⟨by simp only; omega, hTs, hak, hnd, hcr, owok_owed (owok_owe hO ha (by unfold brA; simp) ?_) ho⟩
    unfold brN
    simp
    omega
  ·rw [if_neg h0] at ho ⊢
   exact ⟨by simp only; omega, hTs, hak, hnd, hcr, owok_owed hO ho⟩
theorem placeL_may {L : LaneV} {acc s price n : Int} {now : Bool} (h : (placeL L acc s price n now).2.2.2 = 0) : chkB (placeL L acc s price n now).1 = true := by
 unfold placeL at h ⊢
 by_cases hr : refE L acc s price n now ≠ 0
 ·rw [if_pos hr] at h;exact absurd h hr
 ·rw [if_neg hr] at h ⊢;unfold plX at h ⊢;cases ho : overB (plR (plL L s (plT L s ⟨L.next, acc, price, n⟩).1 (plT L s ⟨L.next, acc, price, n⟩).2.2.1) s ⟨L.next, acc, price, (plT L s ⟨L.next, acc, price, n⟩).2.1⟩ now).owed
  ·simp only [Bool.false_eq_true, if_false];exact (chk_bok _).2 (place_may (by simpa using hr) ho)
  ·rw [ho] at h
   simp at h
def outP (acc id : Int) (o : OrdV) : Bool := decide (o.id = id) && decide (o.acc = acc)
def canF (L : LaneV) (acc id : Int) : Option (LaneV × OrdV) := match L.bids.findIdx? (outP acc id) with
 | some i => some (⟨L.call, L.next, L.bids.eraseIdx i, L.asks, oweL (L.bids.getD i ⟨0, 0, 0, 0⟩).acc 0 (brN 1 (L.bids.getD i ⟨0, 0, 0, 0⟩)) L.owed⟩, L.bids.getD i ⟨0, 0, 0, 0⟩)
 | none => match L.asks.findIdx? (outP acc id) with
  | some i => some (⟨L.call, L.next, L.bids, L.asks.eraseIdx i, oweL (L.asks.getD i ⟨0, 0, 0, 0⟩).acc 1 (brN 2 (L.asks.getD i ⟨0, 0, 0, 0⟩)) L.owed⟩, L.asks.getD i ⟨0, 0, 0, 0⟩)
  | none => none
def sumA (a : Int) (l : List OweV) : Int := (l.map (fun y => if y.asset = a then y.n else 0)).sum
def sumP (l : List OrdV) : Int := (l.map (fun o => o.price * o.left)).sum
def sumQ (l : List OrdV) : Int := (l.map (fun o => o.left)).sum
theorem sum_perm {l k : List Int} (h : l.Perm k) : l.sum = k.sum := by
 induction h with
 | nil => rfl
 | cons x _ ih => simp [ih]
 | swap x y l => simp only [List.sum_cons]; omega
 | trans _ _ h1 h2 => exact h1.trans h2
theorem sumA_modify (a n : Int) : ∀ (l : List OweV) (i : Nat) (h : i < l.length), sumA a (l.modify i (fun y => ⟨y.acc, y.asset, y.n + n⟩)) = sumA a l + (if l[i].asset = a then n else 0)
 | [], i, h => absurd h (by simp)
 | y :: l, 0, h => by
  rw [List.modify_zero_cons];simp only [sumA, List.map_cons, List.sum_cons, List.getElem_cons_zero]
  split <;> omega
 | y :: l, i + 1, h => by
  rw [List.modify_succ_cons];have ih := sumA_modify a n l i (by simpa using h);simp only [sumA, List.map_cons, List.sum_cons, List.getElem_cons_succ] at ih ⊢;omega
theorem sumA_owe (a acc asset n : Int) (l : List OweV) : sumA a (oweL acc asset n l) = sumA a l + (if asset = a then n else 0) := by
 unfold oweL
 split
 ·rename_i i hi
  rw [List.findIdx?_eq_some_iff_getElem] at hi;obtain ⟨h1, h2, _⟩ := hi;rw [sumA_modify a n l i h1];unfold oweP at h2;simp only [Bool.and_eq_true, decide_eq_true_eq] at h2;rw [h2.2]
 ·have := sum_perm ((laid_perm (r := owB) (x := (⟨acc, asset, n⟩ : OweV)) (l := l)).map (fun y => if y.asset = a then y.n else 0));unfold sumA;rw [this];simp only [List.map_cons, List.sum_cons];omega
theorem sumP_laid (s : Int) (x : OrdV) (l : List OrdV) : sumP (laidL (ahB s) x l) = sumP l + x.price * x.left := by
 have := sum_perm ((laid_perm (r := ahB s) (x := x) (l := l)).map (fun o => o.price * o.left));unfold sumP;rw [this];simp only [List.map_cons, List.sum_cons];omega
theorem sumQ_laid (s : Int) (x : OrdV) (l : List OrdV) : sumQ (laidL (ahB s) x l) = sumQ l + x.left := by
 have := sum_perm ((laid_perm (r := ahB s) (x := x) (l := l)).map (fun o => o.left));unfold sumQ;rw [this];simp only [List.map_cons, List.sum_cons];omega
theorem set_buy (x r : OrdV) (n : Int) (l : List OweV) (h : r.price ≤ x.price) : sumA 0 (setO 1 x r n l) = sumA 0 l + x.price * n ∧ sumA 1 (setO 1 x r n l) = sumA 1 l + n := by
 have hB : setB 1 x r = x := rfl;have hS : setS 1 x r = r := rfl;unfold setO;rw [hB, hS]
 simp only
 split
 ·rw [sumA_owe, sumA_owe, sumA_owe, sumA_owe, sumA_owe, sumA_owe];simp only [Int.sub_mul]
  constructor <;> (try simp) <;> omega
 ·have : r.price = x.price := by omega
  rw [sumA_owe, sumA_owe, sumA_owe, sumA_owe, this]
  constructor <;> simp
theorem set_sell (x r : OrdV) (n : Int) (l : List OweV) : sumA 0 (setO 2 x r n l) = sumA 0 l + r.price * n ∧ sumA 1 (setO 2 x r n l) = sumA 1 l + n := by
 have hB : setB 2 x r = r := rfl;have hS : setS 2 x r = x := rfl;unfold setO;rw [hB, hS]
 simp only
 rw [if_neg (by omega), sumA_owe, sumA_owe, sumA_owe, sumA_owe]
 constructor <;> simp
theorem tr_buy (x : OrdV) : ∀ (T : List OrdV) (left : Int) (ow : List OweV) (F : List FillV), sumA 0 (trL 1 x T left ow F).2.2.1 + x.price * (trL 1 x T left ow F).2.1 = sumA 0 ow + x.price * left ∧ sumQ (trL 1 x T left ow F).1 + sumA 1 (trL 1 x T left ow F).2.2.1 = sumQ T + sumA 1 ow
 | [], left, ow, F => ⟨rfl, rfl⟩
 | r :: rs, left, ow, F => by
  unfold trL
  by_cases hm : 0 < left ∧ meetB 1 x.price r.price = true
  ·rw [if_pos hm];have hp : r.price ≤ x.price := by simpa [meetB] using hm.2
   have hs := set_buy x r (min left r.left) ow hp
   by_cases h0 : r.left - min left r.left = 0
   ·rw [if_pos h0];have ih := tr_buy x rs (left - min left r.left) (setO 1 x r (min left r.left) ow) (F ++ [setF 1 x r (min left r.left)]);rw [hs.1, hs.2, Int.mul_sub] at ih;refine ⟨by omega, ?_⟩;simp only [sumQ, List.map_cons, List.sum_cons] at ih ⊢;omega
   ·rw [if_neg h0]
    simp only
    rw [hs.1, hs.2, Int.mul_sub];refine ⟨by omega, ?_⟩;simp only [sumQ, List.map_cons, List.sum_cons];omega
  ·rw [if_neg hm]
   exact ⟨rfl, rfl⟩
theorem tr_sell (x : OrdV) : ∀ (T : List OrdV) (left : Int) (ow : List OweV) (F : List FillV), sumP (trL 2 x T left ow F).1 + sumA 0 (trL 2 x T left ow F).2.2.1 = sumP T + sumA 0 ow ∧ (trL 2 x T left ow F).2.1 + sumA 1 (trL 2 x T left ow F).2.2.1 = left + sumA 1 ow
 | [], left, ow, F => ⟨rfl, rfl⟩
 | r :: rs, left, ow, F => by
  unfold trL
  by_cases hm : 0 < left ∧ meetB 2 x.price r.price = true
  ·rw [if_pos hm];have hs := set_sell x r (min left r.left) ow
   by_cases h0 : r.left - min left r.left = 0
   ·rw [if_pos h0];have ih := tr_sell x rs (left - min left r.left) (setO 2 x r (min left r.left) ow) (F ++ [setF 2 x r (min left r.left)]);rw [hs.1, hs.2] at ih;have e : r.left = min left r.left := by omega
    refine ⟨?_, by omega⟩;have e2 : r.price * r.left = r.price * min left r.left := by rw [← e]
    simp only [sumP, List.map_cons, List.sum_cons] at ih ⊢;omega
   ·rw [if_neg h0]
    simp only
    rw [hs.1, hs.2];refine ⟨?_, by omega⟩;simp only [sumP, List.map_cons, List.sum_cons, Int.mul_sub];omega
  ·rw [if_neg hm]
   exact ⟨rfl, rfl⟩
def holM (L : LaneV) : Int := sumP L.bids + sumA 0 L.owed
def holG (L : LaneV) : Int := sumQ L.asks + sumA 1 L.owed
theorem hold_place (L : LaneV) (s acc price n : Int) (now : Bool) (hs : s = 1 ∨ s = 2) (hl : 0 ≤ (plT L s ⟨L.next, acc, price, n⟩).2.1) :
  let M := plR (plL L s (plT L s ⟨L.next, acc, price, n⟩).1 (plT L s ⟨L.next, acc, price, n⟩).2.2.1) s ⟨L.next, acc, price, (plT L s ⟨L.next, acc, price, n⟩).2.1⟩ now
  holM M = holM L + (if s = 1 then price * n else 0) ∧ holG M = holG L + (if s = 1 then 0 else n) := by
 intro M;have hT : (s = 1 → sumA 0 (plT L s ⟨L.next, acc, price, n⟩).2.2.1 + price * (plT L s ⟨L.next, acc, price, n⟩).2.1 = sumA 0 L.owed + price * n ∧ sumQ (plT L s ⟨L.next, acc, price, n⟩).1 + sumA 1 (plT L s ⟨L.next, acc, price, n⟩).2.2.1 = sumQ L.asks + sumA 1 L.owed) ∧ (s = 2 → sumP (plT L s ⟨L.next, acc, price, n⟩).1 + sumA 0 (plT L s ⟨L.next, acc, price, n⟩).2.2.1 = sumP L.bids + sumA 0 L.owed ∧ (plT L s ⟨L.next, acc, price, n⟩).2.1 + sumA 1 (plT L s ⟨L.next, acc, price, n⟩).2.2.1 = n + sumA 1 L.owed) := by
  constructor
  ·rintro rfl;unfold plT;cases L.call
   ·exact tr_buy ⟨L.next, acc, price, n⟩ L.asks n L.owed []
   ·exact ⟨rfl, rfl⟩
  ·rintro rfl;unfold plT;cases L.call
   ·exact tr_sell ⟨L.next, acc, price, n⟩ L.bids n L.owed []
   ·exact ⟨rfl, rfl⟩
 show holM M = _ ∧ holG M = _
 have hM : M = plR (plL L s (plT L s ⟨L.next, acc, price, n⟩).1 (plT L s ⟨L.next, acc, price, n⟩).2.2.1) s ⟨L.next, acc, price, (plT L s ⟨L.next, acc, price, n⟩).2.1⟩ now := rfl;rw [hM];clear hM
 clear_value M
 generalize plT L s ⟨L.next, acc, price, n⟩ = X at *;obtain ⟨T, left, ow, F⟩ := X;dsimp only at *
 rcases hs with rfl | rfl
 ·have h := hT.1 rfl;simp only [plL, plR, holM, holG, if_true]
  by_cases h0 : 0 < left
  ·rw [if_pos h0];cases now
   ·simp only [Bool.false_eq_true, if_false, sumP_laid];omega
   ·simp only [if_true, brA, brN, sumA_owe]
    constructor <;> (try simp) <;> omega
  ·rw [if_neg h0];have : left = 0 := by omega
   subst this;simp only [Int.mul_zero] at h
   simp only
   omega
 ·have h := hT.2 rfl;simp only [plL, plR, holM, holG, show ¬ (2 : Int) = 1 by omega, if_false]
  by_cases h0 : 0 < left
  ·rw [if_pos h0];cases now
   ·simp only [Bool.false_eq_true, if_false, sumQ_laid];omega
   ·simp only [if_true, brA, brN, sumA_owe]
    constructor <;> (try simp) <;> omega
  ·rw [if_neg h0];have : left = 0 := by omega
   subst this
   simp only
   omega
theorem sumP_erase : ∀ (l : List OrdV) (i : Nat) (h : i < l.length), sumP (l.eraseIdx i) + l[i].price * l[i].left = sumP l
 | [], i, h => absurd h (by simp)
 | o :: l, 0, h => by
  simp only [sumP, List.eraseIdx_cons_zero, List.map_cons, List.sum_cons, List.getElem_cons_zero];omega
 | o :: l, i + 1, h => by
  have ih := sumP_erase l i (by simpa using h);simp only [sumP, List.eraseIdx_cons_succ, List.map_cons, List.sum_cons, List.getElem_cons_succ] at ih ⊢;omega
theorem sumQ_erase : ∀ (l : List OrdV) (i : Nat) (h : i < l.length), sumQ (l.eraseIdx i) + l[i].left = sumQ l
 | [], i, h => absurd h (by simp)
 | o :: l, 0, h => by
  simp only [sumQ, List.eraseIdx_cons_zero, List.map_cons, List.sum_cons, List.getElem_cons_zero];omega
 | o :: l, i + 1, h => by
  have ih := sumQ_erase l i (by simpa using h);simp only [sumQ, List.eraseIdx_cons_succ, List.map_cons, List.sum_cons, List.getElem_cons_succ] at ih ⊢;omega
theorem hold_can {L M : LaneV} {acc id : Int} {o : OrdV} (h : canF L acc id = some (M, o)) : holM M = holM L ∧ holG M = holG L := by
 unfold canF at h
 split at h
 ·rename_i i hi
  rw [List.findIdx?_eq_some_iff_getElem] at hi;obtain ⟨h1, _, _⟩ := hi;simp only [Option.some.injEq, Prod.mk.injEq] at h;obtain ⟨rfl, rfl⟩ := h;have e : L.bids.getD i ⟨0, 0, 0, 0⟩ = L.bids[i] := by simp [List.getD_eq_getElem?_getD, List.getElem?_eq_getElem h1]
  have := sumP_erase L.bids i h1;simp only [holM, holG, sumA_owe, e, brN]
  constructor <;> (try simp) <;> omega
 ·split at h
  ·rename_i i hi
   rw [List.findIdx?_eq_some_iff_getElem] at hi;obtain ⟨h1, _, _⟩ := hi;simp only [Option.some.injEq, Prod.mk.injEq] at h;obtain ⟨rfl, rfl⟩ := h;have e : L.asks.getD i ⟨0, 0, 0, 0⟩ = L.asks[i] := by simp [List.getD_eq_getElem?_getD, List.getElem?_eq_getElem h1]
   have := sumQ_erase L.asks i h1;simp only [holM, holG, sumA_owe, e, brN]
   constructor <;> (try simp) <;> omega
  ·cases h
theorem tr_pre (s : Int) (x : OrdV) : ∀ (T : List OrdV) (left : Int) (ow : List OweV) (F : List FillV), ∃ G, (trL s x T left ow F).2.2.2 = F ++ G
 | [], left, ow, F => ⟨[], by simp [trL]⟩
 | r :: rs, left, ow, F => by
  unfold trL
  split
  ·split
   ·obtain ⟨G, hG⟩ := tr_pre s x rs (left - min left r.left) (setO s x r (min left r.left) ow) (F ++ [setF s x r (min left r.left)])
    exact ⟨setF s x r (min left r.left) :: G, by rw [hG]; simp⟩
   ·exact ⟨_, rfl⟩
  ·exact ⟨[], by simp⟩
theorem tr_quiet {s : Int} {x : OrdV} {T : List OrdV} {left : Int} {ow : List OweV} (h : (trL s x T left ow []).2.2.2 = []) : trL s x T left ow [] = (T, left, ow, []) := by
 cases T with
 | nil => rfl
 | cons r rs =>
  unfold trL at h ⊢
  split
  ·rename_i hm
   rw [if_pos hm] at h
   split at h
   ·obtain ⟨G, hG⟩ := tr_pre s x rs (left - min left r.left) (setO s x r (min left r.left) ow) ([] ++ [setF s x r (min left r.left)]);rw [hG] at h
    simp at h
   ·simp at h
  ·rfl
theorem ah_trans {s : Int} (hs : s = 1 ∨ s = 2) {a b c : OrdV} (h : ahB s a b = true) (k : ahB s b c = true) : ahB s a c = true := by
 unfold ahB at *
 rcases hs with rfl | rfl
 ·by_cases h1 : a.price = b.price
  ·rw [if_pos h1] at h
   by_cases h2 : b.price = c.price
   ·rw [if_pos h2] at k;rw [if_pos (h1.trans h2)];simp only [decide_eq_true_eq] at *;omega
   ·rw [if_neg h2] at k;rw [if_neg (by omega)]
    simp at k ⊢
    omega
  ·rw [if_neg h1] at h
   by_cases h2 : b.price = c.price
   ·rw [if_neg (by omega)]
    simp at h ⊢
    omega
   ·rw [if_neg h2] at k
    simp at h k
    rw [if_neg (by omega)]
    simp
    omega
 ·by_cases h1 : a.price = b.price
  ·rw [if_pos h1] at h
   by_cases h2 : b.price = c.price
   ·rw [if_pos h2] at k;rw [if_pos (h1.trans h2)];simp only [decide_eq_true_eq] at *;omega
   ·rw [if_neg h2] at k;rw [if_neg (by omega)]
    simp at k ⊢
    omega
  ·rw [if_neg h1] at h
   by_cases h2 : b.price = c.price
   ·rw [if_neg (by omega)]
    simp at h ⊢
    omega
   ·rw [if_neg h2] at k
    simp at h k
    rw [if_neg (by omega)]
    simp
    omega
end Go.Proofs.YtiinigifjdpicaaGreatDoor
