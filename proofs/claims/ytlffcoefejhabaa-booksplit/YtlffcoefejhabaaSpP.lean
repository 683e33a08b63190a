/- An order in two parts: plain data. -/
import Derived.Test.YtlffcoefejhabaaHdP
import Derived.Test.YtlffcoefejhabaaSrv
namespace Go.Proofs.Ytlffcoefejhabaa
open Go.RowKit
set_option linter.all false
/-- What is owed, as what each key has. -/
abbrev OKey := Int × Int
def upd (k : OKey) (n : Int) (f : OKey → Option Int) : OKey → Option Int := fun j => if j = k then some ((f j).getD 0 + n) else f j
theorem upd_two (k : OKey) (m n : Int) (f : OKey → Option Int) : upd k n (upd k m f) = upd k (m + n) f := by
  funext j
  unfold upd
  by_cases h : j = k
  · simp [h, Int.add_assoc]
  · simp [h]
theorem upd_comm (k i : OKey) (m n : Int) (f : OKey → Option Int) : upd k n (upd i m f) = upd i m (upd k n f) := by
  funext j
  unfold upd
  by_cases h : j = k
  · by_cases h2 : j = i
    · subst h
      subst h2
      simp
      omega
    · simp [h, h2]
      subst h
      simp [h2]
  · by_cases h2 : j = i
    · subst h2
      simp [h]
    · simp [h, h2]
def lookO (l : List OweV) : OKey → Option Int := fun k => (l.find? (oweP k.1 k.2)).map (·.n)
theorem look_cons (y : OweV) (l : List OweV) (k : OKey) : lookO (y :: l) k = if (y.acc, y.asset) = k then some y.n else lookO l k := by
  unfold lookO
  rw [List.find?_cons]
  by_cases h : (y.acc, y.asset) = k
  · subst h
    simp [oweP]
  · have : oweP k.1 k.2 y = false := by
      cases hq : oweP k.1 k.2 y
      · rfl
      · simp only [oweP, Bool.and_eq_true, decide_eq_true_eq] at hq
        exact absurd (Prod.ext hq.1 hq.2) h
    rw [this, if_neg h]
theorem look_mod (acc asset n : Int) : ∀ (l : List OweV) (i : Nat), l.findIdx? (oweP acc asset) = some i → lookO (l.modify i (fun y => ⟨y.acc, y.asset, y.n + n⟩)) = upd (acc, asset) n (lookO l)
  | [], i, h => by simp at h
  | y :: l, i, h => by
    rw [List.findIdx?_cons] at h
    split at h
    · rename_i hy
      simp only [Option.some.injEq] at h
      subst h
      rw [List.modify_zero_cons]
      simp only [oweP, Bool.and_eq_true, decide_eq_true_eq] at hy
      funext k
      unfold upd
      rw [look_cons, look_cons]
      simp only [hy.1, hy.2]
      by_cases hk : k = (acc, asset)
      · subst hk
        simp
      · rw [if_neg (fun e => hk e.symm), if_neg hk, if_neg (fun e => hk e.symm)]
    · rename_i hy
      cases hq : l.findIdx? (oweP acc asset) with
      | none => rw [hq] at h; simp at h
      | some j =>
        rw [hq] at h
        simp only [Option.map_some, Option.some.injEq] at h
        subst h
        have ih := look_mod acc asset n l j hq
        rw [List.modify_succ_cons]
        have hne : ¬ (y.acc, y.asset) = (acc, asset) := fun e => hy (by simp only [Prod.mk.injEq] at e; simp [oweP, e])
        funext k
        rw [look_cons, congrFun ih k]
        unfold upd
        rw [look_cons]
        by_cases hk : k = (acc, asset)
        · subst hk
          rw [if_neg hne, if_pos rfl, if_pos rfl, if_neg hne]
        · rw [if_neg hk, if_neg hk]
theorem look_laid (x : OweV) (k : OKey) : ∀ (l : List OweV), (∀ y ∈ l, (y.acc, y.asset) ≠ (x.acc, x.asset)) → lookO (laidL owB x l) k = if (x.acc, x.asset) = k then some x.n else lookO l k
  | [], _ => look_cons x [] k
  | y :: l, h => by
    unfold laidL
    rw [List.takeWhile_cons, List.dropWhile_cons]
    cases hy : owB y x
    · simp only [Bool.false_eq_true, if_false, List.nil_append]
      rw [look_cons]
    · have ih := look_laid x k l (fun z hz => h z (by simp [hz]))
      unfold laidL at ih
      simp only [if_true, List.cons_append]
      rw [look_cons, ih, look_cons]
      by_cases h1 : (y.acc, y.asset) = k
      · rw [if_pos h1, if_pos h1, if_neg (fun e => h y (by simp) (h1.trans e.symm))]
      · rw [if_neg h1, if_neg h1]
theorem look_owe (acc asset n : Int) (l : List OweV) : lookO (oweL acc asset n l) = upd (acc, asset) n (lookO l) := by
  unfold oweL
  split
  · rename_i i hi
    exact look_mod acc asset n l i hi
  · rename_i hn
    rw [List.findIdx?_eq_none_iff] at hn
    have hne : ∀ y ∈ l, (y.acc, y.asset) ≠ (acc, asset) := fun y hy e => by
      have := hn y hy
      simp only [Prod.mk.injEq] at e
      simp [oweP, e] at this
    funext k
    rw [look_laid ⟨acc, asset, n⟩ k l hne]
    unfold upd
    by_cases hk : (acc, asset) = k
    · subst hk
      have : lookO l (acc, asset) = none := by
        unfold lookO
        rw [List.find?_eq_none.2 (fun y hy => by simpa using hn y hy)]
        rfl
      simp [this]
    · rw [if_neg hk, if_neg (fun e => hk e.symm)]
theorem ow_pair : ∀ {l : List OweV}, srtB owB l = true → l.Pairwise (fun a b => owB a b = true)
  | [], _ => List.Pairwise.nil
  | [x], _ => by simp
  | x :: y :: l, h => by
    have ih := ow_pair (srt_tail h)
    have h1 := srt_head h
    refine List.pairwise_cons.2 ⟨fun z hz => ?_, ih⟩
    rcases List.mem_cons.1 hz with rfl | hz
    · exact h1
    · have h2 := (List.pairwise_cons.1 ih).1 z hz
      unfold owB at *
      simp only [Bool.or_eq_true, Bool.and_eq_true, decide_eq_true_eq] at *
      omega
theorem look_none {l : List OweV} {y : OweV} (h : ∀ x ∈ l, owB y x = true) : lookO l (y.acc, y.asset) = none := by
  unfold lookO
  rw [List.find?_eq_none.2 (fun x hx e => ?_)]
  · rfl
  · have := h x hx
    unfold owB at this
    unfold oweP at e
    simp only [Bool.or_eq_true, Bool.and_eq_true, decide_eq_true_eq] at *
    omega
theorem look_ext : ∀ {l m : List OweV}, srtB owB l = true → srtB owB m = true → lookO l = lookO m → l = m
  | [], [], _, _, _ => rfl
  | [], q :: r, _, _, h => by
    have := congrFun h (q.acc, q.asset)
    rw [look_cons, if_pos rfl] at this
    cases this
  | q :: r, [], _, _, h => by
    have := congrFun h (q.acc, q.asset)
    rw [look_cons, if_pos rfl] at this
    cases this
  | q :: r, s :: t, hl, hm, h => by
    have pl := List.pairwise_cons.1 (ow_pair hl)
    have pm := List.pairwise_cons.1 (ow_pair hm)
    have far : ∀ {a b : OweV} {c d : List OweV}, (b :: d).Pairwise (fun a b => owB a b = true) → lookO (a :: c) = lookO (b :: d) → owB a b = false := by
      intro a b c d h2 hf
      cases hx : owB a b
      · rfl
      · have e := congrFun hf (a.acc, a.asset)
        rw [look_cons, if_pos rfl, look_none (l := b :: d) (y := a) (fun x hx' => ?_)] at e
        · cases e
        · rcases List.mem_cons.1 hx' with rfl | hx'
          · exact hx
          · have := (List.pairwise_cons.1 h2).1 x hx'
            unfold owB at *
            simp only [Bool.or_eq_true, Bool.and_eq_true, decide_eq_true_eq] at *
            omega
    have f1 := far (ow_pair hm) h
    have f2 := far (ow_pair hl) h.symm
    have hk : q.acc = s.acc ∧ q.asset = s.asset := by
      unfold owB at f1 f2
      simp only [Bool.or_eq_false_iff, Bool.and_eq_false_iff, decide_eq_false_iff_not] at f1 f2
      omega
    have hn : q.n = s.n := by
      have := congrFun h (q.acc, q.asset)
      rw [look_cons, if_pos rfl, look_cons, if_pos (by rw [hk.1, hk.2])] at this
      exact Option.some.inj this
    have hqs : q = s := by
      obtain ⟨a, b, c⟩ := q
      obtain ⟨d, e, f⟩ := s
      simp only at hk hn
      rw [hk.1, hk.2, hn]
    subst hqs
    congr 1
    refine look_ext (srt_tail hl) (srt_tail hm) (funext fun k => ?_)
    by_cases e : (q.acc, q.asset) = k
    · subst e
      rw [look_none pl.1, look_none pm.1]
    · have := congrFun h k
      rw [look_cons, if_neg e, look_cons, if_neg e] at this
      exact this
/-- A trade, as what each key has. -/
def setU (s : Int) (o r : OrdV) (n : Int) (f : OKey → Option Int) : OKey → Option Int :=
  let f2 := upd ((setS s o r).acc, 0) (r.price * n) (upd ((setB s o r).acc, 1) n f)
  if r.price < (setB s o r).price then upd ((setB s o r).acc, 0) (((setB s o r).price - r.price) * n) f2 else f2
theorem look_set (s : Int) (o r : OrdV) (n : Int) (l : List OweV) : lookO (setO s o r n l) = setU s o r n (lookO l) := by
  unfold setO setU
  simp only
  split
  · rw [look_owe, look_owe, look_owe]
  · rw [look_owe, look_owe]
theorem setU_two (s : Int) (o r q : OrdV) (m n : Int) (f : OKey → Option Int) (hp : q.price = r.price) (ha : q.acc = r.acc) : setU s o q n (setU s o r m f) = setU s o r (m + n) f := by
  have hB : (setB s o q).acc = (setB s o r).acc ∧ (setB s o q).price = (setB s o r).price := by unfold setB; split <;> simp [ha, hp]
  have hS : (setS s o q).acc = (setS s o r).acc := by unfold setS; split <;> simp [ha]
  unfold setU
  simp only
  rw [hB.1, hB.2, hS, hp]
  generalize ((setS s o r).acc, (0 : Int)) = k2
  generalize ((setB s o r).acc, (1 : Int)) = k1
  generalize ((setB s o r).acc, (0 : Int)) = k3
  split
  · rw [upd_comm k1 k3, upd_comm k2 k3, upd_two, upd_comm k1 k2, upd_two, upd_two, Int.mul_add, Int.mul_add]
  · rw [upd_comm k1 k2, upd_two, upd_two, Int.mul_add]
/-- Traded, as what each key has. -/
def trF (s : Int) (x : OrdV) : List OrdV → Int → (OKey → Option Int) → List OrdV × Int × (OKey → Option Int)
  | [], left, f => ([], left, f)
  | r :: rs, left, f =>
    if 0 < left ∧ meetB s x.price r.price = true then
      if r.left - min left r.left = 0 then trF s x rs (left - min left r.left) (setU s x r (min left r.left) f)
      else (⟨r.id, r.acc, r.price, r.left - min left r.left⟩ :: rs, left - min left r.left, setU s x r (min left r.left) f)
    else (r :: rs, left, f)
theorem trF_is (s : Int) (x : OrdV) : ∀ (T : List OrdV) (left : Int) (ow : List OweV) (F : List FillV), trF s x T left (lookO ow) = ((trL s x T left ow F).1, (trL s x T left ow F).2.1, lookO (trL s x T left ow F).2.2.1)
  | [], left, ow, F => rfl
  | r :: rs, left, ow, F => by
    unfold trF trL
    split
    · split
      · rw [← look_set, trF_is s x rs _ _ (F ++ [setF s x r (min left r.left)])]
      · rw [look_set]
    · rfl
theorem trF_x (s : Int) (x y : OrdV) (h1 : x.acc = y.acc) (h2 : x.price = y.price) : ∀ (T : List OrdV) (left : Int) (f : OKey → Option Int), trF s x T left f = trF s y T left f
  | [], left, f => rfl
  | r :: rs, left, f => by
    have hs : ∀ n g, setU s x r n g = setU s y r n g := fun n g => by
      have hB : (setB s x r).acc = (setB s y r).acc ∧ (setB s x r).price = (setB s y r).price := by unfold setB; split <;> simp [h1, h2]
      have hS : (setS s x r).acc = (setS s y r).acc := by unfold setS; split <;> simp [h1]
      unfold setU
      simp only
      rw [hB.1, hB.2, hS]
    unfold trF
    rw [h2, hs]
    split
    · split
      · exact trF_x s x y h1 h2 rs _ _
      · rfl
    · rfl
theorem trF_stop {s : Int} {x : OrdV} {T : List OrdV} {left : Int} {f : OKey → Option Int} (h : ¬ 0 < left) : trF s x T left f = (T, left, f) := by
  cases T with
  | nil => rfl
  | cons r rs => unfold trF; rw [if_neg (fun hc => h hc.1)]
theorem trF_nil (s : Int) (x : OrdV) (left : Int) (f : OKey → Option Int) : trF s x [] left f = ([], left, f) := rfl
theorem trF_cons (s : Int) (x r : OrdV) (rs : List OrdV) (left : Int) (f : OKey → Option Int) : trF s x (r :: rs) left f = if 0 < left ∧ meetB s x.price r.price = true then
      if r.left - min left r.left = 0 then trF s x rs (left - min left r.left) (setU s x r (min left r.left) f)
      else (⟨r.id, r.acc, r.price, r.left - min left r.left⟩ :: rs, left - min left r.left, setU s x r (min left r.left) f)
    else (r :: rs, left, f) := rfl
/-- In two parts as at once. -/
theorem trF_two (s : Int) (x : OrdV) : ∀ (T : List OrdV) (a b : Int) (f : OKey → Option Int), OkT T → 0 ≤ a → 0 ≤ b →
    (0 < (trF s x T a f).2.1 → trF s x (trF s x T a f).1 b (trF s x T a f).2.2 = ((trF s x T a f).1, b, (trF s x T a f).2.2) ∧ trF s x T (a + b) f = ((trF s x T a f).1, (trF s x T a f).2.1 + b, (trF s x T a f).2.2)) ∧
    (¬ 0 < (trF s x T a f).2.1 → (trF s x T a f).2.1 = 0 ∧ trF s x (trF s x T a f).1 b (trF s x T a f).2.2 = trF s x T (a + b) f)
  | [], a, b, f, _, ha, hb => by
    rw [trF_nil, trF_nil]
    refine ⟨fun _ => ⟨rfl, rfl⟩, fun h => ?_⟩
    have : a = 0 := by
      simp only at h
      omega
    subst this
    exact ⟨rfl, by rw [Int.zero_add]; rfl⟩
  | r :: rs, a, b, f, ht, ha, hb => by
    have hr := (ht r (by simp)).2
    by_cases ha0 : 0 < a
    · by_cases hm : meetB s x.price r.price = true
      · by_cases h0 : r.left - min a r.left = 0
        · -- r is eaten up by the first part
          have e1 : trF s x (r :: rs) a f = trF s x rs (a - min a r.left) (setU s x r (min a r.left) f) := by
            rw [trF_cons, if_pos ⟨ha0, hm⟩, if_pos h0]
          have e2 : trF s x (r :: rs) (a + b) f = trF s x rs ((a - min a r.left) + b) (setU s x r (min a r.left) f) := by
            have hmin : min (a + b) r.left = min a r.left := by omega
            rw [trF_cons, if_pos ⟨by omega, hm⟩, hmin, if_pos h0]
            congr 1
            omega
          rw [e1, e2]
          exact trF_two s x rs (a - min a r.left) b _ (fun q hq => ht q (by simp [hq])) (by omega) hb
        · -- the first part ends within r
          have hmin : min a r.left = a := by omega
          have e1 : trF s x (r :: rs) a f = (⟨r.id, r.acc, r.price, r.left - a⟩ :: rs, 0, setU s x r a f) := by
            rw [trF_cons, if_pos ⟨ha0, hm⟩, if_neg h0, hmin]
            simp
          rw [e1]
          refine ⟨fun h => absurd h (by simp), fun _ => ⟨rfl, ?_⟩⟩
          dsimp only
          by_cases hb0 : 0 < b
          · rw [trF_cons, if_pos (show 0 < b ∧ meetB s x.price (⟨r.id, r.acc, r.price, r.left - a⟩ : OrdV).price = true from ⟨hb0, hm⟩), trF_cons, if_pos (show 0 < a + b ∧ meetB s x.price r.price = true from ⟨by omega, hm⟩)]
            dsimp only
            have hs : setU s x ⟨r.id, r.acc, r.price, r.left - a⟩ (min b (r.left - a)) (setU s x r a f) = setU s x r (min (a + b) r.left) f := by
              rw [setU_two s x r ⟨r.id, r.acc, r.price, r.left - a⟩ a _ f rfl rfl]
              congr 1
              omega
            rw [hs]
            by_cases h1 : r.left - a - min b (r.left - a) = 0
            · rw [if_pos h1, if_pos (by omega)]
              congr 1
              omega
            · rw [if_neg h1, if_neg (by omega)]
              have x1 : r.left - a - min b (r.left - a) = r.left - min (a + b) r.left := by omega
              have x2 : b - min b (r.left - a) = a + b - min (a + b) r.left := by omega
              rw [x1, x2]
          · have : b = 0 := by omega
            subst this
            rw [trF_stop (by omega), Int.add_zero, e1]
      · -- r does not meet
        have e1 : ∀ c, trF s x (r :: rs) c f = (r :: rs, c, f) := fun c => by
          rw [trF_cons, if_neg (fun h => hm h.2)]
        rw [e1 a, e1 (a + b)]
        refine ⟨fun _ => ⟨?_, rfl⟩, fun h => absurd ha0 h⟩
        dsimp only
        rw [e1]
    · have : a = 0 := by omega
      subst this
      have e1 : trF s x (r :: rs) 0 f = (r :: rs, 0, f) := trF_stop (by omega)
      rw [e1]
      refine ⟨fun h => absurd h (by simp), fun _ => ⟨rfl, ?_⟩⟩
      dsimp only
      rw [Int.zero_add]
theorem sumG_app (l k : List FillV) : sumG (l ++ k) = sumG l + sumG k := by simp [sumG]
theorem sum_tr (s : Int) (x : OrdV) : ∀ (T : List OrdV) (left : Int) (ow : List OweV) (F : List FillV), sumG (trL s x T left ow F).2.2.2 + (trL s x T left ow F).2.1 = sumG F + left
  | [], left, ow, F => rfl
  | r :: rs, left, ow, F => by
    unfold trL
    split
    · split
      · have ih := sum_tr s x rs (left - min left r.left) (setO s x r (min left r.left) ow) (F ++ [setF s x r (min left r.left)])
        rw [ih, sumG_app]
        simp only [sumG, setF, List.map_cons, List.map_nil, List.sum_cons, List.sum_nil]
        omega
      · simp only
        rw [sumG_app]
        simp only [sumG, setF, List.map_cons, List.map_nil, List.sum_cons, List.sum_nil]
        omega
    · rfl
end Go.Proofs.Ytlffcoefejhabaa
