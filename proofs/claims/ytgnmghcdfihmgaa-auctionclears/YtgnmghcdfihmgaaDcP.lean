/- The document's Owe, without, Cancel and Place: plain data. -/
import Derived.Test.YtgnmghcdfihmgaaPlN
import Derived.Test.YtgnmghcdfihmgaaHdP
import Derived.Test.YtgnmghcdfihmgaaRUn
import Derived.Test.YtgnmghcdfihmgaaCan
namespace Go.Proofs.Ytgnmghcdfihmgaa
open Go.RowKit
set_option linter.all false
/-- One row of what is owed is passed. -/
def stpO (acc asset n : Int) (x : List OweV × Bool × Bool) (o : OweV) : List OweV × Bool × Bool :=
  if oweP acc asset o = true then (x.1 ++ [⟨o.acc, o.asset, o.n + n⟩], true, decide (o.n ≤ 9007199254740992 - n))
  else if x.2.1 = false ∧ (acc < o.acc ∨ o.acc = acc ∧ asset < o.asset) then (x.1 ++ [⟨acc, asset, n⟩] ++ [o], true, x.2.2)
  else (x.1 ++ [o], x.2.1, x.2.2)
def okL (acc asset n : Int) (l : List OweV) : Bool := match l.find? (oweP acc asset) with
  | some y => decide (y.n ≤ 9007199254740992 - n)
  | none => true
theorem stp_on (acc asset n : Int) : ∀ (l pre : List OweV) (ok : Bool), (∀ y ∈ l, oweP acc asset y = false) → l.foldl (stpO acc asset n) (pre, true, ok) = (pre ++ l, true, ok)
  | [], pre, ok, _ => by simp
  | o :: l, pre, ok, h => by
    have ho := h o (by simp)
    rw [List.foldl_cons]
    have e : stpO acc asset n (pre, true, ok) o = (pre ++ [o], true, ok) := by
      unfold stpO
      rw [if_neg (by simp [ho]), if_neg (by simp)]
    rw [e, stp_on acc asset n l _ ok (fun y hy => h y (by simp [hy]))]
    simp
theorem ow_lt {a b : OweV} (h : owB a b = true) : a.acc < b.acc ∨ (a.acc = b.acc ∧ a.asset < b.asset) := by
  unfold owB at h
  simpa using h
theorem ow_pair2 : ∀ {l : List OweV}, srtB owB l = true → l.Pairwise (fun a b => owB a b = true)
  | [], _ => List.Pairwise.nil
  | [x], _ => by simp
  | x :: y :: l, h => by
    have ih := ow_pair2 (srt_tail h)
    have h1 := ow_lt (srt_head h)
    refine List.pairwise_cons.2 ⟨fun z hz => ?_, ih⟩
    rcases List.mem_cons.1 hz with rfl | hz
    · exact srt_head h
    · have h2 := ow_lt ((List.pairwise_cons.1 ih).1 z hz)
      unfold owB
      simp
      omega
theorem no_match {acc asset : Int} {l : List OweV} {o : OweV} (hp : ∀ y ∈ l, owB o y = true) (h : acc < o.acc ∨ o.acc = acc ∧ asset ≤ o.asset) : ∀ y ∈ l, oweP acc asset y = false := by
  intro y hy
  have := ow_lt (hp y hy)
  unfold oweP
  simp
  omega
theorem stp_all (acc asset n : Int) : ∀ (l pre : List OweV), srtB owB l = true →
    (if (l.foldl (stpO acc asset n) (pre, false, true)).2.1 = true then (l.foldl (stpO acc asset n) (pre, false, true)).1 else (l.foldl (stpO acc asset n) (pre, false, true)).1 ++ [⟨acc, asset, n⟩]) = pre ++ oweL acc asset n l ∧ (l.foldl (stpO acc asset n) (pre, false, true)).2.2 = okL acc asset n l
  | [], pre, _ => by simp [oweL, laidL, okL]
  | o :: l, pre, h => by
    have hp := (List.pairwise_cons.1 (ow_pair2 h)).1
    rw [List.foldl_cons]
    by_cases hm : oweP acc asset o = true
    · have hm2 : o.acc = acc ∧ o.asset = asset := by simpa [oweP] using hm
      have e : stpO acc asset n (pre, false, true) o = (pre ++ [⟨o.acc, o.asset, o.n + n⟩], true, decide (o.n ≤ 9007199254740992 - n)) := by
        unfold stpO
        rw [if_pos hm]
      rw [e, stp_on acc asset n l _ _ (no_match hp (.inr ⟨hm2.1, by omega⟩))]
      refine ⟨?_, ?_⟩
      · simp only [if_true]
        unfold oweL
        simp [List.findIdx?_cons, hm]
      · unfold okL
        simp [List.find?_cons, hm]
    · have hm1 : oweP acc asset o = false := by simpa using hm
      have hm2 : ¬ (o.acc = acc ∧ o.asset = asset) := by simpa [oweP] using hm
      by_cases hg : acc < o.acc ∨ o.acc = acc ∧ asset < o.asset
      · have e : stpO acc asset n (pre, false, true) o = (pre ++ [⟨acc, asset, n⟩] ++ [o], true, true) := by
          unfold stpO
          rw [if_neg hm, if_pos ⟨rfl, hg⟩]
        have hno := no_match (acc := acc) (asset := asset) hp (by omega)
        rw [e, stp_on acc asset n l _ _ hno]
        have hf : (o :: l).findIdx? (oweP acc asset) = none := by
          rw [List.findIdx?_eq_none_iff]
          intro y hy
          rcases List.mem_cons.1 hy with rfl | hy
          · exact hm1
          · exact hno y hy
        have hf2 : (o :: l).find? (oweP acc asset) = none := by
          rw [List.find?_eq_none]
          intro y hy
          rcases List.mem_cons.1 hy with rfl | hy
          · simp [hm1]
          · simp [hno y hy]
        refine ⟨?_, by unfold okL; rw [hf2]⟩
        simp only [if_true]
        unfold oweL
        rw [hf]
        have hb : owB o ⟨acc, asset, n⟩ = false := by
          unfold owB
          simp
          omega
        simp [laidL, hb]
      · have e : stpO acc asset n (pre, false, true) o = (pre ++ [o], false, true) := by
          unfold stpO
          rw [if_neg hm, if_neg (fun hc => hg hc.2)]
        rw [e]
        obtain ⟨i1, i2⟩ := stp_all acc asset n l (pre ++ [o]) (srt_tail h)
        refine ⟨?_, ?_⟩
        · rw [i1]
          have hb : owB o ⟨acc, asset, n⟩ = true := by
            unfold owB
            simp
            omega
          unfold oweL
          rw [List.findIdx?_cons, hm1]
          cases hf : l.findIdx? (oweP acc asset) with
          | none => simp [laidL, hb]
          | some i => simp
        · rw [i2]
          unfold okL
          rw [List.find?_cons, hm1]
/-- One Owe of the document: nothing is owed more, or so much. -/
def oweD (acc asset n : Int) (l : List OweV) : List OweV × Bool := if n = 0 then (l, true) else (oweL acc asset n l, okL acc asset n l)
/-- What is owed, as what each key has. -/
abbrev OKey := Int × Int
def upd (k : OKey) (n : Int) (f : OKey → Option Int) : OKey → Option Int := fun j => if j = k then some ((f j).getD 0 + n) else f j
theorem upd_two (k : OKey) (m n : Int) (f : OKey → Option Int) : upd k n (upd k m f) = upd k (m + n) f := by
  funext j
  unfold upd
  by_cases h : j = k
  · simp [h, Int.add_assoc]
  · simp [h]
theorem upd_comm (k i : OKey) (m n : Int) (f : OKey → Option Int) : upd k n (upd i m f) = upd i m (upd k n f) := by
  funext j
  unfold upd
  by_cases h : j = k
  · by_cases h2 : j = i
    · subst h
      subst h2
      simp
      omega
    · simp [h, h2]
      subst h
      simp [h2]
  · by_cases h2 : j = i
    · subst h2
      simp [h]
    · simp [h, h2]
def lookO (l : List OweV) : OKey → Option Int := fun k => (l.find? (oweP k.1 k.2)).map (·.n)
theorem look_cons (y : OweV) (l : List OweV) (k : OKey) : lookO (y :: l) k = if (y.acc, y.asset) = k then some y.n else lookO l k := by
  unfold lookO
  rw [List.find?_cons]
  by_cases h : (y.acc, y.asset) = k
  · subst h
    simp [oweP]
  · have : oweP k.1 k.2 y = false := by
      cases hq : oweP k.1 k.2 y
      · rfl
      · simp only [oweP, Bool.and_eq_true, decide_eq_true_eq] at hq
        exact absurd (Prod.ext hq.1 hq.2) h
    rw [this, if_neg h]
theorem look_mod (acc asset n : Int) : ∀ (l : List OweV) (i : Nat), l.findIdx? (oweP acc asset) = some i → lookO (l.modify i (fun y => ⟨y.acc, y.asset, y.n + n⟩)) = upd (acc, asset) n (lookO l)
  | [], i, h => by simp at h
  | y :: l, i, h => by
    rw [List.findIdx?_cons] at h
    split at h
    · rename_i hy
      simp only [Option.some.injEq] at h
      subst h
      rw [List.modify_zero_cons]
      simp only [oweP, Bool.and_eq_true, decide_eq_true_eq] at hy
      funext k
      unfold upd
      rw [look_cons, look_cons]
      simp only [hy.1, hy.2]
      by_cases hk : k = (acc, asset)
      · subst hk
        simp
      · rw [if_neg (fun e => hk e.symm), if_neg hk, if_neg (fun e => hk e.symm)]
    · rename_i hy
      cases hq : l.findIdx? (oweP acc asset) with
      | none => rw [hq] at h; simp at h
      | some j =>
        rw [hq] at h
        simp only [Option.map_some, Option.some.injEq] at h
        subst h
        have ih := look_mod acc asset n l j hq
        rw [List.modify_succ_cons]
        have hne : ¬ (y.acc, y.asset) = (acc, asset) := fun e => hy (by simp only [Prod.mk.injEq] at e; simp [oweP, e])
        funext k
        rw [look_cons, congrFun ih k]
        unfold upd
        rw [look_cons]
        by_cases hk : k = (acc, asset)
        · subst hk
          rw [if_neg hne, if_pos rfl, if_pos rfl, if_neg hne]
        · rw [if_neg hk, if_neg hk]
theorem look_laid (x : OweV) (k : OKey) : ∀ (l : List OweV), (∀ y ∈ l, (y.acc, y.asset) ≠ (x.acc, x.asset)) → lookO (laidL owB x l) k = if (x.acc, x.asset) = k then some x.n else lookO l k
  | [], _ => look_cons x [] k
  | y :: l, h => by
    unfold laidL
    rw [List.takeWhile_cons, List.dropWhile_cons]
    cases hy : owB y x
    · simp only [Bool.false_eq_true, if_false, List.nil_append]
      rw [look_cons]
    · have ih := look_laid x k l (fun z hz => h z (by simp [hz]))
      unfold laidL at ih
      simp only [if_true, List.cons_append]
      rw [look_cons, ih, look_cons]
      by_cases h1 : (y.acc, y.asset) = k
      · rw [if_pos h1, if_pos h1, if_neg (fun e => h y (by simp) (h1.trans e.symm))]
      · rw [if_neg h1, if_neg h1]
theorem look_owe (acc asset n : Int) (l : List OweV) : lookO (oweL acc asset n l) = upd (acc, asset) n (lookO l) := by
  unfold oweL
  split
  · rename_i i hi
    exact look_mod acc asset n l i hi
  · rename_i hn
    rw [List.findIdx?_eq_none_iff] at hn
    have hne : ∀ y ∈ l, (y.acc, y.asset) ≠ (acc, asset) := fun y hy e => by
      have := hn y hy
      simp only [Prod.mk.injEq] at e
      simp [oweP, e] at this
    funext k
    rw [look_laid ⟨acc, asset, n⟩ k l hne]
    unfold upd
    by_cases hk : (acc, asset) = k
    · subst hk
      have : lookO l (acc, asset) = none := by
        unfold lookO
        rw [List.find?_eq_none.2 (fun y hy => by simpa using hn y hy)]
        rfl
      simp [this]
    · rw [if_neg hk, if_neg (fun e => hk e.symm)]
theorem ow_pair : ∀ {l : List OweV}, srtB owB l = true → l.Pairwise (fun a b => owB a b = true)
  | [], _ => List.Pairwise.nil
  | [x], _ => by simp
  | x :: y :: l, h => by
    have ih := ow_pair (srt_tail h)
    have h1 := srt_head h
    refine List.pairwise_cons.2 ⟨fun z hz => ?_, ih⟩
    rcases List.mem_cons.1 hz with rfl | hz
    · exact h1
    · have h2 := (List.pairwise_cons.1 ih).1 z hz
      unfold owB at *
      simp only [Bool.or_eq_true, Bool.and_eq_true, decide_eq_true_eq] at *
      omega
theorem look_none {l : List OweV} {y : OweV} (h : ∀ x ∈ l, owB y x = true) : lookO l (y.acc, y.asset) = none := by
  unfold lookO
  rw [List.find?_eq_none.2 (fun x hx e => ?_)]
  · rfl
  · have := h x hx
    unfold owB at this
    unfold oweP at e
    simp only [Bool.or_eq_true, Bool.and_eq_true, decide_eq_true_eq] at *
    omega
theorem look_ext : ∀ {l m : List OweV}, srtB owB l = true → srtB owB m = true → lookO l = lookO m → l = m
  | [], [], _, _, _ => rfl
  | [], q :: r, _, _, h => by
    have := congrFun h (q.acc, q.asset)
    rw [look_cons, if_pos rfl] at this
    cases this
  | q :: r, [], _, _, h => by
    have := congrFun h (q.acc, q.asset)
    rw [look_cons, if_pos rfl] at this
    cases this
  | q :: r, s :: t, hl, hm, h => by
    have pl := List.pairwise_cons.1 (ow_pair hl)
    have pm := List.pairwise_cons.1 (ow_pair hm)
    have far : ∀ {a b : OweV} {c d : List OweV}, (b :: d).Pairwise (fun a b => owB a b = true) → lookO (a :: c) = lookO (b :: d) → owB a b = false := by
      intro a b c d h2 hf
      cases hx : owB a b
      · rfl
      · have e := congrFun hf (a.acc, a.asset)
        rw [look_cons, if_pos rfl, look_none (l := b :: d) (y := a) (fun x hx' => ?_)] at e
        · cases e
        · rcases List.mem_cons.1 hx' with rfl | hx'
          · exact hx
          · have := (List.pairwise_cons.1 h2).1 x hx'
            unfold owB at *
            simp only [Bool.or_eq_true, Bool.and_eq_true, decide_eq_true_eq] at *
            omega
    have f1 := far (ow_pair hm) h
    have f2 := far (ow_pair hl) h.symm
    have hk : q.acc = s.acc ∧ q.asset = s.asset := by
      unfold owB at f1 f2
      simp only [Bool.or_eq_false_iff, Bool.and_eq_false_iff, decide_eq_false_iff_not] at f1 f2
      omega
    have hn : q.n = s.n := by
      have := congrFun h (q.acc, q.asset)
      rw [look_cons, if_pos rfl, look_cons, if_pos (by rw [hk.1, hk.2])] at this
      exact Option.some.inj this
    have hqs : q = s := by
      obtain ⟨a, b, c⟩ := q
      obtain ⟨d, e, f⟩ := s
      simp only at hk hn
      rw [hk.1, hk.2, hn]
    subst hqs
    congr 1
    refine look_ext (srt_tail hl) (srt_tail hm) (funext fun k => ?_)
    by_cases e : (q.acc, q.asset) = k
    · subst e
      rw [look_none pl.1, look_none pm.1]
    · have := congrFun h k
      rw [look_cons, if_neg e, look_cons, if_neg e] at this
      exact this
def zOrd : OrdV := ⟨0, 0, 0, 0⟩
/-- One order is passed. -/
def wthS (acc id : Int) (x : List OrdV × OrdV × Bool) (o : OrdV) : List OrdV × OrdV × Bool := if outP acc id o = true then (x.1, o, true) else (x.1 ++ [o], x.2.1, x.2.2)
def wthL (acc id : Int) (l : List OrdV) : List OrdV × OrdV × Bool := l.foldl (wthS acc id) ([], zOrd, false)
theorem wth_no (acc id : Int) : ∀ (l pre : List OrdV) (x : OrdV) (f : Bool), (∀ y ∈ l, outP acc id y = false) → l.foldl (wthS acc id) (pre, x, f) = (pre ++ l, x, f)
  | [], pre, x, f, _ => by simp
  | o :: l, pre, x, f, h => by
    rw [List.foldl_cons, wthS, if_neg (by simp [h o (by simp)]), wth_no acc id l _ x f (fun y hy => h y (by simp [hy]))]
    simp
theorem wth_at (acc id : Int) : ∀ (l pre : List OrdV), (idsL l).Nodup → l.foldl (wthS acc id) (pre, zOrd, false) = match l.findIdx? (outP acc id) with
    | none => (pre ++ l, zOrd, false)
    | some i => (pre ++ l.eraseIdx i, l.getD i ⟨0, 0, 0, 0⟩, true)
  | [], pre, _ => by simp
  | o :: l, pre, h => by
    have h2 : (idsL l).Nodup ∧ o.id ∉ idsL l := by
      unfold idsL at h ⊢
      rw [List.map_cons, List.nodup_cons] at h
      exact ⟨h.2, h.1⟩
    rw [List.foldl_cons, List.findIdx?_cons, wthS]
    cases ho : outP acc id o
    · rw [if_neg (by simp), wth_at acc id l (pre ++ [o]) h2.1]
      cases l.findIdx? (outP acc id) <;> simp
    · rw [if_pos rfl, wth_no acc id l pre o true (fun y hy => ?_)]
      · simp
      · cases hy2 : outP acc id y with
        | false => rfl
        | true =>
          unfold outP at ho hy2
          simp only [Bool.and_eq_true, decide_eq_true_eq] at ho hy2
          refine absurd ?_ h2.2
          unfold idsL
          rw [List.mem_map]
          exact ⟨y, hy, hy2.1.trans ho.1.symm⟩
theorem wth_len (acc id : Int) (l : List OrdV) (h : (idsL l).Nodup) : (wthL acc id l).1.length ≤ l.length := by
  unfold wthL
  rw [wth_at acc id l [] h]
  split
  · simp
  · simp only [List.nil_append]
    rw [List.length_eraseIdx]
    split <;> omega
/-- Owed too much? The document tells it as it goes. -/
theorem over_owe {acc asset n : Int} {l : List OweV} (h : overB l = false) (hn : n ≤ 9007199254740992) : overB (oweL acc asset n l) = !(okL acc asset n l) := by
  unfold oweL okL
  cases hf : l.findIdx? (oweP acc asset) with
  | none =>
    have hf2 : l.find? (oweP acc asset) = none := by
      rw [List.find?_eq_none]
      rw [List.findIdx?_eq_none_iff] at hf
      intro y hy
      simp [hf y hy]
    rw [hf2]
    simp only [Bool.not_true]
    unfold overB at h ⊢
    rw [List.any_eq_false] at h ⊢
    intro y hy
    rcases laid_mem.1 hy with rfl | hy
    · simp; omega
    · exact h y hy
  | some i =>
    obtain ⟨hi, hp, hb⟩ := List.findIdx?_eq_some_iff_getElem.1 hf
    have hf2 : l.find? (oweP acc asset) = some l[i] := by
      rw [List.find?_eq_some_iff_getElem]
      exact ⟨hp, i, hi, rfl, fun j hj => by simp [hb j hj]⟩
    rw [hf2]
    simp only
    unfold overB at h ⊢
    rw [List.any_eq_false] at h
    by_cases hx : l[i].n ≤ 9007199254740992 - n
    · rw [decide_eq_true hx, Bool.not_true, List.any_eq_false]
      intro y hy
      obtain ⟨j, hj, rfl⟩ := List.mem_iff_getElem.1 hy
      rw [List.getElem_modify]
      rw [List.length_modify] at hj
      split
      · rename_i e
        subst e
        simp; omega
      · exact h _ (List.getElem_mem hj)
    · rw [decide_eq_false hx, Bool.not_false, List.any_eq_true]
      refine ⟨⟨l[i].acc, l[i].asset, l[i].n + n⟩, ?_, by simp; omega⟩
      rw [List.mem_iff_getElem]
      refine ⟨i, by rw [List.length_modify]; exact hi, ?_⟩
      rw [List.getElem_modify, if_pos rfl]
def dealD (f : FillV) (better : Int) (l : List OweV) : List OweV × Bool :=
  ((oweD f.seller 0 (f.price * f.n) (oweD f.buyer 0 (better * f.n) (oweD f.buyer 1 f.n l).1).1).1,
   (oweD f.buyer 1 f.n l).2 && (oweD f.buyer 0 (better * f.n) (oweD f.buyer 1 f.n l).1).2 && (oweD f.seller 0 (f.price * f.n) (oweD f.buyer 0 (better * f.n) (oweD f.buyer 1 f.n l).1).1).2)
theorem over_mono {acc asset n : Int} {l : List OweV} (hn : 0 ≤ n) (h : overB l = true) : overB (oweL acc asset n l) = true := by
  unfold overB at h ⊢
  rw [List.any_eq_true] at h ⊢
  obtain ⟨y, hy, hb⟩ := h
  rw [decide_eq_true_eq] at hb
  unfold oweL
  split
  · rename_i i hi
    obtain ⟨j, hj, rfl⟩ := List.mem_iff_getElem.1 hy
    refine ⟨(l.modify i (fun y => ⟨y.acc, y.asset, y.n + n⟩))[j]'(by rw [List.length_modify]; exact hj), List.getElem_mem _, ?_⟩
    rw [List.getElem_modify]
    split
    · rename_i e
      subst e
      simp; omega
    · simpa using hb
  · exact ⟨y, laid_mem.2 (.inr hy), by simpa using hb⟩
theorem owe_comm {a1 s1 n1 a2 s2 n2 : Int} {l : List OweV} (h : OwOk l) (ha1 : 1 ≤ a1 ∧ a1 ≤ 8) (hs1 : 0 ≤ s1 ∧ s1 ≤ 1) (hn1 : 1 ≤ n1) (ha2 : 1 ≤ a2 ∧ a2 ≤ 8) (hs2 : 0 ≤ s2 ∧ s2 ≤ 1) (hn2 : 1 ≤ n2) : oweL a1 s1 n1 (oweL a2 s2 n2 l) = oweL a2 s2 n2 (oweL a1 s1 n1 l) := by
  refine look_ext (owok_owe (owok_owe h ha2 hs2 hn2) ha1 hs1 hn1).1 (owok_owe (owok_owe h ha1 hs1 hn1) ha2 hs2 hn2).1 ?_
  rw [look_owe, look_owe, look_owe, look_owe, upd_comm]
theorem ok_over {acc asset n : Int} {l : List OweV} (h : overB l = false) (hn : 0 ≤ n ∧ n ≤ 9007199254740992) : (oweD acc asset n l).2 = !(overB (oweD acc asset n l).1) := by
  unfold oweD
  by_cases h0 : n = 0
  · rw [if_pos h0, h]; rfl
  · rw [if_neg h0]
    simp only
    rw [over_owe h hn.2, Bool.not_not]
theorem owe_mono {acc asset n : Int} {l : List OweV} (hn : 0 ≤ n) (h : overB l = true) : overB (oweD acc asset n l).1 = true := by
  unfold oweD
  split
  · exact h
  · exact over_mono hn h
theorem deal_ok {f : FillV} {better : Int} {l : List OweV} (h : overB l = false) (h1 : 0 ≤ f.n ∧ f.n ≤ 9007199254740992) (h2 : 0 ≤ better * f.n ∧ better * f.n ≤ 9007199254740992) (h3 : 0 ≤ f.price * f.n ∧ f.price * f.n ≤ 9007199254740992) : (dealD f better l).2 = !(overB (dealD f better l).1) := by
  unfold dealD
  simp only
  have e1 := ok_over (acc := f.buyer) (asset := 1) h h1
  generalize oweD f.buyer 1 f.n l = A at *
  cases ha : overB A.1
  · have e2 := ok_over (acc := f.buyer) (asset := 0) ha h2
    generalize oweD f.buyer 0 (better * f.n) A.1 = B at *
    cases hb : overB B.1
    · have e3 := ok_over (acc := f.seller) (asset := 0) hb h3
      rw [e1, e2, e3, ha, hb]
      simp
    · rw [e2, hb, owe_mono h3.1 hb]
      simp
  · rw [e1, ha, owe_mono h3.1 (owe_mono h2.1 ha)]
    simp
/-- The document's better. -/
def btD (s : Int) (x r : OrdV) : Int := if s = 2 then 0 else x.price - r.price
theorem dealD_set {s : Int} (hs : s = 1 ∨ s = 2) {x r : OrdV} {n : Int} {l : List OweV} (h : OwOk l) (hn : 1 ≤ n) (hx : 1 ≤ x.acc ∧ x.acc ≤ 8) (hr : 1 ≤ r.acc ∧ r.acc ≤ 8) (hp : 1 ≤ r.price) (hm : meetB s x.price r.price = true) : (dealD (setF s x r n) (btD s x r) l).1 = setO s x r n l := by
  have hb : 1 ≤ (setB s x r).acc ∧ (setB s x r).acc ≤ 8 := by unfold setB; split <;> omega
  have hse : 1 ≤ (setS s x r).acc ∧ (setS s x r).acc ≤ 8 := by unfold setS; split <;> omega
  have hpn := mul_pos1 hp hn
  unfold dealD setF setO oweD
  simp only
  rw [if_neg (show ¬ n = 0 by omega), if_neg (show ¬ r.price * n = 0 by omega)]
  simp only
  rcases hs with rfl | rfl
  · have e : btD 1 x r = x.price - r.price := by unfold btD; simp
    have e2 : setB 1 x r = x := by unfold setB; simp
    rw [e, e2]
    rw [e2] at hb
    unfold meetB at hm
    simp at hm
    by_cases hlt : r.price < x.price
    · have hq := mul_pos1 (show 1 ≤ x.price - r.price by omega) hn
      rw [if_pos hlt, if_neg (by omega)]
      exact owe_comm (owok_owe h hb (by omega) hn) hse (by omega) hpn hb (by omega) hq
    · have e3 : x.price - r.price = 0 := by omega
      rw [if_neg hlt, e3, Int.zero_mul, if_pos rfl]
  · have e : btD 2 x r = 0 := by unfold btD; simp
    have e2 : setB 2 x r = r := by unfold setB; simp
    rw [e, e2, Int.zero_mul, if_pos rfl, if_neg (show ¬ r.price < r.price by omega)]
/-- The document's trades: it stops where too much would be owed. -/
def trD (s : Int) (x : OrdV) : List OrdV → Int → List OweV → List FillV → List OrdV × Int × List OweV × List FillV × Bool
  | [], left, ow, F => ([], left, ow, F, true)
  | r :: rs, left, ow, F =>
    if 0 < left ∧ meetB s x.price r.price = true then
      if (dealD (setF s x r (min left r.left)) (btD s x r) ow).2 = false then ((if r.left - min left r.left = 0 then rs else ⟨r.id, r.acc, r.price, r.left - min left r.left⟩ :: rs), left - min left r.left, (dealD (setF s x r (min left r.left)) (btD s x r) ow).1, F ++ [setF s x r (min left r.left)], false)
      else if r.left - min left r.left = 0 then trD s x rs (left - min left r.left) (dealD (setF s x r (min left r.left)) (btD s x r) ow).1 (F ++ [setF s x r (min left r.left)])
      else (⟨r.id, r.acc, r.price, r.left - min left r.left⟩ :: rs, left - min left r.left, (dealD (setF s x r (min left r.left)) (btD s x r) ow).1, F ++ [setF s x r (min left r.left)], true)
    else (r :: rs, left, ow, F, true)
theorem set_mono {s : Int} {x r : OrdV} {n : Int} {l : List OweV} (hn : 0 ≤ n) (hp : 0 ≤ r.price) (h : overB l = true) : overB (setO s x r n l) = true := by
  unfold setO
  simp only
  have h1 := over_mono (acc := (setB s x r).acc) (asset := 1) hn h
  have h2 := over_mono (acc := (setS s x r).acc) (asset := 0) (Int.mul_nonneg hp hn) h1
  split
  · exact over_mono (Int.mul_nonneg (by omega) hn) h2
  · exact h2
theorem tr_mono (s : Int) (x : OrdV) : ∀ (T : List OrdV) (left : Int) (ow : List OweV) (F : List FillV), OkT T → 0 ≤ left → overB ow = true → overB (trL s x T left ow F).2.2.1 = true
  | [], _, _, _, _, _, h => h
  | r :: rs, left, ow, F, ht, hl, h => by
    have hr := ht r (by simp)
    unfold trL
    split
    · have hm : 0 ≤ min left r.left := by omega
      have h1 := set_mono (s := s) (x := x) (r := r) hm (by omega) h
      split
      · exact tr_mono s x rs _ _ _ (fun y hy => ht y (by simp [hy])) (by omega) h1
      · exact h1
    · exact h
theorem tr_same {s : Int} (hs : s = 1 ∨ s = 2) {x : OrdV} (hx : 1 ≤ x.acc ∧ x.acc ≤ 8) (hxp : 1 ≤ x.price ∧ x.price ≤ 1000000) : ∀ (T : List OrdV) (left : Int) (ow : List OweV) (F : List FillV), OkT T → AccT T → 0 ≤ left → OwOk ow → overB ow = false →
    (trD s x T left ow F).2.2.2.2 = !(overB (trL s x T left ow F).2.2.1) ∧ ((trD s x T left ow F).2.2.2.2 = true → trD s x T left ow F = ((trL s x T left ow F).1, (trL s x T left ow F).2.1, (trL s x T left ow F).2.2.1, (trL s x T left ow F).2.2.2, true))
  | [], left, ow, F, _, _, _, _, h => by
    unfold trD trL
    simp [h]
  | r :: rs, left, ow, F, ht, ha, hl, hw, h => by
    have hr := ht r (by simp)
    have hra := ha r (by simp)
    have ht2 : OkT rs := fun y hy => ht y (by simp [hy])
    have ha2 : AccT rs := fun y hy => ha y (by simp [hy])
    unfold trD trL
    by_cases hc : 0 < left ∧ meetB s x.price r.price = true
    · rw [if_pos hc, if_pos hc]
      have hn1 : 1 ≤ min left r.left ∧ min left r.left ≤ 1000000 := by omega
      have hD := dealD_set hs hw hn1.1 hx hra hr.1.1 hc.2
      have hO := owok_set (s := s) (o := x) (r := r) hw hn1.1 hx hra hr.1.1
      have hbt : 0 ≤ btD s x r ∧ btD s x r ≤ 1000000 := by
        unfold btD
        rcases hs with rfl | rfl
        · have := hc.2
          unfold meetB at this
          simp at this
          simp
          omega
        · simp
      have m1 : 0 ≤ btD s x r * min left r.left ∧ btD s x r * min left r.left ≤ 1000000000000 := ⟨Int.mul_nonneg hbt.1 (by omega), by
        have := Int.mul_le_mul hbt.2 hn1.2 (by omega) (by omega : (0 : Int) ≤ 1000000)
        omega⟩
      have m2 : 0 ≤ r.price * min left r.left ∧ r.price * min left r.left ≤ 1000000000000 := ⟨Int.mul_nonneg (by omega) (by omega), by
        have := Int.mul_le_mul hr.1.2 hn1.2 (by omega) (by omega : (0 : Int) ≤ 1000000)
        omega⟩
      have hK := deal_ok (f := setF s x r (min left r.left)) (better := btD s x r) h (by unfold setF; simp only; omega) (by unfold setF; simp only; omega) (by unfold setF; simp only; omega)
      rw [hD] at hK
      rw [hD]
      cases hov : overB (setO s x r (min left r.left) ow)
      · rw [hov, Bool.not_false] at hK
        rw [hK, if_neg (by simp)]
        by_cases hz : r.left - min left r.left = 0
        · rw [if_pos hz, if_pos hz]
          exact tr_same hs hx hxp rs _ _ _ ht2 ha2 (by omega) hO hov
        · rw [if_neg hz, if_neg hz]
          simp [hov]
      · rw [hov, Bool.not_true] at hK
        rw [hK, if_pos rfl]
        refine ⟨?_, fun e => absurd e (by simp)⟩
        simp only
        by_cases hz : r.left - min left r.left = 0
        · rw [if_pos hz, tr_mono s x rs _ _ _ ht2 (by omega) hov]
          rfl
        · rw [if_neg hz]
          simp [hov]
    · rw [if_neg hc, if_neg hc]
      simp [h]
end Go.Proofs.Ytgnmghcdfihmgaa
