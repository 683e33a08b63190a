/- Two wheels and a row of numbers side by side; what setting timers in another order makes of them. -/
import Derived.Test.YtebinckkghmkhaaOps
namespace Go.Proofs.Ytebinckkghmkhaa
open Go.RowKit

/-- Two wheels and a row of numbers, all made behind w, nothing shared. -/
def Two (w : World) (pv pw : Nat) (Sv Sw : Wh) (lo : List Nat) (r : Option (Nat × Nat)) (wr : World) : Prop :=
  ∃ Fv Fw, WheelAt wr Fv pv Sv ∧ WheelAt wr Fw pw Sw ∧ (∀ k, Fv k → w.heap.size ≤ k ∧ ¬ Fw k) ∧ (∀ k, Fw k → w.heap.size ≤ k) ∧ SRow wr lo r ∧ (∀ g c, r = some (g, c) → w.heap.size ≤ g ∧ ¬ Fv g ∧ ¬ Fw g) ∧ Below w.heap.size w wr
theorem SRow.lt {w : World} {l : List Nat} {g c : Nat} (h : SRow w l (some (g, c))) : g < w.heap.size := IRow.lt h
theorem Two.base {w : World} {pv pw : Nat} {Sv Sw : Wh} {lo : List Nat} {r : Option (Nat × Nat)} {wr : World} (h : Two w pv pw Sv Sw lo r wr) : Below w.heap.size w wr := by
  obtain ⟨_, _, _, _, _, _, _, _, hB⟩ := h
  exact hB
theorem Two.row {w : World} {pv pw : Nat} {Sv Sw : Wh} {lo : List Nat} {r : Option (Nat × Nat)} {wr : World} (h : Two w pv pw Sv Sw lo r wr) : SRow wr lo r := by
  obtain ⟨_, _, _, _, _, _, hr, _⟩ := h
  exact hr
theorem Two.below {w : World} {pv pw : Nat} {Sv Sw : Wh} {lo : List Nat} {r : Option (Nat × Nat)} {wr wr' : World} (h : Two w pv pw Sv Sw lo r wr) (hb : Below wr.heap.size wr wr') : Two w pv pw Sv Sw lo r wr' := by
  obtain ⟨Fv, Fw, h1, h2, h3, h4, h5, h6, hB⟩ := h
  exact ⟨Fv, Fw, h1.below hb, h2.below hb, h3, h4, h5.keep (fun g c e => hb.block g (by subst e; exact h5.lt)), h6, hB.trans (hb.mono hB.size)⟩
/-- The row has turned, in its own block or in a new one. -/
theorem Two.turn {w : World} {pv pw : Nat} {Sv Sw : Wh} {lo lo' : List Nat} {r r' : Option (Nat × Nat)} {wr wr' : World} (h : Two w pv pw Sv Sw lo r wr) (ho : Out (fun i => ∃ c, r = some (i, c)) wr wr') (hr : SRow wr' lo' r')
    (hn : ∀ g c, r' = some (g, c) → (∃ c', r = some (g, c')) ∨ wr.heap.size ≤ g) : Two w pv pw Sv Sw lo' r' wr' := by
  obtain ⟨Fv, Fw, h1, h2, h3, h4, h5, h6, hB⟩ := h
  have hs := hB.size
  refine ⟨Fv, Fw, h1.out ho (fun k hk ⟨c, e⟩ => (h6 k c e).2.1 hk), h2.out ho (fun k hk ⟨c, e⟩ => (h6 k c e).2.2 hk), h3, h4, hr, fun g c e => ?_, hB.trans (ho.below hs (fun k ⟨c, e⟩ => (h6 k c e).1))⟩
  rcases hn g c e with ⟨c', e'⟩ | e'
  · exact h6 g c' e'
  · exact ⟨by omega, fun h => by have := h1.small g h; omega, fun h => by have := h2.small g h; omega⟩
theorem Two.setV {w : World} {pv pw : Nat} {Sv Sw : Wh} {lo : List Nat} {r : Option (Nat × Nat)} {wr : World} (h : Two w pv pw Sv Sw lo r wr) (hN : Sv.now < 1000000000) (k x : Int) :
    Calls Try.prog 9 #[.pointer (some ⟨pv, 0, none⟩), .int .i64 k, .int .i64 x] wr fun e w' => (∃ v, e = .returned v) ∧ Two w pv pw (setW Sv k x) Sw lo r w' := by
  obtain ⟨Fv, Fw, h1, h2, h3, h4, h5, h6, hB⟩ := h
  have hs := hB.size
  refine (set_is h1 k x hN).mono ?_
  rintro e w' ⟨rfl, ⟨F', hw', hf'⟩, ho⟩
  refine ⟨⟨_, rfl⟩, F', Fw, hw', h2.out ho (fun k hk hv => (h3 k hv).2 hk), fun k hk => ?_, h4, h5.keep (fun g c e => ho.block g (by subst e; exact h5.lt) (h6 g c e).2.1), fun g c e => ⟨(h6 g c e).1, fun hg => ?_, (h6 g c e).2.2⟩, hB.trans (ho.below hs (fun k hk => (h3 k hk).1))⟩
  · rcases hf' k hk with h | h
    · exact h3 k h
    · exact ⟨by omega, fun hw => by have := h2.small k hw; omega⟩
  · rcases hf' g hg with h | h
    · exact (h6 g c e).2.1 h
    · subst e
      have := h5.lt
      omega
theorem Two.setW' {w : World} {pv pw : Nat} {Sv Sw : Wh} {lo : List Nat} {r : Option (Nat × Nat)} {wr : World} (h : Two w pv pw Sv Sw lo r wr) (hN : Sw.now < 1000000000) (k x : Int) :
    Calls Try.prog 9 #[.pointer (some ⟨pw, 0, none⟩), .int .i64 k, .int .i64 x] wr fun e w' => (∃ v, e = .returned v) ∧ Two w pv pw Sv (setW Sw k x) lo r w' := by
  obtain ⟨Fv, Fw, h1, h2, h3, h4, h5, h6, hB⟩ := h
  have hs := hB.size
  refine (set_is h2 k x hN).mono ?_
  rintro e w' ⟨rfl, ⟨F', hw', hf'⟩, ho⟩
  refine ⟨⟨_, rfl⟩, Fv, F', h1.out ho (fun k hk hv => (h3 k hk).2 hv), hw', fun k hk => ⟨(h3 k hk).1, fun hw => ?_⟩, fun k hk => ?_, h5.keep (fun g c e => ho.block g (by subst e; exact h5.lt) (h6 g c e).2.2), fun g c e => ⟨(h6 g c e).1, (h6 g c e).2.1, fun hg => ?_⟩, hB.trans (ho.below hs h4)⟩
  · rcases hf' k hw with h | h
    · exact (h3 k hk).2 h
    · have := h1.small k hk; omega
  · rcases hf' k hk with h | h
    · exact h4 k h
    · omega
  · rcases hf' g hg with h | h
    · exact (h6 g c e).2.2 h
    · subst e
      have := h5.lt
      omega
def TickV (w : World) (pv pw : Nat) (Sv Sw : Wh) (e : Ending) (w' : World) : Prop := ∃ r, e = .returned (sval (dueL Sv) r) ∧ Two w pv pw (tickS Sv) Sw (dueL Sv) r w'
theorem Two.tickV {w : World} {pv pw : Nat} {Sv Sw : Wh} {lo : List Nat} {r : Option (Nat × Nat)} {wr : World} (h : Two w pv pw Sv Sw lo r wr) (hN : Sv.now < 1000000000) :
    Calls Try.prog 14 #[.pointer (some ⟨pv, 0, none⟩)] wr (TickV w pv pw Sv Sw) := by
  obtain ⟨Fv, Fw, h1, h2, h3, h4, h5, h6, hB⟩ := h
  have hs := hB.size
  refine (tick_is h1 hN).mono ?_
  rintro e w' ⟨r', rfl, hrow, hfr, hw', ho⟩
  refine ⟨r', rfl, Fv, Fw, hw', h2.out ho (fun k hk hv => (h3 k hv).2 hk), h3, h4, hrow, fun g c e => ?_, hB.trans (ho.below hs (fun k hk => (h3 k hk).1))⟩
  have := hfr g c e
  exact ⟨by omega, fun h => by have := h1.small g h; omega, fun h => by have := h2.small g h; omega⟩
def TickW (w : World) (pv pw : Nat) (Sv Sw : Wh) (lo : List Nat) (r : Option (Nat × Nat)) (e : Ending) (w' : World) : Prop := ∃ r2, e = .returned (sval (dueL Sw) r2) ∧ SRow w' (dueL Sw) r2 ∧ Two w pv pw Sv (tickS Sw) lo r w'
theorem Two.tickW {w : World} {pv pw : Nat} {Sv Sw : Wh} {lo : List Nat} {r : Option (Nat × Nat)} {wr : World} (h : Two w pv pw Sv Sw lo r wr) (hN : Sw.now < 1000000000) :
    Calls Try.prog 14 #[.pointer (some ⟨pw, 0, none⟩)] wr (TickW w pv pw Sv Sw lo r) := by
  obtain ⟨Fv, Fw, h1, h2, h3, h4, h5, h6, hB⟩ := h
  have hs := hB.size
  refine (tick_is h2 hN).mono ?_
  rintro e w' ⟨r', rfl, hrow, hfr, hw', ho⟩
  exact ⟨r', rfl, hrow, Fv, Fw, h1.out ho (fun k hk hv => (h3 k hk).2 hv), hw', h3, h4, h5.keep (fun g c e => ho.block g (by subst e; exact h5.lt) (h6 g c e).2.2), h6, hB.trans (ho.below hs h4)⟩
theorem Two.lenV {w : World} {pv pw : Nat} {Sv Sw : Wh} {lo : List Nat} {r : Option (Nat × Nat)} {wr : World} (h : Two w pv pw Sv Sw lo r wr) :
    Calls Try.prog 19 #[.pointer (some ⟨pv, 0, none⟩)] wr fun e w' => e = .returned (.int .i64 (cnt Sv.left Sv.keys : Int)) ∧ w' = wr := by
  obtain ⟨Fv, Fw, h1, h2, _⟩ := h
  exact len_is h1
theorem Two.lenW {w : World} {pv pw : Nat} {Sv Sw : Wh} {lo : List Nat} {r : Option (Nat × Nat)} {wr : World} (h : Two w pv pw Sv Sw lo r wr) :
    Calls Try.prog 19 #[.pointer (some ⟨pw, 0, none⟩)] wr fun e w' => e = .returned (.int .i64 (cnt Sw.left Sw.keys : Int)) ∧ w' = wr := by
  obtain ⟨Fv, Fw, h1, h2, _⟩ := h
  exact len_is h2
/-- How far ahead the k-th timer is set. -/
def pk (l : List Int) (k : Nat) : Nat := pickN (l[k]?.getD 0) 1000 + 1
theorem pk_bd (l : List Int) (k : Nat) : 1 ≤ pk l k ∧ pk l k ≤ 1000 := by
  have := pickN_lt (l[k]?.getD 0) 1000 (by decide)
  unfold pk
  omega
def SVi (l : List Int) (i : Nat) : Wh := ⟨100, 0, fun k => if k < i then pk l k else 0⟩
def SWo (l : List Int) (o : List Nat) : Wh := ⟨100, 0, fun k => if k ∈ o then pk l k else 0⟩
theorem setW_go (f : Nat → Nat) (t k n : Nat) (hk : k < 100) (h1 : 1 ≤ n) (h2 : n ≤ 1000) : setW ⟨100, t, f⟩ (k : Int) (n : Int) = ⟨100, t, put f k n⟩ := by
  unfold setW
  rw [if_pos (by unfold setOk; simp only; omega)]
  simp [setS]
theorem SVi_set (l : List Int) (i : Nat) (hi : i < 100) : setW (SVi l i) (i : Int) ((pk l i : Nat) : Int) = SVi l (i + 1) := by
  obtain ⟨h1, h2⟩ := pk_bd l i
  unfold SVi
  rw [setW_go _ _ _ _ hi h1 h2]
  simp only [Wh.mk.injEq, true_and]
  funext k
  unfold put
  by_cases e : k = i
  · subst e; simp
  · have : (k < i + 1) = (k < i) := by simp; omega
    simp [e, this]
theorem SWo_set (l : List Int) (o : List Nat) (k : Nat) (hk : k < 100) : setW (SWo l o) (k : Int) ((pk l k : Nat) : Int) = SWo l (o ++ [k]) := by
  obtain ⟨h1, h2⟩ := pk_bd l k
  unfold SWo
  rw [setW_go _ _ _ _ hk h1 h2]
  simp only [Wh.mk.injEq, true_and]
  funext j
  unfold put
  by_cases e : j = k
  · subst e; simp
  · simp [e]
theorem SWo_end (l : List Int) (o : List Nat) (n : Nat) (h : ∀ k, k ∈ o ↔ k < n) : SWo l o = SVi l n := by
  unfold SWo SVi
  simp only [Wh.mk.injEq, true_and]
  funext k
  simp [h k]
def TK (S : Wh) (t : Nat) : Wh := ⟨S.keys, S.now + t, fun k => S.left k - t⟩
theorem TK_zero (S : Wh) : TK S 0 = S := rfl
theorem TK_succ (S : Wh) (t : Nat) : tickS (TK S t) = TK S (t + 1) := by
  unfold TK tickS
  simp only [Wh.mk.injEq, true_and]
  exact ⟨by omega, by funext k; omega⟩
theorem cnt_zero (f : Nat → Nat) (h : ∀ k, f k = 0) : ∀ n, cnt f n = 0
  | 0 => rfl
  | n + 1 => by unfold cnt; rw [cnt_zero f h n, if_pos (h n)]
theorem TK_end (l : List Int) (i : Nat) : cnt (TK (SVi l i) 1001).left (TK (SVi l i) 1001).keys = 0 := by
  refine cnt_zero _ (fun k => ?_) _
  show (if k < i then pk l k else 0) - 1001 = 0
  have := (pk_bd l k).2
  split <;> omega
/-- Two places of a list, changed for one another. -/
def sw (o : List Nat) (a b x y : Nat) : List Nat := (o.set a y).set b x
theorem sw_len (o : List Nat) (a b x y : Nat) : (sw o a b x y).length = o.length := by simp [sw]
theorem sw_mem (o : List Nat) (a b x y : Nat) (hx : o[a]? = some x) (hy : o[b]? = some y) (k : Nat) : k ∈ sw o a b x y ↔ k ∈ o := by
  have ha := (List.getElem?_eq_some_iff.1 hx).1
  have hb := (List.getElem?_eq_some_iff.1 hy).1
  constructor
  · intro h
    rcases List.mem_or_eq_of_mem_set h with h | h
    · rcases List.mem_or_eq_of_mem_set h with h | h
      · exact h
      · rw [h]; exact List.mem_of_getElem? hy
    · rw [h]; exact List.mem_of_getElem? hx
  · intro h
    obtain ⟨j, hj, rfl⟩ := List.mem_iff_getElem.1 h
    have hj2 : o[j]? = some o[j] := List.getElem?_eq_getElem hj
    by_cases e1 : j = a
    · subst e1
      rw [hj2] at hx
      cases hx
      exact List.mem_of_getElem? (i := b) (by unfold sw; rw [List.getElem?_set_self (by simpa using hb)])
    · by_cases e2 : j = b
      · subst e2
        rw [hj2] at hy
        cases hy
        exact List.mem_of_getElem? (i := a) (by unfold sw; rw [List.getElem?_set_ne e1, List.getElem?_set_self ha])
      · exact List.mem_of_getElem? (i := j) (by unfold sw; rw [List.getElem?_set_ne (Ne.symm e2), List.getElem?_set_ne (Ne.symm e1)]; exact hj2)
theorem IRow.set {w : World} {g cap : Nat} {l : List Nat} (h : IRow w g cap l) (j x : Nat) (hj : j < l.length) : IRow (w.setCell ⟨g, j, none⟩ (.int .i64 (x : Int))) g cap (l.set j x) := by
  obtain ⟨cur, hg, h1, h2, h3, h4⟩ := h
  refine ⟨cur.setIfInBounds j (.int .i64 (x : Int)), heap_set hg j _, by simpa using h1, h2, by simpa using h3, ?_⟩
  rw [List.length_set, Array.toList_setIfInBounds, List.map_set]
  rw [← h4]
  apply List.ext_getElem?
  intro m
  rw [List.getElem?_take]
  by_cases hm : m < l.length
  · rw [if_pos hm, List.getElem?_set, List.getElem?_set, List.getElem?_take, if_pos hm]
    have hl : (List.take l.length cur.toList).length = l.length := by rw [h4]; simp
    have hc : cur.toList.length = cap := by simpa using h3
    by_cases e : j = m
    · subst e
      simp only [if_true, hl, hm, hc]
      rw [if_pos (by omega)]
      rfl
    · simp only [e, if_false]
  · rw [if_neg hm]
    symm
    apply List.getElem?_eq_none
    simp
    omega
end Go.Proofs.Ytebinckkghmkhaa
