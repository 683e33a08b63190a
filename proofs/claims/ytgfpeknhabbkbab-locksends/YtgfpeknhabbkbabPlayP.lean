/- What letting go leaves may be; the oldest one; steps one behind the other: plain data. -/
import Derived.Test.YtgfpeknhabbkbabMayP
import Derived.Test.YtgfpeknhabbkbabArgs
namespace Go.Proofs.Ytgfpeknhabbkbab
open Go.RowKit
set_option linter.all false
theorem q_sub {l m : List HoldV} (h : l.Sublist m) (k : KeyV) : (qL l k).Sublist (qL m k) := (h.filter _).map _
theorem wi_sub (l : List HoldV) (o : HoldV) : (wiL l o).Sublist l := List.filter_sublist
theorem wi_mem {l : List HoldV} {o x : HoldV} : x ∈ wiL l o ↔ x ∈ l ∧ x ≠ o := by
  unfold wiL
  rw [List.mem_filter]
  simp
theorem wi_not {l : List HoldV} {o : HoldV} (h : o ∉ l) : wiL l o = l := by
  unfold wiL
  rw [List.filter_eq_self]
  intro x hx
  have : x ≠ o := fun e => h (e ▸ hx)
  simp [this]
theorem find_key {l : List HoldV} {k : KeyV} {t : TxnV} (hn : (l.map (·.1)).Nodup) (h : (k, t) ∈ l) : hdT l k = t := by
  induction l with
  | nil => simp at h
  | cons x r ih =>
    rw [List.map_cons, List.nodup_cons] at hn
    rcases List.mem_cons.1 h with e | e
    · subst e
      simp [hdT]
    · have hx : x.1 ≠ k := fun e' => hn.1 (by rw [e']; exact List.mem_map_of_mem (f := (·.1)) e)
      have := ih hn.2 e
      unfold hdT at this ⊢
      rw [List.find?_cons_of_neg (by simpa using hx)]
      exact this
theorem hd_wi {l : List HoldV} {k k' : KeyV} {t : TxnV} (h : k' ≠ k) : hdT (wiL l (k, t)) k' = hdT l k' := by
  unfold hdT wiL
  rw [List.find?_filter]
  congr 1
  apply congrArg (fun f => List.find? f l)
  funext x
  by_cases e : x.1 = k'
  · have : (x == (k, t)) = false := beq_eq_false_iff_ne.2 (fun e2 => h (by rw [← e, e2]))
    simp [this, e]
  · have : (x.1 == k') = false := beq_eq_false_iff_ne.2 e
    simp [this]
theorem hd_app2 {l : List HoldV} {k k' : KeyV} {t : TxnV} (h : k' ≠ k) : hdT (l ++ [(k, t)]) k' = hdT l k' := by
  unfold hdT
  rw [List.find?_append]
  have : [((k, t) : HoldV)].find? (fun h => h.1 == k') = none := by
    have h2 : ¬ k = k' := fun e => h e.symm
    simp [h2]
  rw [this]
  simp
theorem mw_sub {T : TabV} (h : MayT T) {wt : List HoldV} (hs : wt.Sublist T.wait) {x : HoldV} (hx : x ∈ wt) : hdT T.held x.1 ≠ zT ∧ hdT T.held x.1 ≠ x.2 ∧ (qL wt x.1).length ≤ 4 ∧ (qL wt x.1).count x.2 ≤ 1 := by
  have hm := h.mw x (hs.subset hx)
  exact ⟨hm.1, hm.2.1, Nat.le_trans (q_sub hs x.1).length_le hm.2.2.1, Nat.le_trans ((q_sub hs x.1).count_le _) hm.2.2.2⟩
/-- The oldest one. -/
theorem old_tot {a b : TxnV} : a = b ∨ oldB a b = true ∨ oldB b a = true := by
  obtain ⟨a1, a2⟩ := a
  obtain ⟨b1, b2⟩ := b
  simp only [oldB, Prod.mk.injEq, Bool.or_eq_true, Bool.and_eq_true, decide_eq_true_eq]
  omega
theorem old_trans {a b c : TxnV} (h : oldB a b = true) (k : oldB b c = true) : oldB a c = true := by
  obtain ⟨a1, a2⟩ := a
  obtain ⟨b1, b2⟩ := b
  obtain ⟨c1, c2⟩ := c
  simp only [oldB, Bool.or_eq_true, Bool.and_eq_true, decide_eq_true_eq] at h k ⊢
  omega
theorem old_irr (a : TxnV) : oldB a a = false := by
  obtain ⟨a1, a2⟩ := a
  simp [oldB]
theorem oldF_spec : ∀ (l : List TxnV) (f : TxnV), (∀ x ∈ l, x ≠ zT) → f ≠ zT → (l.foldl oldF f = f ∨ l.foldl oldF f ∈ l) ∧ l.foldl oldF f ≠ zT ∧ (l.foldl oldF f = f ∨ oldB (l.foldl oldF f) f = true) ∧ ∀ x ∈ l, l.foldl oldF f = x ∨ oldB (l.foldl oldF f) x = true
  | [], f, _, hf => ⟨.inl rfl, hf, .inl rfl, fun x hx => by simp at hx⟩
  | y :: r, f, hl, hf => by
    have hy := hl y (by simp)
    have hr : ∀ x ∈ r, x ≠ zT := fun x hx => hl x (List.mem_cons_of_mem _ hx)
    have e0 : (f == zT) = false := beq_eq_false_iff_ne.2 hf
    rw [List.foldl_cons]
    cases ho : oldB y f
    · have e : oldF f y = f := by
        unfold oldF
        rw [e0, ho]
        simp
      rw [e]
      obtain ⟨h1, h2, h3, h4⟩ := oldF_spec r f hr hf
      refine ⟨h1.elim .inl (fun h => .inr (List.mem_cons_of_mem _ h)), h2, h3, fun x hx => ?_⟩
      rcases List.mem_cons.1 hx with rfl | hx
      · have hfx : f = x ∨ oldB f x = true := by
          rcases old_tot (a := f) (b := x) with e | e | e
          · exact .inl e
          · exact .inr e
          · rw [ho] at e
            cases e
        rcases h3 with h3 | h3
        · rw [h3]
          exact hfx
        · rcases hfx with e | e
          · rw [← e]
            exact .inr h3
          · exact .inr (old_trans h3 e)
      · exact h4 x hx
    · have e : oldF f y = y := by
        unfold oldF
        rw [e0, ho]
        simp
      rw [e]
      obtain ⟨h1, h2, h3, h4⟩ := oldF_spec r y hr hy
      refine ⟨.inr ?_, h2, .inr ?_, fun x hx => ?_⟩
      · rcases h1 with h1 | h1
        · rw [h1]
          simp
        · exact List.mem_cons_of_mem _ h1
      · rcases h3 with h3 | h3
        · rw [h3]
          exact ho
        · exact old_trans h3 ho
      · rcases List.mem_cons.1 hx with rfl | hx
        · exact h3
        · exact h4 x hx
theorem oldL_spec {l : List TxnV} (hl : ∀ x ∈ l, x ≠ zT) (h : l ≠ []) : oldL l ∈ l ∧ oldL l ≠ zT ∧ ∀ x ∈ l, oldL l = x ∨ oldB (oldL l) x = true := by
  cases l with
  | nil => exact absurd rfl h
  | cons y r =>
    have hy := hl y (by simp)
    have e : oldL (y :: r) = r.foldl oldF y := by
      unfold oldL
      rw [List.foldl_cons]
      congr 1
    rw [e]
    obtain ⟨h1, h2, h3, h4⟩ := oldF_spec r y (fun x hx => hl x (List.mem_cons_of_mem _ hx)) hy
    refine ⟨?_, h2, fun x hx => ?_⟩
    · rcases h1 with h1 | h1
      · rw [h1]
        simp
      · exact List.mem_cons_of_mem _ h1
    · rcases List.mem_cons.1 hx with rfl | hx
      · exact h3
      · exact h4 x hx
theorem q_names {T : TabV} (h : MayT T) (k : KeyV) : ∀ x ∈ qL T.wait k, x ≠ zT := fun x hx => nam_ne (hol_nam (h.hw (k, x) (qL_mem.1 hx)))
theorem free_ok {T : TabV} {k : KeyV} {t : TxnV} (h : (freeL T k t).2.2 = 0) : MayT T ∧ keyB k = true ∧ namB t = true ∧ refE T k t = 0 := by
  by_cases hr : refE T k t = 0
  · obtain ⟨a, b, c⟩ := ref_ok hr
    exact ⟨(chk_iff T).1 a, b, c, hr⟩
  · unfold freeL at h
    rw [if_neg hr] at h
    exact absurd h hr
theorem free_may {T : TabV} {k : KeyV} {t : TxnV} (h : (freeL T k t).2.2 = 0) : MayT (freeL T k t).1 := by
  obtain ⟨hm, hk, ht, hr⟩ := free_ok h
  have hsw := wi_sub T.wait (k, t)
  have hsh := wi_sub T.held (k, t)
  unfold freeL
  rw [if_pos hr]
  by_cases h1 : (hdT T.held k == t) = false ∨ (oldL (qL T.wait k) == zT) = true
  · rw [if_pos h1]
    refine ⟨by have := hm.len; have := hsw.length_le; have := hsh.length_le; dsimp only; omega, fun x hx => hm.hh x (hsh.subset hx), fun x hx => hm.hw x (hsw.subset hx), (hsh.map _).nodup hm.nd, fun x hx => ?_⟩
    have hmw := mw_sub hm hsw hx
    show hdT (wiL T.held (k, t)) x.1 ≠ zT ∧ hdT (wiL T.held (k, t)) x.1 ≠ x.2 ∧ _
    by_cases h2 : hdT T.held k = t
    · have hz : oldL (qL T.wait k) = zT := by
        rcases h1 with h1 | h1
        · rw [h2] at h1
          simp at h1
        · simpa using h1
      have hq : qL T.wait k = [] := by
        cases hq : qL T.wait k with
        | nil => rfl
        | cons y r =>
          have := (oldL_spec (q_names hm k) (by rw [hq]; simp)).2.1
          exact absurd hz this
      have hxk : x.1 ≠ k := by
        intro e
        have : x.2 ∈ qL T.wait k := qL_mem.2 (by rw [← e]; exact hsw.subset hx)
        rw [hq] at this
        simp at this
      rw [hd_wi hxk]
      exact hmw
    · have hn : (k, t) ∉ T.held := fun hx => h2 (find_key hm.nd hx)
      rw [wi_not hn]
      exact hmw
  · rw [if_neg h1]
    have h2 : hdT T.held k = t := by
      rcases Bool.eq_false_or_eq_true (hdT T.held k == t) with e | e
      · simpa using e
      · exact absurd (.inl e) h1
    have hz : oldL (qL T.wait k) ≠ zT := fun e => h1 (.inr (by simp [e]))
    have hne : qL T.wait k ≠ [] := by
      intro e
      rw [e] at hz
      exact hz rfl
    obtain ⟨g1, g2, g3⟩ := oldL_spec (q_names hm k) hne
    generalize oldL (qL T.wait k) = g at *
    have hg := qL_mem.1 g1
    have hs2 : (wiL (wiL T.wait (k, t)) (k, g)).Sublist T.wait := (wi_sub _ _).trans hsw
    have hkin : (k, t) ∈ T.held := by
      obtain ⟨x, hx, e1, e2, _⟩ := hd_some hm.hh (k := k) (by rw [h2]; exact nam_ne ht)
      have : x = (k, t) := by
        rw [← h2, e2, ← e1]
      rw [← this]
      exact hx
    have hnk : ∀ x ∈ wiL T.held (k, t), x.1 ≠ k := by
      intro x hx e
      rw [wi_mem] at hx
      have : hdT T.held x.1 = x.2 := find_key hm.nd hx.1
      rw [e, h2] at this
      exact hx.2 (by rw [← e, this])
    refine ⟨?_, ?_, fun x hx => hm.hw x (hs2.subset hx), ?_, ?_⟩
    · have h3 := hm.len
      have h4 := hs2.length_le
      have h5 : (wiL T.held (k, t)).length < T.held.length := List.length_filter_lt_length_iff_exists.2 ⟨(k, t), hkin, by simp⟩
      simp only [List.length_append, List.length_singleton]
      omega
    · intro x hx
      rcases List.mem_append.1 hx with hx | hx
      · exact hm.hh x (hsh.subset hx)
      · rw [List.mem_singleton] at hx
        subst hx
        have := hm.hw _ hg
        exact this
    · show ((wiL T.held (k, t) ++ [(k, g)]).map (·.1)).Nodup
      rw [List.map_append, List.nodup_append]
      refine ⟨(hsh.map _).nodup hm.nd, by simp, ?_⟩
      intro a ha b hb e
      simp only [List.map_cons, List.map_nil, List.mem_singleton] at hb
      obtain ⟨x, hx, rfl⟩ := List.mem_map.1 ha
      exact hnk x hx (by rw [e, hb])
    · intro x hx
      have hmw := mw_sub hm hs2 hx
      show hdT (wiL T.held (k, t) ++ [(k, g)]) x.1 ≠ zT ∧ hdT (wiL T.held (k, t) ++ [(k, g)]) x.1 ≠ x.2 ∧ _
      by_cases hxk : x.1 = k
      · have e0 : hdT (wiL T.held (k, t) ++ [(k, g)]) x.1 = g := by
          rw [hxk]
          exact hd_last hnk
        rw [e0]
        refine ⟨g2, ?_, hmw.2.2⟩
        intro e
        have := (wi_mem.1 hx).2
        exact this (by rw [← hxk, e])
      · rw [hd_app2 hxk, hd_wi hxk]
        exact hmw
/-- Steps, one behind the other. -/
def stepL (T : TabV) (s : StepV) : TabV :=
  if s.2.2 = true then (if (freeL T s.1 s.2.1).2.2 = 0 then (freeL T s.1 s.2.1).1 else T) else (if (askL T s.1 s.2.1).2.2 = 0 then (askL T s.1 s.2.1).1 else T)
def playL (l : List StepV) : TabV := (l.take 60).foldl stepL zTab
theorem may_z : MayT zTab := (chk_iff _).1 (by kernel_rfl)
theorem may_step {T : TabV} (h : MayT T) (s : StepV) : MayT (stepL T s) := by
  unfold stepL
  split
  · split
    · rename_i h0
      exact free_may h0
    · exact h
  · split
    · rename_i h0
      exact ask_may h0
    · exact h
theorem may_play (l : List StepV) : ∀ {T : TabV}, MayT T → MayT (l.foldl stepL T) := by
  induction l with
  | nil => exact fun h => h
  | cons s r ih => exact fun h => ih (may_step h s)
theorem play_may (l : List StepV) : MayT (playL l) := may_play _ may_z
end Go.Proofs.Ytgfpeknhabbkbab
