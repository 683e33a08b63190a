/- Tables that may be, in plain data; what asking makes of them. -/
import Derived.Test.YtgfpeknhabbkbabFreeP
namespace Go.Proofs.Ytgfpeknhabbkbab
open Go.RowKit
set_option linter.all false
/-- A table that may be. -/
structure MayT (T : TabV) : Prop where
  len : T.held.length + T.wait.length ≤ 200
  hh : ∀ h ∈ T.held, holB h = true
  hw : ∀ h ∈ T.wait, holB h = true
  nd : (T.held.map (·.1)).Nodup
  mw : ∀ w ∈ T.wait, hdT T.held w.1 ≠ zT ∧ hdT T.held w.1 ≠ w.2 ∧ (qL T.wait w.1).length ≤ 4 ∧ (qL T.wait w.1).count w.2 ≤ 1
theorem tw_nodup : ∀ (l pre : List HoldV), (pre.map (·.1)).Nodup → (twB pre l = false ↔ ((pre ++ l).map (·.1)).Nodup)
  | [], pre, hp => by simpa [twB] using hp
  | h :: t, pre, hp => by
    rw [twB, Bool.or_eq_false_iff]
    by_cases hm : pre.any (fun a => a.1 == h.1) = true
    · rw [hm]
      simp only [Bool.true_eq_false, false_and, false_iff]
      rw [List.any_eq_true] at hm
      obtain ⟨x, hx, he⟩ := hm
      rw [List.map_append, List.map_cons]
      intro hn
      have := (List.nodup_append.1 hn).2.2 x.1 (List.mem_map_of_mem hx) h.1 (by simp)
      exact this (by simpa using he)
    · rw [Bool.not_eq_true] at hm
      have hp' : ((pre ++ [h]).map (·.1)).Nodup := by
        rw [List.map_append, List.nodup_append]
        refine ⟨hp, by simp, ?_⟩
        intro a ha b hb e
        simp only [List.map_cons, List.map_nil, List.mem_singleton] at hb
        obtain ⟨x, hx, rfl⟩ := List.mem_map.1 ha
        rw [List.any_eq_false] at hm
        exact hm x hx (by simp [e, hb])
      have ih := tw_nodup t (pre ++ [h]) hp'
      rw [List.append_assoc] at ih
      simp only [hm, true_and]
      exact ih
theorem mw_iff (T : TabV) (w : HoldV) : mwB T w = true ↔ (hdT T.held w.1 ≠ zT ∧ hdT T.held w.1 ≠ w.2 ∧ (qL T.wait w.1).length ≤ 4 ∧ (qL T.wait w.1).count w.2 ≤ 1) := by
  unfold mwB
  simp only [Bool.not_eq_true', Bool.or_eq_false_iff, decide_eq_false_iff_not, beq_eq_false_iff_ne, ne_eq, Nat.not_lt]
theorem chk_iff (T : TabV) : chkB T = true ↔ MayT T := by
  unfold chkB
  simp only [Bool.and_eq_true, decide_eq_true_eq, List.all_eq_true, Bool.not_eq_true']
  have h1 := tw_nodup T.held [] (by simp)
  simp only [List.nil_append] at h1
  constructor
  · rintro ⟨a, b, c, d, e⟩
    exact ⟨a, b, c, h1.1 d, fun w hw => (mw_iff T w).1 (e w hw)⟩
  · rintro ⟨a, b, c, d, e⟩
    exact ⟨a, b, c, h1.2 d, fun w hw => (mw_iff T w).2 (e w hw)⟩
theorem nam_ne {t : TxnV} (h : namB t = true) : t ≠ zT := by
  intro e
  rw [e] at h
  exact absurd h (by decide)
theorem hol_nam {h : HoldV} (k : holB h = true) : namB h.2 = true := by
  unfold holB at k
  rw [Bool.and_eq_true] at k
  exact k.2
/-- Who holds a key is somebody, just if it is held. -/
theorem hd_some {l : List HoldV} {k : KeyV} (hl : ∀ h ∈ l, holB h = true) (h : hdT l k ≠ zT) : ∃ x ∈ l, x.1 = k ∧ hdT l k = x.2 ∧ l.find? (fun h => h.1 == k) = some x := by
  unfold hdT at h ⊢
  cases hf : l.find? (fun h => h.1 == k) with
  | none =>
    rw [hf] at h
    exact absurd rfl h
  | some x =>
    exact ⟨x, List.mem_of_find?_eq_some hf, by simpa using List.find?_some hf, rfl, rfl⟩
theorem hd_none {l : List HoldV} {k : KeyV} (hl : ∀ h ∈ l, holB h = true) (h : hdT l k = zT) : ∀ x ∈ l, x.1 ≠ k := by
  unfold hdT at h
  cases hf : l.find? (fun h => h.1 == k) with
  | none =>
    intro x hx e
    rw [List.find?_eq_none] at hf
    exact hf x hx (by simp [e])
  | some y =>
    rw [hf] at h
    have hy := List.mem_of_find?_eq_some hf
    exact absurd h (nam_ne (hol_nam (hl y hy)))
theorem hd_app {l m : List HoldV} {k : KeyV} (h : ∃ x, l.find? (fun h => h.1 == k) = some x) : hdT (l ++ m) k = hdT l k := by
  obtain ⟨x, hx⟩ := h
  unfold hdT
  rw [List.find?_append, hx]
  rfl
theorem hd_last {l : List HoldV} {k : KeyV} {t : TxnV} (h : ∀ x ∈ l, x.1 ≠ k) : hdT (l ++ [(k, t)]) k = t := by
  have : l.find? (fun h => h.1 == k) = none := by
    rw [List.find?_eq_none]
    intro x hx
    simp [h x hx]
  unfold hdT
  rw [List.find?_append, this]
  simp
theorem qL_app (l m : List HoldV) (k : KeyV) : qL (l ++ m) k = qL l k ++ qL m k := by
  unfold qL
  rw [List.filter_append, List.map_append]
theorem qL_one (k : KeyV) (t : TxnV) : qL [(k, t)] k = [t] := by simp [qL]
theorem qL_oth {k k' : KeyV} (h : k ≠ k') (t : TxnV) : qL [(k, t)] k' = [] := by simp [qL, h]
theorem qL_mem {l : List HoldV} {k : KeyV} {t : TxnV} : t ∈ qL l k ↔ (k, t) ∈ l := by
  unfold qL
  rw [List.mem_map]
  constructor
  · rintro ⟨x, hx, rfl⟩
    rw [List.mem_filter] at hx
    have : x.1 = k := by simpa using hx.2
    rw [← this]
    exact hx.1
  · intro h
    exact ⟨(k, t), List.mem_filter.2 ⟨h, by simp⟩, rfl⟩
/-- At most four wait for a key. -/
theorem q_four {T : TabV} (h : MayT T) (k : KeyV) : (qL T.wait k).length ≤ 4 := by
  cases hq : qL T.wait k with
  | nil => simp
  | cons x r =>
    have hm : x ∈ qL T.wait k := by rw [hq]; simp
    have := (h.mw (k, x) (qL_mem.1 hm)).2.2.1
    rw [← hq]
    exact this
theorem hd_ex {T : TabV} (h : MayT T) {k : KeyV} (hz : hdT T.held k ≠ zT) : ∃ x, T.held.find? (fun h => h.1 == k) = some x := by
  obtain ⟨x, _, _, _, hx⟩ := hd_some h.hh hz
  exact ⟨x, hx⟩
theorem may_held {T : TabV} {k : KeyV} {t : TxnV} (h : MayT T) (hk : keyB k = true) (ht : namB t = true) (hl : T.held.length + T.wait.length ≠ 200) (hz : hdT T.held k = zT) : MayT ⟨T.held ++ [(k, t)], T.wait⟩ := by
  have hn := hd_none h.hh hz
  refine ⟨by have := h.len; simp; omega, ?_, h.hw, ?_, ?_⟩
  · intro x hx
    rcases List.mem_append.1 hx with hx | hx
    · exact h.hh x hx
    · rw [List.mem_singleton] at hx
      subst hx
      unfold holB
      rw [hk, ht]
      rfl
  · show ((T.held ++ [(k, t)]).map (·.1)).Nodup
    rw [List.map_append, List.nodup_append]
    refine ⟨h.nd, by simp, ?_⟩
    intro a ha b hb e
    simp only [List.map_cons, List.map_nil, List.mem_singleton] at hb
    obtain ⟨x, hx, rfl⟩ := List.mem_map.1 ha
    exact hn x hx (by rw [e, hb])
  · intro x hx
    have hm := h.mw x hx
    show hdT (T.held ++ [(k, t)]) x.1 ≠ zT ∧ hdT (T.held ++ [(k, t)]) x.1 ≠ x.2 ∧ _
    rw [hd_app (hd_ex h hm.1)]
    exact hm
theorem may_wait {T : TabV} {k : KeyV} {t : TxnV} (h : MayT T) (hk : keyB k = true) (ht : namB t = true) (hl : T.held.length + T.wait.length ≠ 200) (hz : hdT T.held k ≠ zT) (hn : hdT T.held k ≠ t) (hc : (qL T.wait k).count t = 0) (h4 : (qL T.wait k).length ≠ 4) : MayT ⟨T.held, T.wait ++ [(k, t)]⟩ := by
  have h4' := q_four h k
  refine ⟨by have := h.len; simp; omega, h.hh, ?_, h.nd, ?_⟩
  · intro x hx
    rcases List.mem_append.1 hx with hx | hx
    · exact h.hw x hx
    · rw [List.mem_singleton] at hx
      subst hx
      unfold holB
      rw [hk, ht]
      rfl
  · intro x hx
    show hdT T.held x.1 ≠ zT ∧ hdT T.held x.1 ≠ x.2 ∧ (qL (T.wait ++ [(k, t)]) x.1).length ≤ 4 ∧ (qL (T.wait ++ [(k, t)]) x.1).count x.2 ≤ 1
    rw [qL_app]
    rcases List.mem_append.1 hx with hx | hx
    · have hm := h.mw x hx
      refine ⟨hm.1, hm.2.1, ?_⟩
      by_cases hk' : x.1 = k
      · rw [hk', qL_one, List.length_append, List.count_append, List.length_singleton]
        have hxt : t ≠ x.2 := by
          intro e
          have : x.2 ∈ qL T.wait k := qL_mem.2 (by rw [← hk']; exact hx)
          have h1 := List.count_pos_iff.2 this
          rw [← e, hc] at h1
          omega
        rw [List.count_singleton]
        have := hm.2.2
        rw [hk'] at this
        have hb : (t == x.2) = false := beq_eq_false_iff_ne.2 hxt
        rw [hb]
        exact ⟨by omega, by simpa using this.2⟩
      · rw [qL_oth (fun e => hk' e.symm), List.append_nil]
        exact hm.2.2
    · rw [List.mem_singleton] at hx
      subst hx
      refine ⟨hz, hn, ?_⟩
      rw [qL_one, List.length_append, List.count_append, List.length_singleton, hc, List.count_singleton]
      simp
      omega
theorem ask_ok {T : TabV} {k : KeyV} {t : TxnV} (h : (askL T k t).2.2 = 0) : MayT T ∧ keyB k = true ∧ namB t = true ∧ refE T k t = 0 := by
  by_cases hr : refE T k t = 0
  · obtain ⟨a, b, c⟩ := ref_ok hr
    exact ⟨(chk_iff T).1 a, b, c, hr⟩
  · unfold askL at h
    rw [if_neg hr] at h
    exact absurd h hr
/-- What asking leaves may be. -/
theorem ask_may {T : TabV} {k : KeyV} {t : TxnV} (h : (askL T k t).2.2 = 0) : MayT (askL T k t).1 := by
  obtain ⟨hm, hk, ht, hr⟩ := ask_ok h
  unfold askL at h ⊢
  rw [if_pos hr] at h ⊢
  by_cases h1 : (hdT T.held k == t) = true ∨ 0 < (qL T.wait k).count t
  · rw [if_pos h1]
    exact hm
  · rw [if_neg h1] at h ⊢
    by_cases h2 : T.held.length + T.wait.length = 200 ∨ (qL T.wait k).length = 4
    · rw [if_pos h2] at h
      simp at h
    · rw [if_neg h2] at h ⊢
      have a1 : hdT T.held k ≠ t := fun e => h1 (.inl (by simp [e]))
      have a2 : (qL T.wait k).count t = 0 := by
        rcases Nat.eq_zero_or_pos ((qL T.wait k).count t) with e | e
        · exact e
        · exact absurd (.inr e) h1
      by_cases h3 : (hdT T.held k == zT) = true
      · rw [if_pos h3]
        exact may_held hm hk ht (fun e => h2 (.inl e)) (by simpa using h3)
      · rw [if_neg h3]
        exact may_wait hm hk ht (fun e => h2 (.inl e)) (by simpa using h3) a1 a2 (fun e => h2 (.inr e))
/-- Whoever asks again is told the same. -/
theorem ask_again {T : TabV} {k : KeyV} {t : TxnV} (h : (askL T k t).2.2 = 0) : askL (askL T k t).1 k t = askL T k t := by
  obtain ⟨hm, hk, ht, hr⟩ := ask_ok h
  have hm1 := ask_may h
  have hr1 : refE (askL T k t).1 k t = 0 := by
    unfold refE
    rw [if_pos ((chk_iff _).2 hm1), hk, ht]
    rfl
  revert hr1 hm1 h
  unfold askL
  rw [if_pos hr]
  by_cases h1 : (hdT T.held k == t) = true ∨ 0 < (qL T.wait k).count t
  · rw [if_pos h1]
    intro _ _ _
    dsimp only
    rw [if_pos hr, if_pos h1]
  · rw [if_neg h1]
    by_cases h2 : T.held.length + T.wait.length = 200 ∨ (qL T.wait k).length = 4
    · rw [if_pos h2]
      intro h
      simp at h
    · rw [if_neg h2]
      by_cases h3 : (hdT T.held k == zT) = true
      · rw [if_pos h3]
        intro _ _ hr1
        dsimp only at hr1 ⊢
        have e : hdT (T.held ++ [(k, t)]) k = t := hd_last (hd_none hm.hh (by simpa using h3))
        rw [if_pos hr1, e, if_pos (.inl (by simp))]
        simp
      · rw [if_neg h3]
        intro _ _ hr1
        dsimp only at hr1 ⊢
        have e : hdT T.held k ≠ t := fun e => h1 (.inl (by simp [e]))
        have a : 0 < (qL (T.wait ++ [(k, t)]) k).count t := by
          rw [qL_app, qL_one, List.count_append]
          simp
        rw [if_pos hr1, if_pos (.inr a), beq_eq_false_iff_ne.2 e]
end Go.Proofs.Ytgfpeknhabbkbab
