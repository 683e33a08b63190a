/- Whether a table may be, as the document goes about it: plain data. -/
import Derived.Test.YtgfpeknhabbkbaaMayP
import Derived.Test.YtgfpeknhabbkbaaRefA
namespace Go.Proofs.Ytgfpeknhabbkbaa
open Go.RowKit
set_option linter.all false
def ok1 (l : List HoldV) (i : Nat) : Prop := ∀ (h : i < l.length), holB l[i] = true ∧ ∀ j (hj : j < i), (l[j]'(by omega)).1 ≠ l[i].1
def ok3 (T : TabV) (i : Nat) : Prop := ∀ (h : i < T.wait.length), holB T.wait[i] = true ∧ heldB T.held T.wait[i].1 = true ∧ hdT T.held T.wait[i].1 ≠ T.wait[i].2 ∧ (qL T.wait T.wait[i].1).length ≤ 4 ∧ ∀ j (hj : j < i), T.wait[j]'(by omega) ≠ T.wait[i]
theorem q_count (l : List HoldV) (k : KeyV) (t : TxnV) : (qL l k).count t = l.count (k, t) := by
  induction l with
  | nil => rfl
  | cons x r ih =>
    have e : x :: r = [x] ++ r := rfl
    rw [e, qL_app, List.count_append, List.count_append, ih]
    congr 1
    obtain ⟨a, b⟩ := x
    by_cases h : a = k
    · subst h
      rw [qL_one, List.count_singleton, List.count_singleton]
      by_cases hb : b = t
      · simp [hb]
      · simp [hb]
    · rw [qL_oth h, List.count_singleton]
      have : ((a, b) == (k, t)) = false := beq_eq_false_iff_ne.2 (fun e => h (by simpa using congrArg Prod.fst e))
      rw [this]
      rfl
theorem held_iff {l : List HoldV} (hl : ∀ h ∈ l, holB h = true) (k : KeyV) : heldB l k = true ↔ hdT l k ≠ zT := by
  constructor
  · intro h e
    unfold heldB at h
    rw [List.any_eq_true] at h
    obtain ⟨x, hx, he⟩ := h
    exact hd_none hl e x hx (by simpa using he)
  · intro h
    obtain ⟨x, hx, e, _⟩ := hd_some hl h
    unfold heldB
    rw [List.any_eq_true]
    exact ⟨x, hx, by simp [e]⟩
theorem rchk_iff (T : TabV) : chkB T = true ↔ (T.held.length + T.wait.length ≤ 200 ∧ (∀ i, ok1 T.held i) ∧ ∀ i, ok3 T i) := by
  rw [chk_iff]
  constructor
  · intro m
    refine ⟨m.len, fun i h => ⟨m.hh _ (List.getElem_mem h), fun j hj e => ?_⟩, fun i h => ?_⟩
    · have hp := List.pairwise_map.1 m.nd
      rw [List.pairwise_iff_getElem] at hp
      exact hp j i (by omega) h hj e
    · have hm := m.mw _ (List.getElem_mem h)
      refine ⟨m.hw _ (List.getElem_mem h), (held_iff m.hh _).2 hm.1, hm.2.1, hm.2.2.1, fun j hj e => ?_⟩
      have hc := hm.2.2.2
      rw [q_count] at hc
      have key : ∀ y, y ∈ T.wait.take i → y ∈ T.wait.drop i → 2 ≤ T.wait.count y := fun y a b => by
        have e0 : (T.wait.take i ++ T.wait.drop i).count y = T.wait.count y := by rw [List.take_append_drop]
        rw [List.count_append] at e0
        have a1 := List.count_pos_iff.2 a
        have a2 := List.count_pos_iff.2 b
        omega
      have h1 := key T.wait[i] (by rw [← e]; exact List.mem_take_iff_getElem.2 ⟨j, by omega, rfl⟩) (by rw [List.drop_eq_getElem_cons h]; exact List.mem_cons_self)
      have h2 : T.wait.count T.wait[i] ≤ 1 := hc
      omega
  · rintro ⟨h0, h1, h3⟩
    have hh : ∀ x ∈ T.held, holB x = true := fun x hx => by
      obtain ⟨i, hi, rfl⟩ := List.getElem_of_mem hx
      exact (h1 i hi).1
    refine ⟨h0, hh, fun x hx => ?_, ?_, fun x hx => ?_⟩
    · obtain ⟨i, hi, rfl⟩ := List.getElem_of_mem hx
      exact (h3 i hi).1
    · refine List.pairwise_map.2 ?_
      rw [List.pairwise_iff_getElem]
      exact fun i j hi hj hij => (h1 j hj).2 i hij
    · have hnd : T.wait.Nodup := by
        show List.Pairwise _ _
        rw [List.pairwise_iff_getElem]
        exact fun i j hi hj hij => (h3 j hj).2.2.2.2 i hij
      obtain ⟨i, hi, rfl⟩ := List.getElem_of_mem hx
      have h := h3 i hi
      refine ⟨(held_iff hh _).1 h.2.1, h.2.2.1, h.2.2.2.1, ?_⟩
      rw [q_count]
      exact List.nodup_iff_count.1 hnd _
theorem rchk_not {T : TabV} (h : ¬ (T.held.length + T.wait.length ≤ 200 ∧ (∀ i, ok1 T.held i) ∧ ∀ i, ok3 T i)) : chkI T = 160 := by
  unfold chkI
  rw [if_neg (fun e => h ((rchk_iff T).1 e))]
theorem rchk_yes {T : TabV} (h : T.held.length + T.wait.length ≤ 200) (h1 : ∀ i, ok1 T.held i) (h3 : ∀ i, ok3 T i) : chkI T = 0 := by
  unfold chkI
  rw [if_pos ((rchk_iff T).2 ⟨h, h1, h3⟩)]
end Go.Proofs.Ytgfpeknhabbkbaa
