/- Who comes to hold a key is older than all others that wait for it: plain data. -/
import Derived.Test.YtgfpeknhabbkbaaPlayP
namespace Go.Proofs.Ytgfpeknhabbkbaa
open Go.RowKit
set_option linter.all false
/-- Who holds a key, as a loop finds it. -/
def lhF (k : KeyV) (acc : TxnV) (h : HoldV) : TxnV := if (h.1 == k) = true then h.2 else acc
def lhT (l : List HoldV) (k : KeyV) : TxnV := l.foldl (lhF k) zT
theorem lh_step {l : List HoldV} {t : Nat} {k : KeyV} (h : t < l.length) : lhT (l.take (t + 1)) k = lhF k (lhT (l.take t) k) l[t] := by
  unfold lhT
  rw [List.take_succ_eq_append_getElem h, List.foldl_append]
  rfl
theorem lh_none {k : KeyV} : ∀ {l : List HoldV} {a : TxnV}, (∀ x ∈ l, x.1 ≠ k) → l.foldl (lhF k) a = a
  | [], a, _ => rfl
  | x :: r, a, h => by
    rw [List.foldl_cons]
    have hx : (x.1 == k) = false := beq_eq_false_iff_ne.2 (h x (by simp))
    have e : lhF k a x = a := by
      unfold lhF
      rw [hx]
      simp
    rw [e]
    exact lh_none (fun y hy => h y (List.mem_cons_of_mem _ hy))
theorem lh_hd {k : KeyV} : ∀ {l : List HoldV}, (l.map (·.1)).Nodup → lhT l k = hdT l k
  | [], _ => rfl
  | x :: r, h => by
    rw [List.map_cons, List.nodup_cons] at h
    unfold lhT hdT
    rw [List.foldl_cons]
    by_cases hx : x.1 = k
    · rw [List.find?_cons_of_pos (by simpa using hx)]
      have e : lhF k zT x = x.2 := by
        unfold lhF
        simp [hx]
      rw [e]
      exact lh_none (fun y hy e => h.1 (by rw [hx, ← e]; exact List.mem_map_of_mem (f := (·.1)) hy))
    · rw [List.find?_cons_of_neg (by simpa using hx)]
      have e : lhF k zT x = zT := by
        unfold lhF
        simp [hx]
      rw [e]
      exact lh_hd h.2
theorem next_ref {T : TabV} (h : MayT T) {k : KeyV} {f : TxnV} (hf : hdT T.held k = f) (hz : f ≠ zT) : refE T k f = 0 := by
  obtain ⟨x, hx, e1, e2, _⟩ := hd_some h.hh (k := k) (by rw [hf]; exact hz)
  have hb := h.hh x hx
  unfold holB at hb
  rw [Bool.and_eq_true, e1, ← e2, hf] at hb
  unfold refE
  rw [if_pos ((chk_iff T).2 h), hb.1, hb.2]
  rfl
/-- The one that comes next. -/
theorem next_ok {T : TabV} (h : MayT T) {k : KeyV} {f : TxnV} (hf : hdT T.held k = f) (hz : f ≠ zT) : (freeL T k f).2.2 = 0 ∧ ∀ x ∈ T.wait, x.1 = k → x.2 = (freeL T k f).2.1 ∨ oldB (freeL T k f).2.1 x.2 = true := by
  have hr := next_ref h hf hz
  unfold freeL
  rw [if_pos hr]
  refine ⟨by split <;> rfl, fun x hx hk => ?_⟩
  have hq : x.2 ∈ qL T.wait k := qL_mem.2 (by rw [← hk]; exact hx)
  have hne : qL T.wait k ≠ [] := fun e => by rw [e] at hq; simp at hq
  obtain ⟨g1, g2, g3⟩ := oldL_spec (q_names h k) hne
  rw [if_neg (by
    rw [hf]
    simp [g2])]
  rcases g3 x.2 hq with e | e
  · exact .inl e.symm
  · exact .inr e
end Go.Proofs.Ytgfpeknhabbkbaa
