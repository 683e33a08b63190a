/- The oldest one of a table is in no Wounds: plain data. -/
import Derived.Test.YtgfpeknhabbkbaaNxP
import Derived.Test.YtgfpeknhabbkbaaWounds
namespace Go.Proofs.Ytgfpeknhabbkbaa
open Go.RowKit
set_option linter.all false
/-- All names of a table, in order. -/
def namL (T : TabV) : List TxnV := T.held.map (·.2) ++ T.wait.map (·.2)
theorem nam_len (T : TabV) : (namL T).length = T.held.length + T.wait.length := by simp [namL]
theorem nam_ok {T : TabV} (h : MayT T) : ∀ x ∈ namL T, x ≠ zT := by
  intro x hx
  rcases List.mem_append.1 hx with hx | hx
  · obtain ⟨y, hy, rfl⟩ := List.mem_map.1 hx
    exact nam_ne (hol_nam (h.hh y hy))
  · obtain ⟨y, hy, rfl⟩ := List.mem_map.1 hx
    exact nam_ne (hol_nam (h.hw y hy))
theorem old_step {l : List TxnV} {t : Nat} (h : t < l.length) : oldL (l.take (t + 1)) = oldF (oldL (l.take t)) l[t] := by
  unfold oldL
  rw [List.take_succ_eq_append_getElem h, List.foldl_append]
  rfl
theorem sound_wn {T : TabV} (h : MayT T) : ∀ x ∈ wnL T, x.2 ≠ oldL (namL T) ∧ T.wait.any (fun y => y.1 == x.1 && oldB y.2 x.2) = true := by
  intro x hx
  unfold wnL at hx
  rw [if_pos ((chk_iff T).2 h), List.mem_filter] at hx
  obtain ⟨hx1, hx2⟩ := hx
  unfold wdB at hx2
  rw [List.any_eq_true] at hx2
  obtain ⟨y, hy, ho⟩ := hx2
  have hw := qL_mem.1 hy
  refine ⟨fun e => ?_, ?_⟩
  · have hm : y ∈ namL T := List.mem_append_right _ (List.mem_map_of_mem (f := (·.2)) hw)
    have hs := (oldL_spec (nam_ok h) (fun e => by rw [e] at hm; simp at hm)).2.2 y hm
    rw [← e] at hs
    rcases hs with hs | hs
    · rw [hs, old_irr] at ho
      cases ho
    · have := old_trans ho hs
      rw [old_irr] at this
      cases this
  · rw [List.any_eq_true]
    exact ⟨_, hw, by simp [ho]⟩
theorem wn_len (T : TabV) : (wnL T).length ≤ T.held.length := by
  unfold wnL
  split
  · exact List.length_filter_le _ _
  · simp
end Go.Proofs.Ytgfpeknhabbkbaa
