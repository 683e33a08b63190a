/- Begin and End in plain data. -/
import Derived.Test.YtilinemcmgjiiaaDoorLas
import Derived.Test.YtilinemcmgjiiaaDoorWit
namespace Go.Proofs.YtilinemcmgjiiaaDoor
open Go.RowKit
set_option linter.all false
theorem chk_len6 : ∀ (l : List SesV) (a : Int), 0 ≤ a → chkS a l = true → (l.length : Int) ≤ 6 - a ∨ l = []
  | [], _, _, _ => .inr rfl
  | s :: l, a, ha, h => by
    rw [chkS, Bool.and_eq_true, okS, Bool.and_eq_true, Bool.and_eq_true] at h
    obtain ⟨⟨h1, h2, _⟩, h4⟩ := h
    have h1' : a < s.c := of_decide_eq_true h1
    have h6 : s.c ≤ 6 := by
      unfold namB at h2
      rw [Bool.and_eq_true] at h2
      exact (of_decide_eq_true h2.1).2
    rcases chk_len6 l s.c (by omega) h4 with h | h
    · left
      simp only [List.length_cons]
      omega
    · left
      subst h
      simp
      omega
theorem chk_six {l : List SesV} (h : chkS 0 l = true) : l.length ≤ 6 := by
  rcases chk_len6 l 0 (by omega) h with h | h
  · omega
  · subst h
    simp
theorem chk_each : ∀ (l : List SesV) (a : Int), chkS a l = true → ∀ s ∈ l, 1 ≤ s.q ∧ s.q ≤ 100000
  | [], _, _, s, hs => by cases hs
  | x :: l, a, h, s, hs => by
    rw [chkS, Bool.and_eq_true, okS, Bool.and_eq_true, Bool.and_eq_true] at h
    obtain ⟨⟨h1, h2, _⟩, h4⟩ := h
    rcases List.mem_cons.1 hs with rfl | hs
    · unfold namB at h2
      rw [Bool.and_eq_true] at h2
      exact of_decide_eq_true h2.2
    · exact chk_each l x.c h4 s hs
def lastV (l : List SesV) (c : Int) : SesV := match l.find? (fun s => s.c == c) with | some s => s | none => ⟨c, 0, true, zAns⟩
theorem last_v (l : List SesX) (c : Int) : (lastX l c).v = lastV (l.map SesX.v) c := by
  unfold lastX lastV
  rw [List.find?_map]
  have e : ((fun s : SesV => s.c == c) ∘ SesX.v) = fun s : SesX => s.c == c := rfl
  rw [e]
  cases l.find? (fun s => s.c == c) <;> rfl
theorem last_q {l : List SesV} {c : Int} (h : chkS 0 l = true) : 0 ≤ (lastV l c).q ∧ (lastV l c).q ≤ 100000 := by
  unfold lastV
  cases hf : l.find? (fun s => s.c == c) with
  | none => exact ⟨Int.le_refl _, by dsimp only; omega⟩
  | some s =>
    have := chk_each l 0 h s (List.mem_of_find?_eq_some hf)
    exact ⟨by dsimp only; omega, this.2⟩
def atV (l : List SesV) (c : Int) : Nat := (l.takeWhile (fun s => ltB s.c c)).length
theorem at_v (l : List SesX) (c : Int) : atL l c = atV (l.map SesX.v) c := by
  unfold atL atV
  rw [List.takeWhile_map, List.length_map]
  rfl
def bhV (l : List SesV) (c : Int) : Nat := match l[atV l c]? with | some s => if s.c = c then atV l c + 1 else atV l c | none => atV l c
theorem bh_v (l : List SesX) (c : Int) : bhL l c = bhV (l.map SesX.v) c := by
  unfold bhL bhV
  rw [← at_v, List.getElem?_map]
  cases l[atL l c]? <;> rfl
def withV (l : List SesV) (one : SesV) : List SesV := l.take (atV l one.c) ++ ([one] ++ l.drop (bhV l one.c))
theorem with_v (l : List SesX) (one : SesX) : (withX l one).map SesX.v = withV (l.map SesX.v) one.v := by
  unfold withX withV
  rw [List.map_append, List.map_append, List.map_take, List.map_drop, at_v, bh_v]
  rfl
/-- What beginning gives. -/
def begV (l : List SesV) (t : TxnV) : List SesV × Int × AnsV × Int :=
  if rfsE l t = 0 then
    if (lastV l t.1).d = true ∧ t.2 = (lastV l t.1).q + 1 then (withV l ⟨t.1, t.2, false, zAns⟩, 1, zAns, 0)
    else if (lastV l t.1).d = true ∧ t.2 = (lastV l t.1).q then (l, 3, (lastV l t.1).a, 0)
    else if t.2 = (lastV l t.1).q then (l, 2, zAns, 0)
    else if t.2 < (lastV l t.1).q then ([], 0, zAns, 171) else ([], 0, zAns, 172)
  else ([], 0, zAns, rfsE l t)
def endV (l : List SesV) (t : TxnV) (a : AnsV) : List SesV × Int :=
  if rfsE l t = 0 then
    if (lastV l t.1).d = true ∨ ¬ (lastV l t.1).q = t.2 then ([], 172) else (withV l ⟨t.1, t.2, true, a⟩, 0)
  else ([], rfsE l t)
theorem rfs_ok {l : List SesV} {t : TxnV} (h : rfsE l t = 0) : chkS 0 l = true ∧ namB t = true := by
  unfold rfsE at h
  have h1 : chkS 0 l = true := by
    by_cases hc : chkE l = 0
    · unfold chkE bE at hc
      split at hc
      · assumption
      · omega
    · rw [if_neg hc] at h
      omega
  have h2 : chkE l = 0 := by
    unfold chkE bE
    rw [if_pos h1]
  rw [if_pos h2] at h
  refine ⟨h1, ?_⟩
  split at h
  · assumption
  · omega
/-- What Begin hands back. -/
def BegBack (R : List SesV × Int × AnsV × Int) (w : World) (e : Ending) (w' : World) : Prop := ∃ a c ys, ∃ x : AnsX, e = .returned (.tuple #[.slice a R.1.length c, .int .i64 R.2.1, .agg x.cs, .int .i64 R.2.2.2]) ∧ ys.map SesX.v = R.1 ∧ SesOwn w.heap.size w' (.slice a R.1.length c) ys ∧ x.v = R.2.2.1 ∧ AnsOwn w.heap.size w' x ∧ Below w.heap.size w w'
def EndBack (R : List SesV × Int) (w : World) (e : Ending) (w' : World) : Prop := ∃ a c ys, e = .returned (.tuple #[.slice a R.1.length c, .int .i64 R.2]) ∧ ys.map SesX.v = R.1 ∧ SesOwn w.heap.size w' (.slice a R.1.length c) ys ∧ Below w.heap.size w w'
end Go.Proofs.YtilinemcmgjiiaaDoor
