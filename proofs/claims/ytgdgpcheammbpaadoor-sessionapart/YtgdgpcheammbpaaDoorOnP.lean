/- Each once, in plain data. -/
import Derived.Test.YtgdgpcheammbpaaDoorLiv
namespace Go.Proofs.YtgdgpcheammbpaaDoor
open Go.RowKit
set_option linter.all false
theorem take_at (l : List SesV) (c : Int) : l.take (atV l c) = l.takeWhile (fun s => ltB s.c c) := by
  unfold atV
  exact (List.prefix_iff_eq_take.1 (List.takeWhile_prefix _)).symm
theorem mem_tw {α : Type} {p : α → Bool} : ∀ {l : List α} {x : α}, x ∈ l.takeWhile p → p x = true
  | [], x, h => by simp at h
  | y :: l, x, h => by
    cases hp : p y with
    | true =>
      rw [List.takeWhile_cons_of_pos hp, List.mem_cons] at h
      rcases h with rfl | h
      · exact hp
      · exact mem_tw h
    | false =>
      rw [List.takeWhile_cons_of_neg (by simp [hp])] at h
      cases h
theorem find_take (l : List SesV) (c c' : Int) (h : c ≤ c') : (l.take (atV l c)).find? (fun s => s.c == c') = none := by
  rw [take_at, List.find?_eq_none]
  intro s hs
  have h1 : s.c < c := of_decide_eq_true (mem_tw (p := fun s : SesV => ltB s.c c) hs)
  simp
  omega
theorem find_drop (l : List SesV) (c c' : Int) (h : c' ≠ c) : (l.drop (bhV l c)).find? (fun s => s.c == c') = (l.drop (atV l c)).find? (fun s => s.c == c') := by
  unfold bhV
  cases hg : l[atV l c]? with
  | none => rfl
  | some s =>
    dsimp only
    split
    · rename_i he
      obtain ⟨h1, h2⟩ := List.getElem?_eq_some_iff.1 hg
      rw [List.drop_eq_getElem_cons h1, List.find?_cons_of_neg (p := fun s : SesV => s.c == c')]
      rw [h2]
      simp
      omega
    · rfl
theorem last_with (l : List SesV) (one : SesV) (c : Int) : lastV (withV l one) c = if c = one.c then one else lastV l c := by
  unfold lastV withV
  rw [List.find?_append, List.find?_append]
  by_cases h : c = one.c
  · rw [if_pos h, find_take l one.c c (by omega)]
    have : ([one] : List SesV).find? (fun s => s.c == c) = some one := by
      rw [List.find?_cons_of_pos (p := fun s : SesV => s.c == c)]
      simp [h]
    rw [this]
    rfl
  · rw [if_neg h, find_drop l one.c c h]
    have : ([one] : List SesV).find? (fun s => s.c == c) = none := by
      rw [List.find?_cons_of_neg (p := fun s : SesV => s.c == c)]
      · rfl
      · simp
        omega
    have e : l.find? (fun s => s.c == c) = ((l.take (atV l one.c)).find? (fun s => s.c == c)).or ((l.drop (atV l one.c)).find? (fun s => s.c == c)) := by
      rw [← List.find?_append, List.take_append_drop]
    rw [this, e]
    rfl
/-- What is kept beside the sessions: the last that was new, and what was told. -/
structure OnI (l : List SesV) (fr tl : Int → Int) : Prop where
  f : ∀ c, 1 ≤ c → c ≤ 6 → fr c = (lastV l c).q
  t : ∀ c, 1 ≤ c → c ≤ 6 → (lastV l c).d = true → 1 ≤ (lastV l c).q → tl c = (lastV l c).a.num
def upd (f : Int → Int) (c x : Int) : Int → Int := fun k => if k = c then x else f k
theorem nam_in {t : TxnV} (h : namB t = true) : (1 ≤ t.1 ∧ t.1 ≤ 6) ∧ (1 ≤ t.2 ∧ t.2 ≤ 100000) := by
  unfold namB at h
  rw [Bool.and_eq_true] at h
  exact ⟨of_decide_eq_true h.1, of_decide_eq_true h.2⟩
/-- An end that goes. -/
theorem OnI.fin {l : List SesV} {fr tl : Int → Int} (h : OnI l fr tl) (t : TxnV) (n : Int) (he : (endV l t ⟨0, n, [], []⟩).2 = 0) : (1 ≤ t.1 ∧ t.1 ≤ 6) ∧ OnI (endV l t ⟨0, n, [], []⟩).1 fr (upd tl t.1 n) := by
  unfold endV at he ⊢
  by_cases hr : rfsE l t = 0
  · rw [if_pos hr] at he ⊢
    by_cases hc : (lastV l t.1).d = true ∨ ¬ (lastV l t.1).q = t.2
    · rw [if_pos hc] at he
      simp at he
    · rw [if_neg hc]
      have hn := nam_in (rfs_ok hr).2
      have hq : (lastV l t.1).q = t.2 := by
        rcases Classical.em ((lastV l t.1).q = t.2) with h | h
        · exact h
        · exact absurd (.inr h) hc
      refine ⟨hn.1, fun c h1 h6 => ?_, fun c h1 h6 hd hq1 => ?_⟩
      · dsimp only
        rw [last_with]
        by_cases hcc : c = t.1
        · rw [if_pos hcc, h.f c h1 h6, hcc, hq]
        · rw [if_neg hcc]
          exact h.f c h1 h6
      · dsimp only at hd hq1 ⊢
        rw [last_with] at hd hq1 ⊢
        unfold upd
        by_cases hcc : c = t.1
        · rw [if_pos hcc, if_pos hcc]
        · rw [if_neg hcc] at hd hq1 ⊢
          rw [if_neg hcc]
          exact h.t c h1 h6 hd hq1
  · rw [if_neg hr] at he
    exact absurd he hr
/-- A beginning that goes. -/
theorem OnI.beg {l : List SesV} {fr tl : Int → Int} (h : OnI l fr tl) (t : TxnV) (he : (begV l t).2.2.2 = 0) : (1 ≤ t.1 ∧ t.1 ≤ 6) ∧ (1 ≤ t.2 ∧ t.2 ≤ 100000) ∧
    (((begV l t).2.1 = 1 ∧ t.2 = fr t.1 + 1 ∧ OnI (begV l t).1 (upd fr t.1 t.2) tl) ∨ ((begV l t).2.1 = 3 ∧ (begV l t).2.2.1.num = tl t.1 ∧ t.2 = fr t.1 ∧ OnI (begV l t).1 fr tl) ∨ ((begV l t).2.1 = 2 ∧ t.2 = fr t.1 ∧ OnI (begV l t).1 fr tl)) := by
  unfold begV at he ⊢
  by_cases hr : rfsE l t = 0
  · rw [if_pos hr] at he ⊢
    have hn := nam_in (rfs_ok hr).2
    refine ⟨hn.1, hn.2, ?_⟩
    have hf := h.f t.1 hn.1.1 hn.1.2
    by_cases h1 : (lastV l t.1).d = true ∧ t.2 = (lastV l t.1).q + 1
    · rw [if_pos h1]
      refine .inl ⟨rfl, by rw [hf]; exact h1.2, fun c c1 c6 => ?_, fun c c1 c6 hd hq1 => ?_⟩
      · dsimp only
        rw [last_with]
        unfold upd
        by_cases hcc : c = t.1
        · rw [if_pos hcc, if_pos hcc]
        · rw [if_neg hcc, if_neg hcc]
          exact h.f c c1 c6
      · dsimp only at hd hq1 ⊢
        rw [last_with] at hd hq1 ⊢
        by_cases hcc : c = t.1
        · rw [if_pos hcc] at hd
          simp at hd
        · rw [if_neg hcc] at hd hq1 ⊢
          exact h.t c c1 c6 hd hq1
    · rw [if_neg h1] at he ⊢
      by_cases h2 : (lastV l t.1).d = true ∧ t.2 = (lastV l t.1).q
      · rw [if_pos h2]
        exact .inr (.inl ⟨rfl, (h.t t.1 hn.1.1 hn.1.2 h2.1 (by omega)).symm, by rw [hf]; exact h2.2, h⟩)
      · rw [if_neg h2] at he ⊢
        by_cases h3 : t.2 = (lastV l t.1).q
        · rw [if_pos h3]
          exact .inr (.inr ⟨rfl, by rw [hf]; exact h3, h⟩)
        · rw [if_neg h3] at he
          by_cases h4 : t.2 < (lastV l t.1).q
          · rw [if_pos h4] at he
            simp at he
          · rw [if_neg h4] at he
            simp at he
  · rw [if_neg hr] at he
    exact absurd he hr
theorem OnI.start : OnI [] (fun _ => 0) (fun _ => 0) := ⟨fun c _ _ => rfl, fun c _ _ _ hq => by simp [lastV] at hq⟩
/-- An array of seven numbers. -/
def A7 (f : Int → Int) : Array Value := #[.int .i64 (f 0), .int .i64 (f 1), .int .i64 (f 2), .int .i64 (f 3), .int .i64 (f 4), .int .i64 (f 5), .int .i64 (f 6)]
theorem A7_at {w : World} {b : Nat} {f : Int → Int} (h : w.heap[b]? = some (.cells (A7 f) 33 (0, 0))) {c : Int} (h0 : 0 ≤ c) (h6 : c ≤ 6) : w.cell? ⟨b, c.toNat, none⟩ = some (.int .i64 (f c)) := by
  rw [cell_at h]
  have : c = 0 ∨ c = 1 ∨ c = 2 ∨ c = 3 ∨ c = 4 ∨ c = 5 ∨ c = 6 := by omega
  rcases this with rfl | rfl | rfl | rfl | rfl | rfl | rfl <;> rfl
theorem A7_set (f : Int → Int) {c : Int} (h0 : 0 ≤ c) (h6 : c ≤ 6) (x : Int) : (A7 f).setIfInBounds c.toNat (.int .i64 x) = A7 (upd f c x) := by
  have : c = 0 ∨ c = 1 ∨ c = 2 ∨ c = 3 ∨ c = 4 ∨ c = 5 ∨ c = 6 := by omega
  rcases this with rfl | rfl | rfl | rfl | rfl | rfl | rfl <;> rfl
end Go.Proofs.YtgdgpcheammbpaaDoor
