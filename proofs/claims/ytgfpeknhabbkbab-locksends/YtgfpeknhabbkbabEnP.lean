/- In the end nobody waits: plain data. -/
import Derived.Test.YtgfpeknhabbkbabPlayP
import Derived.Test.YtgfpeknhabbkbabWounds
namespace Go.Proofs.Ytgfpeknhabbkbab
open Go.RowKit
set_option linter.all false
def totL (T : TabV) : Nat := T.held.length + T.wait.length
theorem wi_lt {l : List HoldV} {o : HoldV} (h : o ∈ l) : (wiL l o).length + 1 ≤ l.length := by
  have : (wiL l o).length < l.length := by
    unfold wiL
    exact List.length_filter_lt_length_iff_exists.2 ⟨o, h, by simp⟩
  omega
theorem ref_may {T : TabV} (h : MayT T) {k : KeyV} {t : TxnV} (hk : keyB k = true) (ht : namB t = true) : refE T k t = 0 := by
  unfold refE
  rw [if_pos ((chk_iff T).2 h), hk, ht]
  rfl
theorem hol_key {h : HoldV} (k : holB h = true) : keyB h.1 = true := by
  unfold holB at k
  rw [Bool.and_eq_true] at k
  exact k.1
/-- Who lets go leaves one fewer in the table. -/
theorem free_tot {T : TabV} (h : MayT T) {k : KeyV} {t : TxnV} (hk : keyB k = true) (ht : namB t = true) : (freeL T k t).2.2 = 0 ∧ totL (freeL T k t).1 ≤ totL T ∧ ((k, t) ∈ T.held ∨ (k, t) ∈ T.wait → totL (freeL T k t).1 + 1 ≤ totL T) := by
  have hr := ref_may h hk ht
  have hz := nam_ne ht
  unfold freeL
  rw [if_pos hr]
  have l1 := wiL_len T.held (k, t)
  have l2 := wiL_len T.wait (k, t)
  split
  · refine ⟨rfl, ?_, ?_⟩
    · simp only [totL]
      omega
    · simp only [totL]
      rintro (hm | hm)
      · have := wi_lt hm
        omega
      · have := wi_lt hm
        omega
  · rename_i hc
    simp only [not_or, Bool.not_eq_false, Bool.not_eq_true] at hc
    have hd : hdT T.held k = t := by simpa using hc.1
    obtain ⟨x, hx, hx1, hx2, _⟩ := hd_some h.hh (k := k) (by rw [hd]; exact hz)
    have hm : (k, t) ∈ T.held := by
      have : x = (k, t) := Prod.ext hx1 (by rw [← hx2, hd])
      rw [← this]
      exact hx
    have hq : qL T.wait k ≠ [] := fun e => by
      have := hc.2
      rw [e] at this
      simp [oldL] at this
    have ho := (oldL_spec (q_names h k) hq).1
    have hw := qL_mem.1 ho
    have hne : (k, oldL (qL T.wait k)) ≠ (k, t) := fun e => (h.mw _ hw).2.1 (by rw [e]; exact hd)
    have l3 := wi_lt (l := wiL T.wait (k, t)) (wi_mem.2 ⟨hw, hne⟩)
    have l4 := wi_lt hm
    refine ⟨rfl, ?_, fun _ => ?_⟩ <;> simp only [totL, List.length_append, List.length_cons, List.length_nil] <;> omega
/-- All that one holds or waits for is let go. -/
def dropF (g : TxnV) (S : TabV) (e : HoldV) : TabV := if (e.2 == g) = true then (freeL S e.1 g).1 else S
def dropL (T : TabV) (g : TxnV) : TabV := T.held.foldl (dropF g) (T.wait.foldl (dropF g) T)
theorem drop_step {g : TxnV} (hg : namB g = true) {S : TabV} (h : MayT S) {e : HoldV} (he : keyB e.1 = true) : MayT (dropF g S e) ∧ totL (dropF g S e) ≤ totL S := by
  unfold dropF
  split
  · have := free_tot h he hg
    exact ⟨free_may this.1, this.2.1⟩
  · exact ⟨h, Nat.le_refl _⟩
theorem drop_fold {g : TxnV} (hg : namB g = true) : ∀ (l : List HoldV) {S : TabV}, (∀ e ∈ l, keyB e.1 = true) → MayT S → MayT (l.foldl (dropF g) S) ∧ totL (l.foldl (dropF g) S) ≤ totL S
  | [], S, _, h => ⟨h, Nat.le_refl _⟩
  | e :: l, S, hl, h => by
    have h1 := drop_step hg h (hl e (by simp))
    have h2 := drop_fold hg l (fun e he => hl e (by simp [he])) h1.1
    exact ⟨h2.1, Nat.le_trans h2.2 h1.2⟩
theorem drop_less {g : TxnV} (hg : namB g = true) : ∀ (l : List HoldV) {S : TabV}, (∀ e ∈ l, keyB e.1 = true) → MayT S → (∀ e ∈ l, e.2 = g → e ∈ S.held ∨ e ∈ S.wait) → (∃ e ∈ l, e.2 = g) → totL (l.foldl (dropF g) S) + 1 ≤ totL S
  | [], S, _, _, _, ⟨e, he, _⟩ => by simp at he
  | e :: l, S, hl, h, hin, hex => by
    by_cases hq : e.2 = g
    · have hm := hin e (by simp) hq
      have he : e = (e.1, g) := Prod.ext rfl hq
      have hk := hl e (by simp)
      have hf := (free_tot h hk hg).2.2 (by rw [← he]; exact hm)
      have h1 := drop_step hg h hk
      have e1 : dropF g S e = (freeL S e.1 g).1 := by
        unfold dropF
        rw [if_pos (by simp [hq])]
      have h2 := (drop_fold hg l (fun e he => hl e (by simp [he])) h1.1).2
      rw [List.foldl_cons]
      rw [e1] at h2 ⊢
      omega
    · have e1 : dropF g S e = S := by
        unfold dropF
        rw [if_neg (by simp [hq])]
      rw [List.foldl_cons, e1]
      refine drop_less hg l (fun e he => hl e (by simp [he])) h (fun e he => hin e (by simp [he])) ?_
      obtain ⟨x, hx, hxg⟩ := hex
      rcases List.mem_cons.1 hx with rfl | hx
      · exact absurd hxg hq
      · exact ⟨x, hx, hxg⟩
theorem drop_end {T : TabV} (h : MayT T) {g : TxnV} (hg : ∃ e ∈ T.held, e.2 = g) : MayT (dropL T g) ∧ totL (dropL T g) + 1 ≤ totL T := by
  obtain ⟨x, hx, rfl⟩ := hg
  have hn := hol_nam (h.hh x hx)
  have kw : ∀ e ∈ T.wait, keyB e.1 = true := fun e he => hol_key (h.hw e he)
  have kh : ∀ e ∈ T.held, keyB e.1 = true := fun e he => hol_key (h.hh e he)
  have e1 : dropL T x.2 = (T.wait ++ T.held).foldl (dropF x.2) T := by
    unfold dropL
    rw [List.foldl_append]
  have ka : ∀ e ∈ T.wait ++ T.held, keyB e.1 = true := fun e he => (List.mem_append.1 he).elim (kw e) (kh e)
  rw [e1]
  refine ⟨(drop_fold hn _ ka h).1, drop_less hn _ ka h (fun e he _ => ?_) ⟨x, by simp [hx], rfl⟩⟩
  rcases List.mem_append.1 he with he | he
  · exact .inr he
  · exact .inl he
/-- One that holds, and waits for nothing. -/
def idleB (T : TabV) (h : HoldV) : Bool := T.wait.any (fun x => x.2 == h.2)
def idleL (T : TabV) : TxnV := match T.held.find? (fun h => !(idleB T h)) with | some h => h.2 | none => zT
/-- Who goes. -/
def goneL (T : TabV) : TxnV := match wnL T with | x :: _ => x.2 | [] => idleL T
theorem gone_holds {T : TabV} (h : MayT T) (hw : T.wait ≠ []) : ∃ e ∈ T.held, e.2 = goneL T := by
  unfold goneL
  cases hq : wnL T with
  | cons x r =>
    have hx : x ∈ wnL T := by rw [hq]; simp
    unfold wnL at hx
    rw [if_pos ((chk_iff T).2 h), List.mem_filter] at hx
    exact ⟨x, hx.1, rfl⟩
  | nil =>
    have hno : ∀ x ∈ T.held, ∀ y ∈ qL T.wait x.1, oldB y x.2 = false := by
      intro x hx y hy
      cases hb : oldB y x.2
      · rfl
      · have : x ∈ wnL T := by
          unfold wnL
          rw [if_pos ((chk_iff T).2 h), List.mem_filter]
          refine ⟨hx, ?_⟩
          unfold wdB
          rw [List.any_eq_true]
          exact ⟨y, hy, hb⟩
        rw [hq] at this
        simp at this
    dsimp only
    unfold idleL
    cases hf : T.held.find? (fun h => !(idleB T h)) with
    | some x => exact ⟨x, List.mem_of_find?_eq_some hf, rfl⟩
    | none =>
      exfalso
      rw [List.find?_eq_none] at hf
      have hne : T.held.map (·.2) ≠ [] := fun e => by
        obtain ⟨y, r, hy⟩ := List.exists_cons_of_ne_nil hw
        have hm := h.mw y (by rw [hy]; simp)
        obtain ⟨x, hx, _⟩ := hd_some h.hh hm.1
        rw [List.map_eq_nil_iff] at e
        rw [e] at hx
        simp at hx
      have hnz : ∀ x ∈ T.held.map (·.2), x ≠ zT := by
        intro x hx
        obtain ⟨y, hy, rfl⟩ := List.mem_map.1 hx
        exact nam_ne (hol_nam (h.hh y hy))
      obtain ⟨hmem, hz, hold⟩ := oldL_spec hnz hne
      obtain ⟨x, hx, hxe⟩ := List.mem_map.1 hmem
      have hi := hf x hx
      simp only [Bool.not_eq_true, Bool.not_eq_false'] at hi
      have hi : idleB T x = true := by simpa using hi
      unfold idleB at hi
      rw [List.any_eq_true] at hi
      obtain ⟨y, hy, hye⟩ := hi
      have hye : y.2 = x.2 := by simpa using hye
      have hm := h.mw y hy
      obtain ⟨z, hz1, hz2, hz3, _⟩ := hd_some h.hh hm.1
      have hzo := hold z.2 (List.mem_map_of_mem (f := (·.2)) hz1)
      have hyq : y.2 ∈ qL T.wait z.1 := qL_mem.2 (by rw [hz2]; exact hy)
      have hnb := hno z hz1 y.2 hyq
      rw [← hxe, ← hye] at hzo
      rcases hzo with e | e
      · exact hm.2.1 (by rw [hz3, ← e])
      · rw [e] at hnb
        cases hnb
theorem gone_ne {T : TabV} (h : MayT T) (hw : T.wait ≠ []) : goneL T ≠ zT := by
  obtain ⟨e, he, hq⟩ := gone_holds h hw
  rw [← hq]
  exact nam_ne (hol_nam (h.hh e he))
theorem step_tot {T : TabV} (s : StepV) : totL (stepL T s) ≤ totL T + 1 := by
  unfold stepL
  split
  · split
    · rename_i h
      obtain ⟨hm, hk, ht, _⟩ := free_ok h
      have := (free_tot hm hk ht).2.1
      omega
    · omega
  · split
    · rename_i h
      have hr := (ask_ok h).2.2.2
      unfold askL at h ⊢
      rw [if_pos hr] at h ⊢
      repeat' split
      all_goals simp only [totL, zTab, List.length_append, List.length_cons, List.length_nil]
      all_goals omega
    · omega
theorem play_tot : ∀ (l : List StepV) (T : TabV), totL (l.foldl stepL T) ≤ totL T + l.length
  | [], T => by simp
  | s :: l, T => by
    have h1 := play_tot l (stepL T s)
    have h2 := step_tot (T := T) s
    rw [List.foldl_cons, List.length_cons]
    omega
theorem play_few (l : List StepV) : totL (playL l) ≤ 60 := by
  have h := play_tot (l.take 60) zTab
  have h0 : totL zTab = 0 := rfl
  have h2 := List.length_take_le 60 l
  unfold playL
  omega
end Go.Proofs.Ytgfpeknhabbkbab
