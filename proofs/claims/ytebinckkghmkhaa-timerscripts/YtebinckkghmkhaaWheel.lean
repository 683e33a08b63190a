/- A wheel in memory, and its small calls: has, Now, Left, Len, slotOf, New. -/
import Derived.Test.YtebinckkghmkhaaPlain
import Derived.Test.YtebinckkghmkhaaSl
namespace Go.Proofs.Ytebinckkghmkhaa
open Go.RowKit

structure Mem (w : World) (F : Nat → Prop) (p keys now : Nat) (due : Nat → Nat) (L : Nat → List Nat) (sb : Nat → Option (Nat × Nat)) (cs : Array Value) : Prop where
  cells : w.heap[p]? = some (.cells cs 48 (0, 0))
  size : cs.size = 1102
  c0 : cs[0]? = some (.int .i64 (keys : Int))
  c1 : cs[1]? = some (.int .i64 (now : Int))
  cslot : ∀ a, a < 1000 → cs[2 + a]? = some (sval (L a) (sb a))
  cdue : ∀ k, k < 100 → cs[1002 + k]? = some (.int .i64 (due k : Int))
  rows : ∀ a, a < 1000 → SRow w (L a) (sb a)
  own : ∀ a, a < 1000 → ∀ g c, sb a = some (g, c) → F g ∧ g ≠ p
  apart : ∀ a b, a < 1000 → b < 1000 → a ≠ b → ∀ g c g' c', sb a = some (g, c) → sb b = some (g', c') → g ≠ g'
  inp : F p
  small : ∀ k, F k → k < w.heap.size
def WheelAt (w : World) (F : Nat → Prop) (p : Nat) (S : Wh) : Prop := ∃ L sb cs, Mem w F p S.keys S.now (dueOf S.now S.left) L sb cs ∧ Good S L
theorem Mem.keep {w w' : World} {F : Nat → Prop} {p keys now : Nat} {due : Nat → Nat} {L : Nat → List Nat} {sb : Nat → Option (Nat × Nat)} {cs : Array Value} (h : Mem w F p keys now due L sb cs) (hs : w.heap.size ≤ w'.heap.size) (hb : ∀ k, F k → k < w.heap.size → w'.heap[k]? = w.heap[k]?) : Mem w' F p keys now due L sb cs :=
  ⟨(hb p h.inp (h.small p h.inp)).trans h.cells, h.size, h.c0, h.c1, h.cslot, h.cdue, fun a ha => (h.rows a ha).keep (fun g c e => hb g (h.own a ha g c e).1 (h.small _ (h.own a ha g c e).1)), h.own, h.apart, h.inp, fun k hk => Nat.lt_of_lt_of_le (h.small k hk) hs⟩
theorem WheelAt.keep {w w' : World} {F : Nat → Prop} {p : Nat} {S : Wh} (h : WheelAt w F p S) (hs : w.heap.size ≤ w'.heap.size) (hb : ∀ k, F k → k < w.heap.size → w'.heap[k]? = w.heap[k]?) : WheelAt w' F p S := by
  obtain ⟨L, sb, cs, hm, hg⟩ := h
  exact ⟨L, sb, cs, hm.keep hs hb, hg⟩
theorem WheelAt.out {w w' : World} {F G : Nat → Prop} {p : Nat} {S : Wh} (h : WheelAt w F p S) (ho : Out G w w') (hG : ∀ k, F k → ¬ G k) : WheelAt w' F p S :=
  h.keep ho.size (fun k hk hl => ho.block k hl (hG k hk))
theorem WheelAt.below {w w' : World} {F : Nat → Prop} {p : Nat} {S : Wh} (h : WheelAt w F p S) (hb : Below w.heap.size w w') : WheelAt w' F p S := h.keep hb.size (fun k _ hk => hb.block k hk)
theorem WheelAt.small {w : World} {F : Nat → Prop} {p : Nat} {S : Wh} (h : WheelAt w F p S) : ∀ k, F k → k < w.heap.size := by
  obtain ⟨L, sb, cs, hm, hg⟩ := h
  exact hm.small
theorem heap_set {w : World} {p : Nat} {cs : Array Value} {t : TypeId} (h : w.heap[p]? = some (.cells cs t (0, 0))) (j : Nat) (v : Value) : (w.setCell ⟨p, j, none⟩ v).heap[p]? = some (.cells (cs.setIfInBounds j v) t (0, 0)) := by
  rw [setCell_eq_setRow _ p j cs t (0, 0) _ h]
  exact setRow_heap _ p cs _ t _ h
theorem heap_set_other (w : World) (p j k : Nat) (v : Value) (h : k ≠ p) : (w.setCell ⟨p, j, none⟩ v).heap[k]? = w.heap[k]? := RowKit.Below.heap_setCell _ _ _ _ (fun e => h e)
/-- A due tick is written. -/
theorem Mem.setDue {w : World} {F : Nat → Prop} {p keys now : Nat} {due : Nat → Nat} {L : Nat → List Nat} {sb : Nat → Option (Nat × Nat)} {cs : Array Value} (h : Mem w F p keys now due L sb cs) (k x : Nat) (hk : k < 100) :
    Mem (w.setCell ⟨p, 1002 + k, none⟩ (.int .i64 (x : Int))) F p keys now (put due k x) L sb (cs.setIfInBounds (1002 + k) (.int .i64 (x : Int))) := by
  refine ⟨heap_set h.cells _ _, by simpa using h.size, ?_, ?_, fun a ha => ?_, fun i hi => ?_, fun a ha => (h.rows a ha).keep (fun g c e => heap_set_other _ _ _ _ _ (h.own a ha g c e).2), h.own, h.apart, h.inp, fun i hi => by simpa using h.small i hi⟩
  · rw [Array.getElem?_setIfInBounds_ne (by omega)]; exact h.c0
  · rw [Array.getElem?_setIfInBounds_ne (by omega)]; exact h.c1
  · rw [Array.getElem?_setIfInBounds_ne (by omega)]; exact h.cslot a ha
  · unfold put
    by_cases e : i = k
    · subst e
      rw [if_pos rfl, Array.getElem?_setIfInBounds_self_of_lt (by have := h.size; omega)]
    · rw [if_neg e, Array.getElem?_setIfInBounds_ne (by omega)]
      exact h.cdue i hi
/-- The count of ticks is written. -/
theorem Mem.setNow {w : World} {F : Nat → Prop} {p keys now : Nat} {due : Nat → Nat} {L : Nat → List Nat} {sb : Nat → Option (Nat × Nat)} {cs : Array Value} (h : Mem w F p keys now due L sb cs) (x : Nat) :
    Mem (w.setCell ⟨p, 1, none⟩ (.int .i64 (x : Int))) F p keys x due L sb (cs.setIfInBounds 1 (.int .i64 (x : Int))) := by
  refine ⟨heap_set h.cells _ _, by simpa using h.size, ?_, ?_, fun a ha => ?_, fun i hi => ?_, fun a ha => (h.rows a ha).keep (fun g c e => heap_set_other _ _ _ _ _ (h.own a ha g c e).2), h.own, h.apart, h.inp, fun i hi => by simpa using h.small i hi⟩
  · rw [Array.getElem?_setIfInBounds_ne (by omega)]; exact h.c0
  · rw [Array.getElem?_setIfInBounds_self_of_lt (by have := h.size; omega)]
  · rw [Array.getElem?_setIfInBounds_ne (by omega)]; exact h.cslot a ha
  · rw [Array.getElem?_setIfInBounds_ne (by omega)]; exact h.cdue i hi
def putB (f : Nat → Option (Nat × Nat)) (k : Nat) (x : Option (Nat × Nat)) : Nat → Option (Nat × Nat) := fun i => if i = k then x else f i
/-- A slot has turned: its row, in its own block or in a new one, and then its cell. -/
theorem Mem.setSlot {w w' : World} {F : Nat → Prop} {p keys now : Nat} {due : Nat → Nat} {L : Nat → List Nat} {sb : Nat → Option (Nat × Nat)} {cs : Array Value} (h : Mem w F p keys now due L sb cs) (a : Nat) (ha : a < 1000) (l : List Nat) (r : Option (Nat × Nat))
    (ho : Out (fun i => ∃ c, sb a = some (i, c)) w w') (hr : SRow w' l r) (hb : ∀ g c, r = some (g, c) → (∃ c', sb a = some (g, c')) ∨ w.heap.size ≤ g) :
    Mem (w'.setCell ⟨p, 2 + a, none⟩ (sval l r)) (fun i => F i ∨ ∃ c, r = some (i, c)) p keys now due (putL L a l) (putB sb a r) (cs.setIfInBounds (2 + a) (sval l r)) := by
  have hp := h.small p h.inp
  have hc : w'.heap[p]? = some (.cells cs 48 (0, 0)) := (ho.block p hp (fun ⟨c, e⟩ => (h.own a ha p c e).2 rfl)).trans h.cells
  have hne : ∀ g c, r = some (g, c) → g ≠ p := by
    intro g c e
    rcases hb g c e with ⟨c', e'⟩ | e'
    · exact (h.own a ha g c' e').2
    · omega
  refine ⟨heap_set hc _ _, by simpa using h.size, ?_, ?_, fun b hb' => ?_, fun i hi => ?_, fun b hb' => ?_, fun b hb' g c e => ?_, ?_, .inl h.inp, ?_⟩
  · rw [Array.getElem?_setIfInBounds_ne (by omega)]; exact h.c0
  · rw [Array.getElem?_setIfInBounds_ne (by omega)]; exact h.c1
  · unfold putL putB
    by_cases e : b = a
    · subst e
      rw [if_pos rfl, if_pos rfl, Array.getElem?_setIfInBounds_self_of_lt (by have := h.size; omega)]
    · rw [if_neg e, if_neg e, Array.getElem?_setIfInBounds_ne (by omega)]
      exact h.cslot b hb'
  · rw [Array.getElem?_setIfInBounds_ne (by omega)]; exact h.cdue i hi
  · unfold putL putB
    by_cases e : b = a
    · rw [if_pos e, if_pos e]
      exact hr.keep (fun g c e2 => heap_set_other _ _ _ _ _ (hne g c e2))
    · rw [if_neg e, if_neg e]
      refine (h.rows b hb').keep (fun g c e2 => ?_)
      rw [heap_set_other _ _ _ _ _ (h.own b hb' g c e2).2]
      exact ho.block g (h.small g (h.own b hb' g c e2).1) (fun ⟨c', e3⟩ => h.apart b a hb' ha e g c g c' e2 e3 rfl)
  · unfold putB at e
    split at e
    · exact ⟨.inr ⟨c, e⟩, hne g c e⟩
    · exact ⟨.inl (h.own b hb' g c e).1, (h.own b hb' g c e).2⟩
  · intro x y hx hy hxy g c g' c' e e'
    unfold putB at e e'
    split at e <;> split at e'
    · omega
    · rcases hb g c e with ⟨c2, e2⟩ | e2
      · exact h.apart a y ha hy (by omega) g c2 g' c' e2 e'
      · have := h.small g' (h.own y hy g' c' e').1
        omega
    · rcases hb g' c' e' with ⟨c2, e2⟩ | e2
      · exact h.apart x a hx ha (by omega) g c g' c2 e e2
      · have := h.small g (h.own x hx g c e).1
        omega
    · exact h.apart x y hx hy hxy g c g' c' e e'
  · intro i hi
    have hs := ho.size
    rcases hi with hi | ⟨c, rfl⟩
    · have := h.small i hi
      simp
      omega
    · have := IRow.lt hr
      simpa using this

set_option maxHeartbeats 1000000 in
theorem now_is {w : World} {F : Nat → Prop} {p : Nat} {S : Wh} (h : WheelAt w F p S) :
    Calls Try.prog 20 #[.pointer (some ⟨p, 0, none⟩)] w fun e w' => e = .returned (.int .i64 (S.now : Int)) ∧ w' = w := by
  obtain ⟨L, sb, cs, hm, hg⟩ := h
  have c1 : w.cell? ⟨p, 1, none⟩ = some (.int .i64 (S.now : Int)) := by rw [cell_at hm.cells]; exact hm.c1
  clear hm hg
  go_enter Try.func20, Try.ntmps20
  go_wp2
  go_ret
  exact ⟨rfl, rfl⟩
set_option maxHeartbeats 1000000 in
theorem has_is {w : World} {F : Nat → Prop} {p : Nat} {S : Wh} (h : WheelAt w F p S) (k : Int) :
    Calls Try.prog 21 #[.pointer (some ⟨p, 0, none⟩), .int .i64 k] w fun e w' => e = .returned (.bool (decide (0 ≤ k ∧ k < (S.keys : Int)))) ∧ w' = w := by
  obtain ⟨L, sb, cs, hm, hg⟩ := h
  have c0 : w.cell? ⟨p, 0, none⟩ = some (.int .i64 (S.keys : Int)) := by rw [cell_at hm.cells]; exact hm.c0
  clear hm hg
  by_cases h0 : 0 ≤ k
  · go_enter Try.func21, Try.ntmps21
    go_wp2
    go_ret
    exact ⟨by simp [h0], rfl⟩
  · go_enter Try.func21, Try.ntmps21
    go_wp2
    go_ret
    exact ⟨by rw [decide_eq_false (by omega)]; rfl, rfl⟩
set_option maxHeartbeats 1000000 in
theorem slotOf_is (n : Nat) (w : World) (hn : n < 4611686018427387904) :
    Calls Try.prog 23 #[.int .i64 (n : Int)] w fun e w' => e = .returned (.int .i64 ((n % 1000 : Nat) : Int)) ∧ w' = w := by
  go_enter Try.func23, Try.ntmps23
  go_wp2
  go_ret
  exact ⟨rfl, rfl⟩
/-- What Left answers. -/
def leftV (S : Wh) (k : Int) : Nat := if 0 ≤ k ∧ k < (S.keys : Int) then S.left k.toNat else 0
theorem dueOf_zero (S : Wh) (k : Nat) : dueOf S.now S.left k = 0 ↔ S.left k = 0 := by
  unfold dueOf; split <;> omega
set_option maxHeartbeats 1000000 in
theorem left_is {w : World} {F : Nat → Prop} {p : Nat} {S : Wh} (h : WheelAt w F p S) (k : Int) (hN : S.now < 1000000000) :
    Calls Try.prog 18 #[.pointer (some ⟨p, 0, none⟩), .int .i64 k] w fun e w' => e = .returned (.tuple #[.int .i64 (leftV S k : Int), .bool (decide (leftV S k ≠ 0))]) ∧ Below w.heap.size w w' := by
  have H := hideIt (has_is h k)
  by_cases h0 : 0 ≤ k ∧ k < (S.keys : Int)
  · have e0 : leftV S k = S.left k.toNat := by unfold leftV; rw [if_pos h0]
    rw [decide_eq_true h0] at H
    rw [e0]
    obtain ⟨j, rfl⟩ := Int.eq_ofNat_of_zero_le h0.1
    rw [Int.toNat_natCast] at *
    obtain ⟨L, sb, cs, hm, hg⟩ := h
    have hj : j < 100 := by have := hg.most; omega
    have c1 : w.cell? ⟨p, 1, none⟩ = some (.int .i64 (S.now : Int)) := by rw [cell_at hm.cells]; exact hm.c1
    have cd : w.cell? ⟨p, 1002 + j, none⟩ = some (.int .i64 (dueOf S.now S.left j : Int)) := by rw [cell_at hm.cells]; exact hm.cdue j hj
    have hl := hg.left j
    have hz := dueOf_zero S j
    clear hm hg h0 e0
    by_cases h1 : S.left j = 0
    · rw [hz.2 h1] at cd
      rw [h1]
      clear hz h1 hl
      go_enter Try.func18, Try.ntmps18
      go_wp2_with fail
      refine H.out.mono ?_
      rintro e w1 ⟨rfl, rfl⟩
      dsimp only
      go_wp2
      go_ret2
      exact ⟨rfl, Below.refl _ _⟩
    · have e1 : dueOf S.now S.left j = S.now + S.left j := by unfold dueOf; rw [if_neg h1]
      rw [e1] at cd
      generalize S.left j = n at *
      generalize S.now = t at *
      have hnz : ((t + n : Nat) : Int) ≠ 0 := by omega
      have hnz2 : (((t + n : Nat) : Int) == 0) = false := beq_eq_false_iff_ne.2 hnz
      have hd : decide (n ≠ 0) = true := decide_eq_true h1
      rw [hd]
      clear hz e1 hd
      go_enter Try.func18, Try.ntmps18
      go_wp2_with fail
      refine H.out.mono ?_
      rintro e w1 ⟨rfl, rfl⟩
      dsimp only
      go_wp2
      go_quiet (fail)
      go_wp2
      go_ret2
      have e : (t : Int) + (n : Int) - (t : Int) = (n : Int) := by omega
      exact ⟨by show Ending.returned (.tuple #[.int .i64 ((t : Int) + (n : Int) - (t : Int)), .bool true]) = _; rw [e], below_drewN (Below.refl _ _) _⟩
  · have e0 : leftV S k = 0 := by unfold leftV; rw [if_neg h0]
    rw [decide_eq_false h0] at H
    rw [e0]
    clear h h0 e0
    go_enter Try.func18, Try.ntmps18
    go_wp2_with fail
    refine H.out.mono ?_
    rintro e w1 ⟨rfl, rfl⟩
    dsimp only
    go_wp2
    go_ret2
    exact ⟨rfl, Below.refl _ _⟩
/-- How many timers there are. -/
def cnt (f : Nat → Nat) : Nat → Nat
  | 0 => 0
  | n + 1 => cnt f n + (if f n = 0 then 0 else 1)
theorem cnt_le (f : Nat → Nat) : ∀ n, cnt f n ≤ n
  | 0 => Nat.le_refl _
  | n + 1 => by have := cnt_le f n; unfold cnt; split <;> omega
set_option maxHeartbeats 1000000 in
theorem len_is {w : World} {F : Nat → Prop} {p : Nat} {S : Wh} (h : WheelAt w F p S) :
    Calls Try.prog 19 #[.pointer (some ⟨p, 0, none⟩)] w fun e w' => e = .returned (.int .i64 (cnt S.left S.keys : Int)) ∧ w' = w := by
  obtain ⟨L, sb, cs, hm, hg⟩ := h
  have c0 : w.cell? ⟨p, 0, none⟩ = some (.int .i64 (S.keys : Int)) := by rw [cell_at hm.cells]; exact hm.c0
  have hk := hg.most
  have HM := hideIt hm
  clear hm hg
  generalize hK : S.keys = K at *
  clear hK
  go_enter Try.func19, Try.ntmps19
  go_wp2
  go_loop [3, 9] (fun n i => ∃ t : Nat, t ≤ K ∧ i = .int .i64 t ∧ n = .int .i64 (cnt S.left t : Int)) (fun _ i => K - (intOf i).toNat)
  case atStart => exact ⟨0, Nat.zero_le _, rfl, rfl⟩
  case round =>
    obtain ⟨t, ht, rfl, rfl⟩ := hrel
    have hcl := cnt_le S.left t
    by_cases hlt : t < K
    · have cd : w.cell? ⟨p, 1002 + t, none⟩ = some (.int .i64 (dueOf S.now S.left t : Int)) := by rw [cell_at HM.out.cells]; exact HM.out.cdue t (by omega)
      have hz := dueOf_zero S t
      have HC : Hid (cnt S.left (t + 1) = cnt S.left t + (if S.left t = 0 then 0 else 1)) := rfl
      generalize dueOf S.now S.left t = d at *
      generalize S.left t = x at *
      by_cases h1 : x = 0
      · have hd := hz.2 h1
        subst hd
        clear hz
        go_wp2
        go_round
        case rel => exact ⟨t + 1, by omega, by go_num, by rw [HC.out, if_pos h1]; rfl⟩
        case measure => simp [intOf]; omega
      · have hd : d ≠ 0 := fun e => h1 (hz.1 e)
        have hd2 : ((d : Int) != 0) = true := by simpa using hd
        clear hz
        go_wp2
        go_round
        case rel => exact ⟨t + 1, by omega, by go_num, by rw [HC.out, if_neg h1]; go_num⟩
        case measure => simp [intOf]; omega
    · have e : t = K := by omega
      subst e
      go_wp2
      go_ret
      exact ⟨rfl, rfl⟩
set_option maxHeartbeats 1000000 in
theorem new_bad (x : Int) (w : World) (hx : x < 1 ∨ 100 < x) :
    Calls Try.prog 6 #[.int .i64 x] w fun e w' => e = .returned (.tuple #[.pointer none, .int .i64 1]) ∧ w' = w := by
  by_cases h : x < 1
  · clear hx
    go_enter Try.func6, Try.ntmps6
    go_wp2
    go_ret2
    exact ⟨rfl, rfl⟩
  · have h2 : 100 < x := by omega
    clear hx
    go_enter Try.func6, Try.ntmps6
    go_wp2
    go_ret2
    exact ⟨rfl, rfl⟩
end Go.Proofs.Ytebinckkghmkhaa
