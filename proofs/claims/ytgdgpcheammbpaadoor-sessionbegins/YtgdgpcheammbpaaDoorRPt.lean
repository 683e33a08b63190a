/- The document's put. -/
import Derived.Test.YtgdgpcheammbpaaDoorROf
import Derived.Test.YtgdgpcheammbpaaDoorApP
namespace Go.Proofs.YtgdgpcheammbpaaDoor
open Go.RowKit
set_option linter.all false
def putF (s : SesX) : Bool → List SesX → List SesX
  | false, [] => [s]
  | true, [] => []
  | false, x :: l => if s.c ≤ x.c then (if x.c = s.c then s :: putF s true l else s :: x :: putF s true l) else x :: putF s false l
  | true, x :: l => if x.c = s.c then putF s true l else x :: putF s true l
theorem put_true (s : SesX) : ∀ (l : List SesX) (a : Int), s.c ≤ a → chkS a (l.map SesX.v) = true → putF s true l = l
  | [], _, _, _ => rfl
  | x :: l, a, ha, h => by
    rw [List.map_cons, chkS, Bool.and_eq_true, okS, Bool.and_eq_true] at h
    have h1 : a < x.c := of_decide_eq_true h.1.1
    rw [putF, if_neg (by omega), put_true s l x.c (by omega) h.2]
theorem put_ins (s : SesX) : ∀ (l : List SesX) (a : Int), chkS a (l.map SesX.v) = true → (putF s false l).map SesX.v = insR s.v (l.map SesX.v)
  | [], _, _ => rfl
  | x :: l, a, h => by
    rw [List.map_cons, chkS, Bool.and_eq_true] at h
    rw [List.map_cons, insR, putF]
    have ex : x.v.c = x.c := rfl
    have es : s.v.c = s.c := rfl
    rw [ex, es]
    by_cases h1 : s.c ≤ x.c
    · rw [if_pos h1, if_neg (show ¬ x.c < s.c by omega)]
      have hp := put_true s l x.c h1 h.2
      by_cases h2 : x.c = s.c
      · rw [if_pos h2, if_pos h2, hp]
        rfl
      · rw [if_neg h2, if_neg h2, hp]
        rfl
    · rw [if_neg h1, if_pos (show x.c < s.c by omega), List.map_cons, put_ins s l x.c h.2]
theorem put_lenT (s : SesX) : ∀ (l : List SesX), (putF s true l).length ≤ l.length
  | [] => by simp [putF]
  | x :: l => by
    have h1 := put_lenT s l
    rw [putF]
    split <;> simp only [List.length_cons] <;> omega
theorem put_len (s : SesX) : ∀ (l : List SesX), (putF s false l).length ≤ l.length + 1
  | [] => by simp [putF]
  | x :: l => by
    have h1 := put_lenT s l
    have h2 := put_len s l
    rw [putF]
    split
    · split <;> simp only [List.length_cons] <;> omega
    · simp only [List.length_cons]
      omega
theorem put_mem (s : SesX) : ∀ (l : List SesX) (d : Bool) (x : SesX), x ∈ putF s d l → x = s ∨ x ∈ l
  | [], false, x, h => by
    rw [putF, List.mem_singleton] at h
    exact .inl h
  | [], true, x, h => by
    rw [putF] at h
    cases h
  | y :: l, false, x, h => by
    rw [putF] at h
    split at h
    · split at h
      · rcases List.mem_cons.1 h with h | h
        · exact .inl h
        · rcases put_mem s l true x h with h | h
          · exact .inl h
          · exact .inr (List.mem_cons_of_mem _ h)
      · rcases List.mem_cons.1 h with h | h
        · exact .inl h
        · rcases List.mem_cons.1 h with h | h
          · exact .inr (List.mem_cons.2 (.inl h))
          · rcases put_mem s l true x h with h | h
            · exact .inl h
            · exact .inr (List.mem_cons_of_mem _ h)
    · rcases List.mem_cons.1 h with h | h
      · exact .inr (List.mem_cons.2 (.inl h))
      · rcases put_mem s l false x h with h | h
        · exact .inl h
        · exact .inr (List.mem_cons_of_mem _ h)
  | y :: l, true, x, h => by
    rw [putF] at h
    split at h
    · rcases put_mem s l true x h with h | h
      · exact .inl h
      · exact .inr (List.mem_cons_of_mem _ h)
    · rcases List.mem_cons.1 h with h | h
      · exact .inr (List.mem_cons.2 (.inl h))
      · rcases put_mem s l true x h with h | h
        · exact .inl h
        · exact .inr (List.mem_cons_of_mem _ h)
/-- The new list, and the session in its box. -/
structure PO (w : World) (cs : Array Value) (pre : List SesX) (u : Value) (W : World) : Prop where
  row : W.ownsRow (w.heap.size + 1) 69 7 u pre.length (celC sesE pre)
  bx : W.heap[w.heap.size]? = some (.cells cs 69 (0, 0))
  bel : Below w.heap.size w W
theorem PO.keep {w W W' : World} {cs : Array Value} {pre : List SesX} {u : Value} (h : PO w cs pre u W) (hb : Below W.heap.size W W') : PO w cs pre u W' :=
  ⟨own_keep h.row hb, (hb.block _ (Array.getElem?_eq_some_iff.1 h.bx).1).trans h.bx, below_via h.bel hb⟩
theorem PO.app {w W : World} {cs : Array Value} {pre : List SesX} {u : Value} (h : PO w cs pre u W) (x : SesX) (hl : pre.length ≤ 1000) : ∃ a' c' w', (Builtin.append_ #[32, 32] 32 #[u, .slice (some ⟨W.heap.size, 0, none⟩) 1 1]).run Tryd.prog (W.alloc (.cells (sesE x).toArray 69)) = .ok (.slice a' (pre.length + 1) c') w' ∧ PO w cs (pre ++ [x]) (.slice a' (pre.length + 1) c') w' := by
  have hb := below1 W (.cells (sesE x).toArray 69)
  have hz := (Array.getElem?_eq_some_iff.1 h.bx).1
  have hO := own_keep h.row hb
  obtain ⟨v', w', hrun, how, hgr⟩ := app1 (enc := sesE) (t := 32) sesK ses1 Tryd.underlying32 info69 rfl (by omega) (W.alloc (.cells (sesE x).toArray 69)) (w.heap.size + 1) u pre x W.heap.size 1 (Nat.le_trans (by omega) hb.size) hO (heap_alloc_new W _) (by omega) (by unfold maxLen; omega)
  obtain ⟨a', c', rfl⟩ := own_len how
  have hlen : (pre ++ [x]).length = pre.length + 1 := by simp
  rw [hlen] at hrun how
  refine ⟨a', c', w', hrun, by rw [hlen]; exact how, ?_, grown_own hgr hO (by omega) (below_via h.bel hb)⟩
  refine (hgr.block _ (Nat.lt_of_lt_of_le hz hb.size) (fun e => ?_)).trans ((hb.block _ hz).trans h.bx)
  have := (hO.lt _ e.symm).1
  omega
def PutBack (R : List SesX) (w : World) (e : Ending) (w' : World) : Prop := ∃ a c, e = .returned (.slice a R.length c) ∧ w'.ownsRow w.heap.size 69 7 (.slice a R.length c) R.length (celC sesE R) ∧ Below w.heap.size w w'
end Go.Proofs.YtgdgpcheammbpaaDoor
