/- What is learned, in plain data; a place in a row of the call's own is set. -/
import Derived.Test.YtfcbjdfelahfkaaSek
import Derived.Test.YtfcbjdfelahfkaaIns
namespace Go.Proofs.Ytfcbjdfelahfkaa
open Go.RowKit
set_option linter.all false
def lrnL (l : List PlaV) (p : PlaV) : List PlaV :=
  if knoB l p.1 then (if ((l.getD (sekN l p.1) p).2.2 < p.2.2) then l.set (sekN l p.1) p else l) else l.take (sekN l p.1) ++ p :: l.drop (sekN l p.1)
def lrnB (l : List PlaV) (p : PlaV) : Bool := mayB l && mayB [p]
def lrnR (l : List PlaV) (p : PlaV) : List PlaV := if lrnB l p then lrnL l p else []
def lrnE (l : List PlaV) (p : PlaV) : Int := if lrnB l p then 0 else 200
theorem kno_lt {l : List PlaV} {k : KeyV} (h : knoB l k = true) : sekN l k < l.length := by
  unfold knoB at h
  rcases Nat.lt_or_ge (sekN l k) l.length with h1 | h1
  · exact h1
  · rw [List.getElem?_eq_none h1] at h
    cases h
/-- Of keys there are eleven. -/
def numK (k : KeyV) : Nat := if k.1 = 1 then k.2.toNat - 1 else 7 + k.2.toNat
theorem num_lt {a b : KeyV} (ha : keyB a = true) (hb : keyB b = true) (h : ahdB a b = true) : numK a < numK b := by
  obtain ⟨x, y⟩ := a
  obtain ⟨z, u⟩ := b
  simp only [keyB, wiB, ahdB, numK, Bool.or_eq_true, Bool.and_eq_true, decide_eq_true_eq] at *
  split at ha
  · split at hb
    · simp_all
      omega
    · split at hb
      · simp_all
        omega
      · cases hb
  · split at ha
    · split at hb
      · simp_all
      · split at hb
        · simp_all
          omega
        · cases hb
    · cases ha
theorem num_le {a : KeyV} (ha : keyB a = true) : numK a < 11 := by
  obtain ⟨x, y⟩ := a
  simp only [keyB, wiB, numK] at *
  split at ha
  · have := of_decide_eq_true ha
    simp_all
    omega
  · split at ha
    · have := of_decide_eq_true ha
      simp_all
      omega
    · cases ha
theorem rise_len : ∀ (l : List PlaV) (n : Nat), (∀ p ∈ l, okB p = true) → l.Pairwise (fun a b => ahdB a.1 b.1 = true) → (∀ p ∈ l, n ≤ numK p.1) → l.length + n ≤ 11 ∨ l = []
  | [], _, _, _, _ => .inr rfl
  | p :: r, n, h1, h2, h3 => by
    rw [List.pairwise_cons] at h2
    have hk : keyB p.1 = true := by
      have := h1 p (by simp)
      simp only [okB, Bool.and_eq_true] at this
      exact this.1.1
    have hn := h3 p (by simp)
    have h11 := num_le hk
    refine .inl ?_
    rcases rise_len r (n + 1) (fun q hq => h1 q (by simp [hq])) h2.2 (fun q hq => by
      have hq1 : keyB q.1 = true := by
        have := h1 q (by simp [hq])
        simp only [okB, Bool.and_eq_true] at this
        exact this.1.1
      have := num_lt hk hq1 (h2.1 q hq)
      omega) with h | h
    · simp only [List.length_cons]
      omega
    · subst h
      simp only [List.length_cons, List.length_nil]
      omega
theorem may_len {l : List PlaV} (h : mayB l = true) : l.length ≤ 11 := by
  obtain ⟨h1, h2⟩ := (mayB_iff l).1 h
  rcases rise_len l 0 h1 h2 (fun _ _ => Nat.zero_le _) with h | h
  · omega
  · simp [h]
theorem cel_set (l : List PlaV) (cur : List Value) (i : Nat) (p : PlaV) (hi : i < l.length) (ht : cur.take (l.length * 4) = celC plaE l) (hs : l.length * 4 ≤ cur.length) :
    ((((cur.set (i * 4) (.int .i64 p.1.1)).set (i * 4 + 1) (.int .i64 p.1.2)).set (i * 4 + 2) (.int .i64 p.2.1)).set (i * 4 + 3) (.int .i64 p.2.2)).take (l.length * 4) = celC plaE (l.set i p) := by
  apply List.ext_getElem?
  intro j
  by_cases hj : j < l.length * 4
  · obtain ⟨q, r, hq, hr, rfl⟩ : ∃ q r, q < l.length ∧ r < 4 ∧ j = q * 4 + r := ⟨j / 4, j % 4, by omega, by omega, by omega⟩
    have hg := celC_get plaK (l.set i p) q (by simpa using hq) r hr
    have hl := celC_get plaK l q hq r hr
    rw [hg]
    have hc : cur[q * 4 + r]? = (plaE l[q])[r]? := by
      rw [← hl, ← ht, List.getElem?_take, if_pos hj]
    rw [List.getElem?_take, if_pos hj]
    by_cases hqi : q = i
    · subst hqi
      simp only [List.getElem_set_self]
      have h4 : r = 0 ∨ r = 1 ∨ r = 2 ∨ r = 3 := by omega
      rcases h4 with rfl | rfl | rfl | rfl
      · rw [List.getElem?_set_ne (by omega), List.getElem?_set_ne (by omega), List.getElem?_set_ne (by omega), Nat.add_zero, List.getElem?_set_self (by omega)]
        rfl
      · rw [List.getElem?_set_ne (by omega), List.getElem?_set_ne (by omega), List.getElem?_set_self (by simp; omega)]
        rfl
      · rw [List.getElem?_set_ne (by omega), List.getElem?_set_self (by simp; omega)]
        rfl
      · rw [List.getElem?_set_self (by simp; omega)]
        rfl
    · rw [List.getElem?_set_ne (by omega), List.getElem?_set_ne (by omega), List.getElem?_set_ne (by omega), List.getElem?_set_ne (by omega), hc, List.getElem_set_ne (by omega)]
  · rw [List.getElem?_eq_none (by rw [List.length_take]; omega), List.getElem?_eq_none (by rw [celC_len plaK, List.length_set]; omega)]
/-- A place in a row of the call's own is set. -/
theorem own_set4 {w : World} {B g cap : Nat} {cur : Array Value} (l : List PlaV) (i : Nat) (p : PlaV) (hi : i < l.length) (hB : B ≤ g) (hg : w.heap[g]? = some (.cells cur 26 (0, 0))) (hn : l.length ≤ cap) (hc : cap ≤ maxLen) (hs : cur.size = cap * 4) (ht : cur.toList.take (l.length * 4) = celC plaE l) :
    ((((w.setCell ⟨g, i * 4, none⟩ (.int .i64 p.1.1)).setCell ⟨g, i * 4 + 1, none⟩ (.int .i64 p.1.2)).setCell ⟨g, i * 4 + 2, none⟩ (.int .i64 p.2.1)).setCell ⟨g, i * 4 + 3, none⟩ (.int .i64 p.2.2)).ownsRow B 26 4 (.slice (some ⟨g, 0, none⟩) l.length cap) (l.set i p).length (celC plaE (l.set i p)) := by
  have h0 := heap_set hg (i * 4) (.int .i64 p.1.1)
  have h1 := heap_set h0 (i * 4 + 1) (.int .i64 p.1.2)
  have h2 := heap_set h1 (i * 4 + 2) (.int .i64 p.2.1)
  have h3 := heap_set h2 (i * 4 + 3) (.int .i64 p.2.2)
  refine ⟨by rw [celC_len plaK], .inr ⟨g, cap, _, by rw [List.length_set], hB, h3, by rw [List.length_set]; exact hn, hc, by simpa using hs, ?_⟩⟩
  have := cel_set l cur.toList i p hi ht (by simp; omega)
  simpa using this
theorem own_one (w : World) (b : Nat) (x y z u : Int) (h : w.heap[b]? = some (.cells #[.int .i64 x, .int .i64 y, .int .i64 z, .int .i64 u] 26 (0, 0))) : Plas w (.slice (some ⟨b, 0, none⟩) 1 1) [((x, y), (z, u))] := by
  refine ⟨by simp, _, _, rfl, ⟨Nat.le_refl _, by unfold maxLen; omega⟩, fun _ => ⟨b, 0, rfl, (Array.getElem?_eq_some_iff.1 h).1, fun j hj => ?_⟩⟩
  rw [cell_at h, Nat.zero_add]
  simp [celC, plaE]
end Go.Proofs.Ytfcbjdfelahfkaa
