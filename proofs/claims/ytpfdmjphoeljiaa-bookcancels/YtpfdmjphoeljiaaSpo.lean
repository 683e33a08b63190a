/- A book is spoiled: nothing below it turns. -/
import Derived.Test.YtpfdmjphoeljiaaCop
import Derived.Test.YtpfdmjphoeljiaaRCo
namespace Go.Proofs.Ytpfdmjphoeljiaa
open Go.RowKit
set_option linter.all false
theorem row_setG {w : World} {B n g j z : Nat} {e : TypeId} {v u : Value} {xs : List Value} {cur : Array Value} (ho : w.ownsRow B e z v n xs) (hg : w.heap[g]? = some (.cells cur e (0, 0))) : ∃ ys, (w.setCell ⟨g, j, none⟩ u).ownsRow B e z v n ys := by
  obtain ⟨h1, hn | ⟨g', cap, cur', hv, hb, hg', hnc, hcm, hs, ht⟩⟩ := ho
  · exact ⟨xs, h1, .inl hn⟩
  · by_cases e1 : g' = g
    · subst e1
      refine ⟨(cur'.setIfInBounds j u).toList.take (n * z), ?_, .inr ⟨g', cap, cur'.setIfInBounds j u, hv, hb, heap_set hg' j u, hnc, hcm, by simp [hs], rfl⟩⟩
      rw [List.length_take]
      simp [hs]
      rw [Nat.min_eq_left hnc]
    · exact ⟨xs, h1, .inr ⟨g', cap, cur', hv, hb, (heap_set_other _ _ _ _ _ e1).trans hg', hnc, hcm, hs, ht⟩⟩
theorem row_atG {w : World} {B n z : Nat} {e : TypeId} {v : Value} {xs : List Value} (ho : w.ownsRow B e z v n xs) (q : Nat) (hq : q < z) : ∃ a c, v = .slice a n c ∧ ∀ i, i < n → ∃ g off cur u, a = some ⟨g, off, none⟩ ∧ B ≤ g ∧ w.heap[g]? = some (.cells cur e (0, 0)) ∧ g < w.heap.size ∧ w.cell? ⟨g, off + i * z + q, none⟩ = some u ∧ w.frozen? ⟨g, off + i * z + q, none⟩ = false := by
  obtain ⟨h1, ⟨rfl, rfl⟩ | ⟨g, cap, cur, rfl, hb, hg, hnc, hcm, hs, ht⟩⟩ := ho
  · exact ⟨_, _, rfl, fun i hi => by omega⟩
  · refine ⟨_, _, rfl, fun i hi => ?_⟩
    have hlt : 0 + i * z + q < cur.size := by
      rw [hs]
      have : (i + 1) * z ≤ cap * z := Nat.mul_le_mul_right _ (by omega)
      rw [Nat.add_mul, Nat.one_mul] at this
      omega
    exact ⟨g, 0, cur, cur[0 + i * z + q], rfl, hb, hg, (Array.getElem?_eq_some_iff.1 hg).1, by rw [cell_at hg, Array.getElem?_eq_getElem hlt], free_at hg _⟩
theorem ty_set {W : World} {b j k : Nat} {u : Value} {cs cur : Array Value} {t e : TypeId} (h : W.heap[b]? = some (.cells cs t (0, 0))) (hg : W.heap[k]? = some (.cells cur e (0, 0))) (hne : t ≠ e) : (W.setCell ⟨k, j, none⟩ u).heap[b]? = some (.cells cs t (0, 0)) :=
  setOther _ h (fun e1 => by rw [e1, hg] at h; simp at h; exact hne h.2.symm)
/-- A book while it is spoiled. -/
structure SP (w : World) (B K : Nat) (cs : Array Value) (b a o : Value) (nb na no : Nat) (W : World) : Prop where
  bx : W.heap[K]? = some (.cells cs 25 (0, 0))
  ob : ∃ xs, W.ownsRow B 49 4 b nb xs
  oa : ∃ xs, W.ownsRow B 49 4 a na xs
  oo : ∃ xs, W.ownsRow B 66 3 o no xs
  bel : Below B w W
theorem SP.s49 {w W : World} {B K : Nat} {cs : Array Value} {b a o u : Value} {nb na no g j : Nat} {cur : Array Value} (h : SP w B K cs b a o nb na no W) (hg : W.heap[g]? = some (.cells cur 49 (0, 0))) (hB : B ≤ g) : SP w B K cs b a o nb na no (W.setCell ⟨g, j, none⟩ u) := by
  obtain ⟨xb, hb⟩ := h.ob
  obtain ⟨xa, ha⟩ := h.oa
  obtain ⟨xo, ho⟩ := h.oo
  exact ⟨ty_set h.bx hg (by decide), row_setG hb hg, row_setG ha hg, ⟨xo, own_cell ho hg (by decide)⟩, belowSet _ h.bel hB⟩
theorem SP.s66 {w W : World} {B K : Nat} {cs : Array Value} {b a o u : Value} {nb na no g j : Nat} {cur : Array Value} (h : SP w B K cs b a o nb na no W) (hg : W.heap[g]? = some (.cells cur 66 (0, 0))) (hB : B ≤ g) : SP w B K cs b a o nb na no (W.setCell ⟨g, j, none⟩ u) := by
  obtain ⟨xb, hb⟩ := h.ob
  obtain ⟨xa, ha⟩ := h.oa
  obtain ⟨xo, ho⟩ := h.oo
  exact ⟨ty_set h.bx hg (by decide), ⟨xb, own_cell hb hg (by decide)⟩, ⟨xa, own_cell ha hg (by decide)⟩, row_setG ho hg, belowSet _ h.bel hB⟩
set_option maxHeartbeats 16000000 in
set_option maxRecDepth 100000 in
theorem spoil_is (L : LaneV) (b a o : Value) (w : World) (B : Nat) (hB : B ≤ w.heap.size) (hlb : L.bids.length ≤ 140737488355328) (hla : L.asks.length ≤ 140737488355328) (hlo : L.owed.length ≤ 140737488355328) (ob : ∃ xs, w.ownsRow B 49 4 b L.bids.length xs) (oa : ∃ xs, w.ownsRow B 49 4 a L.asks.length xs) (oo : ∃ xs, w.ownsRow B 66 3 o L.owed.length xs) : Calls Try.prog 10 #[laneV L b a o] w fun e w' => e = .returned (.tuple #[]) ∧ Below B w w' := by
  have hb1 := below1 w (.cells (laneA L b a o) 25)
  have X0 : Hid (SP w B w.heap.size (laneA L b a o) b a o L.bids.length L.asks.length L.owed.length (w.alloc (.cells (laneA L b a o) 25))) := by
    obtain ⟨xb, hb⟩ := ob
    obtain ⟨xa, ha⟩ := oa
    obtain ⟨xo, ho⟩ := oo
    exact ⟨heap_alloc_new w _, ⟨xb, own_keep hb hb1⟩, ⟨xa, own_keep ha hb1⟩, ⟨xo, own_keep ho hb1⟩, hb1.mono hB⟩
  clear hb1
  obtain ⟨ba, bc, rfl⟩ : ∃ x c, b = .slice x L.bids.length c := by obtain ⟨_, h⟩ := ob; exact own_len h
  obtain ⟨aa, ac, rfl⟩ : ∃ x c, a = .slice x L.asks.length c := by obtain ⟨_, h⟩ := oa; exact own_len h
  obtain ⟨oa', oc, rfl⟩ : ∃ x c, o = .slice x L.owed.length c := by obtain ⟨_, h⟩ := oo; exact own_len h
  clear ob oa oo
  unfold laneV
  unfold laneA at *
  generalize L.bids.length = nb at *
  generalize L.asks.length = na at *
  generalize L.owed.length = no at *
  go_enter Try.func10, Try.ntmps10
  go_upto_region 2 with fail
  generalize w.alloc (.cells #[.bool L.call, .int .i64 L.next, .slice ba nb bc, .slice aa na ac, .slice oa' no oc] 25) = W0 at *
  generalize w.heap.size = K at *
  go_loopw [2] (fun x wr => ∃ t : Nat, x = .int .i64 t ∧ t ≤ nb ∧ Hid (SP w B K #[.bool L.call, .int .i64 L.next, .slice ba nb bc, .slice aa na ac, .slice oa' no oc] (.slice ba nb bc) (.slice aa na ac) (.slice oa' no oc) nb na no wr)) (fun x _ => nb - (intOf x).toNat)
  case atStart => exact ⟨0, rfl, Nat.zero_le _, X0⟩
  case round =>
    clear X0
    obtain ⟨t, rfl, ht, HW⟩ := hrel
    obtain ⟨⟨c0, c1, c2, c3, c4⟩, -, cl0⟩ := five_at HW.out.bx
    by_cases hlt : t < nb
    · have hltI : (t : Int) < (nb : Int) := by omega
      have ht0 : (0 : Int) ≤ (t : Int) := by omega
      have hwt : IntKind.i64.wrap ((t : Int) + 1) = ((t + 1 : Nat) : Int) := by rw [IntKind.wrap_i64]; omega
      obtain ⟨xs, hx⟩ := HW.out.ob
      obtain ⟨a', c', e, hr⟩ := row_atG hx 0 (by omega)
      simp only [Value.slice.injEq, true_and] at e
      obtain ⟨rfl, rfl⟩ := e
      obtain ⟨g, off, cu, u, rfl, hBb, hgb, hbl, hcu, hf⟩ := hr t hlt
      have Z := hideIt (HW.out.s49 (j := off + t * 4) (u := .int .i64 (-1)) hgb hBb)
      simp only [Nat.add_zero] at hcu hf
      clear hr hx hgb HW
      go_wp2
      go_roundw
      case rel => exact ⟨t + 1, by go_num, by omega, Z⟩
      case measure => simp [intOf]; omega
    · have hltI : ¬ (t : Int) < (nb : Int) := by omega
      go_upto_region 6 with fail
      clear c0 c1 c2 c3 c4 cl0 ht hlt hltI
      go_loopw [3] (fun x wr => ∃ t : Nat, x = .int .i64 t ∧ t ≤ na ∧ Hid (SP w B K #[.bool L.call, .int .i64 L.next, .slice ba nb bc, .slice aa na ac, .slice oa' no oc] (.slice ba nb bc) (.slice aa na ac) (.slice oa' no oc) nb na no wr)) (fun x _ => na - (intOf x).toNat)
      case atStart => exact ⟨0, rfl, Nat.zero_le _, HW⟩
      case round =>
        clear HW
        obtain ⟨t, rfl, ht, HW⟩ := hrel
        obtain ⟨⟨c0, c1, c2, c3, c4⟩, -, cl0⟩ := five_at HW.out.bx
        by_cases hlt : t < na
        · have hltI : (t : Int) < (na : Int) := by omega
          have ht0 : (0 : Int) ≤ (t : Int) := by omega
          have hwt : IntKind.i64.wrap ((t : Int) + 1) = ((t + 1 : Nat) : Int) := by rw [IntKind.wrap_i64]; omega
          obtain ⟨xs, hx⟩ := HW.out.oa
          obtain ⟨a', c', e, hr⟩ := row_atG hx 0 (by omega)
          simp only [Value.slice.injEq, true_and] at e
          obtain ⟨rfl, rfl⟩ := e
          obtain ⟨g, off, cu, u, rfl, hBb, hgb, hbl, hcu, hf⟩ := hr t hlt
          have Z := hideIt (HW.out.s49 (j := off + t * 4) (u := .int .i64 (-2)) hgb hBb)
          simp only [Nat.add_zero] at hcu hf
          clear hr hx hgb HW
          go_wp2
          go_roundw
          case rel => exact ⟨t + 1, by go_num, by omega, Z⟩
          case measure => simp [intOf]; omega
        · have hltI : ¬ (t : Int) < (na : Int) := by omega
          go_upto_region 10 with fail
          clear c0 c1 c2 c3 c4 cl0 ht hlt hltI
          go_loopw [4] (fun x wr => ∃ t : Nat, x = .int .i64 t ∧ t ≤ no ∧ Hid (SP w B K #[.bool L.call, .int .i64 L.next, .slice ba nb bc, .slice aa na ac, .slice oa' no oc] (.slice ba nb bc) (.slice aa na ac) (.slice oa' no oc) nb na no wr)) (fun x _ => no - (intOf x).toNat)
          case atStart => exact ⟨0, rfl, Nat.zero_le _, HW⟩
          case round =>
            clear HW
            obtain ⟨t, rfl, ht, HW⟩ := hrel
            obtain ⟨⟨c0, c1, c2, c3, c4⟩, -, cl0⟩ := five_at HW.out.bx
            by_cases hlt : t < no
            · have hltI : (t : Int) < (no : Int) := by omega
              have ht0 : (0 : Int) ≤ (t : Int) := by omega
              have hwt : IntKind.i64.wrap ((t : Int) + 1) = ((t + 1 : Nat) : Int) := by rw [IntKind.wrap_i64]; omega
              obtain ⟨xs, hx⟩ := HW.out.oo
              obtain ⟨a', c', e, hr⟩ := row_atG hx 2 (by omega)
              simp only [Value.slice.injEq, true_and] at e
              obtain ⟨rfl, rfl⟩ := e
              obtain ⟨g, off, cu, u, rfl, hBb, hgb, hbl, hcu, hf⟩ := hr t hlt
              have Z := hideIt (HW.out.s66 (j := off + t * 3 + 2) (u := .int .i64 (-3)) hgb hBb)
              clear hr hx hgb HW
              go_wp2
              go_roundw
              case rel => exact ⟨t + 1, by go_num, by omega, Z⟩
              case measure => simp [intOf]; omega
            · have hltI : ¬ (t : Int) < (no : Int) := by omega
              go_wp2
              exact bodyPost_end (results_none rfl _ _ _) rfl ⟨rfl, HW.out.bel⟩
end Go.Proofs.Ytpfdmjphoeljiaa
