/- Sessions are spoiled: nothing below them turns. -/
import Derived.Test.YtgdgpcheammbpaaDoorWit
namespace Go.Proofs.YtgdgpcheammbpaaDoor
open Go.RowKit
set_option linter.all false
theorem row_setG {w : World} {B n g j z : Nat} {e : TypeId} {v u : Value} {xs : List Value} {cur : Array Value} (ho : w.ownsRow B e z v n xs) (hg : w.heap[g]? = some (.cells cur e (0, 0))) : ∃ ys, (w.setCell ⟨g, j, none⟩ u).ownsRow B e z v n ys := by
  obtain ⟨h1, hn | ⟨g', cap, cur', hv, hb, hg', hnc, hcm, hs, ht⟩⟩ := ho
  · exact ⟨xs, h1, .inl hn⟩
  · by_cases e1 : g' = g
    · subst e1
      refine ⟨(cur'.setIfInBounds j u).toList.take (n * z), ?_, .inr ⟨g', cap, cur'.setIfInBounds j u, hv, hb, heap_set hg' j u, hnc, hcm, by simp [hs], rfl⟩⟩
      rw [List.length_take]
      simp [hs]
      rw [Nat.min_eq_left hnc]
    · exact ⟨xs, h1, .inr ⟨g', cap, cur', hv, hb, (heap_set_other _ _ _ _ _ e1).trans hg', hnc, hcm, hs, ht⟩⟩
theorem row_atG {w : World} {B n z : Nat} {e : TypeId} {v : Value} {xs : List Value} (ho : w.ownsRow B e z v n xs) (q : Nat) (hq : q < z) : ∃ a c, v = .slice a n c ∧ ∀ i, i < n → ∃ g off cur u, a = some ⟨g, off, none⟩ ∧ B ≤ g ∧ w.heap[g]? = some (.cells cur e (0, 0)) ∧ g < w.heap.size ∧ w.cell? ⟨g, off + i * z + q, none⟩ = some u ∧ w.frozen? ⟨g, off + i * z + q, none⟩ = false := by
  obtain ⟨h1, ⟨rfl, rfl⟩ | ⟨g, cap, cur, rfl, hb, hg, hnc, hcm, hs, ht⟩⟩ := ho
  · exact ⟨_, _, rfl, fun i hi => by omega⟩
  · refine ⟨_, _, rfl, fun i hi => ?_⟩
    have hlt : 0 + i * z + q < cur.size := by
      rw [hs]
      have : (i + 1) * z ≤ cap * z := Nat.mul_le_mul_right _ (by omega)
      rw [Nat.add_mul, Nat.one_mul] at this
      omega
    exact ⟨g, 0, cur, cur[0 + i * z + q], rfl, hb, hg, (Array.getElem?_eq_some_iff.1 hg).1, by rw [cell_at hg, Array.getElem?_eq_getElem hlt], free_at hg _⟩
/-- The lists of an answer are still rows. -/
def AnsRow (B : Nat) (W : World) (x : AnsX) : Prop := (∃ xs, W.ownsRow B 55 2 x.am x.v.am.length xs) ∧ ∃ xs, W.ownsRow B 81 4 x.fl x.v.fl.length xs
theorem AnsRow.s55 {B g j : Nat} {W : World} {x : AnsX} {u : Value} {cur : Array Value} (h : AnsRow B W x) (hg : W.heap[g]? = some (.cells cur 55 (0, 0))) : AnsRow B (W.setCell ⟨g, j, none⟩ u) x := by
  obtain ⟨⟨xs, h1⟩, ys, h2⟩ := h
  exact ⟨row_setG h1 hg, ys, own_cell h2 hg (by decide)⟩
theorem AnsRow.s81 {B g j : Nat} {W : World} {x : AnsX} {u : Value} {cur : Array Value} (h : AnsRow B W x) (hg : W.heap[g]? = some (.cells cur 81 (0, 0))) : AnsRow B (W.setCell ⟨g, j, none⟩ u) x := by
  obtain ⟨⟨xs, h1⟩, ys, h2⟩ := h
  exact ⟨⟨xs, own_cell h1 hg (by decide)⟩, row_setG h2 hg⟩
theorem AnsRow.s69 {B g j : Nat} {W : World} {x : AnsX} {u : Value} {cur : Array Value} (h : AnsRow B W x) (hg : W.heap[g]? = some (.cells cur 69 (0, 0))) : AnsRow B (W.setCell ⟨g, j, none⟩ u) x := by
  obtain ⟨⟨xs, h1⟩, ys, h2⟩ := h
  exact ⟨⟨xs, own_cell h1 hg (by decide)⟩, ys, own_cell h2 hg (by decide)⟩
/-- The row of sessions while it is spoiled. -/
structure SW (w : World) (B g n : Nat) (X : Nat → AnsX) (W : World) : Prop where
  row : ∃ cur : Array Value, W.heap[g]? = some (.cells cur 69 (0, 0)) ∧ n * 7 ≤ cur.size ∧ ∀ i, i < n → cur[i * 7 + 5]? = some (X i).am ∧ cur[i * 7 + 6]? = some (X i).fl
  ans : ∀ i, i < n → AnsRow B W (X i)
  bel : Below B w W
  hB : B ≤ g
  kp : ∀ y, AnsRow B w y → AnsRow B W y
  ty : ∀ (b : Nat) (cs : Array Value) (t : TypeId), w.heap[b]? = some (.cells cs t (0, 0)) → t ≠ 55 → t ≠ 81 → t ≠ 69 → W.heap[b]? = some (.cells cs t (0, 0))
theorem ty_set {W : World} {b j k : Nat} {u : Value} {cs cur : Array Value} {t e : TypeId} (h : W.heap[b]? = some (.cells cs t (0, 0))) (hg : W.heap[k]? = some (.cells cur e (0, 0))) (hne : t ≠ e) : (W.setCell ⟨k, j, none⟩ u).heap[b]? = some (.cells cs t (0, 0)) :=
  setOther _ h (fun e1 => by rw [e1, hg] at h; simp at h; exact hne h.2.symm)
theorem SW.in55 {w W : World} {B g n b j : Nat} {X : Nat → AnsX} {u : Value} {cur : Array Value} (h : SW w B g n X W) (hg : W.heap[b]? = some (.cells cur 55 (0, 0))) (hb : B ≤ b) : SW w B g n X (W.setCell ⟨b, j, none⟩ u) := by
  obtain ⟨c, h1, h2, h3⟩ := h.row
  exact ⟨⟨c, setOther _ h1 (fun e => by rw [e, hg] at h1; simp at h1), h2, h3⟩, fun i hi => (h.ans i hi).s55 hg, belowSet _ h.bel hb, h.hB, fun y hy => (h.kp y hy).s55 hg, fun b cs t h0 n1 n2 n3 => ty_set (h.ty b cs t h0 n1 n2 n3) hg n1⟩
theorem SW.in81 {w W : World} {B g n b j : Nat} {X : Nat → AnsX} {u : Value} {cur : Array Value} (h : SW w B g n X W) (hg : W.heap[b]? = some (.cells cur 81 (0, 0))) (hb : B ≤ b) : SW w B g n X (W.setCell ⟨b, j, none⟩ u) := by
  obtain ⟨c, h1, h2, h3⟩ := h.row
  exact ⟨⟨c, setOther _ h1 (fun e => by rw [e, hg] at h1; simp at h1), h2, h3⟩, fun i hi => (h.ans i hi).s81 hg, belowSet _ h.bel hb, h.hB, fun y hy => (h.kp y hy).s81 hg, fun b cs t h0 n1 n2 n3 => ty_set (h.ty b cs t h0 n1 n2 n3) hg n2⟩
theorem SW.client {w W : World} {B g n t : Nat} {X : Nat → AnsX} {u : Value} (h : SW w B g n X W) : SW w B g n X (W.setCell ⟨g, t * 7, none⟩ u) := by
  obtain ⟨c, h1, h2, h3⟩ := h.row
  refine ⟨⟨c.setIfInBounds (t * 7) u, heap_set h1 _ u, by simpa using h2, fun i hi => ?_⟩, fun i hi => (h.ans i hi).s69 h1, belowSet _ h.bel h.hB, h.hB, fun y hy => (h.kp y hy).s69 h1, fun b cs t h0 n1 n2 n3 => ty_set (h.ty b cs t h0 n1 n2 n3) h1 n3⟩
  obtain ⟨k1, k2⟩ := h3 i hi
  rw [Array.getElem?_setIfInBounds_ne (by omega), Array.getElem?_setIfInBounds_ne (by omega)]
  exact ⟨k1, k2⟩
theorem SW.cells {w W : World} {B g n t : Nat} {X : Nat → AnsX} (h : SW w B g n X W) (ht : t < n) : W.cell? ⟨g, t * 7 + 5, none⟩ = some (X t).am ∧ W.cell? ⟨g, t * 7 + 6, none⟩ = some (X t).fl ∧ (∃ u, W.cell? ⟨g, t * 7, none⟩ = some u) ∧ W.frozen? ⟨g, t * 7, none⟩ = false ∧ g < W.heap.size := by
  obtain ⟨c, h1, h2, h3⟩ := h.row
  obtain ⟨k1, k2⟩ := h3 t ht
  refine ⟨by rw [cell_at h1, k1], by rw [cell_at h1, k2], ⟨c[t * 7]'(by omega), by rw [cell_at h1, Array.getElem?_eq_getElem (by omega)]⟩, free_at h1 _, (Array.getElem?_eq_some_iff.1 h1).1⟩
/-- What spoiling leaves. -/
structure Spoiled (B : Nat) (w w' : World) : Prop where
  bel : Below B w w'
  kp : ∀ y, AnsRow B w y → AnsRow B w' y
  ty : ∀ (b : Nat) (cs : Array Value) (t : TypeId), w.heap[b]? = some (.cells cs t (0, 0)) → t ≠ 55 → t ≠ 81 → t ≠ 69 → w'.heap[b]? = some (.cells cs t (0, 0))
set_option maxHeartbeats 16000000 in
set_option maxRecDepth 100000 in
theorem spoil_is (v : Value) (ys : List SesX) (w : World) (B : Nat) (hB : B ≤ w.heap.size) (ho : SesOwn B w v ys) : Calls Tryd.prog 23 #[v] w fun e w' => e = .returned (.tuple #[]) ∧ Spoiled B w w' := by
  have h88 := ho.siz
  obtain ⟨hr1, ⟨rfl, h0⟩ | ⟨g, cap, cur, rfl, hgB, hg, hnc, hcm, hs, ht⟩⟩ := ho.row
  · clear ho hr1
    go_enter Tryd.func23, Tryd.ntmps23
    go_wp2
    go_loopw [2] (fun x wr => x = .int .i64 0 ∧ wr = w) (fun x _ => 0)
    case atStart => exact ⟨rfl, rfl⟩
    case round =>
      obtain ⟨rfl, hw⟩ := hrel
      have hw2 := hw.symm
      subst hw2
      go_wp2
      exact bodyPost_end (results_none rfl _ _ _) rfl ⟨rfl, ⟨Below.refl _ _, fun _ h => h, fun _ _ _ h _ _ _ => h⟩⟩
  · obtain ⟨X, hX⟩ : ∃ X : Nat → AnsX, ∀ i (h : i < ys.length), X i = ys[i].x := ⟨fun i => if h : i < ys.length then ys[i].x else zAnsX, fun i h => by simp [h]⟩
    have X0 : Hid (SW w B g ys.length X w) := by
      refine ⟨⟨cur, hg, ?_, fun i hi => ?_⟩, fun i hi => ?_, Below.refl _ _, hgB, fun _ h => h, fun _ _ _ h _ _ _ => h⟩
      · rw [hs]
        exact Nat.mul_le_mul_right _ hnc
      · have g5 := celC_get sesK ys i hi 5 (by omega)
        have g6 := celC_get sesK ys i hi 6 (by omega)
        rw [← ht, List.getElem?_take, if_pos (by omega)] at g5 g6
        rw [hX i hi]
        have k5 : cur[i * 7 + 5]? = (sesE ys[i])[5]? := by simpa using g5
        have k6 : cur[i * 7 + 6]? = (sesE ys[i])[6]? := by simpa using g6
        exact ⟨k5, k6⟩
      · rw [hX i hi]
        have := ho.ans ys[i] (List.getElem_mem hi)
        exact ⟨⟨_, this.a⟩, _, this.f⟩
    have HSZ : Hid (∀ i, i < ys.length → (X i).v.am.length * 16 ≤ 140737488355328 ∧ (X i).v.fl.length * 32 ≤ 140737488355328) := by
      intro i hi
      rw [hX i hi]
      have := ho.ans ys[i] (List.getElem_mem hi)
      exact ⟨this.sa, this.sf⟩
    clear ho hX hg hs ht hr1
    generalize ys.length = N at *
    go_enter Tryd.func23, Tryd.ntmps23
    go_wp2
    go_loopw [2] (fun x wr => ∃ t : Nat, x = .int .i64 t ∧ t ≤ N ∧ Hid (SW w B g N X wr)) (fun x _ => N - (intOf x).toNat)
    case atStart => exact ⟨0, rfl, Nat.zero_le _, X0⟩
    case round =>
      clear X0
      obtain ⟨t, rfl, ht, HW⟩ := hrel
      by_cases hlt : t < N
      · have hltI : (t : Int) < (N : Int) := by omega
        have ht0 : (0 : Int) ≤ (t : Int) := by omega
        obtain ⟨sz1, sz2⟩ := HSZ.out t hlt
        have e1 : (X t).am = .slice (X t).aa (X t).v.am.length (X t).ac := rfl
        have e2 : (X t).fl = .slice (X t).fa (X t).v.fl.length (X t).fc := rfl
        have HCL := hideIt (fun W (h : SW w B g N X W) => h.cells hlt)
        rw [e1, e2] at HCL
        have HAR := hideIt (fun W (h : SW w B g N X W) => h.ans t hlt)
        unfold AnsRow at HAR
        rw [e1, e2] at HAR
        clear e1 e2 HSZ
        generalize (X t).aa = xa at *
        generalize (X t).ac = xc at *
        generalize (X t).fa = ya at *
        generalize (X t).fc = yc at *
        generalize (X t).v.am.length = am at *
        generalize (X t).v.fl.length = fm at *
        go_upto_region 4 with fail
        go_loopw [3] (fun x wr => ∃ k : Nat, x = .int .i64 k ∧ k ≤ am ∧ Hid (SW w B g N X wr)) (fun x _ => am - (intOf x).toNat)
        case atStart => exact ⟨0, rfl, Nat.zero_le _, HW⟩
        case round =>
          clear HW
          obtain ⟨k, rfl, hk, HW⟩ := hrel
          obtain ⟨c5, c6, -, -, gz⟩ := HCL.out _ HW.out
          by_cases hkl : k < am
          · have hklI : (k : Int) < (am : Int) := by omega
            have hk0 : (0 : Int) ≤ (k : Int) := by omega
            obtain ⟨⟨xs, hx⟩, -⟩ := HAR.out _ HW.out
            obtain ⟨a', c', e, hr⟩ := row_atG hx 1 (by omega)
            simp only [Value.slice.injEq, true_and] at e
            obtain ⟨rfl, rfl⟩ := e
            obtain ⟨b, off, cu, u, rfl, hBb, hgb, hbl, hcu, hf⟩ := hr k hkl
            have Z := hideIt (HW.out.in55 (j := off + k * 2 + 1) (u := .int .i64 (-1)) hgb hBb)
            clear hr hx hgb HW
            go_wp2
            go_roundw
            case rel => exact ⟨k + 1, by go_num, by omega, Z⟩
            case measure => simp [intOf]; omega
          · have hklI : ¬ (k : Int) < (am : Int) := by omega
            go_upto_region 8 with fail
            clear c5 c6 gz hk hkl hklI
            go_loopw [4] (fun x wr => ∃ k : Nat, x = .int .i64 k ∧ k ≤ fm ∧ Hid (SW w B g N X wr)) (fun x _ => fm - (intOf x).toNat)
            case atStart => exact ⟨0, rfl, Nat.zero_le _, HW⟩
            case round =>
              clear HW
              obtain ⟨k, rfl, hk, HW⟩ := hrel
              obtain ⟨c5, c6, ⟨c0, hc0⟩, hf0, gz⟩ := HCL.out _ HW.out
              by_cases hkl : k < fm
              · have hklI : (k : Int) < (fm : Int) := by omega
                have hk0 : (0 : Int) ≤ (k : Int) := by omega
                obtain ⟨-, xs, hx⟩ := HAR.out _ HW.out
                obtain ⟨a', c', e, hr⟩ := row_atG hx 3 (by omega)
                simp only [Value.slice.injEq, true_and] at e
                obtain ⟨rfl, rfl⟩ := e
                obtain ⟨b, off, cu, u, rfl, hBb, hgb, hbl, hcu, hf⟩ := hr k hkl
                have Z := hideIt (HW.out.in81 (j := off + k * 4 + 3) (u := .int .i64 (-1)) hgb hBb)
                clear hr hx hgb HW
                go_wp2
                go_roundw
                case rel => exact ⟨k + 1, by go_num, by omega, Z⟩
                case measure => simp [intOf]; omega
              · have hklI : ¬ (k : Int) < (fm : Int) := by omega
                have Z := hideIt (HW.out.client (t := t) (u := .int .i64 (-1)))
                clear HW
                go_wp2
                go_roundw
                case rel => exact ⟨t + 1, by go_num, by omega, Z⟩
                case measure => simp [intOf]; omega
      · have hltI : ¬ (t : Int) < (N : Int) := by omega
        go_wp2
        exact bodyPost_end (results_none rfl _ _ _) rfl ⟨rfl, ⟨HW.out.bel, HW.out.kp, HW.out.ty⟩⟩
end Go.Proofs.YtgdgpcheammbpaaDoor
