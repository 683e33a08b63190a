/- A list that is written over; what stays. -/
import Derived.Test.YtonhoopmhkomcaaLive8
namespace Go.Proofs.Ytonhoopmhkomcaa
open Go.RowKit
theorem Ent.turn {wx wy : World} {k : Nat} {L : LogV} {a : Option Addr} {c : Nat} {F : Nat → Prop} (h : Ent wx k L (.slice a L.l.length c)) (ho : Out F wx wy) (hk : ¬ F k) (hg : 0 < L.l.length → ∀ b off, a = some ⟨b, off, none⟩ → ¬ F b) : Ent wy k L (.slice a L.l.length c) := by
  refine ⟨(ho.block _ h.lt hk).trans h.box, ?_⟩
  obtain ⟨h8, a', c', e, hcc, hr⟩ := h.got
  simp only [Value.slice.injEq] at e
  obtain ⟨rfl, _, rfl⟩ := e
  refine ⟨h8, a, c, rfl, hcc, fun hp => ?_⟩
  obtain ⟨b, off, rfl, hlt, hc⟩ := hr hp
  refine ⟨b, off, rfl, Nat.lt_of_lt_of_le hlt ho.size, fun j hj => ?_⟩
  have hb := ho.block b hlt (hg hp b off rfl)
  rw [← hc j hj]
  simp only [World.cell?, hb]
theorem EGot.turn {wx wy : World} {a : Option Addr} {c : Nat} {l : List EntV} {F : Nat → Prop} (h : EGot wx (.slice a l.length c) l) (ho : Out F wx wy) (hg : 0 < l.length → ∀ b off, a = some ⟨b, off, none⟩ → ¬ F b) : EGot wy (.slice a l.length c) l := by
  obtain ⟨h8, a', c', e, hcc, hr⟩ := h
  simp only [Value.slice.injEq] at e
  obtain ⟨rfl, _, rfl⟩ := e
  refine ⟨h8, a, c, rfl, hcc, fun hp => ?_⟩
  obtain ⟨b, off, rfl, hlt, hc⟩ := hr hp
  refine ⟨b, off, rfl, Nat.lt_of_lt_of_le hlt ho.size, fun j hj => ?_⟩
  have hb := ho.block b hlt (hg hp b off rfl)
  rw [← hc j hj]
  simp only [World.cell?, hb]
theorem EGot.blk {w : World} {a : Option Addr} {c : Nat} {l : List EntV} (h : EGot w (.slice a l.length c) l) : 0 < l.length → ∀ b off, a = some ⟨b, off, none⟩ → b < w.heap.size := by
  intro hp b off e
  obtain ⟨_, a', c', e2, _, hr⟩ := h
  simp only [Value.slice.injEq] at e2
  obtain ⟨rfl, _, _⟩ := e2
  obtain ⟨b2, off2, e3, hlt, _⟩ := hr hp
  rw [e] at e3
  simp only [Option.some.injEq, Addr.mk.injEq] at e3
  rw [e3.1]
  exact hlt
/-- What a list's own row is. -/
theorem own_row {w : World} {B n c : Nat} {a : Option Addr} {xs : List Value} (h : w.ownsRow B 40 3 (.slice a n c) n xs) : 0 < n → ∃ q, a = some ⟨q, 0, none⟩ ∧ B ≤ q ∧ q < w.heap.size ∧ n ≤ c ∧ ∃ cur, w.heap[q]? = some (.cells cur 40 (0, 0)) ∧ cur.size = c * 3 := by
  intro hp
  obtain ⟨_, ⟨_, h0⟩ | ⟨g, cap, cur, hv, hB, hg, hn, _, hs, _⟩⟩ := h
  · omega
  · simp only [Value.slice.injEq] at hv
    obtain ⟨rfl, _, rfl⟩ := hv
    exact ⟨g, rfl, hB, (Array.getElem?_eq_some_iff.1 hg).1, hn, cur, hg, hs⟩
set_option maxHeartbeats 4000000 in
set_option maxRecDepth 100000 in
theorem spoil_is (r : Value) (l : List EntV) (B : Nat) (w : World) (h : w.ownsRow B 40 3 r l.length (entC l)) (h8 : l.length * 32 ≤ 150000000000000) : Calls Try.prog 19 #[r] w fun e w' => e = .returned (.tuple #[]) ∧ Out (fun k => B ≤ k ∧ k < w.heap.size) w w' := by
  obtain ⟨xa, xc, rfl⟩ := own_len h
  have KX := hideIt (own_row h)
  have HR0 : Hid (Out (fun k => B ≤ k ∧ k < w.heap.size) w w ∧ ∀ q, xa = some ⟨q, 0, none⟩ → 0 < l.length → ∃ cur, w.heap[q]? = some (.cells cur 40 (0, 0)) ∧ cur.size = xc * 3) := by
    refine ⟨Out.refl _ _, fun q e hp => ?_⟩
    obtain ⟨q2, e2, _, _, _, cur, h1, h2⟩ := own_row h hp
    rw [e] at e2
    simp only [Option.some.injEq, Addr.mk.injEq] at e2
    rw [e2.1]
    exact ⟨cur, h1, h2⟩
  clear h
  go_enter Try.func19, Try.ntmps19
  go_wp2
  go_loopw [2] (fun v wr => ∃ t : Nat, v = .int .i64 t ∧ t ≤ l.length ∧ Hid (Out (fun k => B ≤ k ∧ k < w.heap.size) w wr ∧ ∀ q, xa = some ⟨q, 0, none⟩ → 0 < l.length → ∃ cur, wr.heap[q]? = some (.cells cur 40 (0, 0)) ∧ cur.size = xc * 3)) (fun v _ => l.length - (intOf v).toNat)
  case atStart => exact ⟨0, rfl, Nat.zero_le _, HR0⟩
  case round =>
    obtain ⟨t, rfl, ht, HR⟩ := hrel
    clear HR0
    by_cases hlt : t < l.length
    · have hltI : (t : Int) < (l.length : Int) := by omega
      have ht0 : (0 : Int) ≤ (t : Int) := by omega
      obtain ⟨q, rfl, hq1, hq2, hq3, _⟩ := KX.out (by omega)
      obtain ⟨cur, hc1, hc2⟩ := HR.out.2 q rfl (by omega)
      have hu : wr.cell? ⟨q, t * 3 + 2, none⟩ = some (cur[t * 3 + 2]'(by omega)) := by
        rw [cell_at hc1]
        exact Array.getElem?_eq_getElem (by omega)
      have hf : wr.frozen? ⟨q, t * 3 + 2, none⟩ = false := free_at hc1 _
      have HN : Hid (Out (fun k => B ≤ k ∧ k < w.heap.size) w (wr.setCell ⟨q, t * 3 + 2, none⟩ (.string ⟨#[119, 114, 105, 116, 116, 101, 110]⟩)) ∧ ∀ q2, some (⟨q, 0, none⟩ : Addr) = some ⟨q2, 0, none⟩ → 0 < l.length → ∃ cur, (wr.setCell ⟨q, t * 3 + 2, none⟩ (.string ⟨#[119, 114, 105, 116, 116, 101, 110]⟩)).heap[q2]? = some (.cells cur 40 (0, 0)) ∧ cur.size = xc * 3) := by
        refine ⟨HR.out.1.trans (Out.ofSet (F := fun k => B ≤ k ∧ k < w.heap.size) wr ⟨q, t * 3 + 2, none⟩ _ ⟨hq1, hq2⟩) (fun _ _ h => h), fun q2 e _ => ?_⟩
        simp only [Option.some.injEq, Addr.mk.injEq] at e
        rw [← e.1]
        exact ⟨_, heap_set hc1 _ _, by simpa using hc2⟩
      generalize (cur[t * 3 + 2]'(by omega)) = u at *
      clear hc1 hc2 HR
      go_wp2
      go_roundw
      case rel => exact ⟨t + 1, by go_num, by omega, HN⟩
      case measure => simp [intOf]; omega
    · have hltI : ¬ (t : Int) < (l.length : Int) := by omega
      go_wp2
      go_end0
      exact ⟨rfl, HR.out.1⟩
end Go.Proofs.Ytonhoopmhkomcaa
