/- Entries from an index on: the program's answer. -/
import Derived.Test.YtonhoopmhkomcaaAnew
namespace Go.Proofs.Ytonhoopmhkomcaa
open Go.RowKit
/-- A list comes back, in memory of its own. -/
def EntsBack (l : List EntV) (w : World) (e : Ending) (w' : World) : Prop := ∃ r, e = .returned r ∧ w'.ownsRow w.heap.size 40 3 r l.length (entC l) ∧ Below w.heap.size w w'
theorem own_nil (w : World) (B : Nat) : w.ownsRow B 40 3 (.slice none 0 0) 0 (entC []) := ⟨rfl, .inl ⟨rfl, rfl⟩⟩
theorem LsGot.one {w : World} {g : Value} {l : List EntV} (h : EGot w g l) : LsGot (w.alloc (.cells #[g] 24)) (.slice (some ⟨w.heap.size, 0, none⟩) 1 1) [g] [l] := by
  refine ⟨rfl, _, 1, rfl, fun j h1 h2 => ?_⟩
  have hj : j = 0 := by simpa using h1
  subst hj
  exact ⟨w.heap.size, 0, rfl, by simp, by rw [cell_at (heap_alloc_new w _)]; rfl, h.keep (below1 w _)⟩
theorem own_lift {w0 w w' : World} {r : Value} {n : Nat} {xs : List Value} (h : w'.ownsRow w.heap.size 40 3 r n xs) (hb : Below w0.heap.size w0 w) : w'.ownsRow w0.heap.size 40 3 r n xs := own_base h hb.size
theorem text_may {L : LogV} (h : mayB L = true) (k n : Nat) : ∀ e ∈ (L.l.drop k).take n, e.text.size ≤ 4000 := fun e he =>
  entB_text (rowsB_all L.l L.bt (mayB_in h).2.2.2.1 e (List.mem_of_mem_drop (List.mem_of_mem_take he)))
set_option maxHeartbeats 8000000 in
set_option maxRecDepth 100000 in
theorem from_is (L : LogV) (g : Value) (i m : Int) (w : World) (h : EGot w g L.l) (him : i64B i ∧ i64B m) : Calls Try.prog 12 #[logV L g, .int .i64 i, .int .i64 m] w (EntsBack (fromL L i m) w) := by
  have HI := hideIt (Box.first w L g)
  have H1 := hideIt (mayBe_is L g _ (h.keep HI.out.bel))
  have H2 := hideIt (fun wx (hx : Below w.heap.size w wx) (hm : mayB L = true) => hasEntry_is L g i wx (h.keep hx) (near_may hm))
  have hh := hideIt h
  have HTX := hideIt (fun (hm : mayB L = true) => text_may hm)
  unfold EntsBack fromL
  cases hm : mayB L
  · rw [hm] at H1
    simp only [Bool.false_and, Bool.false_eq_true, if_false]
    obtain ⟨a, c, rfl⟩ := h.slice
    unfold logV logA at *
    obtain ⟨bi, bt, l, cm⟩ := L
    simp only at H1 HI ⊢
    clear h H2 HTX
    go_enter Try.func12, Try.ntmps12
    go_wp2_with fail
    refine H1.out.mono ?_
    rintro e w1 ⟨rfl, hbl⟩
    dsimp only
    have HB2 := hideIt (below_via HI.out.bel hbl)
    clear hbl
    go_wp2
    go_ret
    exact ⟨_, rfl, own_nil _ _, HB2.out⟩
  · rw [hm] at H1
    have H3 := hideIt (fun wx hx => H2.out wx hx hm)
    have HT := hideIt (HTX.out hm)
    clear H2 HTX
    have hin := mayB_in hm
    have HHB : Hid (hasB L i = decide (L.bi + 1 ≤ i ∧ i ≤ lasI L)) := rfl
    have HL : Hid (lasI L = L.bi + (L.l.length : Int)) := rfl
    cases hb : hasB L i
    · simp only [Bool.and_false, Bool.false_and, Bool.false_eq_true, if_false]
      rw [hb] at H3
      obtain ⟨a, c, rfl⟩ := h.slice
      unfold logV logA at *
      obtain ⟨bi, bt, l, cm⟩ := L
      simp only at H1 H3 HI ⊢
      clear h hin HT HHB HL
      go_enter Try.func12, Try.ntmps12
      go_wp2_with fail
      refine H1.out.mono ?_
      rintro e w1 ⟨rfl, hbl⟩
      dsimp only
      have HI1 := hideIt (HI.out.keep hbl)
      obtain ⟨c0, c1, c2, c3⟩ := HI1.out.cells
      simp only at c0 c1 c2 c3
      clear hbl
      go_wp2_with fail
      refine (H3.out _ HI1.out.bel).mono ?_
      rintro e w2 ⟨rfl, hbl⟩
      dsimp only
      have HB2 := hideIt (below_via HI1.out.bel hbl)
      clear hbl c0 c1 c2 c3
      go_wp2
      go_ret
      exact ⟨_, rfl, own_nil _ _, HB2.out⟩
    · rw [hb] at H3
      by_cases h1 : 1 ≤ m
      · rw [decide_eq_true h1]
        simp only [Bool.and_self, if_true]
        have hlo := HHB.out
        rw [hb, eq_comm, decide_eq_true_eq, HL.out] at hlo
        obtain ⟨a, c, rfl⟩ := h.slice
        have hcap := h.cap
        have hlas := HL.out
        unfold maxLen at hcap
        unfold logV logA at *
        obtain ⟨bi, bt, l, cm⟩ := L
        simp only at H1 H3 HI HT hlo hin hcap hh hlas ⊢
        obtain ⟨k, hk⟩ : ∃ k : Nat, i - bi - 1 = (k : Int) := Int.eq_ofNat_of_zero_le (by omega)
        obtain ⟨mn, hmn⟩ : ∃ mn : Nat, m = (mn : Int) := Int.eq_ofNat_of_zero_le (by omega)
        subst hmn
        have hkl : k < l.length := by omega
        rw [hk]
        simp only [Int.toNat_natCast]
        obtain ⟨q, hq⟩ : ∃ q : Nat, q = min mn (l.length - k) := ⟨_, rfl⟩
        have hqk : k + q ≤ l.length := by omega
        have hpart : (l.drop k).take mn = (l.drop k).take q := by
          rw [hq]
          rcases Nat.le_total mn (l.length - k) with hle | hle
          · rw [Nat.min_eq_left hle]
          · rw [Nat.min_eq_right hle, List.take_of_length_le (by rw [List.length_drop]; omega), List.take_of_length_le (by rw [List.length_drop]; omega)]
        rw [hpart]
        obtain ⟨b0, off0, rfl⟩ : ∃ b off, a = some ⟨b, off, none⟩ := by
          obtain ⟨_, a', c', e, _, hr⟩ := hh.out
          simp only [Value.slice.injEq] at e
          obtain ⟨rfl, _, _⟩ := e
          obtain ⟨b, off, e, _⟩ := hr (by omega)
          exact ⟨b, off, e⟩
        have HP := hideIt (fun wx (hx : Below w.heap.size w wx) => (hh.out.keep hx).part k q (c - k) hqk ⟨by omega, by unfold maxLen; omega⟩ (some ⟨b0, off0 + k * 3, none⟩) (fun _ b off e => by simp only [Option.some.injEq, Addr.mk.injEq] at e; rw [e.1, e.2.1]))
        have HA := hideIt (fun wx (hx : Below w.heap.size w wx) => anew_is _ _ [(l.drop k).take q] ((l.drop k).take q) (by simp) _ (LsGot.one (HP.out wx hx)) (by rw [List.length_take, List.length_drop]; omega) (by simp) (HT.out k q))
        have hi1 : i ≤ 1000000 ∧ 1 ≤ i := by omega
        have hb1 : bi ≤ 1000000 ∧ 0 ≤ bi := by omega
        obtain ⟨hi1, hi2⟩ := hi1
        obtain ⟨hb1, hb2⟩ := hb1
        have k0 : (0 : Int) ≤ (k : Int) := by omega
        have k1 : (k : Int) ≤ (l.length : Int) := by omega
        have k2 : (l.length : Int) ≤ (c : Int) := by omega
        have hm1 : ¬ ((mn : Int) < 1) := by omega
        have hdk : l.length - k ≤ c - k := by omega
        have hqI : min (mn : Int) ((l.length - k : Nat) : Int) = (q : Int) := by omega
        have hq0 : (0 : Int) ≤ (q : Int) := by omega
        have hq1 : (q : Int) ≤ ((c - k : Nat) : Int) := by omega
        clear h hin hlo hcap hq hpart HHB HL hlas
        go_enter Try.func12, Try.ntmps12
        go_wp2_with fail
        refine H1.out.mono ?_
        rintro e w1 ⟨rfl, hbl⟩
        dsimp only
        have HI1 := hideIt (HI.out.keep hbl)
        obtain ⟨c0, c1, c2, c3⟩ := HI1.out.cells
        simp only at c0 c1 c2 c3
        clear hbl
        go_wp2_with fail
        refine (H3.out _ HI1.out.bel).mono ?_
        rintro e w2 ⟨rfl, hbl⟩
        dsimp only
        have HI2 := hideIt (HI1.out.keep hbl)
        clear hbl c0 c1 c2 c3
        obtain ⟨c0, c1, c2, c3⟩ := HI2.out.cells
        simp only at c0 c1 c2 c3
        clear HI HI1 H1 H3
        go_wp2_with fail
        refine (HA.out _ HI2.out.bel).mono ?_
        rintro e w3 ⟨r, rfl, ho, hbl⟩
        dsimp only
        have HO := hideIt (And.intro (own_lift ho (below_via HI2.out.bel (below1 _ _))) (below_via (below_via HI2.out.bel (below1 _ _)) hbl))
        clear ho hbl HA HP
        go_wp2
        go_ret
        exact ⟨_, rfl, HO.out.1, HO.out.2⟩
      · rw [decide_eq_false h1]
        simp only [Bool.and_false, Bool.false_eq_true, if_false]
        obtain ⟨a, c, rfl⟩ := h.slice
        unfold logV logA at *
        obtain ⟨bi, bt, l, cm⟩ := L
        simp only at H1 H3 HI ⊢
        have hm1 : m < 1 := by omega
        clear h hin HT HHB HL
        go_enter Try.func12, Try.ntmps12
        go_wp2_with fail
        refine H1.out.mono ?_
        rintro e w1 ⟨rfl, hbl⟩
        dsimp only
        have HI1 := hideIt (HI.out.keep hbl)
        obtain ⟨c0, c1, c2, c3⟩ := HI1.out.cells
        simp only at c0 c1 c2 c3
        clear hbl
        go_wp2_with fail
        refine (H3.out _ HI1.out.bel).mono ?_
        rintro e w2 ⟨rfl, hbl⟩
        dsimp only
        have HB2 := hideIt (below_via HI1.out.bel hbl)
        clear hbl c0 c1 c2 c3
        go_wp2
        go_ret
        exact ⟨_, rfl, own_nil _ _, HB2.out⟩
end Go.Proofs.Ytonhoopmhkomcaa
