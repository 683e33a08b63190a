/- What most have reached: the program. -/
import Derived.Test.YtonhoopmhkomcaaHas
import Derived.Test.YtonhoopmhkomcaaShelf
import Derived.Sort.OwnSortedInts
namespace Go.Proofs.Ytonhoopmhkomcaa
open Go.RowKit
/-- A list of numbers that can be read. -/
def NGot (w : World) (v : Value) (m : List Int) : Prop :=
  m.length * 8 ≤ 140737488355328 ∧ ∃ a c, v = .slice a m.length c ∧ (0 < m.length → ∃ b off, a = some ⟨b, off, none⟩ ∧ b < w.heap.size ∧ ∀ j, j < m.length → w.cell? ⟨b, off + j, none⟩ = some (.int .i64 (m.getD j 0)))
theorem NGot.keep {w w' : World} {v : Value} {m : List Int} (h : NGot w v m) (hb : Below w.heap.size w w') : NGot w' v m := by
  obtain ⟨h8, a, c, rfl, hr⟩ := h
  refine ⟨h8, a, c, rfl, fun hp => ?_⟩
  obtain ⟨b, off, rfl, hlt, hc⟩ := hr hp
  exact ⟨b, off, rfl, Nat.lt_of_lt_of_le hlt hb.size, fun j hj => (hb.cell hlt).trans (hc j hj)⟩
def sortL (m : List Int) : List Int := m.mergeSort fun x y => decide (x ≤ y)
theorem sortL_len (m : List Int) : (sortL m).length = m.length := List.length_mergeSort m
/-- The one in the middle, or below it. -/
def midL (m : List Int) : Int := (sortL m).getD ((m.length - 1) / 2) 0
set_option maxHeartbeats 4000000 in
set_option maxRecDepth 100000 in
theorem reached_is (m : List Int) (g : Value) (w : World) (h : NGot w g m) (hn : 1 ≤ m.length ∧ m.length ≤ 7) : Calls Try.prog 46 #[g] w fun e w' => e = .returned (.int .i64 (midL m)) ∧ Below w.heap.size w w' := by
  obtain ⟨h8, a, c, rfl, hr⟩ := h
  obtain ⟨b, off, rfl, hlt, hc⟩ := hr (by omega)
  have H1 := hideIt (slices_Clone_int b off m.length c m w (Nat.le_refl _) h8 hc)
  have HSo := hideIt (fun q cap wx hH hb => slices_Sort_int q 0 cap m wx hH hb (by omega))
  rw [List.take_of_length_le (Nat.le_refl _)] at H1
  have hsl := sortL_len m
  obtain ⟨ix, hix⟩ : ∃ ix : Nat, ix = (m.length - 1) / 2 := ⟨_, rfl⟩
  have hix2 : ix < m.length := by omega
  have HM : Hid (midL m = (sortL m)[ix]'(by omega)) := by
    show _ = _
    unfold midL
    rw [← hix, List.getD, List.getElem?_eq_getElem (by omega)]
    rfl
  have hI1 : ((m.length : Int) - 1).tdiv 2 = (ix : Int) := by
    rw [Int.tdiv_eq_ediv_of_nonneg (by omega)]
    omega
  have hI2 : (ix : Int) < (m.length : Int) := by omega
  have hI0 : (0 : Int) ≤ (ix : Int) := by omega
  clear hc hr
  go_enter Try.func46, Try.ntmps46
  go_wp2_with fail
  refine H1.out.mono ?_
  rintro e w1 ⟨v1, rfl, ho, hne, hbl⟩
  dsimp only
  obtain ⟨_, ⟨hv, _⟩ | ⟨q, cap, cur, rfl, hB, hg, hnc, hcm, hs, ht⟩⟩ := ho
  · exact absurd hv hne
  have hql := (Array.getElem?_eq_some_iff.1 hg).1
  rw [Nat.mul_one] at ht
  have HH := hideIt (holds_of_blockI hg ht)
  go_wp2_with fail
  refine (HSo.out q cap w1 HH.out hql).mono ?_
  rintro e w2 ⟨rfl, N, os, rfl⟩
  dsimp only
  have ow := ownsRow_sortedI (base := w.heap.size) (n := N) (os := os) (ss := m) (ts := sortL m) hsl hB hg hnc hcm hs
  have hbb : Below w.heap.size w (Sort.grow (Sort.putRow (Value.int .i64) (Sort.ahead w1 N) q 0 (sortL m).toArray) os) := below_out hbl (Out.ofGrown (F := fun k => k = q) (grownBy_sortedI (sortL m).toArray) (fun k e => by simpa using e.symm)) (fun k e => by omega)
  have hce : (Sort.grow (Sort.putRow (Value.int .i64) (Sort.ahead w1 N) q 0 (sortL m).toArray) os).cell? ⟨q, ix, none⟩ = some (.int .i64 (midL m)) := by
    rw [ow.cellAt ix (by omega), HM.out]
    simp [List.getElem?_map, List.getElem?_eq_getElem (show ix < (sortL m).length by omega)]
  have HB := hideIt hbb
  clear ow hbb HM HH HSo H1 hne ht hs hg hbl hB
  unfold sortL at hce HB
  generalize Sort.grow (Sort.putRow (Value.int .i64) (Sort.ahead w1 N) q 0 (m.mergeSort fun x y => decide (x ≤ y)).toArray) os = w2 at *
  clear hsl hix
  go_wp2
  go_ret
  exact ⟨rfl, HB.out⟩
end Go.Proofs.Ytonhoopmhkomcaa
