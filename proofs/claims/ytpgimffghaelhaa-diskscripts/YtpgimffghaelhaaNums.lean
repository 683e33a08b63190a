/- The numbers of a disk's segments, rising. -/
import Derived.Test.YtpgimffghaelhaaShelf
import Derived.Test.YtpgimffghaelhaaPut
namespace Go.Proofs.Ytpgimffghaelhaa
open Go.RowKit Go.Maps Go.Sort Go.Shelf

theorem sortsA (m : Nat) : AnyZI.SortsIn Try.prog laySorted_ren Fence.wide m :=
  ⟨fun blk off cap ss W hH hblk hsz => callsIn_wide.2 (AnyM.slices_Sort_int laySort blk off cap ss W hH hblk hsz),
   fun p cap W => callsIn_wide.2 (AnyM.slices_Sort_int_none laySort p cap W)⟩
/-- A slice of numbers of its own. -/
def Ints (w : World) (g : Nat) (a : Option Addr) (l : List Int) : Prop :=
  l ≠ [] → a = some ⟨g, 0, none⟩ ∧ ∃ cur, w.heap[g]? = some (.cells cur 3 (0, 0)) ∧ cur.toList.take l.length = l.map (Value.int .i64)
def asInts (l : List Nat) : List Int := l.map (fun k : Nat => (k : Int))
theorem sorted_nums (f : Nat → Seg) (ss : List Int) (h : ss.Perm (asInts (nums f 1000))) : ss.mergeSort (fun x y => decide (x ≤ y)) = asInts (nums f 1000) := by
  have e := mergeSort_of_perm_i h
  show ss.mergeSort leI = _
  rw [e]
  refine List.mergeSort_of_pairwise ?_
  refine List.pairwise_map.2 ((nums_sorted f 1000).imp fun {a b} hab => ?_)
  simp [leI]
  omega
set_option maxHeartbeats 1000000 in
theorem numbers_any {w : World} {F : Nat → Prop} {p mb : Nat} {cs : Array Value} {f : Nat → Seg} {rb cp : Nat → Nat} {D : DataW Value} (h : Core w F p mb cs f rb cp D) (k2 : cs[2]? = some (.map (some mb))) :
    Calls Try.prog 44 #[.pointer (some ⟨p, 0, none⟩)] w fun e w' => ∃ a c g, e = .returned (.slice a (nums f 1000).length c) ∧ Ints w' g a (asInts (nums f 1000)) ∧ w.heap.size ≤ g ∧ Below w.heap.size w w' := by
  have c2 : w.cell? ⟨p, 2, none⟩ = some (.map (some mb)) := by rw [cell_at h.cells]; exact k2
  have hkeys := h.keys
  have hsz := h.size
  have hown := h.map
  have hmax : Maps.size D ≤ maxLen := by unfold maxLen; omega
  have hbytes : Maps.size D * 8 ≤ 140737488355328 := by omega
  have hbl := hown.lt
  clear h k2
  refine (callsIn_wide (n := 6)).1 ?_
  have hseq : SeqGives Fence.wide 2 Try.prog 63 #[.pointer (some ⟨w.heap.size, 0, none⟩)] encZ (fun ss => ss.Perm (intKeys D)) (Maps.size D) (w.alloc (.cells #[.map (some mb)] 55)) :=
    AnyZI.keys_gives (ρ := layKeys_ren) { layKeys with } Fence.wide _ trivial rfl (by omega) w.heap.size mb _ D _ (by simp) (by simp) (by
      obtain ⟨es, clock, hb, Ft, hs, hD⟩ := hown
      exact ⟨es, clock, (Below.heap_alloc _ _ mb hbl).trans hb, Ft, hs, hD⟩)
  have cK : ∀ mb W, CallsIn Fence.wide 5 Try.prog 57 #[.map mb] W fun e w' => e = .returned (.func (.func 63) #[] #[.pointer (some ⟨W.heap.size, 0, none⟩)]) ∧ w' = W.alloc (.cells #[.map mb] 55) := fun mb W => AnyZI.keys_in layKeys Fence.wide 5 trivial rfl mb W
  have cS := AnyZI.sorted_in laySorted Fence.wide 5 trivial trivial trivial trivial rfl (by omega) (sortsA _) (enters_of Try.func62 (by kernel_rfl) rfl) 63 #[.pointer (some ⟨w.heap.size, 0, none⟩)] trivial (enters_of Try.func63 (by kernel_rfl) rfl) _ _ hmax hbytes _ hseq
  change CallsIn _ _ Try.prog 56 _ _ _ at cS
  have hfK : Fence.wide.fn 57 := trivial
  have hfS : Fence.wide.fn 56 := trivial
  refine callsIn_of_wp Try.func44 rfl trivial ?_ rfl
  simp only [Try.ntmps44, List.size_toArray, List.length_cons, List.length_nil, Nat.reduceAdd, Nat.reduceSub, Array.replicate_succ, Array.replicate_zero, List.push_toArray, List.append_toArray, List.nil_append, List.cons_append]
  gi_wp2_with (first
    | (gi_at_call 57; refine (cK _ _).mono ?_; rintro e w' ⟨rfl, rfl⟩)
    | (gi_at_call 56; refine cS.mono ?_; rintro e w' ⟨v, ss, rfl, hS, hrow, hnil, hb⟩))
  go_ret
  have hS2 := hS.trans hkeys.symm
  have hl : ss.length = (nums f 1000).length := by rw [hS2.length_eq]; simp
  have hB : Below w.heap.size w w' := ((Below.refl _ w).alloc (Nat.le_refl _) _).trans (hb.mono (by simp))
  have hrow2 := ownsRow_base_a hrow (show w.heap.size ≤ _ by simp)
  rw [sorted_nums f ss hS2, hl] at hrow2
  obtain ⟨_, ⟨rfl, hn0⟩ | ⟨g, cap, cur, rfl, hg, hcur, _, _, _, htk⟩⟩ := hrow2
  · refine ⟨none, 0, w.heap.size, by rw [hn0]; rfl, fun hne => ?_, Nat.le_refl _, hB⟩
    exact absurd (by simp [asInts, List.eq_nil_of_length_eq_zero hn0]) hne
  · refine ⟨_, cap, g, rfl, fun _ => ⟨rfl, cur, hcur, ?_⟩, hg, hB⟩
    simpa [asInts] using htk
end Go.Proofs.Ytpgimffghaelhaa
