/- The deal's small calls, and the copy of a book. -/
import Derived.Test.YtiinigifjdpicaaGreatDoorOwe
namespace Go.Proofs.YtiinigifjdpicaaGreatDoor
open Go.RowKit
set_option linter.all false
/-- What is owed has grown by so many calls. -/
def OkO (c : Nat) (l : List OweV) : Prop := l.length ≤ 16 + c ∧ ∀ y ∈ l, 0 ≤ y.n ∧ y.n ≤ 9007199254740992 + (c : Int) * 1000000000000
theorem okO_owe {c : Nat} {l : List OweV} {acc asset n : Int} (h : OkO c l) (hn : 0 ≤ n ∧ n ≤ 1000000000000) : OkO (c + 1) (oweL acc asset n l) := by
  obtain ⟨h1, h2⟩ := h
  unfold oweL
  split
  · rename_i i hi
    refine ⟨by rw [List.length_modify]; omega, fun y hy => ?_⟩
    rw [List.mem_iff_getElem?] at hy
    obtain ⟨j, hj⟩ := hy
    rw [List.getElem?_modify] at hj
    cases hjl : l[j]? with
    | none => rw [hjl] at hj; simp at hj
    | some z =>
      have hz := h2 z (List.mem_of_getElem? hjl)
      rw [hjl] at hj
      simp only [Option.map_eq_map, Option.map_some, Option.some.injEq] at hj
      rw [← hj]
      split
      · simp only
        omega
      · first | omega | (simp only [id]; omega)
  · unfold laidL
    refine ⟨?_, fun y hy => ?_⟩
    · have := congrArg List.length (List.takeWhile_append_dropWhile (p := (owB · ⟨acc, asset, n⟩)) (l := l))
      rw [List.length_append] at this ⊢
      rw [List.length_cons]
      omega
    · rw [List.mem_append, List.mem_cons] at hy
      rcases hy with hy | rfl | hy
      · have := h2 y (List.takeWhile_subset _ hy)
        omega
      · simp only
        omega
      · have := h2 y (List.dropWhile_subset _ hy)
        omega
theorem okO_fits {c : Nat} {l : List OweV} (h : OkO c l) (hc : c ≤ 1000) {n : Int} (hn : 0 ≤ n ∧ n ≤ 1000000000000) : l.length ≤ 100000 ∧ ∀ y ∈ l, 0 ≤ y.n + n ∧ y.n + n ≤ 9000000000000000000 :=
  ⟨by have := h.1; omega, fun y hy => by have := h.2 y hy; omega⟩
set_option maxHeartbeats 2000000 in
theorem orders_is (D : Nat) (s : Int) (w : World) : Calls Tryz.prog 114 #[.pointer (some ⟨D, 0, none⟩), .int .i64 s] w fun e w' => e = .returned (.pointer (some ⟨D, sideOff s, none⟩)) ∧ w' = w := by
  have H := hideIt (fun W => sideOf_is D s W)
  generalize sideOff s = o at *
  go_enter Tryz.func114, Tryz.ntmps114
  go_wp2_with fail
  refine (H.out _).mono ?_
  rintro e w1 ⟨rfl, rfl⟩
  dsimp only
  go_wp2
  go_ret
  exact ⟨rfl, rfl⟩
def overB (l : List OweV) : Bool := l.any (fun o => decide (9007199254740992 < o.n))
theorem over1_is (o : OweV) (w : World) : Calls Tryz.prog 144 #[.agg (oweE o).toArray] w fun e w' => e = .returned (.bool (decide (9007199254740992 < o.n))) ∧ Below w.heap.size w w' := by
  have HB := hideIt (below1 w (.cells (oweE o).toArray 61))
  unfold oweE at *
  obtain ⟨ac, s, n⟩ := o
  simp only at HB ⊢
  show Calls Tryz.prog 144 #[.agg #[.int .i64 ac, .int .i64 s, .int .i64 n]] w _
  go_enter Tryz.func144, Tryz.ntmps144
  go_wp2
  go_ret
  exact ⟨rfl, HB.out⟩
theorem pred51 {w : World} : PredB 144 #[] oweE (fun o => decide (9007199254740992 < o.n)) w := fun W x hW => (over1_is x W).mono (fun _ _ h => ⟨h.1, below_via hW h.2⟩)
set_option maxHeartbeats 4000000 in
theorem isOver_is (D B : Nat) (L : LaneV) (F : List FillV) (b a o f : Value) (w : World) (h : Deal D B L F b a o f w) (hl : L.owed.length ≤ 100000) : Calls Tryz.prog 116 #[.pointer (some ⟨D, 0, none⟩)] w fun e w' => e = .returned (.bool (overB L.owed)) ∧ Below w.heap.size w w' := by
  have H1 := hideIt (containsW_is 144 #[] eg51 o L.owed (fun o => decide (9007199254740992 < o.n)) w (own_sgot (bytes := 24) h.oo (by omega)) pred51)
  have hDl := h.lt
  obtain ⟨ga, gc, rfl⟩ := own_len h.oo
  obtain ⟨c0, c1, c2, c3, c4, c5⟩ := h.cells
  clear c0 c1 c2 c3 c5 h
  unfold overB
  generalize (L.owed.any fun o => decide (9007199254740992 < o.n)) = r at *
  go_enter Tryz.func116, Tryz.ntmps116
  go_wp2_with fail
  refine H1.out.mono ?_
  rintro e w1 ⟨rfl, hb⟩
  dsimp only
  go_wp2
  go_ret
  exact ⟨rfl, hb⟩
set_option maxHeartbeats 4000000 in
theorem giveBack_is (D B c : Nat) (L : LaneV) (F : List FillV) (b a o f : Value) (s : Int) (r : OrdV) (w : World) (h : Deal D B L F b a o f w) (hB : B ≤ w.heap.size) (ho : OkO c L.owed) (hc : c ≤ 1000) (hp : 0 ≤ r.price ∧ r.price ≤ 1000000) (hr : 0 ≤ r.left ∧ r.left ≤ 1000000) :
    Calls Tryz.prog 113 #[.pointer (some ⟨D, 0, none⟩), .int .i64 s, .agg (ordE r).toArray] w fun e w' => e = .returned (.tuple #[]) ∧ ∃ o', Deal D B (dealO L r.acc (brA s) (brN s r)) F b a o' f w' ∧ Tch D B w w' := by
  have hpl : 0 ≤ r.price * r.left ∧ r.price * r.left ≤ 1000000000000 := ⟨Int.mul_nonneg hp.1 hr.1, by
    have := Int.mul_le_mul hp.2 hr.2 hr.1 (by omega : (0 : Int) ≤ 1000000)
    omega⟩
  have hbn : 0 ≤ brN s r ∧ brN s r ≤ 1000000000000 := by unfold brN; split <;> omega
  have HB := hideIt (below1 w (.cells (ordE r).toArray 115))
  have HN := hideIt (heap_alloc_new w (.cells (ordE r).toArray 115))
  have H1 := hideIt (fun W => brings_is s r W (by omega))
  have X0 := hideIt (h.keep HB.out)
  have H2 := hideIt (fun W (hW : Deal D B L F b a o f W) (hS : B ≤ W.heap.size) => owe_is D B L F b a o f r.acc (brA s) (brN s r) W hW hS (okO_fits ho hc hbn).1 (okO_fits ho hc hbn).2)
  have HSZ : Hid (B ≤ (w.alloc (.cells (ordE r).toArray 115)).heap.size) := Nat.le_trans hB HB.out.size
  clear h hp hr hpl hbn ho hB
  generalize brA s = x at *
  generalize brN s r = y at *
  unfold ordE at *
  obtain ⟨i, ac, p, l⟩ := r
  simp only at *
  show Calls Tryz.prog 113 #[.pointer (some ⟨D, 0, none⟩), .int .i64 s, .agg #[.int .i64 i, .int .i64 ac, .int .i64 p, .int .i64 l]] w _
  go_enter Tryz.func113, Tryz.ntmps113
  go_wp2_with fail
  refine (H1.out _).mono ?_
  rintro e w1 ⟨rfl, hb⟩
  dsimp only
  have X1 := hideIt (X0.out.keep hb)
  have T1 := hideIt ((Tch.ofBelow (D := D) (B := B) HB.out).trans (Tch.ofBelow hb))
  have Z1 : Hid (B ≤ w1.heap.size) := Nat.le_trans HSZ.out hb.size
  have e1 := (hb.block _ (Array.getElem?_eq_some_iff.1 HN.out).1).trans HN.out
  have d1 : w1.cell? ⟨w.heap.size, 1, none⟩ = some (.int .i64 ac) := by rw [cell_at e1]; rfl
  clear hb X0 HB HN e1 HSZ H1
  go_wp2_with fail
  refine (H2.out _ X1.out Z1.out).mono ?_
  rintro e w2 ⟨rfl, o', hD, hT⟩
  dsimp only
  have HH := hideIt (And.intro hD (T1.out.trans hT))
  clear hD hT
  go_wp2
  exact bodyPost_end (v := .tuple #[]) (by simp [results, Tryz.results113, go_sem]) rfl ⟨rfl, _, HH.out⟩
end Go.Proofs.YtiinigifjdpicaaGreatDoor
