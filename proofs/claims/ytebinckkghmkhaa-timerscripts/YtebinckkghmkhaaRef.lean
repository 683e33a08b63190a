/- The document's own wheel in memory, and its calls. -/
import Derived.Test.YtebinckkghmkhaaOps
namespace Go.Proofs.Ytebinckkghmkhaa
open Go.RowKit

structure RefMem (w : World) (F : Nat → Prop) (q g keys now : Nat) (left : Nat → Nat) (cur : Array Value) : Prop where
  cells : w.heap[q]? = some (.cells #[.slice (some ⟨g, 0, none⟩) keys keys, .int .i64 (now : Int)] 50 (0, 0))
  row : w.heap[g]? = some (.cells cur 3 (0, 0))
  size : cur.size = keys
  at' : ∀ k, k < keys → cur[k]? = some (.int .i64 (left k : Int))
  ne : g ≠ q
  inq : F q
  ing : F g
  small : ∀ k, F k → k < w.heap.size
def RefAt (w : World) (F : Nat → Prop) (q : Nat) (S : Wh) : Prop := ∃ g cur, RefMem w F q g S.keys S.now S.left cur ∧ 1 ≤ S.keys ∧ S.keys ≤ 100 ∧ ∀ k, S.left k ≤ 1000
theorem RefMem.keep {w w' : World} {F : Nat → Prop} {q g keys now : Nat} {left : Nat → Nat} {cur : Array Value} (h : RefMem w F q g keys now left cur) (hs : w.heap.size ≤ w'.heap.size) (hb : ∀ k, F k → k < w.heap.size → w'.heap[k]? = w.heap[k]?) : RefMem w' F q g keys now left cur :=
  ⟨(hb q h.inq (h.small q h.inq)).trans h.cells, (hb g h.ing (h.small g h.ing)).trans h.row, h.size, h.at', h.ne, h.inq, h.ing, fun k hk => Nat.lt_of_lt_of_le (h.small k hk) hs⟩
theorem RefAt.keep {w w' : World} {F : Nat → Prop} {q : Nat} {S : Wh} (h : RefAt w F q S) (hs : w.heap.size ≤ w'.heap.size) (hb : ∀ k, F k → k < w.heap.size → w'.heap[k]? = w.heap[k]?) : RefAt w' F q S := by
  obtain ⟨g, cur, hm, r⟩ := h
  exact ⟨g, cur, hm.keep hs hb, r⟩
theorem RefAt.out {w w' : World} {F G : Nat → Prop} {q : Nat} {S : Wh} (h : RefAt w F q S) (ho : Out G w w') (hG : ∀ k, F k → ¬ G k) : RefAt w' F q S :=
  h.keep ho.size (fun k hk hl => ho.block k hl (hG k hk))
theorem RefAt.below {w w' : World} {F : Nat → Prop} {q : Nat} {S : Wh} (h : RefAt w F q S) (hb : Below w.heap.size w w') : RefAt w' F q S := h.keep hb.size (fun k _ hk => hb.block k hk)
theorem RefAt.small {w : World} {F : Nat → Prop} {q : Nat} {S : Wh} (h : RefAt w F q S) : ∀ k, F k → k < w.heap.size := by
  obtain ⟨g, cur, hm, r⟩ := h
  exact hm.small
theorem RefMem.setLeft {w : World} {F : Nat → Prop} {q g keys now : Nat} {left : Nat → Nat} {cur : Array Value} (h : RefMem w F q g keys now left cur) (k x : Nat) (hk : k < keys) :
    RefMem (w.setCell ⟨g, k, none⟩ (.int .i64 (x : Int))) F q g keys now (put left k x) (cur.setIfInBounds k (.int .i64 (x : Int))) := by
  refine ⟨(heap_set_other _ _ _ _ _ (fun e => h.ne e.symm)).trans h.cells, heap_set h.row _ _, by simpa using h.size, fun i hi => ?_, h.ne, h.inq, h.ing, fun i hi => by simpa using h.small i hi⟩
  unfold put
  by_cases e : i = k
  · subst e
    rw [if_pos rfl, Array.getElem?_setIfInBounds_self_of_lt (by have := h.size; omega)]
  · rw [if_neg e, Array.getElem?_setIfInBounds_ne (by omega)]
    exact h.at' i hi
theorem RefMem.setNow {w : World} {F : Nat → Prop} {q g keys now : Nat} {left : Nat → Nat} {cur : Array Value} (h : RefMem w F q g keys now left cur) (x : Nat) :
    RefMem (w.setCell ⟨q, 1, none⟩ (.int .i64 (x : Int))) F q g keys x left cur :=
  ⟨heap_set h.cells _ _, (heap_set_other _ _ _ _ _ h.ne).trans h.row, h.size, h.at', h.ne, h.inq, h.ing, fun i hi => by simpa using h.small i hi⟩
theorem made_at (z : Value) (n k : Nat) (hz : z.cells = #[z]) (hk : k < n) : (madeCells z.cells n)[k]? = some z := by
  rw [hz]
  simp [madeCells, hk, Nat.mod_one]
theorem make36 (n : Nat) (hn : n ≤ 100) (R : Array Value) (hR : R = madeCells (Value.int .i64 0).cells n) (W : World) : (Instr.makeSlice 36 (.int .i64 (n : Int)) (.int .i64 (n : Int))).run Try.prog W = .ok (.slice (some ⟨W.heap.size, 0, none⟩) n n) (W.alloc (.cells R 3)) := by
  obtain ⟨i, hi, hz0, hz1, hz2⟩ := info_parts info3
  have := run_make (P := Try.prog) W 36 3 i _ Try.underlying36 hi hz0 .i64 .i64 n n (by omega) (by omega) (by rw [hz2]; omega) (by omega)
  rw [this, hR, Int.toNat_natCast, hz1, Nat.mul_one]
set_option maxHeartbeats 1000000 in
theorem refNew_bad (x : Int) (w : World) (hx : x < 1 ∨ 100 < x) :
    Calls Try.prog 7 #[.int .i64 x] w fun e w' => e = .returned (.tuple #[.pointer none, .int .i64 1]) ∧ w' = w := by
  by_cases h : x < 1
  · clear hx
    go_enter Try.func7, Try.ntmps7
    go_wp2
    go_ret2
    exact ⟨rfl, rfl⟩
  · have h2 : 100 < x := by omega
    clear hx
    go_enter Try.func7, Try.ntmps7
    go_wp2
    go_ret2
    exact ⟨rfl, rfl⟩
set_option maxHeartbeats 1000000 in
theorem refNew_good (x : Nat) (w : World) (h1 : 1 ≤ x) (h2 : x ≤ 100) :
    Calls Try.prog 7 #[.int .i64 (x : Int)] w fun e w' => ∃ q, e = .returned (.tuple #[.pointer (some ⟨q, 0, none⟩), .int .i64 0]) ∧ RefAt w' (fun k => w.heap.size ≤ k ∧ k < w'.heap.size) q ⟨x, 0, fun _ => 0⟩ ∧ Below w.heap.size w w' := by
  obtain ⟨R, hR⟩ : ∃ R, R = madeCells (Value.int .i64 0).cells x := ⟨_, rfl⟩
  have hm := make36 x h2 R hR
  have a3 : ∀ k, k < x → R[k]? = some (.int .i64 0) := fun k hk => by rw [hR]; exact made_at _ _ _ rfl hk
  have asz : R.size = x := by
    rw [hR]
    have e : (Value.int IntKind.i64 0).cells = #[.int .i64 0] := rfl
    rw [e]
    simp [madeCells]
  have A3 := hideIt a3
  have AS := hideIt asz
  clear hR a3 asz
  have hI1 : ¬ (x : Int) < 1 := by omega
  have hI2 : ¬ (100 : Int) < (x : Int) := by omega
  go_enter Try.func7, Try.ntmps7
  go_wp2
  go_ret2
  refine ⟨w.heap.size + 1, rfl, ⟨w.heap.size, R, ⟨?_, ?_, AS.out, fun k hk => A3.out k hk, by omega, ?_, ?_, fun k hk => hk.2⟩, h1, h2, fun _ => Nat.zero_le _⟩, ?_⟩
  · have := heap_alloc_new (w.alloc (.cells R 3)) (.cells #[.slice (some ⟨w.heap.size, 0, none⟩) x x, .int .i64 0] 50)
    simpa using this
  · rw [Lib.alloc_old (w.alloc (.cells R 3)) _ w.heap.size (by simp)]
    exact heap_alloc_new w _
  · constructor <;> simp
  · exact ⟨Nat.le_refl _, by simp; omega⟩
  · exact ((Below.refl _ _).alloc (Nat.le_refl _) _).alloc (by simp) _
set_option maxHeartbeats 1000000 in
theorem refNow_is {w : World} {F : Nat → Prop} {q : Nat} {S : Wh} (h : RefAt w F q S) :
    Calls Try.prog 27 #[.pointer (some ⟨q, 0, none⟩)] w fun e w' => e = .returned (.int .i64 (S.now : Int)) ∧ w' = w := by
  obtain ⟨g, cur, hm, r⟩ := h
  have c1 : w.cell? ⟨q, 1, none⟩ = some (.int .i64 (S.now : Int)) := by rw [cell_at hm.cells]; rfl
  clear hm r
  go_enter Try.func27, Try.ntmps27
  go_wp2
  go_ret
  exact ⟨rfl, rfl⟩
set_option maxHeartbeats 1000000 in
theorem refIs_is {w : World} {F : Nat → Prop} {q : Nat} {S : Wh} (h : RefAt w F q S) (k : Int) :
    Calls Try.prog 24 #[.pointer (some ⟨q, 0, none⟩), .int .i64 k] w fun e w' => e = .returned (.bool (decide (0 ≤ k ∧ k < (S.keys : Int)))) ∧ w' = w := by
  obtain ⟨g, cur, hm, r⟩ := h
  have c0 : w.cell? ⟨q, 0, none⟩ = some (.slice (some ⟨g, 0, none⟩) S.keys S.keys) := by rw [cell_at hm.cells]; rfl
  clear hm r
  by_cases h0 : 0 ≤ k
  · go_enter Try.func24, Try.ntmps24
    go_wp2
    go_ret
    exact ⟨by simp [h0], rfl⟩
  · go_enter Try.func24, Try.ntmps24
    go_wp2
    go_ret
    exact ⟨by rw [decide_eq_false (by omega)]; rfl, rfl⟩
set_option maxHeartbeats 1000000 in
theorem refLeft_is {w : World} {F : Nat → Prop} {q : Nat} {S : Wh} (h : RefAt w F q S) (k : Int) :
    Calls Try.prog 28 #[.pointer (some ⟨q, 0, none⟩), .int .i64 k] w fun e w' => e = .returned (.tuple #[.int .i64 (leftV S k : Int), .bool (decide (leftV S k ≠ 0))]) ∧ w' = w := by
  have H := hideIt (refIs_is h k)
  by_cases h0 : 0 ≤ k ∧ k < (S.keys : Int)
  · have e0 : leftV S k = S.left k.toNat := by unfold leftV; rw [if_pos h0]
    rw [decide_eq_true h0] at H
    rw [e0]
    obtain ⟨j, rfl⟩ := Int.eq_ofNat_of_zero_le h0.1
    rw [Int.toNat_natCast] at *
    obtain ⟨g, cur, hm, r1, r2, r3⟩ := h
    have hj : j < S.keys := by omega
    have c0 : w.cell? ⟨q, 0, none⟩ = some (.slice (some ⟨g, 0, none⟩) S.keys S.keys) := by rw [cell_at hm.cells]; rfl
    have cd : w.cell? ⟨g, j, none⟩ = some (.int .i64 (S.left j : Int)) := by rw [cell_at hm.row]; exact hm.at' j hj
    have hj0 : (0 : Int) ≤ (j : Int) := by omega
    have hj1 : (j : Int) < (S.keys : Int) := by omega
    clear hm h0 e0 r3
    generalize S.left j = n at *
    by_cases h1 : n = 0
    · subst h1
      go_enter Try.func28, Try.ntmps28
      go_wp2_with fail
      refine H.out.mono ?_
      rintro e w1 ⟨rfl, rfl⟩
      dsimp only
      go_wp2
      go_ret2
      exact ⟨rfl, rfl⟩
    · have hnz2 : ((n : Int) == 0) = false := beq_eq_false_iff_ne.2 (by omega)
      rw [decide_eq_true h1]
      go_enter Try.func28, Try.ntmps28
      go_wp2_with fail
      refine H.out.mono ?_
      rintro e w1 ⟨rfl, rfl⟩
      dsimp only
      go_wp2
      go_ret2
      exact ⟨rfl, rfl⟩
  · have e0 : leftV S k = 0 := by unfold leftV; rw [if_neg h0]
    rw [decide_eq_false h0] at H
    rw [e0]
    clear h h0 e0
    go_enter Try.func28, Try.ntmps28
    go_wp2_with fail
    refine H.out.mono ?_
    rintro e w1 ⟨rfl, rfl⟩
    dsimp only
    go_wp2
    go_ret2
    exact ⟨rfl, rfl⟩
set_option maxHeartbeats 1000000 in
theorem refLen_is {w : World} {F : Nat → Prop} {q : Nat} {S : Wh} (h : RefAt w F q S) :
    Calls Try.prog 26 #[.pointer (some ⟨q, 0, none⟩)] w fun e w' => e = .returned (.int .i64 (cnt S.left S.keys : Int)) ∧ w' = w := by
  obtain ⟨g, cur, hm, r1, r2, r3⟩ := h
  have c0 : w.cell? ⟨q, 0, none⟩ = some (.slice (some ⟨g, 0, none⟩) S.keys S.keys) := by rw [cell_at hm.cells]; rfl
  have HM := hideIt hm
  clear hm r3
  generalize hK : S.keys = K at *
  clear hK
  go_enter Try.func26, Try.ntmps26
  go_wp2
  go_loop [3, 4] (fun n i => ∃ t : Nat, t ≤ K ∧ i = .int .i64 t ∧ n = .int .i64 (cnt S.left t : Int)) (fun _ i => K - (intOf i).toNat)
  case atStart => exact ⟨0, Nat.zero_le _, rfl, rfl⟩
  case round =>
    obtain ⟨t, ht, rfl, rfl⟩ := hrel
    have hcl := cnt_le S.left t
    by_cases hlt : t < K
    · have cd : w.cell? ⟨g, t, none⟩ = some (.int .i64 (S.left t : Int)) := by rw [cell_at HM.out.row]; exact HM.out.at' t hlt
      have ht0 : (0 : Int) ≤ (t : Int) := by omega
      have ht1 : (t : Int) < (K : Int) := by omega
      have HC : Hid (cnt S.left (t + 1) = cnt S.left t + (if S.left t = 0 then 0 else 1)) := rfl
      generalize S.left t = x at *
      by_cases h1 : x = 0
      · subst h1
        go_wp2
        go_round
        case rel => exact ⟨t + 1, by omega, by go_num, by rw [HC.out, if_pos rfl]; rfl⟩
        case measure => simp [intOf]; omega
      · have hd2 : (0 : Int) < (x : Int) := by omega
        go_wp2
        go_round
        case rel => exact ⟨t + 1, by omega, by go_num, by rw [HC.out, if_neg h1]; go_num⟩
        case measure => simp [intOf]; omega
    · have e : t = K := by omega
      subst e
      go_wp2
      go_ret
      exact ⟨rfl, rfl⟩
set_option maxHeartbeats 1000000 in
theorem refStop_is {w : World} {F : Nat → Prop} {q : Nat} {S : Wh} (h : RefAt w F q S) (key : Int) :
    Calls Try.prog 12 #[.pointer (some ⟨q, 0, none⟩), .int .i64 key] w fun e w' => e = .returned (.int .i64 (stopE S key : Int)) ∧ RefAt w' F q (stopW S key) ∧ Out F w w' := by
  have H := hideIt (refIs_is h key)
  unfold stopE stopW
  by_cases h0 : 0 ≤ key ∧ key < (S.keys : Int)
  · rw [decide_eq_true h0] at H
    rw [if_pos h0, if_pos h0]
    obtain ⟨k, rfl⟩ := Int.eq_ofNat_of_zero_le h0.1
    rw [Int.toNat_natCast] at *
    obtain ⟨g, cur, hm, r1, r2, r3⟩ := h
    have hk : k < S.keys := by omega
    have c0 : w.cell? ⟨q, 0, none⟩ = some (.slice (some ⟨g, 0, none⟩) S.keys S.keys) := by rw [cell_at hm.cells]; rfl
    have cd : w.cell? ⟨g, k, none⟩ = some (.int .i64 (S.left k : Int)) := by rw [cell_at hm.row]; exact hm.at' k hk
    have fd : w.frozen? ⟨g, k, none⟩ = false := free_at hm.row _
    have hk0 : (0 : Int) ≤ (k : Int) := by omega
    have hk1 : (k : Int) < (S.keys : Int) := by omega
    have HM := hideIt hm
    have HR := hideIt r3
    clear h0 hm r3
    go_enter Try.func12, Try.ntmps12
    go_wp2_with fail
    refine H.out.mono ?_
    rintro e w1 ⟨rfl, rfl⟩
    dsimp only
    go_wp2
    go_ret
    refine ⟨rfl, ⟨g, _, HM.out.setLeft k 0 hk, r1, r2, fun i => ?_⟩, Out.ofSet _ _ _ HM.out.ing⟩
    show put S.left k 0 i ≤ 1000
    unfold put
    split
    · omega
    · exact HR.out i
  · rw [decide_eq_false h0] at H
    rw [if_neg h0, if_neg h0]
    have HH := hideIt h
    clear h h0
    go_enter Try.func12, Try.ntmps12
    go_wp2_with fail
    refine H.out.mono ?_
    rintro e w1 ⟨rfl, rfl⟩
    dsimp only
    go_wp2
    go_ret
    exact ⟨rfl, HH.out, Out.refl _ _⟩
set_option maxHeartbeats 1000000 in
theorem refSet_is {w : World} {F : Nat → Prop} {q : Nat} {S : Wh} (h : RefAt w F q S) (key after : Int) :
    Calls Try.prog 10 #[.pointer (some ⟨q, 0, none⟩), .int .i64 key, .int .i64 after] w fun e w' => e = .returned (.int .i64 (setE S key after : Int)) ∧ RefAt w' F q (setW S key after) ∧ Out F w w' := by
  have H := hideIt (refIs_is h key)
  unfold setE setW
  by_cases hok : setOk S key after
  · rw [if_pos hok, if_pos hok]
    unfold setOk at hok
    obtain ⟨h0, ha1, ha2⟩ := hok
    rw [decide_eq_true h0] at H
    obtain ⟨k, rfl⟩ := Int.eq_ofNat_of_zero_le h0.1
    obtain ⟨n, rfl⟩ := Int.eq_ofNat_of_zero_le (show 0 ≤ after by omega)
    rw [Int.toNat_natCast, Int.toNat_natCast] at *
    obtain ⟨g, cur, hm, r1, r2, r3⟩ := h
    have hk : k < S.keys := by omega
    have c0 : w.cell? ⟨q, 0, none⟩ = some (.slice (some ⟨g, 0, none⟩) S.keys S.keys) := by rw [cell_at hm.cells]; rfl
    have cd : w.cell? ⟨g, k, none⟩ = some (.int .i64 (S.left k : Int)) := by rw [cell_at hm.row]; exact hm.at' k hk
    have fd : w.frozen? ⟨g, k, none⟩ = false := free_at hm.row _
    have hk0 : (0 : Int) ≤ (k : Int) := by omega
    have hk1 : (k : Int) < (S.keys : Int) := by omega
    have HM := hideIt hm
    have HR := hideIt r3
    clear h0 hm r3
    go_enter Try.func10, Try.ntmps10
    go_wp2_with fail
    refine H.out.mono ?_
    rintro e w1 ⟨rfl, rfl⟩
    dsimp only
    go_wp2
    go_ret
    refine ⟨rfl, ⟨g, _, HM.out.setLeft k n hk, r1, r2, fun i => ?_⟩, Out.ofSet _ _ _ HM.out.ing⟩
    show put S.left k n i ≤ 1000
    unfold put
    split
    · omega
    · exact HR.out i
  · rw [if_neg hok, if_neg hok]
    have HH := hideIt h
    by_cases h0 : 0 ≤ key ∧ key < (S.keys : Int)
    · rw [decide_eq_true h0] at H
      have hb2 : after < 1 ∨ 1000 < after := by
        unfold setOk at hok
        have := fun e => hok ⟨h0, e⟩
        omega
      clear h h0 hok
      by_cases h1 : after < 1
      · clear hb2
        go_enter Try.func10, Try.ntmps10
        go_wp2_with fail
        refine H.out.mono ?_
        rintro e w1 ⟨rfl, rfl⟩
        dsimp only
        go_wp2
        go_ret
        exact ⟨rfl, HH.out, Out.refl _ _⟩
      · have h2 : 1000 < after := by omega
        clear hb2
        go_enter Try.func10, Try.ntmps10
        go_wp2_with fail
        refine H.out.mono ?_
        rintro e w1 ⟨rfl, rfl⟩
        dsimp only
        go_wp2
        go_ret
        exact ⟨rfl, HH.out, Out.refl _ _⟩
    · rw [decide_eq_false h0] at H
      clear h h0 hok
      go_enter Try.func10, Try.ntmps10
      go_wp2_with fail
      refine H.out.mono ?_
      rintro e w1 ⟨rfl, rfl⟩
      dsimp only
      go_wp2
      go_ret
      exact ⟨rfl, HH.out, Out.refl _ _⟩
end Go.Proofs.Ytebinckkghmkhaa
