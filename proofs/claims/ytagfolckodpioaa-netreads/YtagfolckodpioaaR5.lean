/- What the document's own small words of a message answer: within, truth, text, numbers. -/
import Derived.Test.YtagfolckodpioaaR1
import Derived.Test.YtagfolckodpioaaTxt
namespace Go.Proofs.Ytagfolckodpioaa
open Go.RowKit

theorem refWithin_is (x lo hi : Int) (w : World) : Calls Try.prog 48 #[.int .i64 x, .int .i64 lo, .int .i64 hi] w fun e w' => e = .returned (.bool (wiB x lo hi)) ∧ w' = w := by
  unfold wiB
  by_cases h1 : lo ≤ x
  · by_cases h2 : x ≤ hi
    · rw [decide_eq_true ⟨h1, h2⟩]
      go_enter Try.func48, Try.ntmps48
      go_wp2
      go_ret
      exact ⟨by simp, rfl⟩
    · rw [decide_eq_false (fun h => h2 h.2)]
      go_enter Try.func48, Try.ntmps48
      go_wp2
      go_ret
      exact ⟨by simp, rfl⟩
  · rw [decide_eq_false (fun h => h1 h.1)]
    go_enter Try.func48, Try.ntmps48
    go_wp2
    go_ret
    exact ⟨rfl, rfl⟩
def truN (b : Bool) : Nat := if b then 1 else 0
theorem truth_is (b : Bool) (w : World) : Calls Try.prog 38 #[.bool b] w fun e w' => e = .returned (.int .i64 (truN b : Nat)) ∧ w' = w := by
  cases b
  · go_enter Try.func38, Try.ntmps38
    go_wp2
    go_ret
    exact ⟨rfl, rfl⟩
  · go_enter Try.func38, Try.ntmps38
    go_wp2
    go_ret
    exact ⟨rfl, rfl⟩
theorem flag_tru (b : Bool) : flagL b = uintL (truN b) := by cases b <;> rfl
set_option maxHeartbeats 1000000 in
theorem refPiece_any (s : ByteArray) (w : World) (hs : s.size ≤ 60000) : Calls Try.prog 39 #[.string s] w fun e w' => e = .returned (.string ⟨(textL s.data.toList).toArray⟩) ∧ Below w.heap.size w w' := by
  have H := hideIt (refText_any s w (by unfold maxLen; omega))
  go_enter Try.func39, Try.ntmps39
  go_wp2_with fail
  refine H.out.mono ?_
  rintro e w1 ⟨rfl, hb⟩
  dsimp only
  go_wp2
  go_ret
  exact ⟨rfl, hb⟩
theorem mk_comm (i t : Int) : mkB i t = (wiB i 0 1000000 && wiB t 0 1000000 && (i == 0) == (t == 0)) := by
  unfold mkB
  cases (t == 0) <;> cases (i == 0) <;> rfl
set_option maxHeartbeats 2000000 in
theorem refMark_is (i t : Int) (w : World) : Calls Try.prog 69 #[.agg #[.int .i64 i, .int .i64 t]] w fun e w' => e = .returned (.bool (mkB i t)) ∧ Below w.heap.size w w' := by
  have N1 := hideIt (fun W => refWithin_is i 0 1000000 W)
  have N2 := hideIt (fun W => refWithin_is t 0 1000000 W)
  rw [mk_comm]
  have HB := hideIt ((Below.refl w.heap.size w).alloc (Nat.le_refl _) (.cells #[.int .i64 i, .int .i64 t] 23))
  cases h1 : wiB i 0 1000000
  · rw [h1] at N1
    go_enter Try.func69, Try.ntmps69
    go_wp2_with fail
    refine (N1.out _).mono ?_
    rintro e w1 ⟨rfl, rfl⟩
    dsimp only
    go_wp2
    go_ret
    exact ⟨rfl, HB.out⟩
  · rw [h1] at N1
    cases h2 : wiB t 0 1000000
    · rw [h2] at N2
      go_enter Try.func69, Try.ntmps69
      go_wp2_with fail
      refine (N1.out _).mono ?_
      rintro e w1 ⟨rfl, rfl⟩
      dsimp only
      go_wp2_with fail
      refine (N2.out _).mono ?_
      rintro e w1 ⟨rfl, rfl⟩
      dsimp only
      go_wp2
      go_ret
      exact ⟨rfl, HB.out⟩
    · rw [h2] at N2
      go_enter Try.func69, Try.ntmps69
      go_wp2_with fail
      refine (N1.out _).mono ?_
      rintro e w1 ⟨rfl, rfl⟩
      dsimp only
      go_wp2_with fail
      refine (N2.out _).mono ?_
      rintro e w1 ⟨rfl, rfl⟩
      dsimp only
      go_wp2
      go_ret
      exact ⟨by simp, HB.out⟩
set_option maxHeartbeats 2000000 in
theorem refEntry_is (x : EntV) (w : World) : Calls Try.prog 70 #[.agg #[.int .i64 x.term, .int .i64 x.kind, .string x.text]] w fun e w' => e = .returned (.bool (entB x)) ∧ Below w.heap.size w w' := by
  obtain ⟨i, t, x⟩ := x
  have N1 := hideIt (fun W => refWithin_is i 1 1000000 W)
  have N2 := hideIt (fun W => refWithin_is t 1 2 W)
  unfold entB
  simp only
  have HB := hideIt ((Below.refl w.heap.size w).alloc (Nat.le_refl _) (.cells #[.int .i64 i, .int .i64 t, .string x] 41))
  cases h1 : wiB i 1 1000000
  · rw [h1] at N1
    go_enter Try.func70, Try.ntmps70
    go_wp2_with fail
    refine (N1.out _).mono ?_
    rintro e w1 ⟨rfl, rfl⟩
    dsimp only
    go_wp2
    go_ret
    exact ⟨rfl, HB.out⟩
  · rw [h1] at N1
    cases h2 : wiB t 1 2
    · rw [h2] at N2
      go_enter Try.func70, Try.ntmps70
      go_wp2_with fail
      refine (N1.out _).mono ?_
      rintro e w1 ⟨rfl, rfl⟩
      dsimp only
      go_wp2_with fail
      refine (N2.out _).mono ?_
      rintro e w1 ⟨rfl, rfl⟩
      dsimp only
      go_wp2
      go_ret
      exact ⟨rfl, HB.out⟩
    · rw [h2] at N2
      have e : decide (x.size ≤ 4000) = decide ((x.size : Int) ≤ 4000) := by rw [decide_eq_decide]; omega
      rw [e]
      clear e
      go_enter Try.func70, Try.ntmps70
      go_wp2_with fail
      refine (N1.out _).mono ?_
      rintro e w1 ⟨rfl, rfl⟩
      dsimp only
      go_wp2_with fail
      refine (N2.out _).mono ?_
      rintro e w1 ⟨rfl, rfl⟩
      dsimp only
      go_wp2
      go_ret
      exact ⟨rfl, HB.out⟩
/-- Numbers one behind the other. -/
def numsL (l : List Int) : List UInt8 := (l.map uI).flatten
def IntsAt (w : World) (g : Nat) (l : List Int) : Prop := ∃ cs, w.heap[g]? = some (.cells cs 3 (0, 0)) ∧ cs.toList = l.map (fun x => Value.int .i64 x)
theorem numsL_len (l : List Int) : (numsL l).length ≤ 10 * l.length := by
  induction l with
  | nil => simp [numsL]
  | cons a l ih =>
    have := uI_len a
    simp only [numsL, List.map_cons, List.flatten_cons, List.length_append, List.length_cons] at *
    omega
theorem numsL_take (l : List Int) (k : Nat) (h : k < l.length) : numsL (l.take (k + 1)) = numsL (l.take k) ++ uI l[k] := by
  unfold numsL
  rw [List.take_succ_eq_append_getElem h]
  simp only [List.map_append, List.map_cons, List.map_nil, List.flatten_append, List.flatten_cons, List.flatten_nil, List.append_nil]
set_option maxHeartbeats 2000000 in
set_option maxRecDepth 100000 in
theorem numbers_any (g : Nat) (l : List Int) (w : World) (hl : l.length ≤ 4) (hok : ∀ x ∈ l, okI x) (h : IntsAt w g l) :
    Calls Try.prog 37 #[.slice (some ⟨g, 0, none⟩) l.length l.length] w fun e w' => e = .returned (.string ⟨(numsL l).toArray⟩) ∧ Below w.heap.size w w' := by
  obtain ⟨cs, hc, hcl⟩ := h
  have hlt : g < w.heap.size := (Array.getElem?_eq_some_iff.1 hc).1
  have hcell : ∀ k (h : k < l.length), w.cell? ⟨g, k, none⟩ = some (.int .i64 l[k]) := by
    intro k hk
    rw [cell_at hc]
    have : cs[k]? = cs.toList[k]? := by simp
    rw [this, hcl]
    simp [hk]
  have HC := hideIt hcell
  have HO := hideIt hok
  clear hc hcl hcell hok
  go_enter Try.func37, Try.ntmps37
  go_wp2
  go_loopw [3, 4] (fun x i wr => ∃ k : Nat, k ≤ l.length ∧ i = .int .i64 (k : Int) ∧ x = .string ⟨(numsL (l.take k)).toArray⟩ ∧ Hid (Below w.heap.size w wr)) (fun _ i _ => l.length - (intOf i).toNat)
  case atStart => exact ⟨0, by omega, rfl, by simp [numsL], Below.refl _ _⟩
  case round =>
    obtain ⟨k, hk, rfl, rfl, HB⟩ := hrel
    by_cases hlk : k < l.length
    · have hlk' : (k : Int) < (l.length : Int) := by omega
      have hk0 : (0 : Int) ≤ (k : Int) := by omega
      have hx := (HB.out.cell (p := ⟨g, k, none⟩) hlt).trans (HC.out k hlk)
      have hok := HO.out _ (List.getElem_mem hlk)
      have hstep := numsL_take l k hlk
      have hlen := numsL_len (l.take k)
      have hlen2 : (l.take k).length ≤ 4 := by rw [List.length_take]; omega
      generalize l[k] = x at *
      obtain ⟨n, rfl⟩ := Int.eq_ofNat_of_zero_le hok.1
      have hun := uintL_len n
      have hn : n < 9223372036854775808 := by have := hok.2; omega
      have hcat : ¬ 9223372036854775807 < (numsL (l.take k)).length + (uintL n).length := by omega
      have HU := hideIt (fun W => refUint_any n W (by omega))
      have Hst : Hid (numsL (l.take (k + 1)) = numsL (l.take k) ++ uintL n) := hstep
      have hwr : (n : Int) % 18446744073709551616 = (n : Int) := by omega
      generalize numsL (l.take k) = A at *
      clear hstep hok hlen hlen2
      go_wp2_with fail
      refine (HU.out _).mono ?_
      rintro e w1 ⟨rfl, hb⟩
      dsimp only
      have HB1 := hideIt (HB.out.trans (hb.mono HB.out.size))
      clear hb
      go_wp2
      go_roundw
      case rel => exact ⟨k + 1, by omega, by go_num, by rw [Hst.out, cat_eq], HB1⟩
      case measure => simp [intOf]; omega
    · have hlk' : ¬ (k : Int) < (l.length : Int) := by omega
      obtain rfl : k = l.length := by omega
      rw [List.take_of_length_le (Nat.le_refl _)]
      go_wp2
      go_ret
      exact ⟨rfl, HB.out⟩
end Go.Proofs.Ytagfolckodpioaa
