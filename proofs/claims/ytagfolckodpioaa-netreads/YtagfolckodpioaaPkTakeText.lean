/- What pack.TakeText answers: the text that stands there, or the error. -/
import Derived.Test.YtagfolckodpioaaPkClone
import Derived.Test.YtagfolckodpioaaPkFold
namespace Go.Proofs.Ytagfolckodpioaa
open Go.RowKit

theorem rd_count (f i acc : Nat) (l : List UInt8) (h : (rd f i acc l).2.2 = 0) : i < (rd f i acc l).2.1 ∧ (rd f i acc l).2.1 ≤ i + l.length := by
  induction f generalizing i acc l with
  | zero => simp [rd] at h
  | succ f ih =>
    cases l with
    | nil => simp [rd] at h
    | cons b r =>
      unfold rd at h ⊢
      split at h
      · rename_i hb
        split at h
        · rename_i he
          simp [hb, he]
        · simp at h
      · rename_i hb
        simp only [hb, if_false]
        have := ih (i + 1) _ r h
        simp
        omega
theorem tkU_next (l : List UInt8) (a : Int) (h : (tkU l a).2.2 = 0) : 0 ≤ a ∧ a < (tkU l a).2.1 ∧ (tkU l a).2.1 ≤ l.length := by
  unfold tkU at h ⊢
  by_cases ha : a < 0 ∨ (l.length : Int) < a
  · rw [if_pos ha] at h; simp at h
  · rw [if_neg ha] at h ⊢
    unfold fin at h ⊢
    by_cases hz : (rd 10 0 0 (l.drop a.toNat)).2.2 = 0
    · rw [if_pos hz]
      have := rd_count 10 0 0 _ hz
      rw [List.length_drop] at this
      simp only
      omega
    · rw [if_neg hz] at h
      exact absurd h hz
/-- TakeText. -/
def tkT (l : List UInt8) (a : Int) : List UInt8 × Nat × Nat :=
  if (tkU l a).2.2 ≠ 0 then ([], 0, (tkU l a).2.2) else if 60000 < (tkU l a).1 then ([], 0, 11)
  else if l.length < (tkU l a).2.1 + (tkU l a).1 then ([], 0, 10)
  else ((l.drop (tkU l a).2.1).take (tkU l a).1, (tkU l a).2.1 + (tkU l a).1, 0)
theorem extract_eq (s : ByteArray) (k n : Nat) : s.extract k (k + n) = ⟨((s.data.toList.drop k).take n).toArray⟩ := by
  apply ByteArray.ext
  apply Array.toList_inj.1
  rw [Lib.extract_data]
  simp
set_option maxHeartbeats 1000000 in
theorem clos32_no (s : ByteArray) (n k : Nat) (b0 b1 : Nat) (w : World) (_hs : s.size ≤ 9223372036854775807) (_hk : k ≤ s.size) (_hn : n ≤ 60000) (hc0 : w.cell? ⟨b0, 0, none⟩ = some (.string s)) (h : s.size < k + n) :
    Calls Try.prog 99 #[.int .i64 (n : Int), .int .i64 (k : Int), .pointer (some ⟨b0, 0, none⟩), .pointer (some ⟨b1, 0, none⟩)] w fun e w' => e = .returned (.tuple #[.int .i64 0, .int .i64 10]) ∧ w' = w := by
  have h' : (s.size : Int) - k < n := by omega
  go_enter Try.func99, Try.ntmps99
  go_wp2
  go_ret2
  exact ⟨rfl, rfl⟩
set_option maxHeartbeats 1000000 in
theorem clos32_yes (s : ByteArray) (n k : Nat) (b0 b1 : Nat) (x : ByteArray) (w : World) (hs : s.size ≤ 9223372036854775807) (hn : n ≤ 60000) (hb1 : b1 < w.heap.size) (hc0 : w.cell? ⟨b0, 0, none⟩ = some (.string s)) (hc1 : w.cell? ⟨b1, 0, none⟩ = some (.string x)) (hf1 : w.frozen? ⟨b1, 0, none⟩ = false) (h : k + n ≤ s.size) :
    Calls Try.prog 99 #[.int .i64 (n : Int), .int .i64 (k : Int), .pointer (some ⟨b0, 0, none⟩), .pointer (some ⟨b1, 0, none⟩)] w fun e w' => ∃ w1, e = .returned (.tuple #[.int .i64 ((k : Int) + n), .int .i64 0]) ∧ Below w.heap.size w w1 ∧ w' = w1.setCell ⟨b1, 0, none⟩ (.string (s.extract k (k + n))) := by
  have h' : ¬ (s.size : Int) - k < n := by omega
  have h2 : (k : Int) + n ≤ s.size := by omega
  go_enter Try.func99, Try.ntmps99
  go_wp2_with fail
  refine (clone_any (s.extract k (k + n)) _ (by rw [ByteArray.size_extract]; omega)).mono ?_
  rintro e w1 ⟨rfl, hb⟩
  have d1 : w1.cell? ⟨b1, 0, none⟩ = some (.string x) := (hb.cell hb1).trans hc1
  have f1 : w1.frozen? ⟨b1, 0, none⟩ = false := (hb.frozen hb1).trans hf1
  go_wp2
  go_ret2
  exact ⟨w1, rfl, hb, rfl⟩
theorem tup_split (l : List UInt8) (a : Int) : ∃ n nx e, tkU l a = (n, nx, e) := ⟨_, _, _, rfl⟩
theorem tkT_err (l : List UInt8) (a : Int) {n nx e : Nat} (h : tkU l a = (n, nx, e)) (he : e ≠ 0) : tkT l a = ([], 0, e) := by simp [tkT, h, he]
theorem tkT_long (l : List UInt8) (a : Int) {n nx : Nat} (h : tkU l a = (n, nx, 0)) (hn : 60000 < n) : tkT l a = ([], 0, 11) := by simp [tkT, h, hn]
theorem tkT_cut (l : List UInt8) (a : Int) {n nx : Nat} (h : tkU l a = (n, nx, 0)) (hn : ¬ 60000 < n) (hc : l.length < nx + n) : tkT l a = ([], 0, 10) := by simp [tkT, h, hn, hc]
theorem tkT_yes (l : List UInt8) (a : Int) {n nx : Nat} (h : tkU l a = (n, nx, 0)) (hn : ¬ 60000 < n) (hc : ¬ l.length < nx + n) : tkT l a = ((l.drop nx).take n, nx + n, 0) := by simp [tkT, h, hn, hc]
/-- takeCounted, with the closure of TakeText. -/
def TextDone (s : ByteArray) (a : Int) (B b1 : Nat) (w : World) (e : Ending) (w' : World) : Prop :=
  e = .returned (.tuple #[.int .i64 ((tkT s.data.toList a).2.1 : Int), .int .i64 ((tkT s.data.toList a).2.2 : Int)]) ∧ w'.cell? ⟨b1, 0, none⟩ = some (.string ⟨(tkT s.data.toList a).1.toArray⟩) ∧ Below B w w'
set_option maxHeartbeats 2000000 in
theorem counted32 (s : ByteArray) (a : Int) (B b0 b1 : Nat) (w : World) (hs : s.size ≤ maxLen) (hB : B ≤ b1) (hb1 : b1 < w.heap.size)
    (hc0 : w.cell? ⟨b0, 0, none⟩ = some (.string s)) (hc1 : w.cell? ⟨b1, 0, none⟩ = some (.string ⟨#[]⟩)) (hf1 : w.frozen? ⟨b1, 0, none⟩ = false) :
    Calls Try.prog 98 #[.string s, .int .i64 a, .int .u64 60000, .func (.func 99) #[] #[.pointer (some ⟨b0, 0, none⟩), .pointer (some ⟨b1, 0, none⟩)]] w (TextDone s a B b1 w) := by
  obtain ⟨n, nx, er, hr⟩ := tup_split s.data.toList a
  have hn := tkU_lt s.data.toList a
  rw [hr] at hn
  have ht := take_any s a w hs
  rw [hr] at ht
  unfold tup at ht
  have Ht := hideIt ht
  clear ht
  have hsl : s.data.toList.length = s.size := by simp
  have hs2 := hs
  unfold maxLen at hs2
  simp only at hn
  by_cases her : er = 0
  · have hnx := (tkU_next s.data.toList a (by rw [hr]; exact her)).2.2
    rw [hr, hsl] at hnx
    simp only at hnx
    subst her
    by_cases hlong : 60000 < n
    · have e := tkT_long _ _ hr hlong
      have He : Hid (TextDone s a B b1 w (.returned (.tuple #[.int .i64 0, .int .i64 11])) w) := by
        unfold TextDone Hid; rw [e]; exact ⟨rfl, hc1, Below.refl _ _⟩
      have hlong' : (60000 : Int) < n := by omega
      clear e hr hc0 hc1 hf1
      go_enter Try.func98, Try.ntmps98
      go_wp2_with fail
      refine Ht.out.mono ?_
      rintro e w' ⟨rfl, rfl⟩
      go_wp2
      go_ret2
      exact He.out
    · have hlong' : ¬ (60000 : Int) < n := by omega
      by_cases hcut : s.size < nx + n
      · have e := tkT_cut _ _ hr hlong (by omega)
        have He : Hid (TextDone s a B b1 w (.returned (.tuple #[.int .i64 0, .int .i64 10])) w) := by
          unfold TextDone Hid; rw [e]; exact ⟨rfl, hc1, Below.refl _ _⟩
        have hclo := clos32_no s n nx b0 b1 w hs2 hnx (by omega) hc0 hcut
        have Hc := hideIt hclo
        clear e hr hc0 hc1 hf1 hclo
        go_enter Try.func98, Try.ntmps98
        go_wp2_with fail
        refine Ht.out.mono ?_
        rintro e w' ⟨rfl, rfl⟩
        go_wp2_with fail
        refine Hc.out.mono ?_
        rintro e w' ⟨rfl, rfl⟩
        go_wp2
        go_ret2
        exact He.out
      · have e := tkT_yes _ _ hr hlong (by omega)
        have He : Hid (∀ w1, Below w.heap.size w w1 → TextDone s a B b1 w (.returned (.tuple #[.int .i64 ((nx : Int) + n), .int .i64 0])) (w1.setCell ⟨b1, 0, none⟩ (.string (s.extract nx (nx + n))))) := by
          intro w1 hw1
          unfold TextDone; rw [e]
          refine ⟨rfl, ?_, ((hw1.mono (by omega)).setCell (p := ⟨b1, 0, none⟩) hB _)⟩
          rw [World.cell?_setCell_same _ _ _ ((hw1.cell hb1).trans hc1), extract_eq]
        have hclo := clos32_yes s n nx b0 b1 _ w hs2 (by omega) hb1 hc0 hc1 hf1 (by omega)
        have Hc := hideIt hclo
        clear e hr hc0 hc1 hf1 hclo
        go_enter Try.func98, Try.ntmps98
        go_wp2_with fail
        refine Ht.out.mono ?_
        rintro e w' ⟨rfl, rfl⟩
        go_wp2_with fail
        refine Hc.out.mono ?_
        rintro e w' ⟨w1, rfl, hw1, rfl⟩
        go_wp2
        go_ret2
        exact He.out w1 hw1
  · have e := tkT_err _ _ hr her
    have He : Hid (TextDone s a B b1 w (.returned (.tuple #[.int .i64 0, .int .i64 (er : Int)])) w) := by
      unfold TextDone Hid; rw [e]; exact ⟨rfl, hc1, Below.refl _ _⟩
    have her' : ((er : Int) != 0) = true := by simp; omega
    clear e hr hc0 hc1 hf1
    go_enter Try.func98, Try.ntmps98
    go_wp2_with fail
    refine Ht.out.mono ?_
    rintro e w' ⟨rfl, rfl⟩
    go_wp2
    go_ret2
    exact He.out
def tupT (r : List UInt8 × Nat × Nat) : Ending := .returned (.tuple #[.string ⟨r.1.toArray⟩, .int .i64 (r.2.1 : Int), .int .i64 (r.2.2 : Int)])
set_option maxHeartbeats 1000000 in
theorem takeText_any (s : ByteArray) (a : Int) (w : World) (hs : s.size ≤ maxLen) :
    Calls Try.prog 95 #[.string s, .int .i64 a] w fun e w' => e = tupT (tkT s.data.toList a) ∧ Below w.heap.size w w' := by
  have hmf : ∀ (fn : Fn) (first cap : Array Value) (w : World), (Instr.makeFunc fn first cap).run Try.prog w = .ok (.func fn first cap) w := fun _ _ _ _ => rfl
  have Hc := hideIt (counted32 s a w.heap.size w.heap.size (w.heap.size + 1) ((w.alloc (Obj.cells #[Value.string s] 9)).alloc (Obj.cells #[Value.string { data := #[] }] 9)) hs (by omega) (by simp)
    (by rw [World.cell?_alloc_past _ _ _ (by simp), World.cell?_alloc_at _ _ _ _ rfl]; rfl) (by rw [World.cell?_alloc_at _ _ _ _ (by simp)]; rfl) (World.frozen?_alloc_at _ _ _ _ (by simp)))
  go_enter Try.func95, Try.ntmps95
  go_wp2_with fail
  refine Hc.out.mono ?_
  rintro e w' ⟨rfl, hc1, hb⟩
  go_wp2
  go_ret3
  exact ⟨rfl, (((Below.refl _ _).alloc (Nat.le_refl _) _).alloc (by simp) _).trans hb⟩
end Go.Proofs.Ytagfolckodpioaa
