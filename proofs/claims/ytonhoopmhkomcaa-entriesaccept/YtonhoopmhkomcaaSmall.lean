/- The small questions of entries and of the document: bounds, marks, entries. -/
import Derived.Test.YtonhoopmhkomcaaKit
namespace Go.Proofs.Ytonhoopmhkomcaa
open Go.RowKit
set_option maxHeartbeats 1000000 in
theorem within_is (x lo hi : Int) (w : World) : Calls Try.prog 41 #[.int .i64 x, .int .i64 lo, .int .i64 hi] w fun e w' => e = .returned (.bool (wiB x lo hi)) ∧ w' = w := by
  unfold wiB
  by_cases h : lo ≤ x
  · go_enter Try.func41, Try.ntmps41
    go_wp2
    go_ret
    exact ⟨by simp [h], rfl⟩
  · go_enter Try.func41, Try.ntmps41
    go_wp2
    go_ret
    exact ⟨by rw [decide_eq_false (by omega)]; rfl, rfl⟩
set_option maxHeartbeats 1000000 in
theorem rwithin_is (x lo hi : Int) (w : World) : Calls Try.prog 35 #[.int .i64 x, .int .i64 lo, .int .i64 hi] w fun e w' => e = .returned (.bool (wiB x lo hi)) ∧ w' = w := by
  unfold wiB
  by_cases h : lo ≤ x
  · go_enter Try.func35, Try.ntmps35
    go_wp2
    go_ret
    exact ⟨by simp [h], rfl⟩
  · go_enter Try.func35, Try.ntmps35
    go_wp2
    go_ret
    exact ⟨by rw [decide_eq_false (by omega)]; rfl, rfl⟩
set_option maxHeartbeats 1000000 in
theorem mwithin_is (x lo hi : Int) (w : World) : Calls Try.prog 49 #[.int .i64 x, .int .i64 lo, .int .i64 hi] w fun e w' => e = .returned (.bool (wiB x lo hi)) ∧ w' = w := by
  unfold wiB
  by_cases h : lo ≤ x
  · go_enter Try.func49, Try.ntmps49
    go_wp2
    go_ret
    exact ⟨by simp [h], rfl⟩
  · go_enter Try.func49, Try.ntmps49
    go_wp2
    go_ret
    exact ⟨by rw [decide_eq_false (by omega)]; rfl, rfl⟩
def mkB (i t : Int) : Bool := wiB i 0 1000000 && wiB t 0 1000000 && (i == 0) == (t == 0)
set_option maxHeartbeats 2000000 in
theorem isMark_is (i t : Int) (w : World) : Calls Try.prog 40 #[.agg #[.int .i64 i, .int .i64 t]] w fun e w' => e = .returned (.bool (mkB i t)) ∧ Below w.heap.size w w' := by
  have N1 := hideIt (fun W => within_is i 0 1000000 W)
  have N2 := hideIt (fun W => within_is t 0 1000000 W)
  unfold mkB
  have HB := hideIt (below1 w (.cells #[.int .i64 i, .int .i64 t] 23))
  cases h1 : wiB i 0 1000000
  · rw [h1] at N1
    go_enter Try.func40, Try.ntmps40
    go_wp2_with fail
    refine (N1.out _).mono ?_
    rintro e w1 ⟨rfl, rfl⟩
    dsimp only
    go_wp2
    go_ret
    exact ⟨rfl, HB.out⟩
  · rw [h1] at N1
    cases h2 : wiB t 0 1000000
    · rw [h2] at N2
      go_enter Try.func40, Try.ntmps40
      go_wp2_with fail
      refine (N1.out _).mono ?_
      rintro e w1 ⟨rfl, rfl⟩
      dsimp only
      go_wp2_with fail
      refine (N2.out _).mono ?_
      rintro e w1 ⟨rfl, rfl⟩
      dsimp only
      go_wp2
      go_ret
      exact ⟨rfl, HB.out⟩
    · rw [h2] at N2
      go_enter Try.func40, Try.ntmps40
      go_wp2_with fail
      refine (N1.out _).mono ?_
      rintro e w1 ⟨rfl, rfl⟩
      dsimp only
      go_wp2_with fail
      refine (N2.out _).mono ?_
      rintro e w1 ⟨rfl, rfl⟩
      dsimp only
      go_wp2
      go_ret
      exact ⟨by simp, HB.out⟩
set_option maxHeartbeats 2000000 in
theorem rMark_is (i t : Int) (w : World) : Calls Try.prog 33 #[.agg #[.int .i64 i, .int .i64 t]] w fun e w' => e = .returned (.bool (mkB i t)) ∧ Below w.heap.size w w' := by
  have N1 := hideIt (fun W => mwithin_is i 0 1000000 W)
  have N2 := hideIt (fun W => mwithin_is t 0 1000000 W)
  unfold mkB
  have HB := hideIt (below1 w (.cells #[.int .i64 i, .int .i64 t] 23))
  cases h1 : wiB i 0 1000000
  · rw [h1] at N1
    go_enter Try.func33, Try.ntmps33
    go_wp2_with fail
    refine (N1.out _).mono ?_
    rintro e w1 ⟨rfl, rfl⟩
    dsimp only
    go_wp2
    go_ret
    exact ⟨rfl, HB.out⟩
  · rw [h1] at N1
    cases h2 : wiB t 0 1000000
    · rw [h2] at N2
      go_enter Try.func33, Try.ntmps33
      go_wp2_with fail
      refine (N1.out _).mono ?_
      rintro e w1 ⟨rfl, rfl⟩
      dsimp only
      go_wp2_with fail
      refine (N2.out _).mono ?_
      rintro e w1 ⟨rfl, rfl⟩
      dsimp only
      go_wp2
      go_ret
      exact ⟨rfl, HB.out⟩
    · rw [h2] at N2
      go_enter Try.func33, Try.ntmps33
      go_wp2_with fail
      refine (N1.out _).mono ?_
      rintro e w1 ⟨rfl, rfl⟩
      dsimp only
      go_wp2_with fail
      refine (N2.out _).mono ?_
      rintro e w1 ⟨rfl, rfl⟩
      dsimp only
      go_wp2
      go_ret
      exact ⟨by simp, HB.out⟩
def entB (e : EntV) : Bool := wiB e.term 1 1000000 && ((e.kind == 1 && e.text.size == 0) || (e.kind == 2 && decide (e.text.size ≤ 4000)))
theorem entB_text {e : EntV} (h : entB e = true) : e.text.size ≤ 4000 := by
  simp only [entB, Bool.and_eq_true, Bool.or_eq_true, beq_iff_eq, decide_eq_true_eq] at h
  omega
theorem iteB (c : Prop) [Decidable c] (b : Bool) (w : World) : (if c then Result.ok (Value.bool b) w else Result.ok (Value.bool false) w) = Result.ok (Value.bool (decide c && b)) w := by
  by_cases h : c <;> simp [h]
def eqE (a b : EntV) : Bool := a.term == b.term && a.kind == b.kind && (a.text.toList == b.text.toList)
theorem eq39 (a1 a2 b1 b2 : Int) (a3 b3 : ByteArray) (w : World) : (binOp .eql 40 (.agg #[.int .i64 a1, .int .i64 a2, .string a3]) (.agg #[.int .i64 b1, .int .i64 b2, .string b3])).run Try.prog w = .ok (.bool (eqE ⟨a1, a2, a3⟩ ⟨b1, b2, b3⟩)) w := by
  unfold eqE
  simp [go_sem]
  by_cases h1 : a1 = b1 <;> by_cases h2 : a2 = b2 <;> by_cases h3 : a3.toList = b3.toList <;> simp [h1, h2, h3, go_sem]
theorem neq39 (a1 a2 b1 b2 : Int) (a3 b3 : ByteArray) (w : World) : (binOp .neq 40 (.agg #[.int .i64 a1, .int .i64 a2, .string a3]) (.agg #[.int .i64 b1, .int .i64 b2, .string b3])).run Try.prog w = .ok (.bool (!eqE ⟨a1, a2, a3⟩ ⟨b1, b2, b3⟩)) w := by
  unfold eqE
  simp [go_sem]
  by_cases h1 : a1 = b1 <;> by_cases h2 : a2 = b2 <;> by_cases h3 : a3.toList = b3.toList <;> simp [h1, h2, h3, go_sem]
theorem eq23 (a b c d : Int) (w : World) : (binOp .eql 23 (.agg #[.int .i64 a, .int .i64 b]) (.agg #[.int .i64 c, .int .i64 d])).run Try.prog w = .ok (.bool (a == c && b == d)) w := by
  simp [go_sem]
  simp only [iteB]
  congr 2
  rw [Bool.eq_iff_iff]
  simp
theorem neq23 (a b c d : Int) (w : World) : (binOp .neq 23 (.agg #[.int .i64 a, .int .i64 b]) (.agg #[.int .i64 c, .int .i64 d])).run Try.prog w = .ok (.bool (!(a == c && b == d))) w := by
  simp [go_sem]
  by_cases h : a = c <;> by_cases k : b = d <;> simp [h, k]
theorem toList_nil (x : ByteArray) : (x.toList == ([] : List UInt8)) = (x.size == 0) := by
  have h : x.toList.length = x.size := by
    rw [ByteArray.toList_eq x]
    rfl
  rw [Bool.eq_iff_iff, beq_iff_eq, beq_iff_eq]
  exact ⟨fun e => by rw [← h, e]; rfl, fun e => List.length_eq_zero_iff.1 (h.trans e)⟩
theorem toList_emp (x : ByteArray) : x.toList.isEmpty = (x.size == 0) := by
  rw [← toList_nil]
  cases x.toList <;> rfl
theorem eq39e (t k : Int) (x : ByteArray) (w : World) : (binOp .eql 40 (.agg #[.int .i64 t, .int .i64 k, .string x]) (.agg #[.int .i64 t, .int .i64 1, .string ⟨#[]⟩])).run Try.prog w = .ok (.bool (k == 1 && x.size == 0)) w := by
  rw [eq39, eqE]
  simp [toList_emp]
set_option maxHeartbeats 4000000 in
theorem isEntry_is (e : EntV) (w : World) : Calls Try.prog 37 #[.agg #[.int .i64 e.term, .int .i64 e.kind, .string e.text]] w fun r w' => r = .returned (.bool (entB e)) ∧ Below w.heap.size w w' := by
  obtain ⟨t, k, x⟩ := e
  have N1 := hideIt (fun W => within_is t 1 1000000 W)
  have HB := hideIt (below1 w (.cells #[.int .i64 t, .int .i64 k, .string x] 40))
  have HB2 := hideIt (below2 w (.cells #[.int .i64 t, .int .i64 k, .string x] 40) (.cells #[.int .i64 t, .int .i64 1, .string ⟨#[]⟩] 40))
  simp only [entB]
  cases h1 : wiB t 1 1000000
  · rw [h1] at N1
    go_enter Try.func37, Try.ntmps37
    go_wp2_with fail
    refine (N1.out _).mono ?_
    rintro e w1 ⟨rfl, rfl⟩
    dsimp only
    go_wp2
    go_ret
    exact ⟨rfl, HB.out⟩
  · rw [h1] at N1
    cases h2 : (k == 1 && x.size == 0)
    · have n1 : ∀ W, (binOp .eql 40 (.agg #[.int .i64 t, .int .i64 k, .string x]) (.agg #[.int .i64 t, .int .i64 1, .string ⟨#[]⟩])).run Try.prog W = .ok (.bool false) W := fun W => by rw [eq39e, h2]
      by_cases h3 : k = 2
      · subst h3
        have e1 : decide (x.size ≤ 4000) = decide ((x.size : Int) ≤ 4000) := by rw [decide_eq_decide]; omega
        rw [e1]
        clear e1 h2
        go_enter Try.func37, Try.ntmps37
        go_wp2_with fail
        refine (N1.out _).mono ?_
        rintro e w1 ⟨rfl, rfl⟩
        dsimp only
        go_wp2
        go_ret
        exact ⟨rfl, HB2.out⟩
      · have h3b : (k == 2) = false := beq_eq_false_iff_ne.2 h3
        rw [h3b]
        clear h2
        go_enter Try.func37, Try.ntmps37
        go_wp2_with fail
        refine (N1.out _).mono ?_
        rintro e w1 ⟨rfl, rfl⟩
        dsimp only
        go_wp2
        go_ret
        exact ⟨rfl, HB2.out⟩
    · have n1 : ∀ W, (binOp .eql 40 (.agg #[.int .i64 t, .int .i64 k, .string x]) (.agg #[.int .i64 t, .int .i64 1, .string ⟨#[]⟩])).run Try.prog W = .ok (.bool true) W := fun W => by rw [eq39e, h2]
      clear h2
      go_enter Try.func37, Try.ntmps37
      go_wp2_with fail
      refine (N1.out _).mono ?_
      rintro e w1 ⟨rfl, rfl⟩
      dsimp only
      go_wp2
      go_ret
      exact ⟨rfl, HB2.out⟩
theorem str_eq (x : ByteArray) (w : World) : (binOp .eql 9 (.string x) (.string ⟨#[]⟩)).run Try.prog w = .ok (.bool (x.size == 0)) w := by
  simp [go_sem, toList_emp]
set_option maxHeartbeats 4000000 in
theorem rEntry_is (e : EntV) (w : World) : Calls Try.prog 39 #[.agg #[.int .i64 e.term, .int .i64 e.kind, .string e.text]] w fun r w' => r = .returned (.bool (entB e)) ∧ Below w.heap.size w w' := by
  obtain ⟨t, k, x⟩ := e
  have N1 := hideIt (fun W => rwithin_is t 1 1000000 W)
  have HB := hideIt (below1 w (.cells #[.int .i64 t, .int .i64 k, .string x] 40))
  simp only [entB]
  cases h1 : wiB t 1 1000000
  · rw [h1] at N1
    go_enter Try.func39, Try.ntmps39
    go_wp2_with fail
    refine (N1.out _).mono ?_
    rintro e w1 ⟨rfl, rfl⟩
    dsimp only
    go_wp2
    go_ret
    exact ⟨by first | rfl | simp, HB.out⟩
  · rw [h1] at N1
    have e1 : decide (x.size ≤ 4000) = decide ((x.size : Int) ≤ 4000) := by rw [decide_eq_decide]; omega
    rw [e1]
    clear e1
    by_cases k1 : k = 1
    · subst k1
      cases h2 : (x.size == 0)
      · have hz : x.toList.isEmpty = false := by rw [toList_emp, h2]
        have hz2 : ¬ x.toList = [] := fun e => by rw [e] at hz; cases hz
        have HZ := hideIt hz
        clear h2
        go_enter Try.func39, Try.ntmps39
        go_wp2_with fail
        refine (N1.out _).mono ?_
        rintro e w1 ⟨rfl, rfl⟩
        dsimp only
        go_wp2
        go_ret
        exact ⟨by first | rfl | simp [HZ.out], HB.out⟩
      · have hz : x.toList.isEmpty = true := by rw [toList_emp, h2]
        have hz2 : x.toList = [] := List.isEmpty_iff.1 hz
        have HZ := hideIt hz
        clear h2
        go_enter Try.func39, Try.ntmps39
        go_wp2_with fail
        refine (N1.out _).mono ?_
        rintro e w1 ⟨rfl, rfl⟩
        dsimp only
        go_wp2
        go_ret
        exact ⟨by first | rfl | simp [HZ.out], HB.out⟩
    · have k1b : (k == 1) = false := beq_eq_false_iff_ne.2 k1
      rw [k1b]
      by_cases h3 : k = 2
      · subst h3
        clear k1 k1b
        go_enter Try.func39, Try.ntmps39
        go_wp2_with fail
        refine (N1.out _).mono ?_
        rintro e w1 ⟨rfl, rfl⟩
        dsimp only
        go_wp2
        go_ret
        exact ⟨by first | rfl | simp, HB.out⟩
      · have h3b : (k == 2) = false := beq_eq_false_iff_ne.2 h3
        rw [h3b]
        go_enter Try.func39, Try.ntmps39
        go_wp2_with fail
        refine (N1.out _).mono ?_
        rintro e w1 ⟨rfl, rfl⟩
        dsimp only
        go_wp2
        go_ret
        exact ⟨by first | rfl | simp, HB.out⟩
def rowsB : List EntV → Int → Bool
  | [], _ => true
  | e :: l, x => entB e && decide (x ≤ e.term) && rowsB l e.term
theorem rowsB_drop (l : List EntV) (t : Nat) (x : Int) (h : t < l.length) : rowsB (l.drop t) x = (entB l[t] && decide (x ≤ (l[t]).term) && rowsB (l.drop (t + 1)) (l[t]).term) := by
  rw [List.drop_eq_getElem_cons h]
  rfl
theorem rowsB_all (l : List EntV) : ∀ x, rowsB l x = true → ∀ e ∈ l, entB e = true := by
  induction l with
  | nil => intro _ _ e he; cases he
  | cons a l ih =>
    intro x h e he
    simp only [rowsB, Bool.and_eq_true] at h
    rcases List.mem_cons.1 he with rfl | he
    · exact h.1.1
    · exact ih _ h.2 e he
set_option maxHeartbeats 4000000 in
set_option maxRecDepth 100000 in
theorem areEntries_is (g : Value) (l : List EntV) (x : Int) (w : World) (h : EGot w g l) : Calls Try.prog 42 #[g, .int .i64 x] w fun e w' => e = .returned (.bool (rowsB l x)) ∧ Below w.heap.size w w' := by
  obtain ⟨a, c, rfl, h8, hr⟩ := h.open
  have HH := hideIt hr
  have NE := hideIt isEntry_is
  clear hr h
  go_enter Try.func42, Try.ntmps42
  go_wp2
  go_loopw [1, 9] (fun u v wr => ∃ (t : Nat) (y : Int), u = .int .i64 y ∧ v = .int .i64 t ∧ t ≤ l.length ∧ Hid (rowsB l x = rowsB (l.drop t) y ∧ Below w.heap.size w wr)) (fun _ v _ => l.length - (intOf v).toNat)
  case atStart => exact ⟨0, x, rfl, rfl, Nat.zero_le _, hideIt ⟨rfl, Below.refl _ _⟩⟩
  case round =>
    obtain ⟨t, y, rfl, rfl, ht, HR⟩ := hrel
    by_cases hlt : t < l.length
    · have hltI : (t : Int) < (l.length : Int) := by omega
      have ht0 : (0 : Int) ≤ (t : Int) := by omega
      obtain ⟨b, off, rfl, hbl, q0, q1, q2⟩ := HH.out t hlt
      have hB := HR.out.2
      have hBS := hB.size
      have c0 := (hB.cell (p := ⟨b, off + t * 3, none⟩) hbl).trans q0
      have c1 := (hB.cell (p := ⟨b, off + t * 3 + 1, none⟩) hbl).trans q1
      have c2 := (hB.cell (p := ⟨b, off + t * 3 + 2, none⟩) hbl).trans q2
      have hblr : b < wr.heap.size := by omega
      have HRD := hideIt (rowsB_drop l t y hlt)
      have hN := fun W => NE.out l[t] W
      generalize l[t] = en at *
      obtain ⟨et, ek, ex⟩ := en
      simp only at c0 c1 c2 HRD hN
      have HN := hideIt hN
      have HB := hideIt hB
      clear q0 q1 q2 hN hB
      have HA := hideIt (HB.out.alloc (by omega) (.cells #[.int .i64 et, .int .i64 ek, .string ex] 40))
      cases h1 : entB ⟨et, ek, ex⟩
      · rw [h1] at HN HRD
        go_wp2_with fail
        refine (HN.out _).mono ?_
        rintro e w1 ⟨rfl, hb⟩
        dsimp only
        have HB3 := hideIt (HA.out.trans (hb.mono (by first | omega | (simp; omega))))
        clear hb
        go_wp2
        go_ret
        exact ⟨by rw [HR.out.1, HRD.out]; rfl, HB3.out⟩
      · rw [h1] at HN HRD
        by_cases h2 : y ≤ et
        · have h2I : ¬ et < y := by omega
          go_wp2_with fail
          refine (HN.out _).mono ?_
          rintro e w1 ⟨rfl, hb⟩
          dsimp only
          have HB3 := hideIt (HA.out.trans (hb.mono (by first | omega | (simp; omega))))
          have d0 : w1.cell? ⟨wr.heap.size, 0, none⟩ = some (.int .i64 et) := box_cell hb 0
          clear hb
          go_wp2
          go_roundw
          case rel => exact ⟨t + 1, et, rfl, by go_num, by omega, hideIt ⟨by rw [HR.out.1, HRD.out]; simp [h2], HB3.out⟩⟩
          case measure => simp [intOf]; omega
        · have h2I : et < y := by omega
          have HNY := hideIt h2
          clear h2
          go_wp2_with fail
          refine (HN.out _).mono ?_
          rintro e w1 ⟨rfl, hb⟩
          dsimp only
          have HB3 := hideIt (HA.out.trans (hb.mono (by first | omega | (simp; omega))))
          have d0 : w1.cell? ⟨wr.heap.size, 0, none⟩ = some (.int .i64 et) := box_cell hb 0
          clear hb
          go_wp2
          go_ret
          exact ⟨by rw [HR.out.1, HRD.out, decide_eq_false (by have := HNY.out; omega)]; rfl, HB3.out⟩
    · have hltI : ¬ (t : Int) < (l.length : Int) := by omega
      go_wp2
      go_ret
      have := HR.out.1
      rw [List.drop_of_length_le (by omega)] at this
      exact ⟨by rw [this]; rfl, HR.out.2⟩
set_option maxHeartbeats 4000000 in
set_option maxRecDepth 100000 in
theorem rRows_is (g : Value) (l : List EntV) (x : Int) (w : World) (h : EGot w g l) : Calls Try.prog 34 #[g, .int .i64 x] w fun e w' => e = .returned (.bool (rowsB l x)) ∧ Below w.heap.size w w' := by
  obtain ⟨a, c, rfl, h8, hr⟩ := h.open
  have HH := hideIt hr
  have NE := hideIt rEntry_is
  clear hr h
  go_enter Try.func34, Try.ntmps34
  go_wp2
  go_loopw [1, 5] (fun u v wr => ∃ (t : Nat) (y : Int), u = .int .i64 y ∧ v = .int .i64 t ∧ t ≤ l.length ∧ Hid (rowsB l x = rowsB (l.drop t) y ∧ Below w.heap.size w wr)) (fun _ v _ => l.length - (intOf v).toNat)
  case atStart => exact ⟨0, x, rfl, rfl, Nat.zero_le _, hideIt ⟨rfl, Below.refl _ _⟩⟩
  case round =>
    obtain ⟨t, y, rfl, rfl, ht, HR⟩ := hrel
    by_cases hlt : t < l.length
    · have hltI : (t : Int) < (l.length : Int) := by omega
      have ht0 : (0 : Int) ≤ (t : Int) := by omega
      obtain ⟨b, off, rfl, hbl, q0, q1, q2⟩ := HH.out t hlt
      have hB := HR.out.2
      have hBS := hB.size
      have c0 := (hB.cell (p := ⟨b, off + t * 3, none⟩) hbl).trans q0
      have c1 := (hB.cell (p := ⟨b, off + t * 3 + 1, none⟩) hbl).trans q1
      have c2 := (hB.cell (p := ⟨b, off + t * 3 + 2, none⟩) hbl).trans q2
      have hblr : b < wr.heap.size := by omega
      have HRD := hideIt (rowsB_drop l t y hlt)
      have hN := fun W => NE.out l[t] W
      generalize l[t] = en at *
      obtain ⟨et, ek, ex⟩ := en
      simp only at c0 c1 c2 HRD hN
      have HN := hideIt hN
      have HB := hideIt hB
      clear q0 q1 q2 hN hB
      have HA := HB
      cases h1 : entB ⟨et, ek, ex⟩
      · rw [h1] at HN HRD
        go_wp2_with fail
        refine (HN.out _).mono ?_
        rintro e w1 ⟨rfl, hb⟩
        dsimp only
        have HB3 := hideIt (HA.out.trans (hb.mono (by first | omega | (simp; omega))))
        clear hb
        go_wp2
        go_ret
        exact ⟨by rw [HR.out.1, HRD.out]; rfl, HB3.out⟩
      · rw [h1] at HN HRD
        by_cases h2 : y ≤ et
        · have h2I : ¬ et < y := by omega
          go_wp2_with fail
          refine (HN.out _).mono ?_
          rintro e w1 ⟨rfl, hb⟩
          dsimp only
          have HB3 := hideIt (HA.out.trans (hb.mono (by first | omega | (simp; omega))))
          have d0 := (hb.cell (p := ⟨b, off + t * 3, none⟩) hblr).trans c0
          clear hb
          go_wp2
          go_roundw
          case rel => exact ⟨t + 1, et, rfl, by go_num, by omega, hideIt ⟨by rw [HR.out.1, HRD.out]; simp [h2], HB3.out⟩⟩
          case measure => simp [intOf]; omega
        · have h2I : et < y := by omega
          have HNY := hideIt h2
          clear h2
          go_wp2_with fail
          refine (HN.out _).mono ?_
          rintro e w1 ⟨rfl, hb⟩
          dsimp only
          have HB3 := hideIt (HA.out.trans (hb.mono (by first | omega | (simp; omega))))
          have d0 := (hb.cell (p := ⟨b, off + t * 3, none⟩) hblr).trans c0
          clear hb
          go_wp2
          go_ret
          exact ⟨by rw [HR.out.1, HRD.out, decide_eq_false (by have := HNY.out; omega)]; rfl, HB3.out⟩
    · have hltI : ¬ (t : Int) < (l.length : Int) := by omega
      go_wp2
      go_ret
      have := HR.out.1
      rw [List.drop_of_length_le (by omega)] at this
      exact ⟨by rw [this]; rfl, HR.out.2⟩
end Go.Proofs.Ytonhoopmhkomcaa
