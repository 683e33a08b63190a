/- Texts of my own, laid together. -/
import Derived.Test.YtcaehfkfohianaaGreatZq
import Derived.Test.YtcaehfkfohianaaGreatPy04
set_option linter.all false
namespace Go.Proofs.YtcaehfkfohianaaGreat
open Go.RowKit
set_option maxHeartbeats 1000000 in
theorem within_is (x lo hi : Int) (w : World) : Calls Tryz.prog 125 #[.int .i64 x, .int .i64 lo, .int .i64 hi] w fun e w' => e = .returned (.bool (wiB x lo hi)) ∧ w' = w := by
 unfold wiB
 by_cases h : lo ≤ x
 ·go_enter Tryz.func125, Tryz.ntmps125
  go_wp2;go_ret
  exact ⟨by simp [h], rfl⟩
 ·go_enter Tryz.func125, Tryz.ntmps125
  go_wp2;go_ret
  exact ⟨by rw [decide_eq_false (by omega)]; rfl, rfl⟩
set_option maxHeartbeats 1000000 in
theorem rwithin_is (x lo hi : Int) (w : World) : Calls Tryz.prog 60 #[.int .i64 x, .int .i64 lo, .int .i64 hi] w fun e w' => e = .returned (.bool (wiB x lo hi)) ∧ w' = w := by
 unfold wiB
 by_cases h : lo ≤ x
 ·go_enter Tryz.func60, Tryz.ntmps60
  go_wp2;go_ret
  exact ⟨by simp [h], rfl⟩
 ·go_enter Tryz.func60, Tryz.ntmps60
  go_wp2;go_ret
  exact ⟨by rw [decide_eq_false (by omega)]; rfl, rfl⟩
set_option maxHeartbeats 1000000 in
theorem mwithin_is (x lo hi : Int) (w : World) : Calls Tryz.prog 78 #[.int .i64 x, .int .i64 lo, .int .i64 hi] w fun e w' => e = .returned (.bool (wiB x lo hi)) ∧ w' = w := by
 unfold wiB
 by_cases h : lo ≤ x
 ·go_enter Tryz.func78, Tryz.ntmps78
  go_wp2;go_ret
  exact ⟨by simp [h], rfl⟩
 ·go_enter Tryz.func78, Tryz.ntmps78
  go_wp2;go_ret
  exact ⟨by rw [decide_eq_false (by omega)]; rfl, rfl⟩
def mkB (i t : Int) : Bool := wiB i 0 1000000 && wiB t 0 1000000 && (i == 0) == (t == 0)
set_option maxHeartbeats 2000000 in
theorem isMark_is (i t : Int) (w : World) : Calls Tryz.prog 122 #[.agg #[.int .i64 i, .int .i64 t]] w fun e w' => e = .returned (.bool (mkB i t)) ∧ Below w.heap.size w w' := by
 have N1 := hideIt (fun W => within_is i 0 1000000 W);have N2 := hideIt (fun W => within_is t 0 1000000 W);unfold mkB;have HB := hideIt (below1 w (.cells #[.int .i64 i, .int .i64 t] 25));cases h1 : wiB i 0 1000000
 ·rw [h1] at N1
  go_enter Tryz.func122, Tryz.ntmps122
  go_wp2_with fail
  refine (N1.out _).mono ?_;rintro e w1 ⟨rfl, rfl⟩;dsimp only;go_wp2;go_ret
  exact ⟨rfl, HB.out⟩
 ·rw [h1] at N1;cases h2 : wiB t 0 1000000
  ·rw [h2] at N2
   go_enter Tryz.func122, Tryz.ntmps122
   go_wp2_with fail
   refine (N1.out _).mono ?_;rintro e w1 ⟨rfl, rfl⟩;dsimp only
   go_wp2_with fail
   refine (N2.out _).mono ?_;rintro e w1 ⟨rfl, rfl⟩;dsimp only;go_wp2;go_ret
   exact ⟨rfl, HB.out⟩
  ·rw [h2] at N2
   go_enter Tryz.func122, Tryz.ntmps122
   go_wp2_with fail
   refine (N1.out _).mono ?_;rintro e w1 ⟨rfl, rfl⟩;dsimp only
   go_wp2_with fail
   refine (N2.out _).mono ?_;rintro e w1 ⟨rfl, rfl⟩;dsimp only;go_wp2;go_ret
   exact ⟨by simp, HB.out⟩
set_option maxHeartbeats 2000000 in
theorem rMark_is (i t : Int) (w : World) : Calls Tryz.prog 58 #[.agg #[.int .i64 i, .int .i64 t]] w fun e w' => e = .returned (.bool (mkB i t)) ∧ Below w.heap.size w w' := by
 have N1 := hideIt (fun W => mwithin_is i 0 1000000 W);have N2 := hideIt (fun W => mwithin_is t 0 1000000 W);unfold mkB;have HB := hideIt (below1 w (.cells #[.int .i64 i, .int .i64 t] 25));cases h1 : wiB i 0 1000000
 ·rw [h1] at N1
  go_enter Tryz.func58, Tryz.ntmps58
  go_wp2_with fail
  refine (N1.out _).mono ?_;rintro e w1 ⟨rfl, rfl⟩;dsimp only;go_wp2;go_ret
  exact ⟨rfl, HB.out⟩
 ·rw [h1] at N1;cases h2 : wiB t 0 1000000
  ·rw [h2] at N2
   go_enter Tryz.func58, Tryz.ntmps58
   go_wp2_with fail
   refine (N1.out _).mono ?_;rintro e w1 ⟨rfl, rfl⟩;dsimp only
   go_wp2_with fail
   refine (N2.out _).mono ?_;rintro e w1 ⟨rfl, rfl⟩;dsimp only;go_wp2;go_ret
   exact ⟨rfl, HB.out⟩
  ·rw [h2] at N2
   go_enter Tryz.func58, Tryz.ntmps58
   go_wp2_with fail
   refine (N1.out _).mono ?_;rintro e w1 ⟨rfl, rfl⟩;dsimp only
   go_wp2_with fail
   refine (N2.out _).mono ?_;rintro e w1 ⟨rfl, rfl⟩;dsimp only;go_wp2;go_ret
   exact ⟨by simp, HB.out⟩
def entB (e : EntV) : Bool := wiB e.term 1 1000000 && ((e.kind == 1 && e.text.size == 0) || (e.kind == 2 && decide (e.text.size ≤ 4000)))
theorem entB_text {e : EntV} (h : entB e = true) : e.text.size ≤ 4000 := by
 simp only [entB, Bool.and_eq_true, Bool.or_eq_true, beq_iff_eq, decide_eq_true_eq] at h;omega
theorem iteB (c : Prop) [Decidable c] (b : Bool) (w : World) : (if c then Result.ok (Value.bool b) w else Result.ok (Value.bool false) w) = Result.ok (Value.bool (decide c && b)) w := by
 by_cases h : c <;> simp [h]
def eqE (a b : EntV) : Bool := a.term == b.term && a.kind == b.kind && (a.text.toList == b.text.toList)
theorem eq39 (a1 a2 b1 b2 : Int) (a3 b3 : ByteArray) (w : World) : (binOp .eql 55 (.agg #[.int .i64 a1, .int .i64 a2, .string a3]) (.agg #[.int .i64 b1, .int .i64 b2, .string b3])).run Tryz.prog w = .ok (.bool (eqE ⟨a1, a2, a3⟩ ⟨b1, b2, b3⟩)) w := by
 unfold eqE
 simp [go_sem]
 by_cases h1 : a1 = b1 <;> by_cases h2 : a2 = b2 <;> by_cases h3 : a3.toList = b3.toList <;> simp [h1, h2, h3, go_sem]
theorem neq39 (a1 a2 b1 b2 : Int) (a3 b3 : ByteArray) (w : World) : (binOp .neq 55 (.agg #[.int .i64 a1, .int .i64 a2, .string a3]) (.agg #[.int .i64 b1, .int .i64 b2, .string b3])).run Tryz.prog w = .ok (.bool (!eqE ⟨a1, a2, a3⟩ ⟨b1, b2, b3⟩)) w := by
 unfold eqE
 simp [go_sem]
 by_cases h1 : a1 = b1 <;> by_cases h2 : a2 = b2 <;> by_cases h3 : a3.toList = b3.toList <;> simp [h1, h2, h3, go_sem]
theorem eq23 (a b c d : Int) (w : World) : (binOp .eql 25 (.agg #[.int .i64 a, .int .i64 b]) (.agg #[.int .i64 c, .int .i64 d])).run Tryz.prog w = .ok (.bool (a == c && b == d)) w := by
 simp [go_sem]
 simp only [iteB]
 congr 2
 rw [Bool.eq_iff_iff]
 simp
theorem toList_nil (x : ByteArray) : (x.toList == ([] : List UInt8)) = (x.size == 0) := by
 have h : x.toList.length = x.size := by
  rw [ByteArray.toList_eq x]
  rfl
 rw [Bool.eq_iff_iff, beq_iff_eq, beq_iff_eq]
 exact ⟨fun e => by rw [← h, e]; rfl, fun e => List.length_eq_zero_iff.1 (h.trans e)⟩
theorem toList_emp (x : ByteArray) : x.toList.isEmpty = (x.size == 0) := by
 rw [← toList_nil];cases x.toList <;> rfl
theorem eq39e (t k : Int) (x : ByteArray) (w : World) : (binOp .eql 55 (.agg #[.int .i64 t, .int .i64 k, .string x]) (.agg #[.int .i64 t, .int .i64 1, .string ⟨#[]⟩])).run Tryz.prog w = .ok (.bool (k == 1 && x.size == 0)) w := by
 rw [eq39, eqE]
 simp [toList_emp]
set_option maxHeartbeats 4000000 in
theorem isEntry_is (e : EntV) (w : World) : Calls Tryz.prog 151 #[.agg #[.int .i64 e.term, .int .i64 e.kind, .string e.text]] w fun r w' => r = .returned (.bool (entB e)) ∧ Below w.heap.size w w' := by
 obtain ⟨t, k, x⟩ := e;have N1 := hideIt (fun W => within_is t 1 1000000 W);have HB := hideIt (below1 w (.cells #[.int .i64 t, .int .i64 k, .string x] 55));have HB2 := hideIt (below2 w (.cells #[.int .i64 t, .int .i64 k, .string x] 55) (.cells #[.int .i64 t, .int .i64 1, .string ⟨#[]⟩] 55));simp only [entB];cases h1 : wiB t 1 1000000
 ·rw [h1] at N1
  go_enter Tryz.func151, Tryz.ntmps151
  go_wp2_with fail
  refine (N1.out _).mono ?_;rintro e w1 ⟨rfl, rfl⟩;dsimp only;go_wp2;go_ret
  exact ⟨rfl, HB.out⟩
 ·rw [h1] at N1;cases h2 : (k == 1 && x.size == 0)
  ·have n1 : ∀ W, (binOp .eql 55 (.agg #[.int .i64 t, .int .i64 k, .string x]) (.agg #[.int .i64 t, .int .i64 1, .string ⟨#[]⟩])).run Tryz.prog W = .ok (.bool false) W := fun W => by rw [eq39e, h2]
   by_cases h3 : k = 2
   ·subst h3;have e1 : decide (x.size ≤ 4000) = decide ((x.size : Int) ≤ 4000) := by rw [decide_eq_decide]; omega
    rw [e1];clear e1 h2
    go_enter Tryz.func151, Tryz.ntmps151
    go_wp2_with fail
    refine (N1.out _).mono ?_;rintro e w1 ⟨rfl, rfl⟩;dsimp only;go_wp2;go_ret
    exact ⟨rfl, HB2.out⟩
   ·have h3b : (k == 2) = false := beq_eq_false_iff_ne.2 h3;rw [h3b];clear h2
    go_enter Tryz.func151, Tryz.ntmps151
    go_wp2_with fail
    refine (N1.out _).mono ?_;rintro e w1 ⟨rfl, rfl⟩;dsimp only;go_wp2;go_ret
    exact ⟨rfl, HB2.out⟩
  ·have n1 : ∀ W, (binOp .eql 55 (.agg #[.int .i64 t, .int .i64 k, .string x]) (.agg #[.int .i64 t, .int .i64 1, .string ⟨#[]⟩])).run Tryz.prog W = .ok (.bool true) W := fun W => by rw [eq39e, h2]
   clear h2
   go_enter Tryz.func151, Tryz.ntmps151
   go_wp2_with fail
   refine (N1.out _).mono ?_;rintro e w1 ⟨rfl, rfl⟩;dsimp only;go_wp2;go_ret
   exact ⟨rfl, HB2.out⟩
set_option maxHeartbeats 4000000 in
theorem rEntry_is (e : EntV) (w : World) : Calls Tryz.prog 103 #[.agg #[.int .i64 e.term, .int .i64 e.kind, .string e.text]] w fun r w' => r = .returned (.bool (entB e)) ∧ Below w.heap.size w w' := by
 obtain ⟨t, k, x⟩ := e;have N1 := hideIt (fun W => rwithin_is t 1 1000000 W);have HB := hideIt (below1 w (.cells #[.int .i64 t, .int .i64 k, .string x] 55));simp only [entB];cases h1 : wiB t 1 1000000
 ·rw [h1] at N1
  go_enter Tryz.func103, Tryz.ntmps103
  go_wp2_with fail
  refine (N1.out _).mono ?_;rintro e w1 ⟨rfl, rfl⟩;dsimp only;go_wp2;go_ret
  exact ⟨by first | rfl | simp, HB.out⟩
 ·rw [h1] at N1;have e1 : decide (x.size ≤ 4000) = decide ((x.size : Int) ≤ 4000) := by rw [decide_eq_decide]; omega
  rw [e1];clear e1
  by_cases k1 : k = 1
  ·subst k1;cases h2 : (x.size == 0)
   ·have hz : x.toList.isEmpty = false := by rw [toList_emp, h2]
    have hz2 : ¬ x.toList = [] := fun e => by rw [e] at hz; cases hz
    have HZ := hideIt hz;clear h2
    go_enter Tryz.func103, Tryz.ntmps103
    go_wp2_with fail
    refine (N1.out _).mono ?_;rintro e w1 ⟨rfl, rfl⟩;dsimp only;go_wp2;go_ret
    exact ⟨by first | rfl | simp [HZ.out], HB.out⟩
   ·have hz : x.toList.isEmpty = true := by rw [toList_emp, h2]
    have hz2 : x.toList = [] := List.isEmpty_iff.1 hz;have HZ := hideIt hz;clear h2
    go_enter Tryz.func103, Tryz.ntmps103
    go_wp2_with fail
    refine (N1.out _).mono ?_;rintro e w1 ⟨rfl, rfl⟩;dsimp only;go_wp2;go_ret
    exact ⟨by first | rfl | simp [HZ.out], HB.out⟩
  ·have k1b : (k == 1) = false := beq_eq_false_iff_ne.2 k1;rw [k1b]
   by_cases h3 : k = 2
   ·subst h3;clear k1 k1b
    go_enter Tryz.func103, Tryz.ntmps103
    go_wp2_with fail
    refine (N1.out _).mono ?_;rintro e w1 ⟨rfl, rfl⟩;dsimp only;go_wp2;go_ret
    exact ⟨by first | rfl | simp, HB.out⟩
   ·have h3b : (k == 2) = false := beq_eq_false_iff_ne.2 h3;rw [h3b]
    go_enter Tryz.func103, Tryz.ntmps103
    go_wp2_with fail
    refine (N1.out _).mono ?_;rintro e w1 ⟨rfl, rfl⟩;dsimp only;go_wp2;go_ret
    exact ⟨by first | rfl | simp, HB.out⟩
def rowsB : List EntV → Int → Bool
 | [], _ => true
 | e :: l, x => entB e && decide (x ≤ e.term) && rowsB l e.term
theorem rowsB_drop (l : List EntV) (t : Nat) (x : Int) (h : t < l.length) : rowsB (l.drop t) x = (entB l[t] && decide (x ≤ (l[t]).term) && rowsB (l.drop (t + 1)) (l[t]).term) := by
 rw [List.drop_eq_getElem_cons h]
 rfl
theorem rowsB_all (l : List EntV) : ∀ x, rowsB l x = true → ∀ e ∈ l, entB e = true := by
 induction l with
 | nil => intro _ _ e he; cases he
 | cons a l ih =>
  intro x h e he;simp only [rowsB, Bool.and_eq_true] at h
  rcases List.mem_cons.1 he with rfl | he
  ·exact h.1.1
  ·exact ih _ h.2 e he
set_option maxHeartbeats 4000000 in
set_option maxRecDepth 100000 in
theorem areEntries_is (g : Value) (l : List EntV) (x : Int) (w : World) (h : EGot w g l) : Calls Tryz.prog 123 #[g, .int .i64 x] w fun e w' => e = .returned (.bool (rowsB l x)) ∧ Below w.heap.size w w' := by
 obtain ⟨a, c, rfl, h8, hr⟩ := h.open;have HH := hideIt hr;have NE := hideIt isEntry_is;clear hr h
 go_enter Tryz.func123, Tryz.ntmps123
 go_wp2
 go_loopw [1, 9] (fun u v wr => ∃ (t : Nat) (y : Int), u = .int .i64 y ∧ v = .int .i64 t ∧ t ≤ l.length ∧ Hid (rowsB l x = rowsB (l.drop t) y ∧ Below w.heap.size w wr)) (fun _ v _ => l.length - (intOf v).toNat)
 case atStart => exact ⟨0, x, rfl, rfl, Nat.zero_le _, hideIt ⟨rfl, Below.refl _ _⟩⟩
 case round =>
  obtain ⟨t, y, rfl, rfl, ht, HR⟩ := hrel
  by_cases hlt : t < l.length
  ·have hltI : (t : Int) < (l.length : Int) := by omega
   have ht0 : (0 : Int) ≤ (t : Int) := by omega
   obtain ⟨b, off, rfl, hbl, q0, q1, q2⟩ := HH.out t hlt;have hB := HR.out.2;have hBS := hB.size;have c0 := (hB.cell (p := ⟨b, off + t * 3, none⟩) hbl).trans q0;have c1 := (hB.cell (p := ⟨b, off + t * 3 + 1, none⟩) hbl).trans q1;have c2 := (hB.cell (p := ⟨b, off + t * 3 + 2, none⟩) hbl).trans q2;have hblr : b < wr.heap.size := by omega
   have HRD := hideIt (rowsB_drop l t y hlt);have hN := fun W => NE.out l[t] W
   generalize l[t] = en at *;obtain ⟨et, ek, ex⟩ := en;simp only at c0 c1 c2 HRD hN;have HN := hideIt hN;have HB := hideIt hB;clear q0 q1 q2 hN hB;have HA := hideIt (HB.out.alloc (by omega) (.cells #[.int .i64 et, .int .i64 ek, .string ex] 55));cases h1 : entB ⟨et, ek, ex⟩
   ·rw [h1] at HN HRD
    go_wp2_with fail
    refine (HN.out _).mono ?_;rintro e w1 ⟨rfl, hb⟩;dsimp only;have HB3 := hideIt (HA.out.trans (hb.mono (by first | omega | (simp; omega))))
    clear hb;go_wp2;go_ret
    exact ⟨by rw [HR.out.1, HRD.out]; rfl, HB3.out⟩
   ·rw [h1] at HN HRD
    by_cases h2 : y ≤ et
    ·have h2I : ¬ et < y := by omega
     go_wp2_with fail
     refine (HN.out _).mono ?_;rintro e w1 ⟨rfl, hb⟩;dsimp only;have HB3 := hideIt (HA.out.trans (hb.mono (by first | omega | (simp; omega))))
     have d0 : w1.cell? ⟨wr.heap.size, 0, none⟩ = some (.int .i64 et) := box_cell hb 0;clear hb;go_wp2
     go_roundw
     case rel => exact ⟨t + 1, et, rfl, by go_num, by omega, hideIt ⟨by rw [HR.out.1, HRD.out]; simp [h2], HB3.out⟩⟩
     case measure => simp [intOf]; omega
    ·have h2I : et < y := by omega
     have HNY := hideIt h2;clear h2
     go_wp2_with fail
     refine (HN.out _).mono ?_;rintro e w1 ⟨rfl, hb⟩;dsimp only;have HB3 := hideIt (HA.out.trans (hb.mono (by first | omega | (simp; omega))))
     have d0 : w1.cell? ⟨wr.heap.size, 0, none⟩ = some (.int .i64 et) := box_cell hb 0;clear hb;go_wp2;go_ret
     exact ⟨by rw [HR.out.1, HRD.out, decide_eq_false (by have := HNY.out; omega)]; rfl, HB3.out⟩
  ·have hltI : ¬ (t : Int) < (l.length : Int) := by omega
   go_wp2;go_ret;have := HR.out.1;rw [List.drop_of_length_le (by omega)] at this
   exact ⟨by rw [this]; rfl, HR.out.2⟩
set_option maxHeartbeats 4000000 in
set_option maxRecDepth 100000 in
theorem rRows_is (g : Value) (l : List EntV) (x : Int) (w : World) (h : EGot w g l) : Calls Tryz.prog 59 #[g, .int .i64 x] w fun e w' => e = .returned (.bool (rowsB l x)) ∧ Below w.heap.size w w' := by
 obtain ⟨a, c, rfl, h8, hr⟩ := h.open;have HH := hideIt hr;have NE := hideIt rEntry_is;clear hr h
 go_enter Tryz.func59, Tryz.ntmps59
 go_wp2
 go_loopw [1, 5] (fun u v wr => ∃ (t : Nat) (y : Int), u = .int .i64 y ∧ v = .int .i64 t ∧ t ≤ l.length ∧ Hid (rowsB l x = rowsB (l.drop t) y ∧ Below w.heap.size w wr)) (fun _ v _ => l.length - (intOf v).toNat)
 case atStart => exact ⟨0, x, rfl, rfl, Nat.zero_le _, hideIt ⟨rfl, Below.refl _ _⟩⟩
 case round =>
  obtain ⟨t, y, rfl, rfl, ht, HR⟩ := hrel
  by_cases hlt : t < l.length
  ·have hltI : (t : Int) < (l.length : Int) := by omega
   have ht0 : (0 : Int) ≤ (t : Int) := by omega
   obtain ⟨b, off, rfl, hbl, q0, q1, q2⟩ := HH.out t hlt;have hB := HR.out.2;have hBS := hB.size;have c0 := (hB.cell (p := ⟨b, off + t * 3, none⟩) hbl).trans q0;have c1 := (hB.cell (p := ⟨b, off + t * 3 + 1, none⟩) hbl).trans q1;have c2 := (hB.cell (p := ⟨b, off + t * 3 + 2, none⟩) hbl).trans q2;have hblr : b < wr.heap.size := by omega
   have HRD := hideIt (rowsB_drop l t y hlt);have hN := fun W => NE.out l[t] W
   generalize l[t] = en at *;obtain ⟨et, ek, ex⟩ := en;simp only at c0 c1 c2 HRD hN;have HN := hideIt hN;have HB := hideIt hB;clear q0 q1 q2 hN hB;have HA := HB;cases h1 : entB ⟨et, ek, ex⟩
   ·rw [h1] at HN HRD
    go_wp2_with fail
    refine (HN.out _).mono ?_;rintro e w1 ⟨rfl, hb⟩;dsimp only;have HB3 := hideIt (HA.out.trans (hb.mono (by first | omega | (simp; omega))))
    clear hb;go_wp2;go_ret
    exact ⟨by rw [HR.out.1, HRD.out]; rfl, HB3.out⟩
   ·rw [h1] at HN HRD
    by_cases h2 : y ≤ et
    ·have h2I : ¬ et < y := by omega
     go_wp2_with fail
     refine (HN.out _).mono ?_;rintro e w1 ⟨rfl, hb⟩;dsimp only;have HB3 := hideIt (HA.out.trans (hb.mono (by first | omega | (simp; omega))))
     have d0 := (hb.cell (p := ⟨b, off + t * 3, none⟩) hblr).trans c0;clear hb;go_wp2
     go_roundw
     case rel => exact ⟨t + 1, et, rfl, by go_num, by omega, hideIt ⟨by rw [HR.out.1, HRD.out]; simp [h2], HB3.out⟩⟩
     case measure => simp [intOf]; omega
    ·have h2I : et < y := by omega
     have HNY := hideIt h2;clear h2
     go_wp2_with fail
     refine (HN.out _).mono ?_;rintro e w1 ⟨rfl, hb⟩;dsimp only;have HB3 := hideIt (HA.out.trans (hb.mono (by first | omega | (simp; omega))))
     have d0 := (hb.cell (p := ⟨b, off + t * 3, none⟩) hblr).trans c0;clear hb;go_wp2;go_ret
     exact ⟨by rw [HR.out.1, HRD.out, decide_eq_false (by have := HNY.out; omega)]; rfl, HB3.out⟩
  ·have hltI : ¬ (t : Int) < (l.length : Int) := by omega
   go_wp2;go_ret;have := HR.out.1;rw [List.drop_of_length_le (by omega)] at this
   exact ⟨by rw [this]; rfl, HR.out.2⟩
structure LogV where
 bi : Int
 bt : Int
 l : List EntV
 cm : Int
def logA (L : LogV) (g : Value) : Array Value := #[.int .i64 L.bi, .int .i64 L.bt, g, .int .i64 L.cm]
def logV (L : LogV) (g : Value) : Value := .agg (logA L g)
def lasI (L : LogV) : Int := L.bi + (L.l.length : Int)
def mayB (L : LogV) : Bool := mkB L.bi L.bt && decide (L.l.length ≤ 400) && rowsB L.l L.bt && decide (lasI L ≤ 1000000) && wiB L.cm L.bi (lasI L)
theorem mkB_in {i t : Int} (h : mkB i t = true) : (0 ≤ i ∧ i ≤ 1000000) ∧ (0 ≤ t ∧ t ≤ 1000000) ∧ (i = 0 ↔ t = 0) := by
 simp only [mkB, wiB, Bool.and_eq_true, decide_eq_true_eq, beq_iff_eq] at h;obtain ⟨⟨h1, h2⟩, h3⟩ := h;refine ⟨h1, h2, ?_⟩;rw [Bool.eq_iff_iff] at h3
 simpa using h3
theorem mayB_in {L : LogV} (h : mayB L = true) : (0 ≤ L.bi ∧ L.bi ≤ 1000000) ∧ (0 ≤ L.bt ∧ L.bt ≤ 1000000) ∧ L.l.length ≤ 400 ∧ rowsB L.l L.bt = true ∧ lasI L ≤ 1000000 ∧ L.bi ≤ L.cm ∧ L.cm ≤ lasI L := by
 simp only [mayB, Bool.and_eq_true, decide_eq_true_eq] at h;obtain ⟨⟨⟨⟨h1, h2⟩, h3⟩, h4⟩, h5⟩ := h;have h6 := mkB_in h1;simp only [wiB, decide_eq_true_eq] at h5
 exact ⟨h6.1, h6.2.1, h2, h3, h4, h5.1, h5.2⟩
def Near (L : LogV) : Prop := -1000000 ≤ L.bi ∧ L.bi ≤ 2000000 ∧ L.l.length ≤ 1000
set_option maxHeartbeats 1000000 in
theorem lastIndex_is (L : LogV) (g : Value) (w : World) (h : EGot w g L.l) (hn : Near L) : Calls Tryz.prog 124 #[logV L g] w fun e w' => e = .returned (.int .i64 (lasI L)) ∧ w' = w.alloc (.cells (logA L g) 36) := by
 obtain ⟨a, c, rfl, _⟩ := h.open;obtain ⟨bi, bt, l, cm⟩ := L;obtain ⟨n1, n2, n3⟩ := hn;simp only at n1 n2 n3;unfold logV logA lasI
 simp only
 go_enter Tryz.func124, Tryz.ntmps124
 go_wp2;go_ret
 exact ⟨rfl, rfl⟩
set_option maxHeartbeats 1000000 in
theorem rEnd_is (L : LogV) (g : Value) (w : World) (h : EGot w g L.l) (hn : Near L) : Calls Tryz.prog 31 #[logV L g] w fun e w' => e = .returned (.int .i64 (lasI L)) ∧ w' = w.alloc (.cells (logA L g) 36) := by
 obtain ⟨a, c, rfl, _⟩ := h.open;obtain ⟨bi, bt, l, cm⟩ := L;obtain ⟨n1, n2, n3⟩ := hn;simp only at n1 n2 n3;unfold logV logA lasI
 simp only
 go_enter Tryz.func31, Tryz.ntmps31
 go_wp2;go_ret
 exact ⟨rfl, rfl⟩
structure Box (w : World) (k : Nat) (L : LogV) (g : Value) (wx : World) : Prop where
 box : wx.heap[k]? = some (.cells (logA L g) 36 (0, 0))
 bel : Below w.heap.size w wx
theorem Box.drew {w wx : World} {k : Nat} {L : LogV} {g : Value} (h : Box w k L g wx) : Box w k L g wx.drew := ⟨h.box, h.bel.drew⟩
theorem Box.keep {w wx wy : World} {k : Nat} {L : LogV} {g : Value} (h : Box w k L g wx) (hb : Below wx.heap.size wx wy) : Box w k L g wy :=
 ⟨(hb.block _ (Array.getElem?_eq_some_iff.1 h.box).1).trans h.box, below_via h.bel hb⟩
theorem Box.first (w : World) (L : LogV) (g : Value) : Box w w.heap.size L g (w.alloc (.cells (logA L g) 36)) := ⟨heap_alloc_new w _, below1 w _⟩
theorem Box.cells {w wx : World} {k : Nat} {L : LogV} {g : Value} (h : Box w k L g wx) : wx.cell? ⟨k, 0, none⟩ = some (.int .i64 L.bi) ∧ wx.cell? ⟨k, 1, none⟩ = some (.int .i64 L.bt) ∧ wx.cell? ⟨k, 2, none⟩ = some g ∧ wx.cell? ⟨k, 3, none⟩ = some (.int .i64 L.cm) :=
 ⟨by rw [cell_at h.box]; rfl, by rw [cell_at h.box]; rfl, by rw [cell_at h.box]; rfl, by rw [cell_at h.box]; rfl⟩
set_option maxHeartbeats 16000000 in
set_option maxRecDepth 100000 in
theorem mayBe_is (L : LogV) (g : Value) (w : World) (h : EGot w g L.l) : Calls Tryz.prog 81 #[logV L g] w fun e w' => e = .returned (.bool (mayB L)) ∧ Below w.heap.size w w' := by
 have HI := hideIt (Box.first w L g);have T1 : ∀ wx, Box w w.heap.size L g wx → Calls Tryz.prog 122 #[.agg #[.int .i64 L.bi, .int .i64 L.bt]] wx fun e w' => e = .returned (.bool (mkB L.bi L.bt)) ∧ Hid (Box w w.heap.size L g w') ∧ w'.cell? ⟨w.heap.size, 0, none⟩ = some (.int .i64 L.bi) ∧ w'.cell? ⟨w.heap.size, 1, none⟩ = some (.int .i64 L.bt) ∧ w'.cell? ⟨w.heap.size, 2, none⟩ = some g ∧ w'.cell? ⟨w.heap.size, 3, none⟩ = some (.int .i64 L.cm) := by
  intro wx hx;refine (isMark_is L.bi L.bt wx).mono ?_;rintro e w' ⟨rfl, hb⟩
  exact ⟨rfl, hideIt (hx.keep hb), (hx.keep hb).cells⟩
 have T2 : ∀ wx, Box w w.heap.size L g wx → Calls Tryz.prog 123 #[g, .int .i64 L.bt] wx fun e w' => e = .returned (.bool (rowsB L.l L.bt)) ∧ Hid (Box w w.heap.size L g w') ∧ w'.cell? ⟨w.heap.size, 0, none⟩ = some (.int .i64 L.bi) ∧ w'.cell? ⟨w.heap.size, 1, none⟩ = some (.int .i64 L.bt) ∧ w'.cell? ⟨w.heap.size, 2, none⟩ = some g ∧ w'.cell? ⟨w.heap.size, 3, none⟩ = some (.int .i64 L.cm) := by
  intro wx hx;refine (areEntries_is g L.l L.bt wx (h.keep hx.bel)).mono ?_;rintro e w' ⟨rfl, hb⟩
  exact ⟨rfl, hideIt (hx.keep hb), (hx.keep hb).cells⟩
 have T3 : Near L → ∀ wx, Box w w.heap.size L g wx → Calls Tryz.prog 124 #[logV L g] wx fun e w' => e = .returned (.int .i64 (lasI L)) ∧ Hid (Box w w.heap.size L g w') ∧ w'.cell? ⟨w.heap.size, 0, none⟩ = some (.int .i64 L.bi) ∧ w'.cell? ⟨w.heap.size, 1, none⟩ = some (.int .i64 L.bt) ∧ w'.cell? ⟨w.heap.size, 2, none⟩ = some g ∧ w'.cell? ⟨w.heap.size, 3, none⟩ = some (.int .i64 L.cm) := by
  intro hn wx hx;refine (lastIndex_is L g wx (h.keep hx.bel) hn).mono ?_;rintro e w' ⟨rfl, rfl⟩
  exact ⟨rfl, hideIt (hx.keep (below1 _ _)), (hx.keep (below1 _ _)).cells⟩
 have T4 : ∀ wx, Box w w.heap.size L g wx → Calls Tryz.prog 125 #[.int .i64 L.cm, .int .i64 L.bi, .int .i64 (lasI L)] wx fun e w' => e = .returned (.bool (wiB L.cm L.bi (lasI L))) ∧ Hid (Box w w.heap.size L g w') ∧ w'.cell? ⟨w.heap.size, 0, none⟩ = some (.int .i64 L.bi) ∧ w'.cell? ⟨w.heap.size, 1, none⟩ = some (.int .i64 L.bt) ∧ w'.cell? ⟨w.heap.size, 2, none⟩ = some g ∧ w'.cell? ⟨w.heap.size, 3, none⟩ = some (.int .i64 L.cm) := by
  intro wx hx;refine (within_is L.cm L.bi (lasI L) wx).mono ?_;rintro e w' ⟨rfl, rfl⟩
  exact ⟨rfl, hideIt hx, hx.cells⟩
 have H1 := hideIt T1;have H2 := hideIt T2;have H4 := hideIt T4;have TN := hideIt T3;clear T1 T2 T3 T4;obtain ⟨a, c, rfl, h8, _⟩ := h.open;have MK : mkB L.bi L.bt = true → (0 ≤ L.bi ∧ L.bi ≤ 1000000) := fun e => (mkB_in e).1
 unfold mayB;unfold logV logA at *;generalize lasI L = li at *;obtain ⟨bi, bt, l, cm⟩ := L;simp only at H1 H2 H4 TN MK HI h8 ⊢;clear h;generalize mkB bi bt = b1 at *;generalize rowsB l bt = b2 at *;generalize wiB cm bi li = b4 at *;cases b1
 ·clear TN MK H2 H4;have H2 := H1;have H3 := H1;have H4 := H1
  go_enter Tryz.func81, Tryz.ntmps81
  go_upto_region 1 with fail
  refine wp_region_held_drew (S := fun w' => w'.cell? ⟨w.heap.size, 0, none⟩ = some (.int .i64 bi) ∧ w'.cell? ⟨w.heap.size, 1, none⟩ = some (.int .i64 bt) ∧ w'.cell? ⟨w.heap.size, 2, none⟩ = some (.slice a l.length c) ∧ w'.cell? ⟨w.heap.size, 3, none⟩ = some (.int .i64 cm)) (by kernel_rfl) HI.out.drew.cells (fun hHeld => ?_);refine wpAnyH_take (i := 0) (oi := ⟨some 3, _, _, _, _, _⟩) (v := ?_) rfl (by kernel_rfl) (by kernel_rfl) (by kernel_rfl) (fun _ _ _ h => h) (Or.inl ⟨by rfl, ?_⟩) (by assumption) ?_
  rotate_left
  ·intro w5 hSw
   (try dsimp only at hSw)
   go_simp
   (try with_reducible rfl)
  try simp only [aP, aQ, aA, aB, aC]
  refine wpAnyH_take (i := 1) (oi := ⟨some 4, _, _, _, _, _⟩) (v := ?_) rfl (by kernel_rfl) (by kernel_rfl) (by kernel_rfl) (fun _ _ _ h => h) (Or.inl ⟨by rfl, ?_⟩) (by assumption) ?_
  rotate_left
  ·intro w5 hSw
   (try dsimp only at hSw)
   go_simp
   (try with_reducible rfl)
  try simp only [aP, aQ, aA, aB, aC]
  refine wpAnyH_ready (rs := [2]) (by kernel_rfl) (by simp) ?_;refine AllReadyH.cons (o := ⟨some 5, _, _, _, _, _⟩) rfl (fun K hK => ?_) AllReadyH.nil;go_simp
  go_at_call 122
  refine (H1.out _ (by first | exact HI.out | exact HI.out.drew)).mono ?_;clear HI;rintro e w1 ⟨rfl, HI, j0, j1, j2, j3⟩;refine hK.out _ _ ⟨j0, j1, j2, j3⟩ (fun hHeld => ?_);clear hK K
  try simp only [aP, aQ, aA, aB, aC]
  refine wpAnyH_take (i := 3) (oi := ⟨some 6, _, _, _, _, _⟩) (v := ?_) rfl (by kernel_rfl) (by kernel_rfl) (by kernel_rfl) (fun _ _ _ h => h) (Or.inl ⟨by rfl, ?_⟩) (by assumption) ?_
  rotate_left
  ·intro w5 hSw
   (try dsimp only at hSw)
   go_simp
   (try with_reducible rfl)
  try simp only [aP, aQ, aA, aB, aC]
  refine wpAnyH_take (i := 4) (oi := ⟨some 7, _, _, _, _, _⟩) (v := undef) rfl (by kernel_rfl) (by kernel_rfl) (by kernel_rfl) (fun _ _ _ h => h) (Or.inr ⟨by rfl, rfl⟩) (by assumption) ?_
  try simp only [aP, aQ, aA, aB, aC]
  refine wpAnyH_take (i := 5) (oi := ⟨some 8, _, _, _, _, _⟩) (v := undef) rfl (by kernel_rfl) (by kernel_rfl) (by kernel_rfl) (fun _ _ _ h => h) (Or.inr ⟨by rfl, rfl⟩) (by assumption) ?_
  try simp only [aP, aQ, aA, aB, aC]
  refine wpAnyH_take (i := 6) (oi := ⟨some 9, _, _, _, _, _⟩) (v := undef) rfl (by kernel_rfl) (by kernel_rfl) (by kernel_rfl) (fun _ _ _ h => h) (Or.inr ⟨by rfl, rfl⟩) (by assumption) ?_
  try simp only [aP, aQ, aA, aB, aC]
  refine wpAnyH_take (i := 7) (oi := ⟨some 10, _, _, _, _, _⟩) (v := undef) rfl (by kernel_rfl) (by kernel_rfl) (by kernel_rfl) (fun _ _ _ h => h) (Or.inr ⟨by rfl, rfl⟩) (by assumption) ?_
  try simp only [aP, aQ, aA, aB, aC]
  refine wpAnyH_take (i := 8) (oi := ⟨some 11, _, _, _, _, _⟩) (v := ?_) rfl (by kernel_rfl) (by kernel_rfl) (by kernel_rfl) (fun _ _ _ h => h) (Or.inl ⟨by rfl, ?_⟩) (by assumption) ?_
  rotate_left
  ·intro w5 hSw
   (try dsimp only at hSw)
   go_simp
   (try with_reducible rfl)
  try simp only [aP, aQ, aA, aB, aC]
  refine wpAnyH_take (i := 9) (oi := ⟨some 12, _, _, _, _, _⟩) (v := ?_) rfl (by kernel_rfl) (by kernel_rfl) (by kernel_rfl) (fun _ _ _ h => h) (Or.inl ⟨by rfl, ?_⟩) (by assumption) ?_
  rotate_left
  ·intro w5 hSw
   (try dsimp only at hSw)
   go_simp
   (try with_reducible rfl)
  try simp only [aP, aQ, aA, aB, aC]
  refine wpAnyH_take (i := 10) (oi := ⟨some 13, _, _, _, _, _⟩) (v := undef) rfl (by kernel_rfl) (by kernel_rfl) (by kernel_rfl) (fun _ _ _ h => h) (Or.inr ⟨by rfl, rfl⟩) (by assumption) ?_
  try simp only [aP, aQ, aA, aB, aC]
  refine wpAnyH_take (i := 11) (oi := ⟨some 14, _, _, _, _, _⟩) (v := undef) rfl (by kernel_rfl) (by kernel_rfl) (by kernel_rfl) (fun _ _ _ h => h) (Or.inr ⟨by rfl, rfl⟩) (by assumption) ?_
  try simp only [aP, aQ, aA, aB, aC]
  refine wpAnyH_take (i := 12) (oi := ⟨some 15, _, _, _, _, _⟩) (v := undef) rfl (by kernel_rfl) (by kernel_rfl) (by kernel_rfl) (fun _ _ _ h => h) (Or.inr ⟨by rfl, rfl⟩) (by assumption) ?_
  try simp only [aP, aQ, aA, aB, aC]
  refine wpAnyH_take (i := 13) (oi := ⟨some 16, _, _, _, _, _⟩) (v := undef) rfl (by kernel_rfl) (by kernel_rfl) (by kernel_rfl) (fun _ _ _ h => h) (Or.inr ⟨by rfl, rfl⟩) (by assumption) ?_
  try simp only [aP, aQ, aA, aB, aC]
  refine wpAnyH_take (i := 14) (oi := ⟨some 17, _, _, _, _, _⟩) (v := undef) rfl (by kernel_rfl) (by kernel_rfl) (by kernel_rfl) (fun _ _ _ h => h) (Or.inr ⟨by rfl, rfl⟩) (by assumption) ?_
  try simp only [aP, aQ, aA, aB, aC]
  refine wpAnyH_take (i := 15) (oi := ⟨some 18, _, _, _, _, _⟩) (v := undef) rfl (by kernel_rfl) (by kernel_rfl) (by kernel_rfl) (fun _ _ _ h => h) (Or.inr ⟨by rfl, rfl⟩) (by assumption) ?_
  try simp only [aP, aQ, aA, aB, aC]
  refine wpAnyH_take (i := 16) (oi := ⟨some 19, _, _, _, _, _⟩) (v := ?_) rfl (by kernel_rfl) (by kernel_rfl) (by kernel_rfl) (fun _ _ _ h => h) (Or.inl ⟨by rfl, ?_⟩) (by assumption) ?_
  rotate_left
  ·intro w5 hSw
   (try dsimp only at hSw)
   go_simp
   (try with_reducible rfl)
  try simp only [aP, aQ, aA, aB, aC]
  refine wpAnyH_take (i := 17) (oi := ⟨some 20, _, _, _, _, _⟩) (v := ?_) rfl (by kernel_rfl) (by kernel_rfl) (by kernel_rfl) (fun _ _ _ h => h) (Or.inl ⟨by rfl, ?_⟩) (by assumption) ?_
  rotate_left
  ·intro w5 hSw
   (try dsimp only at hSw)
   go_simp
   (try with_reducible rfl)
  try simp only [aP, aQ, aA, aB, aC]
  refine wpAnyH_take (i := 18) (oi := ⟨some 21, _, _, _, _, _⟩) (v := undef) rfl (by kernel_rfl) (by kernel_rfl) (by kernel_rfl) (fun _ _ _ h => h) (Or.inr ⟨by rfl, rfl⟩) (by assumption) ?_
  try simp only [aP, aQ, aA, aB, aC]
  refine wpAnyH_take (i := 19) (oi := ⟨some 22, _, _, _, _, _⟩) (v := undef) rfl (by kernel_rfl) (by kernel_rfl) (by kernel_rfl) (fun _ _ _ h => h) (Or.inr ⟨by rfl, rfl⟩) (by assumption) ?_
  try simp only [aP, aQ, aA, aB, aC]
  refine wpAnyH_take (i := 20) (oi := ⟨some 23, _, _, _, _, _⟩) (v := undef) rfl (by kernel_rfl) (by kernel_rfl) (by kernel_rfl) (fun _ _ _ h => h) (Or.inr ⟨by rfl, rfl⟩) (by assumption) ?_
  try simp only [aP, aQ, aA, aB, aC]
  refine wpAnyH_take (i := 21) (oi := ⟨some 24, _, _, _, _, _⟩) (v := ?_) rfl (by kernel_rfl) (by kernel_rfl) (by kernel_rfl) (fun _ _ _ h => h) (Or.inl ⟨by rfl, ?_⟩) (by assumption) ?_
  rotate_left
  ·intro w5 hSw
   (try dsimp only at hSw)
   go_simp
   (try with_reducible rfl)
  try simp only [aP, aQ, aA, aB, aC]
  refine wpAnyH_take (i := 22) (oi := ⟨some 25, _, _, _, _, _⟩) (v := ?_) rfl (by kernel_rfl) (by kernel_rfl) (by kernel_rfl) (fun _ _ _ h => h) (Or.inl ⟨by rfl, ?_⟩) (by assumption) ?_
  rotate_left
  ·intro w5 hSw
   (try dsimp only at hSw)
   go_simp
   (try with_reducible rfl)
  try simp only [aP, aQ, aA, aB, aC]
  refine wpAnyH_take (i := 23) (oi := ⟨some 26, _, _, _, _, _⟩) (v := undef) rfl (by kernel_rfl) (by kernel_rfl) (by kernel_rfl) (fun _ _ _ h => h) (Or.inr ⟨by rfl, rfl⟩) (by assumption) ?_
  try simp only [aP, aQ, aA, aB, aC]
  refine wpAnyH_take (i := 24) (oi := ⟨some 27, _, _, _, _, _⟩) (v := undef) rfl (by kernel_rfl) (by kernel_rfl) (by kernel_rfl) (fun _ _ _ h => h) (Or.inr ⟨by rfl, rfl⟩) (by assumption) ?_
  try simp only [aP, aQ, aA, aB, aC]
  refine wpAnyH_take (i := 25) (oi := ⟨some 28, _, _, _, _, _⟩) (v := undef) rfl (by kernel_rfl) (by kernel_rfl) (by kernel_rfl) (fun _ _ _ h => h) (Or.inr ⟨by rfl, rfl⟩) (by assumption) ?_
  try simp only [aP, aQ, aA, aB, aC]
  refine wpAnyH_take (i := 26) (oi := ⟨some 29, _, _, _, _, _⟩) (v := undef) rfl (by kernel_rfl) (by kernel_rfl) (by kernel_rfl) (fun _ _ _ h => h) (Or.inr ⟨by rfl, rfl⟩) (by assumption) ?_
  try simp only [aP, aQ, aA, aB, aC]
  refine wpAnyH_take (i := 27) (oi := ⟨some 30, _, _, _, _, _⟩) (v := undef) rfl (by kernel_rfl) (by kernel_rfl) (by kernel_rfl) (fun _ _ _ h => h) (Or.inr ⟨by rfl, rfl⟩) (by assumption) ?_
  try simp only [aP, aQ, aA, aB, aC]
  refine wpAnyH_take (i := 28) (oi := ⟨some 31, _, _, _, _, _⟩) (v := undef) rfl (by kernel_rfl) (by kernel_rfl) (by kernel_rfl) (fun _ _ _ h => h) (Or.inr ⟨by rfl, rfl⟩) (by assumption) ?_
  try simp only [aP, aQ, aA, aB, aC]
  refine wpAnyH_take (i := 29) (oi := ⟨some 32, _, _, _, _, _⟩) (v := undef) rfl (by kernel_rfl) (by kernel_rfl) (by kernel_rfl) (fun _ _ _ h => h) (Or.inr ⟨by rfl, rfl⟩) (by assumption) ?_
  try simp only [aP, aQ, aA, aB, aC]
  refine wpAnyH_take (i := 30) (oi := ⟨some 33, _, _, _, _, _⟩) (v := undef) rfl (by kernel_rfl) (by kernel_rfl) (by kernel_rfl) (fun _ _ _ h => h) (Or.inr ⟨by rfl, rfl⟩) (by assumption) ?_
  try simp only [aP, aQ, aA, aB, aC]
  refine wpAnyH_take (i := 31) (oi := ⟨some 34, _, _, _, _, _⟩) (v := ?_) rfl (by kernel_rfl) (by kernel_rfl) (by kernel_rfl) (fun _ _ _ h => h) (Or.inl ⟨by rfl, ?_⟩) (by assumption) ?_
  rotate_left
  ·intro w5 hSw
   (try dsimp only at hSw)
   go_simp
   (try with_reducible rfl)
  try simp only [aP, aQ, aA, aB, aC]
  refine wpAnyH_take (i := 32) (oi := ⟨some 2, _, _, _, _, _⟩) (v := ?_) rfl (by kernel_rfl) (by kernel_rfl) (by kernel_rfl) (fun _ _ _ h => h) (Or.inl ⟨by rfl, ?_⟩) (by assumption) ?_
  rotate_left
  ·intro w5 hSw
   (try dsimp only at hSw)
   go_simp
   (try with_reducible rfl)
  try simp only [aP, aQ, aA, aB, aC]
  refine wpAnyH_done (by kernel_rfl) ?_ _;go_wp2;go_ret
  exact ⟨by (first | rfl | simp), HI.out.bel⟩
 ·have hbi := MK rfl;clear MK
  by_cases hl : l.length ≤ 400
  ·have hlb : decide ((l.length : Int) ≤ 400) = true := decide_eq_true (by omega);have hlI : (l.length : Int) ≤ 400 := by omega
   have H3 := hideIt (TN.out ⟨by simp only; omega, by simp only; omega, by simp only; omega⟩)
   clear TN;rw [decide_eq_true hl];cases b2
   ·go_enter Tryz.func81, Tryz.ntmps81
    go_upto_region 1 with fail
    refine wp_region_held_drew (S := fun w' => w'.cell? ⟨w.heap.size, 0, none⟩ = some (.int .i64 bi) ∧ w'.cell? ⟨w.heap.size, 1, none⟩ = some (.int .i64 bt) ∧ w'.cell? ⟨w.heap.size, 2, none⟩ = some (.slice a l.length c) ∧ w'.cell? ⟨w.heap.size, 3, none⟩ = some (.int .i64 cm)) (by kernel_rfl) HI.out.drew.cells (fun hHeld => ?_);refine wpAnyH_take (i := 0) (oi := ⟨some 3, _, _, _, _, _⟩) (v := ?_) rfl (by kernel_rfl) (by kernel_rfl) (by kernel_rfl) (fun _ _ _ h => h) (Or.inl ⟨by rfl, ?_⟩) (by assumption) ?_
    rotate_left
    ·intro w5 hSw
     (try dsimp only at hSw)
     go_simp
     (try with_reducible rfl)
    try simp only [aP, aQ, aA, aB, aC]
    refine wpAnyH_take (i := 1) (oi := ⟨some 4, _, _, _, _, _⟩) (v := ?_) rfl (by kernel_rfl) (by kernel_rfl) (by kernel_rfl) (fun _ _ _ h => h) (Or.inl ⟨by rfl, ?_⟩) (by assumption) ?_
    rotate_left
    ·intro w5 hSw
     (try dsimp only at hSw)
     go_simp
     (try with_reducible rfl)
    try simp only [aP, aQ, aA, aB, aC]
    refine wpAnyH_ready (rs := [2]) (by kernel_rfl) (by simp) ?_;refine AllReadyH.cons (o := ⟨some 5, _, _, _, _, _⟩) rfl (fun K hK => ?_) AllReadyH.nil;go_simp
    go_at_call 122
    refine (H1.out _ (by first | exact HI.out | exact HI.out.drew)).mono ?_;clear HI;rintro e w1 ⟨rfl, HI, j0, j1, j2, j3⟩;refine hK.out _ _ ⟨j0, j1, j2, j3⟩ (fun hHeld => ?_);clear hK K
    try simp only [aP, aQ, aA, aB, aC]
    refine wpAnyH_take (i := 3) (oi := ⟨some 6, _, _, _, _, _⟩) (v := ?_) rfl (by kernel_rfl) (by kernel_rfl) (by kernel_rfl) (fun _ _ _ h => h) (Or.inl ⟨by rfl, ?_⟩) (by assumption) ?_
    rotate_left
    ·intro w5 hSw
     (try dsimp only at hSw)
     go_simp
     (try with_reducible rfl)
    try simp only [aP, aQ, aA, aB, aC]
    refine wpAnyH_take (i := 4) (oi := ⟨some 7, _, _, _, _, _⟩) (v := ?_) rfl (by kernel_rfl) (by kernel_rfl) (by kernel_rfl) (fun _ _ _ h => h) (Or.inl ⟨by rfl, ?_⟩) (by assumption) ?_
    rotate_left
    ·intro w5 hSw
     (try dsimp only at hSw)
     go_simp
     (try with_reducible rfl)
    try simp only [aP, aQ, aA, aB, aC]
    refine wpAnyH_take (i := 5) (oi := ⟨some 8, _, _, _, _, _⟩) (v := ?_) rfl (by kernel_rfl) (by kernel_rfl) (by kernel_rfl) (fun _ _ _ h => h) (Or.inl ⟨by rfl, ?_⟩) (by assumption) ?_
    rotate_left
    ·intro w5 hSw
     (try dsimp only at hSw)
     go_simp
     (try with_reducible rfl)
    try simp only [aP, aQ, aA, aB, aC]
    refine wpAnyH_take (i := 6) (oi := ⟨some 9, _, _, _, _, _⟩) (v := ?_) rfl (by kernel_rfl) (by kernel_rfl) (by kernel_rfl) (fun _ _ _ h => h) (Or.inl ⟨by rfl, ?_⟩) (by assumption) ?_
    rotate_left
    ·intro w5 hSw
     (try dsimp only at hSw)
     go_simp
     (try with_reducible rfl)
    try simp only [aP, aQ, aA, aB, aC]
    refine wpAnyH_take (i := 7) (oi := ⟨some 10, _, _, _, _, _⟩) (v := ?_) rfl (by kernel_rfl) (by kernel_rfl) (by kernel_rfl) (fun _ _ _ h => h) (Or.inl ⟨by rfl, ?_⟩) (by assumption) ?_
    rotate_left
    ·intro w5 hSw
     (try dsimp only at hSw)
     go_simp
     (try with_reducible rfl)
    try simp only [aP, aQ, aA, aB, aC]
    refine wpAnyH_take (i := 8) (oi := ⟨some 11, _, _, _, _, _⟩) (v := ?_) rfl (by kernel_rfl) (by kernel_rfl) (by kernel_rfl) (fun _ _ _ h => h) (Or.inl ⟨by rfl, ?_⟩) (by assumption) ?_
    rotate_left
    ·intro w5 hSw
     (try dsimp only at hSw)
     go_simp
     (try with_reducible rfl)
    try simp only [aP, aQ, aA, aB, aC]
    refine wpAnyH_take (i := 9) (oi := ⟨some 12, _, _, _, _, _⟩) (v := ?_) rfl (by kernel_rfl) (by kernel_rfl) (by kernel_rfl) (fun _ _ _ h => h) (Or.inl ⟨by rfl, ?_⟩) (by assumption) ?_
    rotate_left
    ·intro w5 hSw
     (try dsimp only at hSw)
     go_simp
     (try with_reducible rfl)
    try simp only [aP, aQ, aA, aB, aC]
    refine wpAnyH_take (i := 10) (oi := ⟨some 13, _, _, _, _, _⟩) (v := ?_) rfl (by kernel_rfl) (by kernel_rfl) (by kernel_rfl) (fun _ _ _ h => h) (Or.inl ⟨by rfl, ?_⟩) (by assumption) ?_
    rotate_left
    ·intro w5 hSw
     (try dsimp only at hSw)
     go_simp
     (try with_reducible rfl)
    try simp only [aP, aQ, aA, aB, aC]
    refine wpAnyH_take (i := 11) (oi := ⟨some 14, _, _, _, _, _⟩) (v := ?_) rfl (by kernel_rfl) (by kernel_rfl) (by kernel_rfl) (fun _ _ _ h => h) (Or.inl ⟨by rfl, ?_⟩) (by assumption) ?_
    rotate_left
    ·intro w5 hSw
     (try dsimp only at hSw)
     go_simp
     (try with_reducible rfl)
    try simp only [aP, aQ, aA, aB, aC]
    refine wpAnyH_take (i := 12) (oi := ⟨some 15, _, _, _, _, _⟩) (v := ?_) rfl (by kernel_rfl) (by kernel_rfl) (by kernel_rfl) (fun _ _ _ h => h) (Or.inl ⟨by rfl, ?_⟩) (by assumption) ?_
    rotate_left
    ·intro w5 hSw
     (try dsimp only at hSw)
     go_simp
     (try with_reducible rfl)
    try simp only [aP, aQ, aA, aB, aC]
    refine wpAnyH_take (i := 13) (oi := ⟨some 16, _, _, _, _, _⟩) (v := ?_) rfl (by kernel_rfl) (by kernel_rfl) (by kernel_rfl) (fun _ _ _ h => h) (Or.inl ⟨by rfl, ?_⟩) (by assumption) ?_
    rotate_left
    ·intro w5 hSw
     (try dsimp only at hSw)
     go_simp
     (try with_reducible rfl)
    try simp only [aP, aQ, aA, aB, aC]
    refine wpAnyH_take (i := 14) (oi := ⟨some 17, _, _, _, _, _⟩) (v := ?_) rfl (by kernel_rfl) (by kernel_rfl) (by kernel_rfl) (fun _ _ _ h => h) (Or.inl ⟨by rfl, ?_⟩) (by assumption) ?_
    rotate_left
    ·intro w5 hSw
     (try dsimp only at hSw)
     go_simp
     (try with_reducible rfl)
    try simp only [aP, aQ, aA, aB, aC]
    refine wpAnyH_ready (rs := [15]) (by kernel_rfl) (by simp) ?_;refine AllReadyH.cons (o := ⟨some 18, _, _, _, _, _⟩) rfl (fun K hK => ?_) AllReadyH.nil;go_simp
    go_at_call 123
    refine (H2.out _ (by first | exact HI.out | exact HI.out.drew)).mono ?_;clear HI;rintro e w1 ⟨rfl, HI, j0, j1, j2, j3⟩;refine hK.out _ _ ⟨j0, j1, j2, j3⟩ (fun hHeld => ?_);clear hK K
    try simp only [aP, aQ, aA, aB, aC]
    refine wpAnyH_take (i := 16) (oi := ⟨some 19, _, _, _, _, _⟩) (v := ?_) rfl (by kernel_rfl) (by kernel_rfl) (by kernel_rfl) (fun _ _ _ h => h) (Or.inl ⟨by rfl, ?_⟩) (by assumption) ?_
    rotate_left
    ·intro w5 hSw
     (try dsimp only at hSw)
     go_simp
     (try with_reducible rfl)
    try simp only [aP, aQ, aA, aB, aC]
    refine wpAnyH_take (i := 17) (oi := ⟨some 20, _, _, _, _, _⟩) (v := ?_) rfl (by kernel_rfl) (by kernel_rfl) (by kernel_rfl) (fun _ _ _ h => h) (Or.inl ⟨by rfl, ?_⟩) (by assumption) ?_
    rotate_left
    ·intro w5 hSw
     (try dsimp only at hSw)
     go_simp
     (try with_reducible rfl)
    try simp only [aP, aQ, aA, aB, aC]
    refine wpAnyH_take (i := 18) (oi := ⟨some 21, _, _, _, _, _⟩) (v := undef) rfl (by kernel_rfl) (by kernel_rfl) (by kernel_rfl) (fun _ _ _ h => h) (Or.inr ⟨by rfl, rfl⟩) (by assumption) ?_
    try simp only [aP, aQ, aA, aB, aC]
    refine wpAnyH_take (i := 19) (oi := ⟨some 22, _, _, _, _, _⟩) (v := undef) rfl (by kernel_rfl) (by kernel_rfl) (by kernel_rfl) (fun _ _ _ h => h) (Or.inr ⟨by rfl, rfl⟩) (by assumption) ?_
    try simp only [aP, aQ, aA, aB, aC]
    refine wpAnyH_take (i := 20) (oi := ⟨some 23, _, _, _, _, _⟩) (v := undef) rfl (by kernel_rfl) (by kernel_rfl) (by kernel_rfl) (fun _ _ _ h => h) (Or.inr ⟨by rfl, rfl⟩) (by assumption) ?_
    try simp only [aP, aQ, aA, aB, aC]
    refine wpAnyH_take (i := 21) (oi := ⟨some 24, _, _, _, _, _⟩) (v := ?_) rfl (by kernel_rfl) (by kernel_rfl) (by kernel_rfl) (fun _ _ _ h => h) (Or.inl ⟨by rfl, ?_⟩) (by assumption) ?_
    rotate_left
    ·intro w5 hSw
     (try dsimp only at hSw)
     go_simp
     (try with_reducible rfl)
    try simp only [aP, aQ, aA, aB, aC]
    refine wpAnyH_take (i := 22) (oi := ⟨some 25, _, _, _, _, _⟩) (v := ?_) rfl (by kernel_rfl) (by kernel_rfl) (by kernel_rfl) (fun _ _ _ h => h) (Or.inl ⟨by rfl, ?_⟩) (by assumption) ?_
    rotate_left
    ·intro w5 hSw
     (try dsimp only at hSw)
     go_simp
     (try with_reducible rfl)
    try simp only [aP, aQ, aA, aB, aC]
    refine wpAnyH_take (i := 23) (oi := ⟨some 26, _, _, _, _, _⟩) (v := undef) rfl (by kernel_rfl) (by kernel_rfl) (by kernel_rfl) (fun _ _ _ h => h) (Or.inr ⟨by rfl, rfl⟩) (by assumption) ?_
    try simp only [aP, aQ, aA, aB, aC]
    refine wpAnyH_take (i := 24) (oi := ⟨some 27, _, _, _, _, _⟩) (v := undef) rfl (by kernel_rfl) (by kernel_rfl) (by kernel_rfl) (fun _ _ _ h => h) (Or.inr ⟨by rfl, rfl⟩) (by assumption) ?_
    try simp only [aP, aQ, aA, aB, aC]
    refine wpAnyH_take (i := 25) (oi := ⟨some 28, _, _, _, _, _⟩) (v := undef) rfl (by kernel_rfl) (by kernel_rfl) (by kernel_rfl) (fun _ _ _ h => h) (Or.inr ⟨by rfl, rfl⟩) (by assumption) ?_
    try simp only [aP, aQ, aA, aB, aC]
    refine wpAnyH_take (i := 26) (oi := ⟨some 29, _, _, _, _, _⟩) (v := undef) rfl (by kernel_rfl) (by kernel_rfl) (by kernel_rfl) (fun _ _ _ h => h) (Or.inr ⟨by rfl, rfl⟩) (by assumption) ?_
    try simp only [aP, aQ, aA, aB, aC]
    refine wpAnyH_take (i := 27) (oi := ⟨some 30, _, _, _, _, _⟩) (v := undef) rfl (by kernel_rfl) (by kernel_rfl) (by kernel_rfl) (fun _ _ _ h => h) (Or.inr ⟨by rfl, rfl⟩) (by assumption) ?_
    try simp only [aP, aQ, aA, aB, aC]
    refine wpAnyH_take (i := 28) (oi := ⟨some 31, _, _, _, _, _⟩) (v := undef) rfl (by kernel_rfl) (by kernel_rfl) (by kernel_rfl) (fun _ _ _ h => h) (Or.inr ⟨by rfl, rfl⟩) (by assumption) ?_
    try simp only [aP, aQ, aA, aB, aC]
    refine wpAnyH_take (i := 29) (oi := ⟨some 32, _, _, _, _, _⟩) (v := undef) rfl (by kernel_rfl) (by kernel_rfl) (by kernel_rfl) (fun _ _ _ h => h) (Or.inr ⟨by rfl, rfl⟩) (by assumption) ?_
    try simp only [aP, aQ, aA, aB, aC]
    refine wpAnyH_take (i := 30) (oi := ⟨some 33, _, _, _, _, _⟩) (v := undef) rfl (by kernel_rfl) (by kernel_rfl) (by kernel_rfl) (fun _ _ _ h => h) (Or.inr ⟨by rfl, rfl⟩) (by assumption) ?_
    try simp only [aP, aQ, aA, aB, aC]
    refine wpAnyH_take (i := 31) (oi := ⟨some 34, _, _, _, _, _⟩) (v := ?_) rfl (by kernel_rfl) (by kernel_rfl) (by kernel_rfl) (fun _ _ _ h => h) (Or.inl ⟨by rfl, ?_⟩) (by assumption) ?_
    rotate_left
    ·intro w5 hSw
     (try dsimp only at hSw)
     go_simp
     (try with_reducible rfl)
    try simp only [aP, aQ, aA, aB, aC]
    refine wpAnyH_take (i := 32) (oi := ⟨some 2, _, _, _, _, _⟩) (v := ?_) rfl (by kernel_rfl) (by kernel_rfl) (by kernel_rfl) (fun _ _ _ h => h) (Or.inl ⟨by rfl, ?_⟩) (by assumption) ?_
    rotate_left
    ·intro w5 hSw
     (try dsimp only at hSw)
     go_simp
     (try with_reducible rfl)
    try simp only [aP, aQ, aA, aB, aC]
    refine wpAnyH_done (by kernel_rfl) ?_ _;go_wp2;go_ret
    exact ⟨by (first | rfl | simp), HI.out.bel⟩
   ·by_cases hm : li ≤ 1000000
    ·have hmb : decide (li ≤ 1000000) = true := decide_eq_true hm;rw [hmb]
     go_enter Tryz.func81, Tryz.ntmps81
     go_upto_region 1 with fail
     refine wp_region_held_drew (S := fun w' => w'.cell? ⟨w.heap.size, 0, none⟩ = some (.int .i64 bi) ∧ w'.cell? ⟨w.heap.size, 1, none⟩ = some (.int .i64 bt) ∧ w'.cell? ⟨w.heap.size, 2, none⟩ = some (.slice a l.length c) ∧ w'.cell? ⟨w.heap.size, 3, none⟩ = some (.int .i64 cm)) (by kernel_rfl) HI.out.drew.cells (fun hHeld => ?_);refine wpAnyH_take (i := 0) (oi := ⟨some 3, _, _, _, _, _⟩) (v := ?_) rfl (by kernel_rfl) (by kernel_rfl) (by kernel_rfl) (fun _ _ _ h => h) (Or.inl ⟨by rfl, ?_⟩) (by assumption) ?_
     rotate_left
     ·intro w5 hSw
      (try dsimp only at hSw)
      go_simp
      (try with_reducible rfl)
     try simp only [aP, aQ, aA, aB, aC]
     refine wpAnyH_take (i := 1) (oi := ⟨some 4, _, _, _, _, _⟩) (v := ?_) rfl (by kernel_rfl) (by kernel_rfl) (by kernel_rfl) (fun _ _ _ h => h) (Or.inl ⟨by rfl, ?_⟩) (by assumption) ?_
     rotate_left
     ·intro w5 hSw
      (try dsimp only at hSw)
      go_simp
      (try with_reducible rfl)
     try simp only [aP, aQ, aA, aB, aC]
     refine wpAnyH_ready (rs := [2]) (by kernel_rfl) (by simp) ?_;refine AllReadyH.cons (o := ⟨some 5, _, _, _, _, _⟩) rfl (fun K hK => ?_) AllReadyH.nil;go_simp
     go_at_call 122
     refine (H1.out _ (by first | exact HI.out | exact HI.out.drew)).mono ?_;clear HI;rintro e w1 ⟨rfl, HI, j0, j1, j2, j3⟩;refine hK.out _ _ ⟨j0, j1, j2, j3⟩ (fun hHeld => ?_);clear hK K
     try simp only [aP, aQ, aA, aB, aC]
     refine wpAnyH_take (i := 3) (oi := ⟨some 6, _, _, _, _, _⟩) (v := ?_) rfl (by kernel_rfl) (by kernel_rfl) (by kernel_rfl) (fun _ _ _ h => h) (Or.inl ⟨by rfl, ?_⟩) (by assumption) ?_
     rotate_left
     ·intro w5 hSw
      (try dsimp only at hSw)
      go_simp
      (try with_reducible rfl)
     try simp only [aP, aQ, aA, aB, aC]
     refine wpAnyH_take (i := 4) (oi := ⟨some 7, _, _, _, _, _⟩) (v := ?_) rfl (by kernel_rfl) (by kernel_rfl) (by kernel_rfl) (fun _ _ _ h => h) (Or.inl ⟨by rfl, ?_⟩) (by assumption) ?_
     rotate_left
     ·intro w5 hSw
      (try dsimp only at hSw)
      go_simp
      (try with_reducible rfl)
     try simp only [aP, aQ, aA, aB, aC]
     refine wpAnyH_take (i := 5) (oi := ⟨some 8, _, _, _, _, _⟩) (v := ?_) rfl (by kernel_rfl) (by kernel_rfl) (by kernel_rfl) (fun _ _ _ h => h) (Or.inl ⟨by rfl, ?_⟩) (by assumption) ?_
     rotate_left
     ·intro w5 hSw
      (try dsimp only at hSw)
      go_simp
      (try with_reducible rfl)
     try simp only [aP, aQ, aA, aB, aC]
     refine wpAnyH_take (i := 6) (oi := ⟨some 9, _, _, _, _, _⟩) (v := ?_) rfl (by kernel_rfl) (by kernel_rfl) (by kernel_rfl) (fun _ _ _ h => h) (Or.inl ⟨by rfl, ?_⟩) (by assumption) ?_
     rotate_left
     ·intro w5 hSw
      (try dsimp only at hSw)
      go_simp
      (try with_reducible rfl)
     try simp only [aP, aQ, aA, aB, aC]
     refine wpAnyH_take (i := 7) (oi := ⟨some 10, _, _, _, _, _⟩) (v := ?_) rfl (by kernel_rfl) (by kernel_rfl) (by kernel_rfl) (fun _ _ _ h => h) (Or.inl ⟨by rfl, ?_⟩) (by assumption) ?_
     rotate_left
     ·intro w5 hSw
      (try dsimp only at hSw)
      go_simp
      (try with_reducible rfl)
     try simp only [aP, aQ, aA, aB, aC]
     refine wpAnyH_take (i := 8) (oi := ⟨some 11, _, _, _, _, _⟩) (v := ?_) rfl (by kernel_rfl) (by kernel_rfl) (by kernel_rfl) (fun _ _ _ h => h) (Or.inl ⟨by rfl, ?_⟩) (by assumption) ?_
     rotate_left
     ·intro w5 hSw
      (try dsimp only at hSw)
      go_simp
      (try with_reducible rfl)
     try simp only [aP, aQ, aA, aB, aC]
     refine wpAnyH_take (i := 9) (oi := ⟨some 12, _, _, _, _, _⟩) (v := ?_) rfl (by kernel_rfl) (by kernel_rfl) (by kernel_rfl) (fun _ _ _ h => h) (Or.inl ⟨by rfl, ?_⟩) (by assumption) ?_
     rotate_left
     ·intro w5 hSw
      (try dsimp only at hSw)
      go_simp
      (try with_reducible rfl)
     try simp only [aP, aQ, aA, aB, aC]
     refine wpAnyH_take (i := 10) (oi := ⟨some 13, _, _, _, _, _⟩) (v := ?_) rfl (by kernel_rfl) (by kernel_rfl) (by kernel_rfl) (fun _ _ _ h => h) (Or.inl ⟨by rfl, ?_⟩) (by assumption) ?_
     rotate_left
     ·intro w5 hSw
      (try dsimp only at hSw)
      go_simp
      (try with_reducible rfl)
     try simp only [aP, aQ, aA, aB, aC]
     refine wpAnyH_take (i := 11) (oi := ⟨some 14, _, _, _, _, _⟩) (v := ?_) rfl (by kernel_rfl) (by kernel_rfl) (by kernel_rfl) (fun _ _ _ h => h) (Or.inl ⟨by rfl, ?_⟩) (by assumption) ?_
     rotate_left
     ·intro w5 hSw
      (try dsimp only at hSw)
      go_simp
      (try with_reducible rfl)
     try simp only [aP, aQ, aA, aB, aC]
     refine wpAnyH_take (i := 12) (oi := ⟨some 15, _, _, _, _, _⟩) (v := ?_) rfl (by kernel_rfl) (by kernel_rfl) (by kernel_rfl) (fun _ _ _ h => h) (Or.inl ⟨by rfl, ?_⟩) (by assumption) ?_
     rotate_left
     ·intro w5 hSw
      (try dsimp only at hSw)
      go_simp
      (try with_reducible rfl)
     try simp only [aP, aQ, aA, aB, aC]
     refine wpAnyH_take (i := 13) (oi := ⟨some 16, _, _, _, _, _⟩) (v := ?_) rfl (by kernel_rfl) (by kernel_rfl) (by kernel_rfl) (fun _ _ _ h => h) (Or.inl ⟨by rfl, ?_⟩) (by assumption) ?_
     rotate_left
     ·intro w5 hSw
      (try dsimp only at hSw)
      go_simp
      (try with_reducible rfl)
     try simp only [aP, aQ, aA, aB, aC]
     refine wpAnyH_take (i := 14) (oi := ⟨some 17, _, _, _, _, _⟩) (v := ?_) rfl (by kernel_rfl) (by kernel_rfl) (by kernel_rfl) (fun _ _ _ h => h) (Or.inl ⟨by rfl, ?_⟩) (by assumption) ?_
     rotate_left
     ·intro w5 hSw
      (try dsimp only at hSw)
      go_simp
      (try with_reducible rfl)
     try simp only [aP, aQ, aA, aB, aC]
     refine wpAnyH_ready (rs := [15]) (by kernel_rfl) (by simp) ?_;refine AllReadyH.cons (o := ⟨some 18, _, _, _, _, _⟩) rfl (fun K hK => ?_) AllReadyH.nil;go_simp
     go_at_call 123
     refine (H2.out _ (by first | exact HI.out | exact HI.out.drew)).mono ?_;clear HI;rintro e w1 ⟨rfl, HI, j0, j1, j2, j3⟩;refine hK.out _ _ ⟨j0, j1, j2, j3⟩ (fun hHeld => ?_);clear hK K
     try simp only [aP, aQ, aA, aB, aC]
     refine wpAnyH_take (i := 16) (oi := ⟨some 19, _, _, _, _, _⟩) (v := ?_) rfl (by kernel_rfl) (by kernel_rfl) (by kernel_rfl) (fun _ _ _ h => h) (Or.inl ⟨by rfl, ?_⟩) (by assumption) ?_
     rotate_left
     ·intro w5 hSw
      (try dsimp only at hSw)
      go_simp
      (try with_reducible rfl)
     try simp only [aP, aQ, aA, aB, aC]
     refine wpAnyH_take (i := 17) (oi := ⟨some 20, _, _, _, _, _⟩) (v := ?_) rfl (by kernel_rfl) (by kernel_rfl) (by kernel_rfl) (fun _ _ _ h => h) (Or.inl ⟨by rfl, ?_⟩) (by assumption) ?_
     rotate_left
     ·intro w5 hSw
      (try dsimp only at hSw)
      go_simp
      (try with_reducible rfl)
     try simp only [aP, aQ, aA, aB, aC]
     refine wpAnyH_take (i := 18) (oi := ⟨some 21, _, _, _, _, _⟩) (v := ?_) rfl (by kernel_rfl) (by kernel_rfl) (by kernel_rfl) (fun _ _ _ h => h) (Or.inl ⟨by rfl, ?_⟩) (by assumption) ?_
     rotate_left
     ·intro w5 hSw
      (try dsimp only at hSw)
      go_simp
      (try with_reducible rfl)
     try simp only [aP, aQ, aA, aB, aC]
     refine wpAnyH_ready (rs := [19]) (by kernel_rfl) (by simp) ?_;refine AllReadyH.cons (o := ⟨some 22, _, _, _, _, _⟩) rfl (fun K hK => ?_) AllReadyH.nil;go_simp
     go_at_call 124
     refine (H3.out _ (by first | exact HI.out | exact HI.out.drew)).mono ?_;clear HI;rintro e w1 ⟨rfl, HI, j0, j1, j2, j3⟩;refine hK.out _ _ ⟨j0, j1, j2, j3⟩ (fun hHeld => ?_);clear hK K
     try simp only [aP, aQ, aA, aB, aC]
     refine wpAnyH_take (i := 20) (oi := ⟨some 23, _, _, _, _, _⟩) (v := ?_) rfl (by kernel_rfl) (by kernel_rfl) (by kernel_rfl) (fun _ _ _ h => h) (Or.inl ⟨by rfl, ?_⟩) (by assumption) ?_
     rotate_left
     ·intro w5 hSw
      (try dsimp only at hSw)
      go_simp
      (try with_reducible rfl)
     try simp only [aP, aQ, aA, aB, aC]
     refine wpAnyH_take (i := 21) (oi := ⟨some 24, _, _, _, _, _⟩) (v := ?_) rfl (by kernel_rfl) (by kernel_rfl) (by kernel_rfl) (fun _ _ _ h => h) (Or.inl ⟨by rfl, ?_⟩) (by assumption) ?_
     rotate_left
     ·intro w5 hSw
      (try dsimp only at hSw)
      go_simp
      (try with_reducible rfl)
     try simp only [aP, aQ, aA, aB, aC]
     refine wpAnyH_take (i := 22) (oi := ⟨some 25, _, _, _, _, _⟩) (v := ?_) rfl (by kernel_rfl) (by kernel_rfl) (by kernel_rfl) (fun _ _ _ h => h) (Or.inl ⟨by rfl, ?_⟩) (by assumption) ?_
     rotate_left
     ·intro w5 hSw
      (try dsimp only at hSw)
      go_simp
      (try with_reducible rfl)
     try simp only [aP, aQ, aA, aB, aC]
     refine wpAnyH_take (i := 23) (oi := ⟨some 26, _, _, _, _, _⟩) (v := ?_) rfl (by kernel_rfl) (by kernel_rfl) (by kernel_rfl) (fun _ _ _ h => h) (Or.inl ⟨by rfl, ?_⟩) (by assumption) ?_
     rotate_left
     ·intro w5 hSw
      (try dsimp only at hSw)
      go_simp
      (try with_reducible rfl)
     try simp only [aP, aQ, aA, aB, aC]
     refine wpAnyH_take (i := 24) (oi := ⟨some 27, _, _, _, _, _⟩) (v := ?_) rfl (by kernel_rfl) (by kernel_rfl) (by kernel_rfl) (fun _ _ _ h => h) (Or.inl ⟨by rfl, ?_⟩) (by assumption) ?_
     rotate_left
     ·intro w5 hSw
      (try dsimp only at hSw)
      go_simp
      (try with_reducible rfl)
     try simp only [aP, aQ, aA, aB, aC]
     refine wpAnyH_take (i := 25) (oi := ⟨some 28, _, _, _, _, _⟩) (v := ?_) rfl (by kernel_rfl) (by kernel_rfl) (by kernel_rfl) (fun _ _ _ h => h) (Or.inl ⟨by rfl, ?_⟩) (by assumption) ?_
     rotate_left
     ·intro w5 hSw
      (try dsimp only at hSw)
      go_simp
      (try with_reducible rfl)
     try simp only [aP, aQ, aA, aB, aC]
     refine wpAnyH_take (i := 26) (oi := ⟨some 29, _, _, _, _, _⟩) (v := ?_) rfl (by kernel_rfl) (by kernel_rfl) (by kernel_rfl) (fun _ _ _ h => h) (Or.inl ⟨by rfl, ?_⟩) (by assumption) ?_
     rotate_left
     ·intro w5 hSw
      (try dsimp only at hSw)
      go_simp
      (try with_reducible rfl)
     try simp only [aP, aQ, aA, aB, aC]
     refine wpAnyH_take (i := 27) (oi := ⟨some 30, _, _, _, _, _⟩) (v := ?_) rfl (by kernel_rfl) (by kernel_rfl) (by kernel_rfl) (fun _ _ _ h => h) (Or.inl ⟨by rfl, ?_⟩) (by assumption) ?_
     rotate_left
     ·intro w5 hSw
      (try dsimp only at hSw)
      go_simp
      (try with_reducible rfl)
     try simp only [aP, aQ, aA, aB, aC]
     refine wpAnyH_take (i := 28) (oi := ⟨some 31, _, _, _, _, _⟩) (v := ?_) rfl (by kernel_rfl) (by kernel_rfl) (by kernel_rfl) (fun _ _ _ h => h) (Or.inl ⟨by rfl, ?_⟩) (by assumption) ?_
     rotate_left
     ·intro w5 hSw
      (try dsimp only at hSw)
      go_simp
      (try with_reducible rfl)
     try simp only [aP, aQ, aA, aB, aC]
     refine wpAnyH_ready (rs := [29]) (by kernel_rfl) (by simp) ?_;refine AllReadyH.cons (o := ⟨some 32, _, _, _, _, _⟩) rfl (fun K hK => ?_) AllReadyH.nil;go_simp
     go_at_call 124
     refine (H3.out _ (by first | exact HI.out | exact HI.out.drew)).mono ?_;clear HI;rintro e w1 ⟨rfl, HI, j0, j1, j2, j3⟩;refine hK.out _ _ ⟨j0, j1, j2, j3⟩ (fun hHeld => ?_);clear hK K
     try simp only [aP, aQ, aA, aB, aC]
     refine wpAnyH_ready (rs := [30]) (by kernel_rfl) (by simp) ?_;refine AllReadyH.cons (o := ⟨some 33, _, _, _, _, _⟩) rfl (fun K hK => ?_) AllReadyH.nil;go_simp
     go_at_call 125
     refine (H4.out _ (by first | exact HI.out | exact HI.out.drew)).mono ?_;clear HI;rintro e w1 ⟨rfl, HI, j0, j1, j2, j3⟩;refine hK.out _ _ ⟨j0, j1, j2, j3⟩ (fun hHeld => ?_);clear hK K
     try simp only [aP, aQ, aA, aB, aC]
     refine wpAnyH_take (i := 31) (oi := ⟨some 34, _, _, _, _, _⟩) (v := ?_) rfl (by kernel_rfl) (by kernel_rfl) (by kernel_rfl) (fun _ _ _ h => h) (Or.inl ⟨by rfl, ?_⟩) (by assumption) ?_
     rotate_left
     ·intro w5 hSw
      (try dsimp only at hSw)
      go_simp
      (try with_reducible rfl)
     try simp only [aP, aQ, aA, aB, aC]
     refine wpAnyH_take (i := 32) (oi := ⟨some 2, _, _, _, _, _⟩) (v := ?_) rfl (by kernel_rfl) (by kernel_rfl) (by kernel_rfl) (fun _ _ _ h => h) (Or.inl ⟨by rfl, ?_⟩) (by assumption) ?_
     rotate_left
     ·intro w5 hSw
      (try dsimp only at hSw)
      go_simp
      (try with_reducible rfl)
     try simp only [aP, aQ, aA, aB, aC]
     refine wpAnyH_done (by kernel_rfl) ?_ _;go_wp2;go_ret
     exact ⟨by (first | rfl | simp), HI.out.bel⟩
    ·have hmb : decide (li ≤ 1000000) = false := decide_eq_false hm;have hm2 : 1000000 < li := by omega
     rw [hmb]
     go_enter Tryz.func81, Tryz.ntmps81
     go_upto_region 1 with fail
     refine wp_region_held_drew (S := fun w' => w'.cell? ⟨w.heap.size, 0, none⟩ = some (.int .i64 bi) ∧ w'.cell? ⟨w.heap.size, 1, none⟩ = some (.int .i64 bt) ∧ w'.cell? ⟨w.heap.size, 2, none⟩ = some (.slice a l.length c) ∧ w'.cell? ⟨w.heap.size, 3, none⟩ = some (.int .i64 cm)) (by kernel_rfl) HI.out.drew.cells (fun hHeld => ?_);refine wpAnyH_take (i := 0) (oi := ⟨some 3, _, _, _, _, _⟩) (v := ?_) rfl (by kernel_rfl) (by kernel_rfl) (by kernel_rfl) (fun _ _ _ h => h) (Or.inl ⟨by rfl, ?_⟩) (by assumption) ?_
     rotate_left
     ·intro w5 hSw
      (try dsimp only at hSw)
      go_simp
      (try with_reducible rfl)
     try simp only [aP, aQ, aA, aB, aC]
     refine wpAnyH_take (i := 1) (oi := ⟨some 4, _, _, _, _, _⟩) (v := ?_) rfl (by kernel_rfl) (by kernel_rfl) (by kernel_rfl) (fun _ _ _ h => h) (Or.inl ⟨by rfl, ?_⟩) (by assumption) ?_
     rotate_left
     ·intro w5 hSw
      (try dsimp only at hSw)
      go_simp
      (try with_reducible rfl)
     try simp only [aP, aQ, aA, aB, aC]
     refine wpAnyH_ready (rs := [2]) (by kernel_rfl) (by simp) ?_;refine AllReadyH.cons (o := ⟨some 5, _, _, _, _, _⟩) rfl (fun K hK => ?_) AllReadyH.nil;go_simp
     go_at_call 122
     refine (H1.out _ (by first | exact HI.out | exact HI.out.drew)).mono ?_;clear HI;rintro e w1 ⟨rfl, HI, j0, j1, j2, j3⟩;refine hK.out _ _ ⟨j0, j1, j2, j3⟩ (fun hHeld => ?_);clear hK K
     try simp only [aP, aQ, aA, aB, aC]
     refine wpAnyH_take (i := 3) (oi := ⟨some 6, _, _, _, _, _⟩) (v := ?_) rfl (by kernel_rfl) (by kernel_rfl) (by kernel_rfl) (fun _ _ _ h => h) (Or.inl ⟨by rfl, ?_⟩) (by assumption) ?_
     rotate_left
     ·intro w5 hSw
      (try dsimp only at hSw)
      go_simp
      (try with_reducible rfl)
     try simp only [aP, aQ, aA, aB, aC]
     refine wpAnyH_take (i := 4) (oi := ⟨some 7, _, _, _, _, _⟩) (v := ?_) rfl (by kernel_rfl) (by kernel_rfl) (by kernel_rfl) (fun _ _ _ h => h) (Or.inl ⟨by rfl, ?_⟩) (by assumption) ?_
     rotate_left
     ·intro w5 hSw
      (try dsimp only at hSw)
      go_simp
      (try with_reducible rfl)
     try simp only [aP, aQ, aA, aB, aC]
     refine wpAnyH_take (i := 5) (oi := ⟨some 8, _, _, _, _, _⟩) (v := ?_) rfl (by kernel_rfl) (by kernel_rfl) (by kernel_rfl) (fun _ _ _ h => h) (Or.inl ⟨by rfl, ?_⟩) (by assumption) ?_
     rotate_left
     ·intro w5 hSw
      (try dsimp only at hSw)
      go_simp
      (try with_reducible rfl)
     try simp only [aP, aQ, aA, aB, aC]
     refine wpAnyH_take (i := 6) (oi := ⟨some 9, _, _, _, _, _⟩) (v := ?_) rfl (by kernel_rfl) (by kernel_rfl) (by kernel_rfl) (fun _ _ _ h => h) (Or.inl ⟨by rfl, ?_⟩) (by assumption) ?_
     rotate_left
     ·intro w5 hSw
      (try dsimp only at hSw)
      go_simp
      (try with_reducible rfl)
     try simp only [aP, aQ, aA, aB, aC]
     refine wpAnyH_take (i := 7) (oi := ⟨some 10, _, _, _, _, _⟩) (v := ?_) rfl (by kernel_rfl) (by kernel_rfl) (by kernel_rfl) (fun _ _ _ h => h) (Or.inl ⟨by rfl, ?_⟩) (by assumption) ?_
     rotate_left
     ·intro w5 hSw
      (try dsimp only at hSw)
      go_simp
      (try with_reducible rfl)
     try simp only [aP, aQ, aA, aB, aC]
     refine wpAnyH_take (i := 8) (oi := ⟨some 11, _, _, _, _, _⟩) (v := ?_) rfl (by kernel_rfl) (by kernel_rfl) (by kernel_rfl) (fun _ _ _ h => h) (Or.inl ⟨by rfl, ?_⟩) (by assumption) ?_
     rotate_left
     ·intro w5 hSw
      (try dsimp only at hSw)
      go_simp
      (try with_reducible rfl)
     try simp only [aP, aQ, aA, aB, aC]
     refine wpAnyH_take (i := 9) (oi := ⟨some 12, _, _, _, _, _⟩) (v := ?_) rfl (by kernel_rfl) (by kernel_rfl) (by kernel_rfl) (fun _ _ _ h => h) (Or.inl ⟨by rfl, ?_⟩) (by assumption) ?_
     rotate_left
     ·intro w5 hSw
      (try dsimp only at hSw)
      go_simp
      (try with_reducible rfl)
     try simp only [aP, aQ, aA, aB, aC]
     refine wpAnyH_take (i := 10) (oi := ⟨some 13, _, _, _, _, _⟩) (v := ?_) rfl (by kernel_rfl) (by kernel_rfl) (by kernel_rfl) (fun _ _ _ h => h) (Or.inl ⟨by rfl, ?_⟩) (by assumption) ?_
     rotate_left
     ·intro w5 hSw
      (try dsimp only at hSw)
      go_simp
      (try with_reducible rfl)
     try simp only [aP, aQ, aA, aB, aC]
     refine wpAnyH_take (i := 11) (oi := ⟨some 14, _, _, _, _, _⟩) (v := ?_) rfl (by kernel_rfl) (by kernel_rfl) (by kernel_rfl) (fun _ _ _ h => h) (Or.inl ⟨by rfl, ?_⟩) (by assumption) ?_
     rotate_left
     ·intro w5 hSw
      (try dsimp only at hSw)
      go_simp
      (try with_reducible rfl)
     try simp only [aP, aQ, aA, aB, aC]
     refine wpAnyH_take (i := 12) (oi := ⟨some 15, _, _, _, _, _⟩) (v := ?_) rfl (by kernel_rfl) (by kernel_rfl) (by kernel_rfl) (fun _ _ _ h => h) (Or.inl ⟨by rfl, ?_⟩) (by assumption) ?_
     rotate_left
     ·intro w5 hSw
      (try dsimp only at hSw)
      go_simp
      (try with_reducible rfl)
     try simp only [aP, aQ, aA, aB, aC]
     refine wpAnyH_take (i := 13) (oi := ⟨some 16, _, _, _, _, _⟩) (v := ?_) rfl (by kernel_rfl) (by kernel_rfl) (by kernel_rfl) (fun _ _ _ h => h) (Or.inl ⟨by rfl, ?_⟩) (by assumption) ?_
     rotate_left
     ·intro w5 hSw
      (try dsimp only at hSw)
      go_simp
      (try with_reducible rfl)
     try simp only [aP, aQ, aA, aB, aC]
     refine wpAnyH_take (i := 14) (oi := ⟨some 17, _, _, _, _, _⟩) (v := ?_) rfl (by kernel_rfl) (by kernel_rfl) (by kernel_rfl) (fun _ _ _ h => h) (Or.inl ⟨by rfl, ?_⟩) (by assumption) ?_
     rotate_left
     ·intro w5 hSw
      (try dsimp only at hSw)
      go_simp
      (try with_reducible rfl)
     try simp only [aP, aQ, aA, aB, aC]
     refine wpAnyH_ready (rs := [15]) (by kernel_rfl) (by simp) ?_;refine AllReadyH.cons (o := ⟨some 18, _, _, _, _, _⟩) rfl (fun K hK => ?_) AllReadyH.nil;go_simp
     go_at_call 123
     refine (H2.out _ (by first | exact HI.out | exact HI.out.drew)).mono ?_;clear HI;rintro e w1 ⟨rfl, HI, j0, j1, j2, j3⟩;refine hK.out _ _ ⟨j0, j1, j2, j3⟩ (fun hHeld => ?_);clear hK K
     try simp only [aP, aQ, aA, aB, aC]
     refine wpAnyH_take (i := 16) (oi := ⟨some 19, _, _, _, _, _⟩) (v := ?_) rfl (by kernel_rfl) (by kernel_rfl) (by kernel_rfl) (fun _ _ _ h => h) (Or.inl ⟨by rfl, ?_⟩) (by assumption) ?_
     rotate_left
     ·intro w5 hSw
      (try dsimp only at hSw)
      go_simp
      (try with_reducible rfl)
     try simp only [aP, aQ, aA, aB, aC]
     refine wpAnyH_take (i := 17) (oi := ⟨some 20, _, _, _, _, _⟩) (v := ?_) rfl (by kernel_rfl) (by kernel_rfl) (by kernel_rfl) (fun _ _ _ h => h) (Or.inl ⟨by rfl, ?_⟩) (by assumption) ?_
     rotate_left
     ·intro w5 hSw
      (try dsimp only at hSw)
      go_simp
      (try with_reducible rfl)
     try simp only [aP, aQ, aA, aB, aC]
     refine wpAnyH_take (i := 18) (oi := ⟨some 21, _, _, _, _, _⟩) (v := ?_) rfl (by kernel_rfl) (by kernel_rfl) (by kernel_rfl) (fun _ _ _ h => h) (Or.inl ⟨by rfl, ?_⟩) (by assumption) ?_
     rotate_left
     ·intro w5 hSw
      (try dsimp only at hSw)
      go_simp
      (try with_reducible rfl)
     try simp only [aP, aQ, aA, aB, aC]
     refine wpAnyH_ready (rs := [19]) (by kernel_rfl) (by simp) ?_;refine AllReadyH.cons (o := ⟨some 22, _, _, _, _, _⟩) rfl (fun K hK => ?_) AllReadyH.nil;go_simp
     go_at_call 124
     refine (H3.out _ (by first | exact HI.out | exact HI.out.drew)).mono ?_;clear HI;rintro e w1 ⟨rfl, HI, j0, j1, j2, j3⟩;refine hK.out _ _ ⟨j0, j1, j2, j3⟩ (fun hHeld => ?_);clear hK K
     try simp only [aP, aQ, aA, aB, aC]
     refine wpAnyH_take (i := 20) (oi := ⟨some 23, _, _, _, _, _⟩) (v := ?_) rfl (by kernel_rfl) (by kernel_rfl) (by kernel_rfl) (fun _ _ _ h => h) (Or.inl ⟨by rfl, ?_⟩) (by assumption) ?_
     rotate_left
     ·intro w5 hSw
      (try dsimp only at hSw)
      go_simp
      (try with_reducible rfl)
     try simp only [aP, aQ, aA, aB, aC]
     refine wpAnyH_take (i := 21) (oi := ⟨some 24, _, _, _, _, _⟩) (v := ?_) rfl (by kernel_rfl) (by kernel_rfl) (by kernel_rfl) (fun _ _ _ h => h) (Or.inl ⟨by rfl, ?_⟩) (by assumption) ?_
     rotate_left
     ·intro w5 hSw
      (try dsimp only at hSw)
      go_simp
      (try with_reducible rfl)
     try simp only [aP, aQ, aA, aB, aC]
     refine wpAnyH_take (i := 22) (oi := ⟨some 25, _, _, _, _, _⟩) (v := ?_) rfl (by kernel_rfl) (by kernel_rfl) (by kernel_rfl) (fun _ _ _ h => h) (Or.inl ⟨by rfl, ?_⟩) (by assumption) ?_
     rotate_left
     ·intro w5 hSw
      (try dsimp only at hSw)
      go_simp
      (try with_reducible rfl)
     try simp only [aP, aQ, aA, aB, aC]
     refine wpAnyH_take (i := 23) (oi := ⟨some 26, _, _, _, _, _⟩) (v := undef) rfl (by kernel_rfl) (by kernel_rfl) (by kernel_rfl) (fun _ _ _ h => h) (Or.inr ⟨by rfl, rfl⟩) (by assumption) ?_
     try simp only [aP, aQ, aA, aB, aC]
     refine wpAnyH_take (i := 24) (oi := ⟨some 27, _, _, _, _, _⟩) (v := undef) rfl (by kernel_rfl) (by kernel_rfl) (by kernel_rfl) (fun _ _ _ h => h) (Or.inr ⟨by rfl, rfl⟩) (by assumption) ?_
     try simp only [aP, aQ, aA, aB, aC]
     refine wpAnyH_take (i := 25) (oi := ⟨some 28, _, _, _, _, _⟩) (v := undef) rfl (by kernel_rfl) (by kernel_rfl) (by kernel_rfl) (fun _ _ _ h => h) (Or.inr ⟨by rfl, rfl⟩) (by assumption) ?_
     try simp only [aP, aQ, aA, aB, aC]
     refine wpAnyH_take (i := 26) (oi := ⟨some 29, _, _, _, _, _⟩) (v := undef) rfl (by kernel_rfl) (by kernel_rfl) (by kernel_rfl) (fun _ _ _ h => h) (Or.inr ⟨by rfl, rfl⟩) (by assumption) ?_
     try simp only [aP, aQ, aA, aB, aC]
     refine wpAnyH_take (i := 27) (oi := ⟨some 30, _, _, _, _, _⟩) (v := undef) rfl (by kernel_rfl) (by kernel_rfl) (by kernel_rfl) (fun _ _ _ h => h) (Or.inr ⟨by rfl, rfl⟩) (by assumption) ?_
     try simp only [aP, aQ, aA, aB, aC]
     refine wpAnyH_take (i := 28) (oi := ⟨some 31, _, _, _, _, _⟩) (v := undef) rfl (by kernel_rfl) (by kernel_rfl) (by kernel_rfl) (fun _ _ _ h => h) (Or.inr ⟨by rfl, rfl⟩) (by assumption) ?_
     try simp only [aP, aQ, aA, aB, aC]
     refine wpAnyH_take (i := 29) (oi := ⟨some 32, _, _, _, _, _⟩) (v := undef) rfl (by kernel_rfl) (by kernel_rfl) (by kernel_rfl) (fun _ _ _ h => h) (Or.inr ⟨by rfl, rfl⟩) (by assumption) ?_
     try simp only [aP, aQ, aA, aB, aC]
     refine wpAnyH_take (i := 30) (oi := ⟨some 33, _, _, _, _, _⟩) (v := undef) rfl (by kernel_rfl) (by kernel_rfl) (by kernel_rfl) (fun _ _ _ h => h) (Or.inr ⟨by rfl, rfl⟩) (by assumption) ?_
     try simp only [aP, aQ, aA, aB, aC]
     refine wpAnyH_take (i := 31) (oi := ⟨some 34, _, _, _, _, _⟩) (v := ?_) rfl (by kernel_rfl) (by kernel_rfl) (by kernel_rfl) (fun _ _ _ h => h) (Or.inl ⟨by rfl, ?_⟩) (by assumption) ?_
     rotate_left
     ·intro w5 hSw
      (try dsimp only at hSw)
      go_simp
      (try with_reducible rfl)
     try simp only [aP, aQ, aA, aB, aC]
     refine wpAnyH_take (i := 32) (oi := ⟨some 2, _, _, _, _, _⟩) (v := ?_) rfl (by kernel_rfl) (by kernel_rfl) (by kernel_rfl) (fun _ _ _ h => h) (Or.inl ⟨by rfl, ?_⟩) (by assumption) ?_
     rotate_left
     ·intro w5 hSw
      (try dsimp only at hSw)
      go_simp
      (try with_reducible rfl)
     try simp only [aP, aQ, aA, aB, aC]
     refine wpAnyH_done (by kernel_rfl) ?_ _;go_wp2;go_ret
     exact ⟨by (first | rfl | simp), HI.out.bel⟩
  ·have hlb : decide ((l.length : Int) ≤ 400) = false := decide_eq_false (by omega);have hlI : ¬ (l.length : Int) ≤ 400 := by omega
   rw [decide_eq_false hl];have H3 := H1;clear TN
   go_enter Tryz.func81, Tryz.ntmps81
   go_upto_region 1 with fail
   refine wp_region_held_drew (S := fun w' => w'.cell? ⟨w.heap.size, 0, none⟩ = some (.int .i64 bi) ∧ w'.cell? ⟨w.heap.size, 1, none⟩ = some (.int .i64 bt) ∧ w'.cell? ⟨w.heap.size, 2, none⟩ = some (.slice a l.length c) ∧ w'.cell? ⟨w.heap.size, 3, none⟩ = some (.int .i64 cm)) (by kernel_rfl) HI.out.drew.cells (fun hHeld => ?_);refine wpAnyH_take (i := 0) (oi := ⟨some 3, _, _, _, _, _⟩) (v := ?_) rfl (by kernel_rfl) (by kernel_rfl) (by kernel_rfl) (fun _ _ _ h => h) (Or.inl ⟨by rfl, ?_⟩) (by assumption) ?_
   rotate_left
   ·intro w5 hSw
    (try dsimp only at hSw)
    go_simp
    (try with_reducible rfl)
   try simp only [aP, aQ, aA, aB, aC]
   refine wpAnyH_take (i := 1) (oi := ⟨some 4, _, _, _, _, _⟩) (v := ?_) rfl (by kernel_rfl) (by kernel_rfl) (by kernel_rfl) (fun _ _ _ h => h) (Or.inl ⟨by rfl, ?_⟩) (by assumption) ?_
   rotate_left
   ·intro w5 hSw
    (try dsimp only at hSw)
    go_simp
    (try with_reducible rfl)
   try simp only [aP, aQ, aA, aB, aC]
   refine wpAnyH_ready (rs := [2]) (by kernel_rfl) (by simp) ?_;refine AllReadyH.cons (o := ⟨some 5, _, _, _, _, _⟩) rfl (fun K hK => ?_) AllReadyH.nil;go_simp
   go_at_call 122
   refine (H1.out _ (by first | exact HI.out | exact HI.out.drew)).mono ?_;clear HI;rintro e w1 ⟨rfl, HI, j0, j1, j2, j3⟩;refine hK.out _ _ ⟨j0, j1, j2, j3⟩ (fun hHeld => ?_);clear hK K
   try simp only [aP, aQ, aA, aB, aC]
   refine wpAnyH_take (i := 3) (oi := ⟨some 6, _, _, _, _, _⟩) (v := ?_) rfl (by kernel_rfl) (by kernel_rfl) (by kernel_rfl) (fun _ _ _ h => h) (Or.inl ⟨by rfl, ?_⟩) (by assumption) ?_
   rotate_left
   ·intro w5 hSw
    (try dsimp only at hSw)
    go_simp
    (try with_reducible rfl)
   try simp only [aP, aQ, aA, aB, aC]
   refine wpAnyH_take (i := 4) (oi := ⟨some 7, _, _, _, _, _⟩) (v := ?_) rfl (by kernel_rfl) (by kernel_rfl) (by kernel_rfl) (fun _ _ _ h => h) (Or.inl ⟨by rfl, ?_⟩) (by assumption) ?_
   rotate_left
   ·intro w5 hSw
    (try dsimp only at hSw)
    go_simp
    (try with_reducible rfl)
   try simp only [aP, aQ, aA, aB, aC]
   refine wpAnyH_take (i := 5) (oi := ⟨some 8, _, _, _, _, _⟩) (v := ?_) rfl (by kernel_rfl) (by kernel_rfl) (by kernel_rfl) (fun _ _ _ h => h) (Or.inl ⟨by rfl, ?_⟩) (by assumption) ?_
   rotate_left
   ·intro w5 hSw
    (try dsimp only at hSw)
    go_simp
    (try with_reducible rfl)
   try simp only [aP, aQ, aA, aB, aC]
   refine wpAnyH_take (i := 6) (oi := ⟨some 9, _, _, _, _, _⟩) (v := ?_) rfl (by kernel_rfl) (by kernel_rfl) (by kernel_rfl) (fun _ _ _ h => h) (Or.inl ⟨by rfl, ?_⟩) (by assumption) ?_
   rotate_left
   ·intro w5 hSw
    (try dsimp only at hSw)
    go_simp
    (try with_reducible rfl)
   try simp only [aP, aQ, aA, aB, aC]
   refine wpAnyH_take (i := 7) (oi := ⟨some 10, _, _, _, _, _⟩) (v := ?_) rfl (by kernel_rfl) (by kernel_rfl) (by kernel_rfl) (fun _ _ _ h => h) (Or.inl ⟨by rfl, ?_⟩) (by assumption) ?_
   rotate_left
   ·intro w5 hSw
    (try dsimp only at hSw)
    go_simp
    (try with_reducible rfl)
   try simp only [aP, aQ, aA, aB, aC]
   refine wpAnyH_take (i := 8) (oi := ⟨some 11, _, _, _, _, _⟩) (v := ?_) rfl (by kernel_rfl) (by kernel_rfl) (by kernel_rfl) (fun _ _ _ h => h) (Or.inl ⟨by rfl, ?_⟩) (by assumption) ?_
   rotate_left
   ·intro w5 hSw
    (try dsimp only at hSw)
    go_simp
    (try with_reducible rfl)
   try simp only [aP, aQ, aA, aB, aC]
   refine wpAnyH_take (i := 9) (oi := ⟨some 12, _, _, _, _, _⟩) (v := ?_) rfl (by kernel_rfl) (by kernel_rfl) (by kernel_rfl) (fun _ _ _ h => h) (Or.inl ⟨by rfl, ?_⟩) (by assumption) ?_
   rotate_left
   ·intro w5 hSw
    (try dsimp only at hSw)
    go_simp
    (try with_reducible rfl)
   try simp only [aP, aQ, aA, aB, aC]
   refine wpAnyH_take (i := 10) (oi := ⟨some 13, _, _, _, _, _⟩) (v := undef) rfl (by kernel_rfl) (by kernel_rfl) (by kernel_rfl) (fun _ _ _ h => h) (Or.inr ⟨by rfl, rfl⟩) (by assumption) ?_
   try simp only [aP, aQ, aA, aB, aC]
   refine wpAnyH_take (i := 11) (oi := ⟨some 14, _, _, _, _, _⟩) (v := undef) rfl (by kernel_rfl) (by kernel_rfl) (by kernel_rfl) (fun _ _ _ h => h) (Or.inr ⟨by rfl, rfl⟩) (by assumption) ?_
   try simp only [aP, aQ, aA, aB, aC]
   refine wpAnyH_take (i := 12) (oi := ⟨some 15, _, _, _, _, _⟩) (v := undef) rfl (by kernel_rfl) (by kernel_rfl) (by kernel_rfl) (fun _ _ _ h => h) (Or.inr ⟨by rfl, rfl⟩) (by assumption) ?_
   try simp only [aP, aQ, aA, aB, aC]
   refine wpAnyH_take (i := 13) (oi := ⟨some 16, _, _, _, _, _⟩) (v := undef) rfl (by kernel_rfl) (by kernel_rfl) (by kernel_rfl) (fun _ _ _ h => h) (Or.inr ⟨by rfl, rfl⟩) (by assumption) ?_
   try simp only [aP, aQ, aA, aB, aC]
   refine wpAnyH_take (i := 14) (oi := ⟨some 17, _, _, _, _, _⟩) (v := undef) rfl (by kernel_rfl) (by kernel_rfl) (by kernel_rfl) (fun _ _ _ h => h) (Or.inr ⟨by rfl, rfl⟩) (by assumption) ?_
   try simp only [aP, aQ, aA, aB, aC]
   refine wpAnyH_take (i := 15) (oi := ⟨some 18, _, _, _, _, _⟩) (v := undef) rfl (by kernel_rfl) (by kernel_rfl) (by kernel_rfl) (fun _ _ _ h => h) (Or.inr ⟨by rfl, rfl⟩) (by assumption) ?_
   try simp only [aP, aQ, aA, aB, aC]
   refine wpAnyH_take (i := 16) (oi := ⟨some 19, _, _, _, _, _⟩) (v := ?_) rfl (by kernel_rfl) (by kernel_rfl) (by kernel_rfl) (fun _ _ _ h => h) (Or.inl ⟨by rfl, ?_⟩) (by assumption) ?_
   rotate_left
   ·intro w5 hSw
    (try dsimp only at hSw)
    go_simp
    (try with_reducible rfl)
   try simp only [aP, aQ, aA, aB, aC]
   refine wpAnyH_take (i := 17) (oi := ⟨some 20, _, _, _, _, _⟩) (v := ?_) rfl (by kernel_rfl) (by kernel_rfl) (by kernel_rfl) (fun _ _ _ h => h) (Or.inl ⟨by rfl, ?_⟩) (by assumption) ?_
   rotate_left
   ·intro w5 hSw
    (try dsimp only at hSw)
    go_simp
    (try with_reducible rfl)
   try simp only [aP, aQ, aA, aB, aC]
   refine wpAnyH_take (i := 18) (oi := ⟨some 21, _, _, _, _, _⟩) (v := undef) rfl (by kernel_rfl) (by kernel_rfl) (by kernel_rfl) (fun _ _ _ h => h) (Or.inr ⟨by rfl, rfl⟩) (by assumption) ?_
   try simp only [aP, aQ, aA, aB, aC]
   refine wpAnyH_take (i := 19) (oi := ⟨some 22, _, _, _, _, _⟩) (v := undef) rfl (by kernel_rfl) (by kernel_rfl) (by kernel_rfl) (fun _ _ _ h => h) (Or.inr ⟨by rfl, rfl⟩) (by assumption) ?_
   try simp only [aP, aQ, aA, aB, aC]
   refine wpAnyH_take (i := 20) (oi := ⟨some 23, _, _, _, _, _⟩) (v := undef) rfl (by kernel_rfl) (by kernel_rfl) (by kernel_rfl) (fun _ _ _ h => h) (Or.inr ⟨by rfl, rfl⟩) (by assumption) ?_
   try simp only [aP, aQ, aA, aB, aC]
   refine wpAnyH_take (i := 21) (oi := ⟨some 24, _, _, _, _, _⟩) (v := ?_) rfl (by kernel_rfl) (by kernel_rfl) (by kernel_rfl) (fun _ _ _ h => h) (Or.inl ⟨by rfl, ?_⟩) (by assumption) ?_
   rotate_left
   ·intro w5 hSw
    (try dsimp only at hSw)
    go_simp
    (try with_reducible rfl)
   try simp only [aP, aQ, aA, aB, aC]
   refine wpAnyH_take (i := 22) (oi := ⟨some 25, _, _, _, _, _⟩) (v := ?_) rfl (by kernel_rfl) (by kernel_rfl) (by kernel_rfl) (fun _ _ _ h => h) (Or.inl ⟨by rfl, ?_⟩) (by assumption) ?_
   rotate_left
   ·intro w5 hSw
    (try dsimp only at hSw)
    go_simp
    (try with_reducible rfl)
   try simp only [aP, aQ, aA, aB, aC]
   refine wpAnyH_take (i := 23) (oi := ⟨some 26, _, _, _, _, _⟩) (v := undef) rfl (by kernel_rfl) (by kernel_rfl) (by kernel_rfl) (fun _ _ _ h => h) (Or.inr ⟨by rfl, rfl⟩) (by assumption) ?_
   try simp only [aP, aQ, aA, aB, aC]
   refine wpAnyH_take (i := 24) (oi := ⟨some 27, _, _, _, _, _⟩) (v := undef) rfl (by kernel_rfl) (by kernel_rfl) (by kernel_rfl) (fun _ _ _ h => h) (Or.inr ⟨by rfl, rfl⟩) (by assumption) ?_
   try simp only [aP, aQ, aA, aB, aC]
   refine wpAnyH_take (i := 25) (oi := ⟨some 28, _, _, _, _, _⟩) (v := undef) rfl (by kernel_rfl) (by kernel_rfl) (by kernel_rfl) (fun _ _ _ h => h) (Or.inr ⟨by rfl, rfl⟩) (by assumption) ?_
   try simp only [aP, aQ, aA, aB, aC]
   refine wpAnyH_take (i := 26) (oi := ⟨some 29, _, _, _, _, _⟩) (v := undef) rfl (by kernel_rfl) (by kernel_rfl) (by kernel_rfl) (fun _ _ _ h => h) (Or.inr ⟨by rfl, rfl⟩) (by assumption) ?_
   try simp only [aP, aQ, aA, aB, aC]
   refine wpAnyH_take (i := 27) (oi := ⟨some 30, _, _, _, _, _⟩) (v := undef) rfl (by kernel_rfl) (by kernel_rfl) (by kernel_rfl) (fun _ _ _ h => h) (Or.inr ⟨by rfl, rfl⟩) (by assumption) ?_
   try simp only [aP, aQ, aA, aB, aC]
   refine wpAnyH_take (i := 28) (oi := ⟨some 31, _, _, _, _, _⟩) (v := undef) rfl (by kernel_rfl) (by kernel_rfl) (by kernel_rfl) (fun _ _ _ h => h) (Or.inr ⟨by rfl, rfl⟩) (by assumption) ?_
   try simp only [aP, aQ, aA, aB, aC]
   refine wpAnyH_take (i := 29) (oi := ⟨some 32, _, _, _, _, _⟩) (v := undef) rfl (by kernel_rfl) (by kernel_rfl) (by kernel_rfl) (fun _ _ _ h => h) (Or.inr ⟨by rfl, rfl⟩) (by assumption) ?_
   try simp only [aP, aQ, aA, aB, aC]
   refine wpAnyH_take (i := 30) (oi := ⟨some 33, _, _, _, _, _⟩) (v := undef) rfl (by kernel_rfl) (by kernel_rfl) (by kernel_rfl) (fun _ _ _ h => h) (Or.inr ⟨by rfl, rfl⟩) (by assumption) ?_
   try simp only [aP, aQ, aA, aB, aC]
   refine wpAnyH_take (i := 31) (oi := ⟨some 34, _, _, _, _, _⟩) (v := ?_) rfl (by kernel_rfl) (by kernel_rfl) (by kernel_rfl) (fun _ _ _ h => h) (Or.inl ⟨by rfl, ?_⟩) (by assumption) ?_
   rotate_left
   ·intro w5 hSw
    (try dsimp only at hSw)
    go_simp
    (try with_reducible rfl)
   try simp only [aP, aQ, aA, aB, aC]
   refine wpAnyH_take (i := 32) (oi := ⟨some 2, _, _, _, _, _⟩) (v := ?_) rfl (by kernel_rfl) (by kernel_rfl) (by kernel_rfl) (fun _ _ _ h => h) (Or.inl ⟨by rfl, ?_⟩) (by assumption) ?_
   rotate_left
   ·intro w5 hSw
    (try dsimp only at hSw)
    go_simp
    (try with_reducible rfl)
   try simp only [aP, aQ, aA, aB, aC]
   refine wpAnyH_done (by kernel_rfl) ?_ _;go_wp2;go_ret
   exact ⟨by (first | rfl | simp), HI.out.bel⟩
end Go.Proofs.YtcaehfkfohianaaGreat
