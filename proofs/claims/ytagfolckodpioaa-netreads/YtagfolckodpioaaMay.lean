/- Whether a message may be: the program's answer. -/
import Derived.Test.YtagfolckodpioaaKit
namespace Go.Proofs.Ytagfolckodpioaa
open Go.RowKit
def i64B (x : Int) : Prop := -9223372036854775808 ≤ x ∧ x ≤ 9223372036854775807
def wiB (x lo hi : Int) : Bool := decide (lo ≤ x ∧ x ≤ hi)
set_option maxHeartbeats 1000000 in
theorem within_is (x lo hi : Int) (w : World) : Calls Try.prog 47 #[.int .i64 x, .int .i64 lo, .int .i64 hi] w fun e w' => e = .returned (.bool (wiB x lo hi)) ∧ w' = w := by
  unfold wiB
  by_cases h : lo ≤ x
  · go_enter Try.func47, Try.ntmps47
    go_wp2
    go_ret
    exact ⟨by simp [h], rfl⟩
  · go_enter Try.func47, Try.ntmps47
    go_wp2
    go_ret
    exact ⟨by rw [decide_eq_false (by omega)]; rfl, rfl⟩
theorem isNode_is (x : Int) (w : World) : Calls Try.prog 49 #[.int .i64 x] w fun e w' => e = .returned (.bool (wiB x 1 7)) ∧ w' = w := by
  have H := hideIt (within_is x 1 7 w)
  go_enter Try.func49, Try.ntmps49
  go_wp2_with fail
  refine H.out.mono ?_
  rintro e w1 ⟨rfl, rfl⟩
  dsimp only
  go_wp2
  go_ret
  exact ⟨rfl, rfl⟩
/-- A message. -/
structure MsgV where
  kind : Int
  frm : Int
  dst : Int
  term : Int
  pi : Int
  pt : Int
  ea : Option Addr
  en : Nat
  ec : Nat
  commit : Int
  ok : Bool
  mtch : Int
  si : Int
  st : Int
  text : ByteArray
def msgC (m : MsgV) : Array Value := #[.int .i64 m.kind, .int .i64 m.frm, .int .i64 m.dst, .int .i64 m.term, .int .i64 m.pi, .int .i64 m.pt, .slice m.ea m.en m.ec, .int .i64 m.commit, .bool m.ok, .int .i64 m.mtch, .int .i64 m.si, .int .i64 m.st, .string m.text]
def fldC (m : MsgV) : Array Value := #[.int .i64 m.pi, .int .i64 m.pt, .int .i64 (m.en : Int), .int .i64 m.commit, .bool m.ok, .int .i64 m.mtch, .int .i64 m.si, .int .i64 m.st, .string m.text]
set_option maxHeartbeats 1000000 in
theorem fieldsOf_is (m : MsgV) (w : World) : Calls Try.prog 58 #[.agg (msgC m)] w fun e w' => e = .returned (.agg (fldC m)) ∧ Below w.heap.size w w' := by
  obtain ⟨kind, frm, dst, term, pi, pt, ea, en, ec, commit, ok, mtch, si, st, text⟩ := m
  simp only [msgC, fldC]
  go_enter Try.func58, Try.ntmps58
  go_wp2
  exact bodyPost_ret (v := .agg #[.int .i64 pi, .int .i64 pt, .int .i64 (en : Int), .int .i64 commit, .bool ok, .int .i64 mtch, .int .i64 si, .int .i64 st, .string text]) (by simp [results, Try.results58, go_sem]) rfl ⟨rfl, ((Below.refl _ _).alloc (Nat.le_refl _) _).alloc (by simp) _⟩
/-- The nine fields that are held against one another. -/
structure FldV where
  pi : Int
  pt : Int
  en : Int
  commit : Int
  ok : Bool
  mtch : Int
  si : Int
  st : Int
  text : ByteArray
def eqF (a b : FldV) : Bool := a.pi == b.pi && a.pt == b.pt && a.en == b.en && a.commit == b.commit && (a.ok == b.ok) && a.mtch == b.mtch && a.si == b.si && a.st == b.st && (a.text.toList == b.text.toList)
theorem iteB (c : Prop) [Decidable c] (b : Bool) (w : World) : (if c then Result.ok (Value.bool b) w else Result.ok (Value.bool false) w) = Result.ok (Value.bool (decide c && b)) w := by
  by_cases h : c <;> simp [h]
set_option maxHeartbeats 4000000 in
theorem eq104 (a1 a2 a3 a4 a6 a7 a8 b1 b2 b3 b4 b6 b7 b8 : Int) (a5 b5 : Bool) (a9 b9 : ByteArray) (w : World) : (binOp .eql 104 (.agg #[.int .i64 a1, .int .i64 a2, .int .i64 a3, .int .i64 a4, .bool a5, .int .i64 a6, .int .i64 a7, .int .i64 a8, .string a9]) (.agg #[.int .i64 b1, .int .i64 b2, .int .i64 b3, .int .i64 b4, .bool b5, .int .i64 b6, .int .i64 b7, .int .i64 b8, .string b9])).run Try.prog w = .ok (.bool (eqF ⟨a1, a2, a3, a4, a5, a6, a7, a8, a9⟩ ⟨b1, b2, b3, b4, b5, b6, b7, b8, b9⟩)) w := by
  unfold eqF
  simp [go_sem]
  simp only [iteB]
  congr 2
  rw [Bool.eq_iff_iff]
  simp only [Bool.and_eq_true, decide_eq_true_eq, beq_iff_eq, and_true, and_assoc]
/-- Two words of a mark. -/
def mkB (i t : Int) : Bool := wiB i 0 1000000 && wiB t 0 1000000 && (t == 0) == (i == 0)
set_option maxHeartbeats 2000000 in
theorem isMark_is (i t : Int) (w : World) : Calls Try.prog 59 #[.agg #[.int .i64 i, .int .i64 t]] w fun e w' => e = .returned (.bool (mkB i t)) ∧ Below w.heap.size w w' := by
  have N1 := hideIt (fun W => within_is i 0 1000000 W)
  have N2 := hideIt (fun W => within_is t 0 1000000 W)
  unfold mkB
  have HB := hideIt ((Below.refl w.heap.size w).alloc (Nat.le_refl _) (.cells #[.int .i64 i, .int .i64 t] 23))
  cases h1 : wiB i 0 1000000
  · rw [h1] at N1
    go_enter Try.func59, Try.ntmps59
    go_wp2_with fail
    refine (N1.out _).mono ?_
    rintro e w1 ⟨rfl, rfl⟩
    dsimp only
    go_wp2
    go_ret
    exact ⟨rfl, HB.out⟩
  · rw [h1] at N1
    cases h2 : wiB t 0 1000000
    · rw [h2] at N2
      go_enter Try.func59, Try.ntmps59
      go_wp2_with fail
      refine (N1.out _).mono ?_
      rintro e w1 ⟨rfl, rfl⟩
      dsimp only
      go_wp2_with fail
      refine (N2.out _).mono ?_
      rintro e w1 ⟨rfl, rfl⟩
      dsimp only
      go_wp2
      go_ret
      exact ⟨rfl, HB.out⟩
    · rw [h2] at N2
      go_enter Try.func59, Try.ntmps59
      go_wp2_with fail
      refine (N1.out _).mono ?_
      rintro e w1 ⟨rfl, rfl⟩
      dsimp only
      go_wp2_with fail
      refine (N2.out _).mono ?_
      rintro e w1 ⟨rfl, rfl⟩
      dsimp only
      go_wp2
      go_ret
      exact ⟨by simp, HB.out⟩
def snB (i t : Int) (n : Nat) : Bool := mkB i t && decide (0 < i) && decide (n ≤ 50000)
set_option maxHeartbeats 2000000 in
theorem isSnap_is (i t : Int) (x : ByteArray) (w : World) : Calls Try.prog 61 #[.agg #[.int .i64 i, .int .i64 t, .string x]] w fun e w' => e = .returned (.bool (snB i t x.size)) ∧ Below w.heap.size w w' := by
  have N1 := hideIt (fun W => isMark_is i t W)
  unfold snB
  have HB := hideIt ((Below.refl w.heap.size w).alloc (Nat.le_refl _) (.cells #[.int .i64 i, .int .i64 t, .string x] 26))
  cases h1 : mkB i t
  · rw [h1] at N1
    go_enter Try.func61, Try.ntmps61
    go_wp2_with fail
    refine (N1.out _).mono ?_
    rintro e w1 ⟨rfl, hb⟩
    dsimp only
    go_wp2
    go_ret
    exact ⟨rfl, HB.out.trans (hb.mono (by simp))⟩
  · rw [h1] at N1
    by_cases h2 : 0 < i
    · have e : decide (x.size ≤ 50000) = decide ((x.size : Int) ≤ 50000) := by rw [decide_eq_decide]; omega
      rw [decide_eq_true h2, e]
      clear e
      go_enter Try.func61, Try.ntmps61
      go_wp2_with fail
      refine (N1.out _).mono ?_
      rintro e w1 ⟨rfl, hb⟩
      dsimp only
      have d0 : w1.cell? ⟨w.heap.size, 0, none⟩ = some (.int .i64 i) := (hb.cell (p := ⟨w.heap.size, 0, none⟩) (by simp)).trans (by simp)
      have d2 : w1.cell? ⟨w.heap.size, 2, none⟩ = some (.string x) := (hb.cell (p := ⟨w.heap.size, 2, none⟩) (by simp)).trans (by simp)
      have HB2 := hideIt hb
      clear hb
      go_wp2
      go_ret
      exact ⟨rfl, HB.out.trans (HB2.out.mono (by simp))⟩
    · rw [decide_eq_false h2]
      go_enter Try.func61, Try.ntmps61
      go_wp2_with fail
      refine (N1.out _).mono ?_
      rintro e w1 ⟨rfl, hb⟩
      dsimp only
      have d0 : w1.cell? ⟨w.heap.size, 0, none⟩ = some (.int .i64 i) := (hb.cell (p := ⟨w.heap.size, 0, none⟩) (by simp)).trans (by simp)
      have HB2 := hideIt hb
      clear hb
      go_wp2
      go_ret
      exact ⟨rfl, HB.out.trans (HB2.out.mono (by simp))⟩
/-- An entry. -/
structure EntV where
  term : Int
  kind : Int
  text : ByteArray
def EntsAt (w : World) (a : Option Addr) (l : List EntV) : Prop :=
  ∀ i (h : i < l.length), ∃ b off, a = some ⟨b, off, none⟩ ∧ b < w.heap.size ∧ w.cell? ⟨b, off + i * 3, none⟩ = some (.int .i64 (l[i]).term) ∧ w.cell? ⟨b, off + i * 3 + 1, none⟩ = some (.int .i64 (l[i]).kind) ∧ w.cell? ⟨b, off + i * 3 + 2, none⟩ = some (.string (l[i]).text)
theorem EntsAt.below {w w' : World} {a : Option Addr} {l : List EntV} {B : Nat} (h : EntsAt w a l) (hb : Below B w w') (hB : w.heap.size ≤ B) : EntsAt w' a l := by
  intro i hi
  obtain ⟨b, off, e, hl, h0, h1, h2⟩ := h i hi
  exact ⟨b, off, e, Nat.lt_of_lt_of_le hl hb.size, (hb.cell (p := ⟨b, off + i * 3, none⟩) (Nat.lt_of_lt_of_le hl hB)).trans h0, (hb.cell (p := ⟨b, off + i * 3 + 1, none⟩) (Nat.lt_of_lt_of_le hl hB)).trans h1, (hb.cell (p := ⟨b, off + i * 3 + 2, none⟩) (Nat.lt_of_lt_of_le hl hB)).trans h2⟩
def entB (e : EntV) : Bool := wiB e.term 1 1000000 && wiB e.kind 1 2 && decide (e.text.size ≤ 4000)
def entsB (l : List EntV) : Bool := decide (l.length ≤ 16) && l.all entB
theorem all_take_succ (l : List EntV) (t : Nat) (h : t < l.length) : (l.take (t + 1)).all entB = ((l.take t).all entB && entB l[t]) := by
  rw [List.take_succ_eq_append_getElem h, List.all_append]
  simp only [List.all_cons, List.all_nil, Bool.and_true]
set_option maxHeartbeats 4000000 in
set_option maxRecDepth 100000 in
theorem areEntries_is (a : Option Addr) (c : Nat) (l : List EntV) (w : World) (h : EntsAt w a l) : Calls Try.prog 60 #[.slice a l.length c] w fun e w' => e = .returned (.bool (entsB l)) ∧ Below w.heap.size w w' := by
  unfold entsB
  have HH := hideIt h
  clear h
  by_cases h16 : l.length ≤ 16
  · have h16I : ¬ (16 : Int) < (l.length : Int) := by omega
    rw [decide_eq_true h16, Bool.true_and]
    go_enter Try.func60, Try.ntmps60
    go_wp2
    go_loopw [10] (fun v wr => ∃ t : Nat, v = .int .i64 t ∧ t ≤ l.length ∧ Hid ((l.take t).all entB = true ∧ Below w.heap.size w wr)) (fun v _ => l.length - (intOf v).toNat)
    case atStart => exact ⟨0, rfl, Nat.zero_le _, hideIt ⟨rfl, Below.refl _ _⟩⟩
    case round =>
      obtain ⟨t, rfl, ht, HR⟩ := hrel
      by_cases hlt : t < l.length
      · have hltI : (t : Int) < (l.length : Int) := by omega
        have ht0 : (0 : Int) ≤ (t : Int) := by omega
        obtain ⟨b, off, rfl, hbl, q0, q1, q2⟩ := HH.out t hlt
        have hB := HR.out.2
        have hBS := hB.size
        have c0 := (hB.cell (p := ⟨b, off + t * 3, none⟩) hbl).trans q0
        have c1 := (hB.cell (p := ⟨b, off + t * 3 + 1, none⟩) hbl).trans q1
        have c2 := (hB.cell (p := ⟨b, off + t * 3 + 2, none⟩) hbl).trans q2
        have hblr : b < wr.heap.size := by omega
        have hat := all_take_succ l t hlt
        have hel : ¬ entB l[t] = true → l.all entB = false := fun hn => by
          rw [Bool.eq_false_iff]
          intro hall
          exact hn (List.all_eq_true.1 hall _ (List.getElem_mem hlt))
        have hB3 : Below w.heap.size w (wr.alloc (.cells #[.int .i64 (l[t]).term, .int .i64 (l[t]).kind, .string (l[t]).text] 41)) := hB.alloc (by omega) _
        obtain ⟨et, ek, ex, hE⟩ : ∃ et ek ex, l[t] = ⟨et, ek, ex⟩ := ⟨_, _, _, rfl⟩
        rw [hE] at c0 c1 c2 hat hel hB3
        clear hE q0 q1 q2 hB
        have HB3 := hideIt hB3
        have HAT := hideIt hat
        have HEL := hideIt hel
        clear hB3 hat hel
        have N1 := hideIt (fun W => within_is et 1 1000000 W)
        have N2 := hideIt (fun W => within_is ek 1 2 W)
        cases h1 : wiB et 1 1000000
        · rw [h1] at N1
          go_wp2_with fail
          refine (N1.out _).mono ?_
          rintro e w1 ⟨rfl, rfl⟩
          dsimp only
          go_wp2
          go_ret
          exact ⟨by rw [HEL.out (by simp [entB, h1])]; rfl, HB3.out⟩
        · rw [h1] at N1
          cases h2 : wiB ek 1 2
          · rw [h2] at N2
            go_wp2_with fail
            refine (N1.out _).mono ?_
            rintro e w1 ⟨rfl, rfl⟩
            dsimp only
            go_wp2_with fail
            refine (N2.out _).mono ?_
            rintro e w1 ⟨rfl, rfl⟩
            dsimp only
            go_wp2
            go_ret
            exact ⟨by rw [HEL.out (by simp [entB, h2])]; rfl, HB3.out⟩
          · rw [h2] at N2
            by_cases h3 : ex.size ≤ 4000
            · have h3I : ¬ (4000 : Int) < (ex.size : Int) := by omega
              go_wp2_with fail
              refine (N1.out _).mono ?_
              rintro e w1 ⟨rfl, rfl⟩
              dsimp only
              go_wp2_with fail
              refine (N2.out _).mono ?_
              rintro e w1 ⟨rfl, rfl⟩
              dsimp only
              go_wp2
              go_roundw
              case rel => exact ⟨t + 1, by go_num, by omega, hideIt ⟨by rw [HAT.out, HR.out.1]; simp [entB, h1, h2, h3], HB3.out⟩⟩
              case measure => simp [intOf]; omega
            · have h3I : (4000 : Int) < (ex.size : Int) := by omega
              go_wp2_with fail
              refine (N1.out _).mono ?_
              rintro e w1 ⟨rfl, rfl⟩
              dsimp only
              go_wp2_with fail
              refine (N2.out _).mono ?_
              rintro e w1 ⟨rfl, rfl⟩
              dsimp only
              go_wp2
              go_ret
              exact ⟨by rw [HEL.out (by simp [entB, h3])]; rfl, HB3.out⟩
      · have hltI : ¬ (t : Int) < (l.length : Int) := by omega
        go_wp2
        go_ret
        have := HR.out.1
        rw [List.take_of_length_le (by omega)] at this
        exact ⟨by rw [this]; rfl, HR.out.2⟩
  · have h16I : (16 : Int) < (l.length : Int) := by omega
    rw [decide_eq_false h16, Bool.false_and]
    go_enter Try.func60, Try.ntmps60
    go_wp2
    go_ret
    exact ⟨rfl, Below.refl _ _⟩
end Go.Proofs.Ytagfolckodpioaa
