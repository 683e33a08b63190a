/- What net's reader answers: numbers, flags, pieces and marks one behind the other, until something is not there. -/
import Derived.Test.YtagfolckodpioaaSeUnf
namespace Go.Proofs.Ytagfolckodpioaa
open Go.RowKit

/-- The reader r in a world: its text, where it stands, whether all was there. -/
def Rd (w : World) (r : Nat) (s : ByteArray) (st : Nat × Bool) : Prop := w.heap[r]? = some (.cells #[.string s, .int .i64 (st.1 : Int), .bool st.2] 126 (0, 0))
def rnum (l : List UInt8) (st : Nat × Bool) : Nat × (Nat × Bool) :=
  if st.2 = true then (if (tkU l st.1).2.2 = 0 ∧ (tkU l st.1).1 ≤ 1000000 then ((tkU l st.1).1, ((tkU l st.1).2.1, true)) else (0, ((tkU l st.1).2.1, false))) else (0, st)
def rpiece (l : List UInt8) (st : Nat × Bool) : List UInt8 × (Nat × Bool) := if st.2 = true then ((tkT l st.1).1, ((tkT l st.1).2.1, (tkT l st.1).2.2 == 0)) else ([], st)
def ReadIs (r : Nat) (s : ByteArray) (v : Value) (st : Nat × Bool) (w : World) (e : Ending) (w' : World) : Prop := e = .returned v ∧ Rd w' r s st ∧ Out (fun k => k = r) w w'
theorem rd_moved {w : World} {r : Nat} {s : ByteArray} {st : Nat × Bool} (h : Rd w r s st) (n nx : Nat) (b : Bool) :
    Rd (((w.drewN n).setCell ⟨r, 1, none⟩ (.int .i64 (nx : Int))).setCell ⟨r, 2, none⟩ (.bool b)) r s (nx, b) ∧ Out (fun k => k = r) w (((w.drewN n).setCell ⟨r, 1, none⟩ (.int .i64 (nx : Int))).setCell ⟨r, 2, none⟩ (.bool b)) := by
  have h0 : (w.drewN n).heap[r]? = some (.cells #[.string s, .int .i64 (st.1 : Int), .bool st.2] 126 (0, 0)) := h
  refine ⟨heap_set (heap_set h0 1 _) 2 _, ?_⟩
  have o1 : Out (fun k => k = r) w (w.drewN n) := Out.ofBelow (below_drewN (Below.refl _ _) n)
  exact (o1.trans (Out.ofSet (F := fun k => k = r) _ ⟨r, 1, none⟩ _ rfl) (fun _ _ e => e)).trans (Out.ofSet (F := fun k => k = r) _ ⟨r, 2, none⟩ _ rfl) (fun _ _ e => e)
set_option maxHeartbeats 1000000 in
theorem rnum_no (r : Nat) (s : ByteArray) (a : Nat) (w : World) (h : Rd w r s (a, false)) :
    Calls Try.prog 88 #[.pointer (some ⟨r, 0, none⟩)] w (ReadIs r s (.int .i64 0) (a, false) w) := by
  have c2 : w.cell? ⟨r, 2, none⟩ = some (.bool false) := by rw [cell_at h]; rfl
  have Hh := hideIt h
  clear h
  go_enter Try.func88, Try.ntmps88
  go_wp2
  go_ret
  exact ⟨rfl, Hh.out, Out.refl _ _⟩
set_option maxHeartbeats 4000000 in
theorem rnum_yes (r : Nat) (s : ByteArray) (a : Nat) (w : World) (hs : s.size ≤ maxLen) (h : Rd w r s (a, true)) :
    Calls Try.prog 88 #[.pointer (some ⟨r, 0, none⟩)] w (ReadIs r s (.int .i64 ((rnum s.data.toList (a, true)).1 : Int)) (rnum s.data.toList (a, true)).2 w) := by
  have c0 : w.cell? ⟨r, 0, none⟩ = some (.string s) := by rw [cell_at h]; rfl
  have c1 : w.cell? ⟨r, 1, none⟩ = some (.int .i64 (a : Int)) := by rw [cell_at h]; rfl
  have c2 : w.cell? ⟨r, 2, none⟩ = some (.bool true) := by rw [cell_at h]; rfl
  have f1 : w.frozen? ⟨r, 1, none⟩ = false := free_at h 1
  have f2 : w.frozen? ⟨r, 2, none⟩ = false := free_at h 2
  have hn := tkU_lt s.data.toList a
  obtain ⟨n, nx, er, hr⟩ := tup_split s.data.toList a
  have ht := fun wx => take_any s a wx hs
  simp only [hr, tup] at ht
  rw [hr] at hn
  have hrn : rnum s.data.toList (a, true) = if er = 0 ∧ n ≤ 1000000 then (n, (nx, true)) else (0, (nx, false)) := by
    unfold rnum
    simp only [hr, if_true]
  rw [hrn]
  have Ht := hideIt ht
  have Hh := hideIt h
  clear ht h hr hrn
  simp only at hn
  by_cases he : er = 0
  · subst he
    by_cases hle : n ≤ 1000000
    · have hleI : (n : Int) ≤ 1000000 := by omega
      rw [if_pos ⟨rfl, hle⟩]
      go_enter Try.func88, Try.ntmps88
      go_wp2
      go_quiet (first | (go_at_call 94; exact Calls.quiet_of_same (Ht.out _)))
      go_wp2
      go_ret
      exact ⟨rfl, rd_moved Hh.out _ _ _⟩
    · have hleI : ¬ (n : Int) ≤ 1000000 := by omega
      have hleb : decide ((n : Int) ≤ 1000000) = false := decide_eq_false hleI
      clear hleI
      rw [if_neg (fun h => hle h.2)]
      go_enter Try.func88, Try.ntmps88
      go_wp2
      go_quiet (first | (go_at_call 94; exact Calls.quiet_of_same (Ht.out _)))
      go_wp2
      go_ret
      exact ⟨rfl, rd_moved Hh.out _ _ _⟩
  · have heb : ((er : Int) == 0) = false := beq_eq_false_iff_ne.2 (by omega)
    rw [if_neg (fun h => he h.1)]
    go_enter Try.func88, Try.ntmps88
    go_wp2
    go_quiet (first | (go_at_call 94; exact Calls.quiet_of_same (Ht.out _)))
    go_wp2
    go_ret
    exact ⟨rfl, rd_moved Hh.out _ _ _⟩
theorem rnum_any (r : Nat) (s : ByteArray) (st : Nat × Bool) (w : World) (hs : s.size ≤ maxLen) (h : Rd w r s st) :
    Calls Try.prog 88 #[.pointer (some ⟨r, 0, none⟩)] w (ReadIs r s (.int .i64 ((rnum s.data.toList st).1 : Int)) (rnum s.data.toList st).2 w) := by
  obtain ⟨a, ok⟩ := st
  cases ok
  · exact rnum_no r s a w h
  · exact rnum_yes r s a w hs h
set_option maxHeartbeats 1000000 in
theorem rpiece_no (r : Nat) (s : ByteArray) (a : Nat) (w : World) (h : Rd w r s (a, false)) :
    Calls Try.prog 92 #[.pointer (some ⟨r, 0, none⟩)] w (ReadIs r s (.string ⟨#[]⟩) (a, false) w) := by
  have c2 : w.cell? ⟨r, 2, none⟩ = some (.bool false) := by rw [cell_at h]; rfl
  have Hh := hideIt h
  clear h
  go_enter Try.func92, Try.ntmps92
  go_wp2
  go_ret
  exact ⟨rfl, Hh.out, Out.refl _ _⟩
theorem rd_moved2 {w w1 : World} {r : Nat} {s : ByteArray} {st : Nat × Bool} (h : Rd w r s st) (hb : Below w.heap.size w w1) (nx : Nat) (b : Bool) :
    Rd ((w1.setCell ⟨r, 1, none⟩ (.int .i64 (nx : Int))).setCell ⟨r, 2, none⟩ (.bool b)) r s (nx, b) ∧ Out (fun k => k = r) w ((w1.setCell ⟨r, 1, none⟩ (.int .i64 (nx : Int))).setCell ⟨r, 2, none⟩ (.bool b)) := by
  have hlt : r < w.heap.size := (Array.getElem?_eq_some_iff.1 h).1
  have h0 : w1.heap[r]? = some (.cells #[.string s, .int .i64 (st.1 : Int), .bool st.2] 126 (0, 0)) := (hb.block r hlt).trans h
  refine ⟨heap_set (heap_set h0 1 _) 2 _, ?_⟩
  have o1 : Out (fun k => k = r) w w1 := Out.ofBelow hb
  exact (o1.trans (Out.ofSet (F := fun k => k = r) _ ⟨r, 1, none⟩ _ rfl) (fun _ _ e => e)).trans (Out.ofSet (F := fun k => k = r) _ ⟨r, 2, none⟩ _ rfl) (fun _ _ e => e)
set_option maxHeartbeats 2000000 in
set_option maxRecDepth 100000 in
theorem rpiece_yes (r : Nat) (s : ByteArray) (a : Nat) (w : World) (hs : s.size ≤ maxLen) (h : Rd w r s (a, true)) :
    Calls Try.prog 92 #[.pointer (some ⟨r, 0, none⟩)] w (ReadIs r s (.string ⟨(tkT s.data.toList a).1.toArray⟩) ((tkT s.data.toList a).2.1, (tkT s.data.toList a).2.2 == 0) w) := by
  have hlt : r < w.heap.size := (Array.getElem?_eq_some_iff.1 h).1
  have c0 : w.cell? ⟨r, 0, none⟩ = some (.string s) := by rw [cell_at h]; rfl
  have c1 : w.cell? ⟨r, 1, none⟩ = some (.int .i64 (a : Int)) := by rw [cell_at h]; rfl
  have c2 : w.cell? ⟨r, 2, none⟩ = some (.bool true) := by rw [cell_at h]; rfl
  have f1 : w.frozen? ⟨r, 1, none⟩ = false := free_at h 1
  have f2 : w.frozen? ⟨r, 2, none⟩ = false := free_at h 2
  obtain ⟨t, nx, er, hr⟩ : ∃ t nx er, tkT s.data.toList a = (t, nx, er) := ⟨_, _, _, rfl⟩
  rw [hr]
  have Ht : ∀ wx, Below w.heap.size w wx → Calls Try.prog 95 #[.string s, .int .i64 (a : Int)] wx fun e w' => e = .returned (.tuple #[.string ⟨t.toArray⟩, .int .i64 (nx : Int), .int .i64 (er : Int)]) ∧ Below w.heap.size w w' ∧ w'.cell? ⟨r, 0, none⟩ = some (.string s) ∧ w'.cell? ⟨r, 1, none⟩ = some (.int .i64 (a : Int)) := by
    intro wx hx
    refine (takeText_any s a wx hs).mono ?_
    rintro e w' ⟨rfl, hb⟩
    rw [hr]
    have hb2 : Below w.heap.size w w' := hx.trans (hb.mono hx.size)
    exact ⟨rfl, hb2, (hb2.cell hlt).trans c0, (hb2.cell hlt).trans c1⟩
  have Hh := hideIt h
  have HT := hideIt Ht
  clear Ht h hr
  go_enter Try.func92, Try.ntmps92
  go_upto_region 3 with fail
  go_cut [3, 4, 5] from 11 to 23 (fun v3 v4 v5 wx => v3 = .string ⟨t.toArray⟩ ∧ v4 = .int .i64 (nx : Int) ∧ v5 = .int .i64 (er : Int) ∧ Below w.heap.size w wx)
  case first =>
    go_region_held3 (fun w' => w'.cell? ⟨r, 0, none⟩ = some (.string s) ∧ w'.cell? ⟨r, 1, none⟩ = some (.int .i64 (a : Int))) (go_keep) (first | (go_at_call 95; refine (HT.out _ (by first | exact (Below.refl _ _).drew | exact Below.refl _ _)).mono ?_; rintro e w5 ⟨rfl, hst, j1, j2⟩))
    all_goals go_wp2_with fail
    all_goals go_meet
    all_goals exact ⟨rfl, rfl, rfl, hst⟩
  case rest =>
  obtain ⟨rfl, rfl, rfl, hb⟩ := hcut
  have d1 := (hb.cell (p := ⟨r, 1, none⟩) hlt).trans c1
  have d2 := (hb.cell (p := ⟨r, 2, none⟩) hlt).trans c2
  have g1 := (hb.frozen (p := ⟨r, 1, none⟩) hlt).trans f1
  have g2 := (hb.frozen (p := ⟨r, 2, none⟩) hlt).trans f2
  go_wp2
  go_ret
  have e : ((er : Int) == 0) = (er == 0) := by cases er <;> rfl
  rw [e]
  exact ⟨rfl, rd_moved2 Hh.out hb _ _⟩
theorem rpiece_any (r : Nat) (s : ByteArray) (st : Nat × Bool) (w : World) (hs : s.size ≤ maxLen) (h : Rd w r s st) :
    Calls Try.prog 92 #[.pointer (some ⟨r, 0, none⟩)] w (ReadIs r s (.string ⟨(rpiece s.data.toList st).1.toArray⟩) (rpiece s.data.toList st).2 w) := by
  obtain ⟨a, ok⟩ := st
  cases ok
  · exact rpiece_no r s a w h
  · exact rpiece_yes r s a w hs h
theorem rnum_le (l : List UInt8) (st : Nat × Bool) : (rnum l st).1 ≤ 1000000 := by
  unfold rnum
  split
  · split
    · rename_i h; exact h.2
    · exact Nat.zero_le _
  · exact Nat.zero_le _
/-- A mark is read. -/
def rspot (l : List UInt8) (st : Nat × Bool) : (Nat × Nat) × (Nat × Bool) := (((rnum l st).1, (rnum l (rnum l st).2).1), (rnum l (rnum l st).2).2)
set_option maxHeartbeats 2000000 in
theorem rspot_any (r : Nat) (s : ByteArray) (st : Nat × Bool) (w : World) (hs : s.size ≤ maxLen) (h : Rd w r s st) :
    Calls Try.prog 89 #[.pointer (some ⟨r, 0, none⟩)] w (ReadIs r s (.agg #[.int .i64 ((rspot s.data.toList st).1.1 : Int), .int .i64 ((rspot s.data.toList st).1.2 : Int)]) (rspot s.data.toList st).2 w) := by
  have hlt : r < w.heap.size := (Array.getElem?_eq_some_iff.1 h).1
  have h2 : Rd (w.alloc (.cells #[.int .i64 0, .int .i64 0] 23)) r s st := (heap_alloc_old w _ hlt).trans h
  unfold rspot
  have H1 := hideIt (rnum_any r s st _ hs h2)
  have H2 := hideIt (fun W h => rnum_any r s (rnum s.data.toList st).2 W hs h)
  obtain ⟨x1, st1, e1⟩ : ∃ x1 st1, rnum s.data.toList st = (x1, st1) := ⟨_, _, rfl⟩
  obtain ⟨x2, st2, e2⟩ : ∃ x2 st2, rnum s.data.toList st1 = (x2, st2) := ⟨_, _, rfl⟩
  simp only [e1, e2] at H1 H2 ⊢
  clear h h2 e1 e2
  go_enter Try.func89, Try.ntmps89
  go_wp2_with fail
  refine H1.out.mono ?_
  rintro e w1 ⟨rfl, hr1, ho1⟩
  dsimp only
  go_wp2_with fail
  refine (H2.out _ hr1).mono ?_
  rintro e w2 ⟨rfl, hr2, ho2⟩
  dsimp only
  have hz1 : w1.heap[w.heap.size]? = some (.cells #[.int .i64 0, .int .i64 0] 23 (0, 0)) := (ho1.block w.heap.size (by simp) (by omega)).trans (heap_alloc_new w _)
  have hs1 := ho1.size
  have hz2 : w2.heap[w.heap.size]? = some (.cells #[.int .i64 0, .int .i64 0] 23 (0, 0)) := (ho2.block w.heap.size (by simp at hs1; omega) (by omega)).trans hz1
  have d0 : w2.cell? ⟨w.heap.size, 0, none⟩ = some (.int .i64 0) := by rw [cell_at hz2]; rfl
  have d1 : w2.cell? ⟨w.heap.size, 1, none⟩ = some (.int .i64 0) := by rw [cell_at hz2]; rfl
  have g0 : w2.frozen? ⟨w.heap.size, 0, none⟩ = false := free_at hz2 _
  have g1 : w2.frozen? ⟨w.heap.size, 1, none⟩ = false := free_at hz2 _
  have HX := hideIt (And.intro hr2 (And.intro ho1 (And.intro ho2 hz2)))
  clear hr1 hr2 ho1 ho2 hz1 hz2 hs1 H1 H2
  go_wp2
  obtain ⟨hr2, ho1, ho2, hz2⟩ := HX.out
  have hz3 := heap_set (heap_set hz2 0 (.int .i64 (x1 : Int))) 1 (.int .i64 (x2 : Int))
  refine bodyPost_ret (v := .agg #[.int .i64 (x1 : Int), .int .i64 (x2 : Int)]) (by simp [results, Try.results89, go_sem, cell_at hz3]) rfl ⟨rfl, ?_, ?_⟩
  · show _ = _
    rw [heap_set_other _ _ _ _ _ (by omega), heap_set_other _ _ _ _ _ (by omega)]
    exact hr2
  · have o3 : Out (fun k => k = r) w w2 := ((Out.ofAlloc w _).trans ho1 (fun _ _ h => h)).trans ho2 (fun _ _ h => h)
    refine ⟨o3.os, o3.tape, o3.output, by simpa using o3.size, fun i hi hn => ?_⟩
    rw [heap_set_other _ _ _ _ _ (by omega), heap_set_other _ _ _ _ _ (by omega)]
    exact o3.block i hi hn
/-- A flag is read. -/
def rflag (l : List UInt8) (st : Nat × Bool) : Bool × (Nat × Bool) := (decide ((rnum l st).1 = 1), ((rnum l st).2.1, (rnum l st).2.2 && decide ((rnum l st).1 ≤ 1)))
set_option maxHeartbeats 2000000 in
theorem rflag_any (r : Nat) (s : ByteArray) (st : Nat × Bool) (w : World) (hs : s.size ≤ maxLen) (h : Rd w r s st) :
    Calls Try.prog 90 #[.pointer (some ⟨r, 0, none⟩)] w (ReadIs r s (.bool (rflag s.data.toList st).1) (rflag s.data.toList st).2 w) := by
  unfold rflag
  have H1 := hideIt (rnum_any r s st _ hs h)
  have hle := rnum_le s.data.toList st
  obtain ⟨x1, ⟨a1, k1⟩, e1⟩ : ∃ x1 st1, rnum s.data.toList st = (x1, st1) := ⟨_, _, rfl⟩
  simp only [e1] at H1 hle ⊢
  clear h e1
  have hd1 : decide (x1 ≤ 1) = decide ((x1 : Int) ≤ 1) := by rw [decide_eq_decide]; omega
  have hd2 : decide (x1 = 1) = ((x1 : Int) == 1) := by rw [Bool.eq_iff_iff]; simp; omega
  rw [hd1, hd2]
  clear hd1 hd2
  cases k1
  · go_enter Try.func90, Try.ntmps90
    go_wp2_with fail
    refine H1.out.mono ?_
    rintro e w1 ⟨rfl, hr1, ho1⟩
    dsimp only
    have d2 : w1.cell? ⟨r, 2, none⟩ = some (.bool false) := by rw [cell_at hr1]; rfl
    have g2 : w1.frozen? ⟨r, 2, none⟩ = false := free_at hr1 _
    have HX := hideIt (And.intro hr1 ho1)
    clear hr1 ho1
    go_wp2
    go_ret
    obtain ⟨hr1, ho1⟩ := HX.out
    exact ⟨rfl, heap_set hr1 2 _, ho1.trans (Out.ofSet (F := fun k => k = r) _ ⟨r, 2, none⟩ _ rfl) (fun _ _ h => h)⟩
  · go_enter Try.func90, Try.ntmps90
    go_wp2_with fail
    refine H1.out.mono ?_
    rintro e w1 ⟨rfl, hr1, ho1⟩
    dsimp only
    have d2 : w1.cell? ⟨r, 2, none⟩ = some (.bool true) := by rw [cell_at hr1]; rfl
    have g2 : w1.frozen? ⟨r, 2, none⟩ = false := free_at hr1 _
    have HX := hideIt (And.intro hr1 ho1)
    clear hr1 ho1
    go_wp2
    go_ret
    obtain ⟨hr1, ho1⟩ := HX.out
    exact ⟨rfl, heap_set hr1 2 _, ho1.trans (Out.ofSet (F := fun k => k = r) _ ⟨r, 2, none⟩ _ rfl) (fun _ _ h => h)⟩
end Go.Proofs.Ytagfolckodpioaa
