/- What pack.TakeList answers: the texts that stand there, in memory of its own, or the error. -/
import Derived.Test.YtfbdhihhimfaaaaTakeText
import Derived.Test.YtfbdhihhimfaaaaWrites
namespace Go.Proofs.Ytfbdhihhimfaaaa
open Go.RowKit

/-- The texts of a list, taken one behind the other. -/
def rdA (l : List UInt8) : Nat → List (List UInt8) → Nat → List (List UInt8) × Nat × Nat
  | 0, acc, p => (acc, p, 0)
  | k + 1, acc, p => if (tkT l (p : Int)).2.2 ≠ 0 then ([], 0, (tkT l (p : Int)).2.2) else rdA l k (acc ++ [(tkT l (p : Int)).1]) (tkT l (p : Int)).2.1
/-- TakeList. -/
def tkL (l : List UInt8) (a : Int) : List (List UInt8) × Nat × Nat :=
  if (tkU l a).2.2 ≠ 0 then ([], 0, (tkU l a).2.2) else if 4000 < (tkU l a).1 then ([], 0, 11) else rdA l (tkU l a).1 [] (tkU l a).2.1
theorem rdA_zero (l : List UInt8) (acc : List (List UInt8)) (p : Nat) : rdA l 0 acc p = (acc, p, 0) := rfl
theorem rdA_no (l : List UInt8) (k : Nat) (acc : List (List UInt8)) (p : Nat) (h : (tkT l (p : Int)).2.2 ≠ 0) : rdA l (k + 1) acc p = ([], 0, (tkT l (p : Int)).2.2) := by simp [rdA, h]
theorem rdA_yes (l : List UInt8) (k : Nat) (acc : List (List UInt8)) (p : Nat) (h : (tkT l (p : Int)).2.2 = 0) : rdA l (k + 1) acc p = rdA l k (acc ++ [(tkT l (p : Int)).1]) (tkT l (p : Int)).2.1 := by simp [rdA, h]
theorem tkT_facts (l : List UInt8) (a : Int) : (tkT l a).1.length ≤ 60000 ∧ (tkT l a).2.1 ≤ l.length := by
  obtain ⟨n, nx, er, hr⟩ := tup_split l a
  by_cases her : er = 0
  · have hnx := (tkU_next l a (by rw [hr]; exact her)).2.2
    rw [hr] at hnx
    simp only at hnx
    subst her
    by_cases hlong : 60000 < n
    · rw [tkT_long _ _ hr hlong]; simp
    · by_cases hcut : l.length < nx + n
      · rw [tkT_cut _ _ hr hlong hcut]; simp
      · rw [tkT_yes _ _ hr hlong hcut]
        simp
        omega
  · rw [tkT_err _ _ hr her]; simp
theorem own_base {w : World} {B B' : Nat} {e : TypeId} {v : Value} {n : Nat} {xs : List Value} (h : w.ownsRow B e 1 v n xs) (hB : B' ≤ B) : w.ownsRow B' e 1 v n xs := by
  refine ⟨h.1, ?_⟩
  rcases h.2 with h | ⟨g, cap, cur, hv, hb, r⟩
  · exact .inl h
  · exact .inr ⟨g, cap, cur, hv, by omega, r⟩
theorem own_keep {w w' : World} {B : Nat} {e : TypeId} {v : Value} {n : Nat} {xs : List Value} (h : w.ownsRow B e 1 v n xs) (hb : Below w.heap.size w w') : w'.ownsRow B e 1 v n xs :=
  h.kept (row := none) ⟨hb.os, hb.tape, hb.output, hb.size, fun k hk _ => hb.block k hk⟩ (by cases v.ownBlock <;> simp)
theorem oneS (x : ByteArray) : ∀ u ∈ [Value.string x], u.oneCell' = true := by intro u hu; simp at hu; subst hu; rfl
def sizesOk (ss : List ByteArray) : Prop := ∀ s ∈ ss, s.size ≤ 60000
/-- What the closure of TakeList leaves. -/
def ListDone (r : List (List UInt8) × Nat × Nat) (b1 B C : Nat) (w : World) (e : Ending) (w' : World) : Prop :=
  e = .returned (.tuple #[.int .i64 (r.2.1 : Int), .int .i64 (r.2.2 : Int)]) ∧
  (r.2.2 = 0 → ∃ v acc, w'.cell? ⟨b1, 0, none⟩ = some v ∧ w'.ownsRow C 9 1 v acc.length (acc.map Value.string) ∧ byt acc = r.1 ∧ sizesOk acc) ∧ Below B w w'
/-- What stands at the head of each round. -/
def Gath (s : ByteArray) (b0 b1 B C : Nat) (w : World) (acc : List ByteArray) (v : Value) (wr : World) : Prop :=
  wr.cell? ⟨b0, 0, none⟩ = some (.string s) ∧ wr.cell? ⟨b1, 0, none⟩ = some v ∧ wr.frozen? ⟨b1, 0, none⟩ = false ∧ wr.ownsRow C 9 1 v acc.length (acc.map Value.string) ∧ Below B w wr ∧ C ≤ wr.heap.size ∧ sizesOk acc
theorem Gath.keep {s : ByteArray} {b0 b1 B C : Nat} {w wr w1 : World} {acc : List ByteArray} {v : Value} (h : Gath s b0 b1 B C w acc v wr) (hb : Below wr.heap.size wr w1) (h0 : b0 < C) (h1 : b1 < C) (hBC : B ≤ C) : Gath s b0 b1 B C w acc v w1 := by
  obtain ⟨g1, g2, g3, g4, g5, g6, g7⟩ := h
  exact ⟨(hb.cell (by show b0 < _; omega)).trans g1, (hb.cell (by show b1 < _; omega)).trans g2, (hb.frozen (by show b1 < _; omega)).trans g3, own_keep g4 hb, g5.trans (hb.mono (by omega)), by have := hb.size; omega, g7⟩
theorem Gath.step {s : ByteArray} {b0 b1 B C : Nat} {w wr w1 : World} {acc : List ByteArray} {v v' : Value} {x : ByteArray} {o : Obj} (h : Gath s b0 b1 B C w acc v wr) (h0 : b0 < C) (h1 : b1 < C) (hne : b0 ≠ b1) (hB : B ≤ b1)
    (hx : x.size ≤ 60000) (hown : w1.ownsRow C 9 1 v' (acc.length + 1) (acc.map Value.string ++ [Value.string x])) (hg : (wr.alloc o).grownBy w1 v.ownBlock) :
    w1.cell? ⟨b1, 0, none⟩ = some v ∧ w1.frozen? ⟨b1, 0, none⟩ = false ∧ Gath s b0 b1 B C w (acc ++ [x]) v' (w1.setCell ⟨b1, 0, none⟩ v') := by
  obtain ⟨g1, g2, g3, g4, g5, g6, g7⟩ := h
  have hnb : ∀ j, j < C → some j ≠ v.ownBlock := fun j hj hh => by have := (g4.lt j hh.symm).1; omega
  have c1 : w1.cell? ⟨b1, 0, none⟩ = some v := hg.cell ((World.cell?_alloc_past _ _ _ (by show b1 < _; omega)).trans g2) (hnb b1 h1)
  have c0 : w1.cell? ⟨b0, 0, none⟩ = some (.string s) := hg.cell ((World.cell?_alloc_past _ _ _ (by show b0 < _; omega)).trans g1) (hnb b0 h0)
  have f1 : w1.frozen? ⟨b1, 0, none⟩ = false := by
    rw [World.frozen?_of_block (w := wr.alloc o) (hg.block b1 (by simp; omega) (hnb b1 h1))]
    exact (World.frozen?_alloc_past _ _ _ (by show b1 < _; omega)).trans g3
  have hs1 : C ≤ w1.heap.size := by have := hg.size; simp at this; omega
  refine ⟨c1, f1, ?_, ?_, ?_, ?_, ?_, ?_, ?_⟩
  · rw [World.cell?_setCell_other _ _ _ _ (by intro e; cases e; exact hne rfl)]; exact c0
  · exact World.cell?_setCell_same _ _ _ c1
  · rw [World.frozen?_setCell]; exact f1
  · have := ownsRow_setCell_below hown (a := ⟨b1, 0, none⟩) h1 v'
    simpa using this
  · exact (((g5.alloc (by omega) o).grown hg (by simp; omega) (fun k hk => by have := (g4.lt k hk).1; omega)).setCell (p := ⟨b1, 0, none⟩) hB _)
  · simpa [World.setCell] using hs1
  · intro t ht
    rcases List.mem_append.1 ht with h | h
    · exact g7 t h
    · simp at h; subst h; exact hx
theorem s3 (n : Nat) (h : n ≤ 4000) : n + 1 ≤ maxLen := by unfold maxLen; omega
theorem s4 (n : Nat) (h : n ≤ 4000) : (n + 1) * 16 ≤ 140737488355328 := by omega
set_option maxHeartbeats 2000000 in
set_option maxRecDepth 100000 in
theorem clos34 (s : ByteArray) (n nx : Nat) (b0 b1 B C : Nat) (w : World) (hs : s.size ≤ maxLen) (hn : n ≤ 4000) (hnx : nx ≤ s.size) (h0 : b0 < C) (h1 : b1 < C) (hne : b0 ≠ b1) (hB : B ≤ b1)
    (hG : Gath s b0 b1 B C w [] (.slice none 0 0) w) :
    Calls Try.prog 34 #[.int .i64 (n : Int), .int .i64 (nx : Int), .pointer (some ⟨b0, 0, none⟩), .pointer (some ⟨b1, 0, none⟩)] w (ListDone (rdA s.data.toList n [] nx) b1 B C w) := by
  obtain ⟨i0, hi, hz0, hz1, hz2⟩ := info_parts info9
  have hsl : s.data.toList.length = s.size := by simp
  have hs2 := hs
  unfold maxLen at hs2
  go_enter Try.func34, Try.ntmps34
  go_wp2
  go_loopw [1, 12] (fun p c wr => ∃ (k q : Nat) (acc : List ByteArray) (v : Value), k ≤ n ∧ q ≤ s.size ∧ p = .int .i64 (q : Int) ∧ c = .int .i64 (k : Int) ∧ Hid (acc.length = k) ∧ Hid (Gath s b0 b1 B C w acc v wr) ∧ Hid (rdA s.data.toList n [] nx = rdA s.data.toList (n - k) (byt acc) q)) (fun _ c _ => n - (intOf c).toNat)
  case atStart => exact ⟨0, nx, [], _, by omega, hnx, rfl, rfl, rfl, hG, rfl⟩
  case round =>
    clear hG
    obtain ⟨k, q, acc, v, hk, hq, rfl, rfl, Hal, HG, Hr⟩ := hrel
    have hal : acc.length ≤ 4000 := by rw [Hal.out]; omega
    have hc0 := HG.out.1
    have hc1 := HG.out.2.1
    have hf1 := HG.out.2.2.1
    have hCw := HG.out.2.2.2.2.2.1
    by_cases hlt : k < n
    · have hlt' : (k : Int) < n := by omega
      have hfa := tkT_facts s.data.toList (q : Int)
      obtain ⟨tx, nq, er, hT⟩ : ∃ tx nq er, tkT s.data.toList (q : Int) = (tx, nq, er) := ⟨_, _, _, rfl⟩
      have hct := takeText_any s (q : Int) wr hs
      rw [hT] at hct hfa
      unfold tupT at hct
      have Hc := hideIt hct
      clear hct
      simp only at hfa
      rw [hsl] at hfa
      obtain ⟨hfa1, hfa2⟩ := hfa
      by_cases her : er = 0
      · subst her
        have Hr2 : Hid (rdA s.data.toList n [] nx = rdA s.data.toList (n - (k + 1)) (byt (acc ++ [⟨tx.toArray⟩])) nq) := by
          show _ = _
          rw [Hr.out, show n - k = (n - (k + 1)) + 1 by omega, rdA_yes _ _ _ _ (by rw [hT]), hT]
          simp [byt]
        clear hT Hr
        go_wp2_with fail
        refine Hc.out.mono ?_
        rintro e w1 ⟨rfl, hb1⟩
        have HG1 := hideIt (HG.out.keep hb1 h0 h1 (by omega))
        clear HG hc0 hc1 hf1 Hc
        have hc1 := HG1.out.2.1
        have hown := HG1.out.2.2.2.1
        have hC1 := HG1.out.2.2.2.2.2.1
        go_wp2_with (at_builtin; refine wpList_append_own _ rfl _ _ 23 rfl C 9 i0 (.string ⟨#[]⟩) 1 16 Try.underlying23 hi hz0 hz1 hz2 rfl (by decide) _ _ _ rfl (hown.alloc _) ⟨w1.heap.size, 0, none⟩ 1 1 [.string ⟨tx.toArray⟩] rfl rfl (cell_one_new _ _ _) (oneS _) (s3 _ (by omega)) (s4 _ (by omega)) (q5 hC1 _) ?_)
        intro v' w2 hown' hgrow _
        obtain ⟨d1, f1, hG2⟩ := HG1.out.step (x := ⟨tx.toArray⟩) h0 h1 hne hB (by rw [sizeL]; omega) hown' hgrow
        have HG2 := hideIt hG2
        clear hc1 hown HG1 hgrow hG2
        obtain ⟨ao, n', cap, rfl⟩ : ∃ ao n' cap, v' = .slice ao n' cap := by
          rcases hown'.2 with ⟨hv, _⟩ | ⟨g, cap, cur, hv, _⟩
          · exact ⟨_, _, _, hv⟩
          · exact ⟨_, _, _, hv⟩
        clear hown'
        go_wp2
        go_roundw
        case rel => exact ⟨k + 1, nq, acc ++ [⟨tx.toArray⟩], _, by omega, by omega, rfl, by go_num, by show _ = _; rw [List.length_append, Hal.out]; rfl, HG2, Hr2⟩
        case measure => simp [intOf]; omega
      · have He : Hid (∀ w1, Below wr.heap.size wr w1 → ListDone (rdA s.data.toList n [] nx) b1 B C w (.returned (.tuple #[.int .i64 0, .int .i64 (er : Int)])) w1) := by
          intro w1 hb1
          rw [Hr.out, show n - k = (n - (k + 1)) + 1 by omega, rdA_no _ _ _ _ (by rw [hT]; exact her), hT]
          exact ⟨rfl, fun h => absurd h her, HG.out.2.2.2.2.1.trans (hb1.mono (by omega))⟩
        have her' : ((er : Int) != 0) = true := by simp; omega
        clear hT Hr
        go_wp2_with fail
        refine Hc.out.mono ?_
        rintro e w1 ⟨rfl, hb1⟩
        go_wp2
        go_ret2
        exact He.out w1 hb1
    · have hlt' : ¬ (k : Int) < n := by omega
      have He : Hid (ListDone (rdA s.data.toList n [] nx) b1 B C w (.returned (.tuple #[.int .i64 (q : Int), .int .i64 0])) wr) := by
        show ListDone _ _ _ _ _ _ _
        rw [Hr.out, show n - k = 0 by omega, rdA_zero]
        exact ⟨rfl, fun _ => ⟨v, acc, hc1, HG.out.2.2.2.1, rfl, HG.out.2.2.2.2.2.2⟩, HG.out.2.2.2.2.1⟩
      clear hc0 hc1 hf1
      go_wp2
      go_ret2
      exact He.out
end Go.Proofs.Ytfbdhihhimfaaaa
