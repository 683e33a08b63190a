/- The document's disk as it lies in memory; a new one; what it tells. -/
import Derived.Test.YtpgimffghaelhaaBegun
import Derived.Laws.MakeOwn
namespace Go.Proofs.Ytpgimffghaelhaa
open Go.RowKit Go.Maps

def bytesV (f : Nat → Seg) (k : Nat) : Value := .string ⟨(f k).bytes.toArray⟩
/-- The document's disk: fields, a row of texts, a row of numbers. -/
structure RCore (w : World) (F : Nat → Prop) (q bb sb cb cc : Nat) (room : Nat) (fuse : Int) (age : Nat) (f : Nat → Seg) : Prop where
  cells : w.heap[q]? = some (.cells #[.int .i64 (room : Int), .slice (some ⟨bb, 0, none⟩) 1000 cb, .slice (some ⟨sb, 0, none⟩) 1000 cc, .int .i64 fuse, .int .i64 (age : Int)] 66 (0, 0))
  texts : ∃ cur, w.heap[bb]? = some (.cells cur 9 (0, 0)) ∧ ∀ k, k < 1000 → cur[k]? = some (bytesV f k)
  safes : ∃ cur, w.heap[sb]? = some (.cells cur 3 (0, 0)) ∧ ∀ k, k < 1000 → cur[k]? = some (.int .i64 ((f k).safe : Int))
  inq : F q
  inb : F bb
  ins : F sb
  qb : q ≠ bb
  qs : q ≠ sb
  bs : bb ≠ sb
def RefAt (w : World) (F : Nat → Prop) (q : Nat) (S : St) (N : Nat) : Prop := ∃ bb sb cb cc, RCore w F q bb sb cb cc S.room S.fuse S.age S.seg ∧ good S ∧ S.age ≤ N ∧ N < 1099511627776
theorem RCore.keep {w w' : World} {F : Nat → Prop} {q bb sb cb cc room : Nat} {fuse : Int} {age : Nat} {f : Nat → Seg} (h : RCore w F q bb sb cb cc room fuse age f) (hb : ∀ k, F k → k < w.heap.size → w'.heap[k]? = w.heap[k]?) : RCore w' F q bb sb cb cc room fuse age f := by
  obtain ⟨cb', h1, h2⟩ := h.texts
  obtain ⟨cs', h3, h4⟩ := h.safes
  exact ⟨(hb q h.inq (Array.getElem?_eq_some_iff.1 h.cells).1).trans h.cells, ⟨cb', (hb bb h.inb (Array.getElem?_eq_some_iff.1 h1).1).trans h1, h2⟩, ⟨cs', (hb sb h.ins (Array.getElem?_eq_some_iff.1 h3).1).trans h3, h4⟩, h.inq, h.inb, h.ins, h.qb, h.qs, h.bs⟩
theorem RefAt.keep {w w' : World} {F : Nat → Prop} {q : Nat} {S : St} {N : Nat} (h : RefAt w F q S N) (hb : ∀ k, F k → k < w.heap.size → w'.heap[k]? = w.heap[k]?) : RefAt w' F q S N := by
  obtain ⟨bb, sb, cb, cc, hc, r⟩ := h
  exact ⟨bb, sb, cb, cc, hc.keep hb, r⟩
theorem RefAt.below {w w' : World} {F : Nat → Prop} {q : Nat} {S : St} {N : Nat} (h : RefAt w F q S N) (hb : Below w.heap.size w w') : RefAt w' F q S N := h.keep (fun k _ hk => hb.block k hk)
theorem RCore.text {w : World} {F : Nat → Prop} {q bb sb cb cc room : Nat} {fuse : Int} {age : Nat} {f : Nat → Seg} (h : RCore w F q bb sb cb cc room fuse age f) (k : Nat) (hk : k < 1000) : w.cell? ⟨bb, k, none⟩ = some (bytesV f k) := by
  obtain ⟨cur, h1, h2⟩ := h.texts
  rw [cell_at h1]; exact h2 k hk
theorem RCore.safe {w : World} {F : Nat → Prop} {q bb sb cb cc room : Nat} {fuse : Int} {age : Nat} {f : Nat → Seg} (h : RCore w F q bb sb cb cc room fuse age f) (k : Nat) (hk : k < 1000) : w.cell? ⟨sb, k, none⟩ = some (.int .i64 ((f k).safe : Int)) := by
  obtain ⟨cur, h1, h2⟩ := h.safes
  rw [cell_at h1]; exact h2 k hk
theorem made_at (v : Value) (n k : Nat) (hv : v.cells = #[v]) (h : k < n) : (madeCells v.cells n)[k]? = some v := by
  rw [hv]
  unfold madeCells
  have e : k % 1 = 0 := Nat.mod_one k
  simp [h, e]
theorem refNew_bad (x : Int) (w : World) (h : x < 256 ∨ 1048576 < x) : Calls Try.prog 8 #[.int .i64 x] w fun e w' => e = .returned (.tuple #[.pointer none, .int .i64 1]) ∧ Below w.heap.size w w' := by
  by_cases h1 : x < 256
  · go_enter Try.func8, Try.ntmps8
    go_wp2
    go_ret2
    exact ⟨rfl, Below.refl _ _⟩
  · have h2 : 1048576 < x := by omega
    go_enter Try.func8, Try.ntmps8
    go_wp2
    go_ret2
    exact ⟨rfl, Below.refl _ _⟩
theorem info9 : (Try.prog.info? 9).map (fun i => (i.zero, i.size, i.bytes)) = some (some (.string ⟨#[]⟩), 1, 16) := by kernel_rfl
theorem info3 : (Try.prog.info? 3).map (fun i => (i.zero, i.size, i.bytes)) = some (some (.int .i64 0), 1, 8) := by kernel_rfl
theorem make48 (R : Array Value) (hR : R = madeCells (Value.string ⟨#[]⟩).cells 1000) (W : World) : (Instr.makeSlice 48 (.int .i64 1000) (.int .i64 1000)).run Try.prog W = .ok (.slice (some ⟨W.heap.size, 0, none⟩) 1000 1000) (W.alloc (.cells R 9)) := by
  obtain ⟨i, hi, hz0, hz1, hz2⟩ := info_parts info9
  have := run_make (P := Try.prog) W 48 9 i _ Try.underlying48 hi hz0 .i64 .i64 1000 1000 (by decide) (by decide) (by rw [hz2]; decide) (by decide)
  rw [hz1] at this
  rw [hR]
  exact this
theorem make35 (R : Array Value) (hR : R = madeCells (Value.int .i64 0).cells 1000) (W : World) : (Instr.makeSlice 35 (.int .i64 1000) (.int .i64 1000)).run Try.prog W = .ok (.slice (some ⟨W.heap.size, 0, none⟩) 1000 1000) (W.alloc (.cells R 3)) := by
  obtain ⟨i, hi, hz0, hz1, hz2⟩ := info_parts info3
  have := run_make (P := Try.prog) W 35 3 i _ Try.underlying35 hi hz0 .i64 .i64 1000 1000 (by decide) (by decide) (by rw [hz2]; decide) (by decide)
  rw [hz1] at this
  rw [hR]
  exact this
theorem three (w : World) (A B C : Obj) : (((w.alloc A).alloc B).alloc C).drew.heap[w.heap.size]? = some A ∧ (((w.alloc A).alloc B).alloc C).drew.heap[w.heap.size + 1]? = some B ∧ (((w.alloc A).alloc B).alloc C).drew.heap[w.heap.size + 1 + 1]? = some C ∧ (((w.alloc A).alloc B).alloc C).drew.heap.size = w.heap.size + 3 ∧ Below w.heap.size w (((w.alloc A).alloc B).alloc C).drew := by
  have s1 : (w.alloc A).heap.size = w.heap.size + 1 := by simp
  have s2 : ((w.alloc A).alloc B).heap.size = w.heap.size + 1 + 1 := by simp
  refine ⟨?_, ?_, ?_, ?_, ?_⟩
  · show (((w.alloc A).alloc B).alloc C).heap[w.heap.size]? = _
    rw [Lib.alloc_old _ _ _ (by omega), Lib.alloc_old _ _ _ (by omega)]
    exact heap_alloc_new w A
  · show (((w.alloc A).alloc B).alloc C).heap[w.heap.size + 1]? = _
    rw [Lib.alloc_old _ _ _ (by omega)]
    exact heap_alloc2_new w A B
  · show (((w.alloc A).alloc B).alloc C).heap[w.heap.size + 1 + 1]? = _
    rw [← s2]
    exact heap_alloc_new _ C
  · show (((w.alloc A).alloc B).alloc C).heap.size = _
    simp
  · exact ((((Below.refl _ w).alloc (Nat.le_refl _) _).alloc (by omega) _).alloc (by omega) _).drew
set_option maxHeartbeats 1000000 in
theorem refNew_good (room : Nat) (w : World) (h : 256 ≤ room) (h2 : room ≤ 1048576) : Calls Try.prog 8 #[.int .i64 (room : Int)] w fun e w' => ∃ q, e = .returned (.tuple #[.pointer (some ⟨q, 0, none⟩), .int .i64 0]) ∧
    RefAt w' (fun k => w.heap.size ≤ k ∧ k < w'.heap.size) q (newS room) 0 ∧ Below w.heap.size w w' := by
  have h1' : ¬ ((room : Int) < 256) := by omega
  have h2' : ¬ ((1048576 : Int) < room) := by omega
  obtain ⟨R9, hR9⟩ : ∃ R, R = madeCells (Value.string ⟨#[]⟩).cells 1000 := ⟨_, rfl⟩
  obtain ⟨R3, hR3⟩ : ∃ R, R = madeCells (Value.int .i64 0).cells 1000 := ⟨_, rfl⟩
  have hm1 := make48 R9 hR9
  have hm2 := make35 R3 hR3
  have a9 : ∀ k, k < 1000 → R9[k]? = some (.string ⟨#[]⟩) := fun k hk => by rw [hR9]; exact made_at _ _ _ rfl hk
  have a3 : ∀ k, k < 1000 → R3[k]? = some (.int .i64 0) := fun k hk => by rw [hR3]; exact made_at _ _ _ rfl hk
  have A9 := hideIt a9
  have A3 := hideIt a3
  clear hR9 hR3 a9 a3
  go_enter Try.func8, Try.ntmps8
  go_wp2
  go_region
  all_goals go_wp2
  all_goals go_ret2
  · obtain ⟨t1, t2, t3, t4, t5⟩ := three w (Obj.cells R9 9) (Obj.cells R3 3) (Obj.cells #[Value.int IntKind.i64 (room : Int), Value.slice (some ⟨w.heap.size, 0, none⟩) 1000 1000, Value.slice (some ⟨w.heap.size + 1, 0, none⟩) 1000 1000, Value.int IntKind.i64 (-1), Value.int IntKind.i64 0] 66)
    refine ⟨w.heap.size + 1 + 1, rfl, ⟨w.heap.size, w.heap.size + 1, 1000, 1000, ⟨t3, ⟨R9, t1, fun k hk => A9.out k hk⟩, ⟨R3, t2, fun k hk => A3.out k hk⟩, ⟨by omega, by omega⟩, ⟨by omega, by omega⟩, ⟨by omega, by omega⟩, by omega, by omega, by omega⟩, ⟨h2, fun k => Nat.le_refl _, by rw [tot_new]; omega, by simp [newS], by simp [newS]⟩, by simp [newS], by omega⟩, t5⟩
  · obtain ⟨t1, t2, t3, t4, t5⟩ := three w (Obj.cells R3 3) (Obj.cells R9 9) (Obj.cells #[Value.int IntKind.i64 (room : Int), Value.slice (some ⟨w.heap.size + 1, 0, none⟩) 1000 1000, Value.slice (some ⟨w.heap.size, 0, none⟩) 1000 1000, Value.int IntKind.i64 (-1), Value.int IntKind.i64 0] 66)
    refine ⟨w.heap.size + 1 + 1, rfl, ⟨w.heap.size + 1, w.heap.size, 1000, 1000, ⟨t3, ⟨R9, t2, fun k hk => A9.out k hk⟩, ⟨R3, t1, fun k hk => A3.out k hk⟩, ⟨by omega, by omega⟩, ⟨by omega, by omega⟩, ⟨by omega, by omega⟩, by omega, by omega, by omega⟩, ⟨h2, fun k => Nat.le_refl _, by rw [tot_new]; omega, by simp [newS], by simp [newS]⟩, by simp [newS], by omega⟩, t5⟩
theorem refField_any {w : World} {F : Nat → Prop} {q : Nat} {S : St} {N : Nat} (h : RefAt w F q S N) :
    Calls Try.prog 33 #[.pointer (some ⟨q, 0, none⟩)] w (fun e w' => e = .returned (.int .i64 (S.room : Int)) ∧ Below w.heap.size w w') ∧
    Calls Try.prog 34 #[.pointer (some ⟨q, 0, none⟩)] w (fun e w' => e = .returned (.bool (decide (S.fuse ≠ 0))) ∧ Below w.heap.size w w') ∧
    Calls Try.prog 35 #[.pointer (some ⟨q, 0, none⟩)] w (fun e w' => e = .returned (.int .i64 (S.age : Int)) ∧ Below w.heap.size w w') := by
  obtain ⟨bb, sb, cb, cc, hc, r⟩ := h
  have c0 : w.cell? ⟨q, 0, none⟩ = some (.int .i64 (S.room : Int)) := by rw [cell_at hc.cells]; rfl
  have c3 : w.cell? ⟨q, 3, none⟩ = some (.int .i64 S.fuse) := by rw [cell_at hc.cells]; rfl
  have c4 : w.cell? ⟨q, 4, none⟩ = some (.int .i64 (S.age : Int)) := by rw [cell_at hc.cells]; rfl
  clear hc r
  refine ⟨?_, ?_, ?_⟩
  · go_enter Try.func33, Try.ntmps33
    go_wp2
    go_ret
    exact ⟨rfl, Below.refl _ _⟩
  · by_cases h0 : S.fuse = 0
    · have e : decide (S.fuse ≠ 0) = false := by simp [h0]
      have h0' : (S.fuse != 0) = false := by simp [h0]
      rw [e]
      go_enter Try.func34, Try.ntmps34
      go_wp2
      go_ret
      exact ⟨rfl, Below.refl _ _⟩
    · have e : decide (S.fuse ≠ 0) = true := by simp [h0]
      have h0' : (S.fuse != 0) = true := by simp [h0]
      rw [e]
      clear h0
      go_enter Try.func34, Try.ntmps34
      go_wp2
      go_ret
      exact ⟨rfl, Below.refl _ _⟩
  · go_enter Try.func35, Try.ntmps35
    go_wp2
    go_ret
    exact ⟨rfl, Below.refl _ _⟩
theorem emptyB (l : List UInt8) : (⟨l.toArray⟩ : ByteArray).toList.isEmpty = l.isEmpty := by rw [Lib.toList_data]
set_option maxHeartbeats 1000000 in
set_option maxRecDepth 100000 in
theorem there_is {w : World} {F : Nat → Prop} {q : Nat} {S : St} {N : Nat} (h : RefAt w F q S N) (i : Int) :
    Calls Try.prog 53 #[.pointer (some ⟨q, 0, none⟩), .int .i64 i] w fun e w' => e = .returned (.bool (@decide (thereI S i) (thereD S i))) ∧ Below w.heap.size w w' := by
  obtain ⟨bb, sb, cb, cc, hc, r⟩ := h
  have c1 : w.cell? ⟨q, 1, none⟩ = some (.slice (some ⟨bb, 0, none⟩) 1000 cb) := by rw [cell_at hc.cells]; rfl
  by_cases h1 : 0 ≤ i
  · obtain ⟨k, rfl⟩ := Int.eq_ofNat_of_zero_le h1
    by_cases h2 : (k : Int) < 1000
    · have ht := hc.text k (by omega)
      unfold bytesV at ht
      have hem := emptyB (S.seg k).bytes
      by_cases h3 : (S.seg k).bytes = []
      · have e : @decide (thereI S (k : Int)) (thereD S (k : Int)) = false := @decide_eq_false _ (thereD S _) (fun hh => hh.2.2 (by simpa using h3))
        rw [h3] at hem
        rw [e]
        have hem2 : (⟨(S.seg k).bytes.toArray⟩ : ByteArray).toList.isEmpty = true := by rw [h3]; exact hem
        clear hc r h3 hem e
        generalize (⟨(S.seg k).bytes.toArray⟩ : ByteArray) = tx at *
        go_enter Try.func53, Try.ntmps53
        go_wp2
        go_ret
        exact ⟨rfl, Below.refl _ _⟩
      · have e : @decide (thereI S (k : Int)) (thereD S (k : Int)) = true := @decide_eq_true _ (thereD S _) ⟨h1, h2, by simpa using h3⟩
        rw [e]
        have hem2 : (⟨(S.seg k).bytes.toArray⟩ : ByteArray).toList.isEmpty = false := by rw [hem]; simpa using h3
        clear hc r h3 hem e
        generalize (⟨(S.seg k).bytes.toArray⟩ : ByteArray) = tx at *
        go_enter Try.func53, Try.ntmps53
        go_wp2
        go_ret
        exact ⟨rfl, Below.refl _ _⟩
    · have e : @decide (thereI S (k : Int)) (thereD S (k : Int)) = false := @decide_eq_false _ (thereD S _) (fun hh => h2 hh.2.1)
      rw [e]
      clear hc r
      go_enter Try.func53, Try.ntmps53
      go_wp2
      go_ret
      exact ⟨rfl, Below.refl _ _⟩
  · have e : @decide (thereI S i) (thereD S i) = false := @decide_eq_false _ (thereD S _) (fun hh => h1 hh.1)
    rw [e]
    clear hc r
    go_enter Try.func53, Try.ntmps53
    go_wp2
    go_ret
    exact ⟨rfl, Below.refl _ _⟩
set_option maxHeartbeats 1000000 in
set_option maxRecDepth 100000 in
theorem refRead_is {w : World} {F : Nat → Prop} {q : Nat} {S : St} {N : Nat} (h : RefAt w F q S N) (i : Int) :
    Calls Try.prog 36 #[.pointer (some ⟨q, 0, none⟩), .int .i64 i] w fun e w' => e = .returned (.tuple #[.string ⟨(readV S i).toArray⟩, .int .i64 (readE S i : Int)]) ∧ Below w.heap.size w w' := by
  have Ht := hideIt (there_is h i)
  obtain ⟨bb, sb, cb, cc, hc, r⟩ := h
  have c1 : w.cell? ⟨q, 1, none⟩ = some (.slice (some ⟨bb, 0, none⟩) 1000 cb) := by rw [cell_at hc.cells]; rfl
  have c3 : w.cell? ⟨q, 3, none⟩ = some (.int .i64 S.fuse) := by rw [cell_at hc.cells]; rfl
  have hql : q < w.heap.size := (Array.getElem?_eq_some_iff.1 hc.cells).1
  have hbl : bb < w.heap.size := by obtain ⟨cur, h1, _⟩ := hc.texts; exact (Array.getElem?_eq_some_iff.1 h1).1
  by_cases h0 : S.fuse = 0
  · have e1 : readE S i = 31 := by unfold readE; rw [if_pos h0]
    have e2 : readV S i = [] := by unfold readV; rw [e1]; rfl
    rw [e1, e2]
    have h0' : (S.fuse == 0) = true := by simp [h0]
    clear hc r h0 Ht
    go_enter Try.func36, Try.ntmps36
    go_wp2
    go_ret2
    exact ⟨rfl, Below.refl _ _⟩
  · have h0' : (S.fuse == 0) = false := by simp [h0]
    by_cases ht : thereI S i
    · have e1 : readE S i = 0 := by unfold readE; rw [if_neg h0, if_neg (fun h => h ht)]
      have e2 : readV S i = (S.seg i.toNat).bytes := by unfold readV; rw [e1]; rfl
      obtain ⟨k, rfl, hk, hne⟩ := thereI_nat ht
      rw [e1, e2]
      rw [@decide_eq_true _ (thereD S _) ht] at Ht
      have hx := hc.text k hk
      unfold bytesV at hx
      have hk' : (k : Int) < 1000 := by omega
      simp only [Int.toNat_natCast]
      generalize (⟨(S.seg k).bytes.toArray⟩ : ByteArray) = tx at *
      clear hc r e1 e2 ht hne h0
      go_enter Try.func36, Try.ntmps36
      go_wp2_with fail
      refine Ht.out.mono ?_
      rintro e w1 ⟨rfl, hb⟩
      dsimp only
      have d1 : w1.cell? ⟨q, 1, none⟩ = some (.slice (some ⟨bb, 0, none⟩) 1000 cb) := (hb.cell hql).trans c1
      have d2 : w1.cell? ⟨bb, k, none⟩ = some (.string tx) := (hb.cell hbl).trans hx
      clear c1 c3 hx
      go_wp2
      go_ret2
      exact ⟨rfl, hb⟩
    · have e1 : readE S i = 30 := by unfold readE; rw [if_neg h0, if_pos ht]
      have e2 : readV S i = [] := by unfold readV; rw [e1]; rfl
      rw [e1, e2]
      rw [@decide_eq_false _ (thereD S _) ht] at Ht
      clear hc r ht h0 e1 e2
      go_enter Try.func36, Try.ntmps36
      go_wp2_with fail
      refine Ht.out.mono ?_
      rintro e w1 ⟨rfl, hb⟩
      dsimp only
      go_wp2
      go_ret2
      exact ⟨rfl, hb⟩
end Go.Proofs.Ytpgimffghaelhaa
