/- A call of both disks: they answer the same, and are the same behind it. -/
import Derived.Test.YtpgimffghaelhaaRefE
import Derived.Test.YtpgimffghaelhaaOps
import Derived.Test.YtpgimffghaelhaaLooks
import Derived.Deep.RegionHeld3
namespace Go.Proofs.Ytpgimffghaelhaa
open Go.RowKit Go.Maps

theorem RefAt.more {w : World} {F : Nat → Prop} {q : Nat} {S : St} {N M : Nat} (h : RefAt w F q S N) (hN : N ≤ M) (hM : M < 1099511627776) : RefAt w F q S M := by
  obtain ⟨bb, sb, cb, cc, hc, hg, r1, r2⟩ := h
  exact ⟨bb, sb, cb, cc, hc, hg, by omega, hM⟩
/-- Both disks, apart, beside the blocks of Z, which hold what H says. -/
def Pair (w0 W : World) (Z : Nat → Prop) (H : Nat → Option Obj) (p q : Nat) (S1 : St) (N1 : Nat) (S2 : St) (N2 : Nat) : Prop :=
  ∃ F1 F2, DiskAt W F1 p S1 N1 ∧ RefAt W F2 q S2 N2 ∧ (∀ k, F1 k → k < W.heap.size ∧ w0.heap.size ≤ k ∧ ¬ F2 k ∧ ¬ Z k) ∧ (∀ k, F2 k → k < W.heap.size ∧ w0.heap.size ≤ k ∧ ¬ Z k) ∧ (∀ b, Z b → b < W.heap.size ∧ W.heap[b]? = H b) ∧ Below w0.heap.size w0 W
theorem Pair.code {w0 W w' : World} {Z : Nat → Prop} {H : Nat → Option Obj} {p q : Nat} {S1' S2 : St} {N1' N2 : Nat} {F1 F2 : Nat → Prop} (hR : RefAt W F2 q S2 N2) (h1 : ∀ k, F1 k → k < W.heap.size ∧ w0.heap.size ≤ k ∧ ¬ F2 k ∧ ¬ Z k) (h2 : ∀ k, F2 k → k < W.heap.size ∧ w0.heap.size ≤ k ∧ ¬ Z k) (hz : ∀ b, Z b → b < W.heap.size ∧ W.heap[b]? = H b) (hb : Below w0.heap.size w0 W)
    (hD : DiskAt w' (Grow F1 W w') p S1' N1') (ho : Out F1 W w') : Pair w0 w' Z H p q S1' N1' S2 N2 := by
  have hs := ho.size
  have hs0 := hb.size
  refine ⟨Grow F1 W w', F2, hD, hR.keep (fun k hk hl => ho.block k hl (fun h => (h1 k h).2.2.1 hk)), ?_, fun k hk => ?_, fun b hb' => ⟨Nat.lt_of_lt_of_le (hz b hb').1 hs, (ho.block b (hz b hb').1 (fun h => (h1 b h).2.2.2 hb')).trans (hz b hb').2⟩, hb.trans (ho.below hs0 (fun k hk => (h1 k hk).2.1))⟩
  · rintro k (hk | hk)
    · obtain ⟨a, b, c, d⟩ := h1 k hk
      exact ⟨by omega, b, c, d⟩
    · exact ⟨by omega, by omega, fun h => by have := (h2 k h).1; omega, fun h => by have := (hz k h).1; omega⟩
  · obtain ⟨a, b, c⟩ := h2 k hk
    exact ⟨by omega, b, c⟩
theorem Pair.ref {w0 W w' : World} {Z : Nat → Prop} {H : Nat → Option Obj} {p q : Nat} {S1 S2' : St} {N1 N2' : Nat} {F1 F2 : Nat → Prop} (hD : DiskAt W F1 p S1 N1) (h1 : ∀ k, F1 k → k < W.heap.size ∧ w0.heap.size ≤ k ∧ ¬ F2 k ∧ ¬ Z k) (h2 : ∀ k, F2 k → k < W.heap.size ∧ w0.heap.size ≤ k ∧ ¬ Z k) (hz : ∀ b, Z b → b < W.heap.size ∧ W.heap[b]? = H b) (hb : Below w0.heap.size w0 W)
    (hR : RefAt w' F2 q S2' N2') (ho : Out F2 W w') : Pair w0 w' Z H p q S1 N1 S2' N2' := by
  have hs := ho.size
  have hs0 := hb.size
  refine ⟨F1, F2, hD.keep (fun k hk hl => ho.block k hl (fun h => (h1 k hk).2.2.1 h)), hR, fun k hk => ?_, fun k hk => ?_, fun b hb' => ⟨Nat.lt_of_lt_of_le (hz b hb').1 hs, (ho.block b (hz b hb').1 (fun h => (h2 b h).2.2 hb')).trans (hz b hb').2⟩, hb.trans (ho.below hs0 (fun k hk => (h2 k hk).2.1))⟩
  · obtain ⟨a, b, c, d⟩ := h1 k hk
    exact ⟨by omega, b, c, d⟩
  · obtain ⟨a, b, c⟩ := h2 k hk
    exact ⟨by omega, b, c⟩
theorem Pair.less {w0 W : World} {Z Z' : Nat → Prop} {H H' : Nat → Option Obj} {p q : Nat} {S1 S2 : St} {N1 N2 : Nat} (h : Pair w0 W Z' H' p q S1 N1 S2 N2) (hZ : ∀ b, Z b → Z' b ∧ H' b = H b) : Pair w0 W Z H p q S1 N1 S2 N2 := by
  obtain ⟨F1, F2, hD, hR, h1, h2, hz, hb⟩ := h
  exact ⟨F1, F2, hD, hR, fun k hk => ⟨(h1 k hk).1, (h1 k hk).2.1, (h1 k hk).2.2.1, fun h => (h1 k hk).2.2.2 (hZ k h).1⟩, fun k hk => ⟨(h2 k hk).1, (h2 k hk).2.1, fun h => (h2 k hk).2.2 (hZ k h).1⟩, fun b hb' => ⟨(hz b (hZ b hb').1).1, ((hz b (hZ b hb').1).2).trans (hZ b hb').2⟩, hb⟩
theorem grow_of {w w' : World} {F : Nat → Prop} {p : Nat} {S : St} {N : Nat} (h : DiskAt w' F p S N) : DiskAt w' (Grow F w w') p S N := h.wide (fun _ hk _ => .inl hk)
def callCells (o : OpV) : Array Value := #[.int .i64 o.dO, .int .i64 o.seg, .int .i64 o.n, .string o.bytes, .slice o.ka o.keep.length o.kc]
/-- The call's cells. -/
def Cells5 (W : World) (z : Nat) (o : OpV) : Prop := W.cell? ⟨z, 1, none⟩ = some (.int .i64 o.seg) ∧ W.cell? ⟨z, 2, none⟩ = some (.int .i64 o.n) ∧ W.cell? ⟨z, 3, none⟩ = some (.string o.bytes) ∧ W.cell? ⟨z, 4, none⟩ = some (.slice o.ka o.keep.length o.kc)
theorem Pair.cells {w0 W : World} {Z : Nat → Prop} {H : Nat → Option Obj} {z p q : Nat} {o : OpV} {S1 S2 : St} {N1 N2 : Nat} (h : Pair w0 W Z H p q S1 N1 S2 N2) (hZ : Z z) (hH : H z = some (.cells (callCells o) 37 (0, 0))) : Cells5 W z o := by
  obtain ⟨_, _, _, _, _, _, hz', _⟩ := h
  have hz := ((hz' z hZ).2).trans hH
  refine ⟨?_, ?_, ?_, ?_⟩ <;> rw [cell_at hz] <;> rfl
theorem keep_of {w0 W : World} {F : Nat → Prop} {a : Option Addr} {keep : List Int} (h : NumsAt w0 a keep) (hb : Below w0.heap.size w0 W) (hF : ∀ k, F k → w0.heap.size ≤ k) : Keep W F a keep := by
  obtain ⟨b, off, hk⟩ := h
  refine ⟨b, off, fun j hj => ?_⟩
  obtain ⟨k1, k2, k3, k4, k5⟩ := hk j hj
  exact ⟨k1, Nat.lt_of_lt_of_le k2 hb.size, fun h => by have := hF b h; omega, (hb.cell (p := ⟨b, off + j, none⟩) k2).trans k3, k4, k5⟩
section
variable {w0 W : World} {Z : Nat → Prop} {H : Nat → Option Obj} {z p q : Nat} {o : OpV} {S1 S2 : St} {N1 N2 : Nat}
theorem cAppend (h : Pair w0 W Z H p q S1 N1 S2 N2) (hZ : Z z) (hH : H z = some (.cells (callCells o) 37 (0, 0))) (hN : N1 + 1 < 1099511627776) : Calls Try.prog 17 #[.pointer (some ⟨p, 0, none⟩), .int .i64 o.seg, .string o.bytes] W fun e w' => e = .returned (.int .i64 (appendE S1 o.seg o.bytes.data.toList : Int)) ∧ Pair w0 w' Z H p q (appendS S1 o.seg o.bytes.data.toList) (N1 + 1) S2 N2 ∧ Cells5 w' z o := by
  obtain ⟨F1, F2, hD, hR, h1, h2, hz, hb⟩ := h
  refine (append_is hD o.seg o.bytes hN).mono ?_
  rintro e w' ⟨rfl, hd, ho⟩
  have hp := Pair.code hR h1 h2 hz hb hd ho
  exact ⟨rfl, hp, hp.cells hZ hH⟩
theorem rAppend (h : Pair w0 W Z H p q S1 N1 S2 N2) (hZ : Z z) (hH : H z = some (.cells (callCells o) 37 (0, 0))) (hN : N2 + 1 < 1099511627776) : Calls Try.prog 37 #[.pointer (some ⟨q, 0, none⟩), .int .i64 o.seg, .string o.bytes] W fun e w' => e = .returned (.int .i64 (appendE S2 o.seg o.bytes.data.toList : Int)) ∧ Pair w0 w' Z H p q S1 N1 (appendS S2 o.seg o.bytes.data.toList) (N2 + 1) ∧ Cells5 w' z o := by
  obtain ⟨F1, F2, hD, hR, h1, h2, hz, hb⟩ := h
  refine (refAppend_is hR o.seg o.bytes).mono ?_
  rintro e w' ⟨rfl, hd, ho⟩
  have hp := Pair.ref hD h1 h2 hz hb (hd.more (by omega) hN) ho
  exact ⟨rfl, hp, hp.cells hZ hH⟩
theorem cSync (h : Pair w0 W Z H p q S1 N1 S2 N2) (hZ : Z z) (hH : H z = some (.cells (callCells o) 37 (0, 0))) (hN : N1 + 1 < 1099511627776) : Calls Try.prog 18 #[.pointer (some ⟨p, 0, none⟩)] W fun e w' => e = .returned (.int .i64 (syncE S1 : Int)) ∧ Pair w0 w' Z H p q (syncS S1) (N1 + 1) S2 N2 ∧ Cells5 w' z o := by
  obtain ⟨F1, F2, hD, hR, h1, h2, hz, hb⟩ := h
  refine (sync_is hD hN (fun k hk => (h1 k hk).1)).mono ?_
  rintro e w' ⟨rfl, hd, ho⟩
  have hp := Pair.code hR h1 h2 hz hb (grow_of hd) ho
  exact ⟨rfl, hp, hp.cells hZ hH⟩
theorem rSync (h : Pair w0 W Z H p q S1 N1 S2 N2) (hZ : Z z) (hH : H z = some (.cells (callCells o) 37 (0, 0))) (hN : N2 + 1 < 1099511627776) : Calls Try.prog 38 #[.pointer (some ⟨q, 0, none⟩)] W fun e w' => e = .returned (.int .i64 (syncE S2 : Int)) ∧ Pair w0 w' Z H p q S1 N1 (syncS S2) (N2 + 1) ∧ Cells5 w' z o := by
  obtain ⟨F1, F2, hD, hR, h1, h2, hz, hb⟩ := h
  refine (refSync_is hR).mono ?_
  rintro e w' ⟨rfl, hd, ho⟩
  have hp := Pair.ref hD h1 h2 hz hb (hd.more (by omega) hN) ho
  exact ⟨rfl, hp, hp.cells hZ hH⟩
theorem cCut (h : Pair w0 W Z H p q S1 N1 S2 N2) (hZ : Z z) (hH : H z = some (.cells (callCells o) 37 (0, 0))) (hN : N1 + 1 < 1099511627776) (hi : i64B o.seg) : Calls Try.prog 26 #[.pointer (some ⟨p, 0, none⟩), .int .i64 o.seg, .int .i64 o.n] W fun e w' => e = .returned (.int .i64 (cutE S1 o.seg o.n : Int)) ∧ Pair w0 w' Z H p q (cutS S1 o.seg o.n) (N1 + 1) S2 N2 ∧ Cells5 w' z o := by
  obtain ⟨F1, F2, hD, hR, h1, h2, hz, hb⟩ := h
  refine (cut_is hD o.seg o.n hi.wf hN).mono ?_
  rintro e w' ⟨rfl, hd, ho⟩
  have hp := Pair.code hR h1 h2 hz hb (grow_of hd) ho
  exact ⟨rfl, hp, hp.cells hZ hH⟩
theorem rCut (h : Pair w0 W Z H p q S1 N1 S2 N2) (hZ : Z z) (hH : H z = some (.cells (callCells o) 37 (0, 0))) (hN : N2 + 1 < 1099511627776) : Calls Try.prog 39 #[.pointer (some ⟨q, 0, none⟩), .int .i64 o.seg, .int .i64 o.n] W fun e w' => e = .returned (.int .i64 (cutE S2 o.seg o.n : Int)) ∧ Pair w0 w' Z H p q S1 N1 (cutS S2 o.seg o.n) (N2 + 1) ∧ Cells5 w' z o := by
  obtain ⟨F1, F2, hD, hR, h1, h2, hz, hb⟩ := h
  refine (refCut_is hR o.seg o.n).mono ?_
  rintro e w' ⟨rfl, hd, ho⟩
  have hp := Pair.ref hD h1 h2 hz hb (hd.more (by omega) hN) ho
  exact ⟨rfl, hp, hp.cells hZ hH⟩
theorem cDrop (h : Pair w0 W Z H p q S1 N1 S2 N2) (hZ : Z z) (hH : H z = some (.cells (callCells o) 37 (0, 0))) (hN : N1 + 1 < 1099511627776) (hi : i64B o.seg) : Calls Try.prog 19 #[.pointer (some ⟨p, 0, none⟩), .int .i64 o.seg] W fun e w' => e = .returned (.int .i64 (cutE S1 o.seg 0 : Int)) ∧ Pair w0 w' Z H p q (cutS S1 o.seg 0) (N1 + 1) S2 N2 ∧ Cells5 w' z o := by
  obtain ⟨F1, F2, hD, hR, h1, h2, hz, hb⟩ := h
  refine (drop_is hD o.seg hi.wf hN).mono ?_
  rintro e w' ⟨rfl, hd, ho⟩
  have hp := Pair.code hR h1 h2 hz hb (grow_of hd) ho
  exact ⟨rfl, hp, hp.cells hZ hH⟩
theorem rDrop (h : Pair w0 W Z H p q S1 N1 S2 N2) (hZ : Z z) (hH : H z = some (.cells (callCells o) 37 (0, 0))) (hN : N2 + 1 < 1099511627776) : Calls Try.prog 40 #[.pointer (some ⟨q, 0, none⟩), .int .i64 o.seg] W fun e w' => e = .returned (.int .i64 (cutE S2 o.seg 0 : Int)) ∧ Pair w0 w' Z H p q S1 N1 (cutS S2 o.seg 0) (N2 + 1) ∧ Cells5 w' z o := by
  obtain ⟨F1, F2, hD, hR, h1, h2, hz, hb⟩ := h
  refine (refDrop_is hR o.seg).mono ?_
  rintro e w' ⟨rfl, hd, ho⟩
  have hp := Pair.ref hD h1 h2 hz hb (hd.more (by omega) hN) ho
  exact ⟨rfl, hp, hp.cells hZ hH⟩
theorem cFuse (h : Pair w0 W Z H p q S1 N1 S2 N2) (hZ : Z z) (hH : H z = some (.cells (callCells o) 37 (0, 0))) (hN : N1 + 1 < 1099511627776) (hn : i64B o.n) : Calls Try.prog 16 #[.pointer (some ⟨p, 0, none⟩), .int .i64 o.n] W fun e w' => e = .returned (.int .i64 (fuseE o.n : Int)) ∧ Pair w0 w' Z H p q (fuseS S1 o.n) (N1 + 1) S2 N2 ∧ Cells5 w' z o := by
  obtain ⟨F1, F2, hD, hR, h1, h2, hz, hb⟩ := h
  refine (fuse_is hD o.n hn.2).mono ?_
  rintro e w' ⟨rfl, hd, ho⟩
  have hp := Pair.code hR h1 h2 hz hb (grow_of (hd.more (by omega) hN)) ho
  exact ⟨rfl, hp, hp.cells hZ hH⟩
theorem rFuse (h : Pair w0 W Z H p q S1 N1 S2 N2) (hZ : Z z) (hH : H z = some (.cells (callCells o) 37 (0, 0))) (hN : N2 + 1 < 1099511627776) (hn : i64B o.n) : Calls Try.prog 41 #[.pointer (some ⟨q, 0, none⟩), .int .i64 o.n] W fun e w' => e = .returned (.int .i64 (fuseE o.n : Int)) ∧ Pair w0 w' Z H p q S1 N1 (fuseS S2 o.n) (N2 + 1) ∧ Cells5 w' z o := by
  obtain ⟨F1, F2, hD, hR, h1, h2, hz, hb⟩ := h
  refine (refFuse_is hR o.n hn.2).mono ?_
  rintro e w' ⟨rfl, hd, ho⟩
  have hp := Pair.ref hD h1 h2 hz hb (hd.more (by omega) hN) ho
  exact ⟨rfl, hp, hp.cells hZ hH⟩
theorem cCrash (h : Pair w0 W Z H p q S1 N1 S2 N2) (hZ : Z z) (hH : H z = some (.cells (callCells o) 37 (0, 0))) (hN : N1 + 1 < 1099511627776) (hk : NumsAt w0 o.ka o.keep) : Calls Try.prog 22 #[.pointer (some ⟨p, 0, none⟩), .slice o.ka o.keep.length o.kc] W fun e w' => e = .returned (.int .i64 (crashN S1 : Int)) ∧ Pair w0 w' Z H p q (crashS S1 o.keep) (N1 + 1) S2 N2 ∧ Cells5 w' z o := by
  obtain ⟨F1, F2, hD, hR, h1, h2, hz, hb⟩ := h
  refine (crash_is hD hN (fun k hk => (h1 k hk).1) o.ka o.keep o.kc (keep_of hk hb (fun k hk => (h1 k hk).2.1))).mono ?_
  rintro e w' ⟨rfl, hd, ho⟩
  have hp := Pair.code hR h1 h2 hz hb (grow_of hd) ho
  exact ⟨rfl, hp, hp.cells hZ hH⟩
theorem rCrash (h : Pair w0 W Z H p q S1 N1 S2 N2) (hZ : Z z) (hH : H z = some (.cells (callCells o) 37 (0, 0))) (hN : N2 + 1 < 1099511627776) (hk : NumsAt w0 o.ka o.keep) : Calls Try.prog 42 #[.pointer (some ⟨q, 0, none⟩), .slice o.ka o.keep.length o.kc] W fun e w' => e = .returned (.int .i64 (crashN S2 : Int)) ∧ Pair w0 w' Z H p q S1 N1 (crashS S2 o.keep) (N2 + 1) ∧ Cells5 w' z o := by
  obtain ⟨F1, F2, hD, hR, h1, h2, hz, hb⟩ := h
  refine (refCrash_is hR hN o.ka o.keep o.kc (keep_of hk hb (fun k hk => (h2 k hk).2.1))).mono ?_
  rintro e w' ⟨rfl, hd, ho⟩
  have hp := Pair.ref hD h1 h2 hz hb hd ho
  exact ⟨rfl, hp, hp.cells hZ hH⟩
end
def DoesIs (w0 : World) (Z : Nat → Prop) (H : Nat → Option Obj) (p q N : Nat) (e : Ending) (w' : World) : Prop := e = .returned (.bool true) ∧ ∃ S', Pair w0 w' Z H p q S' N S' N
theorem Pair.drew {w0 W : World} {Z : Nat → Prop} {H : Nat → Option Obj} {p q : Nat} {S1 S2 : St} {N1 N2 : Nat} (h : Pair w0 W Z H p q S1 N1 S2 N2) : Pair w0 W.drew Z H p q S1 N1 S2 N2 := by
  obtain ⟨F1, F2, hD, hR, h1, h2, hz, hb⟩ := h
  exact ⟨F1, F2, hD.keep (fun _ _ _ => rfl), hR.keep (fun _ _ _ => rfl), h1, h2, hz, hb.drew⟩
theorem Pair.alloc {w0 W : World} {Z : Nat → Prop} {H : Nat → Option Obj} {p q : Nat} {S1 S2 : St} {N1 N2 : Nat} (h : Pair w0 W Z H p q S1 N1 S2 N2) (o : Obj) : Pair w0 (W.alloc o) (fun k => Z k ∨ k = W.heap.size) (fun k => if k = W.heap.size then some o else H k) p q S1 N1 S2 N2 := by
  obtain ⟨F1, F2, hD, hR, h1, h2, hz, hb⟩ := h
  have hba := (Below.refl _ W).alloc (Nat.le_refl _) o
  have hs : (W.alloc o).heap.size = W.heap.size + 1 := by simp
  refine ⟨F1, F2, hD.below hba, hR.below hba, fun k hk => ?_, fun k hk => ?_, fun b hb' => ?_, hb.alloc hb.size _⟩
  · obtain ⟨a, b, c, d⟩ := h1 k hk
    exact ⟨by omega, b, c, fun h => h.elim d (fun e => by omega)⟩
  · obtain ⟨a, b, c⟩ := h2 k hk
    exact ⟨by omega, b, fun h => h.elim c (fun e => by omega)⟩
  · rcases hb' with hb' | rfl
    · obtain ⟨a, e⟩ := hz b hb'
      exact ⟨by omega, by show _ = (if b = W.heap.size then some o else H b); rw [Lib.alloc_old W o b a, e, if_neg (by omega)]⟩
    · exact ⟨by omega, by show _ = (if W.heap.size = W.heap.size then some o else H W.heap.size); rw [heap_alloc_new, if_pos rfl]⟩
theorem Pair.below {w0 W w' : World} {Z : Nat → Prop} {H : Nat → Option Obj} {p q : Nat} {S1 S2 : St} {N1 N2 : Nat} (h : Pair w0 W Z H p q S1 N1 S2 N2) (hw : Below W.heap.size W w') : Pair w0 w' Z H p q S1 N1 S2 N2 := by
  obtain ⟨F1, F2, hD, hR, h1, h2, hz, hb⟩ := h
  have hs := hw.size
  refine ⟨F1, F2, hD.below hw, hR.below hw, fun k hk => ?_, fun k hk => ?_, fun b hb' => ⟨Nat.lt_of_lt_of_le (hz b hb').1 hs, (hw.block b (hz b hb').1).trans (hz b hb').2⟩, hb.trans (hw.mono hb.size)⟩
  · obtain ⟨a, b, c, d⟩ := h1 k hk
    exact ⟨by omega, b, c, d⟩
  · obtain ⟨a, b, c⟩ := h2 k hk
    exact ⟨by omega, b, c⟩
set_option maxHeartbeats 8000000 in
set_option maxRecDepth 100000 in
theorem does_is {w0 w : World} {Z : Nat → Prop} {H : Nat → Option Obj} {p q : Nat} {S : St} {N : Nat} (h : Pair w0 w Z H p q S N S N) (hN : N + 1 < 1099511627776) (o : OpV) (hi : i64B o.seg) (hn : i64B o.n) (hk : NumsAt w0 o.ka o.keep) :
    Calls Try.prog 13 #[.pointer (some ⟨p, 0, none⟩), .pointer (some ⟨q, 0, none⟩), .agg (callCells o)] w (DoesIs w0 Z H p q (N + 1)) := by
  obtain ⟨Z', H', hP, hZz, hHz, hZl⟩ : ∃ (Z' : Nat → Prop) (H' : Nat → Option Obj), Pair w0 (w.alloc (.cells (callCells o) 37)) Z' H' p q S N S N ∧ Z' w.heap.size ∧ H' w.heap.size = some (.cells (callCells o) 37 (0, 0)) ∧ ∀ b, Z b → Z' b ∧ H' b = H b := by
    refine ⟨_, _, h.alloc (.cells (callCells o) 37), .inr rfl, by simp, ?_⟩
    obtain ⟨_, _, _, _, _, _, hz, _⟩ := h
    intro b hb
    have := (hz b hb).1
    exact ⟨.inl hb, by simp; omega⟩
  have HI := hideIt hi
  have HN' := hideIt hn
  have HK := hideIt hk
  obtain ⟨dO, seg, n, bytes, keep, ka, kc⟩ := o
  simp only [callCells] at hP hHz ⊢
  go_enter Try.func13, Try.ntmps13
  go_upto_region 1 with fail
  have d0 : (w.alloc (.cells #[.int .i64 dO, .int .i64 seg, .int .i64 n, .string bytes, .slice ka keep.length kc] 37)).cell? ⟨w.heap.size, 0, none⟩ = some (.int .i64 dO) := by simp
  generalize w.alloc (.cells #[.int .i64 dO, .int .i64 seg, .int .i64 n, .string bytes, .slice ka keep.length kc] 37) = X at *
  generalize w.heap.size = z at *
  have hPd := hP.drew
  obtain ⟨k1, k2, k3, k4⟩ := Pair.cells (o := ⟨dO, seg, n, bytes, keep, ka, kc⟩) hP hZz hHz
  have HZ := hideIt hZz
  have HH := hideIt hHz
  have HL := hideIt hZl
  dsimp only at k1 k2 k3 k4
  have HP := hideIt hP
  clear hi hn hk hP h hZz hHz hZl
  by_cases q0 : dO = 0
  · subst q0
    
    have HC := hideIt (fun W S2 N2 (h : Pair w0 W Z' H' p q S N S2 N2) => cAppend (o := ⟨0, seg, n, bytes, keep, ka, kc⟩) h HZ.out HH.out hN)
    have HR := hideIt (fun W S1 N1 (h : Pair w0 W Z' H' p q S1 N1 S N) => rAppend (o := ⟨0, seg, n, bytes, keep, ka, kc⟩) h HZ.out HH.out hN)
    go_upto_region 3 with fail
    go_cut [6] from 6 to 23 (fun v wx => v = .bool true ∧ Hid (Pair w0 wx Z' H' p q (appendS S seg bytes.data.toList) (N + 1) (appendS S seg bytes.data.toList) (N + 1)))
    case first =>
      go_region_held3 (fun w' => w'.cell? ⟨z, 1, none⟩ = some (.int .i64 seg) ∧ w'.cell? ⟨z, 2, none⟩ = some (.int .i64 n) ∧ w'.cell? ⟨z, 3, none⟩ = some (.string bytes) ∧ w'.cell? ⟨z, 4, none⟩ = some (.slice ka keep.length kc)) (go_keep) (first | (go_at_call 17; refine (HC.out _ _ _ (by assumption)).mono ?_; rintro e w5 ⟨rfl, hst, j1, j2, j3, j4⟩) | (go_at_call 37; refine (HR.out _ _ _ (by assumption)).mono ?_; rintro e w5 ⟨rfl, hst, j1, j2, j3, j4⟩))
      all_goals go_wp2_with fail
      all_goals go_meet
      all_goals exact ⟨rfl, hst⟩
    case rest =>
    obtain ⟨rfl, HS6⟩ := hcut
    go_wp2
    go_ret
    exact ⟨by simp, _, HS6.out.less HL.out⟩
  by_cases q1 : dO = 1
  · subst q1
    clear q0
    go_wp2_with fail
    refine (cSync (o := ⟨1, seg, n, bytes, keep, ka, kc⟩) HP.out HZ.out HH.out hN).mono ?_
    rintro e w5 ⟨rfl, hst, _⟩
    dsimp only
    have HS := hideIt hst
    clear hst
    go_wp2_with fail
    refine (rSync (o := ⟨1, seg, n, bytes, keep, ka, kc⟩) HS.out HZ.out HH.out hN).mono ?_
    rintro e w6 ⟨rfl, hst, _⟩
    dsimp only
    have HS6 := hideIt hst
    clear hst
    go_wp2
    go_ret
    exact ⟨by simp, _, HS6.out.less HL.out⟩
  by_cases q2 : dO = 2
  · subst q2
    clear q0 q1
    have HC := hideIt (fun W S2 N2 (h : Pair w0 W Z' H' p q S N S2 N2) => cCut (o := ⟨2, seg, n, bytes, keep, ka, kc⟩) h HZ.out HH.out hN HI.out)
    have HR := hideIt (fun W S1 N1 (h : Pair w0 W Z' H' p q S1 N1 S N) => rCut (o := ⟨2, seg, n, bytes, keep, ka, kc⟩) h HZ.out HH.out hN)
    go_upto_region 7 with fail
    go_cut [6] from 6 to 45 (fun v wx => v = .bool true ∧ Hid (Pair w0 wx Z' H' p q (cutS S seg n) (N + 1) (cutS S seg n) (N + 1)))
    case first =>
      go_region_held3 (fun w' => w'.cell? ⟨z, 1, none⟩ = some (.int .i64 seg) ∧ w'.cell? ⟨z, 2, none⟩ = some (.int .i64 n) ∧ w'.cell? ⟨z, 3, none⟩ = some (.string bytes) ∧ w'.cell? ⟨z, 4, none⟩ = some (.slice ka keep.length kc)) (go_keep) (first | (go_at_call 26; refine (HC.out _ _ _ (by assumption)).mono ?_; rintro e w5 ⟨rfl, hst, j1, j2, j3, j4⟩) | (go_at_call 39; refine (HR.out _ _ _ (by assumption)).mono ?_; rintro e w5 ⟨rfl, hst, j1, j2, j3, j4⟩))
      all_goals go_wp2_with fail
      all_goals go_meet
      all_goals exact ⟨rfl, hst⟩
    case rest =>
    obtain ⟨rfl, HS6⟩ := hcut
    go_wp2
    go_ret
    exact ⟨by simp, _, HS6.out.less HL.out⟩
  by_cases q3 : dO = 3
  · subst q3
    clear q0 q1 q2
    have HC := hideIt (fun W S2 N2 (h : Pair w0 W Z' H' p q S N S2 N2) => cDrop (o := ⟨3, seg, n, bytes, keep, ka, kc⟩) h HZ.out HH.out hN HI.out)
    have HR := hideIt (fun W S1 N1 (h : Pair w0 W Z' H' p q S1 N1 S N) => rDrop (o := ⟨3, seg, n, bytes, keep, ka, kc⟩) h HZ.out HH.out hN)
    go_upto_region 9 with fail
    go_cut [6] from 6 to 56 (fun v wx => v = .bool true ∧ Hid (Pair w0 wx Z' H' p q (cutS S seg 0) (N + 1) (cutS S seg 0) (N + 1)))
    case first =>
      go_region_held3 (fun w' => w'.cell? ⟨z, 1, none⟩ = some (.int .i64 seg) ∧ w'.cell? ⟨z, 2, none⟩ = some (.int .i64 n) ∧ w'.cell? ⟨z, 3, none⟩ = some (.string bytes) ∧ w'.cell? ⟨z, 4, none⟩ = some (.slice ka keep.length kc)) (go_keep) (first | (go_at_call 19; refine (HC.out _ _ _ (by assumption)).mono ?_; rintro e w5 ⟨rfl, hst, j1, j2, j3, j4⟩) | (go_at_call 40; refine (HR.out _ _ _ (by assumption)).mono ?_; rintro e w5 ⟨rfl, hst, j1, j2, j3, j4⟩))
      all_goals go_wp2_with fail
      all_goals go_meet
      all_goals exact ⟨rfl, hst⟩
    case rest =>
    obtain ⟨rfl, HS6⟩ := hcut
    go_wp2
    go_ret
    exact ⟨by simp, _, HS6.out.less HL.out⟩
  by_cases q4 : dO = 4
  · subst q4
    clear q0 q1 q2 q3
    have HC := hideIt (fun W S2 N2 (h : Pair w0 W Z' H' p q S N S2 N2) => cFuse (o := ⟨4, seg, n, bytes, keep, ka, kc⟩) h HZ.out HH.out hN HN'.out)
    have HR := hideIt (fun W S1 N1 (h : Pair w0 W Z' H' p q S1 N1 S N) => rFuse (o := ⟨4, seg, n, bytes, keep, ka, kc⟩) h HZ.out HH.out hN HN'.out)
    go_upto_region 11 with fail
    go_cut [6] from 6 to 67 (fun v wx => v = .bool true ∧ Hid (Pair w0 wx Z' H' p q (fuseS S n) (N + 1) (fuseS S n) (N + 1)))
    case first =>
      go_region_held3 (fun w' => w'.cell? ⟨z, 1, none⟩ = some (.int .i64 seg) ∧ w'.cell? ⟨z, 2, none⟩ = some (.int .i64 n) ∧ w'.cell? ⟨z, 3, none⟩ = some (.string bytes) ∧ w'.cell? ⟨z, 4, none⟩ = some (.slice ka keep.length kc)) (go_keep) (first | (go_at_call 16; refine (HC.out _ _ _ (by assumption)).mono ?_; rintro e w5 ⟨rfl, hst, j1, j2, j3, j4⟩) | (go_at_call 41; refine (HR.out _ _ _ (by assumption)).mono ?_; rintro e w5 ⟨rfl, hst, j1, j2, j3, j4⟩))
      all_goals go_wp2_with fail
      all_goals go_meet
      all_goals exact ⟨rfl, hst⟩
    case rest =>
    obtain ⟨rfl, HS6⟩ := hcut
    go_wp2
    go_ret
    exact ⟨by simp, _, HS6.out.less HL.out⟩
  by_cases q5 : dO = 5
  · subst q5
    clear q0 q1 q2 q3 q4
    have HC := hideIt (fun W S2 N2 (h : Pair w0 W Z' H' p q S N S2 N2) => cCrash (o := ⟨5, seg, n, bytes, keep, ka, kc⟩) h HZ.out HH.out hN HK.out)
    have HR := hideIt (fun W S1 N1 (h : Pair w0 W Z' H' p q S1 N1 S N) => rCrash (o := ⟨5, seg, n, bytes, keep, ka, kc⟩) h HZ.out HH.out hN HK.out)
    go_upto_region 13 with fail
    go_cut [6] from 6 to 78 (fun v wx => v = .bool true ∧ Hid (Pair w0 wx Z' H' p q (crashS S keep) (N + 1) (crashS S keep) (N + 1)))
    case first =>
      go_region_held3 (fun w' => w'.cell? ⟨z, 1, none⟩ = some (.int .i64 seg) ∧ w'.cell? ⟨z, 2, none⟩ = some (.int .i64 n) ∧ w'.cell? ⟨z, 3, none⟩ = some (.string bytes) ∧ w'.cell? ⟨z, 4, none⟩ = some (.slice ka keep.length kc)) (go_keep) (first | (go_at_call 22; refine (HC.out _ _ _ (by assumption)).mono ?_; rintro e w5 ⟨rfl, hst, j1, j2, j3, j4⟩) | (go_at_call 42; refine (HR.out _ _ _ (by assumption)).mono ?_; rintro e w5 ⟨rfl, hst, j1, j2, j3, j4⟩))
      all_goals go_wp2_with fail
      all_goals go_meet
      all_goals exact ⟨rfl, hst⟩
    case rest =>
    obtain ⟨rfl, HS6⟩ := hcut
    go_wp2
    go_ret
    exact ⟨by simp, _, HS6.out.less HL.out⟩
  have g0 : (dO == 0) = false := beq_eq_false_iff_ne.2 q0
  have g1 : (dO == 1) = false := beq_eq_false_iff_ne.2 q1
  have g2 : (dO == 2) = false := beq_eq_false_iff_ne.2 q2
  have g3 : (dO == 3) = false := beq_eq_false_iff_ne.2 q3
  have g4 : (dO == 4) = false := beq_eq_false_iff_ne.2 q4
  have g5 : (dO == 5) = false := beq_eq_false_iff_ne.2 q5
  clear q0 q1 q2 q3 q4 q5
  go_wp2
  go_ret
  obtain ⟨F1, F2, hD, hR, h1, h2, hz, hb⟩ := HP.out.less HL.out
  exact ⟨rfl, S, F1, F2, hD.more (by omega) hN, hR.more (by omega) hN, h1, h2, hz, hb⟩
end Go.Proofs.Ytpgimffghaelhaa
