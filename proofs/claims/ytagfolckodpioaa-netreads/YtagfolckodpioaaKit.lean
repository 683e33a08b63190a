/- What stays of memory while other blocks turn; a message as values. -/
import Derived.Test.YtagfolckodpioaaProg
import Derived.WalkKit
import Derived.WalkSpells
import Derived.WalkLawsBesides
import Derived.Deep.QuietTactic
import Derived.BigQuiet
import Derived.Lib.AppendStr
import Derived.Deep.RegionHeld3
import Derived.Deep.RegionLaw
import Derived.Deep.CutBlock
import Derived.StillTailTactics
namespace Go.Proofs.Ytagfolckodpioaa
open Go.RowKit

theorem hideIt {p : Prop} (h : p) : Hid p := h
def u8v (b : UInt8) : Value := Value.int .u8 (b.toNat : Int)
theorem u8v_cells (l : List UInt8) : l.map u8v = Lib.byteCells l := rfl
/-- All blocks that were there, but those of F, are as they were. -/
structure Out (F : Nat → Prop) (w w' : World) : Prop where
  os : w'.os = w.os
  tape : w'.tape = w.tape
  output : w'.output = w.output
  size : w.heap.size ≤ w'.heap.size
  block : ∀ k, k < w.heap.size → ¬ F k → w'.heap[k]? = w.heap[k]?
theorem Out.refl (F : Nat → Prop) (w : World) : Out F w w := ⟨rfl, rfl, rfl, Nat.le_refl _, fun _ _ _ => rfl⟩
theorem Out.trans {F G : Nat → Prop} {a b c : World} (h : Out F a b) (k : Out G b c) (hG : ∀ i, i < a.heap.size → G i → F i) : Out F a c :=
  ⟨k.os.trans h.os, k.tape.trans h.tape, k.output.trans h.output, Nat.le_trans h.size k.size, fun i hi hn => (k.block i (Nat.lt_of_lt_of_le hi h.size) (fun e => hn (hG i hi e))).trans (h.block i hi hn)⟩
theorem Out.mono {F G : Nat → Prop} {a b : World} (h : Out F a b) (hG : ∀ i, F i → G i) : Out G a b :=
  ⟨h.os, h.tape, h.output, h.size, fun i hi hn => h.block i hi (fun e => hn (hG i e))⟩
theorem Out.ofBelow {F : Nat → Prop} {w w' : World} (h : Below w.heap.size w w') : Out F w w' := ⟨h.os, h.tape, h.output, h.size, fun i hi _ => h.block i hi⟩
theorem Out.below {F : Nat → Prop} {w w' : World} (h : Out F w w') {B : Nat} (hB : B ≤ w.heap.size) (hF : ∀ k, F k → B ≤ k) : Below B w w' :=
  ⟨h.os, h.tape, h.output, h.size, fun i hi => h.block i (Nat.lt_of_lt_of_le hi hB) (fun e => by have := hF i e; omega)⟩
theorem Out.ofGrown {F : Nat → Prop} {w w' : World} {r : Option Nat} (h : w.grownBy w' r) (hF : ∀ k, r = some k → F k) : Out F w w' :=
  ⟨h.os, h.tape, h.output, h.size, fun i hi hn => h.block i hi (fun e => hn (hF i e.symm))⟩
theorem Out.ofSet {F : Nat → Prop} (w : World) (a : Addr) (v : Value) (hF : F a.block) : Out F w (w.setCell a v) :=
  ⟨rfl, rfl, rfl, by simp, fun i _ hn => RowKit.Below.heap_setCell _ _ _ _ (fun e => hn (e ▸ hF))⟩
theorem Out.ofAlloc {F : Nat → Prop} (w : World) (o : Obj) : Out F w (w.alloc o) := Out.ofBelow ((Below.refl _ w).alloc (Nat.le_refl _) o)
theorem Out.ofDrew {F : Nat → Prop} (w : World) : Out F w w.drew := Out.ofBelow (Below.refl _ w).drew
theorem cell_at {w : World} {p : Nat} {cs : Array Value} {t : TypeId} (h : w.heap[p]? = some (.cells cs t (0, 0))) (i : Nat) : w.cell? ⟨p, i, none⟩ = cs[i]? := by
  simp [World.cell?, h]
theorem free_at {w : World} {p : Nat} {cs : Array Value} {t : TypeId} (h : w.heap[p]? = some (.cells cs t (0, 0))) (i : Nat) : w.frozen? ⟨p, i, none⟩ = false := by
  simp [World.frozen?, h]
theorem heap_set {w : World} {p : Nat} {cs : Array Value} {t : TypeId} (h : w.heap[p]? = some (.cells cs t (0, 0))) (j : Nat) (v : Value) : (w.setCell ⟨p, j, none⟩ v).heap[p]? = some (.cells (cs.setIfInBounds j v) t (0, 0)) := by
  rw [setCell_eq_setRow _ p j cs t (0, 0) _ h]
  exact setRow_heap _ p cs _ t _ h
theorem heap_set_other (w : World) (p j k : Nat) (v : Value) (h : k ≠ p) : (w.setCell ⟨p, j, none⟩ v).heap[k]? = w.heap[k]? := RowKit.Below.heap_setCell _ _ _ _ (fun e => h e)
end Go.Proofs.Ytagfolckodpioaa
