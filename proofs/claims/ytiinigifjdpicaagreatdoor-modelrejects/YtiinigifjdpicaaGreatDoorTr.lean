/- A new order meets those of the other side: what stays, and the plain trades. -/
import Derived.Test.YtiinigifjdpicaaGreatDoorSet
namespace Go.Proofs.YtiinigifjdpicaaGreatDoor
open Go.RowKit
set_option linter.all false
/-- As Tch, and one block more. -/
structure Tcr (D B : Nat) (q : Option Nat) (w w' : World) : Prop where
  os : w'.os = w.os
  tape : w'.tape = w.tape
  output : w'.output = w.output
  size : w.heap.size ≤ w'.heap.size
  keep : ∀ k, k < w.heap.size → k ≠ D → some k ≠ q → (B ≤ k → ∀ cs, w.heap[k]? ≠ some (.cells cs 61 (0, 0)) ∧ w.heap[k]? ≠ some (.cells cs 106 (0, 0))) → w'.heap[k]? = w.heap[k]?
theorem Tcr.trans {D B : Nat} {q : Option Nat} {a b c : World} (h : Tcr D B q a b) (k : Tcr D B q b c) : Tcr D B q a c :=
  ⟨k.os.trans h.os, k.tape.trans h.tape, k.output.trans h.output, Nat.le_trans h.size k.size, fun i hi hD hq hB => by
    have e := h.keep i hi hD hq hB
    exact (k.keep i (Nat.lt_of_lt_of_le hi h.size) hD hq (fun hb cs => by rw [e]; exact hB hb cs)).trans e⟩
theorem Tcr.ofTch {D B : Nat} {q : Option Nat} {w w' : World} (h : Tch D B w w') : Tcr D B q w w' := ⟨h.os, h.tape, h.output, h.size, fun i hi hD _ hB => h.keep i hi hD hB⟩
theorem Tcr.ofGrown {D B : Nat} {q : Option Nat} {w w' : World} (h : w.grownBy w' q) : Tcr D B q w w' := ⟨h.os, h.tape, h.output, h.size, fun i hi _ hq _ => h.block i hi (fun e => hq (by rw [e]))⟩
theorem Tcr.block {D B k : Nat} {q : Option Nat} {w w' : World} {cs : Array Value} {t : TypeId} (h : Tcr D B q w w') (hk : w.heap[k]? = some (.cells cs t (0, 0))) (hD : k ≠ D) (hq : some k ≠ q) (h1 : t ≠ 61) (h2 : t ≠ 106) : w'.heap[k]? = some (.cells cs t (0, 0)) :=
  (h.keep k (Array.getElem?_eq_some_iff.1 hk).1 hD hq (fun _ cs' => ⟨fun e => by rw [hk] at e; simp at e; exact h1 e.2, fun e => by rw [hk] at e; simp at e; exact h2 e.2⟩)).trans hk
/-- The trades of a new order with those of the other side. -/
def trL (s : Int) (x : OrdV) : List OrdV → Int → List OweV → List FillV → List OrdV × Int × List OweV × List FillV
  | [], left, ow, F => ([], left, ow, F)
  | r :: rs, left, ow, F =>
    if 0 < left ∧ meetB s x.price r.price = true then
      if r.left - min left r.left = 0 then trL s x rs (left - min left r.left) (setO s x r (min left r.left) ow) (F ++ [setF s x r (min left r.left)])
      else (⟨r.id, r.acc, r.price, r.left - min left r.left⟩ :: rs, left - min left r.left, setO s x r (min left r.left) ow, F ++ [setF s x r (min left r.left)])
    else (r :: rs, left, ow, F)
theorem trL_stop {s : Int} {x : OrdV} {T : List OrdV} {left : Int} {ow : List OweV} {F : List FillV} (h : ¬ 0 < left) : trL s x T left ow F = (T, left, ow, F) := by
  cases T with
  | nil => rfl
  | cons r rs => unfold trL; rw [if_neg (fun hc => h hc.1)]
/-- May these be traded with? -/
def OkT (T : List OrdV) : Prop := ∀ r ∈ T, (1 ≤ r.price ∧ r.price ≤ 1000000) ∧ (1 ≤ r.left ∧ r.left ≤ 1000000)
end Go.Proofs.YtiinigifjdpicaaGreatDoor
