/- Texts of my own, laid together. -/
import Derived.Shelf.Small.Wraps
import Derived.Shelf.Slices.Turned
import Derived.Ground.Names2Prog
import Derived.Shelf.Slices.Clone
import Derived.Shelf.Slices.SearchI
import Derived.Shelf.Slices.Empties
import Derived.Shelf.Spec.SlicesInsert
import Derived.Shelf.Spec.SlicesInsertGrow
import Derived.Test.YtcaehfkfohianaaGreatProg
import Derived.WalkKit
import Derived.WalkSpells
import Derived.WalkLawsBesides
import Derived.Deep.QuietTactic
import Derived.BigQuiet
import Derived.Lib.AppendStr
import Derived.Deep.RegionHeld3
import Derived.Deep.RegionLaw
import Derived.Deep.CutBlock
import Derived.StillTailTactics
import Derived.OwnWalk
import Derived.Deep.Slices
import Derived.ChangeSlices
set_option linter.all false
namespace Go.Proofs.YtcaehfkfohianaaGreat.Tm
open Go.Shelf
def lays107_ren : Go.Shelf.Ren := ⟨fun | 107 => 169 | 108 => 198 | n => n, fun | 28 => 32 | 3 => 3 | 4 => 4 | 0 => 0 | n => n, fun | n => n⟩
theorem lays107 : Go.Proofs.Lays.n107 Tryz.prog lays107_ren := {
 mixed := by kernel_rfl
 f107 := Tryz.func169.trans (congrArg some (by kernel_rfl))
 f108 := Tryz.func198.trans (congrArg some (by kernel_rfl))
 t0 := Tryz.underlying0
 a0 := Tryz.isAgg0
 z0 := Tryz.sizeOf0
 v0 := Tryz.zeroValue0
 t3 := Tryz.underlying3
 a3 := Tryz.isAgg3
 z3 := Tryz.sizeOf3
 v3 := Tryz.zeroValue3
 t4 := Tryz.underlying4
 a4 := Tryz.isAgg4
 z4 := Tryz.sizeOf4
 v4 := Tryz.zeroValue4
 t28 := Tryz.underlying32
 a28 := Tryz.isAgg32
 z28 := Tryz.sizeOf32
 v28 := Tryz.zeroValue32 }
open Go.Lib in
theorem slices_Contains_int (b off n c : Nat) (zs : List Int) (x : Int) (w : World) (hz : n ≤ zs.length) (hbig : n ≤ 9223372036854775807) (hc : ∀ j, j < zs.length → w.cell? ⟨b, off + j, none⟩ = some (.int .i64 (zs.getD j 0))) :
  Calls Tryz.prog 169 #[.slice (some ⟨b, off, none⟩) n c, .int .i64 x] w fun e w' => e = .returned (.bool ((zs.take n).contains x)) ∧ w' = w := Any.slices_Contains_int lays107 b off n c zs x w hz hbig hc
open Go.Lib in
theorem slices_Contains_int_empty (a : Option Addr) (c : Nat) (x : Int) (w : World) :
  Calls Tryz.prog 169 #[.slice a 0 c, .int .i64 x] w fun e w' => e = .returned (.bool false) ∧ w' = w := Any.slices_Contains_int_empty lays107 a c x w
def laysNm215_ren : Go.Shelf.Ren := ⟨fun | 15 => 50 | n => n, fun | 22 => 32 | 3 => 3 | 4 => 4 | n => n, fun | n => n⟩
theorem laysNm215 : Go.Proofs.Lays2.n15 Tryz.prog laysNm215_ren := {
 mixed := by kernel_rfl
 f15 := Tryz.func50.trans (congrArg some (by kernel_rfl))
 t3 := Tryz.underlying3
 a3 := Tryz.isAgg3
 z3 := Tryz.sizeOf3
 v3 := Tryz.zeroValue3
 t4 := Tryz.underlying4
 a4 := Tryz.isAgg4
 z4 := Tryz.sizeOf4
 v4 := Tryz.zeroValue4
 t22 := Tryz.underlying32
 a22 := Tryz.isAgg32
 z22 := Tryz.sizeOf32
 v22 := Tryz.zeroValue32
 i3 := by kernel_rfl }
open Go.RowKit Go.Lib in
theorem slices_Clone_int (b off n c : Nat) (zs : List Int) (w : World) (hz : n ≤ zs.length) (hbig : n * 8 ≤ 140737488355328) (hc : ∀ j, j < zs.length → w.cell? ⟨b, off + j, none⟩ = some (.int .i64 (zs.getD j 0))) :
  Calls Tryz.prog 50 #[.slice (some ⟨b, off, none⟩) n c] w fun e w' => ∃ v', e = .returned v' ∧ w'.ownsRow w.heap.size 3 1 v' n ((zs.take n).map (Value.int .i64)) ∧ v' ≠ .slice none 0 0 ∧ Below w.heap.size w w' := Any.slices_Clone_int laysNm215 b off n c zs w hz hbig hc
open Go.RowKit Go.Lib in
theorem slices_Clone_int_nil (n c : Nat) (w : World) :
  Calls Tryz.prog 50 #[.slice none n c] w fun e w' => e = .returned (.slice none 0 0) ∧ w' = w := Any.slices_Clone_int_nil laysNm215 n c w
open Go.RowKit Go.Lib in
theorem slices_Clone_int_zero (a : Addr) (c : Nat) (w : World) :
  Calls Tryz.prog 50 #[.slice (some a) 0 c] w fun e w' => ∃ v', e = .returned v' ∧ w'.ownsRow w.heap.size 3 1 v' 0 [] ∧ v' ≠ .slice none 0 0 ∧ Below w.heap.size w w' := Any.slices_Clone_int_zero laysNm215 a c w
def laysNm225_ren : Go.Shelf.Ren := ⟨fun | 25 => 155 | 31 => 170 | 32 => 171 | 37 => 199 | n => n, fun | 22 => 32 | 3 => 3 | 4 => 4 | 40 => 166 | 0 => 0 | n => n, fun | n => n⟩
theorem laysNm225 : Go.Proofs.Lays2.n25 Tryz.prog laysNm225_ren := {
 mixed := by kernel_rfl
 f25 := Tryz.func155.trans (congrArg some (by kernel_rfl))
 f31 := Tryz.func170.trans (congrArg some (by kernel_rfl))
 f32 := Tryz.func171.trans (congrArg some (by kernel_rfl))
 f37 := Tryz.func199.trans (congrArg some (by kernel_rfl))
 t0 := Tryz.underlying0
 a0 := Tryz.isAgg0
 z0 := Tryz.sizeOf0
 v0 := Tryz.zeroValue0
 t3 := Tryz.underlying3
 a3 := Tryz.isAgg3
 z3 := Tryz.sizeOf3
 v3 := Tryz.zeroValue3
 t4 := Tryz.underlying4
 a4 := Tryz.isAgg4
 z4 := Tryz.sizeOf4
 v4 := Tryz.zeroValue4
 t22 := Tryz.underlying32
 a22 := Tryz.isAgg32
 z22 := Tryz.sizeOf32
 v22 := Tryz.zeroValue32
 t40 := Tryz.underlying166
 a40 := Tryz.isAgg166
 z40 := Tryz.sizeOf166
 v40 := Tryz.zeroValue166 }
open Go.RowKit Go.Lib in
theorem slices_BinarySearch_int (b off n c : Nat) (zs : List Int) (x : Int) (w : World) (hz : n ≤ zs.length) (hbig : n < 4611686018427387904) (hc : ∀ j, j < zs.length → w.cell? ⟨b, off + j, none⟩ = some (.int .i64 (zs.getD j 0))) (hs : (zs.take n).Pairwise (· ≤ ·)) :
  Calls Tryz.prog 155 #[.slice (some ⟨b, off, none⟩) n c, .int .i64 x] w fun e w' => e = .returned (.tuple #[.int .i64 ((zs.take n).countP (· < x) : Nat), .bool ((zs.take n).contains x)]) ∧ ∃ q, w' = w.drewN q := Any.slices_BinarySearch_int laysNm225 b off n c zs x w hz hbig hc hs
open Go.RowKit Go.Lib in
theorem slices_BinarySearch_int_empty (a : Option Addr) (c : Nat) (x : Int) (w : World) :
  Calls Tryz.prog 155 #[.slice a 0 c, .int .i64 x] w fun e w' => e = .returned (.tuple #[.int .i64 0, .bool false]) ∧ w' = w := Any.slices_BinarySearch_int_empty laysNm225 a c x w
def laysNm221_ren : Go.Shelf.Ren := ⟨fun | 21 => 156 | 27 => 172 | 28 => 173 | 35 => 200 | 39 => 209 | n => n, fun | 22 => 32 | 3 => 3 | 4 => 4 | 0 => 0 | n => n, fun | n => n⟩
theorem laysNm221 : Go.Proofs.Lays2.n21 Tryz.prog laysNm221_ren := {
 mixed := by kernel_rfl
 f21 := Tryz.func156.trans (congrArg some (by kernel_rfl))
 f27 := Tryz.func172.trans (congrArg some (by kernel_rfl))
 f28 := Tryz.func173.trans (congrArg some (by kernel_rfl))
 f35 := Tryz.func200.trans (congrArg some (by kernel_rfl))
 f39 := Tryz.func209.trans (congrArg some (by kernel_rfl))
 t0 := Tryz.underlying0
 a0 := Tryz.isAgg0
 z0 := Tryz.sizeOf0
 v0 := Tryz.zeroValue0
 t3 := Tryz.underlying3
 a3 := Tryz.isAgg3
 z3 := Tryz.sizeOf3
 v3 := Tryz.zeroValue3
 t4 := Tryz.underlying4
 a4 := Tryz.isAgg4
 z4 := Tryz.sizeOf4
 v4 := Tryz.zeroValue4
 t22 := Tryz.underlying32
 a22 := Tryz.isAgg32
 z22 := Tryz.sizeOf32
 v22 := Tryz.zeroValue32
 i3 := by kernel_rfl }
end Go.Proofs.YtcaehfkfohianaaGreat.Tm
namespace Go.Proofs.YtcaehfkfohianaaGreat.Tm
open Go.RowKit
theorem hideIt {p : Prop} (h : p) : Hid p := h
structure Out (F : Nat → Prop) (w w' : World) : Prop where
 os : w'.os = w.os
 tape : w'.tape = w.tape
 output : w'.output = w.output
 size : w.heap.size ≤ w'.heap.size
 block : ∀ k, k < w.heap.size → ¬ F k → w'.heap[k]? = w.heap[k]?
theorem Out.refl (F : Nat → Prop) (w : World) : Out F w w := ⟨rfl, rfl, rfl, Nat.le_refl _, fun _ _ _ => rfl⟩
theorem Out.trans {F G : Nat → Prop} {a b c : World} (h : Out F a b) (k : Out G b c) (hG : ∀ i, i < a.heap.size → G i → F i) : Out F a c :=
 ⟨k.os.trans h.os, k.tape.trans h.tape, k.output.trans h.output, Nat.le_trans h.size k.size, fun i hi hn => (k.block i (Nat.lt_of_lt_of_le hi h.size) (fun e => hn (hG i hi e))).trans (h.block i hi hn)⟩
theorem Out.mono {F G : Nat → Prop} {a b : World} (h : Out F a b) (hG : ∀ i, F i → G i) : Out G a b :=
 ⟨h.os, h.tape, h.output, h.size, fun i hi hn => h.block i hi (fun e => hn (hG i e))⟩
theorem Out.below {F : Nat → Prop} {w w' : World} (h : Out F w w') {B : Nat} (hB : B ≤ w.heap.size) (hF : ∀ k, F k → B ≤ k) : Below B w w' :=
 ⟨h.os, h.tape, h.output, h.size, fun i hi => h.block i (Nat.lt_of_lt_of_le hi hB) (fun e => by have := hF i e; omega)⟩
theorem Out.ofGrown {F : Nat → Prop} {w w' : World} {r : Option Nat} (h : w.grownBy w' r) (hF : ∀ k, r = some k → F k) : Out F w w' :=
 ⟨h.os, h.tape, h.output, h.size, fun i hi hn => h.block i hi (fun e => hn (hF i e.symm))⟩
theorem cell_at {w : World} {p : Nat} {cs : Array Value} {t : TypeId} (h : w.heap[p]? = some (.cells cs t (0, 0))) (i : Nat) : w.cell? ⟨p, i, none⟩ = cs[i]? := by
 simp [World.cell?, h]
theorem free_at {w : World} {p : Nat} {cs : Array Value} {t : TypeId} (h : w.heap[p]? = some (.cells cs t (0, 0))) (i : Nat) : w.frozen? ⟨p, i, none⟩ = false := by
 simp [World.frozen?, h]
theorem heap_set {w : World} {p : Nat} {cs : Array Value} {t : TypeId} (h : w.heap[p]? = some (.cells cs t (0, 0))) (j : Nat) (v : Value) : (w.setCell ⟨p, j, none⟩ v).heap[p]? = some (.cells (cs.setIfInBounds j v) t (0, 0)) := by
 rw [setCell_eq_setRow _ p j cs t (0, 0) _ h];exact setRow_heap _ p cs _ t _ h
theorem heap_set_other (w : World) (p j k : Nat) (v : Value) (h : k ≠ p) : (w.setCell ⟨p, j, none⟩ v).heap[k]? = w.heap[k]? := RowKit.Below.heap_setCell _ _ _ _ (fun e => h e)
def iv (x : Int) : Value := .int .i64 x
def GotAt (w : World) (v : Value) (l : List Int) : Prop :=
 l.length * 8 ≤ 140737488355328 ∧ ∃ a c, v = .slice a l.length c ∧ (0 < l.length → ∃ b off, a = some ⟨b, off, none⟩ ∧ b < w.heap.size ∧ ∀ j, j < l.length → w.cell? ⟨b, off + j, none⟩ = some (.int .i64 (l.getD j 0)))
theorem GotAt.nil (w : World) (a : Option Addr) (c : Nat) : GotAt w (.slice a 0 c) [] := ⟨by simp, a, c, rfl, fun h => absurd h (by simp)⟩
theorem GotAt.keep {w w' : World} {v : Value} {l : List Int} (h : GotAt w v l) (hb : Below w.heap.size w w') : GotAt w' v l := by
 obtain ⟨h8, a, c, rfl, hr⟩ := h;refine ⟨h8, a, c, rfl, fun hp => ?_⟩;obtain ⟨b, off, rfl, hlt, hc⟩ := hr hp
 exact ⟨b, off, rfl, Nat.lt_of_lt_of_le hlt hb.size, fun j hj => (hb.cell hlt).trans (hc j hj)⟩
theorem GotAt.parts {w : World} {v : Value} {l : List Int} (h : GotAt w v l) : (l = [] ∧ ∃ a c, v = .slice a 0 c) ∨ (∃ b off c, v = .slice (some ⟨b, off, none⟩) l.length c ∧ b < w.heap.size ∧ l.length * 8 ≤ 140737488355328 ∧ 0 < l.length ∧ ∀ j, j < l.length → w.cell? ⟨b, off + j, none⟩ = some (.int .i64 (l.getD j 0))) := by
 obtain ⟨h8, a, c, rfl, hr⟩ := h
 rcases l with _ | ⟨x, l⟩
 ·exact .inl ⟨rfl, a, c, rfl⟩
 ·obtain ⟨b, off, rfl, hlt, hc⟩ := hr (by simp);exact .inr ⟨b, off, c, rfl, hlt, h8, by simp, hc⟩
theorem map_get (l : List Int) (j : Nat) (hj : j < l.length) : (l.map iv)[j]? = some (.int .i64 (l.getD j 0)) := by
 simp [iv, List.getD, List.getElem?_eq_getElem hj]
theorem own_got {w : World} {B : Nat} {v : Value} {l : List Int} (h : w.ownsRow B 3 1 v l.length (l.map iv)) (h8 : l.length * 8 ≤ 140737488355328) : GotAt w v l := by
 obtain ⟨_, ⟨rfl, h0⟩ | ⟨g, cap, cur, rfl, hB, hg, hn, hc, hs, ht⟩⟩ := h
 ·rw [List.length_eq_zero_iff] at h0;subst h0;exact GotAt.nil _ _ _
 ·refine ⟨h8, _, cap, rfl, fun _ => ⟨g, 0, rfl, (Array.getElem?_eq_some_iff.1 hg).1, fun j hj => ?_⟩⟩;rw [cell_at hg, Nat.zero_add, ← map_get l j hj, ← ht, List.getElem?_take, if_pos (by omega)]
  simp
theorem own_len {w : World} {B : Nat} {e : TypeId} {z n : Nat} {v : Value} {xs : List Value} (h : w.ownsRow B e z v n xs) : ∃ a c, v = .slice a n c := by
 obtain ⟨_, ⟨rfl, rfl⟩ | ⟨g, cap, cur, rfl, _⟩⟩ := h
 ·exact ⟨_, _, rfl⟩
 ·exact ⟨_, _, rfl⟩
theorem own_keep {w w' : World} {B : Nat} {e : TypeId} {z n : Nat} {v : Value} {xs : List Value} (h : w.ownsRow B e z v n xs) (hb : Below w.heap.size w w') : w'.ownsRow B e z v n xs := by
 obtain ⟨h1, h2 | ⟨g, cap, cur, hv, hB, hg, r⟩⟩ := h
 ·exact ⟨h1, .inl h2⟩
 ·exact ⟨h1, .inr ⟨g, cap, cur, hv, hB, (hb.block g (Array.getElem?_eq_some_iff.1 hg).1).trans hg, r⟩⟩
theorem own_base {w : World} {B B' : Nat} {e : TypeId} {z n : Nat} {v : Value} {xs : List Value} (h : w.ownsRow B e z v n xs) (hb : B' ≤ B) : w.ownsRow B' e z v n xs := by
 obtain ⟨h1, h2 | ⟨g, cap, cur, hv, hB, r⟩⟩ := h
 ·exact ⟨h1, .inl h2⟩
 ·exact ⟨h1, .inr ⟨g, cap, cur, hv, by omega, r⟩⟩
def OwnBack (B : Nat) (w : World) (l : List Int) (e : Ending) (w' : World) : Prop := ∃ v, e = .returned v ∧ w'.ownsRow B 3 1 v l.length (l.map iv) ∧ Below B w w'
theorem clone_any (v : Value) (l : List Int) (w : World) (h : GotAt w v l) : Calls Tryz.prog 50 #[v] w (OwnBack w.heap.size w l) := by
 rcases h.parts with ⟨rfl, a, c, rfl⟩ | ⟨b, off, c, rfl, hlt, h8, hp, hc⟩
 ·cases a with
  | none =>
   refine (slices_Clone_int_nil 0 c w).mono ?_;rintro e w' ⟨rfl, rfl⟩
   exact ⟨_, rfl, ⟨rfl, .inl ⟨rfl, rfl⟩⟩, Below.refl _ _⟩
  | some a =>
   refine (slices_Clone_int_zero a c w).mono ?_;rintro e w' ⟨v', rfl, h1, _, h2⟩
   exact ⟨_, rfl, h1, h2⟩
 ·refine (slices_Clone_int b off l.length c l w (Nat.le_refl _) h8 hc).mono ?_;rintro e w' ⟨v', rfl, h1, _, h2⟩;rw [List.take_length] at h1
  exact ⟨_, rfl, h1, h2⟩
theorem contains_any (v : Value) (l : List Int) (x : Int) (w : World) (h : GotAt w v l) : Calls Tryz.prog 169 #[v, .int .i64 x] w fun e w' => e = .returned (.bool (l.contains x)) ∧ w' = w := by
 rcases h.parts with ⟨rfl, a, c, rfl⟩ | ⟨b, off, c, rfl, hlt, h8, hp, hc⟩
 ·exact slices_Contains_int_empty a c x w
 ·refine (slices_Contains_int b off l.length c l x w (Nat.le_refl _) (by omega) hc).mono ?_;rintro e w' ⟨rfl, rfl⟩;rw [List.take_length]
  exact ⟨rfl, rfl⟩
theorem search_any (v : Value) (l : List Int) (x : Int) (w : World) (h : GotAt w v l) (hs : l.Pairwise (· ≤ ·)) : Calls Tryz.prog 155 #[v, .int .i64 x] w fun e w' => e = .returned (.tuple #[.int .i64 (l.countP (· < x) : Nat), .bool (l.contains x)]) ∧ ∃ q, w' = w.drewN q := by
 rcases h.parts with ⟨rfl, a, c, rfl⟩ | ⟨b, off, c, rfl, hlt, h8, hp, hc⟩
 ·refine (slices_BinarySearch_int_empty a c x w).mono ?_;rintro e w' ⟨rfl, rfl⟩
  exact ⟨rfl, 0, rfl⟩
 ·have := slices_BinarySearch_int b off l.length c l x w (Nat.le_refl _) (by omega) hc (by rw [List.take_length]; exact hs)
  rw [List.take_length] at this;exact this
def putL (cur : Array Value) (o : Nat) : List Value → Array Value
 | [] => cur
 | v :: r => putL (cur.setIfInBounds o v) (o + 1) r
theorem putL_size (vs : List Value) : ∀ (cur : Array Value) (o : Nat), (putL cur o vs).size = cur.size := by
 induction vs with
 | nil => intro _ _; rfl
 | cons v r ih => intro cur o; rw [putL, ih, Array.size_setIfInBounds]
theorem putL_get (vs : List Value) : ∀ (cur : Array Value) (o j : Nat), o + vs.length ≤ cur.size → (putL cur o vs)[j]? = if o ≤ j ∧ j < o + vs.length then vs[j - o]? else cur[j]? := by
 induction vs with
 | nil =>
  intro cur o j _;rw [putL, if_neg (by simp)]
 | cons v r ih =>
  intro cur o j h;simp only [List.length_cons] at h;rw [putL, ih _ _ _ (by rw [Array.size_setIfInBounds]; omega), List.length_cons, Array.getElem?_setIfInBounds]
  by_cases h1 : o = j
  ·subst h1;rw [if_neg (by omega), if_pos rfl, if_pos (by omega), if_pos (by omega), Nat.sub_self]
   rfl
  ·by_cases h2 : o + 1 ≤ j ∧ j < o + 1 + r.length
   ·rw [if_pos h2, if_pos (by omega)];obtain ⟨d, rfl⟩ : ∃ d, j = o + 1 + d := ⟨j - (o + 1), by omega⟩;rw [show o + 1 + d - (o + 1) = d by omega, show o + 1 + d - o = d + 1 by omega]
    rfl
   ·rw [if_neg h2, if_neg h1, if_neg (by omega)]
theorem heap_setCells (g : Nat) (t : TypeId) (vs : List Value) : ∀ (o : Nat) (w : World) (cur : Array Value), w.heap[g]? = some (.cells cur t (0, 0)) → (w.setCells g o vs).heap[g]? = some (.cells (putL cur o vs) t (0, 0)) := by
 induction vs with
 | nil => intro o w cur h; exact h
 | cons v r ih =>
  intro o w cur h;rw [World.setCells, putL];exact ih _ _ _ (heap_set h o v)
theorem below_setCells (B g : Nat) (hB : B ≤ g) (vs : List Value) : ∀ (o : Nat) (w0 w : World), Below B w0 w → Below B w0 (w.setCells g o vs) := by
 induction vs with
 | nil => intro _ _ _ h; exact h
 | cons v r ih =>
  intro o w0 w h;rw [World.setCells];refine ih _ _ _ ⟨h.os, h.tape, h.output, by simpa using h.size, fun k hk => ?_⟩;rw [heap_set_other _ _ _ _ _ (by omega)];exact h.block k hk
theorem take_ins (A : Array Value) (cs : List Value) (x : Value) (i n : Nat) (hn : n = cs.length) (hi : i ≤ n) (hA : n + 1 ≤ A.size) (h1 : ∀ j, j < i → A[j]? = cs[j]?) (h2 : A[i]? = some x) (h3 : ∀ j, i ≤ j → j < n → A[j + 1]? = cs[j]?) :
  A.toList.take (n + 1) = cs.take i ++ x :: cs.drop i := by
 subst hn
 apply List.ext_getElem?
 intro j;rw [List.getElem?_take];have hl : (cs.take i).length = i := by rw [List.length_take]; omega
 by_cases hj : j < cs.length + 1
 ·rw [if_pos hj];have e : A.toList[j]? = A[j]? := by simp
  rw [e]
  rcases Nat.lt_trichotomy j i with h | h | h
  ·rw [List.getElem?_append_left (by omega), List.getElem?_take, if_pos h, h1 j h]
  ·subst h;rw [List.getElem?_append_right (by omega), hl, Nat.sub_self, h2]
   rfl
  ·rw [List.getElem?_append_right (by omega), hl];obtain ⟨d, rfl⟩ : ∃ d, j = i + d + 1 := ⟨j - i - 1, by omega⟩;rw [show i + d + 1 - i = d + 1 by omega, h3 (i + d) (by omega) (by omega), List.getElem?_cons_succ, List.getElem?_drop]
 ·rw [if_neg hj, eq_comm, List.getElem?_eq_none_iff]
  simp
  omega
def insL (l : List Int) (i : Nat) (x : Int) : List Int := l.take i ++ x :: l.drop i
theorem insL_len (l : List Int) (i : Nat) (x : Int) : (insL l i x).length = l.length + 1 := by
 simp [insL]
 omega
theorem insL_map (l : List Int) (i : Nat) (x : Int) : (insL l i x).map iv = (l.map iv).take i ++ iv x :: (l.map iv).drop i := by
 simp [insL, List.map_take, List.map_drop]
theorem iv_one (l : List Int) : ∀ u ∈ l.map iv, u.oneCell' = true := by
 intro u hu;obtain ⟨k, _, rfl⟩ := List.mem_map.1 hu
 rfl
theorem shape_at {w : World} {p : Nat} {cs : Array Value} {t : TypeId} (h : w.heap[p]? = some (.cells cs t (0, 0))) : w.shape? p = some (t, cs.size) := by
 simp [World.shape?, h]
theorem shape_new (w : World) (cs : Array Value) (t : TypeId) : (w.alloc (.cells cs t)).shape? w.heap.size = some (t, cs.size) := shape_at (heap_alloc_new w _)
theorem grow_own (w : World) (B m cap : Nat) (hB : B ≤ w.heap.size) (A : Array Value) (l : List Int) (W : World) (hW : W.heap[w.heap.size]? = some (.cells A 3 (0, 0))) (hm : l.length = m) (hs : A.size = cap) (hc : m ≤ cap) (hcm : cap ≤ maxLen) (ht : A.toList.take m = l.map iv) :
  W.ownsRow B 3 1 (.slice (some ⟨w.heap.size, 0, none⟩) m cap) l.length (l.map iv) := by
 subst hm
 exact ⟨by simp, .inr ⟨w.heap.size, cap, A, rfl, hB, hW, hc, hcm, by omega, by rw [Nat.mul_one]; exact ht⟩⟩
theorem insert_own (B : Nat) (v : Value) (l : List Int) (i : Nat) (x : Int) (w : World) (hB : B ≤ w.heap.size) (hi : i ≤ l.length) (h8 : l.length ≤ 1000) (h : w.ownsRow B 3 1 v l.length (l.map iv)) :
  Calls Tryz.prog 156 #[v, .int .i64 (i : Int), .slice (some ⟨w.heap.size, 0, none⟩) 1 1] (w.alloc (.cells #[.int .i64 x] 3)) (OwnBack B w (insL l i x)) := by
 have hal : Below B w (w.alloc (.cells #[.int .i64 x] 3)) := (Below.refl B w).alloc hB _;have hnew : ∀ j u, [iv x][j]? = some u → (w.alloc (.cells #[.int .i64 x] 3)).cell? ⟨w.heap.size, 0 + j, none⟩ = some u := by
  intro j u hu;rw [cell_at (heap_alloc_new w _), Nat.zero_add];cases j with
  | zero => simpa [iv] using hu
  | succ j => simp at hu
 have hone : ∀ u ∈ [iv x], u.oneCell' = true := by
  intro u hu
  simp at hu
  subst hu
  rfl
 have hcl : (l.map iv).length = l.length := List.length_map ..;have e3 : laysNm221_ren.t 3 = 3 := rfl;have hz3 : (Value.int IntKind.i64 0).cells.size = 1 := rfl;have hsz : (w.alloc (.cells #[.int .i64 x] 3)).heap.size = w.heap.size + 1 := by simp
 obtain ⟨hl0, ⟨rfl, h0⟩ | ⟨g, cap, cur, rfl, hg, hcur, hn, hc, hs, ht⟩⟩ := h
 ·have hl : l = [] := List.length_eq_zero_iff.1 h0;subst hl;obtain rfl : i = 0 := by simpa using hi
  refine (Any2.slices_Insert_int_end_grow laysNm221 none 0 0 w.heap.size 0 1 1 [] [iv x] _ (by omega) (by omega) (by omega) (by omega) rfl rfl (fun _ => rfl) (fun a h => by cases h) hnew hone).mono ?_;rintro e w' ⟨rfl, rfl⟩;have hge := grownCap_ge (w.alloc (.cells #[.int .i64 x] 3)) 1 0 3;have hcm := grownCap_le_maxLen (w.alloc (.cells #[.int .i64 x] 3)) 1 0 3 (by decide);refine ⟨_, rfl, grow_own _ B 1 _ (by rw [hsz]; omega) _ [x] _ (heap_alloc_new (w.alloc (.cells #[.int .i64 x] 3)).drew _) rfl ?_ hge hcm ?_, hal.drew.alloc (by show B ≤ (w.alloc _).heap.size; rw [hsz]; omega) _⟩
  ·simp only [Array.size_append, List.size_toArray, size_zeroCells, hz3, List.length_append, List.length_nil, List.length_cons];rw [e3];generalize grownCap (w.alloc (.cells #[.int .i64 x] 3)) _ _ _ = q at *;omega
  ·simp [iv]
 ·rw [Nat.mul_one] at hs ht;have hgl : g < w.heap.size := (Array.getElem?_eq_some_iff.1 hcur).1;have hcurA : (w.alloc (.cells #[.int .i64 x] 3)).heap[g]? = some (.cells cur 3 (0, 0)) := (heap_alloc_old w _ hgl).trans hcur;have hget : ∀ j, j < l.length → cur[j]? = (l.map iv)[j]? := by
   intro j hj;rw [← ht, List.getElem?_take, if_pos hj]
   simp
  have hcs : ∀ j u, (l.map iv)[j]? = some u → (w.alloc (.cells #[.int .i64 x] 3)).cell? ⟨g, 0 + j, none⟩ = some u := by
   intro j u hu;have hj : j < l.length := by
    have := (List.getElem?_eq_some_iff.1 hu).1;omega
   rw [cell_at hcurA, Nat.zero_add, hget j hj, hu]
  by_cases hroom : l.length + 1 ≤ cap
  ·by_cases he : i = l.length
   ·subst he;refine (Any2.slices_Insert_int_end_room laysNm221 g 0 l.length cap w.heap.size 0 1 1 [iv x] _ (by omega) hroom hc rfl ?_ ?_ hnew hone).mono ?_
    ·intro j hj;rw [cell_at hcurA]
     simp
     omega
    ·intro j hj;exact free_at hcurA _
    ·rintro e w' ⟨rfl, rfl⟩;have hput : ((w.alloc (.cells #[.int .i64 x] 3)).setCells g (0 + l.length) [iv x]).heap[g]? = _ := heap_setCells g 3 [iv x] _ _ _ hcurA;refine ⟨_, rfl, ⟨by simp, .inr ⟨g, cap, _, by rw [insL_len], hg, hput, by rw [insL_len]; omega, hc, by rw [putL_size]; omega, ?_⟩⟩, below_setCells B g hg _ _ _ _ hal⟩
     rw [insL_len, insL_map, Nat.mul_one];have hb : 0 + l.length + [iv x].length ≤ cur.size := by simp; omega
     refine take_ins _ _ _ l.length l.length (by simp) (Nat.le_refl _) (by rw [putL_size]; omega) ?_ ?_ ?_
     ·intro j hj;rw [putL_get _ _ _ _ hb, if_neg (by omega), hget j hj]
     ·rw [putL_get _ _ _ _ hb, if_pos (by simp), Nat.zero_add, Nat.sub_self]
      rfl
     ·intro j h1 h2;omega
   ·have hi' : i < l.length := by omega
    refine (Any2.slices_Insert_int_shift laysNm221 g 0 l.length cap i w.heap.size 0 1 1 (l.map iv) [iv x] _ hi' (by omega) hroom hc (by omega) hcl rfl hcs ?_ ?_ hnew (iv_one l) hone 3 3 1 cur.size (shape_new w _ 3) (shape_at hcurA) (by omega) (free_at (heap_alloc_new w _) _) (free_at (heap_alloc_new w _) _)).mono ?_
    ·intro j hj;rw [cell_at hcurA]
     simp
     omega
    ·intro j hj;exact free_at hcurA _
    ·rintro e w' ⟨rfl, rfl⟩;have hput1 : ((w.alloc (.cells #[.int .i64 x] 3)).drew.setCells g (0 + (i + 1)) ((l.map iv).drop i)).heap[g]? = _ := heap_setCells g 3 ((l.map iv).drop i) _ (w.alloc (.cells #[.int .i64 x] 3)).drew cur hcurA;have hput := heap_setCells g 3 [iv x] (0 + i) _ _ hput1;refine ⟨_, rfl, ⟨by simp, .inr ⟨g, cap, _, by rw [insL_len], hg, hput, by rw [insL_len]; omega, hc, by rw [putL_size, putL_size]; omega, ?_⟩⟩, below_setCells B g hg _ _ _ _ (below_setCells B g hg _ _ _ _ hal.drew)⟩
     rw [insL_len, insL_map, Nat.mul_one];have hdl : ((l.map iv).drop i).length = l.length - i := by simp
     have hb1 : 0 + (i + 1) + ((l.map iv).drop i).length ≤ cur.size := by rw [hdl]; omega
     have hb : 0 + i + [iv x].length ≤ (putL cur (0 + (i + 1)) ((l.map iv).drop i)).size := by rw [putL_size]; simp; omega
     refine take_ins _ _ _ i l.length (by simp) hi (by rw [putL_size, putL_size]; omega) ?_ ?_ ?_
     ·intro j hj;rw [putL_get _ _ _ _ hb, if_neg (by omega), putL_get _ _ _ _ hb1, if_neg (by omega), hget j (by omega)]
     ·rw [putL_get _ _ _ _ hb, if_pos (by simp), Nat.zero_add, Nat.sub_self]
      rfl
     ·intro j h1 h2;rw [putL_get _ _ _ _ hb, if_neg (by simp; omega), putL_get _ _ _ _ hb1, if_pos (by rw [hdl]; omega), List.getElem?_drop, show i + (j + 1 - (0 + (i + 1))) = j by omega]
  ·have hcap : cap = l.length := by omega
   have hge := grownCap_ge (w.alloc (.cells #[.int .i64 x] 3)) (l.length + 1) cap 3;have hcm := grownCap_le_maxLen (w.alloc (.cells #[.int .i64 x] 3)) (l.length + 1) cap 3 (by unfold maxLen; omega)
   by_cases he : i = l.length
   ·subst he;refine (Any2.slices_Insert_int_end_grow laysNm221 (some ⟨g, 0, none⟩) l.length cap w.heap.size 0 1 1 (l.map iv) [iv x] _ (by omega) (by omega) (by omega) (by omega) hcl rfl (fun h => by cases h) (fun a h => by cases h; intro j u hu; rw [Addr.add_lit]; exact hcs j u hu) hnew hone).mono ?_
    rintro e w' ⟨rfl, rfl⟩;refine ⟨_, rfl, grow_own _ B (l.length + 1) _ (by rw [hsz]; omega) _ _ _ (heap_alloc_new (w.alloc (.cells #[.int .i64 x] 3)).drew _) (insL_len ..) ?_ hge hcm ?_, hal.drew.alloc (by show B ≤ (w.alloc _).heap.size; rw [hsz]; omega) _⟩
    ·simp only [Array.size_append, List.size_toArray, size_zeroCells, hz3, List.length_append, List.length_nil, List.length_cons, List.length_map];rw [e3];generalize grownCap (w.alloc (.cells #[.int .i64 x] 3)) _ _ _ = q at *;omega
    ·have e1 : (l.map iv).take l.length = l.map iv := List.take_of_length_le (by simp);have e2 : (l.map iv).drop l.length = [] := List.drop_eq_nil_of_le (by simp);rw [insL_map, e1, e2, Array.toList_append];have : l.length + 1 = (l.map iv ++ [iv x]).length := by simp
     rw [this];exact List.take_left
   ·have hi' : i < l.length := by omega
    refine (Any2.slices_Insert_int_grow laysNm221 g 0 l.length cap i w.heap.size 0 1 1 (l.map iv) [iv x] _ hi' (by omega) (by omega) (by omega) (by omega) hcl rfl hcs hnew (iv_one l) hone).mono ?_;rintro e w' ⟨rfl, rfl⟩;obtain ⟨A, hA⟩ : ∃ A, A = ((l.map iv).take i).toArray ++ Builtin.zeroCells (Value.int .i64 0).cells (l.length + 1 - i) ++ Builtin.zeroCells (Value.int .i64 0).cells (grownCap (w.alloc (.cells #[.int .i64 x] 3)) (l.length + 1) cap 3 - (l.length + 1)) := ⟨_, rfl⟩;have hAs : A.size = grownCap (w.alloc (.cells #[.int .i64 x] 3)) (l.length + 1) cap 3 := by
     rw [hA];simp only [Array.size_append, List.size_toArray, size_zeroCells, hz3, List.length_take, List.length_map];omega
    have hA1 : ∀ j, j < i → A[j]? = (l.map iv)[j]? := by
     intro j hj;rw [hA, Array.append_assoc, Array.getElem?_append_left (by simp; omega)]
     simp [hj]
    have hnewA := heap_alloc_new (w.alloc (.cells #[.int .i64 x] 3)) (.cells A 3);have hput1 := heap_setCells (w.alloc (.cells #[.int .i64 x] 3)).heap.size 3 [iv x] i ((w.alloc (.cells #[.int .i64 x] 3)).alloc (.cells A 3)).drew A hnewA;have hput := heap_setCells (w.alloc (.cells #[.int .i64 x] 3)).heap.size 3 ((l.map iv).drop i) (i + 1) (((w.alloc (.cells #[.int .i64 x] 3)).alloc (.cells A 3)).drew.setCells (w.alloc (.cells #[.int .i64 x] 3)).heap.size i [iv x]).drew _ hput1;have hBs : B ≤ (w.alloc (.cells #[.int .i64 x] 3)).heap.size := by rw [hsz]; omega
    rw [hA] at hput;refine ⟨_, rfl, grow_own _ B (l.length + 1) _ hBs _ _ _ hput (insL_len ..) ?_ hge hcm ?_, below_setCells B _ hBs _ _ _ _ (below_setCells B _ hBs _ _ _ _ (hal.alloc hBs _).drew).drew⟩
    ·rw [putL_size, putL_size, ← hA];exact hAs
    ·rw [← hA, insL_map];have hdl : ((l.map iv).drop i).length = l.length - i := by simp
     have hge' : l.length + 1 ≤ A.size := by rw [hAs]; exact hge
     have hb1 : i + [iv x].length ≤ A.size := by simp; omega
     have hb : i + 1 + ((l.map iv).drop i).length ≤ (putL A i [iv x]).size := by rw [putL_size, hdl]; omega
     refine take_ins _ _ _ i l.length (by simp) hi (by rw [putL_size, putL_size]; omega) ?_ ?_ ?_
     ·intro j hj;rw [putL_get _ _ _ _ hb, if_neg (by omega), putL_get _ _ _ _ hb1, if_neg (by omega), hA1 j hj]
     ·rw [putL_get _ _ _ _ hb, if_neg (by omega), putL_get _ _ _ _ hb1, if_pos (by simp), Nat.sub_self]
      rfl
     ·intro j h1 h2;rw [putL_get _ _ _ _ hb, if_pos (by rw [hdl]; omega), List.getElem?_drop, show i + (j + 1 - (i + 1)) = j by omega]
def i64B (x : Int) : Prop := -9223372036854775808 ≤ x ∧ x ≤ 9223372036854775807
def wiB (x lo hi : Int) : Bool := decide (lo ≤ x ∧ x ≤ hi)
def mkB (i t : Int) : Bool := wiB i 0 1000000 && wiB t 0 1000000 && (t == 0) == (i == 0)
def lessB (ai aT bi bt : Int) : Bool := decide (aT < bt) || (aT == bt && decide (ai < bi))
theorem below1 (w : World) (o : Obj) : Below w.heap.size w (w.alloc o) := (Below.refl _ w).alloc (Nat.le_refl _) o
theorem below2 (w : World) (o p : Obj) : Below w.heap.size w ((w.alloc o).alloc p) := (below1 w o).alloc (by simp) p
set_option maxHeartbeats 1000000 in
theorem within_is (x lo hi : Int) (w : World) : Calls Tryz.prog 148 #[.int .i64 x, .int .i64 lo, .int .i64 hi] w fun e w' => e = .returned (.bool (wiB x lo hi)) ∧ w' = w := by
 unfold wiB
 by_cases h : lo ≤ x
 ·go_enter Tryz.func148, Tryz.ntmps148
  go_wp2;go_ret
  exact ⟨by simp [h], rfl⟩
 ·go_enter Tryz.func148, Tryz.ntmps148
  go_wp2;go_ret
  exact ⟨by rw [decide_eq_false (by omega)]; rfl, rfl⟩
theorem isNode_is (x : Int) (w : World) : Calls Tryz.prog 154 #[.int .i64 x] w fun e w' => e = .returned (.bool (wiB x 1 7)) ∧ w' = w := by
 have H := hideIt (within_is x 1 7 w)
 go_enter Tryz.func154, Tryz.ntmps154
 go_wp2_with fail
 refine H.out.mono ?_;rintro e w1 ⟨rfl, rfl⟩;dsimp only;go_wp2;go_ret
 exact ⟨rfl, rfl⟩
theorem isTerm_is (x : Int) (w : World) : Calls Tryz.prog 120 #[.int .i64 x] w fun e w' => e = .returned (.bool (wiB x 1 1000000)) ∧ w' = w := by
 have H := hideIt (within_is x 1 1000000 w)
 go_enter Tryz.func120, Tryz.ntmps120
 go_wp2_with fail
 refine H.out.mono ?_;rintro e w1 ⟨rfl, rfl⟩;dsimp only;go_wp2;go_ret
 exact ⟨rfl, rfl⟩
def oneB (x n : Int) : Bool := wiB n 1 7 && wiB x 1 n
theorem isOneOf_is (x n : Int) (w : World) : Calls Tryz.prog 133 #[.int .i64 x, .int .i64 n] w fun e w' => e = .returned (.bool (oneB x n)) ∧ w' = w := by
 have H1 := hideIt (isNode_is n w);have H2 := hideIt (within_is x 1 n w);unfold oneB;cases h : wiB n 1 7
 ·rw [h] at H1
  go_enter Tryz.func133, Tryz.ntmps133
  go_wp2_with fail
  refine H1.out.mono ?_;rintro e w1 ⟨rfl, rfl⟩;dsimp only;go_wp2;go_ret
  exact ⟨rfl, rfl⟩
 ·rw [h] at H1
  go_enter Tryz.func133, Tryz.ntmps133
  go_wp2_with fail
  refine H1.out.mono ?_;rintro e w1 ⟨rfl, rfl⟩;dsimp only
  go_wp2_with fail
  refine H2.out.mono ?_;rintro e w1 ⟨rfl, rfl⟩;dsimp only;go_wp2;go_ret
  exact ⟨by simp, rfl⟩
set_option maxHeartbeats 2000000 in
theorem isMark_is (i t : Int) (w : World) : Calls Tryz.prog 191 #[.agg #[.int .i64 i, .int .i64 t]] w fun e w' => e = .returned (.bool (mkB i t)) ∧ Below w.heap.size w w' := by
 have N1 := hideIt (fun W => within_is i 0 1000000 W);have N2 := hideIt (fun W => within_is t 0 1000000 W);unfold mkB;have HB := hideIt (below1 w (.cells #[.int .i64 i, .int .i64 t] 25));cases h1 : wiB i 0 1000000
 ·rw [h1] at N1
  go_enter Tryz.func191, Tryz.ntmps191
  go_wp2_with fail
  refine (N1.out _).mono ?_;rintro e w1 ⟨rfl, rfl⟩;dsimp only;go_wp2;go_ret
  exact ⟨rfl, HB.out⟩
 ·rw [h1] at N1;cases h2 : wiB t 0 1000000
  ·rw [h2] at N2
   go_enter Tryz.func191, Tryz.ntmps191
   go_wp2_with fail
   refine (N1.out _).mono ?_;rintro e w1 ⟨rfl, rfl⟩;dsimp only
   go_wp2_with fail
   refine (N2.out _).mono ?_;rintro e w1 ⟨rfl, rfl⟩;dsimp only;go_wp2;go_ret
   exact ⟨rfl, HB.out⟩
  ·rw [h2] at N2
   by_cases h3 : i = 0
   ·subst h3
    go_enter Tryz.func191, Tryz.ntmps191
    go_wp2_with fail
    refine (N1.out _).mono ?_;rintro e w1 ⟨rfl, rfl⟩;dsimp only
    go_wp2_with fail
    refine (N2.out _).mono ?_;rintro e w1 ⟨rfl, rfl⟩;dsimp only;go_wp2;go_ret
    exact ⟨by cases h : (t == 0) <;> simp_all, HB.out⟩
   ·have h3b : (i == 0) = false := beq_eq_false_iff_ne.2 h3
    go_enter Tryz.func191, Tryz.ntmps191
    go_wp2_with fail
    refine (N1.out _).mono ?_;rintro e w1 ⟨rfl, rfl⟩;dsimp only
    go_wp2_with fail
    refine (N2.out _).mono ?_;rintro e w1 ⟨rfl, rfl⟩;dsimp only;go_wp2;go_ret
    exact ⟨by cases h : (t == 0) <;> simp_all, HB.out⟩
set_option maxHeartbeats 2000000 in
theorem less_is (ai aT bi bt : Int) (w : World) : Calls Tryz.prog 193 #[.agg #[.int .i64 ai, .int .i64 aT], .agg #[.int .i64 bi, .int .i64 bt]] w fun e w' => e = .returned (.bool (lessB ai aT bi bt)) ∧ Below w.heap.size w w' := by
 have HB := hideIt (below2 w (.cells #[.int .i64 ai, .int .i64 aT] 25) (.cells #[.int .i64 bi, .int .i64 bt] 25));unfold lessB
 by_cases h1 : aT < bt
 ·go_enter Tryz.func193, Tryz.ntmps193
  go_wp2;go_ret
  exact ⟨by simp [h1], HB.out⟩
 ·by_cases h2 : aT = bt
  ·subst h2
   go_enter Tryz.func193, Tryz.ntmps193
   go_wp2;go_ret
   exact ⟨by simp, HB.out⟩
  ·have h2b : (aT == bt) = false := beq_eq_false_iff_ne.2 h2
   go_enter Tryz.func193, Tryz.ntmps193
   go_wp2;go_ret
   exact ⟨by simp [h1], HB.out⟩
set_option maxHeartbeats 2000000 in
theorem stands_is (t v r : Int) (g : Value) (x : Int) (w : World) : Calls Tryz.prog 194 #[.agg #[.int .i64 t, .int .i64 v, .int .i64 r, g], .int .i64 x] w fun e w' => e = .returned (.bool (t == x && r == 2)) ∧ Below w.heap.size w w' := by
 have HB := hideIt (below1 w (.cells #[.int .i64 t, .int .i64 v, .int .i64 r, g] 146))
 by_cases h : t = x
 ·subst h
  go_enter Tryz.func194, Tryz.ntmps194
  go_wp2;go_ret
  exact ⟨by simp, HB.out⟩
 ·have hb : (t == x) = false := beq_eq_false_iff_ne.2 h
  go_enter Tryz.func194, Tryz.ntmps194
  go_wp2;go_ret
  exact ⟨by simp [hb], HB.out⟩
def freeB (t v r qf qt : Int) : Bool := t == qt && r == 1 && (v == 0 || v == qf)
set_option maxHeartbeats 2000000 in
theorem free_is (t v r : Int) (g : Value) (qf qt qi qm : Int) (w : World) : Calls Tryz.prog 192 #[.agg #[.int .i64 t, .int .i64 v, .int .i64 r, g], .agg #[.int .i64 qf, .int .i64 qt, .int .i64 qi, .int .i64 qm]] w fun e w' => e = .returned (.bool (freeB t v r qf qt)) ∧ Below w.heap.size w w' := by
 have HB := hideIt (below2 w (.cells #[.int .i64 t, .int .i64 v, .int .i64 r, g] 146) (.cells #[.int .i64 qf, .int .i64 qt, .int .i64 qi, .int .i64 qm] 116));unfold freeB
 by_cases h : t = qt
 ·subst h
  by_cases h1 : r = 1
  ·subst h1
   by_cases h2 : v = 0
   ·subst h2
    go_enter Tryz.func192, Tryz.ntmps192
    go_wp2;go_ret
    exact ⟨by simp, HB.out⟩
   ·have h2b : (v == 0) = false := beq_eq_false_iff_ne.2 h2
    go_enter Tryz.func192, Tryz.ntmps192
    go_wp2;go_ret
    exact ⟨by simp [h2b], HB.out⟩
  ·have h1b : (r == 1) = false := beq_eq_false_iff_ne.2 h1
   go_enter Tryz.func192, Tryz.ntmps192
   go_wp2;go_ret
   exact ⟨by simp [h1b], HB.out⟩
 ·have hb : (t == qt) = false := beq_eq_false_iff_ne.2 h
  go_enter Tryz.func192, Tryz.ntmps192
  go_wp2;go_ret
  exact ⟨by simp [hb], HB.out⟩
structure Bal where
 t : Int
 v : Int
 r : Int
 l : List Int
def nodesB : Int → List Int → Bool
 | _, [] => true
 | p, x :: r => wiB x 1 7 && decide (p < x) && nodesB x r
def roleB (v r : Int) (l : List Int) : Bool := if r = 1 then l.isEmpty else if r = 2 ∨ r = 3 then nodesB 0 l && l.contains v else false
def mayB (b : Bal) : Bool := wiB b.t 0 1000000 && wiB b.v 0 7 && !(b.t == 0 && b.v != 0) && roleB b.v b.r b.l
theorem drop_cons (l : List Int) (k : Nat) (h : k < l.length) : l.drop k = l.getD k 0 :: l.drop (k + 1) := by
 rw [List.drop_eq_getElem_cons h, List.getD_eq_getElem?_getD, List.getElem?_eq_getElem h]
 rfl
def GotC (w : World) (a : Option Addr) (l : List Int) : Prop := ∀ j, j < l.length → ∃ b off, a = some ⟨b, off, none⟩ ∧ b < w.heap.size ∧ w.cell? ⟨b, off + j, none⟩ = some (.int .i64 (l.getD j 0))
theorem GotAt.open {w : World} {v : Value} {l : List Int} (h : GotAt w v l) : ∃ a c, v = .slice a l.length c ∧ l.length * 8 ≤ 140737488355328 ∧ GotC w a l := by
 obtain ⟨h8, a, c, rfl, hr⟩ := h;refine ⟨a, c, rfl, h8, fun j hj => ?_⟩;obtain ⟨b, off, rfl, hlt, hc⟩ := hr (by omega)
 exact ⟨b, off, rfl, hlt, hc j hj⟩
theorem GotC.keep {w w' : World} {a : Option Addr} {l : List Int} (h : GotC w a l) (hb : Below w.heap.size w w') : GotC w' a l := by
 intro j hj;obtain ⟨b, off, rfl, hlt, hc⟩ := h j hj
 exact ⟨b, off, rfl, Nat.lt_of_lt_of_le hlt hb.size, (hb.cell hlt).trans hc⟩
set_option maxHeartbeats 2000000 in
set_option maxRecDepth 100000 in
theorem gotNodes_is (t v r : Int) (g : Value) (l : List Int) (w : World) (h : GotAt w g l) : Calls Tryz.prog 149 #[.agg #[.int .i64 t, .int .i64 v, .int .i64 r, g]] w fun e w' => e = .returned (.bool (nodesB 0 l)) ∧ Below w.heap.size w w' := by
 obtain ⟨a, c, rfl, h8, hg⟩ := h.open;have HB := hideIt (below1 w (.cells #[.int .i64 t, .int .i64 v, .int .i64 r, .slice a l.length c] 146));have HG := hideIt (hg.keep HB.out);have HN := hideIt (fun x W => isNode_is x W);clear hg h
 go_enter Tryz.func149, Tryz.ntmps149
 go_wp2
 go_loop [3, 9] (fun p i => ∃ (k : Nat) (q : Int), k ≤ l.length ∧ i = .int .i64 k ∧ p = .int .i64 q ∧ Hid (nodesB 0 l = nodesB q (l.drop k))) (fun _ i => l.length - (intOf i).toNat)
 case atStart => exact ⟨0, 0, Nat.zero_le _, rfl, rfl, hideIt (by rw [List.drop_zero])⟩
 case round =>
  obtain ⟨k, q, hk, rfl, rfl, HR⟩ := hrel
  by_cases hlt : k < l.length
  ·obtain ⟨b, off, rfl, _, hc⟩ := HG.out k hlt;have HD := hideIt (HR.out.trans (congrArg (nodesB q) (drop_cons l k hlt)));clear HR;generalize l.getD k 0 = x at *;have H1 := hideIt (HN.out x);cases h1 : wiB x 1 7
   ·rw [h1] at H1
    go_wp2_with fail
    refine (H1.out _).mono ?_;rintro e w1 ⟨rfl, rfl⟩;dsimp only;go_wp2;go_ret
    exact ⟨by rw [HD.out, nodesB, h1]; rfl, HB.out⟩
   ·rw [h1] at H1
    by_cases h2 : x ≤ q
    ·go_wp2_with fail
     refine (H1.out _).mono ?_;rintro e w1 ⟨rfl, rfl⟩;dsimp only;go_wp2;go_ret
     exact ⟨by rw [HD.out, nodesB, decide_eq_false (show ¬ q < x by omega)]; simp, HB.out⟩
    ·go_wp2_with fail
     refine (H1.out _).mono ?_;rintro e w1 ⟨rfl, rfl⟩;dsimp only;go_wp2
     go_round
     case rel => exact ⟨k + 1, x, by omega, by go_num, rfl, hideIt (by rw [HD.out, nodesB, h1, decide_eq_true (show q < x by omega)]; rfl)⟩
     case measure => simp [intOf]; omega
  ·go_wp2;go_ret
   exact ⟨by rw [HR.out, List.drop_eq_nil_of_le (by omega)]; rfl, HB.out⟩
theorem has_is (t v r : Int) (g : Value) (l : List Int) (x : Int) (w : World) (h : GotAt w g l) : Calls Tryz.prog 150 #[.agg #[.int .i64 t, .int .i64 v, .int .i64 r, g], .int .i64 x] w fun e w' => e = .returned (.bool (l.contains x)) ∧ Below w.heap.size w w' := by
 have HB := hideIt (below1 w (.cells #[.int .i64 t, .int .i64 v, .int .i64 r, g] 146));have H := hideIt (contains_any g l x _ (h.keep HB.out));clear h;generalize l.contains x = b at *
 go_enter Tryz.func150, Tryz.ntmps150
 go_wp2_with fail
 refine H.out.mono ?_;rintro e w1 ⟨rfl, rfl⟩;dsimp only;go_wp2;go_ret
 exact ⟨rfl, HB.out⟩
theorem box_cell {w w1 : World} {cs : Array Value} {t : TypeId} (h : Below (w.alloc (.cells cs t)).heap.size (w.alloc (.cells cs t)) w1) (i : Nat) : w1.cell? ⟨w.heap.size, i, none⟩ = cs[i]? :=
 (h.cell (by simp)).trans (cell_at (heap_alloc_new w _) i)
theorem below_via {w w1 w2 : World} (h : Below w.heap.size w w1) (k : Below w1.heap.size w1 w2) : Below w.heap.size w w2 :=
 h.trans ⟨k.os, k.tape, k.output, k.size, fun i hi => k.block i (Nat.lt_of_lt_of_le hi h.size)⟩
def balV (b : Bal) (g : Value) : Value := .agg #[.int .i64 b.t, .int .i64 b.v, .int .i64 b.r, g]
set_option maxHeartbeats 4000000 in
set_option maxRecDepth 100000 in
theorem mayBe_is (b : Bal) (g : Value) (w : World) (h : GotAt w g b.l) : Calls Tryz.prog 119 #[balV b g] w fun e w' => e = .returned (.bool (mayB b)) ∧ Below w.heap.size w w' := by
 obtain ⟨t, v, r, l⟩ := b;simp only at h;have HB := hideIt (below1 w (.cells #[.int .i64 t, .int .i64 v, .int .i64 r, g] 146));have N1 := hideIt (fun W => within_is t 0 1000000 W);have N2 := hideIt (fun W => within_is v 0 7 W);have N3 := hideIt (gotNodes_is t v r g l _ (h.keep HB.out));have N4 := hideIt (fun W hW => has_is t v r g l v W (h.keep hW));obtain ⟨a, c, rfl, h8, _⟩ := h.open;clear h;unfold balV
 simp only
 cases h1 : wiB t 0 1000000
 ·rw [h1] at N1;rw [show mayB ⟨t, v, r, l⟩ = false by simp [mayB, h1]]
  go_enter Tryz.func119, Tryz.ntmps119
  go_wp2_with fail
  refine (N1.out _).mono ?_;rintro e w1 ⟨rfl, rfl⟩;dsimp only;go_wp2;go_ret
  exact ⟨rfl, HB.out⟩
 ·rw [h1] at N1;cases h2 : wiB v 0 7
  ·rw [h2] at N2;rw [show mayB ⟨t, v, r, l⟩ = false by simp [mayB, h2]]
   go_enter Tryz.func119, Tryz.ntmps119
   go_wp2_with fail
   refine (N1.out _).mono ?_;rintro e w1 ⟨rfl, rfl⟩;dsimp only
   go_wp2_with fail
   refine (N2.out _).mono ?_;rintro e w1 ⟨rfl, rfl⟩;dsimp only;go_wp2;go_ret
   exact ⟨rfl, HB.out⟩
  ·rw [h2] at N2;have hrest : (t = 0 → v = 0) → Calls Tryz.prog 119 #[.agg #[.int .i64 t, .int .i64 v, .int .i64 r, .slice a l.length c]] w fun e w' => e = .returned (.bool (roleB v r l)) ∧ Below w.heap.size w w' := by
    intro hz;have HT : ∀ (x : Bool), Hid (x = (t == 0)) → (x && (v != 0)) = false := by
     intro x hx;rw [hx.out]
     by_cases e : t = 0
     ·simp [hz e]
     ·simp [e]
    by_cases r1 : r = 1
    ·subst r1;rw [show roleB v 1 l = decide ((l.length : Int) = 0) by cases l <;> simp [roleB] <;> omega]
     by_cases t0 : t = 0
     ·have v0 := hz t0;subst t0 v0;clear HT hz
      go_enter Tryz.func119, Tryz.ntmps119
      go_wp2_with fail
      refine (N1.out _).mono ?_;rintro e w1 ⟨rfl, rfl⟩;dsimp only
      go_wp2_with fail
      refine (N2.out _).mono ?_;rintro e w1 ⟨rfl, rfl⟩;dsimp only;go_wp2;go_ret
      exact ⟨rfl, HB.out⟩
     ·have t0b : (t == 0) = false := beq_eq_false_iff_ne.2 t0;clear HT hz
      go_enter Tryz.func119, Tryz.ntmps119
      go_wp2_with fail
      refine (N1.out _).mono ?_;rintro e w1 ⟨rfl, rfl⟩;dsimp only
      go_wp2_with fail
      refine (N2.out _).mono ?_;rintro e w1 ⟨rfl, rfl⟩;dsimp only;go_wp2;go_ret
      exact ⟨rfl, HB.out⟩
    ·have r1b : (r == 1) = false := beq_eq_false_iff_ne.2 r1
     by_cases r23 : r = 2 ∨ r = 3
     ·rw [show roleB v r l = (nodesB 0 l && l.contains v) by simp only [roleB, if_neg r1, if_pos r23]];generalize l.contains v = hv at *;have hrest2 : ∀ hn, nodesB 0 l = hn → Calls Tryz.prog 119 #[.agg #[.int .i64 t, .int .i64 v, .int .i64 r, .slice a l.length c]] w fun e w' => e = .returned (.bool (hn && hv)) ∧ Below w.heap.size w w' := by
       intro hn hne;rw [hne] at N3;clear hne
       rcases r23 with rfl | rfl
       ·by_cases t0 : t = 0
        ·have v0 := hz t0;subst t0 v0;clear HT hz;cases hn
         ·go_enter Tryz.func119, Tryz.ntmps119
          go_wp2_with fail
          refine (N1.out _).mono ?_;rintro e w1 ⟨rfl, rfl⟩;dsimp only
          go_wp2_with fail
          refine (N2.out _).mono ?_;rintro e w1 ⟨rfl, rfl⟩;dsimp only
          go_wp2_with fail
          refine N3.out.mono ?_;rintro e w1 ⟨rfl, hb⟩;dsimp only;have HB2 := hideIt (below_via HB.out hb);clear hb;go_wp2;go_ret
          exact ⟨rfl, HB2.out⟩
         ·go_enter Tryz.func119, Tryz.ntmps119
          go_wp2_with fail
          refine (N1.out _).mono ?_;rintro e w1 ⟨rfl, rfl⟩;dsimp only
          go_wp2_with fail
          refine (N2.out _).mono ?_;rintro e w1 ⟨rfl, rfl⟩;dsimp only
          go_wp2_with fail
          refine N3.out.mono ?_;rintro e w1 ⟨rfl, hb⟩;dsimp only;have HB2 := hideIt (below_via HB.out hb);have c0 : w1.cell? ⟨w.heap.size, 0, none⟩ = some (.int .i64 0) := box_cell hb 0;have c1 : w1.cell? ⟨w.heap.size, 1, none⟩ = some (.int .i64 0) := box_cell hb 1;have c2 : w1.cell? ⟨w.heap.size, 2, none⟩ = some (.int .i64 2) := box_cell hb 2;have c3 : w1.cell? ⟨w.heap.size, 3, none⟩ = some (.slice a l.length c) := box_cell hb 3;clear hb
          go_wp2_with fail
          refine (N4.out _ HB2.out).mono ?_;rintro e w2 ⟨rfl, hb⟩;dsimp only;have HB3 := hideIt (below_via HB2.out hb);clear hb;go_wp2;go_ret
          exact ⟨by simp, HB3.out⟩
        ·have t0b : (t == 0) = false := beq_eq_false_iff_ne.2 t0;clear HT hz;cases hn
         ·go_enter Tryz.func119, Tryz.ntmps119
          go_wp2_with fail
          refine (N1.out _).mono ?_;rintro e w1 ⟨rfl, rfl⟩;dsimp only
          go_wp2_with fail
          refine (N2.out _).mono ?_;rintro e w1 ⟨rfl, rfl⟩;dsimp only
          go_wp2_with fail
          refine N3.out.mono ?_;rintro e w1 ⟨rfl, hb⟩;dsimp only;have HB2 := hideIt (below_via HB.out hb);clear hb;go_wp2;go_ret
          exact ⟨rfl, HB2.out⟩
         ·go_enter Tryz.func119, Tryz.ntmps119
          go_wp2_with fail
          refine (N1.out _).mono ?_;rintro e w1 ⟨rfl, rfl⟩;dsimp only
          go_wp2_with fail
          refine (N2.out _).mono ?_;rintro e w1 ⟨rfl, rfl⟩;dsimp only
          go_wp2_with fail
          refine N3.out.mono ?_;rintro e w1 ⟨rfl, hb⟩;dsimp only;have HB2 := hideIt (below_via HB.out hb);have c0 : w1.cell? ⟨w.heap.size, 0, none⟩ = some (.int .i64 t) := box_cell hb 0;have c1 : w1.cell? ⟨w.heap.size, 1, none⟩ = some (.int .i64 v) := box_cell hb 1;have c2 : w1.cell? ⟨w.heap.size, 2, none⟩ = some (.int .i64 2) := box_cell hb 2;have c3 : w1.cell? ⟨w.heap.size, 3, none⟩ = some (.slice a l.length c) := box_cell hb 3;clear hb
          go_wp2_with fail
          refine (N4.out _ HB2.out).mono ?_;rintro e w2 ⟨rfl, hb⟩;dsimp only;have HB3 := hideIt (below_via HB2.out hb);clear hb;go_wp2;go_ret
          exact ⟨by simp, HB3.out⟩
       ·by_cases t0 : t = 0
        ·have v0 := hz t0;subst t0 v0;clear HT hz;cases hn
         ·go_enter Tryz.func119, Tryz.ntmps119
          go_wp2_with fail
          refine (N1.out _).mono ?_;rintro e w1 ⟨rfl, rfl⟩;dsimp only
          go_wp2_with fail
          refine (N2.out _).mono ?_;rintro e w1 ⟨rfl, rfl⟩;dsimp only
          go_wp2_with fail
          refine N3.out.mono ?_;rintro e w1 ⟨rfl, hb⟩;dsimp only;have HB2 := hideIt (below_via HB.out hb);clear hb;go_wp2;go_ret
          exact ⟨rfl, HB2.out⟩
         ·go_enter Tryz.func119, Tryz.ntmps119
          go_wp2_with fail
          refine (N1.out _).mono ?_;rintro e w1 ⟨rfl, rfl⟩;dsimp only
          go_wp2_with fail
          refine (N2.out _).mono ?_;rintro e w1 ⟨rfl, rfl⟩;dsimp only
          go_wp2_with fail
          refine N3.out.mono ?_;rintro e w1 ⟨rfl, hb⟩;dsimp only;have HB2 := hideIt (below_via HB.out hb);have c0 : w1.cell? ⟨w.heap.size, 0, none⟩ = some (.int .i64 0) := box_cell hb 0;have c1 : w1.cell? ⟨w.heap.size, 1, none⟩ = some (.int .i64 0) := box_cell hb 1;have c2 : w1.cell? ⟨w.heap.size, 2, none⟩ = some (.int .i64 3) := box_cell hb 2;have c3 : w1.cell? ⟨w.heap.size, 3, none⟩ = some (.slice a l.length c) := box_cell hb 3;clear hb
          go_wp2_with fail
          refine (N4.out _ HB2.out).mono ?_;rintro e w2 ⟨rfl, hb⟩;dsimp only;have HB3 := hideIt (below_via HB2.out hb);clear hb;go_wp2;go_ret
          exact ⟨by simp, HB3.out⟩
        ·have t0b : (t == 0) = false := beq_eq_false_iff_ne.2 t0;clear HT hz;cases hn
         ·go_enter Tryz.func119, Tryz.ntmps119
          go_wp2_with fail
          refine (N1.out _).mono ?_;rintro e w1 ⟨rfl, rfl⟩;dsimp only
          go_wp2_with fail
          refine (N2.out _).mono ?_;rintro e w1 ⟨rfl, rfl⟩;dsimp only
          go_wp2_with fail
          refine N3.out.mono ?_;rintro e w1 ⟨rfl, hb⟩;dsimp only;have HB2 := hideIt (below_via HB.out hb);clear hb;go_wp2;go_ret
          exact ⟨rfl, HB2.out⟩
         ·go_enter Tryz.func119, Tryz.ntmps119
          go_wp2_with fail
          refine (N1.out _).mono ?_;rintro e w1 ⟨rfl, rfl⟩;dsimp only
          go_wp2_with fail
          refine (N2.out _).mono ?_;rintro e w1 ⟨rfl, rfl⟩;dsimp only
          go_wp2_with fail
          refine N3.out.mono ?_;rintro e w1 ⟨rfl, hb⟩;dsimp only;have HB2 := hideIt (below_via HB.out hb);have c0 : w1.cell? ⟨w.heap.size, 0, none⟩ = some (.int .i64 t) := box_cell hb 0;have c1 : w1.cell? ⟨w.heap.size, 1, none⟩ = some (.int .i64 v) := box_cell hb 1;have c2 : w1.cell? ⟨w.heap.size, 2, none⟩ = some (.int .i64 3) := box_cell hb 2;have c3 : w1.cell? ⟨w.heap.size, 3, none⟩ = some (.slice a l.length c) := box_cell hb 3;clear hb
          go_wp2_with fail
          refine (N4.out _ HB2.out).mono ?_;rintro e w2 ⟨rfl, hb⟩;dsimp only;have HB3 := hideIt (below_via HB2.out hb);clear hb;go_wp2;go_ret
          exact ⟨by simp, HB3.out⟩
      exact hrest2 _ rfl
     ·rw [show roleB v r l = false by simp only [roleB, if_neg r1, if_neg r23]];have r2b : (r == 2) = false := beq_eq_false_iff_ne.2 (fun e => r23 (.inl e));have r3b : (r == 3) = false := beq_eq_false_iff_ne.2 (fun e => r23 (.inr e));clear r23
      by_cases t0 : t = 0
      ·have v0 := hz t0;subst t0 v0;clear HT hz
       go_enter Tryz.func119, Tryz.ntmps119
       go_wp2_with fail
       refine (N1.out _).mono ?_;rintro e w1 ⟨rfl, rfl⟩;dsimp only
       go_wp2_with fail
       refine (N2.out _).mono ?_;rintro e w1 ⟨rfl, rfl⟩;dsimp only;go_wp2;go_ret
       exact ⟨rfl, HB.out⟩
      ·have t0b : (t == 0) = false := beq_eq_false_iff_ne.2 t0;clear HT hz
       go_enter Tryz.func119, Tryz.ntmps119
       go_wp2_with fail
       refine (N1.out _).mono ?_;rintro e w1 ⟨rfl, rfl⟩;dsimp only
       go_wp2_with fail
       refine (N2.out _).mono ?_;rintro e w1 ⟨rfl, rfl⟩;dsimp only;go_wp2;go_ret
       exact ⟨rfl, HB.out⟩
   by_cases t0 : t = 0
   ·by_cases v0 : v = 0
    ·subst t0 v0;rw [show mayB ⟨0, 0, r, l⟩ = roleB 0 r l by simp [mayB, h1, h2]];exact hrest (fun _ => rfl)
    ·subst t0;have v0b : (v == 0) = false := beq_eq_false_iff_ne.2 v0;have v0c : (v != 0) = true := by simp [v0]
     clear hrest;rw [show mayB ⟨0, v, r, l⟩ = false by simp [mayB, v0]]
     go_enter Tryz.func119, Tryz.ntmps119
     go_wp2_with fail
     refine (N1.out _).mono ?_;rintro e w1 ⟨rfl, rfl⟩;dsimp only
     go_wp2_with fail
     refine (N2.out _).mono ?_;rintro e w1 ⟨rfl, rfl⟩;dsimp only;go_wp2;go_ret
     exact ⟨rfl, HB.out⟩
   ·rw [show mayB ⟨t, v, r, l⟩ = roleB v r l by simp [mayB, h1, h2, t0]];exact hrest (fun h => absurd h t0)
end Go.Proofs.YtcaehfkfohianaaGreat.Tm
