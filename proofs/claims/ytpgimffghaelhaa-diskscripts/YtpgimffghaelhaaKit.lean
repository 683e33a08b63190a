/- A disk as it lies in memory: a block of fields, a map of segments, a row of bytes for each; what stays of it while other blocks turn; bytes appended to a row. -/
import Derived.Test.YtpgimffghaelhaaProg
import Derived.Test.YtpgimffghaelhaaPlain
import Derived.WalkKit
import Derived.WalkSpells
import Derived.WalkLawsBesides
import Derived.Laws.LoneSync
import Derived.Maps.OwnSet
import Derived.Lib.SlKeysI
import Derived.Lib.AppendStr
namespace Go.Proofs.Ytpgimffghaelhaa
open Go.RowKit Go.Maps

theorem hideIt {p : Prop} (h : p) : Hid p := h
def u8v (b : UInt8) : Value := Value.int .u8 (b.toNat : Int)
theorem u8v_cells (l : List UInt8) : l.map u8v = Lib.byteCells l := rfl
theorem info5 : (Try.prog.info? 5).map (fun i => (i.zero, i.size, i.bytes)) = some (some (.int .u8 0), 1, 1) := by kernel_rfl

/-- All blocks that were there, but those of F, are as they were. -/
structure Out (F : Nat → Prop) (w w' : World) : Prop where
  os : w'.os = w.os
  tape : w'.tape = w.tape
  output : w'.output = w.output
  size : w.heap.size ≤ w'.heap.size
  block : ∀ k, k < w.heap.size → ¬ F k → w'.heap[k]? = w.heap[k]?
theorem Out.refl (F : Nat → Prop) (w : World) : Out F w w := ⟨rfl, rfl, rfl, Nat.le_refl _, fun _ _ _ => rfl⟩
theorem Out.trans {F G : Nat → Prop} {a b c : World} (h : Out F a b) (k : Out G b c) (hG : ∀ i, i < a.heap.size → G i → F i) : Out F a c :=
  ⟨k.os.trans h.os, k.tape.trans h.tape, k.output.trans h.output, Nat.le_trans h.size k.size, fun i hi hn => (k.block i (Nat.lt_of_lt_of_le hi h.size) (fun e => hn (hG i hi e))).trans (h.block i hi hn)⟩
theorem Out.mono {F G : Nat → Prop} {a b : World} (h : Out F a b) (hG : ∀ i, F i → G i) : Out G a b :=
  ⟨h.os, h.tape, h.output, h.size, fun i hi hn => h.block i hi (fun e => hn (hG i e))⟩
theorem Out.ofBelow {F : Nat → Prop} {w w' : World} (h : Below w.heap.size w w') : Out F w w' := ⟨h.os, h.tape, h.output, h.size, fun i hi _ => h.block i hi⟩
theorem Out.below {F : Nat → Prop} {w w' : World} (h : Out F w w') {B : Nat} (hB : B ≤ w.heap.size) (hF : ∀ k, F k → B ≤ k) : Below B w w' :=
  ⟨h.os, h.tape, h.output, h.size, fun i hi => h.block i (Nat.lt_of_lt_of_le hi hB) (fun e => by have := hF i e; omega)⟩
theorem Out.ofGrown {F : Nat → Prop} {w w' : World} {r : Option Nat} (h : w.grownBy w' r) (hF : ∀ k, r = some k → F k) : Out F w w' :=
  ⟨h.os, h.tape, h.output, h.size, fun i hi hn => h.block i hi (fun e => hn (hF i e.symm))⟩
theorem Out.ofSet {F : Nat → Prop} (w : World) (a : Addr) (v : Value) (hF : F a.block) : Out F w (w.setCell a v) :=
  ⟨rfl, rfl, rfl, by simp, fun i _ hn => RowKit.Below.heap_setCell _ _ _ _ (fun e => hn (e ▸ hF))⟩
theorem Out.ofAlloc {F : Nat → Prop} (w : World) (o : Obj) : Out F w (w.alloc o) := Out.ofBelow ((Below.refl _ w).alloc (Nat.le_refl _) o)
theorem Out.ofDrew {F : Nat → Prop} (w : World) : Out F w w.drew := Out.ofBelow (Below.refl _ w).drew

/-- A row of bytes: block g, of capacity cap, begins with bs. -/
def Row (w : World) (g cap : Nat) (bs : List UInt8) : Prop := ∃ cur, w.heap[g]? = some (.cells cur 5 (0, 0)) ∧ bs.length ≤ cap ∧ cap ≤ maxLen ∧ cur.size = cap ∧ cur.toList.take bs.length = bs.map u8v
theorem Row.keep {w w' : World} {g cap : Nat} {bs : List UInt8} (h : Row w g cap bs) (hb : w'.heap[g]? = w.heap[g]?) : Row w' g cap bs := by
  obtain ⟨cur, hg, r⟩ := h
  exact ⟨cur, hb.trans hg, r⟩
theorem Row.lt {w : World} {g cap : Nat} {bs : List UInt8} (h : Row w g cap bs) : g < w.heap.size := by
  obtain ⟨cur, hg, r⟩ := h
  exact (Array.getElem?_eq_some_iff.1 hg).1
theorem Row.cut {w : World} {g cap : Nat} {bs : List UInt8} (h : Row w g cap bs) (n : Nat) : Row w g cap (bs.take n) := by
  obtain ⟨cur, hg, h1, h2, h3, h4⟩ := h
  refine ⟨cur, hg, by simp; omega, h2, h3, ?_⟩
  have e : (bs.take n).length = min n bs.length := by simp
  rw [e, List.map_take, ← h4, List.take_take]
theorem Row.cells {w : World} {g cap : Nat} {bs : List UInt8} (h : Row w g cap bs) : ∀ j u, (bs.map u8v)[j]? = some u → w.cell? ((⟨g, 0, none⟩ : Addr).add j) = some u := by
  intro j u hu
  obtain ⟨cur, hg, _, _, _, ht⟩ := h
  have hadd : (⟨g, 0, none⟩ : Addr).add j = ⟨g, j, none⟩ := by unfold Addr.add; split <;> simp_all
  rw [hadd, cell_of_row w g j cur 5 (0, 0) hg]
  rw [← ht, List.getElem?_take] at hu
  split at hu
  · simpa using hu
  · cases hu
/-- Bytes appended to a row: in its block, or in a new one. -/
theorem run_append_R (w : World) (ty : TypeId) (g cap : Nat) (bs : List UInt8) (hR : Row w g cap bs) (s : ByteArray) (hbytes : bs.length + s.size ≤ 140737488355328) :
    ∃ g' cap' w', (Builtin.append_ #[70, 9] ty #[.slice (some ⟨g, 0, none⟩) bs.length cap, .string s]).run Try.prog w = .ok (.slice (some ⟨g', 0, none⟩) (bs ++ s.data.toList).length cap') w' ∧ Row w' g' cap' (bs ++ s.data.toList) ∧ Out (fun k => k = g) w w' ∧ (g' = g ∨ w.heap.size ≤ g') ∧ Row w' g cap bs := by
  obtain ⟨i, hi, hz0, hz1, hz2⟩ := info_parts info5
  have holds := hR.cells
  have hlt := hR.lt
  obtain ⟨cur, hg, hnc, hcm, hcs, htake⟩ := hR
  have hcm' := hcm
  unfold maxLen at hcm'
  have hsl : s.data.toList.length = s.size := by simp
  have hlen : (bs ++ s.data.toList).length = bs.length + s.size := by rw [List.length_append, hsl]
  have ht : Try.prog.underlying 70 = some (.slice 5) := Try.underlying70
  have hu : Try.prog.underlying 9 = some .string := Try.underlying9
  have e : (bs ++ s.data.toList).length = (Lib.byteCells bs ++ Lib.strCells s).length := by simp [Lib.byteCells_length, Lib.strCells_length]
  by_cases hroom : bs.length + s.size ≤ cap
  · have hr := Lib.run_append_room_string (P := Try.prog) w 70 9 ty 5 i ht hu hi hz1 g bs.length cap cur hg s hroom (by omega)
    have hsz2 : (cur.toList.take bs.length ++ Lib.strCells s ++ cur.toList.drop (bs.length + s.size)).toArray.size = cap := by
      simp only [List.size_toArray, List.length_append, List.length_take, List.length_drop, Array.length_toList, Lib.strCells_length]
      omega
    have hnew : Row (w.setRow g (cur.toList.take bs.length ++ Lib.strCells s ++ cur.toList.drop (bs.length + s.size)).toArray) g cap (bs ++ s.data.toList) := by
      refine ⟨_, setRow_heap w g cur _ 5 _ hg, by omega, hcm, hsz2, ?_⟩
      rw [htake, u8v_cells, u8v_cells, Lib.byteCells_append, ← Lib.strCells_eq, e]
      exact List.take_left
    refine ⟨g, cap, _, by rw [hlen]; exact hr, hnew, ⟨rfl, rfl, rfl, by simp, fun k _ hk => setRow_other w g k _ hk⟩, .inl rfl, ?_⟩
    have := hnew.cut bs.length
    rwa [List.take_left] at this
  · have hr := Lib.run_append_grow_string (P := Try.prog) w 70 9 ty 5 i (.int .u8 0) ht hu hi hz0 ⟨g, 0, none⟩ bs.length cap (bs.map u8v) (by rw [hz1]; simp) holds s (by omega) (by omega) (by rw [hz2]; exact growslice_fits (by omega) (by omega))
    have hge := grownCap_ge w (bs.length + s.size) cap 5
    have hcm2 : grownCap w (bs.length + s.size) cap 5 ≤ maxLen := grownCap_le_maxLen w (bs.length + s.size) cap 5 (by unfold maxLen; omega)
    refine ⟨w.heap.size, _, _, by rw [hlen]; exact hr, ⟨_, heap_alloc_new w.drew _, by omega, hcm2, ?_, ?_⟩, ⟨rfl, rfl, rfl, by simp, fun k hk _ => Lib.alloc_old w.drew _ k hk⟩, .inr (Nat.le_refl _), Row.keep ⟨cur, hg, hnc, hcm, hcs, htake⟩ (Lib.alloc_old w.drew _ g hlt)⟩
    · have hz3 : (Value.int IntKind.u8 0).cells.size = 1 := rfl
      simp only [Array.size_append, List.size_toArray, size_zeroCells, hz3, List.length_map, Lib.strCells_length]
      omega
    · simp only [Array.toList_append, List.append_assoc]
      rw [← List.append_assoc, u8v_cells, u8v_cells, Lib.byteCells_append, ← Lib.strCells_eq, e]
      exact List.take_left
/-- Bytes appended to none: in a new block. -/
theorem run_append_0 (w : World) (ty : TypeId) (s : ByteArray) (h0 : 0 < s.size) (hbytes : s.size ≤ 140737488355328) :
    ∃ g' cap' w', (Builtin.append_ #[70, 9] ty #[.slice none 0 0, .string s]).run Try.prog w = .ok (.slice (some ⟨g', 0, none⟩) (s.data.toList).length cap') w' ∧ Row w' g' cap' s.data.toList ∧ Out (fun _ => False) w w' ∧ w.heap.size ≤ g' := by
  obtain ⟨i, hi, hz0, hz1, hz2⟩ := info_parts info5
  have hsl : s.data.toList.length = s.size := by simp
  have ht : Try.prog.underlying 70 = some (.slice 5) := Try.underlying70
  have hu : Try.prog.underlying 9 = some .string := Try.underlying9
  have hr := run_append_nil_string (P := Try.prog) w 70 9 ty 5 i (.int .u8 0) ht hu hi hz0 s h0 (by omega) (by rw [hz2]; omega)
  have hge := grownCap_ge w s.size 0 5
  have hcm2 : grownCap w s.size 0 5 ≤ maxLen := grownCap_le_maxLen w s.size 0 5 (by unfold maxLen; omega)
  refine ⟨w.heap.size, _, _, by rw [hsl]; exact hr, ⟨_, heap_alloc_new w.drew _, by omega, hcm2, ?_, ?_⟩, ⟨rfl, rfl, rfl, by simp, fun k hk _ => Lib.alloc_old w.drew _ k hk⟩, Nat.le_refl _⟩
  · have hz3 : (Value.int IntKind.u8 0).cells.size = 1 := rfl
    simp only [Array.size_append, size_zeroCells, hz3, Array.size_map]
    have : s.data.size = s.size := rfl
    omega
  · simp only [Array.toList_append, Array.toList_map]
    have e : s.data.toList.length = (s.data.toList.map u8v).length := by simp
    rw [e]
    exact List.take_left
theorem wpList_append_R (w : World) {ops : Array Oper} {rest : List Oper} {o : Oper} {a : Act} {Q : Exit → Act → World → Prop} (hgd : o.guard = none) (sl x : Operand)
    (ho : o.op = .call { callee := .builtin .append, args := #[sl, x], argTypes := #[70, 9] })
    (g cap : Nat) (bs : List UInt8) (hs : a.eval sl = .slice (some ⟨g, 0, none⟩) bs.length cap) (hR : Row w g cap bs) (s : ByteArray) (hx : a.eval x = .string s)
    (hbytes : bs.length + s.size ≤ 140737488355328)
    (h : ∀ g' cap' w', Row w' g' cap' (bs ++ s.data.toList) → Out (fun k => k = g) w w' → (g' = g ∨ w.heap.size ≤ g') → Row w' g cap bs → wpList Try.prog ops Q rest (a.put o.dst (.slice (some ⟨g', 0, none⟩) (bs ++ s.data.toList).length cap')) w') : wpList Try.prog ops Q (o :: rest) a w := by
  refine wpList_plain hgd fun K hK => ?_
  obtain ⟨g', cap', w', hr, h2, h3, h4, h5⟩ := run_append_R w o.type g cap bs hR s hbytes
  unfold Oper.wp execOp
  simp only [ho, resolve, invoke, builtin, Sem.run_bind, Sem.run_pure, Result.andThen_ok, List.map_toArray, List.map_cons, List.map_nil, hs, hx, hr]
  exact hK _ _ (h g' cap' w' h2 h3 h4 h5)
theorem wpList_append_0 (w : World) {ops : Array Oper} {rest : List Oper} {o : Oper} {a : Act} {Q : Exit → Act → World → Prop} (hgd : o.guard = none) (sl x : Operand)
    (ho : o.op = .call { callee := .builtin .append, args := #[sl, x], argTypes := #[70, 9] })
    (hs : a.eval sl = .slice none 0 0) (s : ByteArray) (hx : a.eval x = .string s) (h0 : 0 < s.size) (hbytes : s.size ≤ 140737488355328)
    (h : ∀ g' cap' w', Row w' g' cap' s.data.toList → Out (fun _ => False) w w' → w.heap.size ≤ g' → wpList Try.prog ops Q rest (a.put o.dst (.slice (some ⟨g', 0, none⟩) s.data.toList.length cap')) w') : wpList Try.prog ops Q (o :: rest) a w := by
  refine wpList_plain hgd fun K hK => ?_
  obtain ⟨g', cap', w', hr, h2, h3, h4⟩ := run_append_0 w o.type s h0 hbytes
  unfold Oper.wp execOp
  simp only [ho, resolve, invoke, builtin, Sem.run_bind, Sem.run_pure, Result.andThen_ok, List.map_toArray, List.map_cons, List.map_nil, hs, hx, hr]
  exact hK _ _ (h g' cap' w' h2 h3 h4)
theorem conv_R (w : World) (g cap : Nat) (bs : List UInt8) (h : Row w g cap bs) :
    (convert 70 9 (.slice (some ⟨g, 0, none⟩) bs.length cap)).run Try.prog w = .ok (.string ⟨bs.toArray⟩) w := by
  have hcell : ∀ j (hj : j < bs.length), w.cell? ((⟨g, 0, none⟩ : Addr).add j) = some (.int .u8 (bs[j].toNat : Int)) := by
    intro j hj
    exact h.cells j _ (by simp [List.getElem?_eq_getElem hj, u8v])
  exact run_convert_bytes_back (P := Try.prog) w 70 9 5 ⟨g, 0, none⟩ cap bs (by kernel_rfl) (by kernel_rfl) (by kernel_rfl) hcell

/-- A map's element is held as it is. -/
def heldR (v : Value) : Option (DataW Value × List MemPlace) := some (.held v, [])
theorem ownsMap_tight {w : World} {b n : Nat} {D : DataW Value} (h : w.ownsMap Try.prog 3 heldR b n D) : w.ownsMap Try.prog 3 heldR b (Maps.size D) D := by
  obtain ⟨es, clock, hb, F, hs, rfl⟩ := h
  exact ⟨es, clock, hb, F, by simp [Maps.size, length_sorted], rfl⟩
theorem ownsMap_block {w w' : World} {b n : Nat} {D : DataW Value} (h : w.ownsMap Try.prog 3 heldR b n D) (hb : w'.heap[b]? = w.heap[b]?) : w'.ownsMap Try.prog 3 heldR b n D := by
  obtain ⟨es, clock, hb', r⟩ := h
  exact ⟨es, clock, hb.trans hb', r⟩
def keyL (x : Int) : Lit := .int .i64 x
def segV (f : Nat → Seg) (rb cp : Nat → Nat) (k : Nat) : Value := .agg #[.slice (some ⟨rb k, 0, none⟩) (f k).bytes.length (cp k), .int .i64 ((f k).safe : Int)]
def zeroSeg : Value := .agg #[.slice none 0 0, .int .i64 0]
def fields (room used mb : Nat) (ch : Int) (fs : Bool) (ff fm : Int) (age : Nat) : Array Value :=
  #[.int .i64 (room : Int), .int .i64 (used : Int), .map (some mb), .int .i64 ch, .bool fs, .int .i64 ff, .int .i64 fm, .int .i64 (age : Int)]
/-- A disk in memory. -/
structure Core (w : World) (F : Nat → Prop) (p mb : Nat) (cs : Array Value) (f : Nat → Seg) (rb cp : Nat → Nat) (D : DataW Value) : Prop where
  cells : w.heap[p]? = some (.cells cs 64 (0, 0))
  map : w.ownsMap Try.prog 3 heldR mb (Maps.size D) D
  hit : ∀ k, k < 1000 → (f k).bytes ≠ [] → ∀ z, D.atKey (keyL (k : Int)) z = .held (segV f rb cp k)
  miss : ∀ x : Int, (∀ k : Nat, k < 1000 → x = (k : Int) → (f k).bytes = []) → ∀ z, D.atKey (keyL x) z = z
  rows : ∀ k, k < 1000 → (f k).bytes ≠ [] → Row w (rb k) (cp k) (f k).bytes ∧ F (rb k) ∧ rb k ≠ p ∧ rb k ≠ mb
  apart : ∀ j k, j < 1000 → k < 1000 → j ≠ k → (f j).bytes ≠ [] → (f k).bytes ≠ [] → rb j ≠ rb k
  inp : F p
  inm : F mb
  pm : p ≠ mb
theorem Core.keep {w w' : World} {F : Nat → Prop} {p mb : Nat} {cs : Array Value} {f : Nat → Seg} {rb cp : Nat → Nat} {D : DataW Value} (h : Core w F p mb cs f rb cp D) (hb : ∀ k, F k → k < w.heap.size → w'.heap[k]? = w.heap[k]?) : Core w' F p mb cs f rb cp D := by
  have hp : p < w.heap.size := (Array.getElem?_eq_some_iff.1 h.cells).1
  refine ⟨(hb p h.inp hp).trans h.cells, ownsMap_block h.map (hb mb h.inm h.map.lt), h.hit, h.miss, fun k hk hne => ?_, h.apart, h.inp, h.inm, h.pm⟩
  obtain ⟨r1, r2, r3⟩ := h.rows k hk hne
  exact ⟨r1.keep (hb _ r2 r1.lt), r2, r3⟩
theorem Core.out {w w' : World} {F G : Nat → Prop} {p mb : Nat} {cs : Array Value} {f : Nat → Seg} {rb cp : Nat → Nat} {D : DataW Value} (h : Core w F p mb cs f rb cp D) (hb : Out G w w') (hG : ∀ k, F k → ¬ G k) : Core w' F p mb cs f rb cp D :=
  h.keep (fun k hF hk => hb.block k hk (hG k hF))
theorem Core.wide {w : World} {F G : Nat → Prop} {p mb : Nat} {cs : Array Value} {f : Nat → Seg} {rb cp : Nat → Nat} {D : DataW Value} (h : Core w F p mb cs f rb cp D) (hG : ∀ k, F k → k < w.heap.size → G k) : Core w G p mb cs f rb cp D := by
  have hp : p < w.heap.size := (Array.getElem?_eq_some_iff.1 h.cells).1
  refine ⟨h.cells, h.map, h.hit, h.miss, fun k hk hne => ?_, h.apart, hG p h.inp hp, hG mb h.inm h.map.lt, h.pm⟩
  obtain ⟨r1, r2, r3⟩ := h.rows k hk hne
  exact ⟨r1, hG _ r2 r1.lt, r3⟩
/-- The row of one segment has turned, behind its bytes. -/
theorem Core.turn {w w' : World} {F : Nat → Prop} {p mb k : Nat} {cs : Array Value} {f : Nat → Seg} {rb cp : Nat → Nat} {D : DataW Value} (h : Core w F p mb cs f rb cp D) (hk : k < 1000) (hne : (f k).bytes ≠ []) (ho : Out (fun b => b = rb k) w w') (hR : Row w' (rb k) (cp k) (f k).bytes) : Core w' F p mb cs f rb cp D := by
  have hp : p < w.heap.size := (Array.getElem?_eq_some_iff.1 h.cells).1
  obtain ⟨_, _, r3, r4⟩ := h.rows k hk hne
  refine ⟨(ho.block p hp (fun e => r3 e.symm)).trans h.cells, ownsMap_block h.map (ho.block mb h.map.lt (fun e => r4 e.symm)), h.hit, h.miss, fun j hj hnj => ?_, h.apart, h.inp, h.inm, h.pm⟩
  obtain ⟨q1, q2, q3⟩ := h.rows j hj hnj
  by_cases e : j = k
  · subst e
    exact ⟨hR, q2, q3⟩
  · exact ⟨q1.keep (ho.block _ q1.lt (h.apart j k hj hk e hnj hne)), q2, q3⟩
/-- A field is written. -/
theorem Core.field {w : World} {F : Nat → Prop} {p mb : Nat} {cs : Array Value} {f : Nat → Seg} {rb cp : Nat → Nat} {D : DataW Value} (h : Core w F p mb cs f rb cp D) (j : Nat) (v : Value) : Core (w.setCell ⟨p, j, none⟩ v) F p mb (cs.setIfInBounds j v) f rb cp D := by
  have ho : Out (fun b => b = p) w (w.setCell ⟨p, j, none⟩ v) := Out.ofSet w _ v rfl
  refine ⟨?_, ownsMap_block h.map (ho.block mb h.map.lt (fun e => h.pm e.symm)), h.hit, h.miss, fun k hk hne => ?_, h.apart, h.inp, h.inm, h.pm⟩
  · rw [setCell_eq_setRow _ p j cs 64 (0, 0) _ h.cells]
    exact setRow_heap _ p cs _ 64 _ h.cells
  · obtain ⟨q1, q2, q3, q4⟩ := h.rows k hk hne
    exact ⟨q1.keep (ho.block _ q1.lt q3), q2, q3, q4⟩
/-- The keys of the map are the segments that are there. -/
theorem Core.keys {w : World} {F : Nat → Prop} {p mb : Nat} {cs : Array Value} {f : Nat → Seg} {rb cp : Nat → Nat} {D : DataW Value} (h : Core w F p mb cs f rb cp D) : ((nums f 1000).map (fun k : Nat => (k : Int))).Perm (intKeys D) := by
  obtain ⟨es, hD, hpw, _⟩ := h.map.entries (int_keyed Try.underlying3)
  obtain ⟨es', hD', hko⟩ := h.map.keysOf
  obtain rfl : es = es' := by rw [hD] at hD'; simpa using hD'
  subst hD
  refine perm_intKeys hpw (fun p hp => by obtain ⟨v, hv⟩ := hko p hp; obtain ⟨x, _, hx, _⟩ := Maps.keyOf_i64 Try.underlying3 hv; exact ⟨x, hx⟩) ?_ (fun x => ?_)
  · exact List.pairwise_map.2 ((nums_nodup f 1000).imp (fun {a b} hne e => hne (Int.ofNat.inj e)))
  · rw [List.mem_map]
    constructor
    · rintro ⟨k, hk, rfl⟩
      rw [mem_nums] at hk
      exact has_true_of_atKey (h.hit k hk.1 hk.2)
    · intro hx
      refine Classical.byContradiction fun hn => ?_
      have := has_false_of_atKey (h.miss x (fun k hk e => Classical.byContradiction fun hne => hn ⟨k, (mem_nums f 1000 k).2 ⟨hk, hne⟩, e.symm⟩))
      simp only [keyL] at this
      rw [this] at hx
      cases hx
theorem Core.size {w : World} {F : Nat → Prop} {p mb : Nat} {cs : Array Value} {f : Nat → Seg} {rb cp : Nat → Nat} {D : DataW Value} (h : Core w F p mb cs f rb cp D) : Maps.size D ≤ 1000 := by
  have h1 := h.keys.length_eq
  have h2 := nums_len f 1000
  obtain ⟨es, rfl⟩ := h.map.isMap
  simp [intKeys, Maps.size] at *
  omega
end Go.Proofs.Ytpgimffghaelhaa
