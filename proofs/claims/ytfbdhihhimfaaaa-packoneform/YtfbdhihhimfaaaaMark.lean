/- Bytes that a call itself laid by a conversion from a text (its row bears a mark behind its last cell): they can be appended to, and turned to a text again. -/
import Derived.Test.YtfbdhihhimfaaaaList
namespace Go.Proofs.Ytfbdhihhimfaaaa
open Go.RowKit

/-- No cell of such a row is frozen: nothing is, or what is lies behind its last cell. -/
def freeCells (fz : Nat × Nat) (n : Nat) : Prop := fz = (0, 0) ∨ n ≤ fz.1
theorem store_free (P : Program) (g o : Nat) (t : TypeId) (fz : Nat × Nat) : ∀ (vs : List Value) (i : Nat) (cur : Array Value) (w : World), w.heap[g]? = some (.cells cur t fz) → freeCells fz cur.size → o + i + vs.length ≤ cur.size → (∀ v ∈ vs, v.oneCell' = true) →
    (storeCells ⟨g, o, none⟩ vs i).run P w = .ok () (w.setRow g (cur.toList.take (o + i) ++ vs ++ cur.toList.drop (o + i + vs.length)).toArray)
  | [], i, cur, w, hg, _, _, _ => by
    simp only [storeCells, List.append_nil, List.length_nil, Nat.add_zero, List.take_append_drop, Array.toArray_toList]
    rw [setRow_self w g cur t fz hg]
    rfl
  | v :: rest, i, cur, w, hg, hfz, hl, h1 => by
    have hi : o + i < cur.size := by simp at hl; omega
    have hadd : (⟨g, o, none⟩ : Addr).add i = ⟨g, o + i, none⟩ := by unfold Addr.add; split <;> simp_all
    have hcell : w.cell? ⟨g, o + i, none⟩ = some cur[o + i] := by simp [World.cell?, hg, hi]
    have hfro : w.frozen? ⟨g, o + i, none⟩ = false := by
      obtain ⟨lo, hi'⟩ := fz
      rcases hfz with hfz | hfz
      · cases hfz
        simp [World.frozen?, hg]
      · simp only at hfz
        simp only [World.frozen?, hg, Bool.and_eq_false_iff, decide_eq_false_iff_not]
        left
        omega
    have hst : (store ((⟨g, o, none⟩ : Addr).add i) v).run P w = .ok () (w.setRow g (cur.setIfInBounds (o + i) v)) := by
      rw [hadd, run_store P w _ v _ (h1 v (by simp)), hcell]
      simp [hfro, setCell_eq_setRow w g (o + i) cur t fz v hg]
    have ih := store_free P g o t fz rest (i + 1) (cur.setIfInBounds (o + i) v) (w.setRow g (cur.setIfInBounds (o + i) v)) (setRow_heap w g cur _ t _ hg) (by simpa using hfz) (by simp at hl ⊢; omega) (fun x hx => h1 x (by simp [hx]))
    simp only [storeCells, Sem.run_bind, hst, Result.andThen_ok, ih, setRow_setRow]
    congr 3
    have e := list_seg_step cur.toList (o + i) v rest (by simp at hl ⊢; omega)
    simpa [Array.toList_setIfInBounds, Nat.add_assoc] using e
/-- The slice value v owns the bytes bs, in a row whose cells are free. -/
def OwnM (w : World) (base : Nat) (v : Value) (bs : List UInt8) : Prop :=
  ∃ g cap cur fz, v = .slice (some ⟨g, 0, none⟩) bs.length cap ∧ base ≤ g ∧ w.heap[g]? = some (.cells cur 5 fz) ∧ freeCells fz cur.size ∧ bs.length ≤ cap ∧ cap ≤ maxLen ∧ cur.size = cap ∧ cur.toList.take bs.length = bs.map u8v
theorem OwnM.lt {w : World} {base : Nat} {v : Value} {bs : List UInt8} (h : OwnM w base v bs) : ∀ k, v.ownBlock = some k → base ≤ k ∧ k < w.heap.size := by
  intro k hk
  obtain ⟨g, cap, cur, fz, rfl, hb, hg, _⟩ := h
  simp [Value.ownBlock] at hk
  subst hk
  exact ⟨hb, (Array.getElem?_eq_some_iff.1 hg).1⟩
theorem OwnM.keep {w w' : World} {base : Nat} {v : Value} {bs : List UInt8} (h : OwnM w base v bs) (hb : Below w.heap.size w w') : OwnM w' base v bs := by
  obtain ⟨g, cap, cur, fz, rfl, hB, hg, rest⟩ := h
  exact ⟨g, cap, cur, fz, rfl, hB, (hb.block g (Array.getElem?_eq_some_iff.1 hg).1).trans hg, rest⟩
theorem OwnM.cells {w : World} {base g cap : Nat} {bs : List UInt8} (h : OwnM w base (.slice (some ⟨g, 0, none⟩) bs.length cap) bs) : ∀ j u, (bs.map u8v)[j]? = some u → w.cell? ((⟨g, 0, none⟩ : Addr).add j) = some u := by
  intro j u hu
  obtain ⟨g', cap', cur, fz, e, _, hg, _, _, _, _, ht⟩ := h
  cases e
  have hadd : (⟨g, 0, none⟩ : Addr).add j = ⟨g, j, none⟩ := by unfold Addr.add; split <;> simp_all
  rw [hadd, cell_of_row w g j cur 5 fz hg]
  rw [← ht, List.getElem?_take] at hu
  split at hu
  · simpa using hu
  · cases hu
theorem u8v_cells (l : List UInt8) : l.map u8v = Lib.byteCells l := rfl
theorem run_append_M (w : World) (base : Nat) (ty : TypeId) (v : Value) (bs : List UInt8) (hown : OwnM w base v bs) (s : ByteArray) (hbytes : bs.length + s.size ≤ 140737488355328) (hbase : base ≤ w.heap.size) :
    ∃ v' w', (Builtin.append_ #[45, 9] ty #[v, .string s]).run Try.prog w = .ok v' w' ∧ OwnM w' base v' (bs ++ s.data.toList) ∧ w.grownBy w' v.ownBlock := by
  obtain ⟨i, hi, hz0, hz1, hz2⟩ := info_parts info5
  have hM := hown
  obtain ⟨g, cap, cur, fz, rfl, hbg, hg, hfz, hnc, hcm, hcs, htake⟩ := hown
  have hcm' := hcm
  unfold maxLen at hcm'
  have hsl : s.data.toList.length = s.size := by simp
  have hlen : (bs ++ s.data.toList).length = bs.length + s.size := by rw [List.length_append, hsl]
  have ht : Try.prog.underlying 45 = some (.slice 5) := Try.underlying45
  have hu : Try.prog.underlying 9 = some .string := Try.underlying9
  by_cases hroom : bs.length + s.size ≤ cap
  · have hf := Lib.run_firstCells_string (P := Try.prog) w 1 s
    have hst := store_free Try.prog g bs.length 5 fz (Lib.strCells s) 0 cur w hg hfz (by simp [Lib.strCells_length]; omega) (Lib.strCells_oneCell s)
    simp only [Nat.add_zero, Lib.strCells_length] at hst
    have hr : (Builtin.append_ #[45, 9] ty #[.slice (some ⟨g, 0, none⟩) bs.length cap, .string s]).run Try.prog w =
        .ok (.slice (some ⟨g, 0, none⟩) (bs.length + s.size) cap) (w.setRow g (cur.toList.take bs.length ++ Lib.strCells s ++ cur.toList.drop (bs.length + s.size)).toArray) := by
      simp [Builtin.append_, run_underlying ht, run_underlying hu, sizeOf, typeInfo, hi, hz1, Builtin.lenOf, hroom, hf, Addr.add_lit, hst]
    have hsz2 : (cur.toList.take bs.length ++ Lib.strCells s ++ cur.toList.drop (bs.length + s.size)).toArray.size = cap := by
      simp only [List.size_toArray, List.length_append, List.length_take, List.length_drop, Array.length_toList, Lib.strCells_length]
      omega
    refine ⟨_, _, hr, ⟨g, cap, _, fz, by rw [hlen], hbg, setRow_heap w g cur _ 5 _ hg, ?_, by omega, hcm, hsz2, ?_⟩, ⟨rfl, rfl, rfl, by simp, fun k _ hk => setRow_other w g k _ (fun e => hk (by simp [Value.ownBlock, e]))⟩⟩
    · rw [hsz2, ← hcs]; exact hfz
    · rw [htake, u8v_cells, u8v_cells, Lib.byteCells_append, ← Lib.strCells_eq]
      have e : (bs ++ s.data.toList).length = (Lib.byteCells bs ++ Lib.strCells s).length := by simp [Lib.byteCells_length, Lib.strCells_length]
      rw [e]
      exact List.take_left
  · have holds := hM.cells
    have hr := Lib.run_append_grow_string (P := Try.prog) w 45 9 ty 5 i (.int .u8 0) ht hu hi hz0 ⟨g, 0, none⟩ bs.length cap (bs.map u8v) (by rw [hz1]; simp) holds s (by omega) (by omega) (by rw [hz2]; exact growslice_fits (by omega) (by omega))
    have hge := grownCap_ge w (bs.length + s.size) cap 5
    have hcm2 : grownCap w (bs.length + s.size) cap 5 ≤ maxLen := grownCap_le_maxLen w (bs.length + s.size) cap 5 (by unfold maxLen; omega)
    refine ⟨_, _, hr, ⟨w.heap.size, _, _, (0, 0), by rw [hlen], hbase, heap_alloc_new w.drew _, .inl rfl, by omega, hcm2, ?_, ?_⟩, ⟨rfl, rfl, rfl, by simp, fun k hk _ => Lib.alloc_old w.drew _ k hk⟩⟩
    · have hz3 : (Value.int IntKind.u8 0).cells.size = 1 := rfl
      simp only [Array.size_append, List.size_toArray, size_zeroCells, hz3, List.length_map, Lib.strCells_length]
      omega
    · simp only [Array.toList_append, List.append_assoc]
      rw [← List.append_assoc, u8v_cells, u8v_cells, Lib.byteCells_append, ← Lib.strCells_eq]
      have e : (bs ++ s.data.toList).length = (Lib.byteCells bs ++ Lib.strCells s).length := by simp [Lib.byteCells_length, Lib.strCells_length]
      rw [e]
      exact List.take_left
theorem wpList_append_M (w : World) {ops : Array Oper} {rest : List Oper} {o : Oper} {a : Act} {Q : Exit → Act → World → Prop} (hgd : o.guard = none) (sl x : Operand)
    (ho : o.op = .call { callee := .builtin .append, args := #[sl, x], argTypes := #[45, 9] })
    (base : Nat) (v : Value) (bs : List UInt8) (hs : a.eval sl = v) (hown : OwnM w base v bs) (s : ByteArray) (hx : a.eval x = .string s)
    (hbytes : bs.length + s.size ≤ 140737488355328) (hbase : base ≤ w.heap.size)
    (h : ∀ v' w', OwnM w' base v' (bs ++ s.data.toList) → w.grownBy w' v.ownBlock → wpList Try.prog ops Q rest (a.put o.dst v') w') : wpList Try.prog ops Q (o :: rest) a w := by
  refine wpList_plain hgd fun K hK => ?_
  obtain ⟨v', w', hr, h2, h3⟩ := run_append_M w base o.type v bs hown s hbytes hbase
  unfold Oper.wp execOp
  simp only [ho, resolve, invoke, builtin, Sem.run_bind, Sem.run_pure, Result.andThen_ok, List.map_toArray, List.map_cons, List.map_nil, hs, hx, hr]
  exact hK _ _ (h v' w' h2 h3)
theorem conv_M (w : World) (base : Nat) (v : Value) (bs : List UInt8) (h : OwnM w base v bs) :
    (convert 45 9 v).run Try.prog w = .ok (.string ⟨bs.toArray⟩) w := by
  obtain ⟨g, cap, cur, fz, rfl, r⟩ := id h
  have hcell : ∀ j (hj : j < bs.length), w.cell? ((⟨g, 0, none⟩ : Addr).add j) = some (.int .u8 (bs[j].toNat : Int)) := by
    intro j hj
    exact h.cells j _ (by simp [List.getElem?_eq_getElem hj, u8v])
  exact run_convert_bytes_back (P := Try.prog) w 45 9 5 ⟨g, 0, none⟩ cap bs (by kernel_rfl) (by kernel_rfl) (by kernel_rfl) hcell
/-- The conversion of a text to bytes. -/
theorem toBytes_M (w : World) (s : ByteArray) (hs : s.size ≤ 140737488355328) :
    ∃ v w', (convert 9 45 (.string s)).run Try.prog w = .ok v w' ∧ OwnM w' w.heap.size v s.data.toList ∧ Below w.heap.size w w' := by
  have hge := grownCap_ge w s.size 0 5
  have hcm2 : grownCap w s.size 0 5 ≤ maxLen := grownCap_le_maxLen w s.size 0 5 (by unfold maxLen; omega)
  have hsl : s.data.toList.length = s.size := by simp
  refine ⟨_, _, run_bytes_of_string (P := Try.prog) w 9 45 5 s (by kernel_rfl) (by kernel_rfl) (by kernel_rfl), ⟨w.heap.size, grownCap w s.size 0 5, bytesRow s (grownCap w s.size 0 5), _, by rw [hsl], Nat.le_refl _, heap_alloc_new w.drew _, .inr (Nat.le_refl _), by omega, hcm2, ?_, ?_⟩, ?_⟩
  · have e : (bytesRow s (grownCap w s.size 0 5)).size = s.size + (grownCap w s.size 0 5 - s.size) := by simp [bytesRow]
    rw [e]; omega
  · have e : (bytesRow s (grownCap w s.size 0 5)).toList = s.data.toList.map u8v ++ List.replicate (grownCap w s.size 0 5 - s.size) (.int .u8 0) := by
      simp [bytesRow]
      intro a _
      rfl
    rw [e, show s.data.toList.length = (s.data.toList.map u8v).length by simp]
    exact List.take_left
  · exact ((Below.refl _ _).drew).alloc (Nat.le_refl _) _
end Go.Proofs.Ytfbdhihhimfaaaa
