/- A copy of the document's disk (D8). -/
import Derived.Test.YtpgimffghaelhaaRefD
import Derived.Deep.RegionLaw
import Derived.Deep.CutRange
namespace Go.Proofs.Ytpgimffghaelhaa
open Go.RowKit Go.Maps

def RCopyIs (w : World) (S : St) (N : Nat) (e : Ending) (w' : World) : Prop := ∃ pc, e = .returned (.pointer (some ⟨pc, 0, none⟩)) ∧ RefAt w' (fun k => w.heap.size ≤ k ∧ k < w'.heap.size) pc S N ∧ Below w.heap.size w w'
/-- A row that was copied. -/
theorem copied_row (W : World) (t e ty : TypeId) (i : TypeInfo) (z : Value) (bytes : Nat) (ht : Try.prog.underlying t = some (.slice e)) (hi : Try.prog.info? e = some i) (hz : i.zero = some z) (hs : i.size = 1) (hb : i.bytes = bytes) (hzs : z.cells.size = 1) (hb2 : bytes ≤ 16)
    (b c : Nat) (V : Nat → Value) (hc : ∀ k, k < 1000 → W.cell? ⟨b, k, none⟩ = some (V k)) (h1 : ∀ k, (V k).oneCell' = true) :
    ∃ g cap w', (Builtin.append_ #[t, t] ty #[.slice none 0 0, .slice (some ⟨b, 0, none⟩) 1000 c]).run Try.prog W = .ok (.slice (some ⟨g, 0, none⟩) 1000 cap) w' ∧ W.heap.size ≤ g ∧ Below W.heap.size W w' ∧ ∃ cur, w'.heap[g]? = some (.cells cur e (0, 0)) ∧ ∀ k, k < 1000 → cur[k]? = some (V k) := by
  obtain ⟨v', w', hr, hown, hgrow, hnil⟩ := run_append_own (P := Try.prog) W W.heap.size t ty e i z 1 bytes ht hi hz hs hb hzs (by decide) (.slice none 0 0) 0 [] ⟨rfl, .inl ⟨rfl, rfl⟩⟩ ⟨b, 0, none⟩ 1000 c ((List.range 1000).map V) (by simp) (fun j u hu => by
      have hj : j < 1000 := by
        have := (List.getElem?_eq_some_iff.1 hu).1
        simpa using this
      have e1 : u = V j := by simpa [hj] using hu.symm
      have hadd : (⟨b, 0, none⟩ : Addr).add j = ⟨b, j, none⟩ := by unfold Addr.add; split <;> simp_all
      rw [hadd, e1]
      exact hc j hj) (fun u hu => by
      obtain ⟨k, _, rfl⟩ := List.mem_map.1 hu
      exact h1 k) (by unfold maxLen; omega) (by omega) (Nat.le_refl _)
  obtain ⟨_, ⟨_, h0⟩ | ⟨g, cap, cur, rfl, hg, hcur, _, _, _, htk⟩⟩ := hown
  · omega
  · refine ⟨g, cap, w', hr, hg, ⟨hgrow.os, hgrow.tape, hgrow.output, hgrow.size, fun k hk => hgrow.block k hk (by simp [Value.ownBlock])⟩, cur, hcur, fun k hk => ?_⟩
    have e2 : (cur.toList.take ((0 + 1000) * 1))[k]? = some (V k) := by
      rw [htk]
      simp [hk]
    rw [List.getElem?_take, if_pos (by omega)] at e2
    simpa using e2
/-- An append whose run is known, as a step of a region that draws. -/
theorem step_run {ops : Array Oper} {o : Oper} {a : Act} {w : World} {K : Act → World → Prop} {Q : Exit → Act → World → Prop} {E : Prop}
    (hg : o.guard = none) (s x : Operand) (t ty : TypeId) (hop : o.op = Op.call { callee := Callee.builtin Builtin.append, args := #[s, x], argTypes := #[t, t] }) (hty : o.type = ty) {v1 v2 v' : Value} {w' : World} (hs : a.eval s = v1) (hx : a.eval x = v2)
    (hrun : (Builtin.append_ #[t, t] ty #[v1, v2]).run Try.prog w = .ok v' w') (hK : K (a.put o.dst v') w') : if Region.wanted o (yielded ops a.tmps) = true then Oper.wp Try.prog o a w K Q else E := by
  have hw : Region.wanted o (yielded ops a.tmps) = true := by simp [Region.wanted, hg]
  rw [if_pos hw]
  subst hty
  unfold Oper.wp
  simp [execOp, hop, resolve, invoke, builtin, hs, hx, hrun, Result.andThen]
  exact hK
set_option maxHeartbeats 4000000 in
set_option maxRecDepth 100000 in
theorem refCopy_is {w : World} {F : Nat → Prop} {q : Nat} {S : St} {N : Nat} (h : RefAt w F q S N) : Calls Try.prog 15 #[.pointer (some ⟨q, 0, none⟩)] w (RCopyIs w S N) := by
  obtain ⟨bb, sb, cb, cc, hc, hg, r⟩ := h
  obtain ⟨l1, l2, l3⟩ := hc.lts
  have c0 : w.cell? ⟨q, 0, none⟩ = some (.int .i64 (S.room : Int)) := by rw [cell_at hc.cells]; rfl
  have c3 : w.cell? ⟨q, 3, none⟩ = some (.int .i64 S.fuse) := by rw [cell_at hc.cells]; rfl
  have c4 : w.cell? ⟨q, 4, none⟩ = some (.int .i64 (S.age : Int)) := by rw [cell_at hc.cells]; rfl
  have HC := hideIt hc
  obtain ⟨i9, hi9, z9, s9, b9⟩ := info_parts info9
  obtain ⟨i3, hi3, z3, s3, b3⟩ := info_parts info3
  clear hc
  go_enter Try.func15, Try.ntmps15
  go_upto_region 1 with fail
  go_region
  have hz := heap_alloc_new w (Obj.cells #[.int .i64 (S.room : Int), .slice none 0 0, .slice none 0 0, .int .i64 S.fuse, .int .i64 (S.age : Int)] 66)
  have hb0 : Below w.heap.size w (w.alloc (Obj.cells #[.int .i64 (S.room : Int), .slice none 0 0, .slice none 0 0, .int .i64 S.fuse, .int .i64 (S.age : Int)] 66)).drew := ((Below.refl _ w).alloc (Nat.le_refl _) _).drew
  have hz0 : (w.alloc (Obj.cells #[.int .i64 (S.room : Int), .slice none 0 0, .slice none 0 0, .int .i64 S.fuse, .int .i64 (S.age : Int)] 66)).drew.heap[w.heap.size]? = some (.cells #[.int .i64 (S.room : Int), .slice none 0 0, .slice none 0 0, .int .i64 S.fuse, .int .i64 (S.age : Int)] 66 (0, 0)) := hz
  have hs0 : (w.alloc (Obj.cells #[.int .i64 (S.room : Int), .slice none 0 0, .slice none 0 0, .int .i64 S.fuse, .int .i64 (S.age : Int)] 66)).drew.heap.size = w.heap.size + 1 := by
    show (w.alloc (Obj.cells #[.int .i64 (S.room : Int), .slice none 0 0, .slice none 0 0, .int .i64 S.fuse, .int .i64 (S.age : Int)] 66)).heap.size = _
    simp
  generalize (w.alloc (Obj.cells #[.int .i64 (S.room : Int), .slice none 0 0, .slice none 0 0, .int .i64 S.fuse, .int .i64 (S.age : Int)] 66)).drew = X0 at *
  have hC0 : RCore X0 F q bb sb cb cc S.room S.fuse S.age S.seg := HC.out.keep (fun j _ hl => hb0.block j hl)
  have x1 : X0.cell? ⟨w.heap.size, 1, none⟩ = some (.slice none 0 0) := by rw [cell_at hz0]; rfl
  have y1 : X0.cell? ⟨q, 1, none⟩ = some (.slice (some ⟨bb, 0, none⟩) 1000 cb) := by rw [cell_at hC0.cells]; rfl
  obtain ⟨g9, k9, W1, hr9, hg9, hb9, cur9, hcur9, hV9⟩ := copied_row X0.drew 48 9 48 i9 _ 16 Try.underlying48 hi9 z9 s9 b9 rfl (by decide) bb cb (bytesV S.seg) (fun k hk => hC0.text k hk) (fun k => rfl)
  have HB9 := hideIt hb9
  have HV9 := hideIt hV9
  have HCu9 := hideIt hcur9
  have hp1 : W1.heap[w.heap.size]? = some (.cells #[.int .i64 (S.room : Int), .slice none 0 0, .slice none 0 0, .int .i64 S.fuse, .int .i64 (S.age : Int)] 66 (0, 0)) := (hb9.block _ (show w.heap.size < X0.drew.heap.size by show w.heap.size < X0.heap.size; omega)).trans hz0
  have p1 : W1.cell? ⟨w.heap.size, 1, none⟩ = some (.slice none 0 0) := by rw [cell_at hp1]; rfl
  have f1 := free_at hp1 1
  have HB0 := hideIt hb0
  have Hp1 := hideIt hp1
  have hgg : X0.heap.size ≤ g9 := hg9
  clear hz hb0 hz0 hb9 hV9 hcur9 hp1 c0 c3 c4 hC0 hg9
  go_upto_region 2 with fail
  have Hr9 := hideIt hr9
  clear hr9
  go_cut [29] from 18 to 29 (fun _ wx => wx = W1.setCell ⟨w.heap.size, 1, none⟩ (.slice (some ⟨g9, 0, none⟩) 1000 k9))
  case first =>
    go_region_law (refine step_run rfl _ _ 48 48 rfl rfl rfl rfl Hr9.out ?_)
    all_goals go_wp2_with fail
    all_goals go_meet
    all_goals rfl
  case rest =>
  subst hcut
  have hp2 : (W1.setCell ⟨w.heap.size, 1, none⟩ (.slice (some ⟨g9, 0, none⟩) 1000 k9)).heap[w.heap.size]? = some (.cells #[.int .i64 (S.room : Int), .slice (some ⟨g9, 0, none⟩) 1000 k9, .slice none 0 0, .int .i64 S.fuse, .int .i64 (S.age : Int)] 66 (0, 0)) := by
    rw [setCell_eq_setRow _ _ 1 _ 66 (0, 0) _ Hp1.out]
    exact setRow_heap _ _ _ _ 66 _ Hp1.out
  have ho2 : Out (fun b => b = w.heap.size) W1 (W1.setCell ⟨w.heap.size, 1, none⟩ (.slice (some ⟨g9, 0, none⟩) 1000 k9)) := Out.ofSet W1 _ _ rfl
  have s1 : X0.heap.size ≤ W1.heap.size := HB9.out.size
  have hg1l : g9 < W1.heap.size := (Array.getElem?_eq_some_iff.1 HCu9.out).1
  have hq2 : ∀ j, j < w.heap.size → (W1.setCell ⟨w.heap.size, 1, none⟩ (.slice (some ⟨g9, 0, none⟩) 1000 k9)).heap[j]? = w.heap[j]? := by
    intro j hj
    rw [ho2.block j (by omega) (by omega), HB9.out.block j (show j < X0.drew.heap.size by show j < X0.heap.size; omega)]
    exact HB0.out.block j hj
  have hc92 : (W1.setCell ⟨w.heap.size, 1, none⟩ (.slice (some ⟨g9, 0, none⟩) 1000 k9)).heap[g9]? = some (.cells cur9 9 (0, 0)) := (ho2.block g9 hg1l (by omega)).trans HCu9.out
  have hos2 : Below w.heap.size w (W1.setCell ⟨w.heap.size, 1, none⟩ (.slice (some ⟨g9, 0, none⟩) 1000 k9)) := ⟨ho2.os.trans (HB9.out.os.trans HB0.out.os), ho2.tape.trans (HB9.out.tape.trans HB0.out.tape), ho2.output.trans (HB9.out.output.trans HB0.out.output), by have := ho2.size; omega, hq2⟩
  have s2 := ho2.size
  generalize W1.setCell ⟨w.heap.size, 1, none⟩ (.slice (some ⟨g9, 0, none⟩) 1000 k9) = X2 at *
  have hC2 : RCore X2 F q bb sb cb cc S.room S.fuse S.age S.seg := HC.out.keep (fun j _ hl => hq2 j hl)
  have x2 : X2.cell? ⟨w.heap.size, 2, none⟩ = some (.slice none 0 0) := by rw [cell_at hp2]; rfl
  have y2 : X2.cell? ⟨q, 2, none⟩ = some (.slice (some ⟨sb, 0, none⟩) 1000 cc) := by rw [cell_at hC2.cells]; rfl
  obtain ⟨g3, k3, W3, hr3, hg3, hb3', cur3, hcur3, hV3⟩ := copied_row X2.drew 35 3 35 i3 _ 8 Try.underlying35 hi3 z3 s3 b3 rfl (by decide) sb cc (fun k => .int .i64 ((S.seg k).safe : Int)) (fun k hk => hC2.safe k hk) (fun k => rfl)
  have hg3' : X2.heap.size ≤ g3 := hg3
  have s3' : X2.heap.size ≤ W3.heap.size := hb3'.size
  have hp3 : W3.heap[w.heap.size]? = some (.cells #[.int .i64 (S.room : Int), .slice (some ⟨g9, 0, none⟩) 1000 k9, .slice none 0 0, .int .i64 S.fuse, .int .i64 (S.age : Int)] 66 (0, 0)) := (hb3'.block _ (show w.heap.size < X2.drew.heap.size by show w.heap.size < X2.heap.size; omega)).trans hp2
  have p3 : W3.cell? ⟨w.heap.size, 2, none⟩ = some (.slice none 0 0) := by rw [cell_at hp3]; rfl
  have f3 := free_at hp3 2
  have Hr3 := hideIt hr3
  have HB3 := hideIt hb3'
  have Hp3 := hideIt hp3
  have Hc92 := hideIt hc92
  have HV3 := hideIt hV3
  have HCu3 := hideIt hcur3
  have Hos2 := hideIt hos2
  clear hr3 hg3 hb3' hp3 hp2 hc92 hV3 hcur3 hC2 hq2 ho2 hos2 x1 y1 p1 f1 Hr9
  go_upto_region 3 with fail
  go_cut [41] from 30 to 41 (fun _ wx => wx = W3.setCell ⟨w.heap.size, 2, none⟩ (.slice (some ⟨g3, 0, none⟩) 1000 k3))
  case first =>
    go_region_law (refine step_run rfl _ _ 35 35 rfl rfl rfl rfl Hr3.out ?_)
    all_goals go_wp2_with fail
    all_goals go_meet
    all_goals rfl
  case rest =>
  subst hcut
  have hp4 : (W3.setCell ⟨w.heap.size, 2, none⟩ (.slice (some ⟨g3, 0, none⟩) 1000 k3)).heap[w.heap.size]? = some (.cells #[.int .i64 (S.room : Int), .slice (some ⟨g9, 0, none⟩) 1000 k9, .slice (some ⟨g3, 0, none⟩) 1000 k3, .int .i64 S.fuse, .int .i64 (S.age : Int)] 66 (0, 0)) := by
    rw [setCell_eq_setRow _ _ 2 _ 66 (0, 0) _ Hp3.out]
    exact setRow_heap _ _ _ _ 66 _ Hp3.out
  have ho4 : Out (fun b => b = w.heap.size) W3 (W3.setCell ⟨w.heap.size, 2, none⟩ (.slice (some ⟨g3, 0, none⟩) 1000 k3)) := Out.ofSet W3 _ _ rfl
  generalize W3.setCell ⟨w.heap.size, 2, none⟩ (.slice (some ⟨g3, 0, none⟩) 1000 k3) = X4 at *
  have s4 := ho4.size
  have hg3l : g3 < W3.heap.size := (Array.getElem?_eq_some_iff.1 HCu3.out).1
  have h9X : X4.heap[g9]? = some (.cells cur9 9 (0, 0)) := by
    rw [ho4.block g9 (by omega) (by omega), HB3.out.block g9 (show g9 < X2.drew.heap.size by show g9 < X2.heap.size; omega)]
    exact Hc92.out
  have h3X : X4.heap[g3]? = some (.cells cur3 3 (0, 0)) := (ho4.block g3 hg3l (by omega)).trans HCu3.out
  have hB4 : Below w.heap.size w X4 := by
    refine Hos2.out.trans ⟨ho4.os.trans HB3.out.os, ho4.tape.trans HB3.out.tape, ho4.output.trans HB3.out.output, by omega, fun j hj => ?_⟩
    rw [ho4.block j (by omega) (by omega)]
    exact HB3.out.block j (show j < X2.drew.heap.size by show j < X2.heap.size; omega)
  have HB4 := hideIt hB4
  have H9X := hideIt h9X
  have H3X := hideIt h3X
  have HP4 := hideIt hp4
  clear hB4 h9X h3X hp4 ho4 p3 f3 x2 y2
  go_wp2
  go_ret
  exact ⟨w.heap.size, rfl, ⟨g9, g3, k9, k3, ⟨HP4.out, ⟨cur9, H9X.out, HV9.out⟩, ⟨cur3, H3X.out, HV3.out⟩, ⟨by omega, by omega⟩, ⟨by omega, by omega⟩, ⟨by omega, by omega⟩, by omega, by omega, by omega⟩, hg, r⟩, HB4.out⟩
end Go.Proofs.Ytpgimffghaelhaa
