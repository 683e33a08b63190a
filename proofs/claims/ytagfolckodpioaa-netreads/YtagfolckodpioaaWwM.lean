/- A message among the arguments, opened. -/
import Derived.Test.YtagfolckodpioaaAl
import Derived.Test.YtagfolckodpioaaN2
import Derived.Test.YtagfolckodpioaaLi
import Derived.Test.YtagfolckodpioaaR5M
import Derived.Test.YtagfolckodpioaaEnc
import Derived.Test.YtagfolckodpioaaR2
import Derived.Deep.RegionHeld3
import Derived.Test.YtagfolckodpioaaSameN
import Derived.Test.YtagfolckodpioaaArB
namespace Go.Proofs.Ytagfolckodpioaa.K2
open Go.RowKit Go.Maps Go.Proofs.Ytagfolckodpioaa
set_option linter.all false
theorem app_none {t e : TypeId} {z : Value} {k bytes : Nat} (ht : Try.prog.underlying t = some (.slice e)) (hi : (Try.prog.info? e).map (fun i => (i.zero, i.size, i.bytes)) = some (some z, k, bytes)) (w : World) (B : Nat) (v : Value) (n : Nat) (xs : List Value) (hown : w.ownsRow B e k v n xs) (c : Nat) : (Builtin.append_ #[t, t] t #[v, .slice none 0 c]).run Try.prog w = .ok v w := by
  obtain ⟨i, hi, hz0, hz1, hz2⟩ := info_parts hi
  rcases hown.2 with ⟨rfl, rfl⟩ | ⟨g, cap, cur, rfl, _, _, hnc, _⟩
  · simp [Builtin.append_, run_underlying ht, sizeOf, typeInfo, hi, Builtin.lenOf, Builtin.firstCells]
  · simp [Builtin.append_, run_underlying ht, sizeOf, typeInfo, hi, Builtin.lenOf, Builtin.firstCells, hnc, storeCells]
theorem app0 {α : Type} {k bytes : Nat} {enc : α → List Value} {t e : TypeId} {z : Value} (hk : ∀ x, (enc x).length = k) (h1 : ∀ x, ∀ u ∈ enc x, u.oneCell' = true) (ht : Try.prog.underlying t = some (.slice e))
    (hi : (Try.prog.info? e).map (fun i => (i.zero, i.size, i.bytes)) = some (some z, k, bytes)) (hz : z.cells.size = k) (hk0 : 0 < k) (hb0 : 8 ≤ bytes) (w : World) (g : Value) (l : List α) (hg : SGot k bytes enc w g l) :
    ∃ a' c' w', (Builtin.append_ #[t, t] t #[.slice none 0 0, g]).run Try.prog w = .ok (.slice a' l.length c') w' ∧ w'.ownsRow w.heap.size e k (.slice a' l.length c') l.length (celC enc l) ∧ Below w.heap.size w w' := by
  obtain ⟨a, c, rfl⟩ := hg.slice
  cases a with
  | none =>
    have h0 : l.length = 0 := by
      obtain ⟨_, a', c', e', _, hr⟩ := hg
      simp only [Value.slice.injEq] at e'
      rcases Nat.eq_zero_or_pos l.length with h0 | h0
      · exact h0
      · obtain ⟨b, off, hb, _⟩ := hr h0
        rw [← e'.1] at hb
        cases hb
    have hl0 : l = [] := List.length_eq_zero_iff.1 h0
    subst hl0
    exact ⟨none, 0, w, app_none ht hi w w.heap.size _ 0 [] (own_nil _ _) c, own_nil _ _, Below.refl _ _⟩
  | some b =>
    obtain ⟨v', w', hrun, how, hgr⟩ := appL hk h1 ht hi hz hk0 hb0 w w.heap.size (.slice none 0 0) [] l b l.length c rfl (Nat.le_refl _) (own_nil _ _) hg (by have := hg.1; simpa using this)
    rw [List.nil_append] at how
    obtain ⟨a', c', rfl⟩ := own_len how
    refine ⟨a', c', w', hrun, how, (Out.ofGrown (F := fun _ => False) hgr (fun k h => by cases h)).below (Nat.le_refl _) (fun _ h => h.elim)⟩
theorem SGot.upto {α : Type} {k bytes : Nat} {enc : α → List Value} {w : World} {a : Option Addr} {c : Nat} {l : List α} (hk : ∀ x, (enc x).length = k) (h : SGot k bytes enc w (.slice a l.length c) l) (t : Nat) (ht : t ≤ l.length) : SGot k bytes enc w (.slice a t c) (l.take t) := by
  obtain ⟨h8, a', c', e, hc, hr⟩ := h
  simp only [Value.slice.injEq, true_and] at e
  obtain ⟨rfl, rfl⟩ := e
  have hl : (l.take t).length = t := by rw [List.length_take]; omega
  refine ⟨by rw [hl]; exact Nat.le_trans (Nat.mul_le_mul_right _ ht) h8, a, c, by rw [hl], ⟨by rw [hl]; omega, hc.2⟩, fun hp => ?_⟩
  rw [hl] at hp
  obtain ⟨b, off, ha, hb, hcell⟩ := hr (by omega)
  refine ⟨b, off, ha, hb, fun j hj => ?_⟩
  rw [hl] at hj
  have hjl : j < l.length * k := Nat.lt_of_lt_of_le hj (Nat.mul_le_mul_right _ ht)
  rw [hcell j hjl, ← celC_take hk, List.getElem?_take, if_pos hj]
theorem SGot.from {α : Type} {k bytes : Nat} {enc : α → List Value} {w : World} {a : Option Addr} {c : Nat} {l : List α} (hk : ∀ x, (enc x).length = k) (h : SGot k bytes enc w (.slice a l.length c) l) (t : Nat) (ht : t ≤ l.length) : SGot k bytes enc w (.slice (if c = t then a else a.map (·.add (t * k))) (l.length - t) (c - t)) (l.drop t) := by
  obtain ⟨h8, a', c', e, hc, hr⟩ := h
  simp only [Value.slice.injEq, true_and] at e
  obtain ⟨rfl, rfl⟩ := e
  have hl : (l.drop t).length = l.length - t := List.length_drop
  refine ⟨by rw [hl]; exact Nat.le_trans (Nat.mul_le_mul_right _ (Nat.sub_le _ _)) h8, _, _, by rw [hl], ⟨by rw [hl]; omega, by omega⟩, fun hp => ?_⟩
  rw [hl] at hp
  obtain ⟨b, off, ha, hb, hcell⟩ := hr (by omega)
  subst ha
  refine ⟨b, off + t * k, by rw [if_neg (by omega)]; simp only [Option.map_some, addN], hb, fun j hj => ?_⟩
  rw [hl, Nat.sub_mul] at hj
  have hle : t * k ≤ l.length * k := Nat.mul_le_mul_right _ ht
  rw [Nat.add_assoc, hcell (t * k + j) (by omega), ← celC_drop hk, List.getElem?_drop]
/-- Whatever list behind one of the call's own. -/
theorem appG {α : Type} {k bytes : Nat} {enc : α → List Value} {t e : TypeId} {z : Value} (hk : ∀ x, (enc x).length = k) (h1 : ∀ x, ∀ u ∈ enc x, u.oneCell' = true) (ht : Try.prog.underlying t = some (.slice e))
    (hi : (Try.prog.info? e).map (fun i => (i.zero, i.size, i.bytes)) = some (some z, k, bytes)) (hz : z.cells.size = k) (hk0 : 0 < k) (hb0 : 8 ≤ bytes) (w : World) (B : Nat) (v : Value) (xs l : List α) (g : Value) (hB : B ≤ w.heap.size)
    (ho : w.ownsRow B e k v xs.length (celC enc xs)) (hg : SGot k bytes enc w g l) (hl : (xs.length + l.length) * bytes ≤ 140737488355328) :
    ∃ v' w', (Builtin.append_ #[t, t] t #[v, g]).run Try.prog w = .ok v' w' ∧ w'.ownsRow B e k v' (xs ++ l).length (celC enc (xs ++ l)) ∧ w.grownBy w' v.ownBlock := by
  obtain ⟨a, c, rfl⟩ := hg.slice
  cases a with
  | none =>
    have h0 : l.length = 0 := by
      obtain ⟨_, a', c', e', _, hr⟩ := hg
      simp only [Value.slice.injEq] at e'
      rcases Nat.eq_zero_or_pos l.length with h0 | h0
      · exact h0
      · obtain ⟨b, off, hb, _⟩ := hr h0
        rw [← e'.1] at hb
        cases hb
    have hl0 : l = [] := List.length_eq_zero_iff.1 h0
    subst hl0
    refine ⟨v, w, app_none ht hi w B v _ _ ho c, ?_, grown_refl _ _⟩
    rw [List.append_nil]
    exact ho
  | some b => exact appL hk h1 ht hi hz hk0 hb0 w B v xs l b l.length c rfl hB ho hg hl
theorem sizeP (w : World) : (Go.sizeOf 56).run Try.prog w = .ok 3 w := by simp [go_sem]
theorem run_upto (a : Option Addr) (n c t : Nat) (ht : t ≤ c) (W : World) : (Instr.slice 63 (.slice a n c) none (some (.int .i64 (t : Int))) none).run Try.prog W = .ok (.slice a t c) W := by
  have ht' : Try.prog.underlying 63 = some (.slice (Try.prog.elem 63)) := by simp [Program.elem, Try.underlying63]
  have he : Try.prog.elem 63 = 56 := by simp [Program.elem, Try.underlying63]
  rw [run_slice_h W 63 _ _ _ ht' .i64 _ (by omega) (by omega), he, sizeP]
  have e0 : (fun x : Addr => x.add (0 * 3)) = id := by funext x; simp [Addr.add]
  simp [Result.andThen, sliced, e0]
theorem run_from (a : Option Addr) (n c t : Nat) (ht : t ≤ n) (W : World) : (Instr.slice 63 (.slice a n c) (some (.int .i64 (t : Int))) none none).run Try.prog W = .ok (.slice (if c = t then a else a.map (·.add (t * 3))) (n - t) (c - t)) W := by
  have ht' : Try.prog.underlying 63 = some (.slice (Try.prog.elem 63)) := by simp [Program.elem, Try.underlying63]
  have he : Try.prog.elem 63 = 56 := by simp [Program.elem, Try.underlying63]
  rw [run_slice_l W 63 _ _ _ ht' .i64 _ (by omega) (by omega), he, sizeP]
  simp [Result.andThen, sliced]
end Go.Proofs.Ytagfolckodpioaa.K2
namespace Go.Proofs.Ytagfolckodpioaa.K2
open Go.RowKit Go.Maps Go.Proofs.Ytagfolckodpioaa
set_option linter.all false
def entE (e : EntV) : List Value := [.int .i64 e.term, .int .i64 e.kind, .string e.text]
theorem entE_len (e : EntV) : (entE e).length = 3 := rfl
theorem entE_one (e : EntV) : ∀ u ∈ entE e, u.oneCell' = true := by
  intro u hu
  simp only [entE, List.mem_cons, List.not_mem_nil, or_false] at hu
  rcases hu with rfl | rfl | rfl <;> rfl
theorem info41 : (Try.prog.info? 41).map (fun i => (i.zero, i.size, i.bytes)) = some (some (.agg #[.int .i64 0, .int .i64 0, .string ⟨#[]⟩]), 3, 32) := by kernel_rfl
theorem celE (l : List EntV) : celC entE l = entC l := rfl
theorem sgot_ents {w : World} {a : Option Addr} {n c : Nat} {l : List EntV} (h : SGot 3 32 entE w (.slice a n c) l) : EntsAt w a l := by
  obtain ⟨h8, a', c', e, hcap, hr⟩ := h
  simp only [Value.slice.injEq] at e
  obtain ⟨rfl, -, -⟩ := e
  intro i hi
  obtain ⟨b, off, e, hb, hc⟩ := hr (by omega)
  refine ⟨b, off, e, hb, ?_, ?_, ?_⟩
  · rw [hc (i * 3) (by omega)]
    exact celC_get entE_len l i hi 0 (by omega)
  · rw [show off + i * 3 + 1 = off + (i * 3 + 1) by omega, hc (i * 3 + 1) (by omega)]
    exact celC_get entE_len l i hi 1 (by omega)
  · rw [show off + i * 3 + 2 = off + (i * 3 + 2) by omega, hc (i * 3 + 2) (by omega)]
    exact celC_get entE_len l i hi 2 (by omega)
set_option maxHeartbeats 8000000 in
set_option maxRecDepth 100000 in
theorem copied_is (m : MsgV) (l : List EntV) (w : World) (h : SGot 3 32 entE w (.slice m.ea l.length m.ec) l) (hn : m.en = l.length) : Calls Try.prog 8 #[.agg (msgC m)] w fun e w' => ∃ a c, e = .returned (.agg (msgC (withE m a l.length c))) ∧ EntsAt w' a l ∧ Below w.heap.size w w' := by
  obtain ⟨kind, frm, dst, term, pi, pt, ea, en, ec, commit, ok, mtch, si, st, text⟩ := m
  simp only at h hn
  subst hn
  simp only [msgC, withE]
  obtain ⟨t1, t2, t3⟩ := two_heap w (.cells #[.int .i64 kind, .int .i64 frm, .int .i64 dst, .int .i64 term, .int .i64 pi, .int .i64 pt, .slice ea l.length ec, .int .i64 commit, .bool ok, .int .i64 mtch, .int .i64 si, .int .i64 st, .string text] 28) (.cells #[.int .i64 0, .int .i64 0, .int .i64 0, .int .i64 0, .int .i64 0, .int .i64 0, .slice none 0 0, .int .i64 0, .bool false, .int .i64 0, .int .i64 0, .int .i64 0, .string ⟨#[]⟩] 28)
  have hb0 := below2 w (.cells #[.int .i64 kind, .int .i64 frm, .int .i64 dst, .int .i64 term, .int .i64 pi, .int .i64 pt, .slice ea l.length ec, .int .i64 commit, .bool ok, .int .i64 mtch, .int .i64 si, .int .i64 st, .string text] 28) (.cells #[.int .i64 0, .int .i64 0, .int .i64 0, .int .i64 0, .int .i64 0, .int .i64 0, .slice none 0 0, .int .i64 0, .bool false, .int .i64 0, .int .i64 0, .int .i64 0, .string ⟨#[]⟩] 28)
  have T1 := hideIt t1
  have T2 := hideIt t2
  have T3 := hideIt t3
  have HB0 := hideIt hb0
  have HG := hideIt h
  clear t1 t2 t3 hb0 h
  go_enter Try.func8, Try.ntmps8
  go_upto_region 1 with fail
  generalize (w.alloc (.cells #[.int .i64 kind, .int .i64 frm, .int .i64 dst, .int .i64 term, .int .i64 pi, .int .i64 pt, .slice ea l.length ec, .int .i64 commit, .bool ok, .int .i64 mtch, .int .i64 si, .int .i64 st, .string text] 28)).alloc (.cells #[.int .i64 0, .int .i64 0, .int .i64 0, .int .i64 0, .int .i64 0, .int .i64 0, .slice none 0 0, .int .i64 0, .bool false, .int .i64 0, .int .i64 0, .int .i64 0, .string ⟨#[]⟩] 28) = W0 at *
  obtain ⟨⟨c0, c1, c2, c3, c4, c5, c6, c7, c8, c9, c10, c11, c12⟩, mf, mz⟩ := msg_at (m := ⟨kind, frm, dst, term, pi, pt, ea, l.length, ec, commit, ok, mtch, si, st, text⟩) T1.out
  have U1 : Hid ((W0.setCell ⟨w.heap.size, 6, none⟩ (.slice none 0 0)).heap[w.heap.size]? = some (.cells (msgC ⟨kind, frm, dst, term, pi, pt, none, 0, 0, commit, ok, mtch, si, st, text⟩) 28 (0, 0))) := heap_set T1.out 6 (.slice none 0 0)
  have U2 := hideIt (setOther (b := w.heap.size) (j := 6) (.slice none 0 0) T2.out (by omega))
  have B2 : Hid (Below w.heap.size w (W0.setCell ⟨w.heap.size, 6, none⟩ (.slice none 0 0))) := belowSet _ HB0.out (Nat.le_refl _)
  clear c0 c1 c2 c3 c4 c5 c7 c8 c9 c10 c11 c12 T1 T2 HB0
  go_upto_region 3 with fail
  clear c6 mf mz T3
  generalize W0.setCell ⟨w.heap.size, 6, none⟩ (.slice none 0 0) = W2 at *
  obtain ⟨a5, r5, w5, hrun, how, hb5⟩ := app0 (enc := entE) (t := 24) entE_len entE_one Try.underlying24 info41 rfl (by omega) (by omega) W2 (.slice ea l.length ec) l (HG.out.keep B2.out)
  have HRUN := hideIt hrun
  obtain ⟨⟨c0, c1, c2, c3, c4, c5, c6, c7, c8, c9, c10, c11, c12⟩, mf, mz⟩ := msg_at U1.out
  obtain ⟨⟨d0, d1, d2, d3, d4, d5, d6, d7, d8, d9, d10, d11, d12⟩, nf, nz⟩ := msg_at (blkK U1.out hb5)
  have V1 : Hid ((w5.setCell ⟨w.heap.size, 6, none⟩ (.slice a5 l.length r5)).heap[w.heap.size]? = some (.cells (msgC ⟨kind, frm, dst, term, pi, pt, a5, l.length, r5, commit, ok, mtch, si, st, text⟩) 28 (0, 0))) := heap_set (blkK U1.out hb5) 6 (.slice a5 l.length r5)
  have V2 := hideIt (setOther (b := w.heap.size) (j := 6) (.slice a5 l.length r5) (blkK U2.out hb5) (by omega))
  have B5 : Hid (Below w.heap.size w (w5.setCell ⟨w.heap.size, 6, none⟩ (.slice a5 l.length r5))) := belowSet _ (below_via B2.out hb5) (Nat.le_refl _)
  have O5 : Hid ((w5.setCell ⟨w.heap.size, 6, none⟩ (.slice a5 l.length r5)).ownsRow W2.heap.size 41 3 (.slice a5 l.length r5) l.length (celC entE l)) := ownSet _ how mz
  have hK1 : w.heap.size + 1 < W2.heap.size := (Array.getElem?_eq_some_iff.1 U2.out).1
  clear hrun how hb5 U1 U2 B2
  dsimp only at c0 c1 c2 c3 c4 c5 c6 c7 c8 c9 c10 c11 c12 d0 d1 d2 d3 d4 d5 d6 d7 d8 d9 d10 d11 d12
  go_upto_region 4 with (at_builtin; refine Lib.wpList_append_run _ rfl _ _ _ _ rfl _ _ rfl rfl _ _ HRUN.out ?_)
  clear c0 c1 c2 c3 c4 c5 c6 c7 c8 c9 c10 c11 c12 d0 d1 d2 d3 d4 d5 d6 d7 d8 d9 d10 d11 d12 mf mz nf nz HRUN
  generalize w5.setCell ⟨w.heap.size, 6, none⟩ (.slice a5 l.length r5) = W5 at *
  obtain ⟨⟨c0, c1, c2, c3, c4, c5, c6, c7, c8, c9, c10, c11, c12⟩, mf, mz⟩ := msg_at V1.out
  obtain ⟨⟨d0, d1, d2, d3, d4, d5, d6, d7, d8, d9, d10, d11, d12⟩, nf, nz⟩ := msg_at (m := ⟨0, 0, 0, 0, 0, 0, none, 0, 0, 0, false, 0, 0, 0, ⟨#[]⟩⟩) V2.out
  dsimp only at c0 c1 c2 c3 c4 c5 c6 c7 c8 c9 c10 c11 c12 d0 d1 d2 d3 d4 d5 d6 d7 d8 d9 d10 d11 d12
  go_wp2
  obtain ⟨hzz, hoo⟩ := put13 W5 (w.heap.size + 1) (.int .i64 kind) (.int .i64 frm) (.int .i64 dst) (.int .i64 term) (.int .i64 pi) (.int .i64 pt) (.slice a5 l.length r5) (.int .i64 commit) (.bool ok) (.int .i64 mtch) (.int .i64 si) (.int .i64 st) (.string text) V2.out
  refine bodyPost_ret (v := .agg #[.int .i64 kind, .int .i64 frm, .int .i64 dst, .int .i64 term, .int .i64 pi, .int .i64 pt, .slice a5 l.length r5, .int .i64 commit, .bool ok, .int .i64 mtch, .int .i64 si, .int .i64 st, .string text]) (by simp [results, Try.results8, go_sem, cell_at hzz]) rfl ⟨a5, r5, rfl, ?_, ?_⟩
  · exact own_ents (B := W2.heap.size) (own_out O5.out hoo (fun k hk => by omega))
  · exact below_out B5.out hoo (fun k hk => by omega)
end Go.Proofs.Ytagfolckodpioaa.K2
namespace Go.Proofs.Ytagfolckodpioaa.K2
open Go.RowKit Go.Maps Go.Proofs.Ytagfolckodpioaa
set_option linter.all false
theorem bod1 (frm dst term pi pt : Int) (ea : Option Addr) (en ec : Nat) (commit : Int) (ok : Bool) (mtch si st : Int) (text : ByteArray) (b : Bool) : bodyB ⟨1, frm, dst, term, pi, pt, ea, en, ec, commit, ok, mtch, si, st, text⟩ b = (mkB pi pt && (((en : Int) == 0) && ((commit == 0) && (!ok && ((mtch == 0) && eqE ⟨si, st, text⟩ ⟨0, 0, ⟨#[]⟩⟩))))) := by
  simp only [bodyB, fOf, eqF, eqE, if_true, beq_self_eq_true, Bool.true_and]
  generalize mkB pi pt = x1
  generalize ((en : Int) == 0) = x2
  generalize (commit == 0) = x3
  generalize (mtch == 0) = x4
  generalize (si == 0) = x5
  generalize (st == 0) = x6
  generalize (text.toList == _) = x7
  revert x1 x2 x3 x4 x5 x6 x7 ok
  decide
theorem bod2 (frm dst term pi pt : Int) (ea : Option Addr) (en ec : Nat) (commit : Int) (ok : Bool) (mtch si st : Int) (text : ByteArray) (b : Bool) : bodyB ⟨2, frm, dst, term, pi, pt, ea, en, ec, commit, ok, mtch, si, st, text⟩ b = (eqS (pi, pt) (0, 0) && (((en : Int) == 0) && ((commit == 0) && ((mtch == 0) && eqE ⟨si, st, text⟩ ⟨0, 0, ⟨#[]⟩⟩)))) := by
  simp only [bodyB, fOf, eqF, eqE, eqS, if_true, beq_self_eq_true, Bool.true_and]
  rw [if_neg (by decide)]
  generalize (pi == 0) = x1
  generalize (pt == 0) = x8
  generalize ((en : Int) == 0) = x2
  generalize (commit == 0) = x3
  generalize (mtch == 0) = x4
  generalize (si == 0) = x5
  generalize (st == 0) = x6
  generalize (text.toList == _) = x7
  revert x1 x2 x3 x4 x5 x6 x7 x8
  decide
theorem bod4 (frm dst term pi pt : Int) (ea : Option Addr) (en ec : Nat) (commit : Int) (ok : Bool) (mtch si st : Int) (text : ByteArray) (b : Bool) : bodyB ⟨4, frm, dst, term, pi, pt, ea, en, ec, commit, ok, mtch, si, st, text⟩ b = (eqS (pi, pt) (0, 0) && (((en : Int) == 0) && ((commit == 0) && (wiB mtch 0 1000000 && eqE ⟨si, st, text⟩ ⟨0, 0, ⟨#[]⟩⟩)))) := by
  simp only [bodyB, fOf, eqF, eqE, eqS, if_true, beq_self_eq_true, Bool.true_and]
  rw [if_neg (by decide), if_neg (by decide), if_neg (by decide)]
  generalize (pi == 0) = x1
  generalize (pt == 0) = x8
  generalize ((en : Int) == 0) = x2
  generalize (commit == 0) = x3
  generalize wiB mtch 0 1000000 = x4
  generalize (si == 0) = x5
  generalize (st == 0) = x6
  generalize (text.toList == _) = x7
  revert x1 x2 x3 x4 x5 x6 x7 x8
  decide
set_option maxHeartbeats 4000000 in
set_option maxRecDepth 100000 in
theorem refMay_1 (m : MsgV) (b : Bool) (w : World) (h : headB m = true) (hk : m.kind = 1) : Calls Try.prog 36 #[.agg (msgC m)] w fun e w' => e = .returned (.bool (bodyB m b)) ∧ Below w.heap.size w w' := by
  have HB := hideIt (below1 w (.cells (msgC m) 28))
  have X := hideIt (heap_alloc_new w (.cells (msgC m) 28))
  obtain ⟨kind, frm, dst, term, pi, pt, ea, en, ec, commit, ok, mtch, si, st, text⟩ := m
  simp only [headB, Bool.and_eq_true, Bool.not_eq_true'] at h
  obtain ⟨⟨⟨h1, h2⟩, h3b⟩, h4⟩ := h
  have N1 := hideIt (fun W => refWithin_is frm 1 7 W)
  have N2 := hideIt (fun W => refWithin_is dst 1 7 W)
  have N3 := hideIt (fun W => refWithin_is term 1 1000000 W)
  rw [h1] at N1
  rw [h2] at N2
  rw [h4] at N3
  simp only [msgC] at HB X ⊢
  simp only at hk
  subst hk
  have q3 := fun W => eql23 pi pt 0 0 W
  have q7 := fun W => eql26 si st 0 0 text ⟨#[]⟩ W
  clear h1 h2 h4
  have HM := hideIt (fun W => refMark_is pi pt W)
  have HR := hideIt (bod1 frm dst term pi pt ea en ec commit ok mtch si st text b)
  generalize bodyB ⟨1, frm, dst, term, pi, pt, ea, en, ec, commit, ok, mtch, si, st, text⟩ b = R at *
  generalize mkB pi pt = mk at *
  generalize eqS (pi, pt) (0, 0) = b3 at *
  generalize eqE ⟨si, st, text⟩ ⟨0, 0, ⟨#[]⟩⟩ = b7 at *
  go_enter Try.func36, Try.ntmps36
  go_upto_region 1 with fail
  generalize w.alloc (.cells #[.int .i64 1, .int .i64 frm, .int .i64 dst, .int .i64 term, .int .i64 pi, .int .i64 pt, .slice ea en ec, .int .i64 commit, .bool ok, .int .i64 mtch, .int .i64 si, .int .i64 st, .string text] 28) = W1 at *
  obtain ⟨⟨c0, c1, c2, c3, c4, c5, c6, c7, c8, c9, c10, c11, c12⟩, mf, mz⟩ := msg_at (m := ⟨1, frm, dst, term, pi, pt, ea, en, ec, commit, ok, mtch, si, st, text⟩) X.out
  dsimp only at c0 c1 c2 c3 c4 c5 c6 c7 c8 c9 c10 c11 c12
  go_wp2_with fail
  refine (N1.out _).mono ?_
  rintro e w1 ⟨rfl, rfl⟩
  dsimp only
  go_wp2_with fail
  refine (N2.out _).mono ?_
  rintro e w1 ⟨rfl, rfl⟩
  dsimp only
  go_wp2_with fail
  refine (N3.out _).mono ?_
  rintro e w1 ⟨rfl, rfl⟩
  dsimp only
  go_upto_region 10 with fail
  clear N1 N2 N3 q3 q7 h3b
  generalize ((en : Int) == 0) = b4 at *
  generalize (commit == 0) = b5 at *
  generalize (mtch == 0) = b6 at *
  clear c0 c1 c2 c3 c6 c7 c9 c10 c11 c12
  go_wp2_with fail
  refine (HM.out _).mono ?_
  rintro e w2 ⟨rfl, hb⟩
  dsimp only
  have c8' := (hb.cell (p := ⟨w.heap.size, 8, none⟩) mz).trans c8
  have B2 := hideIt (below_via HB.out hb)
  clear hb HM c4 c5 c8 mf mz HB X
  cases mk
  · go_wp2
    go_ret
    exact ⟨by rw [HR.out]; first | rfl | simp, B2.out⟩
  · cases b4
    · go_wp2
      go_ret
      exact ⟨by rw [HR.out]; first | rfl | simp, B2.out⟩
    · cases b5
      · go_wp2
        go_ret
        exact ⟨by rw [HR.out]; first | rfl | simp, B2.out⟩
      · cases ok
        · cases b6
          · go_wp2
            go_ret
            exact ⟨by rw [HR.out]; first | rfl | simp, B2.out⟩
          · go_wp2
            go_ret
            exact ⟨by rw [HR.out]; first | rfl | simp, B2.out⟩
        · go_wp2
          go_ret
          exact ⟨by rw [HR.out]; first | rfl | simp, B2.out⟩
set_option maxHeartbeats 4000000 in
set_option maxRecDepth 100000 in
theorem refMay_2 (m : MsgV) (b : Bool) (w : World) (h : headB m = true) (hk : m.kind = 2) : Calls Try.prog 36 #[.agg (msgC m)] w fun e w' => e = .returned (.bool (bodyB m b)) ∧ Below w.heap.size w w' := by
  have HB := hideIt (below1 w (.cells (msgC m) 28))
  have X := hideIt (heap_alloc_new w (.cells (msgC m) 28))
  obtain ⟨kind, frm, dst, term, pi, pt, ea, en, ec, commit, ok, mtch, si, st, text⟩ := m
  simp only [headB, Bool.and_eq_true, Bool.not_eq_true'] at h
  obtain ⟨⟨⟨h1, h2⟩, h3b⟩, h4⟩ := h
  have N1 := hideIt (fun W => refWithin_is frm 1 7 W)
  have N2 := hideIt (fun W => refWithin_is dst 1 7 W)
  have N3 := hideIt (fun W => refWithin_is term 1 1000000 W)
  rw [h1] at N1
  rw [h2] at N2
  rw [h4] at N3
  simp only [msgC] at HB X ⊢
  simp only at hk
  subst hk
  have q3 := fun W => eql23 pi pt 0 0 W
  have q7 := fun W => eql26 si st 0 0 text ⟨#[]⟩ W
  clear h1 h2 h4
  have HR := hideIt (bod2 frm dst term pi pt ea en ec commit ok mtch si st text b)
  generalize bodyB ⟨2, frm, dst, term, pi, pt, ea, en, ec, commit, ok, mtch, si, st, text⟩ b = R at *
  generalize eqS (pi, pt) (0, 0) = b3 at *
  generalize eqE ⟨si, st, text⟩ ⟨0, 0, ⟨#[]⟩⟩ = b7 at *
  go_enter Try.func36, Try.ntmps36
  go_upto_region 1 with fail
  generalize w.alloc (.cells #[.int .i64 2, .int .i64 frm, .int .i64 dst, .int .i64 term, .int .i64 pi, .int .i64 pt, .slice ea en ec, .int .i64 commit, .bool ok, .int .i64 mtch, .int .i64 si, .int .i64 st, .string text] 28) = W1 at *
  obtain ⟨⟨c0, c1, c2, c3, c4, c5, c6, c7, c8, c9, c10, c11, c12⟩, mf, mz⟩ := msg_at (m := ⟨2, frm, dst, term, pi, pt, ea, en, ec, commit, ok, mtch, si, st, text⟩) X.out
  dsimp only at c0 c1 c2 c3 c4 c5 c6 c7 c8 c9 c10 c11 c12
  go_wp2_with fail
  refine (N1.out _).mono ?_
  rintro e w1 ⟨rfl, rfl⟩
  dsimp only
  go_wp2_with fail
  refine (N2.out _).mono ?_
  rintro e w1 ⟨rfl, rfl⟩
  dsimp only
  go_wp2_with fail
  refine (N3.out _).mono ?_
  rintro e w1 ⟨rfl, rfl⟩
  dsimp only
  go_upto_region 12 with fail
  clear N1 N2 N3 q3 q7 h3b
  generalize ((en : Int) == 0) = b4 at *
  generalize (commit == 0) = b5 at *
  generalize (mtch == 0) = b6 at *
  clear c0 c1 c2 c3 c6 c7 c9 c10 c11 c12 c4 c5 c8 mf mz X
  cases b3
  · go_wp2
    go_ret
    exact ⟨by rw [HR.out]; first | rfl | simp, HB.out⟩
  · cases b4
    · go_wp2
      go_ret
      exact ⟨by rw [HR.out]; first | rfl | simp, HB.out⟩
    · cases b5
      · go_wp2
        go_ret
        exact ⟨by rw [HR.out]; first | rfl | simp, HB.out⟩
      · cases b6
        · go_wp2
          go_ret
          exact ⟨by rw [HR.out]; first | rfl | simp, HB.out⟩
        · go_wp2
          go_ret
          exact ⟨by rw [HR.out]; first | rfl | simp, HB.out⟩
set_option maxHeartbeats 4000000 in
set_option maxRecDepth 100000 in
theorem refMay_4 (m : MsgV) (b : Bool) (w : World) (h : headB m = true) (hk : m.kind = 4) : Calls Try.prog 36 #[.agg (msgC m)] w fun e w' => e = .returned (.bool (bodyB m b)) ∧ Below w.heap.size w w' := by
  have HB := hideIt (below1 w (.cells (msgC m) 28))
  have X := hideIt (heap_alloc_new w (.cells (msgC m) 28))
  obtain ⟨kind, frm, dst, term, pi, pt, ea, en, ec, commit, ok, mtch, si, st, text⟩ := m
  simp only [headB, Bool.and_eq_true, Bool.not_eq_true'] at h
  obtain ⟨⟨⟨h1, h2⟩, h3b⟩, h4⟩ := h
  have N1 := hideIt (fun W => refWithin_is frm 1 7 W)
  have N2 := hideIt (fun W => refWithin_is dst 1 7 W)
  have N3 := hideIt (fun W => refWithin_is term 1 1000000 W)
  rw [h1] at N1
  rw [h2] at N2
  rw [h4] at N3
  simp only [msgC] at HB X ⊢
  simp only at hk
  subst hk
  have q3 := fun W => eql23 pi pt 0 0 W
  have q7 := fun W => eql26 si st 0 0 text ⟨#[]⟩ W
  clear h1 h2 h4
  have HM := hideIt (fun W => refWithin_is mtch 0 1000000 W)
  have HR := hideIt (bod4 frm dst term pi pt ea en ec commit ok mtch si st text b)
  generalize bodyB ⟨4, frm, dst, term, pi, pt, ea, en, ec, commit, ok, mtch, si, st, text⟩ b = R at *
  generalize wiB mtch 0 1000000 = wi at *
  generalize eqS (pi, pt) (0, 0) = b3 at *
  generalize eqE ⟨si, st, text⟩ ⟨0, 0, ⟨#[]⟩⟩ = b7 at *
  go_enter Try.func36, Try.ntmps36
  go_upto_region 1 with fail
  generalize w.alloc (.cells #[.int .i64 4, .int .i64 frm, .int .i64 dst, .int .i64 term, .int .i64 pi, .int .i64 pt, .slice ea en ec, .int .i64 commit, .bool ok, .int .i64 mtch, .int .i64 si, .int .i64 st, .string text] 28) = W1 at *
  obtain ⟨⟨c0, c1, c2, c3, c4, c5, c6, c7, c8, c9, c10, c11, c12⟩, mf, mz⟩ := msg_at (m := ⟨4, frm, dst, term, pi, pt, ea, en, ec, commit, ok, mtch, si, st, text⟩) X.out
  dsimp only at c0 c1 c2 c3 c4 c5 c6 c7 c8 c9 c10 c11 c12
  go_wp2_with fail
  refine (N1.out _).mono ?_
  rintro e w1 ⟨rfl, rfl⟩
  dsimp only
  go_wp2_with fail
  refine (N2.out _).mono ?_
  rintro e w1 ⟨rfl, rfl⟩
  dsimp only
  go_wp2_with fail
  refine (N3.out _).mono ?_
  rintro e w1 ⟨rfl, rfl⟩
  dsimp only
  go_upto_region 21 with fail
  clear N1 N2 N3 q3 q7 h3b
  generalize ((en : Int) == 0) = b4 at *
  generalize (commit == 0) = b5 at *
  generalize (mtch == 0) = b6 at *
  clear c0 c1 c2 c3 c6 c7 c10 c11 c12 c4 c5 c8 mf X
  cases b3
  · go_wp2
    go_ret
    exact ⟨by rw [HR.out]; first | rfl | simp, HB.out⟩
  · cases b4
    · go_wp2
      go_ret
      exact ⟨by rw [HR.out]; first | rfl | simp, HB.out⟩
    · cases b5
      · go_wp2
        go_ret
        exact ⟨by rw [HR.out]; first | rfl | simp, HB.out⟩
      · go_wp2_with fail
        refine (HM.out _).mono ?_
        rintro e w2 ⟨rfl, rfl⟩
        dsimp only
        clear HM
        cases wi
        · go_wp2
          go_ret
          exact ⟨by rw [HR.out]; first | rfl | simp, HB.out⟩
        · go_wp2
          go_ret
          exact ⟨by rw [HR.out]; first | rfl | simp, HB.out⟩
end Go.Proofs.Ytagfolckodpioaa.K2
namespace Go.Proofs.Ytagfolckodpioaa.K2
open Go.RowKit Go.Maps Go.Proofs.Ytagfolckodpioaa
set_option linter.all false
theorem bod5 (frm dst term pi pt : Int) (ea : Option Addr) (en ec : Nat) (commit : Int) (ok : Bool) (mtch si st : Int) (text : ByteArray) (b : Bool) : bodyB ⟨5, frm, dst, term, pi, pt, ea, en, ec, commit, ok, mtch, si, st, text⟩ b = (eqS (pi, pt) (0, 0) && (((en : Int) == 0) && ((commit == 0) && (!ok && ((mtch == 0) && (decide (0 < si) && (mkB si st && decide ((text.size : Int) ≤ 50000)))))))) := by
  have e : decide ((text.size : Int) ≤ 50000) = decide (text.size ≤ 50000) := by rw [decide_eq_decide]; omega
  rw [e]
  simp only [bodyB, fOf, eqF, eqE, eqS, snB, if_true, beq_self_eq_true, Bool.true_and, Bool.and_true]
  rw [if_neg (by decide), if_neg (by decide), if_neg (by decide), if_neg (by decide)]
  generalize (pi == 0) = x1
  generalize (pt == 0) = x8
  generalize ((en : Int) == 0) = x2
  generalize (commit == 0) = x3
  generalize (mtch == 0) = x4
  generalize mkB si st = x5
  generalize decide (0 < si) = x6
  generalize decide (text.size ≤ 50000) = x7
  revert x1 x2 x3 x4 x5 x6 x7 x8 ok
  decide
theorem bod3 (frm dst term pi pt : Int) (ea : Option Addr) (en ec : Nat) (commit : Int) (ok : Bool) (mtch si st : Int) (text : ByteArray) (l : List EntV) : bodyB ⟨3, frm, dst, term, pi, pt, ea, en, ec, commit, ok, mtch, si, st, text⟩ (entsB l) = (l.all entB && (mkB pi pt && (decide ((l.length : Int) ≤ 16) && (wiB commit 0 1000000 && (!ok && ((mtch == 0) && eqE ⟨si, st, text⟩ ⟨0, 0, ⟨#[]⟩⟩)))))) := by
  have e : decide ((l.length : Int) ≤ 16) = decide (l.length ≤ 16) := by rw [decide_eq_decide]; omega
  rw [e]
  simp only [bodyB, fOf, eqF, eqE, eqS, entsB, if_true, beq_self_eq_true, Bool.true_and, Bool.and_true]
  rw [if_neg (by decide), if_neg (by decide)]
  generalize mkB pi pt = x1
  generalize l.all entB = x2
  generalize decide (l.length ≤ 16) = x3
  generalize wiB commit 0 1000000 = x8
  generalize (mtch == 0) = x4
  generalize (si == 0) = x5
  generalize (st == 0) = x6
  generalize (text.toList == _) = x7
  revert x1 x2 x3 x4 x5 x6 x7 x8 ok
  decide
set_option maxHeartbeats 8000000 in
set_option maxRecDepth 100000 in
theorem refMay_5 (m : MsgV) (b : Bool) (w : World) (h : headB m = true) (hk : m.kind = 5) : Calls Try.prog 36 #[.agg (msgC m)] w fun e w' => e = .returned (.bool (bodyB m b)) ∧ Below w.heap.size w w' := by
  have HB := hideIt (below1 w (.cells (msgC m) 28))
  have X := hideIt (heap_alloc_new w (.cells (msgC m) 28))
  obtain ⟨kind, frm, dst, term, pi, pt, ea, en, ec, commit, ok, mtch, si, st, text⟩ := m
  simp only [headB, Bool.and_eq_true, Bool.not_eq_true'] at h
  obtain ⟨⟨⟨h1, h2⟩, h3b⟩, h4⟩ := h
  have N1 := hideIt (fun W => refWithin_is frm 1 7 W)
  have N2 := hideIt (fun W => refWithin_is dst 1 7 W)
  have N3 := hideIt (fun W => refWithin_is term 1 1000000 W)
  rw [h1] at N1
  rw [h2] at N2
  rw [h4] at N3
  simp only [msgC] at HB X ⊢
  simp only at hk
  subst hk
  have q3 := fun W => eql23 pi pt 0 0 W
  have q7 := fun W => eql26 si st 0 0 text ⟨#[]⟩ W
  clear h1 h2 h4
  have HM := hideIt (fun W => refMark_is si st W)
  have HR := hideIt (bod5 frm dst term pi pt ea en ec commit ok mtch si st text b)
  generalize bodyB ⟨5, frm, dst, term, pi, pt, ea, en, ec, commit, ok, mtch, si, st, text⟩ b = R at *
  generalize mkB si st = mk at *
  generalize eqS (pi, pt) (0, 0) = b3 at *
  generalize eqE ⟨si, st, text⟩ ⟨0, 0, ⟨#[]⟩⟩ = b7 at *
  go_enter Try.func36, Try.ntmps36
  go_upto_region 1 with fail
  generalize w.alloc (.cells #[.int .i64 5, .int .i64 frm, .int .i64 dst, .int .i64 term, .int .i64 pi, .int .i64 pt, .slice ea (en) ec, .int .i64 commit, .bool ok, .int .i64 mtch, .int .i64 si, .int .i64 st, .string text] 28) = W1 at *
  obtain ⟨⟨c0, c1, c2, c3, c4, c5, c6, c7, c8, c9, c10, c11, c12⟩, mf, mz⟩ := msg_at (m := ⟨5, frm, dst, term, pi, pt, ea, en, ec, commit, ok, mtch, si, st, text⟩) X.out
  dsimp only at c0 c1 c2 c3 c4 c5 c6 c7 c8 c9 c10 c11 c12
  go_wp2_with fail
  refine (N1.out _).mono ?_
  rintro e w1 ⟨rfl, rfl⟩
  dsimp only
  go_wp2_with fail
  refine (N2.out _).mono ?_
  rintro e w1 ⟨rfl, rfl⟩
  dsimp only
  go_wp2_with fail
  refine (N3.out _).mono ?_
  rintro e w1 ⟨rfl, rfl⟩
  dsimp only
  go_upto_region 23 with fail
  clear N1 N2 N3 q3 q7 h3b
  generalize ((en : Int) == 0) = b4 at *
  generalize (commit == 0) = b5 at *
  generalize (mtch == 0) = b6 at *
  clear c0 c1 c2 c3 c6 c7 c9 c4 c5 mf X
  cases b3
  · go_wp2
    go_ret
    exact ⟨by rw [HR.out]; first | rfl | simp, HB.out⟩
  · cases b4
    · go_wp2
      go_ret
      exact ⟨by rw [HR.out]; first | rfl | simp, HB.out⟩
    · cases b5
      · go_wp2
        go_ret
        exact ⟨by rw [HR.out]; first | rfl | simp, HB.out⟩
      · cases ok
        · cases b6
          · go_wp2
            go_ret
            exact ⟨by rw [HR.out]; first | rfl | simp, HB.out⟩
          · by_cases hs : 0 < si
            · have hsd : decide (0 < si) = true := decide_eq_true hs
              rw [hsd] at HR
              go_wp2_with fail
              refine (HM.out _).mono ?_
              rintro e w2 ⟨rfl, hb⟩
              dsimp only
              have c12' := (hb.cell (p := ⟨w.heap.size, 12, none⟩) mz).trans c12
              have B2 := hideIt (below_via HB.out hb)
              clear hb HM c8 mz HB c10 c11 c12
              cases mk
              · go_wp2
                go_ret
                exact ⟨by rw [HR.out]; first | rfl | simp, B2.out⟩
              · go_wp2
                go_ret
                exact ⟨by rw [HR.out]; simp, B2.out⟩
            · have hsd : decide (0 < si) = false := decide_eq_false hs
              rw [hsd] at HR
              go_wp2
              go_ret
              exact ⟨by rw [HR.out]; first | rfl | simp, HB.out⟩
        · go_wp2
          go_ret
          exact ⟨by rw [HR.out]; first | rfl | simp, HB.out⟩
set_option maxHeartbeats 8000000 in
set_option maxRecDepth 100000 in
theorem refMay_3 (m : MsgV) (l : List EntV) (w : World) (h : headB m = true) (hl : EntsAt w m.ea l) (hn : m.en = l.length) (hx : l.length ≤ 9223372036854775807) (hk : m.kind = 3) : Calls Try.prog 36 #[.agg (msgC m)] w fun e w' => e = .returned (.bool (bodyB m (entsB l))) ∧ Below w.heap.size w w' := by
  have HB := hideIt (below1 w (.cells (msgC m) 28))
  have X := hideIt (heap_alloc_new w (.cells (msgC m) 28))
  obtain ⟨kind, frm, dst, term, pi, pt, ea, en, ec, commit, ok, mtch, si, st, text⟩ := m
  simp only [headB, Bool.and_eq_true, Bool.not_eq_true'] at h
  obtain ⟨⟨⟨h1, h2⟩, h3b⟩, h4⟩ := h
  have N1 := hideIt (fun W => refWithin_is frm 1 7 W)
  have N2 := hideIt (fun W => refWithin_is dst 1 7 W)
  have N3 := hideIt (fun W => refWithin_is term 1 1000000 W)
  rw [h1] at N1
  rw [h2] at N2
  rw [h4] at N3
  simp only [msgC] at HB X ⊢
  simp only at hk
  subst hk
  have q3 := fun W => eql23 pi pt 0 0 W
  have q7 := fun W => eql26 si st 0 0 text ⟨#[]⟩ W
  clear h1 h2 h4
  simp only at hl hn
  subst hn
  have HM := hideIt (fun W => refMark_is pi pt W)
  have HW := hideIt (fun W => refWithin_is commit 0 1000000 W)
  have HR := hideIt (bod3 frm dst term pi pt ea l.length ec commit ok mtch si st text l)
  have HL := hideIt (hl.below HB.out (Nat.le_refl _))
  have HAT := hideIt (all_take_succ l)
  have HAZ : Hid ((l.take 0).all entB = true) := rfl
  have HAE : Hid ((l.take l.length).all entB = l.all entB) := by show _ = _; rw [List.take_length]
  have HAX : Hid (∀ x ∈ l, entB x = false → l.all entB = false) := fun x hx hf => List.all_eq_false.2 ⟨x, hx, by simp [hf]⟩
  have HEN := hideIt (fun (x : EntV) W => refEntry_is x W)
  generalize bodyB ⟨3, frm, dst, term, pi, pt, ea, l.length, ec, commit, ok, mtch, si, st, text⟩ (entsB l) = R at *
  generalize mkB pi pt = mk at *
  generalize wiB commit 0 1000000 = wi at *
  clear hl
  generalize eqS (pi, pt) (0, 0) = b3 at *
  generalize eqE ⟨si, st, text⟩ ⟨0, 0, ⟨#[]⟩⟩ = b7 at *
  go_enter Try.func36, Try.ntmps36
  go_upto_region 1 with fail
  generalize w.alloc (.cells #[.int .i64 3, .int .i64 frm, .int .i64 dst, .int .i64 term, .int .i64 pi, .int .i64 pt, .slice ea (l.length) ec, .int .i64 commit, .bool ok, .int .i64 mtch, .int .i64 si, .int .i64 st, .string text] 28) = W1 at *
  obtain ⟨⟨c0, c1, c2, c3, c4, c5, c6, c7, c8, c9, c10, c11, c12⟩, mf, mz⟩ := msg_at (m := ⟨3, frm, dst, term, pi, pt, ea, l.length, ec, commit, ok, mtch, si, st, text⟩) X.out
  dsimp only at c0 c1 c2 c3 c4 c5 c6 c7 c8 c9 c10 c11 c12
  go_wp2_with fail
  refine (N1.out _).mono ?_
  rintro e w1 ⟨rfl, rfl⟩
  dsimp only
  go_wp2_with fail
  refine (N2.out _).mono ?_
  rintro e w1 ⟨rfl, rfl⟩
  dsimp only
  go_wp2_with fail
  refine (N3.out _).mono ?_
  rintro e w1 ⟨rfl, rfl⟩
  dsimp only
  go_upto_region 15 with fail
  clear N1 N2 N3 q3 q7 h3b
  generalize ((l.length : Int) == 0) = b4 at *
  generalize (commit == 0) = b5 at *
  generalize (mtch == 0) = b6 at *
  clear c0 c1 c2 c3 c9 c10 c11 c12 mf
  generalize hkx : w.heap.size = kx at *
  have HKX := hideIt hkx
  clear hkx
  go_loopw [8] (fun u wr => ∃ t : Nat, u = .int .i64 t ∧ t ≤ l.length ∧ Hid (Below w1.heap.size w1 wr ∧ (l.take t).all entB = true)) (fun u _ => l.length - (RowKit.intOf u).toNat)
  case atStart => exact ⟨0, rfl, Nat.zero_le _, ⟨Below.refl _ _, HAZ.out⟩⟩
  case round =>
    obtain ⟨t, rfl, ht, HT⟩ := hrel
    have d4 := (HT.out.1.cell (p := ⟨kx, 4, none⟩) mz).trans c4
    have d5 := (HT.out.1.cell (p := ⟨kx, 5, none⟩) mz).trans c5
    have d6 := (HT.out.1.cell (p := ⟨kx, 6, none⟩) mz).trans c6
    have d7 := (HT.out.1.cell (p := ⟨kx, 7, none⟩) mz).trans c7
    have d8 := (HT.out.1.cell (p := ⟨kx, 8, none⟩) mz).trans c8
    by_cases hlt : t < l.length
    · have hltI : (t : Int) < (l.length : Int) := by omega
      have ht0 : (0 : Int) ≤ (t : Int) := by omega
      have hw : IntKind.i64.wrap ((t : Int) + 1) = ((t + 1 : Nat) : Int) := by rw [IntKind.wrap_i64]; omega
      obtain ⟨g, off, hea, hgl, q0, q1, q2⟩ := (HL.out.below HT.out.1 (Nat.le_refl _)) t hlt
      have hst := hideIt (HAT.out t hlt)
      have hmem := hideIt (HAX.out _ (List.getElem_mem hlt))
      have HE := hideIt (fun W => HEN.out l[t] W)
      generalize l[t] = y at *
      obtain ⟨y1, y2, y3⟩ := y
      dsimp only at q0 q1 q2 HE
      cases he : entB ⟨y1, y2, y3⟩
      · rw [he] at HE
        have hall := hideIt (hmem.out he)
        clear he hst hmem
        subst hea
        go_wp2_with fail
        refine (HE.out _).mono ?_
        rintro e w2 ⟨rfl, hb⟩
        dsimp only
        have B2 : Hid (Below w.heap.size w w2) := by
          have h1 := HB.out
          rw [← HKX.out] at h1
          exact below_via (below_via h1 HT.out.1) hb
        clear hb HT HL HEN HAT HAX HAZ HAE HE d4 d5 d6 d7 d8 c4 c5 c6 c7 c8 HB HM HW
        rw [hall.out] at HR
        go_wp2
        go_ret
        exact ⟨by rw [HR.out]; rfl, B2.out⟩
      · rw [he] at HE
        have hst2 := hst.out
        rw [he, HT.out.2] at hst2
        have HS2 := hideIt hst2
        clear he hst hmem hst2
        subst hea
        go_wp2_with fail
        refine (HE.out _).mono ?_
        rintro e w2 ⟨rfl, hb⟩
        dsimp only
        have B2 := hideIt (below_via HT.out.1 hb)
        clear hb HL HEN HAT HAX HAZ HAE HE d4 d5 d6 d7 d8
        go_wp2
        go_roundw
        case rel => exact ⟨t + 1, by go_num, by omega, ⟨B2.out, HS2.out⟩⟩
        case measure => simp [RowKit.intOf]; omega
    · have hltI : ¬ (t : Int) < (l.length : Int) := by omega
      have het : t = l.length := by omega
      subst het
      have hall := HT.out.2
      rw [HAE.out] at hall
      rw [hall] at HR
      have B1 : Hid (Below w.heap.size w wr) := by
        have h1 := HB.out
        rw [← HKX.out] at h1
        exact below_via h1 HT.out.1
      have mz2 : kx < wr.heap.size := Nat.lt_of_lt_of_le mz HT.out.1.size
      clear HT HL HEN HAT HAX HAZ HAE hall c4 c5 c6 c7 c8 mz
      go_wp2_with fail
      refine (HM.out _).mono ?_
      rintro e w2 ⟨rfl, hb⟩
      dsimp only
      have e6 := (hb.cell (p := ⟨kx, 6, none⟩) mz2).trans d6
      have e7 := (hb.cell (p := ⟨kx, 7, none⟩) mz2).trans d7
      have e8 := (hb.cell (p := ⟨kx, 8, none⟩) mz2).trans d8
      have B2 := hideIt (below_via B1.out hb)
      clear hb HM d4 d5 d6 d7 d8 mz2 B1
      cases mk
      · go_wp2
        go_ret
        exact ⟨by rw [HR.out]; first | rfl | simp, B2.out⟩
      · by_cases h16 : (l.length : Int) ≤ 16
        · have hd : decide ((l.length : Int) ≤ 16) = true := decide_eq_true h16
          rw [hd] at HR
          go_wp2_with fail
          refine (HW.out _).mono ?_
          rintro e w3 ⟨rfl, rfl⟩
          dsimp only
          clear HW
          cases wi
          · go_wp2
            go_ret
            exact ⟨by rw [HR.out]; first | rfl | simp, B2.out⟩
          · cases ok
            · cases b6
              · go_wp2
                go_ret
                exact ⟨by rw [HR.out]; first | rfl | simp, B2.out⟩
              · go_wp2
                go_ret
                exact ⟨by rw [HR.out]; first | rfl | simp, B2.out⟩
            · go_wp2
              go_ret
              exact ⟨by rw [HR.out]; first | rfl | simp, B2.out⟩
        · have hd : decide ((l.length : Int) ≤ 16) = false := decide_eq_false h16
          rw [hd] at HR
          go_wp2
          go_ret
          exact ⟨by rw [HR.out]; first | rfl | simp, B2.out⟩
set_option maxHeartbeats 8000000 in
set_option maxRecDepth 100000 in
theorem refMay_o (m : MsgV) (b : Bool) (w : World) (h : headB m = true) (k1 : m.kind ≠ 1) (k2 : m.kind ≠ 2) (k3 : m.kind ≠ 3) (k4 : m.kind ≠ 4) (k5 : m.kind ≠ 5) : Calls Try.prog 36 #[.agg (msgC m)] w fun e w' => e = .returned (.bool (bodyB m b)) ∧ Below w.heap.size w w' := by
  have HR : Hid (bodyB m b = false) := by
    show _ = _
    unfold bodyB
    rw [if_neg k1, if_neg k2, if_neg k3, if_neg k4, if_neg k5]
  generalize bodyB m b = R at *
  obtain ⟨x, hk⟩ : ∃ x, m.kind = x := ⟨_, rfl⟩
  rw [hk] at k1 k2 k3 k4 k5
  have k1 : (x == 1) = false := by simpa using k1
  have k2 : (x == 2) = false := by simpa using k2
  have k3 : (x == 3) = false := by simpa using k3
  have k4 : (x == 4) = false := by simpa using k4
  have k5 : (x == 5) = false := by simpa using k5
  have HB := hideIt (below1 w (.cells (msgC m) 28))
  have X := hideIt (heap_alloc_new w (.cells (msgC m) 28))
  obtain ⟨kind, frm, dst, term, pi, pt, ea, en, ec, commit, ok, mtch, si, st, text⟩ := m
  simp only [headB, Bool.and_eq_true, Bool.not_eq_true'] at h
  obtain ⟨⟨⟨h1, h2⟩, h3b⟩, h4⟩ := h
  have N1 := hideIt (fun W => refWithin_is frm 1 7 W)
  have N2 := hideIt (fun W => refWithin_is dst 1 7 W)
  have N3 := hideIt (fun W => refWithin_is term 1 1000000 W)
  rw [h1] at N1
  rw [h2] at N2
  rw [h4] at N3
  simp only [msgC] at HB X ⊢
  simp only at hk
  subst hk
  have q3 := fun W => eql23 pi pt 0 0 W
  have q7 := fun W => eql26 si st 0 0 text ⟨#[]⟩ W
  clear h1 h2 h4
  generalize kind = x at *
  generalize eqS (pi, pt) (0, 0) = b3 at *
  generalize eqE ⟨si, st, text⟩ ⟨0, 0, ⟨#[]⟩⟩ = b7 at *
  go_enter Try.func36, Try.ntmps36
  go_upto_region 1 with fail
  generalize w.alloc (.cells #[.int .i64 x, .int .i64 frm, .int .i64 dst, .int .i64 term, .int .i64 pi, .int .i64 pt, .slice ea (en) ec, .int .i64 commit, .bool ok, .int .i64 mtch, .int .i64 si, .int .i64 st, .string text] 28) = W1 at *
  obtain ⟨⟨c0, c1, c2, c3, c4, c5, c6, c7, c8, c9, c10, c11, c12⟩, mf, mz⟩ := msg_at (m := ⟨x, frm, dst, term, pi, pt, ea, en, ec, commit, ok, mtch, si, st, text⟩) X.out
  dsimp only at c0 c1 c2 c3 c4 c5 c6 c7 c8 c9 c10 c11 c12
  go_wp2_with fail
  refine (N1.out _).mono ?_
  rintro e w1 ⟨rfl, rfl⟩
  dsimp only
  go_wp2_with fail
  refine (N2.out _).mono ?_
  rintro e w1 ⟨rfl, rfl⟩
  dsimp only
  go_wp2_with fail
  refine (N3.out _).mono ?_
  rintro e w1 ⟨rfl, rfl⟩
  dsimp only
  go_upto_region 9 with fail
  clear N1 N2 N3 q3 q7 h3b
  generalize ((en : Int) == 0) = b4 at *
  generalize (commit == 0) = b5 at *
  generalize (mtch == 0) = b6 at *
  clear c0 c1 c2 c3 c6 c7 c9 c10 c11 c12 c4 c5 c8 mf mz X
  go_wp2
  go_ret
  exact ⟨by rw [HR.out]; first | rfl | simp, HB.out⟩
theorem refMay_is (m : MsgV) (l : List EntV) (w : World) (hl : EntsAt w m.ea l) (hn : m.en = l.length) (hx : l.length ≤ 9223372036854775807) : Calls Try.prog 36 #[.agg (msgC m)] w fun e w' => e = .returned (.bool (mayB m l)) ∧ Below w.heap.size w w' := by
  unfold mayB
  cases h : headB m
  · exact refMay_head m w h
  · rw [Bool.true_and]
    by_cases k1 : m.kind = 1
    · exact refMay_1 m _ w h k1
    · by_cases k2 : m.kind = 2
      · exact refMay_2 m _ w h k2
      · by_cases k3 : m.kind = 3
        · exact refMay_3 m l w h hl hn hx k3
        · by_cases k4 : m.kind = 4
          · exact refMay_4 m _ w h k4
          · by_cases k5 : m.kind = 5
            · exact refMay_5 m _ w h k5
            · exact refMay_o m _ w h k1 k2 k3 k4 k5
end Go.Proofs.Ytagfolckodpioaa.K2
namespace Go.Proofs.Ytagfolckodpioaa.K2
open Go.RowKit Go.Maps Go.Proofs.Ytagfolckodpioaa
set_option linter.all false
theorem frm_ok {l : List UInt8} (h : l.length ≤ 70000) : frmL l = frameL l ∧ frmE l = 0 := by
  unfold frmL frmE
  rw [if_pos h, if_pos h]
  exact ⟨rfl, rfl⟩
theorem nums_at (l : List Int) (n : Nat) (hn : n = l.length) (h4 : n ≤ 4) (hok : ∀ x ∈ l, okI x) (X : World) (g : Nat) (cs : Array Value) (hcs : cs.toList = l.map (fun x => Value.int .i64 x)) (W : World) (hg : W.heap[g]? = some (.cells cs 3 (0, 0))) (hb : Below X.heap.size X W) : Calls Try.prog 37 #[.slice (some ⟨g, 0, none⟩) n n] W fun e w' => e = .returned (.string ⟨(numsL l).toArray⟩) ∧ Below X.heap.size X w' := by
  subst hn
  refine (numbers_any g l W h4 hok ⟨cs, hg, hcs⟩).mono ?_
  rintro e w' ⟨rfl, hb'⟩
  exact ⟨rfl, below_via hb hb'⟩
set_option maxHeartbeats 8000000 in
set_option maxRecDepth 100000 in
theorem rEnc_1 (m : MsgV) (l : List EntV) (w : World) (hl : EntsAt w m.ea l) (hn : m.en = l.length) (hx : l.length ≤ 9223372036854775807) (hmay : mayB m l = true) (hk : m.kind = 1) : Calls Try.prog 10 #[.agg (msgC m)] w fun e w' => e = .returned (.tuple #[.string ⟨(frameL (bodyL m l)).toArray⟩, .int .i64 0]) ∧ Below w.heap.size w w' := by
  have HB := hideIt (below1 w (.cells (msgC m) 28))
  have X := hideIt (heap_alloc_new w (.cells (msgC m) 28))
  have HMY := hideIt (refMay_is m l _ (hl.below HB.out (Nat.le_refl _)) hn hx)
  rw [hmay] at HMY
  obtain ⟨hok, hlen⟩ := mayB_ok m l hn hmay
  have HBL := hideIt hlen
  have HEN := hideIt (hl.below HB.out (Nat.le_refl _))
  obtain ⟨kind, frm, dst, term, pi, pt, ea, en, ec, commit, ok, mtch, si, st, text⟩ := m
  obtain ⟨k1, k2, k3, k4, k5, k6, k7, k8, k9, k10, k11, k12, k13⟩ := hok
  simp only at k1 k2 k3 k4 k5 k6 k7 k8 k9 k10 k11 k12 k13 hk hl hn
  subst hk
  subst hn
  have HN4 := hideIt (fun X g W => nums_at [1, frm, dst, term] 4 rfl (by omega) (by simp; exact ⟨k1, k2, k3, k4⟩) X g #[.int .i64 1, .int .i64 frm, .int .i64 dst, .int .i64 term] rfl W)
  have hDl := numsL_len [1, frm, dst, term]
  have HD : Hid (numsL [1, frm, dst, term] = headL ⟨1, frm, dst, term, pi, pt, ea, l.length, ec, commit, ok, mtch, si, st, text⟩) := by
    show _ = _
    simp [numsL, headL]
  simp only [List.length_cons, List.length_nil] at hDl
  generalize hR : bodyL ⟨1, frm, dst, term, pi, pt, ea, l.length, ec, commit, ok, mtch, si, st, text⟩ l = R at *
  have HR := hideIt hR
  clear hR hl hx hmay
  have HN2 := hideIt (fun X g W => nums_at [pi, pt] 2 rfl (by omega) (by simp; exact ⟨k5, k6⟩) X g #[.int .i64 pi, .int .i64 pt] rfl W)
  have hNl := numsL_len [pi, pt]
  have HRD : Hid (numsL [1, frm, dst, term] ++ numsL [pi, pt] = R) := by
    show _ = _
    rw [← HR.out, HD.out]
    simp [bodyL, numsL]
  simp only [List.length_cons, List.length_nil] at hNl
  generalize numsL [pi, pt] = E at *
  clear HD HR
  generalize numsL [1, frm, dst, term] = D at *
  simp only [msgC] at HB X HMY HEN ⊢
  go_enter Try.func10, Try.ntmps10
  go_upto_region 1 with fail
  generalize w.alloc (.cells #[.int .i64 1, .int .i64 frm, .int .i64 dst, .int .i64 term, .int .i64 pi, .int .i64 pt, .slice ea l.length ec, .int .i64 commit, .bool ok, .int .i64 mtch, .int .i64 si, .int .i64 st, .string text] 28) = W1 at *
  obtain ⟨⟨c0, c1, c2, c3, c4, c5, c6, c7, c8, c9, c10, c11, c12⟩, mf, mz⟩ := msg_at (m := ⟨1, frm, dst, term, pi, pt, ea, l.length, ec, commit, ok, mtch, si, st, text⟩) X.out
  dsimp only at c0 c1 c2 c3 c4 c5 c6 c7 c8 c9 c10 c11 c12
  go_wp2_with fail
  refine HMY.out.mono ?_
  rintro e w2 ⟨rfl, hb⟩
  dsimp only
  have X2 := hideIt (blkK X.out hb)
  have EN2 := hideIt (HEN.out.below hb (Nat.le_refl _))
  have B2 := hideIt (below_via HB.out hb)
  clear c0 c1 c2 c3 c4 c5 c6 c7 c8 c9 c10 c11 c12 mf mz hb X HB HMY HEN
  obtain ⟨⟨c0, c1, c2, c3, c4, c5, c6, c7, c8, c9, c10, c11, c12⟩, mf, mz⟩ := msg_at (m := ⟨1, frm, dst, term, pi, pt, ea, l.length, ec, commit, ok, mtch, si, st, text⟩) X2.out
  dsimp only at c0 c1 c2 c3 c4 c5 c6 c7 c8 c9 c10 c11 c12
  go_wp2_with fail
  refine (HN4.out w2 _ _ (heap_alloc_new _ _) (below1 _ _)).mono ?_
  rintro e w3 ⟨rfl, hb⟩
  dsimp only
  have X3 := hideIt (blkK X2.out hb)
  have EN3 := hideIt (EN2.out.below hb (Nat.le_refl _))
  have B3 := hideIt (below_via B2.out hb)
  clear c0 c1 c2 c3 c4 c5 c6 c7 c8 c9 c10 c11 c12 mf mz hb X2 B2 EN2 HN4
  obtain ⟨⟨c0, c1, c2, c3, c4, c5, c6, c7, c8, c9, c10, c11, c12⟩, mf, mz⟩ := msg_at (m := ⟨1, frm, dst, term, pi, pt, ea, l.length, ec, commit, ok, mtch, si, st, text⟩) X3.out
  dsimp only at c0 c1 c2 c3 c4 c5 c6 c7 c8 c9 c10 c11 c12
  go_wp2_with fail
  refine (HN2.out w3 _ _ (heap_alloc_new _ _) (below1 _ _)).mono ?_
  rintro e w4 ⟨rfl, hb⟩
  dsimp only
  have B4 := hideIt (below_via B3.out hb)
  have hcat : ¬ 9223372036854775807 < D.length + E.length := by omega
  have HFR := hideIt (fun W => refFrame_any ((⟨D.toArray⟩ : ByteArray) ++ ⟨E.toArray⟩) W)
  have hs : ((⟨D.toArray⟩ : ByteArray) ++ ⟨E.toArray⟩).data.toList = R := by rw [cat_two]; simpa using HRD.out
  rw [hs, (frm_ok HBL.out).1, (frm_ok HBL.out).2] at HFR
  clear c0 c1 c2 c3 c4 c5 c6 c7 c8 c9 c10 c11 c12 mf mz hb X3 B3 EN3 HN2 hs
  go_wp2_with fail
  refine (HFR.out _).mono ?_
  rintro e wz ⟨rfl, hb⟩
  dsimp only
  have BZ := hideIt (below_via B4.out hb)
  clear hb HFR
  go_wp2
  go_ret2
  exact ⟨rfl, BZ.out⟩
end Go.Proofs.Ytagfolckodpioaa.K2
namespace Go.Proofs.Ytagfolckodpioaa.K2
open Go.RowKit Go.Maps Go.Proofs.Ytagfolckodpioaa
set_option linter.all false
theorem uI_nat (n : Nat) : uI (n : Int) = uintL n := by unfold uI; rw [Int.toNat_natCast]
theorem truN_ok (b : Bool) : okI (truN b : Nat) := by cases b <;> simp [truN, okI]
set_option maxHeartbeats 8000000 in
set_option maxRecDepth 100000 in
theorem rEnc_2 (m : MsgV) (l : List EntV) (w : World) (hl : EntsAt w m.ea l) (hn : m.en = l.length) (hx : l.length ≤ 9223372036854775807) (hmay : mayB m l = true) (hk : m.kind = 2) : Calls Try.prog 10 #[.agg (msgC m)] w fun e w' => e = .returned (.tuple #[.string ⟨(frameL (bodyL m l)).toArray⟩, .int .i64 0]) ∧ Below w.heap.size w w' := by
  have HB := hideIt (below1 w (.cells (msgC m) 28))
  have X := hideIt (heap_alloc_new w (.cells (msgC m) 28))
  have HMY := hideIt (refMay_is m l _ (hl.below HB.out (Nat.le_refl _)) hn hx)
  rw [hmay] at HMY
  obtain ⟨hok, hlen⟩ := mayB_ok m l hn hmay
  have HBL := hideIt hlen
  have HEN := hideIt (hl.below HB.out (Nat.le_refl _))
  obtain ⟨kind, frm, dst, term, pi, pt, ea, en, ec, commit, ok, mtch, si, st, text⟩ := m
  obtain ⟨k1, k2, k3, k4, k5, k6, k7, k8, k9, k10, k11, k12, k13⟩ := hok
  simp only at k1 k2 k3 k4 k5 k6 k7 k8 k9 k10 k11 k12 k13 hk hl hn
  subst hk
  subst hn
  have HN4 := hideIt (fun X g W => nums_at [2, frm, dst, term] 4 rfl (by omega) (by simp; exact ⟨k1, k2, k3, k4⟩) X g #[.int .i64 2, .int .i64 frm, .int .i64 dst, .int .i64 term] rfl W)
  have hDl := numsL_len [2, frm, dst, term]
  have HD : Hid (numsL [2, frm, dst, term] = headL ⟨2, frm, dst, term, pi, pt, ea, l.length, ec, commit, ok, mtch, si, st, text⟩) := by
    show _ = _
    simp [numsL, headL]
  simp only [List.length_cons, List.length_nil] at hDl
  generalize hR : bodyL ⟨2, frm, dst, term, pi, pt, ea, l.length, ec, commit, ok, mtch, si, st, text⟩ l = R at *
  have HR := hideIt hR
  clear hR hl hx hmay
  have HT := hideIt (fun W => truth_is ok W)
  have HN2 := hideIt (fun X g W => nums_at [((truN ok : Nat) : Int)] 1 rfl (by omega) (by simpa using truN_ok ok) X g #[.int .i64 (truN ok : Nat)] rfl W)
  have hNl := numsL_len [((truN ok : Nat) : Int)]
  have HRD : Hid (numsL [2, frm, dst, term] ++ numsL [((truN ok : Nat) : Int)] = R) := by
    show _ = _
    rw [← HR.out, HD.out]
    simp [bodyL, numsL, uI_nat, flag_tru]
  simp only [List.length_cons, List.length_nil] at hNl
  generalize numsL [((truN ok : Nat) : Int)] = E at *
  generalize ((truN ok : Nat) : Int) = tr at *
  clear HD HR
  generalize numsL [2, frm, dst, term] = D at *
  simp only [msgC] at HB X HMY HEN ⊢
  go_enter Try.func10, Try.ntmps10
  go_upto_region 1 with fail
  generalize w.alloc (.cells #[.int .i64 2, .int .i64 frm, .int .i64 dst, .int .i64 term, .int .i64 pi, .int .i64 pt, .slice ea l.length ec, .int .i64 commit, .bool ok, .int .i64 mtch, .int .i64 si, .int .i64 st, .string text] 28) = W1 at *
  obtain ⟨⟨c0, c1, c2, c3, c4, c5, c6, c7, c8, c9, c10, c11, c12⟩, mf, mz⟩ := msg_at (m := ⟨2, frm, dst, term, pi, pt, ea, l.length, ec, commit, ok, mtch, si, st, text⟩) X.out
  dsimp only at c0 c1 c2 c3 c4 c5 c6 c7 c8 c9 c10 c11 c12
  go_wp2_with fail
  refine HMY.out.mono ?_
  rintro e w2 ⟨rfl, hb⟩
  dsimp only
  have X2 := hideIt (blkK X.out hb)
  have EN2 := hideIt (HEN.out.below hb (Nat.le_refl _))
  have B2 := hideIt (below_via HB.out hb)
  clear c0 c1 c2 c3 c4 c5 c6 c7 c8 c9 c10 c11 c12 mf mz hb X HB HMY HEN
  obtain ⟨⟨c0, c1, c2, c3, c4, c5, c6, c7, c8, c9, c10, c11, c12⟩, mf, mz⟩ := msg_at (m := ⟨2, frm, dst, term, pi, pt, ea, l.length, ec, commit, ok, mtch, si, st, text⟩) X2.out
  dsimp only at c0 c1 c2 c3 c4 c5 c6 c7 c8 c9 c10 c11 c12
  go_wp2_with fail
  refine (HN4.out w2 _ _ (heap_alloc_new _ _) (below1 _ _)).mono ?_
  rintro e w3 ⟨rfl, hb⟩
  dsimp only
  have X3 := hideIt (blkK X2.out hb)
  have EN3 := hideIt (EN2.out.below hb (Nat.le_refl _))
  have B3 := hideIt (below_via B2.out hb)
  clear c0 c1 c2 c3 c4 c5 c6 c7 c8 c9 c10 c11 c12 mf mz hb X2 B2 EN2 HN4
  obtain ⟨⟨c0, c1, c2, c3, c4, c5, c6, c7, c8, c9, c10, c11, c12⟩, mf, mz⟩ := msg_at (m := ⟨2, frm, dst, term, pi, pt, ea, l.length, ec, commit, ok, mtch, si, st, text⟩) X3.out
  dsimp only at c0 c1 c2 c3 c4 c5 c6 c7 c8 c9 c10 c11 c12
  go_wp2_with fail
  refine (HT.out _).mono ?_
  rintro e w5 ⟨rfl, rfl⟩
  dsimp only
  go_wp2_with fail
  refine (HN2.out w5 _ _ (heap_alloc_new _ _) (below1 _ _)).mono ?_
  rintro e w4 ⟨rfl, hb⟩
  dsimp only
  have B4 := hideIt (below_via B3.out hb)
  have hcat : ¬ 9223372036854775807 < D.length + E.length := by omega
  have HFR := hideIt (fun W => refFrame_any ((⟨D.toArray⟩ : ByteArray) ++ ⟨E.toArray⟩) W)
  have hs : ((⟨D.toArray⟩ : ByteArray) ++ ⟨E.toArray⟩).data.toList = R := by rw [cat_two]; simpa using HRD.out
  rw [hs, (frm_ok HBL.out).1, (frm_ok HBL.out).2] at HFR
  clear c0 c1 c2 c3 c4 c5 c6 c7 c8 c9 c10 c11 c12 mf mz hb X3 B3 EN3 HN2 hs
  go_wp2_with fail
  refine (HFR.out _).mono ?_
  rintro e wz ⟨rfl, hb⟩
  dsimp only
  have BZ := hideIt (below_via B4.out hb)
  clear hb HFR
  go_wp2
  go_ret2
  exact ⟨rfl, BZ.out⟩
set_option maxHeartbeats 8000000 in
set_option maxRecDepth 100000 in
theorem rEnc_4 (m : MsgV) (l : List EntV) (w : World) (hl : EntsAt w m.ea l) (hn : m.en = l.length) (hx : l.length ≤ 9223372036854775807) (hmay : mayB m l = true) (hk : m.kind = 4) : Calls Try.prog 10 #[.agg (msgC m)] w fun e w' => e = .returned (.tuple #[.string ⟨(frameL (bodyL m l)).toArray⟩, .int .i64 0]) ∧ Below w.heap.size w w' := by
  have HB := hideIt (below1 w (.cells (msgC m) 28))
  have X := hideIt (heap_alloc_new w (.cells (msgC m) 28))
  have HMY := hideIt (refMay_is m l _ (hl.below HB.out (Nat.le_refl _)) hn hx)
  rw [hmay] at HMY
  obtain ⟨hok, hlen⟩ := mayB_ok m l hn hmay
  have HBL := hideIt hlen
  have HEN := hideIt (hl.below HB.out (Nat.le_refl _))
  obtain ⟨kind, frm, dst, term, pi, pt, ea, en, ec, commit, ok, mtch, si, st, text⟩ := m
  obtain ⟨k1, k2, k3, k4, k5, k6, k7, k8, k9, k10, k11, k12, k13⟩ := hok
  simp only at k1 k2 k3 k4 k5 k6 k7 k8 k9 k10 k11 k12 k13 hk hl hn
  subst hk
  subst hn
  have HN4 := hideIt (fun X g W => nums_at [4, frm, dst, term] 4 rfl (by omega) (by simp; exact ⟨k1, k2, k3, k4⟩) X g #[.int .i64 4, .int .i64 frm, .int .i64 dst, .int .i64 term] rfl W)
  have hDl := numsL_len [4, frm, dst, term]
  have HD : Hid (numsL [4, frm, dst, term] = headL ⟨4, frm, dst, term, pi, pt, ea, l.length, ec, commit, ok, mtch, si, st, text⟩) := by
    show _ = _
    simp [numsL, headL]
  simp only [List.length_cons, List.length_nil] at hDl
  generalize hR : bodyL ⟨4, frm, dst, term, pi, pt, ea, l.length, ec, commit, ok, mtch, si, st, text⟩ l = R at *
  have HR := hideIt hR
  clear hR hl hx hmay
  have HT := hideIt (fun W => truth_is ok W)
  have HN2 := hideIt (fun X g W => nums_at [((truN ok : Nat) : Int), mtch] 2 rfl (by omega) (by simp; exact ⟨truN_ok ok, k8⟩) X g #[.int .i64 (truN ok : Nat), .int .i64 mtch] rfl W)
  have hNl := numsL_len [((truN ok : Nat) : Int), mtch]
  have HRD : Hid (numsL [4, frm, dst, term] ++ numsL [((truN ok : Nat) : Int), mtch] = R) := by
    show _ = _
    rw [← HR.out, HD.out]
    simp [bodyL, numsL, uI_nat, flag_tru]
  simp only [List.length_cons, List.length_nil] at hNl
  generalize numsL [((truN ok : Nat) : Int), mtch] = E at *
  generalize ((truN ok : Nat) : Int) = tr at *
  clear HD HR
  generalize numsL [4, frm, dst, term] = D at *
  simp only [msgC] at HB X HMY HEN ⊢
  go_enter Try.func10, Try.ntmps10
  go_upto_region 1 with fail
  generalize w.alloc (.cells #[.int .i64 4, .int .i64 frm, .int .i64 dst, .int .i64 term, .int .i64 pi, .int .i64 pt, .slice ea l.length ec, .int .i64 commit, .bool ok, .int .i64 mtch, .int .i64 si, .int .i64 st, .string text] 28) = W1 at *
  obtain ⟨⟨c0, c1, c2, c3, c4, c5, c6, c7, c8, c9, c10, c11, c12⟩, mf, mz⟩ := msg_at (m := ⟨4, frm, dst, term, pi, pt, ea, l.length, ec, commit, ok, mtch, si, st, text⟩) X.out
  dsimp only at c0 c1 c2 c3 c4 c5 c6 c7 c8 c9 c10 c11 c12
  go_wp2_with fail
  refine HMY.out.mono ?_
  rintro e w2 ⟨rfl, hb⟩
  dsimp only
  have X2 := hideIt (blkK X.out hb)
  have EN2 := hideIt (HEN.out.below hb (Nat.le_refl _))
  have B2 := hideIt (below_via HB.out hb)
  clear c0 c1 c2 c3 c4 c5 c6 c7 c8 c9 c10 c11 c12 mf mz hb X HB HMY HEN
  obtain ⟨⟨c0, c1, c2, c3, c4, c5, c6, c7, c8, c9, c10, c11, c12⟩, mf, mz⟩ := msg_at (m := ⟨4, frm, dst, term, pi, pt, ea, l.length, ec, commit, ok, mtch, si, st, text⟩) X2.out
  dsimp only at c0 c1 c2 c3 c4 c5 c6 c7 c8 c9 c10 c11 c12
  go_wp2_with fail
  refine (HN4.out w2 _ _ (heap_alloc_new _ _) (below1 _ _)).mono ?_
  rintro e w3 ⟨rfl, hb⟩
  dsimp only
  have X3 := hideIt (blkK X2.out hb)
  have EN3 := hideIt (EN2.out.below hb (Nat.le_refl _))
  have B3 := hideIt (below_via B2.out hb)
  clear c0 c1 c2 c3 c4 c5 c6 c7 c8 c9 c10 c11 c12 mf mz hb X2 B2 EN2 HN4
  obtain ⟨⟨c0, c1, c2, c3, c4, c5, c6, c7, c8, c9, c10, c11, c12⟩, mf, mz⟩ := msg_at (m := ⟨4, frm, dst, term, pi, pt, ea, l.length, ec, commit, ok, mtch, si, st, text⟩) X3.out
  dsimp only at c0 c1 c2 c3 c4 c5 c6 c7 c8 c9 c10 c11 c12
  generalize hkx : w.heap.size = kx at c0 c1 c2 c3 c4 c5 c6 c7 c8 c9 c10 c11 c12 mf mz ⊢
  clear hkx
  have hcat : ¬ 9223372036854775807 < D.length + E.length := by omega
  have HND : Hid (∀ g W, W.heap[g]? = some (.cells #[.int .i64 tr, .int .i64 mtch] 3 (0, 0)) → Below w3.heap.size w3 W → Calls Try.prog 37 #[.slice (some ⟨g, 0, none⟩) 2 2] W fun e w' => e = .returned (.string ⟨E.toArray⟩) ∧ Hid (Below w3.heap.size w3 w') ∧ (w'.cell? ⟨kx, 8, none⟩ = some (.bool ok) ∧ w'.cell? ⟨kx, 9, none⟩ = some (.int .i64 mtch)) ∧ kx < w'.heap.size) := fun g W h1 h2 => by
    refine (HN2.out w3 g W h1 h2).mono ?_
    rintro e w' ⟨rfl, hb⟩
    exact ⟨rfl, hb, ⟨(hb.cell (p := ⟨kx, 8, none⟩) mz).trans c8, (hb.cell (p := ⟨kx, 9, none⟩) mz).trans c9⟩, Nat.lt_of_lt_of_le mz hb.size⟩
  have HFR := hideIt (fun W => refFrame_any ((⟨D.toArray⟩ : ByteArray) ++ ⟨E.toArray⟩) W)
  have hs : ((⟨D.toArray⟩ : ByteArray) ++ ⟨E.toArray⟩).data.toList = R := by rw [cat_two]; simpa using HRD.out
  rw [hs, (frm_ok HBL.out).1, (frm_ok HBL.out).2] at HFR
  clear HN2 hs c1 c2 c3 c4 c5 c6 c7 c10 c11 c12 EN3 X3
  go_upto_region 17 with fail
  go_region_held3 (fun W => W.cell? ⟨kx, 8, none⟩ = some (.bool ok) ∧ W.cell? ⟨kx, 9, none⟩ = some (.int .i64 mtch)) (go_keep) (first | (go_at_call 38; refine (HT.out _).mono ?_; rintro e wA ⟨rfl, rfl⟩; clear HT) | (go_at_call 37; refine (HND.out _ _ (by first | exact heap_alloc_new _ _ | exact heap_alloc_new w3 _) (by first | exact below1 _ _ | exact (below1 w3 _).drew)).mono ?_; rintro e wB ⟨rfl, HWB, ⟨e0B, e1B⟩, egB⟩; clear HND))
  have B4 := hideIt (below_via B3.out HWB.out)
  clear c0 c8 c9 mf mz B3 e0B e1B egB HWB
  go_wp2_with fail
  refine (HFR.out _).mono ?_
  rintro e wz ⟨rfl, hb⟩
  dsimp only
  have BZ := hideIt (below_via B4.out hb)
  clear hb HFR
  go_wp2
  go_ret2
  exact ⟨rfl, BZ.out⟩
set_option maxHeartbeats 8000000 in
set_option maxRecDepth 100000 in
theorem rEnc_5 (m : MsgV) (l : List EntV) (w : World) (hl : EntsAt w m.ea l) (hn : m.en = l.length) (hx : l.length ≤ 9223372036854775807) (hmay : mayB m l = true) (hk : m.kind = 5) : Calls Try.prog 10 #[.agg (msgC m)] w fun e w' => e = .returned (.tuple #[.string ⟨(frameL (bodyL m l)).toArray⟩, .int .i64 0]) ∧ Below w.heap.size w w' := by
  have HB := hideIt (below1 w (.cells (msgC m) 28))
  have X := hideIt (heap_alloc_new w (.cells (msgC m) 28))
  have HMY := hideIt (refMay_is m l _ (hl.below HB.out (Nat.le_refl _)) hn hx)
  rw [hmay] at HMY
  obtain ⟨hok, hlen⟩ := mayB_ok m l hn hmay
  have HBL := hideIt hlen
  have HEN := hideIt (hl.below HB.out (Nat.le_refl _))
  obtain ⟨kind, frm, dst, term, pi, pt, ea, en, ec, commit, ok, mtch, si, st, text⟩ := m
  obtain ⟨k1, k2, k3, k4, k5, k6, k7, k8, k9, k10, k11, k12, k13⟩ := hok
  simp only at k1 k2 k3 k4 k5 k6 k7 k8 k9 k10 k11 k12 k13 hk hl hn
  subst hk
  subst hn
  have HN4 := hideIt (fun X g W => nums_at [5, frm, dst, term] 4 rfl (by omega) (by simp; exact ⟨k1, k2, k3, k4⟩) X g #[.int .i64 5, .int .i64 frm, .int .i64 dst, .int .i64 term] rfl W)
  have hDl := numsL_len [5, frm, dst, term]
  have HD : Hid (numsL [5, frm, dst, term] = headL ⟨5, frm, dst, term, pi, pt, ea, l.length, ec, commit, ok, mtch, si, st, text⟩) := by
    show _ = _
    simp [numsL, headL]
  simp only [List.length_cons, List.length_nil] at hDl
  generalize hR : bodyL ⟨5, frm, dst, term, pi, pt, ea, l.length, ec, commit, ok, mtch, si, st, text⟩ l = R at *
  have HR := hideIt hR
  clear hR hl hx hmay
  have HP := hideIt (fun W => refPiece_any text W k11)
  have HN2 := hideIt (fun X g W => nums_at [si, st] 2 rfl (by omega) (by simp; exact ⟨k9, k10⟩) X g #[.int .i64 si, .int .i64 st] rfl W)
  have hNl := numsL_len [si, st]
  have hTl := textL_len text.data.toList
  have HRD : Hid (numsL [5, frm, dst, term] ++ numsL [si, st] ++ textL text.data.toList = R) := by
    show _ = _
    rw [← HR.out, HD.out]
    simp [bodyL, numsL]
  simp only [List.length_cons, List.length_nil] at hNl
  generalize numsL [si, st] = E at *
  generalize textL text.data.toList = T at *
  clear HD HR
  generalize numsL [5, frm, dst, term] = D at *
  simp only [msgC] at HB X HMY HEN ⊢
  go_enter Try.func10, Try.ntmps10
  go_upto_region 1 with fail
  generalize w.alloc (.cells #[.int .i64 5, .int .i64 frm, .int .i64 dst, .int .i64 term, .int .i64 pi, .int .i64 pt, .slice ea l.length ec, .int .i64 commit, .bool ok, .int .i64 mtch, .int .i64 si, .int .i64 st, .string text] 28) = W1 at *
  obtain ⟨⟨c0, c1, c2, c3, c4, c5, c6, c7, c8, c9, c10, c11, c12⟩, mf, mz⟩ := msg_at (m := ⟨5, frm, dst, term, pi, pt, ea, l.length, ec, commit, ok, mtch, si, st, text⟩) X.out
  dsimp only at c0 c1 c2 c3 c4 c5 c6 c7 c8 c9 c10 c11 c12
  go_wp2_with fail
  refine HMY.out.mono ?_
  rintro e w2 ⟨rfl, hb⟩
  dsimp only
  have X2 := hideIt (blkK X.out hb)
  have EN2 := hideIt (HEN.out.below hb (Nat.le_refl _))
  have B2 := hideIt (below_via HB.out hb)
  clear c0 c1 c2 c3 c4 c5 c6 c7 c8 c9 c10 c11 c12 mf mz hb X HB HMY HEN
  obtain ⟨⟨c0, c1, c2, c3, c4, c5, c6, c7, c8, c9, c10, c11, c12⟩, mf, mz⟩ := msg_at (m := ⟨5, frm, dst, term, pi, pt, ea, l.length, ec, commit, ok, mtch, si, st, text⟩) X2.out
  dsimp only at c0 c1 c2 c3 c4 c5 c6 c7 c8 c9 c10 c11 c12
  go_wp2_with fail
  refine (HN4.out w2 _ _ (heap_alloc_new _ _) (below1 _ _)).mono ?_
  rintro e w3 ⟨rfl, hb⟩
  dsimp only
  have X3 := hideIt (blkK X2.out hb)
  have EN3 := hideIt (EN2.out.below hb (Nat.le_refl _))
  have B3 := hideIt (below_via B2.out hb)
  clear c0 c1 c2 c3 c4 c5 c6 c7 c8 c9 c10 c11 c12 mf mz hb X2 B2 EN2 HN4
  obtain ⟨⟨c0, c1, c2, c3, c4, c5, c6, c7, c8, c9, c10, c11, c12⟩, mf, mz⟩ := msg_at (m := ⟨5, frm, dst, term, pi, pt, ea, l.length, ec, commit, ok, mtch, si, st, text⟩) X3.out
  dsimp only at c0 c1 c2 c3 c4 c5 c6 c7 c8 c9 c10 c11 c12
  generalize hkx : w.heap.size = kx at c0 c1 c2 c3 c4 c5 c6 c7 c8 c9 c10 c11 c12 mf mz ⊢
  clear hkx
  have hcat : ¬ 9223372036854775807 < D.length + E.length := by omega
  have hcat2 : ¬ 9223372036854775807 < D.length + E.length + T.length := by omega
  have HND : Hid (∀ g W, W.heap[g]? = some (.cells #[.int .i64 si, .int .i64 st] 3 (0, 0)) → Below w3.heap.size w3 W → Calls Try.prog 37 #[.slice (some ⟨g, 0, none⟩) 2 2] W fun e w' => e = .returned (.string ⟨E.toArray⟩) ∧ Hid (Below w3.heap.size w3 w') ∧ (w'.cell? ⟨kx, 10, none⟩ = some (.int .i64 si) ∧ w'.cell? ⟨kx, 11, none⟩ = some (.int .i64 st) ∧ w'.cell? ⟨kx, 12, none⟩ = some (.string text)) ∧ kx < w'.heap.size) := fun g W h1 h2 => by
    refine (HN2.out w3 g W h1 h2).mono ?_
    rintro e w' ⟨rfl, hb⟩
    exact ⟨rfl, hb, ⟨(hb.cell (p := ⟨kx, 10, none⟩) mz).trans c10, (hb.cell (p := ⟨kx, 11, none⟩) mz).trans c11, (hb.cell (p := ⟨kx, 12, none⟩) mz).trans c12⟩, Nat.lt_of_lt_of_le mz hb.size⟩
  have HPD : Hid (∀ W, Below w3.heap.size w3 W → Calls Try.prog 39 #[.string text] W fun e w' => e = .returned (.string ⟨T.toArray⟩) ∧ Hid (Below w3.heap.size w3 w') ∧ (w'.cell? ⟨kx, 10, none⟩ = some (.int .i64 si) ∧ w'.cell? ⟨kx, 11, none⟩ = some (.int .i64 st) ∧ w'.cell? ⟨kx, 12, none⟩ = some (.string text)) ∧ kx < w'.heap.size) := fun W h2 => by
    refine (HP.out W).mono ?_
    rintro e w' ⟨rfl, hb'⟩
    have hb := below_via h2 hb'
    exact ⟨rfl, hb, ⟨(hb.cell (p := ⟨kx, 10, none⟩) mz).trans c10, (hb.cell (p := ⟨kx, 11, none⟩) mz).trans c11, (hb.cell (p := ⟨kx, 12, none⟩) mz).trans c12⟩, Nat.lt_of_lt_of_le mz hb.size⟩
  have HFR := hideIt (fun W => refFrame_any ((⟨D.toArray⟩ : ByteArray) ++ ⟨E.toArray⟩ ++ ⟨T.toArray⟩) W)
  have hs : ((⟨D.toArray⟩ : ByteArray) ++ ⟨E.toArray⟩ ++ ⟨T.toArray⟩).data.toList = R := by rw [cat_two, cat_two]; simpa using HRD.out
  rw [hs, (frm_ok HBL.out).1, (frm_ok HBL.out).2] at HFR
  clear HN2 HP hs c1 c2 c3 c4 c5 c6 c7 c8 c9 EN3 X3
  go_upto_region 19 with fail
  go_region_held3 (fun W => W.cell? ⟨kx, 10, none⟩ = some (.int .i64 si) ∧ W.cell? ⟨kx, 11, none⟩ = some (.int .i64 st) ∧ W.cell? ⟨kx, 12, none⟩ = some (.string text)) (go_keep) (first | (go_at_call 37; refine (HND.out _ _ (by first | exact heap_alloc_new _ _ | exact heap_alloc_new w3 _) (by first | exact below1 _ _ | exact (below1 w3 _).drew)).mono ?_; rintro e wB ⟨rfl, HWB, ⟨e0B, e1B, e2B⟩, egB⟩; clear HND) | (go_at_call 39; refine (HPD.out _ HWB.out).mono ?_; rintro e wC ⟨rfl, HWC, ⟨e0C, e1C, e2C⟩, egC⟩; clear HPD))
  have B4 := hideIt (below_via B3.out HWC.out)
  clear c0 c10 c11 c12 mf mz B3 e0B e1B e2B egB HWB e0C e1C e2C egC HWC
  go_wp2_with fail
  refine (HFR.out _).mono ?_
  rintro e wz ⟨rfl, hb⟩
  dsimp only
  have BZ := hideIt (below_via B4.out hb)
  clear hb HFR
  go_wp2
  go_ret2
  exact ⟨rfl, BZ.out⟩
set_option maxHeartbeats 8000000 in
set_option maxRecDepth 100000 in
theorem rEnc_no (m : MsgV) (l : List EntV) (w : World) (hl : EntsAt w m.ea l) (hn : m.en = l.length) (hx : l.length ≤ 9223372036854775807) (hmay : mayB m l = false) : Calls Try.prog 10 #[.agg (msgC m)] w fun e w' => e = .returned (.tuple #[.string ⟨#[]⟩, .int .i64 52]) ∧ Below w.heap.size w w' := by
  have HB := hideIt (below1 w (.cells (msgC m) 28))
  have X := hideIt (heap_alloc_new w (.cells (msgC m) 28))
  have HMY := hideIt (refMay_is m l _ (hl.below HB.out (Nat.le_refl _)) hn hx)
  rw [hmay] at HMY
  obtain ⟨kind, frm, dst, term, pi, pt, ea, en, ec, commit, ok, mtch, si, st, text⟩ := m
  clear hl hn hx hmay
  simp only [msgC] at HB X HMY ⊢
  go_enter Try.func10, Try.ntmps10
  go_upto_region 1 with fail
  generalize w.alloc (.cells #[.int .i64 kind, .int .i64 frm, .int .i64 dst, .int .i64 term, .int .i64 pi, .int .i64 pt, .slice ea en ec, .int .i64 commit, .bool ok, .int .i64 mtch, .int .i64 si, .int .i64 st, .string text] 28) = W1 at *
  obtain ⟨⟨c0, c1, c2, c3, c4, c5, c6, c7, c8, c9, c10, c11, c12⟩, mf, mz⟩ := msg_at (m := ⟨kind, frm, dst, term, pi, pt, ea, en, ec, commit, ok, mtch, si, st, text⟩) X.out
  dsimp only at c0 c1 c2 c3 c4 c5 c6 c7 c8 c9 c10 c11 c12
  go_wp2_with fail
  refine HMY.out.mono ?_
  rintro e w2 ⟨rfl, hb⟩
  dsimp only
  have B2 := hideIt (below_via HB.out hb)
  clear c0 c1 c2 c3 c4 c5 c6 c7 c8 c9 c10 c11 c12 mf mz hb X HB HMY
  go_wp2
  go_ret2
  exact ⟨rfl, B2.out⟩
end Go.Proofs.Ytagfolckodpioaa.K2
namespace Go.Proofs.Ytagfolckodpioaa.K2
open Go.RowKit Go.Maps Go.Proofs.Ytagfolckodpioaa
set_option linter.all false
/-- The text on its way. -/
def gat (P : List UInt8) (l : List EntV) (t : Nat) : List UInt8 := P ++ gathE l t
theorem gat_step (P : List UInt8) (l : List EntV) (t : Nat) (h : t < l.length) : gat P l (t + 1) = gat P l t ++ numsL [l[t].term, l[t].kind] ++ textL l[t].text.data.toList := by
  unfold gat
  rw [gathE_step l t h]
  simp [entL, numsL, uI]
set_option maxHeartbeats 8000000 in
set_option maxRecDepth 100000 in
theorem rEnc_3 (m : MsgV) (l : List EntV) (w : World) (hl : EntsAt w m.ea l) (hn : m.en = l.length) (hx : l.length ≤ 9223372036854775807) (hmay : mayB m l = true) (hk : m.kind = 3) : Calls Try.prog 10 #[.agg (msgC m)] w fun e w' => e = .returned (.tuple #[.string ⟨(frameL (bodyL m l)).toArray⟩, .int .i64 0]) ∧ Below w.heap.size w w' := by
  have HB := hideIt (below1 w (.cells (msgC m) 28))
  have X := hideIt (heap_alloc_new w (.cells (msgC m) 28))
  have HMY := hideIt (refMay_is m l _ (hl.below HB.out (Nat.le_refl _)) hn hx)
  rw [hmay] at HMY
  obtain ⟨hok, hlen⟩ := mayB_ok m l hn hmay
  have HBL := hideIt hlen
  have HEN := hideIt (hl.below HB.out (Nat.le_refl _))
  obtain ⟨kind, frm, dst, term, pi, pt, ea, en, ec, commit, ok, mtch, si, st, text⟩ := m
  obtain ⟨k1, k2, k3, k4, k5, k6, k7, k8, k9, k10, k11, k12, k13⟩ := hok
  simp only at k1 k2 k3 k4 k5 k6 k7 k8 k9 k10 k11 k12 k13 hk hl hn
  subst hk
  subst hn
  have HN4 := hideIt (fun X g W => nums_at [3, frm, dst, term] 4 rfl (by omega) (by simp; exact ⟨k1, k2, k3, k4⟩) X g #[.int .i64 3, .int .i64 frm, .int .i64 dst, .int .i64 term] rfl W)
  have hDl := numsL_len [3, frm, dst, term]
  have HD : Hid (numsL [3, frm, dst, term] = headL ⟨3, frm, dst, term, pi, pt, ea, l.length, ec, commit, ok, mtch, si, st, text⟩) := by
    show _ = _
    simp [numsL, headL]
  simp only [List.length_cons, List.length_nil] at hDl
  generalize hR : bodyL ⟨3, frm, dst, term, pi, pt, ea, l.length, ec, commit, ok, mtch, si, st, text⟩ l = R at *
  have HR := hideIt hR
  clear hR hl hx hmay
  have HN2 := hideIt (fun X g W => nums_at [pi, pt, commit, (l.length : Int)] 4 rfl (by omega) (by simp; exact ⟨k5, k6, k7, by unfold okI; omega⟩) X g #[.int .i64 pi, .int .i64 pt, .int .i64 commit, .int .i64 l.length] rfl W)
  have hNl := numsL_len [pi, pt, commit, (l.length : Int)]
  obtain ⟨P, hP⟩ : ∃ P, P = numsL [3, frm, dst, term] ++ numsL [pi, pt, commit] := ⟨_, rfl⟩
  have hPl : P.length ≤ 70 := by
    have := numsL_len [pi, pt, commit]
    rw [hP, List.length_append]
    simp only [List.length_cons, List.length_nil] at this
    omega
  have HG0 : Hid (numsL [3, frm, dst, term] ++ numsL [pi, pt, commit, (l.length : Int)] = gat P l 0) := by
    show _ = _
    unfold gat gathE
    rw [hP]
    simp [numsL, uI_nat]
  have HRD : Hid (gat P l l.length = R) := by
    show _ = _
    rw [← HR.out]
    unfold gat
    rw [hP, HD.out]
    simp [bodyL, numsL, entsL]
  have HGL : Hid (∀ t, (gat P l t).length ≤ 2000000) := fun t => by
    have := gathE_len l t k12
    unfold gat
    rw [List.length_append]
    omega
  have HGS := hideIt (gat_step P l)
  have HEO := hideIt k13
  clear k13 hP
  simp only [List.length_cons, List.length_nil] at hNl
  generalize numsL [pi, pt, commit, (l.length : Int)] = E at *
  generalize hGT : gat P l = GT at *
  clear hGT
  clear HD HR
  generalize numsL [3, frm, dst, term] = D at *
  simp only [msgC] at HB X HMY HEN ⊢
  go_enter Try.func10, Try.ntmps10
  go_upto_region 1 with fail
  generalize w.alloc (.cells #[.int .i64 3, .int .i64 frm, .int .i64 dst, .int .i64 term, .int .i64 pi, .int .i64 pt, .slice ea l.length ec, .int .i64 commit, .bool ok, .int .i64 mtch, .int .i64 si, .int .i64 st, .string text] 28) = W1 at *
  obtain ⟨⟨c0, c1, c2, c3, c4, c5, c6, c7, c8, c9, c10, c11, c12⟩, mf, mz⟩ := msg_at (m := ⟨3, frm, dst, term, pi, pt, ea, l.length, ec, commit, ok, mtch, si, st, text⟩) X.out
  dsimp only at c0 c1 c2 c3 c4 c5 c6 c7 c8 c9 c10 c11 c12
  go_wp2_with fail
  refine HMY.out.mono ?_
  rintro e w2 ⟨rfl, hb⟩
  dsimp only
  have X2 := hideIt (blkK X.out hb)
  have EN2 := hideIt (HEN.out.below hb (Nat.le_refl _))
  have B2 := hideIt (below_via HB.out hb)
  clear c0 c1 c2 c3 c4 c5 c6 c7 c8 c9 c10 c11 c12 mf mz hb X HB HMY HEN
  obtain ⟨⟨c0, c1, c2, c3, c4, c5, c6, c7, c8, c9, c10, c11, c12⟩, mf, mz⟩ := msg_at (m := ⟨3, frm, dst, term, pi, pt, ea, l.length, ec, commit, ok, mtch, si, st, text⟩) X2.out
  dsimp only at c0 c1 c2 c3 c4 c5 c6 c7 c8 c9 c10 c11 c12
  go_wp2_with fail
  refine (HN4.out w2 _ _ (heap_alloc_new _ _) (below1 _ _)).mono ?_
  rintro e w3 ⟨rfl, hb⟩
  dsimp only
  have X3 := hideIt (blkK X2.out hb)
  have EN3 := hideIt (EN2.out.below hb (Nat.le_refl _))
  have B3 := hideIt (below_via B2.out hb)
  clear c0 c1 c2 c3 c4 c5 c6 c7 c8 c9 c10 c11 c12 mf mz hb X2 B2 EN2 HN4
  obtain ⟨⟨c0, c1, c2, c3, c4, c5, c6, c7, c8, c9, c10, c11, c12⟩, mf, mz⟩ := msg_at (m := ⟨3, frm, dst, term, pi, pt, ea, l.length, ec, commit, ok, mtch, si, st, text⟩) X3.out
  dsimp only at c0 c1 c2 c3 c4 c5 c6 c7 c8 c9 c10 c11 c12
  go_wp2_with fail
  refine (HN2.out w3 _ _ (heap_alloc_new _ _) (below1 _ _)).mono ?_
  rintro e w4 ⟨rfl, hb⟩
  dsimp only
  have B4 := hideIt (below_via B3.out hb)
  have X4 := hideIt (blkK X3.out hb)
  have EN4 := hideIt (EN3.out.below hb (Nat.le_refl _))
  have hcat : ¬ 9223372036854775807 < D.length + E.length := by omega
  have HC0 : Hid ((⟨D.toArray⟩ : ByteArray) ++ ⟨E.toArray⟩ = ⟨(GT 0).toArray⟩) := by
    show _ = _
    rw [cat_two, HG0.out]
  clear c0 c1 c2 c3 c4 c5 c6 c7 c8 c9 c10 c11 c12 mf mz hb X3 B3 EN3 HN2
  generalize hkx : w.heap.size = kx at X4 ⊢
  clear hkx
  obtain ⟨⟨c0, c1, c2, c3, c4, c5, c6, c7, c8, c9, c10, c11, c12⟩, mf, mz⟩ := msg_at (m := ⟨3, frm, dst, term, pi, pt, ea, l.length, ec, commit, ok, mtch, si, st, text⟩) X4.out
  dsimp only at c0 c1 c2 c3 c4 c5 c6 c7 c8 c9 c10 c11 c12
  clear c0 c1 c2 c3 c4 c5 c7 c8 c9 c10 c11 c12 mf X4
  go_upto_region 13 with fail
  rw [HC0.out]
  go_loopw [5, 6] (fun u5 u6 wr => ∃ t : Nat, u5 = .string ⟨(GT t).toArray⟩ ∧ u6 = .int .i64 t ∧ t ≤ l.length ∧ Hid (Below w4.heap.size w4 wr)) (fun _ u6 _ => l.length - (RowKit.intOf u6).toNat)
  case atStart => exact ⟨0, rfl, rfl, Nat.zero_le _, Below.refl _ _⟩
  case round =>
    obtain ⟨t, rfl, rfl, ht, HT⟩ := hrel
    have d6 := (HT.out.cell (p := ⟨kx, 6, none⟩) mz).trans c6
    have dz : kx < wr.heap.size := Nat.lt_of_lt_of_le mz HT.out.size
    by_cases hlt : t < l.length
    · have hltI : (t : Int) < (l.length : Int) := by omega
      have ht0 : (0 : Int) ≤ (t : Int) := by omega
      have hw : IntKind.i64.wrap ((t : Int) + 1) = ((t + 1 : Nat) : Int) := by rw [IntKind.wrap_i64]; omega
      obtain ⟨g, off, hea, hgl, q0, q1, q2⟩ := (EN4.out.below HT.out (Nat.le_refl _)) t hlt
      have hst := hideIt (HGS.out t hlt)
      have heo := HEO.out t hlt
      have hgt := HGL.out t
      generalize l[t] = y at *
      obtain ⟨y1, y2, y3⟩ := y
      dsimp only at q0 q1 q2 hst
      unfold EntOk at heo
      dsimp only at heo
      have HN2 := hideIt (fun X g W => nums_at [y1, y2] 2 rfl (by omega) (by simp; unfold okI; omega) X g #[.int .i64 y1, .int .i64 y2] rfl W)
      have HP := hideIt (fun W => refPiece_any y3 W (by omega))
      have hNl2 := numsL_len [y1, y2]
      have hTl := textL_len y3.data.toList
      simp only [List.length_cons, List.length_nil] at hNl2
      generalize numsL [y1, y2] = E2 at *
      generalize textL y3.data.toList = T2 at *
      have HC : Hid ((⟨(GT t).toArray⟩ : ByteArray) ++ ⟨E2.toArray⟩ ++ ⟨T2.toArray⟩ = ⟨(GT (t + 1)).toArray⟩) := by
        show _ = _
        rw [cat_two, cat_two, hst.out]
      generalize GT t = A at *
      generalize hA2 : GT (t + 1) = A2 at *
      have HA2 := hideIt hA2
      clear hA2
      have hc1 : ¬ 9223372036854775807 < A.length + E2.length := by omega
      have hc2 : ¬ 9223372036854775807 < A.length + E2.length + T2.length := by omega
      have HND : Hid (∀ g' W, W.heap[g']? = some (.cells #[.int .i64 y1, .int .i64 y2] 3 (0, 0)) → Below wr.heap.size wr W → Calls Try.prog 37 #[.slice (some ⟨g', 0, none⟩) 2 2] W fun e w' => e = .returned (.string ⟨E2.toArray⟩) ∧ Hid (Below wr.heap.size wr w') ∧ (w'.cell? ⟨kx, 6, none⟩ = some (.slice ea l.length ec) ∧ w'.cell? ⟨g, off + t * 3, none⟩ = some (.int .i64 y1) ∧ w'.cell? ⟨g, off + t * 3 + 1, none⟩ = some (.int .i64 y2) ∧ w'.cell? ⟨g, off + t * 3 + 2, none⟩ = some (.string y3)) ∧ kx < w'.heap.size) := fun g' W h1 h2 => by
        refine (HN2.out wr g' W h1 h2).mono ?_
        rintro e w' ⟨rfl, hb⟩
        exact ⟨rfl, hb, ⟨(hb.cell (p := ⟨kx, 6, none⟩) dz).trans d6, (hb.cell (p := ⟨g, off + t * 3, none⟩) hgl).trans q0, (hb.cell (p := ⟨g, off + t * 3 + 1, none⟩) hgl).trans q1, (hb.cell (p := ⟨g, off + t * 3 + 2, none⟩) hgl).trans q2⟩, Nat.lt_of_lt_of_le dz hb.size⟩
      have HPD : Hid (∀ W, Below wr.heap.size wr W → Calls Try.prog 39 #[.string y3] W fun e w' => e = .returned (.string ⟨T2.toArray⟩) ∧ Hid (Below wr.heap.size wr w') ∧ (w'.cell? ⟨kx, 6, none⟩ = some (.slice ea l.length ec) ∧ w'.cell? ⟨g, off + t * 3, none⟩ = some (.int .i64 y1) ∧ w'.cell? ⟨g, off + t * 3 + 1, none⟩ = some (.int .i64 y2) ∧ w'.cell? ⟨g, off + t * 3 + 2, none⟩ = some (.string y3)) ∧ kx < w'.heap.size) := fun W h2 => by
        refine (HP.out W).mono ?_
        rintro e w' ⟨rfl, hb'⟩
        have hb := below_via h2 hb'
        exact ⟨rfl, hb, ⟨(hb.cell (p := ⟨kx, 6, none⟩) dz).trans d6, (hb.cell (p := ⟨g, off + t * 3, none⟩) hgl).trans q0, (hb.cell (p := ⟨g, off + t * 3 + 1, none⟩) hgl).trans q1, (hb.cell (p := ⟨g, off + t * 3 + 2, none⟩) hgl).trans q2⟩, Nat.lt_of_lt_of_le dz hb.size⟩
      clear HN2 HP hst heo hgt hNl2 hTl HGS HEO HGL EN4 HRD HG0 c6 mz
      subst hea
      go_upto_region 15 with fail
      go_region_held3 (fun W => W.cell? ⟨kx, 6, none⟩ = some (.slice (some ⟨g, off, none⟩) l.length ec) ∧ W.cell? ⟨g, off + t * 3, none⟩ = some (.int .i64 y1) ∧ W.cell? ⟨g, off + t * 3 + 1, none⟩ = some (.int .i64 y2) ∧ W.cell? ⟨g, off + t * 3 + 2, none⟩ = some (.string y3)) (go_keep) (first | (go_at_call 37; refine (HND.out _ _ (by first | exact heap_alloc_new _ _ | exact heap_alloc_new wr _) (by first | exact below1 _ _ | exact (below1 wr _).drew)).mono ?_; rintro e wB ⟨rfl, HWB, ⟨e0B, e1B, e2B, e3B⟩, egB⟩; clear HND) | (go_at_call 39; refine (HPD.out _ HWB.out).mono ?_; rintro e wC ⟨rfl, HWC, ⟨e0C, e1C, e2C, e3C⟩, egC⟩; clear HPD))
      have BN := hideIt (below_via HT.out HWC.out)
      clear d6 q0 q1 q2 e0B e1B e2B e3B egB HWB e0C e1C e2C e3C egC HWC HT
      rw [HC.out]
      go_wp2
      go_roundw
      case rel => exact ⟨t + 1, by rw [HA2.out], by go_num, by omega, BN⟩
      case measure => simp [RowKit.intOf]; omega
    · have hltI : ¬ (t : Int) < (l.length : Int) := by omega
      have het : t = l.length := by omega
      subst het
      have hRD := HRD.out
      have B5 := hideIt (below_via B4.out HT.out)
      have HFR := hideIt (fun W => refFrame_any ⟨(GT l.length).toArray⟩ W)
      have hs : (⟨(GT l.length).toArray⟩ : ByteArray).data.toList = R := by simpa using hRD
      rw [hs, (frm_ok HBL.out).1, (frm_ok HBL.out).2] at HFR
      clear hs hRD HRD HGS HEO HGL EN4 HG0 c6 mz HT B4
      go_wp2_with fail
      refine (HFR.out _).mono ?_
      rintro e wz ⟨rfl, hb⟩
      dsimp only
      have BZ := hideIt (below_via B5.out hb)
      clear hb HFR
      go_wp2
      go_ret2
      exact ⟨rfl, BZ.out⟩
theorem refEncode_is (m : MsgV) (l : List EntV) (w : World) (hl : EntsAt w m.ea l) (hn : m.en = l.length) (hx : l.length ≤ 9223372036854775807) : Calls Try.prog 10 #[.agg (msgC m)] w fun e w' => e = .returned (.tuple #[.string ⟨(encL m l).toArray⟩, .int .i64 (encE m l : Int)]) ∧ Below w.heap.size w w' := by
  unfold encL encE
  cases h : mayB m l
  · rw [if_neg (by decide), if_neg (by decide)]
    exact rEnc_no m l w hl hn hx h
  · rw [if_pos rfl, if_pos rfl]
    by_cases k1 : m.kind = 1
    · exact rEnc_1 m l w hl hn hx h k1
    · by_cases k2 : m.kind = 2
      · exact rEnc_2 m l w hl hn hx h k2
      · by_cases k3 : m.kind = 3
        · exact rEnc_3 m l w hl hn hx h k3
        · by_cases k4 : m.kind = 4
          · exact rEnc_4 m l w hl hn hx h k4
          · by_cases k5 : m.kind = 5
            · exact rEnc_5 m l w hl hn hx h k5
            · exfalso
              unfold mayB bodyB at h
              rw [if_neg k1, if_neg k2, if_neg k3, if_neg k4, if_neg k5, Bool.and_false] at h
              cases h
end Go.Proofs.Ytagfolckodpioaa.K2
namespace Go.Proofs.Ytagfolckodpioaa.K2
open Go.RowKit Go.Maps Go.Proofs.Ytagfolckodpioaa
set_option linter.all false
theorem eqE_me (e : EntV) : eqE e e = true := by simp [eqE]
theorem sameE_me : ∀ l : List EntV, sameE l l = true
  | [] => rfl
  | e :: l => by
    have ih := sameE_me l
    unfold sameE
    rw [eqE_me, ih]
    rfl
theorem sameF_me (m : MsgV) (a : Option Addr) (c : Nat) : sameF (withE m a m.en c) m = true := by
  simp [sameF, withE, eqS, eqE]
set_option maxHeartbeats 8000000 in
set_option maxRecDepth 100000 in
theorem writes_walk (m : MsgV) (l : List EntV) (w : World) (h : SGot 3 32 entE w (.slice m.ea l.length m.ec) l) (hn : m.en = l.length) (hx : l.length ≤ 9223372036854775807) : Calls Try.prog 3 #[.agg (msgC m)] w fun e w' => e = .returned (.bool true) ∧ Below w.heap.size w w' := by
  have HB := hideIt (below1 w (.cells (msgC m) 28))
  have X := hideIt (heap_alloc_new w (.cells (msgC m) 28))
  have HCP := hideIt (copied_is m l _ (h.keep HB.out) hn)
  have HM : Hid (EntsAt (w.alloc (.cells (msgC m) 28)) m.ea l) := sgot_ents (h.keep HB.out)
  have HLV := hideIt (fun W => live_is W)
  have HE1 := hideIt (fun a c W (hW : EntsAt W a l) => encode_is (withE m a l.length c) l W hW rfl)
  have HE2 := hideIt (fun W (hW : EntsAt W m.ea l) => refEncode_is m l W hW hn hx)
  have HSM := hideIt (fun a c W (h1 : EntsAt W a l) (h2 : EntsAt W m.ea l) => same_any (withE m a l.length c) m l l W h1 h2 rfl hn hx)
  have hEq : ∀ a c, encL (withE m a l.length c) l = encL m l ∧ encE (withE m a l.length c) l = encE m l := fun a c => by
    obtain ⟨kind, frm, dst, term, pi, pt, ea, en, ec, commit, ok, mtch, si, st, text⟩ := m
    simp only at hn
    subst hn
    exact ⟨rfl, rfl⟩
  have hSq : ∀ a c, (sameF (withE m a l.length c) m && sameE l l) = true := fun a c => by
    rw [← hn, sameF_me, sameE_me]
    rfl
  simp only [hEq] at HE1
  simp only [hSq] at HSM
  generalize encL m l = S at *
  generalize encE m l = E at *
  obtain ⟨kind, frm, dst, term, pi, pt, ea, en, ec, commit, ok, mtch, si, st, text⟩ := m
  simp only at hn HM HE2 HSM
  subst hn
  simp only [msgC, withE] at HB X HCP HM HE1 HE2 HSM ⊢
  clear h hEq hSq hx
  go_enter Try.func3, Try.ntmps3
  go_upto_region 1 with fail
  generalize w.alloc (.cells #[.int .i64 kind, .int .i64 frm, .int .i64 dst, .int .i64 term, .int .i64 pi, .int .i64 pt, .slice ea l.length ec, .int .i64 commit, .bool ok, .int .i64 mtch, .int .i64 si, .int .i64 st, .string text] 28) = W1 at *
  obtain ⟨⟨c0, c1, c2, c3, c4, c5, c6, c7, c8, c9, c10, c11, c12⟩, mf, mz⟩ := msg_at (m := ⟨kind, frm, dst, term, pi, pt, ea, l.length, ec, commit, ok, mtch, si, st, text⟩) X.out
  dsimp only at c0 c1 c2 c3 c4 c5 c6 c7 c8 c9 c10 c11 c12
  go_wp2_with fail
  refine HCP.out.mono ?_
  rintro e w2 ⟨a, c, rfl, he, hb⟩
  dsimp only
  have hb3 := below1 w2 (.cells #[.int .i64 kind, .int .i64 frm, .int .i64 dst, .int .i64 term, .int .i64 pi, .int .i64 pt, .slice a l.length c, .int .i64 commit, .bool ok, .int .i64 mtch, .int .i64 si, .int .i64 st, .string text] 28)
  have X3 := hideIt (blkK (blkK X.out hb) hb3)
  have Y3 := hideIt (heap_alloc_new w2 (.cells #[.int .i64 kind, .int .i64 frm, .int .i64 dst, .int .i64 term, .int .i64 pi, .int .i64 pt, .slice a l.length c, .int .i64 commit, .bool ok, .int .i64 mtch, .int .i64 si, .int .i64 st, .string text] 28))
  have M3 := hideIt ((HM.out.below hb (Nat.le_refl _)).below hb3 (Nat.le_refl _))
  have A3 := hideIt (he.below hb3 (Nat.le_refl _))
  have B3 := hideIt (below_via (below_via HB.out hb) hb3)
  clear c0 c1 c2 c3 c4 c5 c6 c7 c8 c9 c10 c11 c12 mf mz hb hb3 he HM X HB HCP
  go_upto_region 2 with fail
  generalize w2.alloc (.cells #[.int .i64 kind, .int .i64 frm, .int .i64 dst, .int .i64 term, .int .i64 pi, .int .i64 pt, .slice a l.length c, .int .i64 commit, .bool ok, .int .i64 mtch, .int .i64 si, .int .i64 st, .string text] 28) = W3 at *
  generalize w2.heap.size = k2 at *
  obtain ⟨⟨d0, d1, d2, d3, d4, d5, d6, d7, d8, d9, d10, d11, d12⟩, nf, nz⟩ := msg_at (m := ⟨kind, frm, dst, term, pi, pt, a, l.length, c, commit, ok, mtch, si, st, text⟩) Y3.out
  dsimp only at d0 d1 d2 d3 d4 d5 d6 d7 d8 d9 d10 d11 d12
  go_wp2_with fail
  refine (HE1.out _ _ _ A3.out).mono ?_
  rintro e w4 ⟨rfl, hb⟩
  dsimp only
  have X4 := hideIt (blkK X3.out hb)
  have Y4 := hideIt (blkK Y3.out hb)
  have M4 := hideIt (M3.out.below hb (Nat.le_refl _))
  have A4 := hideIt (A3.out.below hb (Nat.le_refl _))
  have B4 := hideIt (below_via B3.out hb)
  clear d0 d1 d2 d3 d4 d5 d6 d7 d8 d9 d10 d11 d12 nf nz hb X3 Y3 M3 A3 B3 HE1
  obtain ⟨⟨c0, c1, c2, c3, c4, c5, c6, c7, c8, c9, c10, c11, c12⟩, mf, mz⟩ := msg_at (m := ⟨kind, frm, dst, term, pi, pt, ea, l.length, ec, commit, ok, mtch, si, st, text⟩) X4.out
  dsimp only at c0 c1 c2 c3 c4 c5 c6 c7 c8 c9 c10 c11 c12
  go_wp2_with fail
  refine (HE2.out _ M4.out).mono ?_
  rintro e w5 ⟨rfl, hb⟩
  dsimp only
  have X5 := hideIt (blkK X4.out hb)
  have Y5 := hideIt (blkK Y4.out hb)
  have M5 := hideIt (M4.out.below hb (Nat.le_refl _))
  have A5 := hideIt (A4.out.below hb (Nat.le_refl _))
  have B5 := hideIt (below_via B4.out hb)
  clear c0 c1 c2 c3 c4 c5 c6 c7 c8 c9 c10 c11 c12 mf mz hb X4 Y4 M4 A4 B4 HE2
  go_wp2_with fail
  refine (HLV.out _).mono ?_
  rintro e w6 ⟨rfl, hb⟩
  dsimp only
  have X6 := hideIt (blkK X5.out hb)
  have Y6 := hideIt (blkK Y5.out hb)
  have M6 := hideIt (M5.out.below hb (Nat.le_refl _))
  have A6 := hideIt (A5.out.below hb (Nat.le_refl _))
  have B6 := hideIt (below_via B5.out hb)
  clear hb X5 Y5 M5 A5 B5 HLV
  obtain ⟨⟨c0, c1, c2, c3, c4, c5, c6, c7, c8, c9, c10, c11, c12⟩, mf, mz⟩ := msg_at (m := ⟨kind, frm, dst, term, pi, pt, ea, l.length, ec, commit, ok, mtch, si, st, text⟩) X6.out
  obtain ⟨⟨d0, d1, d2, d3, d4, d5, d6, d7, d8, d9, d10, d11, d12⟩, nf, nz⟩ := msg_at (m := ⟨kind, frm, dst, term, pi, pt, a, l.length, c, commit, ok, mtch, si, st, text⟩) Y6.out
  dsimp only at c0 c1 c2 c3 c4 c5 c6 c7 c8 c9 c10 c11 c12 d0 d1 d2 d3 d4 d5 d6 d7 d8 d9 d10 d11 d12
  go_wp2_with fail
  refine (HSM.out _ _ _ A6.out M6.out).mono ?_
  rintro e w7 ⟨rfl, hb⟩
  dsimp only
  have B7 := hideIt (below_via B6.out hb)
  clear c0 c1 c2 c3 c4 c5 c6 c7 c8 c9 c10 c11 c12 mf mz d0 d1 d2 d3 d4 d5 d6 d7 d8 d9 d10 d11 d12 nf nz hb X6 Y6 M6 A6 B6 HSM
  go_wp2
  go_ret
  exact ⟨rfl, B7.out⟩
end Go.Proofs.Ytagfolckodpioaa.K2
namespace Go.Proofs.Ytagfolckodpioaa.K2
open Go.ChangeShapes Go.WideShapes Go.ChangeAt Go.RowKit Go.Proofs.Ytagfolckodpioaa
set_option linter.all false
theorem thirteen {α : Type} (l : List α) (h : l.length = 13) : ∃ a0 a1 a2 a3 a4 a5 a6 a7 a8 a9 b0 b1 b2, l = [a0, a1, a2, a3, a4, a5, a6, a7, a8, a9, b0, b1, b2] := by
  match l, h with
  | [a0, a1, a2, a3, a4, a5, a6, a7, a8, a9, b0, b1, b2], _ => exact ⟨a0, a1, a2, a3, a4, a5, a6, a7, a8, a9, b0, b1, b2, rfl⟩
theorem bytes41 : Try.prog.bytesOf 41 = 32 := by kernel_rfl
set_option maxHeartbeats 4000000 in
set_option maxRecDepth 100000 in
theorem open_msg {H : Type} {enc : TypeId × Value → H} {W : World} {b0 : Nat} {v : Value} {d : DataW H} {p : List MemPlace}
    (hv : Value.okWide Try.prog W .any b0 28 v) (h : DataW.Trod enc Try.prog W 0 (fun _ => true) true 28 v d p) (ts : List TypeId) (ds : List (DataW H)) (j : Nat)
    (hall : (DataW.weightsEach Try.prog ts ds).all (· ≤ reachBytes) = true) (hts : ts[j]? = some 28) (hds : ds[j]? = some d) :
    ∃ (m : MsgV) (l : List EntV), v = .agg (msgC m) ∧ SGot 3 32 entE W (.slice m.ea l.length m.ec) l ∧ m.en = l.length ∧ l.length ≤ 9223372036854775807 := by
  obtain ⟨cs, rfl, hsz⟩ := okWide_struct Try.underlying28 hv
  rw [cells28] at hsz
  obtain ⟨fuel, hf⟩ := h
  have hcl : (Value.agg cs).cells.toList = cs.toList := by simp [Value.cells]
  rw [hcl] at hf
  obtain ⟨a0, a1, a2, a3, a4, a5, a6, a7, a8, a9, q0, q1, q2, e⟩ := thirteen cs.toList (by simpa using hsz)
  rw [e] at hf
  obtain ⟨zs, n2, _, hd, _, hzl, hgs⟩ := DataW.trod_struct Try.underlying28 hf
  have k0 : DataW.trod enc Try.prog W 0 (fun _ => true) true n2 3 (([a0, a1, a2, a3, a4, a5, a6, a7, a8, a9, q0, q1, q2].drop 0).take (Try.prog.cellsOf 3)) = zs[0]? := hgs 0 _ rfl
  have k1 : DataW.trod enc Try.prog W 0 (fun _ => true) true n2 3 (([a0, a1, a2, a3, a4, a5, a6, a7, a8, a9, q0, q1, q2].drop 1).take (Try.prog.cellsOf 3)) = zs[1]? := hgs 1 _ rfl
  have k2 : DataW.trod enc Try.prog W 0 (fun _ => true) true n2 3 (([a0, a1, a2, a3, a4, a5, a6, a7, a8, a9, q0, q1, q2].drop 2).take (Try.prog.cellsOf 3)) = zs[2]? := hgs 2 _ rfl
  have k3 : DataW.trod enc Try.prog W 0 (fun _ => true) true n2 3 (([a0, a1, a2, a3, a4, a5, a6, a7, a8, a9, q0, q1, q2].drop 3).take (Try.prog.cellsOf 3)) = zs[3]? := hgs 3 _ rfl
  have k4 : DataW.trod enc Try.prog W 0 (fun _ => true) true n2 23 (([a0, a1, a2, a3, a4, a5, a6, a7, a8, a9, q0, q1, q2].drop 4).take (Try.prog.cellsOf 23)) = zs[4]? := hgs 4 _ rfl
  have k5 : DataW.trod enc Try.prog W 0 (fun _ => true) true n2 24 (([a0, a1, a2, a3, a4, a5, a6, a7, a8, a9, q0, q1, q2].drop 6).take (Try.prog.cellsOf 24)) = zs[5]? := hgs 5 _ rfl
  have k6 : DataW.trod enc Try.prog W 0 (fun _ => true) true n2 3 (([a0, a1, a2, a3, a4, a5, a6, a7, a8, a9, q0, q1, q2].drop 7).take (Try.prog.cellsOf 3)) = zs[6]? := hgs 6 _ rfl
  have k7 : DataW.trod enc Try.prog W 0 (fun _ => true) true n2 4 (([a0, a1, a2, a3, a4, a5, a6, a7, a8, a9, q0, q1, q2].drop 8).take (Try.prog.cellsOf 4)) = zs[7]? := hgs 7 _ rfl
  have k8 : DataW.trod enc Try.prog W 0 (fun _ => true) true n2 3 (([a0, a1, a2, a3, a4, a5, a6, a7, a8, a9, q0, q1, q2].drop 9).take (Try.prog.cellsOf 3)) = zs[8]? := hgs 8 _ rfl
  have k9 : DataW.trod enc Try.prog W 0 (fun _ => true) true n2 26 (([a0, a1, a2, a3, a4, a5, a6, a7, a8, a9, q0, q1, q2].drop 10).take (Try.prog.cellsOf 26)) = zs[9]? := hgs 9 _ rfl
  rw [cells3] at k0 k1 k2 k3 k6 k8
  rw [cells23] at k4
  rw [cells24] at k5
  rw [cells4] at k7
  rw [cells26] at k9
  obtain ⟨t0, t1, t2, t3, t4, t5, t6, t7, t8, t9, rfl⟩ := ten zs hzl
  simp only [List.drop_zero, List.drop_succ_cons, List.take_succ_cons, List.take_zero, List.getElem?_cons_zero, List.getElem?_cons_succ] at k0 k1 k2 k3 k4 k5 k6 k7 k8 k9
  obtain ⟨m0', h0, _, _⟩ := DataW.trod_int Try.underlying3 k0
  obtain ⟨m1, h1, _, _⟩ := DataW.trod_int Try.underlying3 k1
  obtain ⟨m2, h2, _, _⟩ := DataW.trod_int Try.underlying3 k2
  obtain ⟨m3, h3, _, _⟩ := DataW.trod_int Try.underlying3 k3
  obtain ⟨m4, m5, h4, h5⟩ := spot_cells k4
  obtain ⟨ea, ec, l, h6, hcc, hg, hx5⟩ := ents_cells k5
  obtain ⟨m7, h7, _, _⟩ := DataW.trod_int Try.underlying3 k6
  obtain ⟨m8, h8, _⟩ := DataW.trod_bool Try.underlying4 k7
  obtain ⟨m9, h9, _, _⟩ := DataW.trod_int Try.underlying3 k8
  obtain ⟨m10, m11, m12, h10, h11, h12⟩ := snap_cells k9
  simp only [List.cons.injEq, and_true] at h0 h1 h2 h3 h7 h8 h9
  subst h0 h1 h2 h3 h4 h5 h6 h7 h8 h9 h10 h11 h12
  have hlen : l.length * 32 ≤ 140737488355328 := by
    rcases hx5 with ⟨_, rfl⟩ | ⟨el, sp, hel, hll⟩
    · simp
    · have hd' : d = .agg [t0.1, t1.1, t2.1, t3.1, t4.1, t5.1, t6.1, t7.1, t8.1, t9.1] := by
        have h3 := hd
        simp at h3
        exact h3.1
      rw [hel] at hd'
      subst hd'
      have hw := List.all_eq_true.1 hall _ (DataW.weights_mem_each hts hds ((el.length + sp.length) * Try.prog.bytesOf 41) (by simp [DataW.weights, DataW.weightsEach, Try.underlying28, Try.underlying24]))
      have hr : reachBytes < 2 ^ 47 := reachBytes_lt
      have e3 : (2 : Nat) ^ 47 = 140737488355328 := by decide
      have hw2 : (el.length + sp.length) * 32 ≤ reachBytes := by rw [bytes41] at hw; simpa using hw
      omega
  refine ⟨⟨m0', m1, m2, m3, m4, m5, ea, l.length, ec, m7, m8, m9, m10, m11, m12⟩, l, ?_, ?_, rfl, by omega⟩
  · have ecs : cs = #[.int .i64 m0', .int .i64 m1, .int .i64 m2, .int .i64 m3, .int .i64 m4, .int .i64 m5, .slice ea l.length ec, .int .i64 m7, .bool m8, .int .i64 m9, .int .i64 m10, .int .i64 m11, .string m12] := by
      rw [← Array.toArray_toList (xs := cs), e]
    rw [ecs]
    rfl
  · exact ⟨hlen, ea, ec, rfl, hcc, hg⟩
end Go.Proofs.Ytagfolckodpioaa.K2
