/- What net's reader answers for a message. -/
import Derived.Test.YtagfolckodpioaaEnts
import Derived.Test.YtagfolckodpioaaMayBe
namespace Go.Proofs.Ytagfolckodpioaa
open Go.RowKit

/-- A message while it is read: the result's block, the message's own, the reader. -/
structure MsgAt (w : World) (r : Nat) (s : ByteArray) (st : Nat × Bool) (m : MsgV) (wx : World) : Prop where
  zero : wx.heap[w.heap.size]? = some (.cells (msgC ⟨0, 0, 0, 0, 0, 0, none, 0, 0, 0, false, 0, 0, 0, ⟨#[]⟩⟩) 28 (0, 0))
  mine : wx.heap[w.heap.size + 1]? = some (.cells (msgC m) 28 (0, 0))
  rd : Rd wx r s st
  out : Out (fun k => k = r) w wx
  lt : r < w.heap.size
theorem MsgAt.size {w wx : World} {r : Nat} {s : ByteArray} {st : Nat × Bool} {m : MsgV} (h : MsgAt w r s st m wx) : w.heap.size + 2 ≤ wx.heap.size := (Array.getElem?_eq_some_iff.1 h.mine).1
theorem MsgAt.step {w wx wy : World} {r : Nat} {s : ByteArray} {st st' : Nat × Bool} {m : MsgV} (h : MsgAt w r s st m wx) (hr : Rd wy r s st') (ho : Out (fun k => k = r) wx wy) : MsgAt w r s st' m wy := by
  have h1 := h.size
  have h2 := h.lt
  exact ⟨(ho.block _ (by omega) (by omega)).trans h.zero, (ho.block _ (by omega) (by omega)).trans h.mine, hr, h.out.trans ho (fun _ _ h => h), h2⟩
theorem MsgAt.put {w wx : World} {r : Nat} {s : ByteArray} {st : Nat × Bool} {m m' : MsgV} (h : MsgAt w r s st m wx) (j : Nat) (v : Value) (hm : (msgC m).setIfInBounds j v = msgC m') : MsgAt w r s st m' (wx.setCell ⟨w.heap.size + 1, j, none⟩ v) := by
  have h1 := h.size
  have h2 := h.lt
  refine ⟨(heap_set_other _ _ _ _ _ (by omega)).trans h.zero, hm ▸ heap_set h.mine j v, (heap_set_other _ _ _ _ _ (by omega)).trans h.rd, ?_, h2⟩
  refine ⟨h.out.os, h.out.tape, h.out.output, by simpa using h.out.size, fun i hi hn => ?_⟩
  rw [heap_set_other _ _ _ _ _ (by omega)]
  exact h.out.block i hi hn
theorem MsgAt.start {w : World} {r : Nat} {s : ByteArray} {st : Nat × Bool} (h : Rd w r s st) : MsgAt w r s st ⟨0, 0, 0, 0, 0, 0, none, 0, 0, 0, false, 0, 0, 0, ⟨#[]⟩⟩ ((w.alloc (.cells (msgC ⟨0, 0, 0, 0, 0, 0, none, 0, 0, 0, false, 0, 0, 0, ⟨#[]⟩⟩) 28)).alloc (.cells (msgC ⟨0, 0, 0, 0, 0, 0, none, 0, 0, 0, false, 0, 0, 0, ⟨#[]⟩⟩) 28)) := by
  have hlt := rdAt_lt h
  refine ⟨?_, ?_, ?_, ?_, hlt⟩
  · rw [heap_alloc_old _ _ (by simp)]
    exact heap_alloc_new w _
  · have e : w.heap.size + 1 = (w.alloc (.cells (msgC ⟨0, 0, 0, 0, 0, 0, none, 0, 0, 0, false, 0, 0, 0, ⟨#[]⟩⟩) 28)).heap.size := by simp
    rw [e]
    exact heap_alloc_new _ _
  · show _ = _
    rw [heap_alloc_old _ _ (by simp; omega), heap_alloc_old _ _ hlt]
    exact h
  · exact (Out.ofAlloc w _).trans (Out.ofAlloc _ _) (fun _ _ h => h)
def withE (m : MsgV) (a : Option Addr) (n c : Nat) : MsgV := ⟨m.kind, m.frm, m.dst, m.term, m.pi, m.pt, a, n, c, m.commit, m.ok, m.mtch, m.si, m.st, m.text⟩
/-- A message comes back, its entries in memory from B on; the reader stands behind it. -/
def MsgBack (x : MsgV × List EntV × (Nat × Bool)) (r : Nat) (s : ByteArray) (w : World) (e : Ending) (w' : World) : Prop :=
  ∃ a c, e = .returned (.agg (msgC (withE x.1 a x.2.1.length c))) ∧ w'.ownsRow w.heap.size 41 3 (.slice a x.2.1.length c) x.2.1.length (entC x.2.1) ∧ Rd w' r s x.2.2 ∧ Out (fun k => k = r) w w'
def hdV (k f d t : Nat) : MsgV := ⟨(k : Int), (f : Int), (d : Int), (t : Int), 0, 0, none, 0, 0, 0, false, 0, 0, 0, ⟨#[]⟩⟩
/-- What stands behind the head, by the kind. -/
def rbody (l : List UInt8) (k f d t : Nat) (st : Nat × Bool) : MsgV × List EntV × (Nat × Bool) :=
  if k = 1 then (⟨(k : Int), (f : Int), (d : Int), (t : Int), ((rspot l st).1.1 : Int), ((rspot l st).1.2 : Int), none, 0, 0, 0, false, 0, 0, 0, ⟨#[]⟩⟩, [], (rspot l st).2)
  else if k = 2 then (⟨(k : Int), (f : Int), (d : Int), (t : Int), 0, 0, none, 0, 0, 0, (rflag l st).1, 0, 0, 0, ⟨#[]⟩⟩, [], (rflag l st).2)
  else if k = 3 then (⟨(k : Int), (f : Int), (d : Int), (t : Int), ((rspot l st).1.1 : Int), ((rspot l st).1.2 : Int), none, 0, 0, ((rnum l (rspot l st).2).1 : Int), false, 0, 0, 0, ⟨#[]⟩⟩, (rentries l (rnum l (rspot l st).2).2).1, (rentries l (rnum l (rspot l st).2).2).2)
  else if k = 4 then (⟨(k : Int), (f : Int), (d : Int), (t : Int), 0, 0, none, 0, 0, 0, (rflag l st).1, ((rnum l (rflag l st).2).1 : Int), 0, 0, ⟨#[]⟩⟩, [], (rnum l (rflag l st).2).2)
  else if k = 5 then (⟨(k : Int), (f : Int), (d : Int), (t : Int), 0, 0, none, 0, 0, 0, false, 0, ((rspot l st).1.1 : Int), ((rspot l st).1.2 : Int), ⟨(rpiece l (rspot l st).2).1.toArray⟩⟩, [], (rpiece l (rspot l st).2).2)
  else (hdV k f d t, [], st)
def rmsg (l : List UInt8) (st : Nat × Bool) : MsgV × List EntV × (Nat × Bool) :=
  rbody l (rnum l st).1 (rnum l (rnum l st).2).1 (rnum l (rnum l (rnum l st).2).2).1 (rnum l (rnum l (rnum l (rnum l st).2).2).2).1 (rnum l (rnum l (rnum l (rnum l st).2).2).2).2
theorem own_slice {w : World} {B n : Nat} {v : Value} {xs : List Value} (h : w.ownsRow B 41 3 v n xs) : ∃ a c, v = .slice a n c := by
  obtain ⟨_, ⟨rfl, rfl⟩ | ⟨g, cap, cur, rfl, _⟩⟩ := h
  · exact ⟨none, 0, rfl⟩
  · exact ⟨_, cap, rfl⟩
theorem own_low {w : World} {B B' : Nat} {e : TypeId} {z : Nat} {v : Value} {n : Nat} {xs : List Value} (h : w.ownsRow B e z v n xs) (hB : B' ≤ B) : w.ownsRow B' e z v n xs := by
  refine ⟨h.1, ?_⟩
  rcases h.2 with h | ⟨g, cap, cur, hv, hb, r⟩
  · exact .inl h
  · exact .inr ⟨g, cap, cur, hv, by omega, r⟩
theorem own_none (w : World) (B : Nat) : w.ownsRow B 41 3 (.slice none 0 0) 0 (entC []) := ⟨rfl, .inl ⟨rfl, rfl⟩⟩
theorem put1 {wc w0 : World} {b : Nat} {cs cs' : Array Value} (h : w0.heap[b]? = some (.cells cs 28 (0, 0)) ∧ Out (fun k => k = b) wc w0) (j : Nat) (v : Value) (e : cs.setIfInBounds j v = cs') : (w0.setCell ⟨b, j, none⟩ v).heap[b]? = some (.cells cs' 28 (0, 0)) ∧ Out (fun k => k = b) wc (w0.setCell ⟨b, j, none⟩ v) :=
  ⟨e ▸ heap_set h.1 j v, h.2.trans (Out.ofSet (F := fun k => k = b) w0 ⟨b, j, none⟩ v rfl) (fun _ _ h => h)⟩
/-- All thirteen cells of a message's block are written. -/
theorem put13 (wc : World) (b : Nat) (v0 v1 v2 v3 v4 v5 v6 v7 v8 v9 v10 v11 v12 : Value) {z0 z1 z2 z3 z4 z5 z6 z7 z8 z9 z10 z11 z12 : Value} (h : wc.heap[b]? = some (.cells #[z0, z1, z2, z3, z4, z5, z6, z7, z8, z9, z10, z11, z12] 28 (0, 0))) :
    (((((((((((((wc.setCell ⟨b, 0, none⟩ v0).setCell ⟨b, 1, none⟩ v1).setCell ⟨b, 2, none⟩ v2).setCell ⟨b, 3, none⟩ v3).setCell ⟨b, 4, none⟩ v4).setCell ⟨b, 5, none⟩ v5).setCell ⟨b, 6, none⟩ v6).setCell ⟨b, 7, none⟩ v7).setCell ⟨b, 8, none⟩ v8).setCell ⟨b, 9, none⟩ v9).setCell ⟨b, 10, none⟩ v10).setCell ⟨b, 11, none⟩ v11).setCell ⟨b, 12, none⟩ v12).heap[b]? = some (.cells #[v0, v1, v2, v3, v4, v5, v6, v7, v8, v9, v10, v11, v12] 28 (0, 0)) ∧ Out (fun k => k = b) wc (((((((((((((wc.setCell ⟨b, 0, none⟩ v0).setCell ⟨b, 1, none⟩ v1).setCell ⟨b, 2, none⟩ v2).setCell ⟨b, 3, none⟩ v3).setCell ⟨b, 4, none⟩ v4).setCell ⟨b, 5, none⟩ v5).setCell ⟨b, 6, none⟩ v6).setCell ⟨b, 7, none⟩ v7).setCell ⟨b, 8, none⟩ v8).setCell ⟨b, 9, none⟩ v9).setCell ⟨b, 10, none⟩ v10).setCell ⟨b, 11, none⟩ v11).setCell ⟨b, 12, none⟩ v12) := by
  have h0 := And.intro h (Out.refl (fun k => k = b) wc)
  have h1 := put1 h0 0 v0 (cs' := #[v0, z1, z2, z3, z4, z5, z6, z7, z8, z9, z10, z11, z12]) rfl
  have h2 := put1 h1 1 v1 (cs' := #[v0, v1, z2, z3, z4, z5, z6, z7, z8, z9, z10, z11, z12]) rfl
  have h3 := put1 h2 2 v2 (cs' := #[v0, v1, v2, z3, z4, z5, z6, z7, z8, z9, z10, z11, z12]) rfl
  have h4 := put1 h3 3 v3 (cs' := #[v0, v1, v2, v3, z4, z5, z6, z7, z8, z9, z10, z11, z12]) rfl
  have h5 := put1 h4 4 v4 (cs' := #[v0, v1, v2, v3, v4, z5, z6, z7, z8, z9, z10, z11, z12]) rfl
  have h6 := put1 h5 5 v5 (cs' := #[v0, v1, v2, v3, v4, v5, z6, z7, z8, z9, z10, z11, z12]) rfl
  have h7 := put1 h6 6 v6 (cs' := #[v0, v1, v2, v3, v4, v5, v6, z7, z8, z9, z10, z11, z12]) rfl
  have h8 := put1 h7 7 v7 (cs' := #[v0, v1, v2, v3, v4, v5, v6, v7, z8, z9, z10, z11, z12]) rfl
  have h9 := put1 h8 8 v8 (cs' := #[v0, v1, v2, v3, v4, v5, v6, v7, v8, z9, z10, z11, z12]) rfl
  have h10 := put1 h9 9 v9 (cs' := #[v0, v1, v2, v3, v4, v5, v6, v7, v8, v9, z10, z11, z12]) rfl
  have h11 := put1 h10 10 v10 (cs' := #[v0, v1, v2, v3, v4, v5, v6, v7, v8, v9, v10, z11, z12]) rfl
  have h12 := put1 h11 11 v11 (cs' := #[v0, v1, v2, v3, v4, v5, v6, v7, v8, v9, v10, v11, z12]) rfl
  have h13 := put1 h12 12 v12 (cs' := #[v0, v1, v2, v3, v4, v5, v6, v7, v8, v9, v10, v11, v12]) rfl
  exact h13
/-- The message as it stands behind the switch. -/
def MidM (w : World) (r : Nat) (s : ByteArray) (x : MsgV × List EntV × (Nat × Bool)) (wx : World) : Prop :=
  ∃ a c, MsgAt w r s x.2.2 (withE x.1 a x.2.1.length c) wx ∧ wx.ownsRow (w.heap.size + 2) 41 3 (.slice a x.2.1.length c) x.2.1.length (entC x.2.1)
set_option maxHeartbeats 8000000 in
set_option maxRecDepth 100000 in
theorem rmsg_any (r : Nat) (s : ByteArray) (st : Nat × Bool) (w : World) (hs : s.size ≤ maxLen) (h : Rd w r s st) :
    Calls Try.prog 78 #[.pointer (some ⟨r, 0, none⟩)] w (MsgBack (rmsg s.data.toList st) r s w) := by
  have HN := hideIt (fun W st h => rnum_any r s st W hs h)
  have HS := hideIt (fun W st h => rspot_any r s st W hs h)
  have HF := hideIt (fun W st h => rflag_any r s st W hs h)
  have HE := hideIt (fun W st h => rentries_any r s st W hs h)
  have HP := hideIt (fun W st h => rpiece_any r s st W hs h)
  have M0 := hideIt (MsgAt.start h)
  unfold rmsg
  obtain ⟨k, s1, e1⟩ : ∃ x y, rnum s.data.toList st = (x, y) := ⟨_, _, rfl⟩
  obtain ⟨f, s2, e2⟩ : ∃ x y, rnum s.data.toList s1 = (x, y) := ⟨_, _, rfl⟩
  obtain ⟨d, s3, e3⟩ : ∃ x y, rnum s.data.toList s2 = (x, y) := ⟨_, _, rfl⟩
  obtain ⟨t, s4, e4⟩ : ∃ x y, rnum s.data.toList s3 = (x, y) := ⟨_, _, rfl⟩
  have h1 := fun W hW => HN.out W st hW
  have h2 := fun W hW => HN.out W s1 hW
  have h3 := fun W hW => HN.out W s2 hW
  have h4 := fun W hW => HN.out W s3 hW
  simp only [e1, e2, e3, e4] at h1 h2 h3 h4 ⊢
  have H1 := hideIt h1
  have H2 := hideIt h2
  have H3 := hideIt h3
  have H4 := hideIt h4
  clear h h1 h2 h3 h4 e1 e2 e3 e4
  obtain ⟨X, hX⟩ : ∃ X, rbody s.data.toList k f d t s4 = X := ⟨_, rfl⟩
  rw [hX]
  have HX := hideIt hX
  clear hX
  simp only [msgC] at M0
  go_enter Try.func78, Try.ntmps78
  go_wp2_with fail
  refine (H1.out _ M0.out.rd).mono ?_
  rintro e w1 ⟨rfl, hr, ho⟩
  dsimp only
  have ms := M0.out.step hr ho
  have dc : w1.cell? ⟨w.heap.size + 1, 0, none⟩ = some (.int .i64 0) := by rw [cell_at ms.mine]; rfl
  have fc : w1.frozen? ⟨w.heap.size + 1, 0, none⟩ = false := free_at ms.mine _
  have M1 := hideIt (ms.put 0 (.int .i64 (k : Int)) (m' := ⟨(k : Int), 0, 0, 0, 0, 0, none, 0, 0, 0, false, 0, 0, 0, ⟨#[]⟩⟩) rfl)
  clear hr ho ms M0 H1
  go_wp2_with fail
  clear dc fc
  refine (H2.out _ M1.out.rd).mono ?_
  rintro e w2 ⟨rfl, hr, ho⟩
  dsimp only
  have ms := M1.out.step hr ho
  have dc : w2.cell? ⟨w.heap.size + 1, 1, none⟩ = some (.int .i64 0) := by rw [cell_at ms.mine]; rfl
  have fc : w2.frozen? ⟨w.heap.size + 1, 1, none⟩ = false := free_at ms.mine _
  have M2 := hideIt (ms.put 1 (.int .i64 (f : Int)) (m' := ⟨(k : Int), (f : Int), 0, 0, 0, 0, none, 0, 0, 0, false, 0, 0, 0, ⟨#[]⟩⟩) rfl)
  clear hr ho ms M1 H2
  go_wp2_with fail
  clear dc fc
  refine (H3.out _ M2.out.rd).mono ?_
  rintro e w3 ⟨rfl, hr, ho⟩
  dsimp only
  have ms := M2.out.step hr ho
  have dc : w3.cell? ⟨w.heap.size + 1, 2, none⟩ = some (.int .i64 0) := by rw [cell_at ms.mine]; rfl
  have fc : w3.frozen? ⟨w.heap.size + 1, 2, none⟩ = false := free_at ms.mine _
  have M3 := hideIt (ms.put 2 (.int .i64 (d : Int)) (m' := ⟨(k : Int), (f : Int), (d : Int), 0, 0, 0, none, 0, 0, 0, false, 0, 0, 0, ⟨#[]⟩⟩) rfl)
  clear hr ho ms M2 H3
  go_wp2_with fail
  clear dc fc
  refine (H4.out _ M3.out.rd).mono ?_
  rintro e w4 ⟨rfl, hr, ho⟩
  dsimp only
  have ms := M3.out.step hr ho
  have dc : w4.cell? ⟨w.heap.size + 1, 3, none⟩ = some (.int .i64 0) := by rw [cell_at ms.mine]; rfl
  have fc : w4.frozen? ⟨w.heap.size + 1, 3, none⟩ = false := free_at ms.mine _
  have M4 := hideIt (ms.put 3 (.int .i64 (t : Int)) (m' := ⟨(k : Int), (f : Int), (d : Int), (t : Int), 0, 0, none, 0, 0, 0, false, 0, 0, 0, ⟨#[]⟩⟩) rfl)
  clear hr ho ms M3 H4
  have dk : (w4.setCell ⟨w.heap.size + 1, 3, none⟩ (.int .i64 (t : Int))).cell? ⟨w.heap.size + 1, 0, none⟩ = some (.int .i64 (k : Int)) := by rw [cell_at M4.out.mine]; rfl
  go_upto_block 0 with fail
  have MW := M4
  clear dc fc dk M4
  generalize w4.setCell ⟨w.heap.size + 1, 3, none⟩ (.int .i64 (t : Int)) = W4 at *
  go_cut [18] from 18 to 56 (fun _ wx => Hid (MidM w r s X wx))
  case first =>
    by_cases hk1 : k = 1
    · have q1 : ((k : Int) == 1) = true := beq_iff_eq.2 (by omega)
      obtain ⟨⟨x0a, x0b⟩, s5, e5⟩ : ∃ x y, rspot s.data.toList s4 = (x, y) := ⟨_, _, rfl⟩
      have c0 := fun W hW => HS.out W s4 hW
      have hX := HX.out
      simp only [rbody, if_pos hk1, e5] at hX
      simp only [e5] at c0
      have C0 := hideIt c0
      have HX2 := hideIt hX
      clear hX HX c0 e5 HN HS HF HE HP
      go_wp2_with fail
      refine (C0.out _ MW.out.rd).mono ?_
      rintro e w5 ⟨rfl, hr, ho⟩
      dsimp only
      have ms := MW.out.step hr ho
      have dc4 : w5.cell? ⟨w.heap.size + 1, 4, none⟩ = some (.int .i64 0) := by rw [cell_at ms.mine]; rfl
      have fc4 : w5.frozen? ⟨w.heap.size + 1, 4, none⟩ = false := free_at ms.mine _
      have dc5 : w5.cell? ⟨w.heap.size + 1, 5, none⟩ = some (.int .i64 0) := by rw [cell_at ms.mine]; rfl
      have fc5 : w5.frozen? ⟨w.heap.size + 1, 5, none⟩ = false := free_at ms.mine _
      have ms2 := ms.put 4 (.int .i64 (x0a : Int)) (m' := ⟨(k : Int), (f : Int), (d : Int), (t : Int), (x0a : Int), 0, none, 0, 0, 0, false, 0, 0, 0, ⟨#[]⟩⟩) rfl
      have M5 := hideIt (ms2.put 5 (.int .i64 (x0b : Int)) (m' := ⟨(k : Int), (f : Int), (d : Int), (t : Int), (x0a : Int), (x0b : Int), none, 0, 0, 0, false, 0, 0, 0, ⟨#[]⟩⟩) rfl)
      clear ms2
      clear hr ho ms MW C0
      go_wp2_with fail
      go_meet
      rw [← HX2.out]
      exact hideIt ⟨none, 0, M5.out, own_none _ _⟩
    by_cases hk2 : k = 2
    · have q1 : ((k : Int) == 1) = false := beq_eq_false_iff_ne.2 (by omega)
      have q2 : ((k : Int) == 2) = true := beq_iff_eq.2 (by omega)
      obtain ⟨x0, s5, e5⟩ : ∃ x y, rflag s.data.toList s4 = (x, y) := ⟨_, _, rfl⟩
      have c0 := fun W hW => HF.out W s4 hW
      have hX := HX.out
      simp only [rbody, if_neg hk1, if_pos hk2, e5] at hX
      simp only [e5] at c0
      have C0 := hideIt c0
      have HX2 := hideIt hX
      clear hX HX c0 e5 HN HS HF HE HP
      go_wp2_with fail
      refine (C0.out _ MW.out.rd).mono ?_
      rintro e w5 ⟨rfl, hr, ho⟩
      dsimp only
      have ms := MW.out.step hr ho
      have dc8 : w5.cell? ⟨w.heap.size + 1, 8, none⟩ = some (.bool false) := by rw [cell_at ms.mine]; rfl
      have fc8 : w5.frozen? ⟨w.heap.size + 1, 8, none⟩ = false := free_at ms.mine _
      have M5 := hideIt (ms.put 8 (.bool x0) (m' := ⟨(k : Int), (f : Int), (d : Int), (t : Int), 0, 0, none, 0, 0, 0, x0, 0, 0, 0, ⟨#[]⟩⟩) rfl)
      clear hr ho ms MW C0
      go_wp2_with fail
      go_meet
      rw [← HX2.out]
      exact hideIt ⟨none, 0, M5.out, own_none _ _⟩
    by_cases hk3 : k = 3
    · have q1 : ((k : Int) == 1) = false := beq_eq_false_iff_ne.2 (by omega)
      have q2 : ((k : Int) == 2) = false := beq_eq_false_iff_ne.2 (by omega)
      have q3 : ((k : Int) == 3) = true := beq_iff_eq.2 (by omega)
      obtain ⟨⟨x0a, x0b⟩, s5, e5⟩ : ∃ x y, rspot s.data.toList s4 = (x, y) := ⟨_, _, rfl⟩
      have c0 := fun W hW => HS.out W s4 hW
      obtain ⟨x1, s6, e6⟩ : ∃ x y, rnum s.data.toList s5 = (x, y) := ⟨_, _, rfl⟩
      have c1 := fun W hW => HN.out W s5 hW
      obtain ⟨x2, s7, e7⟩ : ∃ x y, rentries s.data.toList s6 = (x, y) := ⟨_, _, rfl⟩
      have c2 := fun W hW => HE.out W s6 hW
      have hX := HX.out
      simp only [rbody, if_neg hk1, if_neg hk2, if_pos hk3, e5, e6, e7] at hX
      simp only [e5, e6, e7] at c0 c1 c2
      have C0 := hideIt c0
      have C1 := hideIt c1
      have C2 := hideIt c2
      have HX2 := hideIt hX
      clear hX HX c0 c1 c2 e5 e6 e7 HN HS HF HE HP
      go_wp2_with fail
      refine (C0.out _ MW.out.rd).mono ?_
      rintro e w5 ⟨rfl, hr, ho⟩
      dsimp only
      have ms := MW.out.step hr ho
      have dc4 : w5.cell? ⟨w.heap.size + 1, 4, none⟩ = some (.int .i64 0) := by rw [cell_at ms.mine]; rfl
      have fc4 : w5.frozen? ⟨w.heap.size + 1, 4, none⟩ = false := free_at ms.mine _
      have dc5 : w5.cell? ⟨w.heap.size + 1, 5, none⟩ = some (.int .i64 0) := by rw [cell_at ms.mine]; rfl
      have fc5 : w5.frozen? ⟨w.heap.size + 1, 5, none⟩ = false := free_at ms.mine _
      have ms2 := ms.put 4 (.int .i64 (x0a : Int)) (m' := ⟨(k : Int), (f : Int), (d : Int), (t : Int), (x0a : Int), 0, none, 0, 0, 0, false, 0, 0, 0, ⟨#[]⟩⟩) rfl
      have M5 := hideIt (ms2.put 5 (.int .i64 (x0b : Int)) (m' := ⟨(k : Int), (f : Int), (d : Int), (t : Int), (x0a : Int), (x0b : Int), none, 0, 0, 0, false, 0, 0, 0, ⟨#[]⟩⟩) rfl)
      clear ms2
      clear hr ho ms MW C0
      go_wp2_with fail
      clear dc4 fc4 dc5 fc5
      refine (C1.out _ M5.out.rd).mono ?_
      rintro e w6 ⟨rfl, hr, ho⟩
      dsimp only
      have ms := M5.out.step hr ho
      have dc7 : w6.cell? ⟨w.heap.size + 1, 7, none⟩ = some (.int .i64 0) := by rw [cell_at ms.mine]; rfl
      have fc7 : w6.frozen? ⟨w.heap.size + 1, 7, none⟩ = false := free_at ms.mine _
      have M6 := hideIt (ms.put 7 (.int .i64 (x1 : Int)) (m' := ⟨(k : Int), (f : Int), (d : Int), (t : Int), (x0a : Int), (x0b : Int), none, 0, 0, (x1 : Int), false, 0, 0, 0, ⟨#[]⟩⟩) rfl)
      clear hr ho ms M5 C1
      go_wp2_with fail
      clear dc7 fc7
      refine (C2.out _ M6.out.rd).mono ?_
      rintro e w7 ⟨v, rfl, hown, hr, ho⟩
      obtain ⟨a, c, rfl⟩ := own_slice hown
      dsimp only
      have hbase := M6.out.size
      have ms := M6.out.step hr ho
      have dc6 : w7.cell? ⟨w.heap.size + 1, 6, none⟩ = some (.slice none 0 0) := by rw [cell_at ms.mine]; rfl
      have fc6 : w7.frozen? ⟨w.heap.size + 1, 6, none⟩ = false := free_at ms.mine _
      have HOW := hideIt (own_out (own_low hown (B' := w.heap.size + 2) (by simpa using hbase)) (Out.ofSet (F := fun k => k = w.heap.size + 1) w7 ⟨w.heap.size + 1, 6, none⟩ (.slice a x2.length c) rfl) (fun k hk => by omega))
      have M7 := hideIt (ms.put 6 (.slice a x2.length c) (m' := ⟨(k : Int), (f : Int), (d : Int), (t : Int), (x0a : Int), (x0b : Int), a, x2.length, c, (x1 : Int), false, 0, 0, 0, ⟨#[]⟩⟩) rfl)
      clear hown hbase
      clear hr ho ms M6 C2
      go_wp2_with fail
      go_meet
      rw [← HX2.out]
      exact hideIt ⟨a, c, M7.out, HOW.out⟩
    by_cases hk4 : k = 4
    · have q1 : ((k : Int) == 1) = false := beq_eq_false_iff_ne.2 (by omega)
      have q2 : ((k : Int) == 2) = false := beq_eq_false_iff_ne.2 (by omega)
      have q3 : ((k : Int) == 3) = false := beq_eq_false_iff_ne.2 (by omega)
      have q4 : ((k : Int) == 4) = true := beq_iff_eq.2 (by omega)
      obtain ⟨x0, s5, e5⟩ : ∃ x y, rflag s.data.toList s4 = (x, y) := ⟨_, _, rfl⟩
      have c0 := fun W hW => HF.out W s4 hW
      obtain ⟨x1, s6, e6⟩ : ∃ x y, rnum s.data.toList s5 = (x, y) := ⟨_, _, rfl⟩
      have c1 := fun W hW => HN.out W s5 hW
      have hX := HX.out
      simp only [rbody, if_neg hk1, if_neg hk2, if_neg hk3, if_pos hk4, e5, e6] at hX
      simp only [e5, e6] at c0 c1
      have C0 := hideIt c0
      have C1 := hideIt c1
      have HX2 := hideIt hX
      clear hX HX c0 c1 e5 e6 HN HS HF HE HP
      go_wp2_with fail
      refine (C0.out _ MW.out.rd).mono ?_
      rintro e w5 ⟨rfl, hr, ho⟩
      dsimp only
      have ms := MW.out.step hr ho
      have dc8 : w5.cell? ⟨w.heap.size + 1, 8, none⟩ = some (.bool false) := by rw [cell_at ms.mine]; rfl
      have fc8 : w5.frozen? ⟨w.heap.size + 1, 8, none⟩ = false := free_at ms.mine _
      have M5 := hideIt (ms.put 8 (.bool x0) (m' := ⟨(k : Int), (f : Int), (d : Int), (t : Int), 0, 0, none, 0, 0, 0, x0, 0, 0, 0, ⟨#[]⟩⟩) rfl)
      clear hr ho ms MW C0
      go_wp2_with fail
      clear dc8 fc8
      refine (C1.out _ M5.out.rd).mono ?_
      rintro e w6 ⟨rfl, hr, ho⟩
      dsimp only
      have ms := M5.out.step hr ho
      have dc9 : w6.cell? ⟨w.heap.size + 1, 9, none⟩ = some (.int .i64 0) := by rw [cell_at ms.mine]; rfl
      have fc9 : w6.frozen? ⟨w.heap.size + 1, 9, none⟩ = false := free_at ms.mine _
      have M6 := hideIt (ms.put 9 (.int .i64 (x1 : Int)) (m' := ⟨(k : Int), (f : Int), (d : Int), (t : Int), 0, 0, none, 0, 0, 0, x0, (x1 : Int), 0, 0, ⟨#[]⟩⟩) rfl)
      clear hr ho ms M5 C1
      go_wp2_with fail
      go_meet
      rw [← HX2.out]
      exact hideIt ⟨none, 0, M6.out, own_none _ _⟩
    by_cases hk5 : k = 5
    · have q1 : ((k : Int) == 1) = false := beq_eq_false_iff_ne.2 (by omega)
      have q2 : ((k : Int) == 2) = false := beq_eq_false_iff_ne.2 (by omega)
      have q3 : ((k : Int) == 3) = false := beq_eq_false_iff_ne.2 (by omega)
      have q4 : ((k : Int) == 4) = false := beq_eq_false_iff_ne.2 (by omega)
      have q5 : ((k : Int) == 5) = true := beq_iff_eq.2 (by omega)
      obtain ⟨⟨x0a, x0b⟩, s5, e5⟩ : ∃ x y, rspot s.data.toList s4 = (x, y) := ⟨_, _, rfl⟩
      have c0 := fun W hW => HS.out W s4 hW
      obtain ⟨x1, s6, e6⟩ : ∃ x y, rpiece s.data.toList s5 = (x, y) := ⟨_, _, rfl⟩
      have c1 := fun W hW => HP.out W s5 hW
      have hX := HX.out
      simp only [rbody, if_neg hk1, if_neg hk2, if_neg hk3, if_neg hk4, if_pos hk5, e5, e6] at hX
      simp only [e5, e6] at c0 c1
      have C0 := hideIt c0
      have C1 := hideIt c1
      have HX2 := hideIt hX
      clear hX HX c0 c1 e5 e6 HN HS HF HE HP
      generalize (⟨x1.toArray⟩ : ByteArray) = tx at *
      go_wp2_with fail
      refine (C0.out _ MW.out.rd).mono ?_
      rintro e w5 ⟨rfl, hr, ho⟩
      dsimp only
      have ms := MW.out.step hr ho
      have dc10 : w5.cell? ⟨w.heap.size + 1, 10, none⟩ = some (.int .i64 0) := by rw [cell_at ms.mine]; rfl
      have fc10 : w5.frozen? ⟨w.heap.size + 1, 10, none⟩ = false := free_at ms.mine _
      have dc11 : w5.cell? ⟨w.heap.size + 1, 11, none⟩ = some (.int .i64 0) := by rw [cell_at ms.mine]; rfl
      have fc11 : w5.frozen? ⟨w.heap.size + 1, 11, none⟩ = false := free_at ms.mine _
      have ms2 := ms.put 10 (.int .i64 (x0a : Int)) (m' := ⟨(k : Int), (f : Int), (d : Int), (t : Int), 0, 0, none, 0, 0, 0, false, 0, (x0a : Int), 0, ⟨#[]⟩⟩) rfl
      have M5 := hideIt (ms2.put 11 (.int .i64 (x0b : Int)) (m' := ⟨(k : Int), (f : Int), (d : Int), (t : Int), 0, 0, none, 0, 0, 0, false, 0, (x0a : Int), (x0b : Int), ⟨#[]⟩⟩) rfl)
      clear ms2
      clear hr ho ms MW C0
      go_wp2_with fail
      clear dc10 fc10 dc11 fc11
      refine (C1.out _ M5.out.rd).mono ?_
      rintro e w6 ⟨rfl, hr, ho⟩
      dsimp only
      have ms := M5.out.step hr ho
      have dc12 : w6.cell? ⟨w.heap.size + 1, 12, none⟩ = some (.string ⟨#[]⟩) := by rw [cell_at ms.mine]; rfl
      have fc12 : w6.frozen? ⟨w.heap.size + 1, 12, none⟩ = false := free_at ms.mine _
      have M6 := hideIt (ms.put 12 (.string tx) (m' := ⟨(k : Int), (f : Int), (d : Int), (t : Int), 0, 0, none, 0, 0, 0, false, 0, (x0a : Int), (x0b : Int), tx⟩) rfl)
      clear hr ho ms M5 C1
      go_wp2_with fail
      go_meet
      rw [← HX2.out]
      exact hideIt ⟨none, 0, M6.out, own_none _ _⟩
    have q1 : ((k : Int) == 1) = false := beq_eq_false_iff_ne.2 (by omega)
    have q2 : ((k : Int) == 2) = false := beq_eq_false_iff_ne.2 (by omega)
    have q3 : ((k : Int) == 3) = false := beq_eq_false_iff_ne.2 (by omega)
    have q4 : ((k : Int) == 4) = false := beq_eq_false_iff_ne.2 (by omega)
    have q5 : ((k : Int) == 5) = false := beq_eq_false_iff_ne.2 (by omega)
    have hX := HX.out
    simp only [rbody, if_neg hk1, if_neg hk2, if_neg hk3, if_neg hk4, if_neg hk5] at hX
    have HX2 := hideIt hX
    clear hX HX  HN HS HF HE HP
    go_wp2_with fail
    go_meet
    rw [← HX2.out]
    exact hideIt ⟨none, 0, MW.out, own_none _ _⟩
  case rest =>
  clear HN HS HF HE HP MW HX
  obtain ⟨a, c, hM, hO⟩ := hcut.out
  obtain ⟨m, es, sf⟩ := X
  simp only at hM hO
  generalize hm : withE m a es.length c = mm at hM
  have hz := hM.zero
  have hmi := hM.mine
  have hm2 : Hid (msgC (withE m a es.length c) = msgC mm) := by show _ = _; rw [hm]
  have HMO := hideIt (And.intro hM hO)
  obtain ⟨kind, frm, dst, term, pi, pt, ea, en, ec, commit, ok, mtch, si, st, text⟩ := mm
  simp only [msgC] at hz hmi
  have d0 : wc.cell? ⟨w.heap.size + 1, 0, none⟩ = some (.int .i64 kind) := by rw [cell_at hmi]; rfl
  have z0 : wc.cell? ⟨w.heap.size, 0, none⟩ = some (.int .i64 0) := by rw [cell_at hz]; rfl
  have g0 : wc.frozen? ⟨w.heap.size, 0, none⟩ = false := free_at hz _
  have d1 : wc.cell? ⟨w.heap.size + 1, 1, none⟩ = some (.int .i64 frm) := by rw [cell_at hmi]; rfl
  have z1 : wc.cell? ⟨w.heap.size, 1, none⟩ = some (.int .i64 0) := by rw [cell_at hz]; rfl
  have g1 : wc.frozen? ⟨w.heap.size, 1, none⟩ = false := free_at hz _
  have d2 : wc.cell? ⟨w.heap.size + 1, 2, none⟩ = some (.int .i64 dst) := by rw [cell_at hmi]; rfl
  have z2 : wc.cell? ⟨w.heap.size, 2, none⟩ = some (.int .i64 0) := by rw [cell_at hz]; rfl
  have g2 : wc.frozen? ⟨w.heap.size, 2, none⟩ = false := free_at hz _
  have d3 : wc.cell? ⟨w.heap.size + 1, 3, none⟩ = some (.int .i64 term) := by rw [cell_at hmi]; rfl
  have z3 : wc.cell? ⟨w.heap.size, 3, none⟩ = some (.int .i64 0) := by rw [cell_at hz]; rfl
  have g3 : wc.frozen? ⟨w.heap.size, 3, none⟩ = false := free_at hz _
  have d4 : wc.cell? ⟨w.heap.size + 1, 4, none⟩ = some (.int .i64 pi) := by rw [cell_at hmi]; rfl
  have z4 : wc.cell? ⟨w.heap.size, 4, none⟩ = some (.int .i64 0) := by rw [cell_at hz]; rfl
  have g4 : wc.frozen? ⟨w.heap.size, 4, none⟩ = false := free_at hz _
  have d5 : wc.cell? ⟨w.heap.size + 1, 5, none⟩ = some (.int .i64 pt) := by rw [cell_at hmi]; rfl
  have z5 : wc.cell? ⟨w.heap.size, 5, none⟩ = some (.int .i64 0) := by rw [cell_at hz]; rfl
  have g5 : wc.frozen? ⟨w.heap.size, 5, none⟩ = false := free_at hz _
  have d6 : wc.cell? ⟨w.heap.size + 1, 6, none⟩ = some (.slice ea en ec) := by rw [cell_at hmi]; rfl
  have z6 : wc.cell? ⟨w.heap.size, 6, none⟩ = some (.slice none 0 0) := by rw [cell_at hz]; rfl
  have g6 : wc.frozen? ⟨w.heap.size, 6, none⟩ = false := free_at hz _
  have d7 : wc.cell? ⟨w.heap.size + 1, 7, none⟩ = some (.int .i64 commit) := by rw [cell_at hmi]; rfl
  have z7 : wc.cell? ⟨w.heap.size, 7, none⟩ = some (.int .i64 0) := by rw [cell_at hz]; rfl
  have g7 : wc.frozen? ⟨w.heap.size, 7, none⟩ = false := free_at hz _
  have d8 : wc.cell? ⟨w.heap.size + 1, 8, none⟩ = some (.bool ok) := by rw [cell_at hmi]; rfl
  have z8 : wc.cell? ⟨w.heap.size, 8, none⟩ = some (.bool false) := by rw [cell_at hz]; rfl
  have g8 : wc.frozen? ⟨w.heap.size, 8, none⟩ = false := free_at hz _
  have d9 : wc.cell? ⟨w.heap.size + 1, 9, none⟩ = some (.int .i64 mtch) := by rw [cell_at hmi]; rfl
  have z9 : wc.cell? ⟨w.heap.size, 9, none⟩ = some (.int .i64 0) := by rw [cell_at hz]; rfl
  have g9 : wc.frozen? ⟨w.heap.size, 9, none⟩ = false := free_at hz _
  have d10 : wc.cell? ⟨w.heap.size + 1, 10, none⟩ = some (.int .i64 si) := by rw [cell_at hmi]; rfl
  have z10 : wc.cell? ⟨w.heap.size, 10, none⟩ = some (.int .i64 0) := by rw [cell_at hz]; rfl
  have g10 : wc.frozen? ⟨w.heap.size, 10, none⟩ = false := free_at hz _
  have d11 : wc.cell? ⟨w.heap.size + 1, 11, none⟩ = some (.int .i64 st) := by rw [cell_at hmi]; rfl
  have z11 : wc.cell? ⟨w.heap.size, 11, none⟩ = some (.int .i64 0) := by rw [cell_at hz]; rfl
  have g11 : wc.frozen? ⟨w.heap.size, 11, none⟩ = false := free_at hz _
  have d12 : wc.cell? ⟨w.heap.size + 1, 12, none⟩ = some (.string text) := by rw [cell_at hmi]; rfl
  have z12 : wc.cell? ⟨w.heap.size, 12, none⟩ = some (.string ⟨#[]⟩) := by rw [cell_at hz]; rfl
  have g12 : wc.frozen? ⟨w.heap.size, 12, none⟩ = false := free_at hz _
  have Hz := hideIt hz
  clear hcut hM hO hm hz hmi
  go_wp2
  obtain ⟨hzz, hoo⟩ := put13 wc w.heap.size (.int .i64 kind) (.int .i64 frm) (.int .i64 dst) (.int .i64 term) (.int .i64 pi) (.int .i64 pt) (.slice ea en ec) (.int .i64 commit) (.bool ok) (.int .i64 mtch) (.int .i64 si) (.int .i64 st) (.string text) Hz.out
  obtain ⟨hM, hO⟩ := HMO.out
  have hlt := hM.lt
  have hsz := hM.size
  refine bodyPost_ret (v := .agg #[.int .i64 kind, .int .i64 frm, .int .i64 dst, .int .i64 term, .int .i64 pi, .int .i64 pt, .slice ea en ec, .int .i64 commit, .bool ok, .int .i64 mtch, .int .i64 si, .int .i64 st, .string text]) (by simp [results, Try.results78, go_sem, cell_at hzz]) rfl ⟨a, c, ?_, ?_, ?_, ?_⟩
  · show Ending.returned (.agg #[.int .i64 kind, .int .i64 frm, .int .i64 dst, .int .i64 term, .int .i64 pi, .int .i64 pt, .slice ea en ec, .int .i64 commit, .bool ok, .int .i64 mtch, .int .i64 si, .int .i64 st, .string text]) = .returned (.agg (msgC (withE m a es.length c)))
    rw [hm2.out]
    rfl
  · exact own_low (own_out hO hoo (fun k hk => by omega)) (by omega)
  · exact (hoo.block r (by omega) (by omega)).trans hM.rd
  · refine hM.out.trans (hoo.mono (G := fun k => k = w.heap.size) (fun _ h => h)) (fun i hi h => ?_)
    omega
end Go.Proofs.Ytagfolckodpioaa
