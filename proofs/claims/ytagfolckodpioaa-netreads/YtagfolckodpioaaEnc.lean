/- What net.Encode answers: the form of a message that may be. -/
import Derived.Test.YtagfolckodpioaaTxt
namespace Go.Proofs.Ytagfolckodpioaa
open Go.RowKit

theorem wiB_iff (x lo hi : Int) : wiB x lo hi = true ↔ lo ≤ x ∧ x ≤ hi := by simp [wiB]
theorem okI_of {x lo hi : Int} (h : wiB x lo hi = true) (hl : 0 ≤ lo) (hh : hi < 9223372036854775808) : okI x := by
  rw [wiB_iff] at h
  exact ⟨by omega, by omega⟩
theorem okI_zero : okI 0 := ⟨by decide, by decide⟩
theorem eqF_true {a b : FldV} (h : eqF a b = true) : a.pi = b.pi ∧ a.pt = b.pt ∧ a.en = b.en ∧ a.commit = b.commit ∧ a.ok = b.ok ∧ a.mtch = b.mtch ∧ a.si = b.si ∧ a.st = b.st ∧ a.text.toList = b.text.toList := by
  simp only [eqF, Bool.and_eq_true, beq_iff_eq] at h
  obtain ⟨⟨⟨⟨⟨⟨⟨⟨h1, h2⟩, h3⟩, h4⟩, h5⟩, h6⟩, h7⟩, h8⟩, h9⟩ := h
  exact ⟨h1, h2, h3, h4, h5, h6, h7, h8, h9⟩
theorem mkB_true {i t : Int} (h : mkB i t = true) : okI i ∧ okI t := by
  simp only [mkB, Bool.and_eq_true] at h
  exact ⟨okI_of h.1.1 (by decide) (by decide), okI_of h.1.2 (by decide) (by decide)⟩
theorem size_nil {x : ByteArray} (h : x.toList = (⟨#[]⟩ : ByteArray).toList) : x.size = 0 := by
  rw [ByteArray.toList_eq, ByteArray.toList_eq] at h
  have := congrArg List.length h
  simpa using this
theorem entB_true {e : EntV} (h : entB e = true) : EntOk e ∧ e.text.size ≤ 4000 := by
  simp only [entB, Bool.and_eq_true, decide_eq_true_eq] at h
  have h1 := okI_of h.1.1 (by decide) (by decide)
  have h2 := okI_of h.1.2 (by decide) (by decide)
  exact ⟨⟨h1.1, h1.2, h2.1, h2.2, by omega⟩, h.2⟩
theorem entL_small {e : EntV} (h : e.text.size ≤ 4000) : (entL e).length ≤ 4030 := by
  have h1 := uintL_len e.term.toNat
  have h2 := uintL_len e.kind.toNat
  have h3 := uintL_len e.text.data.toList.length
  have h4 : e.text.data.toList.length = e.text.size := by simp
  unfold entL textL
  rw [if_pos (by omega)]
  simp only [List.length_append]
  omega
theorem flatE_small : ∀ (ls : List EntV), (∀ e ∈ ls, e.text.size ≤ 4000) → ((ls.map entL).flatten).length ≤ 4030 * ls.length
  | [], _ => by simp
  | e :: ls, h => by
    have h1 := entL_small (h e (by simp))
    have h2 := flatE_small ls (fun x hx => h x (by simp [hx]))
    simp at *
    omega
theorem entsL_small (l : List EntV) (hl : l.length ≤ 16) (h : ∀ e ∈ l, e.text.size ≤ 4000) : (entsL l).length ≤ 64490 := by
  have h1 := uintL_len l.length
  have h2 := flatE_small l h
  have h3 : 4030 * l.length ≤ 4030 * 16 := Nat.mul_le_mul_left _ hl
  unfold entsL gathE
  rw [List.take_of_length_le (Nat.le_refl _), List.length_append]
  omega
theorem headL_len (m : MsgV) : (headL m).length ≤ 40 := by
  have := uI_len m.kind
  have := uI_len m.frm
  have := uI_len m.dst
  have := uI_len m.term
  simp only [headL, List.length_append]
  omega
theorem mayB_ok (m : MsgV) (l : List EntV) (hn : m.en = l.length) (h : mayB m l = true) : MsgOk m l ∧ (bodyL m l).length ≤ 70000 := by
  obtain ⟨kind, frm, dst, term, pi, pt, ea, en, ec, commit, ok, mtch, si, st, text⟩ := m
  simp only at hn
  subst hn
  simp only [mayB, Bool.and_eq_true, headB] at h
  obtain ⟨⟨⟨⟨h1, h2⟩, _⟩, h4⟩, hb⟩ := h
  have f1 := okI_of h1 (by decide) (by decide)
  have f2 := okI_of h2 (by decide) (by decide)
  have f4 := okI_of h4 (by decide) (by decide)
  have hh := headL_len ⟨kind, frm, dst, term, pi, pt, ea, l.length, ec, commit, ok, mtch, si, st, text⟩
  have le5 := uI_len pi
  have le6 := uI_len pt
  have le7 := uI_len commit
  have le8 := uI_len mtch
  have le9 := uI_len si
  have le10 := uI_len st
  have le11 := flagL_len ok
  simp only [bodyB, fOf] at hb
  have none_of : ∀ n : Int, n = 0 → (l.length : Int) = n → l = [] := fun n h1 h2 => List.eq_nil_of_length_eq_zero (by omega)
  by_cases hk1 : kind = 1
  · rw [if_pos hk1, Bool.and_eq_true] at hb
    obtain ⟨e1, e2, e3, e4, e5, e6, e7, e8, e9⟩ := eqF_true hb.1
    obtain ⟨g1, g2⟩ := mkB_true hb.2
    simp only at e1 e2 e3 e4 e5 e6 e7 e8 e9
    have hl := none_of 0 rfl e3
    subst hl e4 e6 e7 e8
    refine ⟨⟨by show okI kind; exact ⟨by omega, by omega⟩, f1, f2, f4, g1, g2, okI_zero, okI_zero, okI_zero, okI_zero, by have := size_nil e9; show text.size ≤ _; omega, by simp, fun i hi => by cases hi⟩, ?_⟩
    unfold bodyL
    rw [if_pos hk1]
    simp only [List.length_append]
    omega
  by_cases hk2 : kind = 2
  · rw [if_neg hk1, if_pos hk2] at hb
    obtain ⟨e1, e2, e3, e4, e5, e6, e7, e8, e9⟩ := eqF_true hb
    simp only at e1 e2 e3 e4 e5 e6 e7 e8 e9
    have hl := none_of 0 rfl e3
    subst hl e1 e2 e4 e6 e7 e8
    refine ⟨⟨by show okI kind; exact ⟨by omega, by omega⟩, f1, f2, f4, okI_zero, okI_zero, okI_zero, okI_zero, okI_zero, okI_zero, by have := size_nil e9; show text.size ≤ _; omega, by simp, fun i hi => by cases hi⟩, ?_⟩
    unfold bodyL
    rw [if_neg hk1, if_pos hk2]
    simp only [List.length_append]
    omega
  by_cases hk3 : kind = 3
  · rw [if_neg hk1, if_neg hk2, if_pos hk3, Bool.and_eq_true, Bool.and_eq_true, Bool.and_eq_true] at hb
    obtain ⟨⟨⟨hb1, hb2⟩, hb3⟩, hb4⟩ := hb
    obtain ⟨e1, e2, e3, e4, e5, e6, e7, e8, e9⟩ := eqF_true hb1
    obtain ⟨g1, g2⟩ := mkB_true hb2
    simp only at e1 e2 e3 e4 e5 e6 e7 e8 e9
    subst e6 e7 e8
    simp only [entsB, Bool.and_eq_true, decide_eq_true_eq, List.all_eq_true] at hb3
    have hes := entsL_small l hb3.1 (fun e he => (entB_true (hb3.2 e he)).2)
    refine ⟨⟨by show okI kind; exact ⟨by omega, by omega⟩, f1, f2, f4, g1, g2, okI_of hb4 (by decide) (by decide), okI_zero, okI_zero, okI_zero, by have := size_nil e9; show text.size ≤ _; omega, hb3.1, fun i hi => (entB_true (hb3.2 _ (List.getElem_mem hi))).1⟩, ?_⟩
    unfold bodyL
    rw [if_neg hk1, if_neg hk2, if_pos hk3]
    simp only [List.length_append]
    omega
  by_cases hk4 : kind = 4
  · rw [if_neg hk1, if_neg hk2, if_neg hk3, if_pos hk4, Bool.and_eq_true] at hb
    obtain ⟨e1, e2, e3, e4, e5, e6, e7, e8, e9⟩ := eqF_true hb.1
    simp only at e1 e2 e3 e4 e5 e6 e7 e8 e9
    have hl := none_of 0 rfl e3
    subst hl e1 e2 e4 e7 e8
    refine ⟨⟨by show okI kind; exact ⟨by omega, by omega⟩, f1, f2, f4, okI_zero, okI_zero, okI_zero, okI_of hb.2 (by decide) (by decide), okI_zero, okI_zero, by have := size_nil e9; show text.size ≤ _; omega, by simp, fun i hi => by cases hi⟩, ?_⟩
    unfold bodyL
    rw [if_neg hk1, if_neg hk2, if_neg hk3, if_pos hk4]
    simp only [List.length_append]
    omega
  by_cases hk5 : kind = 5
  · rw [if_neg hk1, if_neg hk2, if_neg hk3, if_neg hk4, if_pos hk5, Bool.and_eq_true] at hb
    obtain ⟨e1, e2, e3, e4, e5, e6, e7, e8, e9⟩ := eqF_true hb.1
    simp only at e1 e2 e3 e4 e5 e6 e7 e8 e9
    have hl := none_of 0 rfl e3
    subst hl e1 e2 e4 e6
    have hs := hb.2
    simp only [snB, Bool.and_eq_true, decide_eq_true_eq] at hs
    obtain ⟨g1, g2⟩ := mkB_true hs.1.1
    have h50 : text.size ≤ 50000 := hs.2
    have htl : (textL text.data.toList).length ≤ 50010 := by
      have h3 := uintL_len text.data.toList.length
      have h4 : text.data.toList.length = text.size := by simp
      unfold textL
      rw [if_pos (by omega)]
      simp only [List.length_append]
      omega
    refine ⟨⟨by show okI kind; exact ⟨by omega, by omega⟩, f1, f2, f4, okI_zero, okI_zero, okI_zero, okI_zero, g1, g2, by show text.size ≤ _; omega, by simp, fun i hi => by cases hi⟩, ?_⟩
    unfold bodyL
    rw [if_neg hk1, if_neg hk2, if_neg hk3, if_neg hk4, if_pos hk5]
    simp only [List.length_append]
    omega
  rw [if_neg hk1, if_neg hk2, if_neg hk3, if_neg hk4, if_neg hk5] at hb
  cases hb
/-- What Encode answers. -/
def encL (m : MsgV) (l : List EntV) : List UInt8 := if mayB m l = true then frameL (bodyL m l) else []
def encE (m : MsgV) (l : List EntV) : Nat := if mayB m l = true then 0 else 52
set_option maxHeartbeats 2000000 in
theorem encode_is (m : MsgV) (l : List EntV) (w : World) (hl : EntsAt w m.ea l) (hn : m.en = l.length) :
    Calls Try.prog 9 #[.agg (msgC m)] w fun e w' => e = .returned (.tuple #[.string ⟨(encL m l).toArray⟩, .int .i64 (encE m l : Int)]) ∧ Below w.heap.size w w' := by
  unfold encL encE
  have hXB : Below w.heap.size w (w.alloc (.cells (msgC m) 28)) := (Below.refl _ _).alloc (Nat.le_refl _) _
  have HM := hideIt (mayBe_is m l (w.alloc (.cells (msgC m) 28)) (hl.below hXB (Nat.le_refl _)) hn)
  have HXB := hideIt hXB
  cases hmay : mayB m l
  · rw [hmay] at HM
    clear hl hn hmay hXB
    obtain ⟨kind, frm, dst, term, pi, pt, ea, en, ec, commit, ok, mtch, si, st, text⟩ := m
    simp only [msgC] at HM HXB ⊢
    go_enter Try.func9, Try.ntmps9
    go_wp2_with fail
    refine HM.out.mono ?_
    rintro e w1 ⟨rfl, hb1⟩
    dsimp only
    have HB1 := hideIt (HXB.out.trans (hb1.mono (by simp)))
    clear hb1
    go_wp2
    go_ret2
    exact ⟨rfl, HB1.out⟩
  · rw [hmay] at HM
    obtain ⟨hok, hlen⟩ := mayB_ok m l hn hmay
    have HT : Hid (∀ wx, Below w.heap.size w wx → Calls Try.prog 35 #[.agg (msgC m)] wx fun e w' => e = .returned (.string ⟨(bodyL m l).toArray⟩) ∧ Below wx.heap.size wx w') := fun wx hx => textOf_is m l wx hok (hl.below hx (Nat.le_refl _)) hn
    have HFR := hideIt (fun W => frame_in ⟨(bodyL m l).toArray⟩ W (by rw [sizeL]; exact hlen))
    clear hl hn hmay hXB hok hlen
    generalize bodyL m l = bl at *
    obtain ⟨kind, frm, dst, term, pi, pt, ea, en, ec, commit, ok, mtch, si, st, text⟩ := m
    simp only [msgC] at HM HXB HT ⊢
    have hbs : w.heap.size < (w.alloc (.cells #[.int .i64 kind, .int .i64 frm, .int .i64 dst, .int .i64 term, .int .i64 pi, .int .i64 pt, .slice ea en ec, .int .i64 commit, .bool ok, .int .i64 mtch, .int .i64 si, .int .i64 st, .string text] 28)).heap.size := by simp
    go_enter Try.func9, Try.ntmps9
    go_wp2_with fail
    refine HM.out.mono ?_
    rintro e w1 ⟨rfl, hb1⟩
    dsimp only
    have HB1 := hideIt (HXB.out.trans (hb1.mono (by simp)))
    have hz1 : w1.heap[w.heap.size]? = some (.cells #[.int .i64 kind, .int .i64 frm, .int .i64 dst, .int .i64 term, .int .i64 pi, .int .i64 pt, .slice ea en ec, .int .i64 commit, .bool ok, .int .i64 mtch, .int .i64 si, .int .i64 st, .string text] 28 (0, 0)) := (hb1.block w.heap.size hbs).trans (heap_alloc_new w _)
    have d0 : w1.cell? ⟨w.heap.size, 0, none⟩ = some (.int .i64 kind) := by rw [cell_at hz1]; rfl
    have d1 : w1.cell? ⟨w.heap.size, 1, none⟩ = some (.int .i64 frm) := by rw [cell_at hz1]; rfl
    have d2 : w1.cell? ⟨w.heap.size, 2, none⟩ = some (.int .i64 dst) := by rw [cell_at hz1]; rfl
    have d3 : w1.cell? ⟨w.heap.size, 3, none⟩ = some (.int .i64 term) := by rw [cell_at hz1]; rfl
    have d4 : w1.cell? ⟨w.heap.size, 4, none⟩ = some (.int .i64 pi) := by rw [cell_at hz1]; rfl
    have d5 : w1.cell? ⟨w.heap.size, 5, none⟩ = some (.int .i64 pt) := by rw [cell_at hz1]; rfl
    have d6 : w1.cell? ⟨w.heap.size, 6, none⟩ = some (.slice ea en ec) := by rw [cell_at hz1]; rfl
    have d7 : w1.cell? ⟨w.heap.size, 7, none⟩ = some (.int .i64 commit) := by rw [cell_at hz1]; rfl
    have d8 : w1.cell? ⟨w.heap.size, 8, none⟩ = some (.bool ok) := by rw [cell_at hz1]; rfl
    have d9 : w1.cell? ⟨w.heap.size, 9, none⟩ = some (.int .i64 mtch) := by rw [cell_at hz1]; rfl
    have d10 : w1.cell? ⟨w.heap.size, 10, none⟩ = some (.int .i64 si) := by rw [cell_at hz1]; rfl
    have d11 : w1.cell? ⟨w.heap.size, 11, none⟩ = some (.int .i64 st) := by rw [cell_at hz1]; rfl
    have d12 : w1.cell? ⟨w.heap.size, 12, none⟩ = some (.string text) := by rw [cell_at hz1]; rfl
    clear hb1 hz1 hbs
    go_wp2_with fail
    refine (HT.out _ HB1.out).mono ?_
    rintro e w2 ⟨rfl, hb2⟩
    dsimp only
    have HB2 := hideIt (HB1.out.trans (hb2.mono HB1.out.size))
    clear hb2
    go_wp2_with fail
    refine (HFR.out _).mono ?_
    rintro e w3 ⟨rfl, hb3⟩
    dsimp only
    have HB3 := hideIt (HB2.out.trans (hb3.mono HB2.out.size))
    clear hb3
    go_wp2
    go_ret2
    exact ⟨rfl, HB3.out⟩
end Go.Proofs.Ytagfolckodpioaa
