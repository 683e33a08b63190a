/- What net.textOf answers: the text of a message. -/
import Derived.Test.YtagfolckodpioaaWrE
namespace Go.Proofs.Ytagfolckodpioaa
open Go.RowKit

theorem ret_str {a b : ByteArray} (h : a = b) : Ending.returned (.string a) = .returned (.string b) := by rw [h]
theorem cat_two (a b : List UInt8) : (⟨a.toArray⟩ : ByteArray) ++ (⟨b.toArray⟩ : ByteArray) = ⟨(a ++ b).toArray⟩ := cat_eq a ⟨b.toArray⟩
def okI (x : Int) : Prop := 0 ≤ x ∧ x < 9223372036854775808
def uI (x : Int) : List UInt8 := uintL x.toNat
theorem uI_len (x : Int) : (uI x).length ≤ 10 := (uintL_len _).1
def headL (m : MsgV) : List UInt8 := uI m.kind ++ uI m.frm ++ uI m.dst ++ uI m.term
def bodyL (m : MsgV) (l : List EntV) : List UInt8 :=
  if m.kind = 1 then headL m ++ (uI m.pi ++ uI m.pt)
  else if m.kind = 2 then headL m ++ flagL m.ok
  else if m.kind = 3 then headL m ++ (uI m.pi ++ uI m.pt) ++ uI m.commit ++ entsL l
  else if m.kind = 4 then headL m ++ flagL m.ok ++ uI m.mtch
  else if m.kind = 5 then headL m ++ (uI m.si ++ uI m.st) ++ textL m.text.data.toList
  else []
theorem numI_any (x : Int) (w : World) (h : okI x) : Calls Try.prog 64 #[.int .i64 x] w fun e w' => e = .returned (.string ⟨(uI x).toArray⟩) ∧ Below w.heap.size w w' := by
  obtain ⟨n, rfl⟩ := Int.eq_ofNat_of_zero_le h.1
  have := num_any n w (by have := h.2; omega)
  unfold uI
  rw [Int.toNat_natCast]
  exact this
theorem spotI_any (x y : Int) (w : World) (h : okI x) (h2 : okI y) : Calls Try.prog 65 #[.agg #[.int .i64 x, .int .i64 y]] w fun e w' => e = .returned (.string ⟨(uI x ++ uI y).toArray⟩) ∧ Below w.heap.size w w' := by
  obtain ⟨n, rfl⟩ := Int.eq_ofNat_of_zero_le h.1
  obtain ⟨k, rfl⟩ := Int.eq_ofNat_of_zero_le h2.1
  have := spot_any n k w (by have := h.2; omega) (by have := h2.2; omega)
  unfold uI
  rw [Int.toNat_natCast, Int.toNat_natCast]
  exact this
structure MsgOk (m : MsgV) (l : List EntV) : Prop where
  kind : okI m.kind
  frm : okI m.frm
  dst : okI m.dst
  term : okI m.term
  pi : okI m.pi
  pt : okI m.pt
  commit : okI m.commit
  mtch : okI m.mtch
  si : okI m.si
  st : okI m.st
  text : m.text.size ≤ 60000
  few : l.length ≤ 16
  ents : ∀ i (h : i < l.length), EntOk l[i]
theorem flagL_len (b : Bool) : (flagL b).length ≤ 10 := by unfold flagL; split <;> exact (uintL_len _).1
set_option maxHeartbeats 8000000 in
set_option maxRecDepth 100000 in
theorem textOf_is (m : MsgV) (l : List EntV) (w : World) (hok : MsgOk m l) (hl : EntsAt w m.ea l) (hn : m.en = l.length) :
    Calls Try.prog 35 #[.agg (msgC m)] w fun e w' => e = .returned (.string ⟨(bodyL m l).toArray⟩) ∧ Below w.heap.size w w' := by
  obtain ⟨kind, frm, dst, term, pi, pt, ea, en, ec, commit, ok, mtch, si, st, text⟩ := m
  simp only at hl hn
  subst hn
  obtain ⟨k1, k2, k3, k4, k5, k6, k7, k8, k9, k10, k11, k12, k13⟩ := hok
  simp only at k1 k2 k3 k4 k5 k6 k7 k8 k9 k10 k11 k12 k13
  have le1 := uI_len kind
  have le2 := uI_len frm
  have le3 := uI_len dst
  have le4 := uI_len term
  have le5 := uI_len pi
  have le6 := uI_len pt
  have le7 := uI_len commit
  have le8 := uI_len mtch
  have le9 := uI_len si
  have le10 := uI_len st
  have le11 := flagL_len ok
  have le12 := textL_len text.data.toList
  have le13 := gathE_len l l.length k12
  have le14 : (entsL l).length ≤ 1000000 := le13
  simp only [msgC]
  obtain ⟨X, hX⟩ : ∃ X, X = w.alloc (.cells #[.int .i64 kind, .int .i64 frm, .int .i64 dst, .int .i64 term, .int .i64 pi, .int .i64 pt, .slice ea l.length ec, .int .i64 commit, .bool ok, .int .i64 mtch, .int .i64 si, .int .i64 st, .string text] 28) := ⟨_, rfl⟩
  have hXs : X.heap.size = w.heap.size + 1 := by rw [hX]; simp
  have hXc : X.heap[w.heap.size]? = some (.cells #[.int .i64 kind, .int .i64 frm, .int .i64 dst, .int .i64 term, .int .i64 pi, .int .i64 pt, .slice ea l.length ec, .int .i64 commit, .bool ok, .int .i64 mtch, .int .i64 si, .int .i64 st, .string text] 28 (0, 0)) := by rw [hX]; exact heap_alloc_new w _
  have hXB : Below w.heap.size w X := by rw [hX]; exact (Below.refl _ _).alloc (Nat.le_refl _) _
  have HS : Hid (∀ wx, Below X.heap.size X wx → (wx.cell? ⟨w.heap.size, 0, none⟩ = some (.int .i64 kind) ∧ wx.cell? ⟨w.heap.size, 1, none⟩ = some (.int .i64 frm) ∧ wx.cell? ⟨w.heap.size, 2, none⟩ = some (.int .i64 dst) ∧ wx.cell? ⟨w.heap.size, 3, none⟩ = some (.int .i64 term)) ∧ (wx.cell? ⟨w.heap.size, 4, none⟩ = some (.int .i64 pi) ∧ wx.cell? ⟨w.heap.size, 5, none⟩ = some (.int .i64 pt) ∧ wx.cell? ⟨w.heap.size, 6, none⟩ = some (.slice ea l.length ec) ∧ wx.cell? ⟨w.heap.size, 7, none⟩ = some (.int .i64 commit)) ∧ (wx.cell? ⟨w.heap.size, 8, none⟩ = some (.bool ok) ∧ wx.cell? ⟨w.heap.size, 9, none⟩ = some (.int .i64 mtch)) ∧ wx.cell? ⟨w.heap.size, 10, none⟩ = some (.int .i64 si) ∧ wx.cell? ⟨w.heap.size, 11, none⟩ = some (.int .i64 st) ∧ wx.cell? ⟨w.heap.size, 12, none⟩ = some (.string text)) := by
    intro wx hx
    have e := (hx.block w.heap.size (by omega)).trans hXc
    refine ⟨⟨?_, ?_, ?_, ?_⟩, ⟨?_, ?_, ?_, ?_⟩, ⟨?_, ?_⟩, ?_, ?_, ?_⟩ <;> (rw [cell_at e]; rfl)
  have HF : Hid (∀ wx, Below X.heap.size X wx → Below w.heap.size w wx) := fun wx h => hXB.trans (h.mono (by omega))
  have HN : Hid (∀ x, okI x → ∀ wx, Below X.heap.size X wx → Calls Try.prog 64 #[.int .i64 x] wx fun e w' => e = .returned (.string ⟨(uI x).toArray⟩) ∧ Below X.heap.size X w' ∧ (w'.cell? ⟨w.heap.size, 0, none⟩ = some (.int .i64 kind) ∧ w'.cell? ⟨w.heap.size, 1, none⟩ = some (.int .i64 frm) ∧ w'.cell? ⟨w.heap.size, 2, none⟩ = some (.int .i64 dst) ∧ w'.cell? ⟨w.heap.size, 3, none⟩ = some (.int .i64 term))) := by
    intro x hx wx hw
    refine (numI_any x wx hx).mono ?_
    rintro e w' ⟨rfl, hb⟩
    have hb2 := hw.trans (hb.mono hw.size)
    exact ⟨rfl, hb2, (HS.out w' hb2).1⟩
  have HSP : Hid (∀ x y, okI x → okI y → ∀ wx, Below X.heap.size X wx → Calls Try.prog 65 #[.agg #[.int .i64 x, .int .i64 y]] wx fun e w' => e = .returned (.string ⟨(uI x ++ uI y).toArray⟩) ∧ Below X.heap.size X w') := by
    intro x y hx hy wx hw
    refine (spotI_any x y wx hx hy).mono ?_
    rintro e w' ⟨rfl, hb⟩
    exact ⟨rfl, hw.trans (hb.mono hw.size)⟩
  have HFL : Hid (∀ wx, Below X.heap.size X wx → Calls Try.prog 66 #[.bool ok] wx fun e w' => e = .returned (.string ⟨(flagL ok).toArray⟩) ∧ Below X.heap.size X w') := by
    intro wx hw
    refine (flag_any ok wx).mono ?_
    rintro e w' ⟨rfl, hb⟩
    exact ⟨rfl, hw.trans (hb.mono hw.size)⟩
  have HPC : Hid (∀ wx, Below X.heap.size X wx → Calls Try.prog 68 #[.string text] wx fun e w' => e = .returned (.string ⟨(textL text.data.toList).toArray⟩) ∧ Below X.heap.size X w') := by
    intro wx hw
    refine (piece_any text wx k11).mono ?_
    rintro e w' ⟨rfl, hb⟩
    exact ⟨rfl, hw.trans (hb.mono hw.size)⟩
  have HEN : Hid (∀ wx, Below X.heap.size X wx → Calls Try.prog 67 #[.slice ea l.length ec] wx fun e w' => e = .returned (.string ⟨(entsL l).toArray⟩) ∧ Below X.heap.size X w') := by
    intro wx hw
    refine (entries_any ea ec l wx (hl.below (hXB.trans (hw.mono (by omega))) (Nat.le_refl _)) k12 k13).mono ?_
    rintro e w' ⟨rfl, hb⟩
    exact ⟨rfl, hw.trans (hb.mono hw.size)⟩
  obtain ⟨R, hR⟩ : ∃ R, R = bodyL ⟨kind, frm, dst, term, pi, pt, ea, l.length, ec, commit, ok, mtch, si, st, text⟩ l := ⟨_, rfl⟩
  rw [← hR]
  have HR := hideIt hR
  have hcat1 : ¬ 9223372036854775807 < (uI kind).length + (uI frm).length := by omega
  have hcat2 : ¬ 9223372036854775807 < (uI kind).length + (uI frm).length + (uI dst).length := by omega
  have hcat3 : ¬ 9223372036854775807 < (uI kind).length + (uI frm).length + (uI dst).length + (uI term).length := by omega
  have H1 := hideIt (HN.out kind k1)
  have H2 := hideIt (HN.out frm k2)
  have H3 := hideIt (HN.out dst k3)
  have H4 := hideIt (HN.out term k4)
  clear hR hXB hXs hl k11 k12 k13
  go_enter Try.func35, Try.ntmps35
  go_upto_region 1 with fail
  rw [← hX]
  clear hX hXc
  obtain ⟨⟨x0, x1, x2, x3⟩, _⟩ := HS.out X (Below.refl _ _)
  go_cut [3] from 4 (fun v wx => v = .string ⟨(headL ⟨kind, frm, dst, term, pi, pt, ea, l.length, ec, commit, ok, mtch, si, st, text⟩).toArray⟩ ∧ Hid (Below X.heap.size X wx))
  case first =>
    go_region_held3 (fun w' => w'.cell? ⟨w.heap.size, 0, none⟩ = some (.int .i64 kind) ∧ w'.cell? ⟨w.heap.size, 1, none⟩ = some (.int .i64 frm) ∧ w'.cell? ⟨w.heap.size, 2, none⟩ = some (.int .i64 dst) ∧ w'.cell? ⟨w.heap.size, 3, none⟩ = some (.int .i64 term)) (go_keep) (first | (go_at_call 64; first | (refine (H1.out _ (by first | assumption | exact (Below.refl _ _).drew)).mono ?_; rintro e w5 ⟨rfl, hst, j0, j1, j2, j3⟩) | (refine (H2.out _ (by first | assumption | exact (Below.refl _ _).drew)).mono ?_; rintro e w5 ⟨rfl, hst, j0, j1, j2, j3⟩) | (refine (H3.out _ (by first | assumption | exact (Below.refl _ _).drew)).mono ?_; rintro e w5 ⟨rfl, hst, j0, j1, j2, j3⟩) | (refine (H4.out _ (by first | assumption | exact (Below.refl _ _).drew)).mono ?_; rintro e w5 ⟨rfl, hst, j0, j1, j2, j3⟩)))
    all_goals go_wp2_with fail
    all_goals go_meet
    all_goals exact ⟨by rw [cat_eq, cat_eq, cat_eq]; simp [headL], hideIt hst⟩
  case rest =>
  clear x0 x1 x2 x3 H1 H2 H3 H4 hcat1 hcat2 hcat3
  obtain ⟨rfl, HX⟩ := hcut
  have hhl : (headL ⟨kind, frm, dst, term, pi, pt, ea, l.length, ec, commit, ok, mtch, si, st, text⟩).length ≤ 40 := by
    simp only [headL, List.length_append]; omega
  obtain ⟨D, hD⟩ : ∃ D, headL ⟨kind, frm, dst, term, pi, pt, ea, l.length, ec, commit, ok, mtch, si, st, text⟩ = D := ⟨_, rfl⟩
  rw [hD] at hhl ⊢
  have HD := hideIt hD
  clear hD
  obtain ⟨⟨x0, x1, x2, x3⟩, ⟨x4, x5, x6, x7⟩, ⟨x8, x9⟩, x10, x11, x12⟩ := HS.out wc HX.out
  clear x1 x2 x3
  have hXd := HX.out.drew
  by_cases hk1 : kind = 1
  · subst hk1
    have hR2 := HR.out
    simp only [bodyL, if_true] at hR2
    rw [HD.out] at hR2
    have HR2 := hideIt hR2
    clear hR2
    have H1 := hideIt (HSP.out pi pt k5 k6)
    have hcat : ¬ 9223372036854775807 < D.length + ((uI pi).length + (uI pt).length) := by omega
    go_wp2_with fail
    refine (H1.out _ HX.out).mono ?_
    rintro e w2 ⟨rfl, hb2⟩
    dsimp only
    have HB2 := hideIt hb2
    clear hb2
    go_wp2
    go_ret
    exact ⟨ret_str (by rw [HR2.out]; exact cat_two _ _), HF.out _ HB2.out⟩
  have hk1b : (kind == 1) = false := beq_eq_false_iff_ne.2 hk1
  by_cases hk2 : kind = 2
  · subst hk2
    have hR2 := HR.out
    simp only [bodyL] at hR2
    rw [if_neg (by decide), if_pos trivial, HD.out] at hR2
    have HR2 := hideIt hR2
    clear hR2
    have hcat : ¬ 9223372036854775807 < D.length + (flagL ok).length := by omega
    go_wp2_with fail
    refine (HFL.out _ HX.out).mono ?_
    rintro e w2 ⟨rfl, hb2⟩
    dsimp only
    have HB2 := hideIt hb2
    clear hb2
    go_wp2
    go_ret
    exact ⟨ret_str (by rw [HR2.out]; exact cat_two _ _), HF.out _ HB2.out⟩
  have hk2b : (kind == 2) = false := beq_eq_false_iff_ne.2 hk2
  by_cases hk3 : kind = 3
  · subst hk3
    have hR2 := HR.out
    simp only [bodyL] at hR2
    rw [if_neg (by decide), if_neg (by decide), if_pos trivial, HD.out] at hR2
    have HR2 := hideIt hR2
    clear hR2
    have H1 : Hid (∀ wx, Below X.heap.size X wx → Calls Try.prog 65 #[.agg #[.int .i64 pi, .int .i64 pt]] wx fun e w' => e = .returned (.string ⟨(uI pi ++ uI pt).toArray⟩) ∧ Below X.heap.size X w' ∧ w'.cell? ⟨w.heap.size, 4, none⟩ = some (.int .i64 pi) ∧ w'.cell? ⟨w.heap.size, 5, none⟩ = some (.int .i64 pt) ∧ w'.cell? ⟨w.heap.size, 6, none⟩ = some (.slice ea l.length ec) ∧ w'.cell? ⟨w.heap.size, 7, none⟩ = some (.int .i64 commit)) := fun wx hw => (HSP.out pi pt k5 k6 wx hw).mono (fun _ _ h => ⟨h.1, h.2, (HS.out _ h.2).2.1⟩)
    have H2 : Hid (∀ wx, Below X.heap.size X wx → Calls Try.prog 64 #[.int .i64 commit] wx fun e w' => e = .returned (.string ⟨(uI commit).toArray⟩) ∧ Below X.heap.size X w' ∧ w'.cell? ⟨w.heap.size, 4, none⟩ = some (.int .i64 pi) ∧ w'.cell? ⟨w.heap.size, 5, none⟩ = some (.int .i64 pt) ∧ w'.cell? ⟨w.heap.size, 6, none⟩ = some (.slice ea l.length ec) ∧ w'.cell? ⟨w.heap.size, 7, none⟩ = some (.int .i64 commit)) := fun wx hw => (HN.out commit k7 wx hw).mono (fun _ _ h => ⟨h.1, h.2.1, (HS.out _ h.2.1).2.1⟩)
    have H3 : Hid (∀ wx, Below X.heap.size X wx → Calls Try.prog 67 #[.slice ea l.length ec] wx fun e w' => e = .returned (.string ⟨(entsL l).toArray⟩) ∧ Below X.heap.size X w' ∧ w'.cell? ⟨w.heap.size, 4, none⟩ = some (.int .i64 pi) ∧ w'.cell? ⟨w.heap.size, 5, none⟩ = some (.int .i64 pt) ∧ w'.cell? ⟨w.heap.size, 6, none⟩ = some (.slice ea l.length ec) ∧ w'.cell? ⟨w.heap.size, 7, none⟩ = some (.int .i64 commit)) := fun wx hw => (HEN.out wx hw).mono (fun _ _ h => ⟨h.1, h.2, (HS.out _ h.2).2.1⟩)
    have hcat1 : ¬ 9223372036854775807 < D.length + ((uI pi).length + (uI pt).length) := by omega
    have hcat2 : ¬ 9223372036854775807 < D.length + ((uI pi).length + (uI pt).length) + (uI commit).length := by omega
    have hcat3 : ¬ 9223372036854775807 < D.length + ((uI pi).length + (uI pt).length) + (uI commit).length + (entsL l).length := by omega
    clear HSP HN HEN HFL HPC x8 x9 x10 x11 x12
    go_upto_region 8 with fail
    go_cut [2] from 37 (fun v wx => v = .string ⟨(D ++ (uI pi ++ uI pt) ++ uI commit ++ entsL l).toArray⟩ ∧ Hid (Below X.heap.size X wx))
    case first =>
      go_region_held3 (fun w' => w'.cell? ⟨w.heap.size, 4, none⟩ = some (.int .i64 pi) ∧ w'.cell? ⟨w.heap.size, 5, none⟩ = some (.int .i64 pt) ∧ w'.cell? ⟨w.heap.size, 6, none⟩ = some (.slice ea l.length ec) ∧ w'.cell? ⟨w.heap.size, 7, none⟩ = some (.int .i64 commit)) (go_keep) (first | (go_at_call 65; refine (H1.out _ (by assumption)).mono ?_; rintro e w5 ⟨rfl, hst, j0, j1, j2, j3⟩) | (go_at_call 64; refine (H2.out _ (by assumption)).mono ?_; rintro e w5 ⟨rfl, hst, j0, j1, j2, j3⟩) | (go_at_call 67; refine (H3.out _ (by assumption)).mono ?_; rintro e w5 ⟨rfl, hst, j0, j1, j2, j3⟩))
      all_goals go_wp2_with fail
      all_goals go_meet
      all_goals exact ⟨by rw [cat_two, cat_two, cat_two], hideIt hst⟩
    case rest =>
    obtain ⟨rfl, HY⟩ := hcut
    go_wp2
    go_ret
    exact ⟨ret_str (by rw [HR2.out]), HF.out _ HY.out⟩
  have hk3b : (kind == 3) = false := beq_eq_false_iff_ne.2 hk3
  by_cases hk4 : kind = 4
  · subst hk4
    have hR2 := HR.out
    simp only [bodyL] at hR2
    rw [if_neg (by decide), if_neg (by decide), if_neg (by decide), if_pos trivial, HD.out] at hR2
    have HR2 := hideIt hR2
    clear hR2
    have H1 : Hid (∀ wx, Below X.heap.size X wx → Calls Try.prog 66 #[.bool ok] wx fun e w' => e = .returned (.string ⟨(flagL ok).toArray⟩) ∧ Below X.heap.size X w' ∧ w'.cell? ⟨w.heap.size, 8, none⟩ = some (.bool ok) ∧ w'.cell? ⟨w.heap.size, 9, none⟩ = some (.int .i64 mtch)) := fun wx hw => (HFL.out wx hw).mono (fun _ _ h => ⟨h.1, h.2, (HS.out _ h.2).2.2.1⟩)
    have H2 : Hid (∀ wx, Below X.heap.size X wx → Calls Try.prog 64 #[.int .i64 mtch] wx fun e w' => e = .returned (.string ⟨(uI mtch).toArray⟩) ∧ Below X.heap.size X w' ∧ w'.cell? ⟨w.heap.size, 8, none⟩ = some (.bool ok) ∧ w'.cell? ⟨w.heap.size, 9, none⟩ = some (.int .i64 mtch)) := fun wx hw => (HN.out mtch k8 wx hw).mono (fun _ _ h => ⟨h.1, h.2.1, (HS.out _ h.2.1).2.2.1⟩)
    have hcat1 : ¬ 9223372036854775807 < D.length + (flagL ok).length := by omega
    have hcat2 : ¬ 9223372036854775807 < D.length + (flagL ok).length + (uI mtch).length := by omega
    clear HSP HN HEN HFL HPC x4 x5 x6 x7 x10 x11 x12
    go_upto_region 10 with fail
    go_cut [2] from 52 (fun v wx => v = .string ⟨(D ++ flagL ok ++ uI mtch).toArray⟩ ∧ Hid (Below X.heap.size X wx))
    case first =>
      go_region_held3 (fun w' => w'.cell? ⟨w.heap.size, 8, none⟩ = some (.bool ok) ∧ w'.cell? ⟨w.heap.size, 9, none⟩ = some (.int .i64 mtch)) (go_keep) (first | (go_at_call 66; refine (H1.out _ (by assumption)).mono ?_; rintro e w5 ⟨rfl, hst, j0, j1⟩) | (go_at_call 64; refine (H2.out _ (by assumption)).mono ?_; rintro e w5 ⟨rfl, hst, j0, j1⟩))
      all_goals go_wp2_with fail
      all_goals go_meet
      all_goals exact ⟨by rw [cat_two, cat_two], hideIt hst⟩
    case rest =>
    obtain ⟨rfl, HY⟩ := hcut
    go_wp2
    go_ret
    exact ⟨ret_str (by rw [HR2.out]), HF.out _ HY.out⟩
  have hk4b : (kind == 4) = false := beq_eq_false_iff_ne.2 hk4
  by_cases hk5 : kind = 5
  · subst hk5
    have hR2 := HR.out
    simp only [bodyL] at hR2
    rw [if_neg (by decide), if_neg (by decide), if_neg (by decide), if_neg (by decide), if_pos trivial, HD.out] at hR2
    have HR2 := hideIt hR2
    clear hR2
    have H1 : Hid (∀ wx, Below X.heap.size X wx → Calls Try.prog 65 #[.agg #[.int .i64 si, .int .i64 st]] wx fun e w' => e = .returned (.string ⟨(uI si ++ uI st).toArray⟩) ∧ Below X.heap.size X w' ∧ w'.cell? ⟨w.heap.size, 10, none⟩ = some (.int .i64 si) ∧ w'.cell? ⟨w.heap.size, 11, none⟩ = some (.int .i64 st) ∧ w'.cell? ⟨w.heap.size, 12, none⟩ = some (.string text)) := fun wx hw => (HSP.out si st k9 k10 wx hw).mono (fun _ _ h => ⟨h.1, h.2, (HS.out _ h.2).2.2.2⟩)
    have H2 : Hid (∀ wx, Below X.heap.size X wx → Calls Try.prog 68 #[.string text] wx fun e w' => e = .returned (.string ⟨(textL text.data.toList).toArray⟩) ∧ Below X.heap.size X w' ∧ w'.cell? ⟨w.heap.size, 10, none⟩ = some (.int .i64 si) ∧ w'.cell? ⟨w.heap.size, 11, none⟩ = some (.int .i64 st) ∧ w'.cell? ⟨w.heap.size, 12, none⟩ = some (.string text)) := fun wx hw => (HPC.out wx hw).mono (fun _ _ h => ⟨h.1, h.2, (HS.out _ h.2).2.2.2⟩)
    have hcat1 : ¬ 9223372036854775807 < D.length + ((uI si).length + (uI st).length) := by omega
    have hcat2 : ¬ 9223372036854775807 < D.length + ((uI si).length + (uI st).length) + (textL text.data.toList).length := by omega
    clear HSP HN HEN HFL HPC x4 x5 x6 x7 x8 x9
    go_upto_region 12 with fail
    go_cut [2] from 63 (fun v wx => v = .string ⟨(D ++ (uI si ++ uI st) ++ textL text.data.toList).toArray⟩ ∧ Hid (Below X.heap.size X wx))
    case first =>
      go_region_held3 (fun w' => w'.cell? ⟨w.heap.size, 10, none⟩ = some (.int .i64 si) ∧ w'.cell? ⟨w.heap.size, 11, none⟩ = some (.int .i64 st) ∧ w'.cell? ⟨w.heap.size, 12, none⟩ = some (.string text)) (go_keep) (first | (go_at_call 65; refine (H1.out _ (by assumption)).mono ?_; rintro e w5 ⟨rfl, hst, j0, j1, j2⟩) | (go_at_call 68; refine (H2.out _ (by assumption)).mono ?_; rintro e w5 ⟨rfl, hst, j0, j1, j2⟩))
      all_goals go_wp2_with fail
      all_goals go_meet
      all_goals exact ⟨by rw [cat_two, cat_two], hideIt hst⟩
    case rest =>
    obtain ⟨rfl, HY⟩ := hcut
    go_wp2
    go_ret
    exact ⟨ret_str (by rw [HR2.out]), HF.out _ HY.out⟩
  have hk5b : (kind == 5) = false := beq_eq_false_iff_ne.2 hk5
  have hR2 := HR.out
  simp only [bodyL] at hR2
  rw [if_neg hk1, if_neg hk2, if_neg hk3, if_neg hk4, if_neg hk5] at hR2
  have HR2 := hideIt hR2
  clear hR2 hk1 hk2 hk3 hk4 hk5
  go_wp2
  go_ret
  exact ⟨by rw [HR2.out]; rfl, HF.out _ HX.out⟩
end Go.Proofs.Ytagfolckodpioaa
