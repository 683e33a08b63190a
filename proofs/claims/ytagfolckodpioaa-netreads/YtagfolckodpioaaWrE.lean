/- What net.entriesText answers. -/
import Derived.Test.YtagfolckodpioaaWrB
namespace Go.Proofs.Ytagfolckodpioaa
open Go.RowKit

set_option maxHeartbeats 8000000 in
set_option maxRecDepth 100000 in
theorem entries_any (a : Option Addr) (c : Nat) (l : List EntV) (w : World) (h : EntsAt w a l) (hl : l.length ≤ 16) (hok : ∀ i (h : i < l.length), EntOk l[i]) :
    Calls Try.prog 67 #[.slice a l.length c] w fun e w' => e = .returned (.string ⟨(entsL l).toArray⟩) ∧ Below w.heap.size w w' := by
  have HH := hideIt h
  have HOK := hideIt hok
  clear h hok
  go_enter Try.func67, Try.ntmps67
  go_wp2_with fail
  refine (num_any l.length _ (by omega)).mono ?_
  rintro e w1 ⟨rfl, hb1⟩
  dsimp only
  have hI := keepI (Lib.fresh_isBuilder 136 5 w) hb1
  have hb1' : Below w.heap.size w w1 := ((Below.refl _ _).alloc (Nat.le_refl _) _).trans (hb1.mono (by simp))
  have hs1 := hb1'.size
  have HW := hideIt (bWrite w.heap.size w.heap.size [] ⟨(uintL l.length).toArray⟩ w1 hI (by have := uintL_len l.length; rw [sizeL]; simp; omega) hs1)
  have HB1 := hideIt hb1'
  clear hI hb1 hb1'
  go_wp2_with fail
  refine HW.out.mono ?_
  rintro e w2 ⟨he, hB2, hb2⟩
  obtain ⟨xv0, rfl⟩ : ∃ x, e = .returned x := ⟨_, he⟩
  clear he
  dsimp only
  have hB2' : Lib.BuilderAt 136 5 w.heap.size w.heap.size (.pointer (some ⟨w.heap.size, 0, none⟩)) (Lib.byteCells (gathE l 0)) w2 := by
    have e : gathE l 0 = uintL l.length := by simp [gathE]
    rw [e]
    exact hB2
  have H0 := hideIt (And.intro hB2' (HB1.out.trans hb2))
  clear hB2 hB2' hb2 HW HB1
  go_wp2
  go_loopw [12] (fun v wr => ∃ k : Nat, k ≤ l.length ∧ v = .int .i64 (k : Int) ∧ Hid (Lib.BuilderAt 136 5 w.heap.size w.heap.size (.pointer (some ⟨w.heap.size, 0, none⟩)) (Lib.byteCells (gathE l k)) wr ∧ Below w.heap.size w wr)) (fun v _ => l.length - (intOf v).toNat)
  case atStart => exact ⟨0, by omega, rfl, H0⟩
  case round =>
    clear H0
    obtain ⟨k, hk, rfl, HR⟩ := hrel
    have hB := HR.out.2
    have hsz := hB.size
    by_cases hlt : k < l.length
    · have hltI : (k : Int) < (l.length : Int) := by omega
      have hk0 : (0 : Int) ≤ (k : Int) := by omega
      obtain ⟨b, off, rfl, hbl, q0, q1, q2⟩ := HH.out k hlt
      have c0 := (hB.cell (p := ⟨b, off + k * 3, none⟩) hbl).trans q0
      have c1 := (hB.cell (p := ⟨b, off + k * 3 + 1, none⟩) hbl).trans q1
      have c2 := (hB.cell (p := ⟨b, off + k * 3 + 2, none⟩) hbl).trans q2
      have hst := gathE_step l k hlt
      obtain ⟨o1, o2, o3, o4, o5⟩ := HOK.out k hlt
      have hgl := gathE_len l k hl
      obtain ⟨et, ek, ex, hE⟩ : ∃ et ek ex, l[k] = ⟨et, ek, ex⟩ := ⟨_, _, _, rfl⟩
      rw [hE] at c0 c1 c2 hst o1 o2 o3 o4 o5
      simp only [entL] at hst
      simp only at c0 c1 c2 o1 o2 o3 o4 o5
      obtain ⟨t, rfl⟩ := Int.eq_ofNat_of_zero_le o1
      obtain ⟨v, rfl⟩ := Int.eq_ofNat_of_zero_le o3
      rw [Int.toNat_natCast, Int.toNat_natCast] at hst
      clear hE q0 q1 q2 o1 o3
      have hblr : b < wr.heap.size := by omega
      have hlt1 := uintL_len t
      have hlt2 := uintL_len v
      have hlt3 := textL_len ex.data.toList
      have hcat1 : ¬ 9223372036854775807 < (uintL t).length + (uintL v).length := by omega
      have hcat2 : ¬ 9223372036854775807 < (uintL t).length + (uintL v).length + (textL ex.data.toList).length := by omega
      obtain ⟨X, hX⟩ : ∃ X, X = wr.alloc (.cells #[.int .i64 (t : Int), .int .i64 (v : Int), .string ex] 41) := ⟨_, rfl⟩
      have hXs : X.heap.size = wr.heap.size + 1 := by rw [hX]; simp
      have hXc : X.heap[wr.heap.size]? = some (.cells #[.int .i64 (t : Int), .int .i64 (v : Int), .string ex] 41 (0, 0)) := by rw [hX]; exact heap_alloc_new wr _
      have hXB : Below wr.heap.size wr X := by rw [hX]; exact (Below.refl _ _).alloc (Nat.le_refl _) _
      have HS : ∀ wx, Below X.heap.size X wx → wx.cell? ⟨wr.heap.size, 0, none⟩ = some (.int .i64 (t : Int)) ∧ wx.cell? ⟨wr.heap.size, 1, none⟩ = some (.int .i64 (v : Int)) ∧ wx.cell? ⟨wr.heap.size, 2, none⟩ = some (.string ex) := by
        intro wx hx
        have e := (hx.block wr.heap.size (by omega)).trans hXc
        exact ⟨by rw [cell_at e]; rfl, by rw [cell_at e]; rfl, by rw [cell_at e]; rfl⟩
      have HN : Hid (∀ n : Nat, n < 9223372036854775808 → ∀ wx, Below X.heap.size X wx → Calls Try.prog 64 #[.int .i64 (n : Int)] wx fun e w' => e = .returned (.string ⟨(uintL n).toArray⟩) ∧ Below X.heap.size X w' ∧ w'.cell? ⟨wr.heap.size, 0, none⟩ = some (.int .i64 (t : Int)) ∧ w'.cell? ⟨wr.heap.size, 1, none⟩ = some (.int .i64 (v : Int)) ∧ w'.cell? ⟨wr.heap.size, 2, none⟩ = some (.string ex)) := by
        intro n hn wx hx
        refine (num_any n wx hn).mono ?_
        rintro e w' ⟨rfl, hb⟩
        have hb2 := hx.trans (hb.mono hx.size)
        exact ⟨rfl, hb2, HS w' hb2⟩
      have HP : Hid (∀ wx, Below X.heap.size X wx → Calls Try.prog 68 #[.string ex] wx fun e w' => e = .returned (.string ⟨(textL ex.data.toList).toArray⟩) ∧ Below X.heap.size X w' ∧ w'.cell? ⟨wr.heap.size, 0, none⟩ = some (.int .i64 (t : Int)) ∧ w'.cell? ⟨wr.heap.size, 1, none⟩ = some (.int .i64 (v : Int)) ∧ w'.cell? ⟨wr.heap.size, 2, none⟩ = some (.string ex)) := by
        intro wx hx
        refine (piece_any ex wx o5).mono ?_
        rintro e w' ⟨rfl, hb⟩
        have hb2 := hx.trans (hb.mono hx.size)
        exact ⟨rfl, hb2, HS w' hb2⟩
      have HWR : Hid (∀ wx, Below X.heap.size X wx → Calls Try.prog 84 #[.pointer (some ⟨w.heap.size, 0, none⟩), .string (⟨(uintL t).toArray⟩ ++ ⟨(uintL v).toArray⟩ ++ ⟨(textL ex.data.toList).toArray⟩)] wx fun e w' => (∃ x, e = .returned x) ∧ Hid (Lib.BuilderAt 136 5 w.heap.size w.heap.size (.pointer (some ⟨w.heap.size, 0, none⟩)) (Lib.byteCells (gathE l (k + 1))) w' ∧ Below w.heap.size w w') ∧ w'.cell? ⟨wr.heap.size, 0, none⟩ = some (.int .i64 (t : Int)) ∧ w'.cell? ⟨wr.heap.size, 1, none⟩ = some (.int .i64 (v : Int)) ∧ w'.cell? ⟨wr.heap.size, 2, none⟩ = some (.string ex)) := by
        intro wx hx
        have hbx : Below wr.heap.size wr wx := hXB.trans (hx.mono (by omega))
        have hxs := hx.size
        have hbs : Below w.heap.size w wx := hB.trans (hbx.mono hsz)
        have es : (⟨(uintL t).toArray⟩ ++ ⟨(uintL v).toArray⟩ ++ ⟨(textL ex.data.toList).toArray⟩ : ByteArray) = ⟨(uintL t ++ uintL v ++ textL ex.data.toList).toArray⟩ := by
          rw [cat_eq, cat_eq]
        rw [es]
        have hbr := HR.out.1
        have hblt := hbr.lt
        obtain ⟨hB0, vv, hk0', hown0, hne0⟩ := hbr
        obtain ⟨hB1, v1, hk1', hown1, hne1⟩ := keepB HR.out.1 hbx
        have hvv : v1 = vv := by
          have e1 := (hbx.block w.heap.size hblt).trans hk0'
          rw [hk1'] at e1
          injection e1 with e1
          injection e1 with e1
          have := congrArg (fun a : Array Value => a[1]?) e1
          simpa using this
        subst hvv
        refine (bWriteZ w.heap.size w.heap.size wr.heap.size _ ⟨(uintL t ++ uintL v ++ textL ex.data.toList).toArray⟩ wx v1 hB1 hk1' hown1 hne1 (by rw [Lib.byteCells_length, sizeL, List.length_append, List.length_append]; omega) hbs.size (by omega) (by omega) (fun e => by have := (hown0.lt _ e).2; omega)).mono ?_
        rintro e w' ⟨⟨xv, rfl⟩, ⟨hB', hb'⟩, hz'⟩
        rw [cells_cat, ← hst] at hB'
        have hzc := hz'.trans ((hx.block wr.heap.size (by omega)).trans hXc)
        exact ⟨⟨_, rfl⟩, ⟨hB', hbs.trans hb'⟩, by rw [cell_at hzc]; rfl, by rw [cell_at hzc]; rfl, by rw [cell_at hzc]; rfl⟩
      have ht62 : t < 9223372036854775808 := by omega
      have hv62 : v < 9223372036854775808 := by omega
      obtain ⟨x0, x1, x2⟩ := HS X (Below.refl _ _)
      clear HS hst
      go_upto_region 6 with fail
      rw [← hX]
      clear hX hXs hXc hXB hblr c0 c1 c2 HOK HH
      go_region_held3 (fun w' => w'.cell? ⟨wr.heap.size, 0, none⟩ = some (.int .i64 (t : Int)) ∧ w'.cell? ⟨wr.heap.size, 1, none⟩ = some (.int .i64 (v : Int)) ∧ w'.cell? ⟨wr.heap.size, 2, none⟩ = some (.string ex)) (go_keep) (first | (go_at_call 64; first | (refine (HN.out t ht62 _ (by first | assumption | exact (Below.refl _ _).drew)).mono ?_; rintro e w5 ⟨rfl, hst, j0, j1, j2⟩) | (refine (HN.out v hv62 _ (by first | assumption | exact (Below.refl _ _).drew)).mono ?_; rintro e w5 ⟨rfl, hst, j0, j1, j2⟩)) | (go_at_call 68; refine (HP.out _ (by first | assumption | exact (Below.refl _ _).drew)).mono ?_; rintro e w5 ⟨rfl, hst, j0, j1, j2⟩) | (go_at_call 84; refine (HWR.out _ (by assumption)).mono ?_; rintro e w5 ⟨⟨xx, rfl⟩, HR2, j0, j1, j2⟩))
      go_wp2
      go_roundw
      case rel => exact ⟨k + 1, by omega, by go_num, HR2⟩
      case measure => simp [intOf]; omega
    · have hltI : ¬ (k : Int) < (l.length : Int) := by omega
      have e : k = l.length := by omega
      subst e
      have HSt := hideIt (bString w.heap.size w.heap.size (entsL l) wr (.inr HR.out.1) (gathE_ne l _))
      go_wp2_with fail
      refine HSt.out.mono ?_
      rintro e w3 ⟨rfl, hb3⟩
      dsimp only
      go_wp2
      go_ret
      exact ⟨rfl, HR.out.2.trans hb3⟩
end Go.Proofs.Ytagfolckodpioaa
