/- The statements' own look at both disks: they tell the same. -/
import Derived.Test.YtpgimffghaelhaaLook
namespace Go.Proofs.Ytpgimffghaelhaa
open Go.RowKit Go.Maps

set_option maxHeartbeats 1000000 in
theorem segs_is {w : World} {F : Nat → Prop} {p : Nat} {S : St} {N : Nat} (h : DiskAt w F p S N) : Calls Try.prog 21 #[.pointer (some ⟨p, 0, none⟩)] w (Back (segments S) w.heap.size w) := by
  have Hu := hideIt (up_is h)
  by_cases h0 : S.fuse = 0
  · have e : segments S = [] := by unfold segments; rw [if_pos h0]
    have hup : decide (S.fuse ≠ 0) = false := by simp [h0]
    rw [hup] at Hu
    rw [e]
    clear h
    go_enter Try.func21, Try.ntmps21
    go_wp2_with fail
    refine Hu.out.mono ?_
    rintro e w1 ⟨rfl, hb⟩
    dsimp only
    go_wp2
    go_ret
    exact ⟨none, 0, 0, rfl, fun hne => absurd rfl hne, fun hne => absurd rfl hne, hb⟩
  · have e : segments S = nums S.seg 1000 := by unfold segments; rw [if_neg h0]
    have hup : decide (S.fuse ≠ 0) = true := by simp [h0]
    rw [hup] at Hu
    rw [e]
    have H := hideIt h
    clear h
    go_enter Try.func21, Try.ntmps21
    go_wp2_with fail
    refine Hu.out.mono ?_
    rintro e w1 ⟨rfl, hb⟩
    dsimp only
    obtain ⟨mb, ch, fs, ff, fm, rb, cp, D, hc, r⟩ := H.out.below hb
    have Hn := hideIt (numbers_any hc rfl)
    clear hc r
    go_wp2_with fail
    refine Hn.out.mono ?_
    rintro e w2 ⟨a, c, g, rfl, hI, hgl, hb2⟩
    dsimp only
    have HI := hideIt hI
    clear hI
    go_wp2
    go_ret
    exact ⟨a, c, g, rfl, HI.out, fun _ => Nat.le_trans hb.size hgl, hb.trans (hb2.mono hb.size)⟩
set_option maxHeartbeats 2000000 in
set_option maxRecDepth 100000 in
theorem same_is (w : World) (a b : Option Addr) (ca cb g1 g2 : Nat) (l : List Nat) (hl : l.length ≤ 1000) (h : Ints w g1 a (asInts l)) (g : Ints w g2 b (asInts l)) :
    Calls Try.prog 24 #[.slice a l.length ca, .slice b l.length cb] w fun e w' => e = .returned (.bool true) ∧ Below w.heap.size w w' := by
  have hne : (((l.length : Nat) : Int) != l.length) = false := by simp
  have H := hideIt h
  have G := hideIt g
  clear h g
  go_enter Try.func24, Try.ntmps24
  go_wp2
  go_loopw [5] (fun c wr => ∃ k : Nat, k ≤ l.length ∧ c = .int .i64 (k : Int) ∧ Below w.heap.size w wr) (fun c _ => l.length - (intOf c).toNat)
  case atStart => exact ⟨0, by omega, rfl, Below.refl _ _⟩
  case round =>
    obtain ⟨k, hk, rfl, hb⟩ := hrel
    by_cases hlt : k < l.length
    · have hlt' : (k : Int) < l.length := by omega
      have HH := H.out.keep (w' := wr) (fun hl => hb.block _ hl)
      have GG := G.out.keep (w' := wr) (fun hl => hb.block _ hl)
      obtain ⟨rfl, hc1⟩ := HH.at k hlt
      obtain ⟨rfl, hc2⟩ := GG.at k hlt
      generalize l[k] = x at *
      clear HH GG
      go_wp2
      go_quiet (fail)
      go_wp2
      go_roundw
      case rel => exact ⟨k + 1, by omega, by go_num, below_drewN hb _⟩
      case measure => simp [intOf]; omega
    · have hlt' : ¬ (k : Int) < l.length := by omega
      go_wp2
      go_ret
      exact ⟨rfl, hb⟩
theorem segments_len (S : St) : (segments S).length ≤ 1000 := by
  unfold segments
  split
  · simp
  · exact nums_len _ _
theorem segments_lt (S : St) (k : Nat) (h : k ∈ segments S) : k < 1000 := by
  unfold segments at h
  split at h
  · cases h
  · exact ((mem_nums _ _ _).1 h).1
/-- From the t-th on the numbers still stand in the slice. -/
def Rest (w : World) (g : Nat) (a : Option Addr) (l : List Nat) (t : Nat) : Prop := t < l.length → a = some ⟨g, 0, none⟩ ∧ ∃ cur, w.heap[g]? = some (.cells cur 3 (0, 0)) ∧ ∀ j (h : j < l.length), t ≤ j → cur[j]? = some (.int .i64 (l[j] : Int))
theorem Rest.start {w : World} {g : Nat} {a : Option Addr} {l : List Nat} (h : Ints w g a (asInts l)) : Rest w g a l 0 := by
  intro h0
  obtain ⟨rfl, cur, hc, htk⟩ := h (by intro e; have := congrArg List.length e; simp [asInts] at this; subst this; simp at h0)
  refine ⟨rfl, cur, hc, fun j hj _ => ?_⟩
  have := (h.at j hj).2
  rwa [cell_at hc] at this
theorem Rest.keep {w w' : World} {g : Nat} {a : Option Addr} {l : List Nat} {t : Nat} (h : Rest w g a l t) (hb : g < w.heap.size → w'.heap[g]? = w.heap[g]?) : Rest w' g a l t := by
  intro ht
  obtain ⟨rfl, cur, hc, h2⟩ := h ht
  exact ⟨rfl, cur, (hb (Array.getElem?_eq_some_iff.1 hc).1).trans hc, h2⟩
theorem Rest.step {w : World} {g : Nat} {a : Option Addr} {l : List Nat} {t : Nat} (h : Rest w g a l t) (ht : t < l.length) (v : Value) : Rest (w.setCell ⟨g, t, none⟩ v) g a l (t + 1) := by
  intro _
  obtain ⟨rfl, cur, hc, h2⟩ := h ht
  refine ⟨rfl, cur.setIfInBounds t v, ?_, fun j hj hl => ?_⟩
  · rw [setCell_eq_setRow _ g t cur 3 (0, 0) _ hc]
    exact setRow_heap _ g cur _ 3 _ hc
  · rw [Array.getElem?_setIfInBounds_ne (by omega)]
    exact h2 j hj (by omega)
set_option maxHeartbeats 4000000 in
set_option maxRecDepth 100000 in
theorem looks_is {w : World} {F1 F2 : Nat → Prop} {p q : Nat} {S : St} {N M : Nat} (hd : DiskAt w F1 p S N) (hr : RefAt w F2 q S M) (hF1 : ∀ k, F1 k → k < w.heap.size) (hF2 : ∀ k, F2 k → k < w.heap.size) (i : Int) (hi : (Lit.int .i64 i).wf = true) :
    Calls Try.prog 10 #[.pointer (some ⟨p, 0, none⟩), .pointer (some ⟨q, 0, none⟩), .int .i64 i] w fun e w' => e = .returned (.bool true) ∧ Below w.heap.size w w' := by
  have H1 := hideIt (segs_is hd)
  have HD := hideIt (fun W (hb : Below w.heap.size w W) => hd.keep (w' := W) (fun k hF _ => hb.block k (hF1 k hF)))
  have HR := hideIt (fun W (hb : Below w.heap.size w W) => hr.keep (w' := W) (fun k hF _ => hb.block k (hF2 k hF)))
  have hln := segments_len S
  have hlt0 := segments_lt S
  clear hd hr
  go_enter Try.func10, Try.ntmps10
  go_wp2_with fail
  refine H1.out.mono ?_
  rintro e w1 ⟨a1, c1, g1, rfl, hI1, hg1, hb1⟩
  dsimp only
  have H2 := hideIt (refSegs_is (HR.out w1 hb1))
  have HI1 := hideIt hI1
  clear H1 hI1
  go_wp2_with fail
  refine H2.out.mono ?_
  rintro e w2 ⟨a2, c2, g2, rfl, hI2, hg2, hb2⟩
  dsimp only
  have hB2 := hb1.trans (hb2.mono hb1.size)
  have hJ1 := HI1.out.keep (w' := w2) (fun hl => hb2.block _ hl)
  have H3 := hideIt (same_is w2 a1 a2 c1 c2 g1 g2 (segments S) hln hJ1 hI2)
  have HJ1 := hideIt hJ1
  clear H2 HI1 hI2 hJ1 hb1 hb2
  go_wp2_with fail
  refine H3.out.mono ?_
  rintro e w3 ⟨rfl, hb3⟩
  dsimp only
  have hB3 := hB2.trans (hb3.mono hB2.size)
  have H4 := hideIt (fields_is (HD.out w3 hB3)).2.1
  have HJ3 := hideIt (HJ1.out.keep (w' := w3) (fun hl => hb3.block _ hl))
  clear H3 HJ1 hB2 hb3
  go_wp2_with fail
  refine H4.out.mono ?_
  rintro e w4 ⟨rfl, hb4⟩
  dsimp only
  have hB4 := hB3.trans (hb4.mono hB3.size)
  have H5 := hideIt (refUsed_is (HR.out w4 hB4))
  have HJ4 := hideIt (HJ3.out.keep (w' := w4) (fun hl => hb4.block _ hl))
  clear H4 HJ3 hB3 hb4
  go_wp2_with fail
  refine H5.out.mono ?_
  rintro e w5 ⟨rfl, hb5⟩
  dsimp only
  have hB5 := hB4.trans (hb5.mono hB4.size)
  have H6 := hideIt (fields_is (HD.out w5 hB5)).1
  have HJ5 := hideIt (HJ4.out.keep (w' := w5) (fun hl => hb5.block _ hl))
  clear H5 HJ4 hB4 hb5
  go_wp2_with fail
  refine H6.out.mono ?_
  rintro e w6 ⟨rfl, hb6⟩
  dsimp only
  have hB6 := hB5.trans (hb6.mono hB5.size)
  have H7 := hideIt (refField_any (HR.out w6 hB6)).1
  have HJ6 := hideIt (HJ5.out.keep (w' := w6) (fun hl => hb6.block _ hl))
  clear H6 HJ5 hB5 hb6
  go_wp2_with fail
  refine H7.out.mono ?_
  rintro e w7 ⟨rfl, hb7⟩
  dsimp only
  have hB7 := hB6.trans (hb7.mono hB6.size)
  have H8 := hideIt (up_is (HD.out w7 hB7))
  have HJ7 := hideIt (HJ6.out.keep (w' := w7) (fun hl => hb7.block _ hl))
  clear H7 HJ6 hB6 hb7
  go_wp2_with fail
  refine H8.out.mono ?_
  rintro e w8 ⟨rfl, hb8⟩
  dsimp only
  have hB8 := hB7.trans (hb8.mono hB7.size)
  have H9 := hideIt (refField_any (HR.out w8 hB8)).2.1
  have HJ8 := hideIt (HJ7.out.keep (w' := w8) (fun hl => hb8.block _ hl))
  clear H8 HJ7 hB7 hb8
  go_wp2_with fail
  refine H9.out.mono ?_
  rintro e w9 ⟨rfl, hb9⟩
  dsimp only
  have hB9 := hB8.trans (hb9.mono hB8.size)
  have H10 := hideIt (fields_is (HD.out w9 hB9)).2.2
  have HJ9 := hideIt (HJ8.out.keep (w' := w9) (fun hl => hb9.block _ hl))
  clear H9 HJ8 hB8 hb9
  go_wp2_with fail
  refine H10.out.mono ?_
  rintro e w10 ⟨rfl, hb10⟩
  dsimp only
  have hB10 := hB9.trans (hb10.mono hB9.size)
  have H11 := hideIt (refField_any (HR.out w10 hB10)).2.2
  have HJ10 := hideIt (HJ9.out.keep (w' := w10) (fun hl => hb10.block _ hl))
  clear H10 HJ9 hB9 hb10
  go_wp2_with fail
  refine H11.out.mono ?_
  rintro e w11 ⟨rfl, hb11⟩
  dsimp only
  have hB11 := hB10.trans (hb11.mono hB10.size)
  have HJ11 := hideIt (HJ10.out.keep (w' := w11) (fun hl => hb11.block _ hl))
  clear H11 HJ10 hB10 hb11
  generalize hld : segments S = l at *
  go_wp2
  go_loopw [8, 9] (fun o v wr => ∃ t : Nat, t ≤ l.length ∧ o = .bool true ∧ v = .int .i64 (t : Int) ∧ Hid (Rest wr g1 a1 l t) ∧ Hid (Below w.heap.size w wr)) (fun _ v _ => l.length - (intOf v).toNat)
  case atStart => exact ⟨0, by omega, by simp, rfl, Rest.start HJ11.out, hB11⟩
  case round =>
    obtain ⟨t, htl, rfl, rfl, HT, HB⟩ := hrel
    by_cases hlt : t < l.length
    · have hlt' : (t : Int) < l.length := by omega
      obtain ⟨rfl, cur, hcur, hat⟩ := HT.out hlt
      have ci : wr.cell? ⟨g1, t, none⟩ = some (.int .i64 (l[t] : Int)) := by rw [cell_at hcur]; exact hat t hlt (Nat.le_refl _)
      have hk := hlt0 l[t] (List.getElem_mem hlt)
      have hgl : w.heap.size ≤ g1 := hg1 (by intro e; subst e; simp at hlt)
      have hgw : g1 < wr.heap.size := (Array.getElem?_eq_some_iff.1 hcur).1
      have R1 := hideIt (read_is (HD.out wr HB.out) (l[t] : Int) (wf64 _ (by omega) (by omega)))
      generalize hkd : l[t] = k at *
      clear hcur hat
      go_wp2_with fail
      refine R1.out.mono ?_
      rintro e w12 ⟨rfl, hb12⟩
      dsimp only
      have hB12 := HB.out.trans (hb12.mono HB.out.size)
      have R2 := hideIt (refRead_is (HR.out w12 hB12) (k : Int))
      have ci2 : w12.cell? ⟨g1, t, none⟩ = some (.int .i64 (k : Int)) := (hb12.cell (p := ⟨g1, t, none⟩) hgw).trans ci
      have hT12 := HT.out.keep (w' := w12) (fun hl => hb12.block _ hl)
      have HT12 := hideIt hT12
      have HB12 := hideIt hB12
      have hgw12 := Nat.lt_of_lt_of_le hgw hb12.size
      clear R1 hT12 hB12 ci hb12
      go_wp2_with fail
      refine R2.out.mono ?_
      rintro e w13 ⟨rfl, hb13⟩
      dsimp only
      have HB13 := hideIt (HB12.out.trans (hb13.mono HB12.out.size))
      have ci3 : w13.cell? ⟨g1, t, none⟩ = some (.int .i64 (k : Int)) := (hb13.cell (p := ⟨g1, t, none⟩) hgw12).trans ci2
      have hT13 := HT12.out.keep (w' := w13) (fun hl => hb13.block _ hl)
      have fz : w13.frozen? ⟨g1, t, none⟩ = false := by
        obtain ⟨_, cur, hcur, _⟩ := hT13 hlt
        exact free_at hcur t
      have HT13 := hideIt hT13
      clear R2 hT13 ci2 hb13 HB12 HT12
      go_wp2
      go_roundw
      case rel =>
        refine ⟨t + 1, by omega, by simp, by go_num, HT13.out.step hlt _, ?_⟩
        exact HB13.out.trans ((Out.ofSet (F := fun b => b = g1) w13 ⟨g1, t, none⟩ _ rfl).below HB13.out.size (fun j hj => by omega))
      case measure => simp [intOf]; omega
    · have hlt' : ¬ (t : Int) < l.length := by omega
      have R1 := hideIt (read_is (HD.out wr HB.out) i hi)
      go_wp2_with fail
      refine R1.out.mono ?_
      rintro e w12 ⟨rfl, hb12⟩
      dsimp only
      have HB12 := hideIt (HB.out.trans (hb12.mono HB.out.size))
      have R2 := hideIt (refRead_is (HR.out w12 HB12.out) i)
      clear R1 hb12
      go_wp2_with fail
      refine R2.out.mono ?_
      rintro e w13 ⟨rfl, hb13⟩
      dsimp only
      have HB13 := hideIt (HB12.out.trans (hb13.mono HB12.out.size))
      clear R2 hb13
      go_wp2
      go_ret
      exact ⟨by simp, HB13.out⟩
end Go.Proofs.Ytpgimffghaelhaa
