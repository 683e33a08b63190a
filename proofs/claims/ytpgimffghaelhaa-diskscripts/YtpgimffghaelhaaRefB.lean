/- The document's disk is changed: its Fuse, Append, Sync, Cut, Drop. -/
import Derived.Test.YtpgimffghaelhaaLook
import Derived.StillTailTactics
namespace Go.Proofs.Ytpgimffghaelhaa
open Go.RowKit Go.Maps

section
variable {w : World} {F : Nat → Prop} {q bb sb cb cc room : Nat} {fuse : Int} {age : Nat} {f : Nat → Seg}
theorem RCore.lts (h : RCore w F q bb sb cb cc room fuse age f) : q < w.heap.size ∧ bb < w.heap.size ∧ sb < w.heap.size := by
  obtain ⟨c1, h1, _⟩ := h.texts
  obtain ⟨c2, h2, _⟩ := h.safes
  exact ⟨(Array.getElem?_eq_some_iff.1 h.cells).1, (Array.getElem?_eq_some_iff.1 h1).1, (Array.getElem?_eq_some_iff.1 h2).1⟩
theorem RCore.setText (h : RCore w F q bb sb cb cc room fuse age f) (k : Nat) (bs : List UInt8) : RCore (w.setCell ⟨bb, k, none⟩ (.string ⟨bs.toArray⟩)) F q bb sb cb cc room fuse age (put f k ⟨bs, (f k).safe⟩) := by
  obtain ⟨l1, l2, l3⟩ := h.lts
  obtain ⟨cur, h1, h2⟩ := h.texts
  obtain ⟨cur2, h3, h4⟩ := h.safes
  have ho : Out (fun b => b = bb) w (w.setCell ⟨bb, k, none⟩ (.string ⟨bs.toArray⟩)) := Out.ofSet w _ _ rfl
  refine ⟨(ho.block q l1 h.qb).trans h.cells, ⟨cur.setIfInBounds k (.string ⟨bs.toArray⟩), ?_, fun j hj => ?_⟩, ⟨cur2, (ho.block sb l3 (fun e => h.bs e.symm)).trans h3, fun j hj => ?_⟩, h.inq, h.inb, h.ins, h.qb, h.qs, h.bs⟩
  · rw [setCell_eq_setRow _ bb k cur 9 (0, 0) _ h1]
    exact setRow_heap _ bb cur _ 9 _ h1
  · by_cases e : j = k
    · subst e
      have hs : j < cur.size := by have := h2 j hj; exact (Array.getElem?_eq_some_iff.1 this).1
      rw [Array.getElem?_setIfInBounds_self_of_lt hs]
      simp [bytesV, put_same]
    · rw [Array.getElem?_setIfInBounds_ne (Ne.symm e), h2 j hj]
      simp [bytesV, put_other f k j _ e]
  · rw [h4 j hj]
    by_cases e : j = k
    · subst e; rw [put_same]
    · rw [put_other f k j _ e]
theorem RCore.setSafe (h : RCore w F q bb sb cb cc room fuse age f) (k sf : Nat) : RCore (w.setCell ⟨sb, k, none⟩ (.int .i64 (sf : Int))) F q bb sb cb cc room fuse age (put f k ⟨(f k).bytes, sf⟩) := by
  obtain ⟨l1, l2, l3⟩ := h.lts
  obtain ⟨cur, h1, h2⟩ := h.texts
  obtain ⟨cur2, h3, h4⟩ := h.safes
  have ho : Out (fun b => b = sb) w (w.setCell ⟨sb, k, none⟩ (.int .i64 (sf : Int))) := Out.ofSet w _ _ rfl
  refine ⟨(ho.block q l1 h.qs).trans h.cells, ⟨cur, (ho.block bb l2 h.bs).trans h1, fun j hj => ?_⟩, ⟨cur2.setIfInBounds k (.int .i64 (sf : Int)), ?_, fun j hj => ?_⟩, h.inq, h.inb, h.ins, h.qb, h.qs, h.bs⟩
  · rw [h2 j hj]
    by_cases e : j = k
    · subst e; simp [bytesV, put_same]
    · simp [bytesV, put_other f k j _ e]
  · rw [setCell_eq_setRow _ sb k cur2 3 (0, 0) _ h3]
    exact setRow_heap _ sb cur2 _ 3 _ h3
  · by_cases e : j = k
    · subst e
      have hs : j < cur2.size := by have := h4 j hj; exact (Array.getElem?_eq_some_iff.1 this).1
      rw [Array.getElem?_setIfInBounds_self_of_lt hs, put_same]
    · rw [Array.getElem?_setIfInBounds_ne (Ne.symm e), h4 j hj, put_other f k j _ e]
theorem RCore.setFuse (h : RCore w F q bb sb cb cc room fuse age f) (fu : Int) : RCore (w.setCell ⟨q, 3, none⟩ (.int .i64 fu)) F q bb sb cb cc room fu age f := by
  obtain ⟨l1, l2, l3⟩ := h.lts
  obtain ⟨cur, h1, h2⟩ := h.texts
  obtain ⟨cur2, h3, h4⟩ := h.safes
  have ho : Out (fun b => b = q) w (w.setCell ⟨q, 3, none⟩ (.int .i64 fu)) := Out.ofSet w _ _ rfl
  refine ⟨?_, ⟨cur, (ho.block bb l2 (fun e => h.qb e.symm)).trans h1, h2⟩, ⟨cur2, (ho.block sb l3 (fun e => h.qs e.symm)).trans h3, h4⟩, h.inq, h.inb, h.ins, h.qb, h.qs, h.bs⟩
  rw [setCell_eq_setRow _ q 3 _ 66 (0, 0) _ h.cells]
  exact setRow_heap _ q _ _ 66 _ h.cells
theorem RCore.setAge (h : RCore w F q bb sb cb cc room fuse age f) (n : Nat) : RCore (w.setCell ⟨q, 4, none⟩ (.int .i64 (n : Int))) F q bb sb cb cc room fuse n f := by
  obtain ⟨l1, l2, l3⟩ := h.lts
  obtain ⟨cur, h1, h2⟩ := h.texts
  obtain ⟨cur2, h3, h4⟩ := h.safes
  have ho : Out (fun b => b = q) w (w.setCell ⟨q, 4, none⟩ (.int .i64 (n : Int))) := Out.ofSet w _ _ rfl
  refine ⟨?_, ⟨cur, (ho.block bb l2 (fun e => h.qb e.symm)).trans h1, h2⟩, ⟨cur2, (ho.block sb l3 (fun e => h.qs e.symm)).trans h3, h4⟩, h.inq, h.inb, h.ins, h.qb, h.qs, h.bs⟩
  rw [setCell_eq_setRow _ q 4 _ 66 (0, 0) _ h.cells]
  exact setRow_heap _ q _ _ 66 _ h.cells
theorem RCore.freeT (h : RCore w F q bb sb cb cc room fuse age f) (k : Nat) : w.frozen? ⟨bb, k, none⟩ = false := by obtain ⟨cur, h1, _⟩ := h.texts; exact free_at h1 k
theorem RCore.freeS (h : RCore w F q bb sb cb cc room fuse age f) (k : Nat) : w.frozen? ⟨sb, k, none⟩ = false := by obtain ⟨cur, h1, _⟩ := h.safes; exact free_at h1 k
/-- burn. -/
theorem burn_any (h : RCore w F q bb sb cb cc room fuse age f) (h1 : -1 ≤ fuse) (h2 : fuse ≤ 9223372036854775807) :
    Calls Try.prog 54 #[.pointer (some ⟨q, 0, none⟩)] w fun e w' => e = .returned (.tuple #[]) ∧ RCore w' F q bb sb cb cc room (if 0 < fuse then fuse - 1 else fuse) age f ∧ Out (fun b => b = q) w w' := by
  have c3 : w.cell? ⟨q, 3, none⟩ = some (.int .i64 fuse) := by rw [cell_at h.cells]; rfl
  have f3 := free_at h.cells 3
  by_cases h0 : 0 < fuse
  · rw [if_pos h0]
    have H := hideIt (h.setFuse (fuse - 1))
    clear h
    go_enter Try.func54, Try.ntmps54
    go_wp2
    go_end0
    exact ⟨rfl, H.out, Out.ofSet w _ _ rfl⟩
  · rw [if_neg h0]
    have H := hideIt h
    clear h
    go_enter Try.func54, Try.ntmps54
    go_wp2
    go_end0
    exact ⟨rfl, H.out, Out.refl _ _⟩
end
theorem refFuse_is {w : World} {F : Nat → Prop} {q : Nat} {S : St} {N : Nat} (h : RefAt w F q S N) (n : Int) (hn9 : n ≤ 9223372036854775807) :
    Calls Try.prog 41 #[.pointer (some ⟨q, 0, none⟩), .int .i64 n] w fun e w' => e = .returned (.int .i64 (fuseE n : Int)) ∧ RefAt w' F q (fuseS S n) N ∧ Out F w w' := by
  have HA := hideIt h
  obtain ⟨bb, sb, cb, cc, hc, hg, r⟩ := h
  unfold fuseE fuseS
  by_cases hn : n < -1
  · rw [if_pos hn, if_pos hn]
    clear hc
    go_enter Try.func41, Try.ntmps41
    go_wp2
    go_ret
    exact ⟨rfl, HA.out, Out.refl _ _⟩
  · rw [if_neg hn, if_neg hn]
    have c3 : w.cell? ⟨q, 3, none⟩ = some (.int .i64 S.fuse) := by rw [cell_at hc.cells]; rfl
    have f3 := free_at hc.cells 3
    have H := hideIt (hc.setFuse n)
    have hq := hc.inq
    obtain ⟨g1, g2, g3, g4, g5⟩ := hg
    clear hc HA
    go_enter Try.func41, Try.ntmps41
    go_wp2
    go_ret
    exact ⟨rfl, ⟨bb, sb, cb, cc, H.out, ⟨g1, g2, g3, by show -1 ≤ n; omega, hn9⟩, r⟩, Out.ofSet w _ _ hq⟩
set_option maxHeartbeats 2000000 in
set_option maxRecDepth 100000 in
theorem refAppend_is {w : World} {F : Nat → Prop} {q : Nat} {S : St} {N : Nat} (h : RefAt w F q S N) (i : Int) (s : ByteArray) :
    Calls Try.prog 37 #[.pointer (some ⟨q, 0, none⟩), .int .i64 i, .string s] w fun e w' => e = .returned (.int .i64 (appendE S i s.data.toList : Int)) ∧ RefAt w' F q (appendS S i s.data.toList) N ∧ Out F w w' := by
  have HA := hideIt h
  have hstay : appendE S i s.data.toList ≠ 0 → appendS S i s.data.toList = S := fun e => by unfold appendS; rw [if_neg e]
  have hsz : s.data.toList.length = s.size := by simp
  have HU := hideIt (fun n => refUsed_same (h.keep (w' := w.drewN n) (fun _ _ _ => rfl)))
  obtain ⟨bb, sb, cb, cc, hc, hg, r⟩ := h
  have c0 : w.cell? ⟨q, 0, none⟩ = some (.int .i64 (S.room : Int)) := by rw [cell_at hc.cells]; rfl
  have c1 : w.cell? ⟨q, 1, none⟩ = some (.slice (some ⟨bb, 0, none⟩) 1000 cb) := by rw [cell_at hc.cells]; rfl
  have c3 : w.cell? ⟨q, 3, none⟩ = some (.int .i64 S.fuse) := by rw [cell_at hc.cells]; rfl
  have hg1 := hg.1
  have hg3 := hg.2.2.1
  by_cases h0 : S.fuse = 0
  · have e1 : appendE S i s.data.toList = 31 := by unfold appendE; rw [if_pos h0]
    rw [e1, hstay (by omega)]
    have h0' : (S.fuse == 0) = true := by simp [h0]
    clear hc h0 hstay HU
    go_enter Try.func37, Try.ntmps37
    go_wp2
    go_ret
    exact ⟨rfl, HA.out, Out.refl _ _⟩
  · have h0' : (S.fuse == 0) = false := by simp [h0]
    by_cases h1 : i < 0 ∨ i > 999 ∨ s.data.toList = []
    · have e1 : appendE S i s.data.toList = 1 := by unfold appendE; rw [if_neg h0, if_pos h1]
      rw [e1, hstay (by omega)]
      clear hc h0 hstay HU
      by_cases h2 : i < 0
      · go_enter Try.func37, Try.ntmps37
        go_wp2
        go_ret
        exact ⟨rfl, HA.out, Out.refl _ _⟩
      · by_cases h3 : 999 < i
        · go_enter Try.func37, Try.ntmps37
          go_wp2
          go_ret
          exact ⟨rfl, HA.out, Out.refl _ _⟩
        · have h4 : s.toList.isEmpty = true := by
            rcases h1 with h | h | h
            · exact absurd h h2
            · exact absurd h h3
            · exact isEmpty_of s ((size0 s).1 h)
          clear h1
          go_enter Try.func37, Try.ntmps37
          go_wp2
          go_ret
          exact ⟨rfl, HA.out, Out.refl _ _⟩
    · have h2 : ¬ i < 0 := fun e => h1 (.inl e)
      have h3 : ¬ 999 < i := fun e => h1 (.inr (.inl e))
      have h4 : s.toList.isEmpty = false := notEmpty_of s (fun e => h1 (.inr (.inr ((size0 s).2 e))))
      by_cases h5 : S.room < tot S.seg 1000 + s.data.toList.length
      · have e1 : appendE S i s.data.toList = 32 := by unfold appendE; rw [if_neg h0, if_neg h1, if_pos h5]
        rw [e1, hstay (by omega)]
        have hr : (S.room : Int) - (tot S.seg 1000 : Int) < (s.size : Int) := by rw [hsz] at h5; omega
        clear hc h0 hstay h1 h5 e1
        go_enter Try.func37, Try.ntmps37
        go_wp2
        go_quiet (first | (go_at_call 32; exact Calls.quiet_of_same (HU.out _)))
        go_wp2
        go_ret
        exact ⟨rfl, HA.out.keep (fun _ _ _ => rfl), Out.ofBelow (below_drewN (Below.refl _ _) _)⟩
      · have e1 : appendE S i s.data.toList = 0 := by unfold appendE; rw [if_neg h0, if_neg h1, if_neg h5]
        unfold appendS
        rw [e1, if_pos rfl]
        obtain ⟨k, rfl⟩ : ∃ k : Nat, i = (k : Int) := ⟨i.toNat, by omega⟩
        simp only [Int.toNat_natCast]
        have hk : k < 1000 := by omega
        have hk' : (k : Int) < 1000 := by omega
        have hr : ¬ ((S.room : Int) - (tot S.seg 1000 : Int) < (s.size : Int)) := by rw [hsz] at h5; omega
        have hone := tot_one S.seg k 1000 hk
        have htp := tot_put S.seg k ⟨(S.seg k).bytes ++ s.data.toList, (S.seg k).safe⟩ 1000 hk
        have hx := hc.text k hk
        have hfz := hc.freeT k
        unfold bytesV at hx
        have hcat : (⟨(S.seg k).bytes.toArray⟩ : ByteArray) ++ s = ⟨((S.seg k).bytes ++ s.data.toList).toArray⟩ := by
          apply ByteArray.ext
          apply Array.ext'
          simp
        have hsx : (⟨(S.seg k).bytes.toArray⟩ : ByteArray).size = (S.seg k).bytes.length := by simp [ByteArray.size]
        have hbig : (⟨(S.seg k).bytes.toArray⟩ : ByteArray).size + s.size ≤ 1048576 := by rw [hsx, ← hsz]; omega
        have HC := hideIt hc
        have hgall := hg
        obtain ⟨g1, g2, g3, g4, g5⟩ := hg
        have Hcat := hideIt hcat
        have hinq := hc.inq
        have hinb := hc.inb
        have HT := hideIt htp
        generalize htx : (⟨(S.seg k).bytes.toArray⟩ : ByteArray) = tx at *
        clear hc h0 hstay h1 h5 e1 hcat htp
        go_enter Try.func37, Try.ntmps37
        go_wp2
        go_quiet (first | (go_at_call 32; exact Calls.quiet_of_same (HU.out _)))
        go_upto_region 7 with fail
        generalize hWd : w.drewN _ = W
        have d1 : W.cell? ⟨q, 1, none⟩ = some (.slice (some ⟨bb, 0, none⟩) 1000 cb) := by rw [← hWd]; exact c1
        have d2 : W.cell? ⟨bb, k, none⟩ = some (.string tx) := by rw [← hWd]; exact hx
        have d3 : W.frozen? ⟨bb, k, none⟩ = false := by rw [← hWd]; exact hfz
        have hWw : ∀ j : Nat, W.heap[j]? = w.heap[j]? := fun j => by rw [← hWd]; rfl
        have hWs : W.heap.size = w.heap.size := by rw [← hWd]; rfl
        clear c0 c1 c3 hx hfz HU hbig
        go_region
        have hCX := (HC.out.keep (w' := W) (fun j _ _ => hWw j)).setText k ((S.seg k).bytes ++ s.data.toList)
        rw [← Hcat.out] at hCX
        have hXo : Out F w (W.setCell ⟨bb, k, none⟩ (.string (tx ++ s))).drew := by
          refine ⟨?_, ?_, ?_, ?_, fun j hj hn => ?_⟩
          · rw [← hWd]; rfl
          · rw [← hWd]; rfl
          · rw [← hWd]; rfl
          · show w.heap.size ≤ (W.setCell ⟨bb, k, none⟩ (.string (tx ++ s))).heap.size
            simp [hWs]
          · show (W.setCell ⟨bb, k, none⟩ (.string (tx ++ s))).heap[j]? = _
            rw [RowKit.Below.heap_setCell _ _ _ _ (by intro e; apply hn; have e2 : j = bb := e; rw [e2]; exact hinb), hWw]
        have hCX2 := hCX.keep (w' := (W.setCell ⟨bb, k, none⟩ (.string (tx ++ s))).drew) (fun _ _ _ => rfl)
        generalize (W.setCell ⟨bb, k, none⟩ (.string (tx ++ s))).drew = X at *
        have HBn := hideIt (burn_any hCX2 g4 g5)
        have HXo := hideIt hXo
        clear hCX hCX2 hXo hWw hWs hWd d1 d2 d3
        go_wp2_with fail
        refine HBn.out.mono ?_
        rintro e w5 ⟨rfl, hc5, ho5⟩
        dsimp only
        have HC5 := hideIt hc5
        clear hc5
        go_wp2
        go_ret
        refine ⟨rfl, ⟨bb, sb, cb, cc, HC5.out, ⟨g1, fun j => ?_, ?_, ?_, ?_⟩, r⟩, HXo.out.trans ho5 (fun i _ e => e ▸ hinq)⟩
        · show (put S.seg k _ j).safe ≤ (put S.seg k _ j).bytes.length
          by_cases e : j = k
          · subst e
            rw [put_same]
            have := g2 j
            simp only [List.length_append]
            omega
          · rw [put_other _ _ _ _ e]
            exact g2 j
        · have := HT.out
          simp only [List.length_append, hsz] at this
          show tot (put S.seg k _) 1000 ≤ S.room
          omega
        · simp only [burn]; split <;> omega
        · simp only [burn]; split <;> omega
theorem syncSeg_zero (f : Nat → Seg) : syncSeg f 0 = f := by funext k; simp [syncSeg]
theorem syncSeg_step (f : Nat → Seg) (t : Nat) : put (syncSeg f t) t ⟨(syncSeg f t t).bytes, (f t).bytes.length⟩ = syncSeg f (t + 1) := by
  funext k
  unfold put syncSeg
  by_cases e : k = t
  · subst e
    simp
  · simp only [e, if_false]
    by_cases h : k < t
    · rw [if_pos h, if_pos (by omega)]
    · rw [if_neg h, if_neg (by omega)]
theorem syncSeg_now (f : Nat → Seg) (t : Nat) : syncSeg f t t = f t := by simp [syncSeg]
set_option maxHeartbeats 2000000 in
set_option maxRecDepth 100000 in
theorem refSync_is {w : World} {F : Nat → Prop} {q : Nat} {S : St} {N : Nat} (h : RefAt w F q S N) :
    Calls Try.prog 38 #[.pointer (some ⟨q, 0, none⟩)] w fun e w' => e = .returned (.int .i64 (syncE S : Int)) ∧ RefAt w' F q (syncS S) N ∧ Out F w w' := by
  have HA := hideIt h
  obtain ⟨bb, sb, cb, cc, hc, hg, r⟩ := h
  unfold syncE syncS
  have c3 : w.cell? ⟨q, 3, none⟩ = some (.int .i64 S.fuse) := by rw [cell_at hc.cells]; rfl
  by_cases h0 : S.fuse = 0
  · rw [if_pos h0, if_pos h0]
    have h0' : (S.fuse == 0) = true := by simp [h0]
    clear hc h0
    go_enter Try.func38, Try.ntmps38
    go_wp2
    go_ret
    exact ⟨rfl, HA.out, Out.refl _ _⟩
  · rw [if_neg h0, if_neg h0]
    have h0' : (S.fuse == 0) = false := by simp [h0]
    have hgall := hg
    obtain ⟨g1, g2, g3, g4, g5⟩ := hg
    have hinq := hc.inq
    have hins := hc.ins
    have HC := hideIt hc
    clear hc h0
    go_enter Try.func38, Try.ntmps38
    go_wp2
    go_loopw [3] (fun v wr => ∃ t : Nat, t ≤ 1000 ∧ v = .int .i64 (t : Int) ∧ Hid (RCore wr F q bb sb cb cc S.room S.fuse S.age (syncSeg S.seg t)) ∧ Hid (Out F w wr)) (fun v _ => 1000 - (intOf v).toNat)
    case atStart => exact ⟨0, by omega, rfl, by rw [syncSeg_zero]; exact HC, Out.refl _ _⟩
    case round =>
      obtain ⟨t, htl, rfl, HCr, HO⟩ := hrel
      have c1 : wr.cell? ⟨q, 1, none⟩ = some (.slice (some ⟨bb, 0, none⟩) 1000 cb) := by rw [cell_at HCr.out.cells]; rfl
      have c2 : wr.cell? ⟨q, 2, none⟩ = some (.slice (some ⟨sb, 0, none⟩) 1000 cc) := by rw [cell_at HCr.out.cells]; rfl
      by_cases hlt : t < 1000
      · have hlt' : (t : Int) < 1000 := by omega
        have hx := HCr.out.text t hlt
        have hs := HCr.out.safe t hlt
        have hfz := HCr.out.freeS t
        have hst := HCr.out.setSafe t (S.seg t).bytes.length
        rw [syncSeg_step] at hst
        have HST := hideIt hst
        unfold bytesV at hx
        rw [syncSeg_now] at hx hs
        have hsx : (⟨(S.seg t).bytes.toArray⟩ : ByteArray).size = (S.seg t).bytes.length := by simp [ByteArray.size]
        clear hst
        rw [← hsx] at HST
        generalize (⟨(S.seg t).bytes.toArray⟩ : ByteArray) = tx at *
        clear hsx
        go_wp2
        go_region
        go_wp2
        go_roundw
        case rel => exact ⟨t + 1, by omega, by go_num, HST.out.keep (fun _ _ _ => rfl), (HO.out.trans (Out.ofSet (F := F) wr ⟨sb, t, none⟩ _ hins) (fun _ _ h => h)).trans (Out.ofDrew (F := F) _) (fun _ _ h => h)⟩
        case measure => simp [intOf]; omega
      · have hlt' : ¬ (t : Int) < 1000 := by omega
        obtain rfl : t = 1000 := by omega
        have HBn := hideIt (burn_any HCr.out g4 g5)
        go_wp2_with fail
        refine HBn.out.mono ?_
        rintro e w5 ⟨rfl, hc5, ho5⟩
        dsimp only
        have HC5 := hideIt hc5
        clear hc5
        go_wp2
        go_ret
        refine ⟨rfl, ⟨bb, sb, cb, cc, HC5.out, ⟨g1, fun j => ?_, ?_, ?_, ?_⟩, r⟩, HO.out.trans ho5 (fun i _ e => e ▸ hinq)⟩
        · show (syncSeg S.seg 1000 j).safe ≤ (syncSeg S.seg 1000 j).bytes.length
          unfold syncSeg
          split
          · exact Nat.le_refl _
          · exact g2 j
        · show tot (syncSeg S.seg 1000) 1000 ≤ S.room
          rw [tot_congr (syncSeg S.seg 1000) S.seg (fun k => by unfold syncSeg; split <;> rfl)]
          exact g3
        · simp only [burn]; split <;> omega
        · simp only [burn]; split <;> omega
end Go.Proofs.Ytpgimffghaelhaa
