/- The document's disk is cut, dropped, crashed. -/
import Derived.Test.YtpgimffghaelhaaRefB
import Derived.Test.YtpgimffghaelhaaCut
namespace Go.Proofs.Ytpgimffghaelhaa
open Go.RowKit Go.Maps

theorem cut_goodS {S : St} {k n : Nat} (hg : good S) (hk : k < 1000) (hn : n ≤ (S.seg k).bytes.length) : good (burn { S with seg := put S.seg k (cutSeg (S.seg k) n) }) := by
  obtain ⟨g1, g2, g3, g4, g5⟩ := hg
  have hlen : ((S.seg k).bytes.take n).length = n := by simp; omega
  refine ⟨g1, fun j => ?_, ?_, ?_, ?_⟩
  · show (put S.seg k _ j).safe ≤ (put S.seg k _ j).bytes.length
    by_cases e : j = k
    · subst e
      rw [put_same]
      show min (S.seg j).safe n ≤ ((S.seg j).bytes.take n).length
      rw [hlen]
      omega
    · rw [put_other _ _ _ _ e]
      exact g2 j
  · have htp := tot_put S.seg k (cutSeg (S.seg k) n) 1000 hk
    have e : (cutSeg (S.seg k) n).bytes.length = n := hlen
    have := tot_one S.seg k 1000 hk
    show tot (put S.seg k _) 1000 ≤ S.room
    omega
  · simp only [burn]; split <;> omega
  · simp only [burn]; split <;> omega
theorem ext_takeR (L : List UInt8) (m : Nat) : (⟨L.toArray⟩ : ByteArray).extract 0 m = ⟨(L.take m).toArray⟩ := by
  apply ByteArray.ext
  apply Array.ext'
  simp
set_option maxHeartbeats 2000000 in
set_option maxRecDepth 100000 in
theorem refCut_is {w : World} {F : Nat → Prop} {q : Nat} {S : St} {N : Nat} (h : RefAt w F q S N) (i n : Int) :
    Calls Try.prog 39 #[.pointer (some ⟨q, 0, none⟩), .int .i64 i, .int .i64 n] w fun e w' => e = .returned (.int .i64 (cutE S i n : Int)) ∧ RefAt w' F q (cutS S i n) N ∧ Out F w w' := by
  have HA := hideIt h
  have Ht := hideIt (there_is h i)
  have hstay : cutE S i n ≠ 0 → cutS S i n = S := fun e => by unfold cutS; rw [if_neg e]
  obtain ⟨bb, sb, cb, cc, hc, hg, r⟩ := h
  have c3 : w.cell? ⟨q, 3, none⟩ = some (.int .i64 S.fuse) := by rw [cell_at hc.cells]; rfl
  obtain ⟨l1, l2, l3⟩ := hc.lts
  by_cases h0 : S.fuse = 0
  · have e1 : cutE S i n = 31 := by unfold cutE; rw [if_pos h0]
    rw [e1, hstay (by omega)]
    have h0' : (S.fuse == 0) = true := by simp [h0]
    clear hc h0 hstay
    go_enter Try.func39, Try.ntmps39
    go_wp2
    go_ret
    exact ⟨rfl, HA.out, Out.refl _ _⟩
  · have h0' : (S.fuse == 0) = false := by simp [h0]
    by_cases ht : thereI S i
    · rw [@decide_eq_true _ (thereD S _) ht] at Ht
      have e0 : cutE S i n = (if n < 0 ∨ n > (S.seg i.toNat).bytes.length then 1 else 0) := by unfold cutE; rw [if_neg h0, if_neg (fun h => h ht)]
      obtain ⟨k, rfl, hk, hne⟩ := thereI_nat ht
      simp only [Int.toNat_natCast] at e0
      have hk' : (k : Int) < 1000 := by omega
      have hx := hc.text k hk
      have hs := hc.safe k hk
      unfold bytesV at hx
      have hsx : (⟨(S.seg k).bytes.toArray⟩ : ByteArray).size = (S.seg k).bytes.length := by simp [ByteArray.size]
      by_cases hn : n < 0 ∨ n > (S.seg k).bytes.length
      · rw [if_pos hn] at e0
        rw [e0, hstay (by omega)]
        rw [← hsx] at hn
        generalize (⟨(S.seg k).bytes.toArray⟩ : ByteArray) = tx at *
        have HCc := hideIt hc
        clear hc h0 hstay ht e0 hne hsx
        by_cases hn1 : n < 0
        · go_enter Try.func39, Try.ntmps39
          go_wp2_with fail
          refine Ht.out.mono ?_
          rintro e w1 ⟨rfl, hb⟩
          dsimp only
          go_wp2
          go_ret
          exact ⟨rfl, HA.out.below hb, Out.ofBelow hb⟩
        · have hn2 : (tx.size : Int) < n := by omega
          go_enter Try.func39, Try.ntmps39
          go_wp2_with fail
          refine Ht.out.mono ?_
          rintro e w1 ⟨rfl, hb⟩
          dsimp only
          have d1 : w1.cell? ⟨q, 1, none⟩ = some (.slice (some ⟨bb, 0, none⟩) 1000 cb) := by rw [hb.cell (p := ⟨q, 1, none⟩) l1, cell_at HCc.out.cells]; rfl
          have d2 : w1.cell? ⟨bb, k, none⟩ = some (.string tx) := (hb.cell (p := ⟨bb, k, none⟩) l2).trans hx
          go_wp2
          go_ret
          exact ⟨rfl, HA.out.below hb, Out.ofBelow hb⟩
      · rw [if_neg hn] at e0
        obtain ⟨m, rfl⟩ : ∃ m : Nat, n = (m : Int) := ⟨n.toNat, by omega⟩
        have hm : m ≤ (S.seg k).bytes.length := by omega
        have hgood := cut_goodS hg hk hm
        have g4 := hg.2.2.2.1
        have g5 := hg.2.2.2.2
        unfold cutS
        rw [e0, if_pos rfl]
        simp only [Int.toNat_natCast]
        have hcat := ext_takeR (S.seg k).bytes m
        have hm1 : ¬ (m : Int) < 0 := by omega
        have hm2 : ¬ (((⟨(S.seg k).bytes.toArray⟩ : ByteArray).size : Int) < m) := by rw [hsx]; omega
        have hm3 : (m : Int) ≤ ((⟨(S.seg k).bytes.toArray⟩ : ByteArray).size : Int) := by rw [hsx]; omega
        have Hcat := hideIt hcat
        have HC := hideIt hc
        have hinq := hc.inq
        have hinb := hc.inb
        have hins := hc.ins
        have hbs := hc.bs
        generalize htx : (⟨(S.seg k).bytes.toArray⟩ : ByteArray) = tx at *
        clear hc h0 hstay ht e0 hne hn hcat hsx hg
        go_enter Try.func39, Try.ntmps39
        go_wp2_with fail
        refine Ht.out.mono ?_
        rintro e w1 ⟨rfl, hb⟩
        dsimp only
        have HC1 := hideIt (HC.out.keep (w' := w1) (fun j _ hl => hb.block j hl))
        have d1 : w1.cell? ⟨q, 1, none⟩ = some (.slice (some ⟨bb, 0, none⟩) 1000 cb) := by rw [cell_at HC1.out.cells]; rfl
        have d2 : w1.cell? ⟨bb, k, none⟩ = some (.string tx) := by rw [← htx]; exact HC1.out.text k hk
        have d3 := HC1.out.freeT k
        have Hb := hideIt hb
        clear Ht hx hs c3 hb
        go_upto_region 7 with fail
        go_region
        have hX := HC1.out.setText k ((S.seg k).bytes.take m)
        rw [← Hcat.out] at hX
        have HX := hideIt (hX.keep (w' := (w1.setCell ⟨bb, k, none⟩ (.string (tx.extract 0 m))).drew) (fun _ _ _ => rfl))
        have HXo := hideIt (((Out.ofBelow (F := F) Hb.out).trans (Out.ofSet (F := F) w1 ⟨bb, k, none⟩ (.string (tx.extract 0 m)) hinb) (fun _ _ h => h)).trans (Out.ofDrew (F := F) _) (fun _ _ h => h))
        generalize (w1.setCell ⟨bb, k, none⟩ (.string (tx.extract 0 m))).drew = X at *
        have x2 : X.cell? ⟨q, 2, none⟩ = some (.slice (some ⟨sb, 0, none⟩) 1000 cc) := by rw [cell_at HX.out.cells]; rfl
        have xs : X.cell? ⟨sb, k, none⟩ = some (.int .i64 ((S.seg k).safe : Int)) := by
          have := HX.out.safe k hk
          rwa [put_same] at this
        have xf := HX.out.freeS k
        clear d1 d2 d3 hX
        go_upto_region 8 with fail
        go_region
        have hY := HX.out.setSafe k (min (S.seg k).safe m)
        have eput : put (put S.seg k ⟨(S.seg k).bytes.take m, (S.seg k).safe⟩) k ⟨(put S.seg k ⟨(S.seg k).bytes.take m, (S.seg k).safe⟩ k).bytes, min (S.seg k).safe m⟩ = put S.seg k (cutSeg (S.seg k) m) := by
          funext j
          unfold put cutSeg
          by_cases e : j = k <;> simp [e]
        rw [eput] at hY
        have emin : ((min (S.seg k).safe m : Nat) : Int) = min ((S.seg k).safe : Int) (m : Int) := by omega
        rw [emin] at hY
        have HY := hideIt (hY.keep (w' := (X.setCell ⟨sb, k, none⟩ (.int .i64 (min ((S.seg k).safe : Int) (m : Int)))).drew) (fun _ _ _ => rfl))
        have HYo := hideIt ((HXo.out.trans (Out.ofSet (F := F) X ⟨sb, k, none⟩ (.int .i64 (min ((S.seg k).safe : Int) (m : Int))) hins) (fun _ _ h => h)).trans (Out.ofDrew (F := F) _) (fun _ _ h => h))
        generalize (X.setCell ⟨sb, k, none⟩ (.int .i64 (min ((S.seg k).safe : Int) (m : Int)))).drew = Y at *
        have HBn := hideIt (burn_any HY.out g4 g5)
        clear hY x2 xs xf eput emin
        go_wp2_with fail
        refine HBn.out.mono ?_
        rintro e w5 ⟨rfl, hc5, ho5⟩
        dsimp only
        have HC5 := hideIt hc5
        clear hc5
        go_wp2
        go_ret
        exact ⟨rfl, ⟨bb, sb, cb, cc, HC5.out, hgood, r⟩, HYo.out.trans ho5 (fun i _ e => e ▸ hinq)⟩
    · rw [@decide_eq_false _ (thereD S _) ht] at Ht
      have e1 : cutE S i n = 30 := by unfold cutE; rw [if_neg h0, if_pos ht]
      rw [e1, hstay (by omega)]
      clear hc h0 hstay ht e1
      go_enter Try.func39, Try.ntmps39
      go_wp2_with fail
      refine Ht.out.mono ?_
      rintro e w1 ⟨rfl, hb⟩
      dsimp only
      go_wp2
      go_ret
      exact ⟨rfl, HA.out.below hb, Out.ofBelow hb⟩
set_option maxHeartbeats 2000000 in
set_option maxRecDepth 100000 in
theorem refDrop_is {w : World} {F : Nat → Prop} {q : Nat} {S : St} {N : Nat} (h : RefAt w F q S N) (i : Int) :
    Calls Try.prog 40 #[.pointer (some ⟨q, 0, none⟩), .int .i64 i] w fun e w' => e = .returned (.int .i64 (cutE S i 0 : Int)) ∧ RefAt w' F q (cutS S i 0) N ∧ Out F w w' := by
  have HA := hideIt h
  have Ht := hideIt (there_is h i)
  have hstay : cutE S i 0 ≠ 0 → cutS S i 0 = S := fun e => by unfold cutS; rw [if_neg e]
  obtain ⟨bb, sb, cb, cc, hc, hg, r⟩ := h
  have c3 : w.cell? ⟨q, 3, none⟩ = some (.int .i64 S.fuse) := by rw [cell_at hc.cells]; rfl
  obtain ⟨l1, l2, l3⟩ := hc.lts
  by_cases h0 : S.fuse = 0
  · have e1 : cutE S i 0 = 31 := by unfold cutE; rw [if_pos h0]
    rw [e1, hstay (by omega)]
    have h0' : (S.fuse == 0) = true := by simp [h0]
    clear hc h0 hstay
    go_enter Try.func40, Try.ntmps40
    go_wp2
    go_ret
    exact ⟨rfl, HA.out, Out.refl _ _⟩
  · have h0' : (S.fuse == 0) = false := by simp [h0]
    by_cases ht : thereI S i
    · rw [@decide_eq_true _ (thereD S _) ht] at Ht
      have e0 : cutE S i 0 = 0 := by unfold cutE; rw [if_neg h0, if_neg (fun h => h ht), if_neg (by omega)]
      obtain ⟨k, rfl, hk, hne⟩ := thereI_nat ht
      have hk' : (k : Int) < 1000 := by omega
      have hgood := cut_goodS (n := 0) hg hk (by omega)
      have g4 := hg.2.2.2.1
      have g5 := hg.2.2.2.2
      unfold cutS
      rw [e0, if_pos rfl]
      simp only [Int.toNat_natCast, Int.toNat_zero]
      have HC := hideIt hc
      have hinq := hc.inq
      have hinb := hc.inb
      have hins := hc.ins
      clear hc h0 hstay ht e0 hne hg
      go_enter Try.func40, Try.ntmps40
      go_wp2_with fail
      refine Ht.out.mono ?_
      rintro e w1 ⟨rfl, hb⟩
      dsimp only
      have HC1 := hideIt (HC.out.keep (w' := w1) (fun j _ hl => hb.block j hl))
      have d1 : w1.cell? ⟨q, 1, none⟩ = some (.slice (some ⟨bb, 0, none⟩) 1000 cb) := by rw [cell_at HC1.out.cells]; rfl
      have d2 := HC1.out.text k hk
      unfold bytesV at d2
      have d3 := HC1.out.freeT k
      have Hb := hideIt hb
      clear Ht c3 hb
      go_upto_region 6 with fail
      have HX := hideIt (HC1.out.setText k [])
      have HXo := hideIt ((Out.ofBelow (F := F) Hb.out).trans (Out.ofSet (F := F) w1 ⟨bb, k, none⟩ (.string ⟨#[]⟩) hinb) (fun _ _ h => h))
      generalize w1.setCell ⟨bb, k, none⟩ (.string ⟨#[]⟩) = X at *
      have HX2 : Hid (RCore X F q bb sb cb cc S.room S.fuse S.age (put S.seg k ⟨[], (S.seg k).safe⟩)) := HX
      have x2 : X.cell? ⟨q, 2, none⟩ = some (.slice (some ⟨sb, 0, none⟩) 1000 cc) := by rw [cell_at HX2.out.cells]; rfl
      have xs := HX2.out.safe k hk
      have xf := HX2.out.freeS k
      clear d1 d2 d3 HX
      go_upto_region 7 with fail
      have hY := HX2.out.setSafe k 0
      have eput : put (put S.seg k ⟨[], (S.seg k).safe⟩) k ⟨(put S.seg k ⟨[], (S.seg k).safe⟩ k).bytes, 0⟩ = put S.seg k (cutSeg (S.seg k) 0) := by
        funext j
        unfold put cutSeg
        by_cases e : j = k <;> simp [e]
      rw [eput] at hY
      have HY : Hid (RCore (X.setCell ⟨sb, k, none⟩ (.int .i64 0)) F q bb sb cb cc S.room S.fuse S.age (put S.seg k (cutSeg (S.seg k) 0))) := hY
      have HYo := hideIt (HXo.out.trans (Out.ofSet (F := F) X ⟨sb, k, none⟩ (.int .i64 0) hins) (fun _ _ h => h))
      generalize X.setCell ⟨sb, k, none⟩ (.int .i64 0) = Y at *
      have HBn := hideIt (burn_any HY.out g4 g5)
      clear hY x2 xs xf eput
      go_wp2_with fail
      refine HBn.out.mono ?_
      rintro e w5 ⟨rfl, hc5, ho5⟩
      dsimp only
      have HC5 := hideIt hc5
      clear hc5
      go_wp2
      go_ret
      exact ⟨rfl, ⟨bb, sb, cb, cc, HC5.out, hgood, r⟩, HYo.out.trans ho5 (fun i _ e => e ▸ hinq)⟩
    · rw [@decide_eq_false _ (thereD S _) ht] at Ht
      have e1 : cutE S i 0 = 30 := by unfold cutE; rw [if_neg h0, if_pos ht]
      rw [e1, hstay (by omega)]
      clear hc h0 hstay ht e1
      go_enter Try.func40, Try.ntmps40
      go_wp2_with fail
      refine Ht.out.mono ?_
      rintro e w1 ⟨rfl, hb⟩
      dsimp only
      go_wp2
      go_ret
      exact ⟨rfl, HA.out.below hb, Out.ofBelow hb⟩
end Go.Proofs.Ytpgimffghaelhaa
