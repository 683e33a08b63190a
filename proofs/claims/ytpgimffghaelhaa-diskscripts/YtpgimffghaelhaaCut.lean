/- What a disk's Cut and Drop answer and leave (D4), and its Fuse (D6). -/
import Derived.Test.YtpgimffghaelhaaCrash
namespace Go.Proofs.Ytpgimffghaelhaa
open Go.RowKit Go.Maps

theorem cutE_read {S : St} {i n : Int} (h : readE S i ≠ 0) : cutE S i n = readE S i := by
  unfold cutE readE at *
  split
  · rfl
  · rename_i h0
    rw [if_neg h0] at h
    split
    · rfl
    · rename_i ht
      rw [if_neg ht] at h
      exact absurd rfl h
theorem cutE_there {S : St} {i n : Int} (h : readE S i = 0) : S.fuse ≠ 0 ∧ thereI S i ∧ cutE S i n = (if n < 0 ∨ n > (S.seg i.toNat).bytes.length then 1 else 0) := by
  unfold cutE readE at *
  split at h
  · cases h
  · rename_i h0
    split at h
    · cases h
    · rename_i ht
      exact ⟨h0, Classical.not_not.1 ht, by rw [if_neg h0, if_neg ht]⟩
set_option maxHeartbeats 1000000 in
theorem cut_err {w : World} {F : Nat → Prop} {p : Nat} {S : St} {N : Nat} (h : DiskAt w F p S N) (i n : Int) (hi : (Lit.int .i64 i).wf = true) (he : cutE S i n ≠ 0) :
    Calls Try.prog 26 #[.pointer (some ⟨p, 0, none⟩), .int .i64 i, .int .i64 n] w fun e w' => e = .returned (.int .i64 (cutE S i n : Int)) ∧ Below w.heap.size w w' := by
  have Hm := hideIt (missing_is h i hi)
  by_cases hr : readE S i = 0
  · obtain ⟨h0, ht, e1⟩ := cutE_there (n := n) hr
    rw [hr] at Hm
    rw [e1] at he ⊢
    have hn : n < 0 ∨ n > (S.seg i.toNat).bytes.length := Classical.byContradiction fun hh => he (by rw [if_neg hh])
    rw [if_pos hn]
    obtain ⟨k, rfl, hk, hne⟩ := thereI_nat ht
    simp only [Int.toNat_natCast] at hn
    obtain ⟨mb, ch, fs, ff, fm, rb, cp, D, hc, r⟩ := h
    have hp : p < w.heap.size := (Array.getElem?_eq_some_iff.1 hc.cells).1
    have hm := hc.map.lt
    clear e1 he ht r
    by_cases hn1 : n < 0
    · go_enter Try.func26, Try.ntmps26
      go_wp2_with fail
      refine Hm.out.mono ?_
      rintro e w1 ⟨rfl, hb⟩
      dsimp only
      have c2 : w1.cell? ⟨p, 2, none⟩ = some (.map (some mb)) := by rw [hb.cell hp, cell_at hc.cells]; rfl
      have hl := look_hit hc k hk hne w1 (hb.block mb hm)
      simp only [segV] at hl
      clear hc hne Hm hn
      go_wp2
      go_ret
      exact ⟨rfl, hb.alloc hb.size _⟩
    · have hn2 : ((S.seg k).bytes.length : Int) < n := by omega
      go_enter Try.func26, Try.ntmps26
      go_wp2_with fail
      refine Hm.out.mono ?_
      rintro e w1 ⟨rfl, hb⟩
      dsimp only
      have c2 : w1.cell? ⟨p, 2, none⟩ = some (.map (some mb)) := by rw [hb.cell hp, cell_at hc.cells]; rfl
      have hl := look_hit hc k hk hne w1 (hb.block mb hm)
      simp only [segV] at hl
      clear hc hne Hm hn
      go_wp2
      go_ret
      exact ⟨rfl, hb.alloc hb.size _⟩
  · rw [cutE_read hr]
    have he' : ((readE S i : Int) != 0) = true := by simpa using hr
    generalize readE S i = x at *
    clear h
    go_enter Try.func26, Try.ntmps26
    go_wp2_with fail
    refine Hm.out.mono ?_
    rintro e w1 ⟨rfl, hb⟩
    dsimp only
    go_wp2
    go_ret
    exact ⟨rfl, hb⟩
set_option maxHeartbeats 2000000 in
set_option maxRecDepth 100000 in
theorem cut_ok {w : World} {F : Nat → Prop} {p : Nat} {S : St} {N : Nat} (h : DiskAt w F p S N) (k n : Nat) (h0 : S.fuse ≠ 0) (hk : k < 1000) (hne : (S.seg k).bytes ≠ []) (hn : n ≤ (S.seg k).bytes.length) (hN : N + 1 < 1099511627776) :
    Calls Try.prog 26 #[.pointer (some ⟨p, 0, none⟩), .int .i64 (k : Int), .int .i64 (n : Int)] w fun e w' => e = .returned (.int .i64 0) ∧ DiskAt w' F p (burn { S with seg := put S.seg k (cutSeg (S.seg k) n) }) (N + 1) ∧ Out F w w' := by
  have hrd : readE S (k : Int) = 0 := by
    unfold readE
    rw [if_neg h0, if_neg]
    exact fun hh => hh ⟨by omega, by omega, by simpa using hne⟩
  have Hm := hideIt (missing_is h (k : Int) (wf64 _ (by omega) (by omega)))
  rw [hrd] at Hm
  obtain ⟨mb, ch, fs, ff, fm, rb, cp, D, hc, hf, hg, ha⟩ := h
  have hp : p < w.heap.size := (Array.getElem?_eq_some_iff.1 hc.cells).1
  have hm := hc.map.lt
  have hg1 := hg.1
  have hg2 := hg.2.1
  have hg3 := hg.2.2.1
  have hone := tot_one S.seg k 1000 hk
  have hn1 : ¬ (n : Int) < 0 := by omega
  have hn2 : ¬ ((S.seg k).bytes.length : Int) < n := by omega
  have hlen : ((S.seg k).bytes.take n).length = n := by simp; omega
  obtain ⟨r1, r2, r3, r4⟩ := hc.rows k hk hne
  have hcpk : (S.seg k).bytes.length ≤ cp k := by obtain ⟨_, _, r, _⟩ := r1; exact r
  have HR := hideIt r1
  have HC := hideIt hc
  clear r1 hc
  go_enter Try.func26, Try.ntmps26
  go_wp2_with fail
  refine Hm.out.mono ?_
  rintro e w1 ⟨rfl, hb⟩
  dsimp only
  have c2 : w1.cell? ⟨p, 2, none⟩ = some (.map (some mb)) := by rw [hb.cell hp, cell_at HC.out.cells]; rfl
  have hl := look_hit HC.out k hk hne w1 (hb.block mb hm)
  simp only [segV] at hl
  have Hb := hideIt hb
  clear Hm hb
  go_wp2_with fail
  refine (first_any _ (rb k) (S.seg k).bytes.length (cp k) n _ hn hcpk).mono ?_
  rintro e w2 ⟨rfl, hb2⟩
  dsimp only
  have hX : Out (fun _ => False) w w2 := ((Out.ofBelow Hb.out).trans (Out.ofAlloc (F := fun _ => False) w1 _) (fun _ _ h => h)).trans (Out.ofBelow (F := fun _ => False) hb2) (fun _ _ h => h)
  have hCX := HC.out.out hX (fun _ _ h => h)
  have hRX : Row w2 (rb k) (cp k) ((S.seg k).bytes.take n) := (HR.out.cut n).keep (hX.block _ HR.out.lt (fun h => h))
  have hput := put_any hCX hk ((S.seg k).bytes.take n) (min (S.seg k).safe n) (rb k) (cp k) hRX r2 r3 r4 (fun j hj hjk hnj => HC.out.apart j k hj hk hjk hnj hne) rfl (by omega)
  rw [hlen] at hput
  have emin : ((min (S.seg k).safe n : Nat) : Int) = min ((S.seg k).safe : Int) (n : Int) := by omega
  rw [emin] at hput
  have HP := hideIt hput
  have HX := hideIt hX
  clear hput hX hCX hRX hb2 hl emin
  go_wp2_with fail
  refine HP.out.mono ?_
  rintro e w3 ⟨rfl, D', hC3, hO3⟩
  dsimp only
  have c3 : w3.cell? ⟨p, 3, none⟩ = some (.int .i64 ch) := by rw [cell_at hC3.cells]; rfl
  have f3 := free_at hC3.cells 3
  have HF3 := hideIt (hC3.field 3 (.int .i64 (ch + 1)))
  have HO3 := hideIt hO3
  have hch := hf.1
  have hch2 := hf.2.1
  have hNN := hf.2.2.1
  clear hC3 hO3 HP
  go_wp2_with fail
  refine (add_any p 3 ch _ c3 f3 hch (by omega)).mono ?_
  rintro e w4 ⟨⟨v, rfl⟩, rfl⟩
  dsimp only
  go_wp2
  go_ret
  have hle : tot (put S.seg k (cutSeg (S.seg k) n)) 1000 ≤ S.room := by
    have htp := tot_put S.seg k (cutSeg (S.seg k) n) 1000 hk
    have e : (cutSeg (S.seg k) n).bytes.length = n := hlen
    omega
  refine ⟨rfl, went (f := put S.seg k (cutSeg (S.seg k) n)) HF3.out hf h0 hg ha hN (fun j => ?_) hle, ?_⟩
  · by_cases e : j = k
    · subst e
      rw [put_same]
      show min (S.seg j).safe n ≤ ((S.seg j).bytes.take n).length
      rw [hlen]
      omega
    · rw [put_other _ _ _ _ e]
      exact hg2 j
  · refine (((HX.out.mono (G := fun b => b = p ∨ b = mb) (fun _ h => h.elim)).trans HO3.out (fun _ _ h => h)).trans (Out.ofSet (F := fun b => b = p) w3 ⟨p, 3, none⟩ _ rfl) (fun _ _ h => .inl h)).mono ?_
    rintro i (rfl | rfl)
    · exact HC.out.inp
    · exact HC.out.inm
theorem cut_is {w : World} {F : Nat → Prop} {p : Nat} {S : St} {N : Nat} (h : DiskAt w F p S N) (i n : Int) (hi : (Lit.int .i64 i).wf = true) (hN : N + 1 < 1099511627776) :
    Calls Try.prog 26 #[.pointer (some ⟨p, 0, none⟩), .int .i64 i, .int .i64 n] w fun e w' => e = .returned (.int .i64 (cutE S i n : Int)) ∧ DiskAt w' F p (cutS S i n) (N + 1) ∧ Out F w w' := by
  by_cases he : cutE S i n = 0
  · have hr : readE S i = 0 := Classical.byContradiction fun hh => hh ((cutE_read (n := n) hh) ▸ he)
    obtain ⟨h0, ht, e1⟩ := cutE_there (n := n) hr
    rw [e1] at he
    have hn : ¬ (n < 0 ∨ n > (S.seg i.toNat).bytes.length) := fun hh => by rw [if_pos hh] at he; cases he
    rw [← e1] at he
    obtain ⟨k, rfl, hk, hne⟩ := thereI_nat ht
    simp only [Int.toNat_natCast] at hn
    obtain ⟨m, rfl⟩ : ∃ m : Nat, n = (m : Int) := ⟨n.toNat, by omega⟩
    unfold cutS
    rw [he, if_pos rfl]
    exact cut_ok h k m h0 hk hne (by omega) hN
  · unfold cutS
    rw [if_neg he]
    refine (cut_err h i n hi he).mono ?_
    rintro e w' ⟨rfl, hb⟩
    exact ⟨rfl, (h.below hb).more (by omega) hN, Out.ofBelow hb⟩
theorem drop_is {w : World} {F : Nat → Prop} {p : Nat} {S : St} {N : Nat} (h : DiskAt w F p S N) (i : Int) (hi : (Lit.int .i64 i).wf = true) (hN : N + 1 < 1099511627776) :
    Calls Try.prog 19 #[.pointer (some ⟨p, 0, none⟩), .int .i64 i] w fun e w' => e = .returned (.int .i64 (cutE S i 0 : Int)) ∧ DiskAt w' F p (cutS S i 0) (N + 1) ∧ Out F w w' := by
  have H := hideIt (cut_is h i 0 hi hN)
  clear h
  go_enter Try.func19, Try.ntmps19
  go_wp2_with fail
  refine H.out.mono ?_
  rintro e w1 ⟨rfl, hd, ho⟩
  dsimp only
  have HD := hideIt hd
  clear hd
  go_wp2
  go_ret
  exact ⟨rfl, HD.out, ho⟩
set_option maxHeartbeats 1000000 in
theorem fuse_is {w : World} {F : Nat → Prop} {p : Nat} {S : St} {N : Nat} (h : DiskAt w F p S N) (n : Int) (hn9 : n ≤ 9223372036854775807) :
    Calls Try.prog 16 #[.pointer (some ⟨p, 0, none⟩), .int .i64 n] w fun e w' => e = .returned (.int .i64 (fuseE n : Int)) ∧ DiskAt w' F p (fuseS S n) N ∧ Out F w w' := by
  have HA := hideIt h
  obtain ⟨mb, ch, fs, ff, fm, rb, cp, D, hc, hf, hg, ha⟩ := h
  unfold fuseE fuseS
  by_cases hn : n < -1
  · rw [if_pos hn, if_pos hn]
    clear hc
    go_enter Try.func16, Try.ntmps16
    go_wp2
    go_ret
    exact ⟨rfl, HA.out, Out.refl _ _⟩
  · rw [if_neg hn, if_neg hn]
    have c3 : w.cell? ⟨p, 3, none⟩ = some (.int .i64 ch) := by rw [cell_at hc.cells]; rfl
    have c4 : w.cell? ⟨p, 4, none⟩ = some (.bool fs) := by rw [cell_at hc.cells]; rfl
    have c5 : w.cell? ⟨p, 5, none⟩ = some (.int .i64 ff) := by rw [cell_at hc.cells]; rfl
    have c6 : w.cell? ⟨p, 6, none⟩ = some (.int .i64 fm) := by rw [cell_at hc.cells]; rfl
    have f4 := free_at hc.cells 4
    have f5 := free_at hc.cells 5
    have f6 := free_at hc.cells 6
    have HE := hideIt (hc.field 4 (.bool false))
    have HE2 := hideIt (HE.out.field 5 (.int .i64 0))
    have HE3 := hideIt (HE2.out.field 6 (.int .i64 0))
    have o4 := Out.ofSet (F := fun b => b = p) w ⟨p, 4, none⟩ (.bool false) rfl
    have o5 := Out.ofSet (F := fun b => b = p) (w.setCell ⟨p, 4, none⟩ (.bool false)) ⟨p, 5, none⟩ (.int .i64 0) rfl
    have o6 := Out.ofSet (F := fun b => b = p) ((w.setCell ⟨p, 4, none⟩ (.bool false)).setCell ⟨p, 5, none⟩ (.int .i64 0)) ⟨p, 6, none⟩ (.int .i64 0) rfl
    have O6 := hideIt ((o4.trans o5 (fun _ _ h => h)).trans o6 (fun _ _ h => h))
    have hinp := hc.inp
    obtain ⟨g1, g2, g3, g4, g5⟩ := hg
    obtain ⟨k1, k2, k3, k4, k5, k6⟩ := hf
    clear o4 o5 o6 HE HE2 hc HA
    by_cases hm : 0 ≤ n
    · go_enter Try.func16, Try.ntmps16
      go_upto_region 4 with fail
      generalize hXd : ((w.setCell ⟨p, 4, none⟩ (.bool false)).setCell ⟨p, 5, none⟩ (.int .i64 0)).setCell ⟨p, 6, none⟩ (.int .i64 0) = X at *
      have d3 : X.cell? ⟨p, 3, none⟩ = some (.int .i64 ch) := by rw [cell_at HE3.out.cells]; rfl
      have d4 : X.cell? ⟨p, 4, none⟩ = some (.bool false) := by rw [cell_at HE3.out.cells]; rfl
      have d5 : X.cell? ⟨p, 5, none⟩ = some (.int .i64 0) := by rw [cell_at HE3.out.cells]; rfl
      have d6 : X.cell? ⟨p, 6, none⟩ = some (.int .i64 0) := by rw [cell_at HE3.out.cells]; rfl
      have e4 := free_at HE3.out.cells 4
      have e5 := free_at HE3.out.cells 5
      have e6 := free_at HE3.out.cells 6
      have HG := hideIt (HE3.out.field 4 (.bool true))
      have HG2 := hideIt (HG.out.field 5 (.int .i64 ch))
      have HG3 := hideIt (HG2.out.field 6 (.int .i64 n))
      have p4 := Out.ofSet (F := fun b => b = p) X ⟨p, 4, none⟩ (.bool true) rfl
      have p5 := Out.ofSet (F := fun b => b = p) (X.setCell ⟨p, 4, none⟩ (.bool true)) ⟨p, 5, none⟩ (.int .i64 ch) rfl
      have p6 := Out.ofSet (F := fun b => b = p) ((X.setCell ⟨p, 4, none⟩ (.bool true)).setCell ⟨p, 5, none⟩ (.int .i64 ch)) ⟨p, 6, none⟩ (.int .i64 n) rfl
      have P6 := hideIt ((p4.trans p5 (fun _ _ h => h)).trans p6 (fun _ _ h => h))
      clear c3 c4 c5 c6 f4 f5 f6 p4 p5 p6 HG HG2 hXd
      go_wp2_with fail
      refine (load_any _ ch _ d3).mono ?_
      rintro e w1 ⟨rfl, rfl⟩
      dsimp only
      go_wp2
      go_ret
      refine ⟨rfl, ⟨mb, ch, true, ch, n, rb, cp, D, HG3.out, ⟨k1, k2, k3, k1, Int.le_refl _, .inr ⟨rfl, hm, by show n = _; omega, hn9⟩⟩, ⟨g1, g2, g3, by show -1 ≤ n; omega, hn9⟩, ha⟩, ?_⟩
      exact (O6.out.trans P6.out (fun _ _ h => h)).mono (fun i e => by rw [e]; exact hinp)
    · obtain rfl : n = -1 := by omega
      go_enter Try.func16, Try.ntmps16
      go_wp2
      go_ret
      refine ⟨rfl, ⟨mb, ch, false, 0, 0, rb, cp, D, HE3.out, ⟨k1, k2, k3, by omega, k1, .inl ⟨rfl, rfl⟩⟩, ⟨g1, g2, g3, by show (-1 : Int) ≤ -1; omega, hn9⟩, ha⟩, ?_⟩
      exact O6.out.mono (fun i e => by rw [e]; exact hinp)
end Go.Proofs.Ytpgimffghaelhaa
