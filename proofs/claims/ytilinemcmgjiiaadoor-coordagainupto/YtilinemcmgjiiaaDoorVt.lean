/- vote: walked. -/
import Derived.Test.YtilinemcmgjiiaaDoorCv
namespace Go.Proofs.YtilinemcmgjiiaaDoor
open Go.RowKit
set_option linter.all false
theorem notAll2 (v : Value) (l l' : List PeeV) (w : World) (e : l = l') (h : Pees w v l) : Calls Tryd.prog 42 #[v, .func (.func 43) #[] #[]] w fun e w' => e = .returned (.bool (l'.any (fun p => !p.vo))) ∧ Below w.heap.size w w' := by
  subst e
  exact notAll_is v l w h
/-- What a vote of yes makes of a transaction. -/
def yesV (t : TraV) (ps : List PeeV) (am : List AmV) (ce : List CelV) : TraV := { t with ps := ps, am := addF t.am am 4, ce := t.ce ++ ce, st := if ps.any (fun p => !p.vo) = true then t.st else 2 }
theorem Turned.at {B b n c i : Nat} {w W w' : World} {ys : List TraX} {t : TraV} (h : Turned B W (.slice (some ⟨b, 0, none⟩) n c) ys i t w') (hb : Below w.heap.size w W) (hB : B ≤ w.heap.size) : Turned B w (.slice (some ⟨b, 0, none⟩) n c) ys i t w' := ⟨h.own, (hb.mono hB).trans h.bel, (KP.of hb).trans h.kp⟩
theorem set_at {ys : List TraX} {i : Nat} {y : TraX} (h : i < (ys.set i y).length) : (ys.set i y)[i] = y := List.getElem_set_self h
set_option maxHeartbeats 8000000 in
set_option maxRecDepth 100000 in
theorem vote_no {B b n c i k : Nat} {w : World} {ys : List TraX} (j : Int) (m : MesX) (h : TrsOwn B w (.slice (some ⟨b, 0, none⟩) n c) ys) (hi : i < ys.length) (hk : k = i * 21) (hB : B ≤ w.heap.size) (hyes : m.yes = false) : Calls Tryd.prog 26 #[.pointer (some ⟨b, k, none⟩), .int .i64 j, .agg (mesE m).toArray] w fun e w' => e = .returned (.bool false) ∧ Turned B w (.slice (some ⟨b, 0, none⟩) n c) ys i (abtV ys[i].v m.x.v.code) w' := by
  have C18 : (mesE m).toArray[18]? = some (.bool false) := by rw [← hyes]; rfl
  have C19 : (mesE m).toArray[19]? = some (.int .i64 m.x.v.code) := rfl
  generalize (mesE m).toArray = C at *
  generalize m.x.v.code = code at *
  have hb1 := below1 w (.cells C 47)
  have X1 := heap_alloc_new w (.cells C 47)
  have HA := hideIt (abort_is code (h.keep hb1) hi hk)
  have HB := hideIt (fun w' (ht : Turned B (w.alloc (.cells C 47)) (.slice (some ⟨b, 0, none⟩) n c) ys i (abtV ys[i].v code) w') => ht.at hb1 hB)
  clear hk hyes hb1 h
  generalize abtV ys[i].v code = T at *
  clear hi
  have m18 := (cell_at X1 18).trans C18
  have m19 := (cell_at X1 19).trans C19
  have mf := fun j => free_at X1 j
  have mz := (Array.getElem?_eq_some_iff.1 X1).1
  clear X1 C18 C19
  go_enter Tryd.func26, Tryd.ntmps26
  go_upto_region 1 with fail
  generalize w.alloc (.cells C 47) = W1 at *
  go_wp2_with fail
  refine HA.out.mono ?_
  rintro e w1 ⟨rfl, ht⟩
  dsimp only
  have HT := hideIt (HB.out _ ht)
  clear ht HB HA
  go_wp2
  go_ret
  exact ⟨rfl, HT.out⟩
set_option maxHeartbeats 8000000 in
set_option maxRecDepth 100000 in
theorem vote_idle {B b n c i k j : Nat} {w : World} {ys : List TraX} (m : MesX) (h : TrsOwn B w (.slice (some ⟨b, 0, none⟩) n c) ys) (hi : i < ys.length) (hk : k = i * 21) (hj : j < ys[i].ps.length) (hB : B ≤ w.heap.size) (hyes : m.yes = true) (hno : ¬ (ys[i].st = 1 ∧ ys[i].ps[j].vo = false)) : Calls Tryd.prog 26 #[.pointer (some ⟨b, k, none⟩), .int .i64 j, .agg (mesE m).toArray] w fun e w' => e = .returned (.bool false) ∧ Turned B w (.slice (some ⟨b, 0, none⟩) n c) ys i ys[i].v w' := by
  have C18 : (mesE m).toArray[18]? = some (.bool true) := by rw [← hyes]; rfl
  generalize (mesE m).toArray = C at *
  have hb1 := below1 w (.cells C 47)
  have X1 := heap_alloc_new w (.cells C 47)
  have HT : Hid (Turned B w (.slice (some ⟨b, 0, none⟩) n c) ys i ys[i].v (w.alloc (.cells C 47))) := ⟨⟨ys[i], rfl, by rw [List.set_getElem_self]; exact h.keep hb1⟩, hb1.mono hB, KP.of hb1⟩
  obtain ⟨pb, cur, hpa, hpB, hpb, hpc⟩ := (h.own _ (List.getElem_mem hi)).peers hj
  obtain ⟨hc, hf, hz⟩ := (h.keep hb1).cellAt hi
  have c13 : (w.alloc (.cells C 47)).cell? ⟨b, k + 13, none⟩ = some (.slice (some ⟨pb, 0, none⟩) ys[i].ps.length ys[i].pc) := by rw [hk, ← hpa]; exact hc 13 _ rfl
  have c14 : (w.alloc (.cells C 47)).cell? ⟨b, k + 14, none⟩ = some (.int .i64 ys[i].st) := by rw [hk]; exact hc 14 _ rfl
  have p3 : (w.alloc (.cells C 47)).cell? ⟨pb, j * 5 + 3, none⟩ = some (.bool ys[i].ps[j].vo) := (cell_at (blkK hpb hb1) _).trans ((cell_at hpb _).symm.trans (hpc 3 _ rfl))
  have hpz : pb < (w.alloc (.cells C 47)).heap.size := (Array.getElem?_eq_some_iff.1 (blkK hpb hb1)).1
  have m18 := (cell_at X1 18).trans C18
  have mf := fun j => free_at X1 j
  have mz := (Array.getElem?_eq_some_iff.1 X1).1
  have hj0 : (0 : Int) ≤ (j : Int) := by omega
  have hj1 : (j : Int) < (ys[i].ps.length : Int) := by omega
  clear hk hb1 h X1 C18 hc hpb hpa hpc hpB
  generalize ys[i].v = T at *
  generalize ys[i].ps[j].vo = vo at *
  generalize ys[i].ps.length = pn at *
  generalize ys[i].st = st at *
  generalize ys[i].pc = pc at *
  clear hj hyes
  by_cases hst : st = 1
  · have hvo : vo = true := by cases vo; exact absurd ⟨hst, rfl⟩ hno; rfl
    subst hvo
    subst hst
    clear hno
    go_enter Tryd.func26, Tryd.ntmps26
    go_upto_region 1 with fail
    generalize w.alloc (.cells C 47) = W1 at *
    go_wp2
    go_ret
    exact ⟨rfl, HT.out⟩
  · have hst2 : (st == 1) = false := by simpa using hst
    have hst3 : (st != 1) = true := by simpa using hst
    clear hno hst
    go_enter Tryd.func26, Tryd.ntmps26
    go_upto_region 1 with fail
    generalize w.alloc (.cells C 47) = W1 at *
    go_wp2
    go_ret
    exact ⟨rfl, HT.out⟩
set_option maxHeartbeats 16000000 in
set_option maxRecDepth 100000 in
theorem vote_yes {B b n c i k j : Nat} {w W0 : World} {ys : List TraX} (m : MesX) (h : TrsOwn B w (.slice (some ⟨b, 0, none⟩) n c) ys) (hi : i < ys.length) (hk : k = i * 21) (hj : j < ys[i].ps.length) (hm : MesAt W0 m) (hW : Below W0.heap.size W0 w) (h0 : W0.heap.size ≤ B) (hB : B ≤ w.heap.size) (hs : (ys[i].cx.length + m.cx.length) * 144 ≤ 140737488355328) (hyes : m.yes = true) (hst : ys[i].st = 1) (hvo : ys[i].ps[j].vo = false) : Calls Tryd.prog 26 #[.pointer (some ⟨b, k, none⟩), .int .i64 j, .agg (mesE m).toArray] w fun e w' => e = .returned (.bool (!((ys[i].ps.set j { ys[i].ps[j] with vo := true }).any (fun p => !p.vo)))) ∧ Turned B w (.slice (some ⟨b, 0, none⟩) n c) ys i (yesV ys[i].v (ys[i].ps.set j { ys[i].ps[j] with vo := true }) m.x.v.am (m.cx.map CelX.v)) w' := by
  have C18 : (mesE m).toArray[18]? = some (.bool true) := by rw [← hyes]; rfl
  have C21 : (mesE m).toArray[21]? = some (.slice m.x.aa m.x.v.am.length m.x.ac) := rfl
  have C23 : (mesE m).toArray[23]? = some (.slice m.ca m.cx.length m.cc) := rfl
  generalize (mesE m).toArray = C at *
  have hb1 := below1 w (.cells C 47)
  have x1 := heap_alloc_new w (.cells C 47)
  have o1 := h.keep hb1
  obtain ⟨pb, cur, hpa, hpB, hpb, hpc⟩ := (o1.own _ (List.getElem_mem hi)).peers hj
  -- the peer's word
  have o2 := o1.putPeer (f := 3) hi hj hpa hpb (by omega) (.bool true) { ys[i].ps[j] with vo := true } rfl
  have k2 := (KP.of hb1).trans (KP.set (j := j * 5 + 3) (.bool true) hpb notT2)
  have b2 := belowSet (j := j * 5 + 3) (.bool true) (hb1.mono hB) hpB
  have x2 := (KP.set (j := j * 5 + 3) (.bool true) hpb notT2) _ _ _ x1 (by unfold noT; decide) (by decide)
  obtain ⟨hc, hf, hz⟩ := o1.cellAt hi
  have c13 : (w.alloc (.cells C 47)).cell? ⟨b, k + 13, none⟩ = some (.slice (some ⟨pb, 0, none⟩) ys[i].ps.length ys[i].pc) := by rw [hk, ← hpa]; exact hc 13 _ rfl
  have c14 : (w.alloc (.cells C 47)).cell? ⟨b, k + 14, none⟩ = some (.int .i64 1) := by rw [hk, ← hst]; exact hc 14 _ rfl
  have p3 : (w.alloc (.cells C 47)).cell? ⟨pb, j * 5 + 3, none⟩ = some (.bool false) := by rw [← hvo]; exact hpc 3 _ rfl
  have pf : ∀ j, (w.alloc (.cells C 47)).frozen? ⟨pb, j, none⟩ = false := fun j => free_at hpb j
  have hpz : pb < (w.alloc (.cells C 47)).heap.size := (Array.getElem?_eq_some_iff.1 hpb).1
  have m18 := (cell_at x1 18).trans C18
  have mf := fun j => free_at x1 j
  have mz := (Array.getElem?_eq_some_iff.1 x1).1
  have hj0 : (0 : Int) ≤ (j : Int) := by omega
  have hj1 : (j : Int) < (ys[i].ps.length : Int) := by omega
  have hbw : b < w.heap.size := by
    obtain ⟨cur0, hg0, _, _⟩ := h.blk
    exact (Array.getElem?_eq_some_iff.1 hg0).1
  have O2 := hideIt o2
  have K2 := hideIt k2
  have B2 := hideIt b2
  have X2 := hideIt x2
  -- the transaction with the peer's word
  obtain ⟨y, hy⟩ : ∃ y : TraX, y = { ys[i] with ps := ys[i].ps.set j { ys[i].ps[j] with vo := true } } := ⟨_, rfl⟩
  rw [← hy] at O2
  have EY : Hid (ys[i].ps.set j { ys[i].ps[j] with vo := true } = y.ps ∧ ys[i].v = { y.v with ps := ys[i].ps } ∧ y.st = 1 ∧ (y.cx.length + m.cx.length) * 144 ≤ 140737488355328) := by rw [hy]; exact ⟨rfl, rfl, hst, hs⟩
  rw [EY.out.1, show yesV ys[i].v y.ps m.x.v.am (m.cx.map CelX.v) = yesV y.v y.ps m.x.v.am (m.cx.map CelX.v) by rw [EY.out.2.1]; rfl]
  have Hs := hideIt EY.out.2.2.2
  have Hst := hideIt EY.out.2.2.1
  have HSET : Hid (∀ z, (ys.set i y).set i z = ys.set i z) := fun z => List.set_set ..
  have HI2 : Hid (i < (ys.set i y).length) := by rw [List.length_set]; exact hi
  have HY2 : Hid ((ys.set i y)[i]'HI2.out = y) := set_at _
  have HM := hideIt hm
  have HW := hideIt hW
  have HK := hideIt hk
  clear EY hy hs hst hvo hyes hm hW hk o2 k2 b2 x2 o1 h hc hpa hpb hpc C18 hb1
  generalize ys[i].ps.length = pn at *
  generalize ys[i].pc = pc at *
  clear hj
  go_enter Tryd.func26, Tryd.ntmps26
  go_upto_region 1 with fail
  generalize w.alloc (.cells C 47) = W1 at *
  go_upto_region 7 with fail
  generalize W1.setCell ⟨pb, j * 5 + 3, none⟩ (.bool true) = W2 at *
  clear x1 hf hz c14 p3 pf hpz m18 mf mz c13
  -- the amounts
  have m21 : W2.cell? ⟨w.heap.size, 21, none⟩ = some (.slice m.x.aa m.x.v.am.length m.x.ac) := (cell_at X2.out 21).trans C21
  have mf := fun j => free_at X2.out j
  have mz := (Array.getElem?_eq_some_iff.1 X2.out).1
  obtain ⟨hc, hf, hz⟩ := O2.out.cellAt HI2.out
  rw [HY2.out] at hc
  have c15 : W2.cell? ⟨b, k + 15, none⟩ = some (.slice y.ma y.am.length y.mc) := by rw [HK.out]; exact hc 15 _ rfl
  have en : b ≠ w.heap.size := by omega
  have HCl : Hid (∀ W, Below W2.heap.size W2 W → Calls Tryd.prog 41 #[.slice y.ma y.am.length y.mc, .slice m.x.aa m.x.v.am.length m.x.ac] W fun e w' => ∃ a1 c1, e = .returned (.slice a1 (addF y.am m.x.v.am 4).length c1) ∧ Hid (TrsOwn B (w'.setCell ⟨b, k + 15, none⟩ (.slice a1 (addF y.am m.x.v.am 4).length c1)) (.slice (some ⟨b, 0, none⟩) n c) (ys.set i { y with am := addF y.am m.x.v.am 4, ma := a1, mc := c1 }) ∧ KP w (w'.setCell ⟨b, k + 15, none⟩ (.slice a1 (addF y.am m.x.v.am 4).length c1)) ∧ Below B w (w'.setCell ⟨b, k + 15, none⟩ (.slice a1 (addF y.am m.x.v.am 4).length c1)) ∧ (w'.setCell ⟨b, k + 15, none⟩ (.slice a1 (addF y.am m.x.v.am 4).length c1)).heap[w.heap.size]? = some (.cells C 47 (0, 0))) ∧ w'.cell? ⟨w.heap.size, 21, none⟩ = some (.slice m.x.aa m.x.v.am.length m.x.ac) ∧ w'.cell? ⟨b, k + 15, none⟩ = some (.slice y.ma y.am.length y.mc) ∧ (∀ j, w'.frozen? ⟨b, j, none⟩ = false) ∧ b < w'.heap.size) := by
    intro W hW
    have oW := O2.out.keep hW
    have bW := B2.out.trans (hW.mono (Nat.le_trans (Nat.le_trans hB (Nat.le_of_lt mz)) (Nat.le_refl _)))
    have hoY := oW.own _ (List.getElem_mem HI2.out)
    rw [HY2.out] at hoY
    refine (added_is _ _ _ _ W hoY.at_.m (HM.out.x.keep (HW.out.trans (bW.mono h0))).a).mono ?_
    rintro e w' ⟨a1, c1, rfl, ho, hb⟩
    have o3 := oW.keep hb
    have b3 := below_via hW hb
    have hoY3 := o3.own _ (List.getElem_mem HI2.out)
    rw [HY2.out] at hoY3
    obtain ⟨cur3, hg3, hbB, _⟩ := o3.blk
    have hsz := (hb.size)
    have hWsz := hW.size
    have o4 := o3.put' HI2.out (j := 15) (by omega) (.slice a1 (addF y.am m.x.v.am 4).length c1) { y with am := addF y.am m.x.v.am 4, ma := a1, mc := c1 } (by rw [HY2.out]; rfl) ⟨hoY3.p, own_base ho (by omega), hoY3.c, hoY3.x, hoY3.sp, by have := addF_len y.am m.x.v.am 4; show (addF y.am m.x.v.am 4).length * 16 ≤ _; omega⟩ (by rw [HY2.out]) (by rw [HY2.out]) (by rw [HY2.out])
    rw [HSET.out, ← HK.out] at o4
    have ks := KP.set (j := k + 15) (.slice a1 (addF y.am m.x.v.am 4).length c1) hg3 notT1
    refine ⟨a1, c1, rfl, ⟨o4, (K2.out.trans (KP.of b3)).trans ks, belowSet _ (B2.out.trans (b3.mono (by omega))) hbB, ks _ _ _ (blkK X2.out b3) (by unfold noT; decide) (by decide)⟩, (cell_at (blkK X2.out b3) 21).trans C21, ?_, fun j => free_at hg3 j, (Array.getElem?_eq_some_iff.1 hg3).1⟩
    have := (o3.cellAt HI2.out).1 15 _ rfl
    rw [HK.out]
    rw [HY2.out] at this
    exact this
  clear hc O2 K2 B2 X2
  refine wp_region_held_drew (S := fun W => W.cell? ⟨w.heap.size, 21, none⟩ = some (.slice m.x.aa m.x.v.am.length m.x.ac)) (by kernel_rfl) (by go_keep) (fun hHeld => ?_)
  refine wpAnyH_take (i := 0) (oi := ⟨some 37, _, _, _, _, _⟩) (v := ?_) rfl (by kernel_rfl) (by kernel_rfl) (by kernel_rfl) (fun _ _ _ h => h) (Or.inl ⟨by rfl, ?_⟩) (by assumption) ?_
  rotate_left
  · intro w5 hSw
    (try dsimp only at hSw)
    go_simp
    (try with_reducible rfl)
  try simp only [Act.put, List.setIfInBounds_toArray, List.set_cons_zero, List.set_cons_succ]
  refine wpAnyH_take (i := 1) (oi := ⟨some 38, _, _, _, _, _⟩) (v := ?_) rfl (by kernel_rfl) (by kernel_rfl) (by kernel_rfl) (fun _ _ _ h => h) (Or.inl ⟨by rfl, ?_⟩) (by assumption) ?_
  rotate_left
  · intro w5 hSw
    (try dsimp only at hSw)
    go_simp
    (try with_reducible rfl)
  try simp only [Act.put, List.setIfInBounds_toArray, List.set_cons_zero, List.set_cons_succ]
  refine wpAnyH_take (i := 2) (oi := ⟨some 39, _, _, _, _, _⟩) (v := ?_) rfl (by kernel_rfl) (by kernel_rfl) (by kernel_rfl) (fun _ _ _ h => h) (Or.inl ⟨by rfl, ?_⟩) (by assumption) ?_
  rotate_left
  · intro w5 hSw
    (try dsimp only at hSw)
    go_simp
    (try with_reducible rfl)
  try simp only [Act.put, List.setIfInBounds_toArray, List.set_cons_zero, List.set_cons_succ]
  refine wpAnyH_take (i := 3) (oi := ⟨some 40, _, _, _, _, _⟩) (v := ?_) rfl (by kernel_rfl) (by kernel_rfl) (by kernel_rfl) (fun _ _ _ h => h) (Or.inl ⟨by rfl, ?_⟩) (by assumption) ?_
  rotate_left
  · intro w5 hSw
    (try dsimp only at hSw)
    go_simp
    (try with_reducible rfl)
  try simp only [Act.put, List.setIfInBounds_toArray, List.set_cons_zero, List.set_cons_succ]
  refine wpAnyH_take (i := 5) (oi := ⟨some 42, _, _, _, _, _⟩) (v := ?_) rfl (by kernel_rfl) (by kernel_rfl) (by kernel_rfl) (fun _ _ _ h => h) (Or.inl ⟨by rfl, ?_⟩) (by assumption) ?_
  rotate_left
  · intro w5 hSw
    (try dsimp only at hSw)
    go_simp
    (try with_reducible rfl)
  try simp only [Act.put, List.setIfInBounds_toArray, List.set_cons_zero, List.set_cons_succ]
  refine wpAnyH_take (i := 6) (oi := ⟨some 43, _, _, _, _, _⟩) (v := ?_) rfl (by kernel_rfl) (by kernel_rfl) (by kernel_rfl) (fun _ _ _ h => h) (Or.inl ⟨by rfl, ?_⟩) (by assumption) ?_
  rotate_left
  · intro w5 hSw
    (try dsimp only at hSw)
    go_simp
    (try with_reducible rfl)
  try simp only [Act.put, List.setIfInBounds_toArray, List.set_cons_zero, List.set_cons_succ]
  refine wpAnyH_take (i := 7) (oi := ⟨some 44, _, _, _, _, _⟩) (v := ?_) rfl (by kernel_rfl) (by kernel_rfl) (by kernel_rfl) (fun _ _ _ h => h) (Or.inl ⟨by rfl, ?_⟩) (by assumption) ?_
  rotate_left
  · intro w5 hSw
    (try dsimp only at hSw)
    go_simp
    (try with_reducible rfl)
  try simp only [Act.put, List.setIfInBounds_toArray, List.set_cons_zero, List.set_cons_succ]
  refine wpAnyH_ready (rs := [4]) (by kernel_rfl) (by simp) ?_
  refine (AllReadyH.cons (o := ⟨some 41, _, _, _, _, _⟩) rfl (fun Kx hK => ?_) AllReadyH.nil)
  go_simp
  refine hK.out _ _ (by go_keep) (fun hHeld => ?_)
  clear hK Kx
  try simp only [Act.put, List.setIfInBounds_toArray, List.set_cons_zero, List.set_cons_succ]
  refine wpAnyH_ready (rs := [8]) (by kernel_rfl) (by simp) ?_
  refine (AllReadyH.cons (o := ⟨some 45, _, _, _, _, _⟩) rfl (fun Kx hK => ?_) AllReadyH.nil)
  go_simp
  go_at_call 41
  refine (HCl.out _ (by first | exact Below.refl _ _ | exact (Below.refl _ _).drew)).mono ?_
  clear HCl m21 mf mz c15 hf hz
  rintro e w3 ⟨a1, c1, rfl, HE, m21, c15, hf, hz⟩
  refine hK.out _ _ (by go_keep) (fun hHeld => ?_)
  clear hK Kx
  try simp only [Act.put, List.setIfInBounds_toArray, List.set_cons_zero, List.set_cons_succ]
  refine wpAnyH_take (i := 9) (oi := ⟨some 46, _, _, _, _, _⟩) (v := ?_) rfl (by kernel_rfl) (by kernel_rfl) (by kernel_rfl) (fun _ _ _ h => h) (Or.inl ⟨by rfl, ?_⟩) (by assumption) ?_
  rotate_left
  · intro w5 hSw
    (try dsimp only at hSw)
    go_simp
    (try with_reducible rfl)
  try simp only [Act.put, List.setIfInBounds_toArray, List.set_cons_zero, List.set_cons_succ]
  refine wpAnyH_take (i := 10) (oi := ⟨some 47, _, _, _, _, _⟩) (v := ?_) rfl (by kernel_rfl) (by kernel_rfl) (by kernel_rfl) (fun _ _ _ h => h) (Or.inl ⟨by rfl, ?_⟩) (by assumption) ?_
  rotate_left
  · intro w5 hSw
    (try dsimp only at hSw)
    go_simp
    (try with_reducible rfl)
  try simp only [Act.put, List.setIfInBounds_toArray, List.set_cons_zero, List.set_cons_succ]
  refine wpAnyH_ready (rs := [11]) (by kernel_rfl) (by simp) ?_
  refine (AllReadyH.cons (o := ⟨none, _, _, _, _, _⟩) rfl (fun Kx hK => ?_) AllReadyH.nil)
  go_simp
  refine hK.out _ _ (by go_keep) (fun hHeld => ?_)
  clear hK Kx
  try simp only [Act.put, List.setIfInBounds_toArray, List.set_cons_zero, List.set_cons_succ]
  refine wpAnyH_done (by kernel_rfl) ?_ _
  clear m21 c15 hf hz hHeld
  generalize w3.setCell ⟨b, k + 15, none⟩ (.slice a1 (addF y.am m.x.v.am 4).length c1) = W4 at *
  obtain ⟨z, hz⟩ : ∃ z : TraX, z = { y with am := addF y.am m.x.v.am 4, ma := a1, mc := c1 } := ⟨_, rfl⟩
  have EZ : Hid (yesV y.v y.ps m.x.v.am (m.cx.map CelX.v) = { z.v with ce := z.v.ce ++ m.cx.map CelX.v, st := if y.ps.any (fun p => !p.vo) = true then 1 else 2 } ∧ z.cx = y.cx ∧ z.ps = y.ps ∧ z.st = 1) := by rw [hz]; exact ⟨by unfold yesV; rw [show y.v.st = 1 from Hst.out]; rfl, rfl, rfl, Hst.out⟩
  rw [← hz] at HE
  obtain ⟨o4, k4, b4, x4⟩ := HE.out
  have O4 := hideIt o4
  have K4 := hideIt k4
  have B4 := hideIt b4
  have X4 := hideIt x4
  have Hs2 : Hid ((z.cx.length + m.cx.length) * 144 ≤ 140737488355328) := by rw [EZ.out.2.1]; exact Hs.out
  have HI4 : Hid (i < (ys.set i z).length) := by rw [List.length_set]; exact hi
  have HY4 : Hid ((ys.set i z)[i]'HI4.out = z) := set_at _
  have HS4 : Hid (∀ x, (ys.set i z).set i x = ys.set i x) := fun x => List.set_set ..
  clear HE o4 k4 b4 x4 hz Hs Hst HI2 HY2 HSET
  go_upto_region 8 with fail
  -- the cells
  have m23 : W4.cell? ⟨w.heap.size, 23, none⟩ = some (.slice m.ca m.cx.length m.cc) := (cell_at X4.out 23).trans C23
  have mf := fun j => free_at X4.out j
  have mz := (Array.getElem?_eq_some_iff.1 X4.out).1
  obtain ⟨hc, hf, hz⟩ := O4.out.cellAt HI4.out
  rw [HY4.out] at hc
  have c16 : W4.cell? ⟨b, k + 16, none⟩ = some (.slice z.ca z.cx.length z.cc) := by rw [HK.out]; exact hc 16 _ rfl
  have HCl : Hid (∀ W, Below W4.heap.size W4 W → Calls Tryd.prog 20 #[.slice m.ca m.cx.length m.cc, .func (.func 21) #[] #[]] W fun e w' => ∃ a2 c2 n2, e = .returned (.slice a2 n2 c2) ∧ Hid (∃ a3 n3 c3 w'' x, (Builtin.append_ #[45, 45] 45 #[.slice z.ca z.cx.length z.cc, .slice a2 n2 c2]).run Tryd.prog w' = .ok (.slice a3 n3 c3) w'' ∧ Hid (x.v = { z.v with ce := z.v.ce ++ m.cx.map CelX.v } ∧ x.ps = z.ps ∧ TrsOwn B (w''.setCell ⟨b, k + 16, none⟩ (.slice a3 n3 c3)) (.slice (some ⟨b, 0, none⟩) n c) (ys.set i x) ∧ KP w (w''.setCell ⟨b, k + 16, none⟩ (.slice a3 n3 c3)) ∧ Below B w (w''.setCell ⟨b, k + 16, none⟩ (.slice a3 n3 c3)) ∧ (w''.setCell ⟨b, k + 16, none⟩ (.slice a3 n3 c3)).heap[w.heap.size]? = some (.cells C 47 (0, 0))) ∧ w''.cell? ⟨w.heap.size, 23, none⟩ = some (.slice m.ca m.cx.length m.cc) ∧ (∃ u, w''.cell? ⟨b, k + 16, none⟩ = some u) ∧ (∀ j, w''.frozen? ⟨b, j, none⟩ = false) ∧ b < w''.heap.size) ∧ w'.cell? ⟨w.heap.size, 23, none⟩ = some (.slice m.ca m.cx.length m.cc) ∧ w'.cell? ⟨b, k + 16, none⟩ = some (.slice z.ca z.cx.length z.cc) ∧ (∀ j, w'.frozen? ⟨b, j, none⟩ = false) ∧ b < w'.heap.size) := by
    intro W hW
    have oW := O4.out.keep hW
    have bW := B4.out.trans (hW.mono (Nat.le_trans hB (Nat.le_of_lt mz)))
    have hmC := (HM.out.c.keep (HW.out.trans (bW.mono h0)))
    refine (cells_is _ m.cx W hmC).mono ?_
    rintro e w' ⟨a2, c2, zs, rfl, hv, hcs, hb⟩
    have hzl : zs.length = (m.cx.map CelX.v).length := by rw [← hv, List.length_map]
    have hml : (m.cx.map CelX.v).length = m.cx.length := List.length_map ..
    have o5 := oW.keep hb
    have b5 := below_via hW hb
    have hoZ := o5.own _ (List.getElem_mem HI4.out)
    rw [HY4.out] at hoZ
    have hsz := hb.size
    have hWsz := hW.size
    have hs2 := Hs2.out
    rw [← hzl] at hcs
    obtain ⟨a3, c3, w'', hrun, how, hgr, hat⟩ := appA (enc := celE) (t := 45) celK cel1 Tryd.underlying45 infoCel rfl (by omega) (by omega) w' B (.slice z.ca z.cx.length z.cc) z.cx zs a2 c2 (by omega) hoZ.c.row hcs.at_.row (by omega)
    have o6 := o5.putCells HI4.out zs a3 c3 (fun x hx => (hcs.own x hx).base (by omega)) (by rw [HY4.out]; exact how) (by rw [HY4.out]; exact hgr) (by rw [HY4.out]; exact hat) (by rw [HY4.out]; omega)
    rw [HS4.out, ← HK.out] at o6
    obtain ⟨cur5, hg5, hbB, _⟩ := o5.blk
    have hg6 : w''.heap[b]? = some (.cells cur5 52 (0, 0)) := box_type hgr hoZ.c.row hg5 (by decide)
    have kA : KP w' w'' := KP.app hgr hoZ.c.row notT3
    have ks := KP.set (j := k + 16) (.slice a3 (z.cx ++ zs).length c3) hg6 notT1
    have bA : Below B w w'' := Below.grown (B4.out.trans (b5.mono (by omega))) hgr (by omega) (fun kk e => by
      obtain ⟨_, ⟨e0, _⟩ | ⟨g, cap, cur, hv, hb, hg, _⟩⟩ := hoZ.c.row
      · rw [e0] at e; cases e
      · rw [hv] at e; cases e; exact hb)
    have x5 := blkK X4.out b5
    have x6 := kA _ _ _ x5 (by unfold noT; decide) (by decide)
    have hce : ∃ u, w''.cell? ⟨b, k + 16, none⟩ = some u := by
      rw [cell_at hg6, ← cell_at hg5]
      exact ⟨_, by rw [HK.out]; exact (o5.cellAt HI4.out).1 16 _ rfl⟩
    have c5 : w'.cell? ⟨b, k + 16, none⟩ = some (.slice z.ca z.cx.length z.cc) := by
      have := (o5.cellAt HI4.out).1 16 _ rfl
      rw [HK.out]
      rw [HY4.out] at this
      exact this
    refine ⟨a2, c2, zs.length, by rw [hzl], ⟨a3, _, c3, w'', { z with cx := z.cx ++ zs, ca := a3, cc := c3 }, hrun, ⟨?_, rfl, ?_, ((K4.out.trans (KP.of b5)).trans kA).trans ks, belowSet _ bA hbB, ks _ _ _ x6 (by unfold noT; decide) (by decide)⟩, (cell_at x6 23).trans C23, hce, fun j => free_at hg6 j, (Array.getElem?_eq_some_iff.1 hg6).1⟩, (cell_at x5 23).trans C23, c5, fun j => free_at hg5 j, (Array.getElem?_eq_some_iff.1 hg5).1⟩
    · show TraX.v _ = _
      unfold TraX.v
      simp only [List.map_append, hv]
    · rw [HY4.out] at o6
      exact o6
  clear hc O4 K4 B4 X4 HS4 HY4 HI4 Hs2
  refine wp_region_held_drew (S := fun W => W.cell? ⟨w.heap.size, 23, none⟩ = some (.slice m.ca m.cx.length m.cc)) (by kernel_rfl) (by go_keep) (fun hHeld => ?_)
  refine wpAnyH_take (i := 0) (oi := ⟨some 48, _, _, _, _, _⟩) (v := ?_) rfl (by kernel_rfl) (by kernel_rfl) (by kernel_rfl) (fun _ _ _ h => h) (Or.inl ⟨by rfl, ?_⟩) (by assumption) ?_
  rotate_left
  · intro w5 hSw
    (try dsimp only at hSw)
    go_simp
    (try with_reducible rfl)
  try simp only [Act.put, List.setIfInBounds_toArray, List.set_cons_zero, List.set_cons_succ]
  refine wpAnyH_take (i := 1) (oi := ⟨some 49, _, _, _, _, _⟩) (v := ?_) rfl (by kernel_rfl) (by kernel_rfl) (by kernel_rfl) (fun _ _ _ h => h) (Or.inl ⟨by rfl, ?_⟩) (by assumption) ?_
  rotate_left
  · intro w5 hSw
    (try dsimp only at hSw)
    go_simp
    (try with_reducible rfl)
  try simp only [Act.put, List.setIfInBounds_toArray, List.set_cons_zero, List.set_cons_succ]
  refine wpAnyH_take (i := 2) (oi := ⟨some 50, _, _, _, _, _⟩) (v := ?_) rfl (by kernel_rfl) (by kernel_rfl) (by kernel_rfl) (fun _ _ _ h => h) (Or.inl ⟨by rfl, ?_⟩) (by assumption) ?_
  rotate_left
  · intro w5 hSw
    (try dsimp only at hSw)
    go_simp
    (try with_reducible rfl)
  try simp only [Act.put, List.setIfInBounds_toArray, List.set_cons_zero, List.set_cons_succ]
  refine wpAnyH_take (i := 3) (oi := ⟨some 51, _, _, _, _, _⟩) (v := ?_) rfl (by kernel_rfl) (by kernel_rfl) (by kernel_rfl) (fun _ _ _ h => h) (Or.inl ⟨by rfl, ?_⟩) (by assumption) ?_
  rotate_left
  · intro w5 hSw
    (try dsimp only at hSw)
    go_simp
    (try with_reducible rfl)
  try simp only [Act.put, List.setIfInBounds_toArray, List.set_cons_zero, List.set_cons_succ]
  refine wpAnyH_take (i := 5) (oi := ⟨some 53, _, _, _, _, _⟩) (v := ?_) rfl (by kernel_rfl) (by kernel_rfl) (by kernel_rfl) (fun _ _ _ h => h) (Or.inl ⟨by rfl, ?_⟩) (by assumption) ?_
  rotate_left
  · intro w5 hSw
    (try dsimp only at hSw)
    go_simp
    (try with_reducible rfl)
  try simp only [Act.put, List.setIfInBounds_toArray, List.set_cons_zero, List.set_cons_succ]
  refine wpAnyH_take (i := 6) (oi := ⟨some 54, _, _, _, _, _⟩) (v := ?_) rfl (by kernel_rfl) (by kernel_rfl) (by kernel_rfl) (fun _ _ _ h => h) (Or.inl ⟨by rfl, ?_⟩) (by assumption) ?_
  rotate_left
  · intro w5 hSw
    (try dsimp only at hSw)
    go_simp
    (try with_reducible rfl)
  try simp only [Act.put, List.setIfInBounds_toArray, List.set_cons_zero, List.set_cons_succ]
  refine wpAnyH_ready (rs := [4, 7]) (by kernel_rfl) (by simp) ?_
  refine (AllReadyH.cons (o := ⟨some 52, _, _, _, _, _⟩) rfl (fun Kx hK => ?_) (AllReadyH.cons (o := ⟨some 55, _, _, _, _, _⟩) rfl (fun Kx hK => ?_) AllReadyH.nil))
  · go_simp
    refine hK.out _ _ (by go_keep) (fun hHeld => ?_)
    clear hK Kx
    try simp only [Act.put, List.setIfInBounds_toArray, List.set_cons_zero, List.set_cons_succ]
    refine wpAnyH_ready (rs := [7]) (by kernel_rfl) (by simp) ?_
    refine (AllReadyH.cons (o := ⟨some 55, _, _, _, _, _⟩) rfl (fun Kx hK => ?_) AllReadyH.nil)
    go_simp
    go_at_call 20
    refine (HCl.out _ (by first | exact Below.refl _ _ | exact (Below.refl _ _).drew)).mono ?_
    clear HCl m23 mf mz c16 hf hz
    rintro e w5 ⟨a2, c2, n2, rfl, HE, m23, c16, hf, hz⟩
    obtain ⟨a3, n3, c3, w6, x, hrun, HX, m23', ⟨u6, c16'⟩, hf', hz'⟩ := HE.out
    refine hK.out _ _ (by go_keep) (fun hHeld => ?_)
    clear hK Kx
    try simp only [Act.put, List.setIfInBounds_toArray, List.set_cons_zero, List.set_cons_succ]
    refine wpAnyH_ready (rs := [8]) (by kernel_rfl) (by simp) ?_
    refine (AllReadyH.cons (o := ⟨some 56, _, _, _, _, _⟩) rfl (fun Kx hK => ?_) AllReadyH.nil)
    refine step_app_runK rfl _ _ 45 45 rfl _ _ rfl rfl hrun ?_
    refine hK.out _ _ (by go_keep) (fun hHeld => ?_)
    clear hK Kx
    try simp only [Act.put, List.setIfInBounds_toArray, List.set_cons_zero, List.set_cons_succ]
    clear hrun HE m23 c16 hf hz
    refine wpAnyH_take (i := 9) (oi := ⟨some 57, _, _, _, _, _⟩) (v := ?_) rfl (by kernel_rfl) (by kernel_rfl) (by kernel_rfl) (fun _ _ _ h => h) (Or.inl ⟨by rfl, ?_⟩) (by assumption) ?_
    rotate_left
    · intro w5 hSw
      (try dsimp only at hSw)
      go_simp
      (try with_reducible rfl)
    try simp only [Act.put, List.setIfInBounds_toArray, List.set_cons_zero, List.set_cons_succ]
    refine wpAnyH_take (i := 10) (oi := ⟨some 58, _, _, _, _, _⟩) (v := ?_) rfl (by kernel_rfl) (by kernel_rfl) (by kernel_rfl) (fun _ _ _ h => h) (Or.inl ⟨by rfl, ?_⟩) (by assumption) ?_
    rotate_left
    · intro w5 hSw
      (try dsimp only at hSw)
      go_simp
      (try with_reducible rfl)
    try simp only [Act.put, List.setIfInBounds_toArray, List.set_cons_zero, List.set_cons_succ]
    refine wpAnyH_ready (rs := [11]) (by kernel_rfl) (by simp) ?_
    refine (AllReadyH.cons (o := ⟨none, _, _, _, _, _⟩) rfl (fun Kx hK => ?_) AllReadyH.nil)
    go_simp
    refine hK.out _ _ (by go_keep) (fun hHeld => ?_)
    clear hK Kx
    try simp only [Act.put, List.setIfInBounds_toArray, List.set_cons_zero, List.set_cons_succ]
    refine wpAnyH_done (by kernel_rfl) ?_ _
    clear m23' c16' hf' hz'
    (repeat clear hHeld)
    generalize w6.setCell ⟨b, k + 16, none⟩ (.slice a3 n3 c3) = W7 at *
    obtain ⟨ev, eps, o7, k7, b7, x7⟩ := HX.out
    clear HX
    have HI7 : Hid (i < (ys.set i x).length) := by rw [List.length_set]; exact hi
    have HY7 : Hid ((ys.set i x)[i]'HI7.out = x) := set_at _
    have HS7 : Hid (∀ z, (ys.set i x).set i z = ys.set i z) := fun z => List.set_set ..
    obtain ⟨hc, hf, hz⟩ := o7.cellAt HI7.out
    rw [HY7.out] at hc
    have c13 : W7.cell? ⟨b, k + 13, none⟩ = some (.slice x.pa x.ps.length x.pc) := by rw [HK.out]; exact hc 13 _ rfl
    have c14 : W7.cell? ⟨b, k + 14, none⟩ = some (.int .i64 x.st) := by rw [HK.out]; exact hc 14 _ rfl
    have hoX := o7.own _ (List.getElem_mem HI7.out)
    rw [HY7.out] at hoX
    have HP : Hid (x.ps = y.ps) := eps.trans EZ.out.2.2.1
    have HN := hideIt (notAll2 (.slice x.pa x.ps.length x.pc) x.ps y.ps W7 HP.out hoX.at_.p)
    have HT : Hid (∀ w', Below W7.heap.size W7 w' → (y.ps.any (fun p => !p.vo) = true → Turned B w (.slice (some ⟨b, 0, none⟩) n c) ys i (yesV y.v y.ps m.x.v.am (m.cx.map CelX.v)) w') ∧ (y.ps.any (fun p => !p.vo) = false → Turned B w (.slice (some ⟨b, 0, none⟩) n c) ys i (yesV y.v y.ps m.x.v.am (m.cx.map CelX.v)) (w'.setCell ⟨b, k + 14, none⟩ (.int .i64 2))) ∧ w'.cell? ⟨b, k + 14, none⟩ = some (.int .i64 x.st) ∧ (∀ j, w'.frozen? ⟨b, j, none⟩ = false) ∧ b < w'.heap.size) := by
      intro w' hb
      have o8 := o7.keep hb
      obtain ⟨cur8, hg8, hbB, _⟩ := o8.blk
      have hsz := b7.size
      have b8 := b7.trans (hb.mono (by omega))
      have k8 := k7.trans (KP.of hb)
      have hoX8 := o8.own _ (List.getElem_mem HI7.out)
      rw [HY7.out] at hoX8
      refine ⟨fun ha => ⟨⟨x, ?_, o8⟩, b8, k8⟩, fun ha => ⟨⟨{ x with st := 2 }, ?_, ?_⟩, belowSet _ b8 hbB, k8.trans (KP.set _ hg8 notT1)⟩, (cell_at (blkK (o7.blk.choose_spec.1) hb) _).trans ((cell_at o7.blk.choose_spec.1 _).symm.trans c14), fun j => free_at hg8 j, (Array.getElem?_eq_some_iff.1 hg8).1⟩
      · rw [EZ.out.1, ha, if_pos rfl, ev, ← EZ.out.2.2.2]; rfl
      · rw [EZ.out.1, ha, if_neg (by decide)]
        have : TraX.v { x with st := 2 } = { x.v with st := 2 } := rfl
        rw [this, ev]
      · have o9 := o8.put' HI7.out (j := 14) (by omega) (.int .i64 2) { x with st := 2 } (by rw [HY7.out]; rfl) ⟨hoX8.p, hoX8.m, hoX8.c, hoX8.x, hoX8.sp, hoX8.sm⟩ (by rw [HY7.out]) (by rw [HY7.out]) (by rw [HY7.out])
        rw [HS7.out, ← HK.out] at o9
        exact o9
    clear o7 k7 b7 x7 hoX ev eps hc HY7 HS7 HI7 EZ HK HM HW
    generalize x.ps.length = xn at *
    clear HP
    cases hany : y.ps.any (fun p => !p.vo)
    · rw [hany] at HN HT
      have HA := hideIt hany
      clear hany
      go_wp2_with fail
      refine HN.out.mono ?_
      rintro e w8 ⟨rfl, hb⟩
      dsimp only
      obtain ⟨-, t2, c14, hf, hz⟩ := HT.out w8 hb
      have T2 := hideIt (t2 (by first | rfl | trivial))
      clear t2 hb HT HN
      go_wp2
      go_ret
      exact ⟨by rw [HA.out]; rfl, T2.out⟩
    · rw [hany] at HN HT
      have HA := hideIt hany
      clear hany
      go_wp2_with fail
      refine HN.out.mono ?_
      rintro e w8 ⟨rfl, hb⟩
      dsimp only
      obtain ⟨t1, -, -, -, -⟩ := HT.out w8 hb
      have T1 := hideIt (t1 (by first | rfl | trivial))
      clear t1 hb HT HN
      go_wp2
      go_ret
      exact ⟨by rw [HA.out]; rfl, T1.out⟩
  · go_simp
    go_at_call 20
    refine (HCl.out _ (by first | exact Below.refl _ _ | exact (Below.refl _ _).drew)).mono ?_
    clear HCl m23 mf mz c16 hf hz
    rintro e w5 ⟨a2, c2, n2, rfl, HE, m23, c16, hf, hz⟩
    obtain ⟨a3, n3, c3, w6, x, hrun, HX, m23', ⟨u6, c16'⟩, hf', hz'⟩ := HE.out
    refine hK.out _ _ (by go_keep) (fun hHeld => ?_)
    clear hK Kx
    try simp only [Act.put, List.setIfInBounds_toArray, List.set_cons_zero, List.set_cons_succ]
    refine wpAnyH_ready (rs := [4]) (by kernel_rfl) (by simp) ?_
    refine (AllReadyH.cons (o := ⟨some 52, _, _, _, _, _⟩) rfl (fun Kx hK => ?_) AllReadyH.nil)
    go_simp
    refine hK.out _ _ (by go_keep) (fun hHeld => ?_)
    clear hK Kx
    try simp only [Act.put, List.setIfInBounds_toArray, List.set_cons_zero, List.set_cons_succ]
    refine wpAnyH_ready (rs := [8]) (by kernel_rfl) (by simp) ?_
    refine (AllReadyH.cons (o := ⟨some 56, _, _, _, _, _⟩) rfl (fun Kx hK => ?_) AllReadyH.nil)
    refine step_app_runK rfl _ _ 45 45 rfl _ _ rfl rfl hrun ?_
    refine hK.out _ _ (by go_keep) (fun hHeld => ?_)
    clear hK Kx
    try simp only [Act.put, List.setIfInBounds_toArray, List.set_cons_zero, List.set_cons_succ]
    clear hrun HE m23 c16 hf hz
    refine wpAnyH_take (i := 9) (oi := ⟨some 57, _, _, _, _, _⟩) (v := ?_) rfl (by kernel_rfl) (by kernel_rfl) (by kernel_rfl) (fun _ _ _ h => h) (Or.inl ⟨by rfl, ?_⟩) (by assumption) ?_
    rotate_left
    · intro w5 hSw
      (try dsimp only at hSw)
      go_simp
      (try with_reducible rfl)
    try simp only [Act.put, List.setIfInBounds_toArray, List.set_cons_zero, List.set_cons_succ]
    refine wpAnyH_take (i := 10) (oi := ⟨some 58, _, _, _, _, _⟩) (v := ?_) rfl (by kernel_rfl) (by kernel_rfl) (by kernel_rfl) (fun _ _ _ h => h) (Or.inl ⟨by rfl, ?_⟩) (by assumption) ?_
    rotate_left
    · intro w5 hSw
      (try dsimp only at hSw)
      go_simp
      (try with_reducible rfl)
    try simp only [Act.put, List.setIfInBounds_toArray, List.set_cons_zero, List.set_cons_succ]
    refine wpAnyH_ready (rs := [11]) (by kernel_rfl) (by simp) ?_
    refine (AllReadyH.cons (o := ⟨none, _, _, _, _, _⟩) rfl (fun Kx hK => ?_) AllReadyH.nil)
    go_simp
    refine hK.out _ _ (by go_keep) (fun hHeld => ?_)
    clear hK Kx
    try simp only [Act.put, List.setIfInBounds_toArray, List.set_cons_zero, List.set_cons_succ]
    refine wpAnyH_done (by kernel_rfl) ?_ _
    clear m23' c16' hf' hz'
    (repeat clear hHeld)
    generalize w6.setCell ⟨b, k + 16, none⟩ (.slice a3 n3 c3) = W7 at *
    obtain ⟨ev, eps, o7, k7, b7, x7⟩ := HX.out
    clear HX
    have HI7 : Hid (i < (ys.set i x).length) := by rw [List.length_set]; exact hi
    have HY7 : Hid ((ys.set i x)[i]'HI7.out = x) := set_at _
    have HS7 : Hid (∀ z, (ys.set i x).set i z = ys.set i z) := fun z => List.set_set ..
    obtain ⟨hc, hf, hz⟩ := o7.cellAt HI7.out
    rw [HY7.out] at hc
    have c13 : W7.cell? ⟨b, k + 13, none⟩ = some (.slice x.pa x.ps.length x.pc) := by rw [HK.out]; exact hc 13 _ rfl
    have c14 : W7.cell? ⟨b, k + 14, none⟩ = some (.int .i64 x.st) := by rw [HK.out]; exact hc 14 _ rfl
    have hoX := o7.own _ (List.getElem_mem HI7.out)
    rw [HY7.out] at hoX
    have HP : Hid (x.ps = y.ps) := eps.trans EZ.out.2.2.1
    have HN := hideIt (notAll2 (.slice x.pa x.ps.length x.pc) x.ps y.ps W7 HP.out hoX.at_.p)
    have HT : Hid (∀ w', Below W7.heap.size W7 w' → (y.ps.any (fun p => !p.vo) = true → Turned B w (.slice (some ⟨b, 0, none⟩) n c) ys i (yesV y.v y.ps m.x.v.am (m.cx.map CelX.v)) w') ∧ (y.ps.any (fun p => !p.vo) = false → Turned B w (.slice (some ⟨b, 0, none⟩) n c) ys i (yesV y.v y.ps m.x.v.am (m.cx.map CelX.v)) (w'.setCell ⟨b, k + 14, none⟩ (.int .i64 2))) ∧ w'.cell? ⟨b, k + 14, none⟩ = some (.int .i64 x.st) ∧ (∀ j, w'.frozen? ⟨b, j, none⟩ = false) ∧ b < w'.heap.size) := by
      intro w' hb
      have o8 := o7.keep hb
      obtain ⟨cur8, hg8, hbB, _⟩ := o8.blk
      have hsz := b7.size
      have b8 := b7.trans (hb.mono (by omega))
      have k8 := k7.trans (KP.of hb)
      have hoX8 := o8.own _ (List.getElem_mem HI7.out)
      rw [HY7.out] at hoX8
      refine ⟨fun ha => ⟨⟨x, ?_, o8⟩, b8, k8⟩, fun ha => ⟨⟨{ x with st := 2 }, ?_, ?_⟩, belowSet _ b8 hbB, k8.trans (KP.set _ hg8 notT1)⟩, (cell_at (blkK (o7.blk.choose_spec.1) hb) _).trans ((cell_at o7.blk.choose_spec.1 _).symm.trans c14), fun j => free_at hg8 j, (Array.getElem?_eq_some_iff.1 hg8).1⟩
      · rw [EZ.out.1, ha, if_pos rfl, ev, ← EZ.out.2.2.2]; rfl
      · rw [EZ.out.1, ha, if_neg (by decide)]
        have : TraX.v { x with st := 2 } = { x.v with st := 2 } := rfl
        rw [this, ev]
      · have o9 := o8.put' HI7.out (j := 14) (by omega) (.int .i64 2) { x with st := 2 } (by rw [HY7.out]; rfl) ⟨hoX8.p, hoX8.m, hoX8.c, hoX8.x, hoX8.sp, hoX8.sm⟩ (by rw [HY7.out]) (by rw [HY7.out]) (by rw [HY7.out])
        rw [HS7.out, ← HK.out] at o9
        exact o9
    clear o7 k7 b7 x7 hoX ev eps hc HY7 HS7 HI7 EZ HK HM HW
    generalize x.ps.length = xn at *
    clear HP
    cases hany : y.ps.any (fun p => !p.vo)
    · rw [hany] at HN HT
      have HA := hideIt hany
      clear hany
      go_wp2_with fail
      refine HN.out.mono ?_
      rintro e w8 ⟨rfl, hb⟩
      dsimp only
      obtain ⟨-, t2, c14, hf, hz⟩ := HT.out w8 hb
      have T2 := hideIt (t2 (by first | rfl | trivial))
      clear t2 hb HT HN
      go_wp2
      go_ret
      exact ⟨by rw [HA.out]; rfl, T2.out⟩
    · rw [hany] at HN HT
      have HA := hideIt hany
      clear hany
      go_wp2_with fail
      refine HN.out.mono ?_
      rintro e w8 ⟨rfl, hb⟩
      dsimp only
      obtain ⟨t1, -, -, -, -⟩ := HT.out w8 hb
      have T1 := hideIt (t1 (by first | rfl | trivial))
      clear t1 hb HT HN
      go_wp2
      go_ret
      exact ⟨by rw [HA.out]; rfl, T1.out⟩
end Go.Proofs.YtilinemcmgjiiaaDoor
