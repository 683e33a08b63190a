/- Texts of my own, laid together. -/
import Derived.Test.YtiinigifjdpicaaGreatDoorMc17
import Derived.Test.YtiinigifjdpicaaGreatDoorMc18
namespace Go.Proofs.YtiinigifjdpicaaGreatDoor
open Go.RowKit
set_option linter.all false
theorem bnew_is (w : World) : Calls Tryz.prog 28 #[] w fun e w' => e = .returned (.agg #[.bool false, .int .i64 1, .slice none 0 0, .slice none 0 0, .slice none 0 0]) ∧ Below w.heap.size w w' := by
 have HB := hideIt (below1 w (.cells #[.bool false, .int .i64 1, .slice none 0 0, .slice none 0 0, .slice none 0 0] 59));have H2 := hideIt (heap_alloc_new w (.cells #[.bool false, .int .i64 1, .slice none 0 0, .slice none 0 0, .slice none 0 0] 59))
 go_enter Tryz.func28, Tryz.ntmps28
 go_wp2;exact bodyPost_ret (v := .agg #[.bool false, .int .i64 1, .slice none 0 0, .slice none 0 0, .slice none 0 0]) (by simp [results, Tryz.results28, go_sem, cell_at H2.out]) rfl ⟨rfl, HB.out⟩
def newL : LaneV := ⟨false, 1, [], [], []⟩
def newM : MdlV := ⟨List.replicate 8 Lg.zA, List.replicate 3 newL⟩
theorem new_may : mayM newM = true := by
 unfold mayM newM;simp only [List.length_replicate, decide_true, Bool.true_and, Bool.and_eq_true, List.all_eq_true, List.mem_replicate]
 exact ⟨fun x hx => by rw [hx.2]; kernel_rfl, fun x hx => by rw [hx.2]; kernel_rfl⟩
structure NX (w : World) (A : List AccX) (L : List LanX) (a : Option Addr) (c : Nat) (l : Option Addr) (d : Nat) (W : World) : Prop where
 r : W.heap[w.heap.size]? = some (.cells #[.slice none 0 0, .slice none 0 0] 30 (0, 0))
 m : W.heap[w.heap.size + 1]? = some (.cells #[.slice a A.length c, .slice l L.length d] 30 (0, 0))
 ac : AccsOwn w.heap.size W (.slice a A.length c) A
 ln : LnsOwn w.heap.size W (.slice l L.length d) L
 bel : Below w.heap.size w W
theorem NX.keep {w W W' : World} {A : List AccX} {L : List LanX} {a l : Option Addr} {c d : Nat} (h : NX w A L a c l d W) (hb : Below W.heap.size W W') : NX w A L a c l d W' :=
 ⟨blkK h.r hb, blkK h.m hb, h.ac.keep hb, h.ln.keep hb, below_via h.bel hb⟩
def zAX : AccX := ⟨Lg.zA, none, 0⟩
def zLX : LanX := ⟨newL, none, 0, none, 0, none, 0⟩
theorem zAX_own (B : Nat) (w : World) : AccOwn B w zAX := ⟨own_nil _ _, by simp [zAX, Lg.zA]⟩
theorem zLX_own (B : Nat) (w : World) : LanOwn B w zLX := ⟨own_nil _ _, own_nil _ _, own_nil _ _, by simp [zLX, newL], by simp [zLX, newL], by simp [zLX, newL]⟩
set_option maxRecDepth 100000 in
set_option maxHeartbeats 16000000 in
theorem mnew_is (w : World) : Calls Tryz.prog 15 #[] w (MdlBack newM w) := by
 obtain ⟨t1, t2, t3⟩ := two_heap w (.cells #[.slice none 0 0, .slice none 0 0] 30) (.cells #[.slice none 0 0, .slice none 0 0] 30);have N0 : Hid (NX w [] [] none 0 none 0 ((w.alloc (.cells #[.slice none 0 0, .slice none 0 0] 30)).alloc (.cells #[.slice none 0 0, .slice none 0 0] 30))) := ⟨t1, t2, AccsOwn.nil _ _, LnsOwn.nil _ _, below2 _ _ _⟩;clear t1 t2 t3
 go_enter Tryz.func15, Tryz.ntmps15
 go_upto_region 3 with fail
 generalize (w.alloc (.cells #[.slice none 0 0, .slice none 0 0] 30)).alloc (.cells #[.slice none 0 0, .slice none 0 0] 30) = W0 at *
 go_loopw [2] (fun v wr => ∃ (t : Nat) (A : List AccX) (a : Option Addr) (c : Nat), v = .int .i64 t ∧ t ≤ 8 ∧ Hid (A.map AccX.v = List.replicate t Lg.zA ∧ NX w A [] a c none 0 wr)) (fun v _ => 8 - (intOf v).toNat)
 case atStart => exact ⟨0, [], none, 0, rfl, by omega, hideIt ⟨rfl, N0.out⟩⟩
 case round =>
  clear N0;obtain ⟨t, A, a, c, rfl, ht, HR⟩ := hrel
  by_cases hlt : t < 8
  ·have hltI : (t : Int) < 8 := by omega
   have hal : A.length = t := by
    have := congrArg List.length HR.out.1
    simpa using this
   obtain ⟨⟨m0, m1⟩, mf, mz⟩ := at2 HR.out.2.m;have hb1 := below1 wr (.cells #[.slice none 0 0, .int .i64 0] 44);have NX1 := HR.out.2.keep hb1;obtain ⟨v', w', hrun, how, hgr⟩ := app1 (enc := accE) (t := 27) accK acc1 Tryz.underlying27 infoAcc rfl (by omega) (wr.alloc (.cells #[.slice none 0 0, .int .i64 0] 44)) w.heap.size (.slice a A.length c) A zAX wr.heap.size 1 NX1.bel.size NX1.ac.row (heap_alloc_new wr _) (by omega) (by unfold maxLen; omega)
   have hac := NX1.ac.app (zAX_own _ _) how hgr (by omega);have hln := NX1.ln.kept hgr NX1.ac.row (by decide) (by decide) (by decide);have hm := box_type hgr NX1.ac.row NX1.m (by decide);have hr := box_type hgr NX1.ac.row NX1.r (by decide);have hbw := grown_own hgr NX1.ac.row (Nat.le_refl _) NX1.bel;obtain ⟨a2, c2, rfl⟩ := own_len how;have hm2 := heap_set hm 0 (.slice a2 (A ++ [zAX]).length c2);have hne : w.heap.size ≠ w.heap.size + 1 := by omega
   have HN : Hid ((A ++ [zAX]).map AccX.v = List.replicate (t + 1) Lg.zA ∧ NX w (A ++ [zAX]) [] a2 c2 none 0 (w'.setCell ⟨w.heap.size + 1, 0, none⟩ (.slice a2 (A ++ [zAX]).length c2))) := by
    refine ⟨?_, setOther _ hr hne, hm2, hac.set hm (by decide) (by decide), hln.set hm (by decide) (by decide) (by decide), belowSet _ hbw (by omega)⟩;rw [List.map_append, HR.out.1, List.replicate_succ']
    rfl
   obtain ⟨⟨g0, g1⟩, gf, gz⟩ := at2 hm;have HRUN := hideIt hrun;clear hrun how hgr hac hln hm hr hbw hm2 NX1 hb1 HR hal hne;generalize A.length = n at *;generalize (A ++ [zAX]).length = n2 at *
   go_wp2_with (at_builtin; refine Lib.wpList_append_run _ rfl _ _ _ _ rfl _ _ rfl rfl _ _ HRUN.out ?_)
   clear HRUN;go_wp2
   go_roundw
   case rel => exact ⟨t + 1, A ++ [zAX], a2, c2, by go_num, by omega, HN⟩
   case measure => simp [intOf]; omega
  ·have hltI : ¬ (t : Int) < 8 := by omega
   obtain rfl : t = 8 := by omega
   have HA8 := hideIt HR.out.1;have HX := hideIt HR.out.2;clear HR ht
   go_upto_region 7 with fail
   clear hlt hltI
   go_loopw [11] (fun v wr => ∃ (t : Nat) (L : List LanX) (l : Option Addr) (d : Nat), v = .int .i64 t ∧ t ≤ 3 ∧ Hid (L.map LanX.v = List.replicate t newL ∧ NX w A L a c l d wr)) (fun v _ => 3 - (intOf v).toNat)
   case atStart => exact ⟨0, [], none, 0, rfl, by omega, hideIt ⟨rfl, HX.out⟩⟩
   case round =>
    clear HX;obtain ⟨t, L, l, d, rfl, ht, HR⟩ := hrel
    by_cases hlt : t < 3
    ·have hltI : (t : Int) < 3 := by omega
     have hal : L.length = t := by
      have := congrArg List.length HR.out.1
      simpa using this
     have HCY : Hid (∀ W, Below wr.heap.size wr W → Calls Tryz.prog 28 #[] W fun e w' => e = .returned (.agg #[.bool false, .int .i64 1, .slice none 0 0, .slice none 0 0, .slice none 0 0]) ∧ Hid (∃ v2 w2, (Builtin.append_ #[28, 28] 28 #[.slice l L.length d, .slice (some ⟨w'.heap.size, 0, none⟩) 1 1]).run Tryz.prog (w'.alloc (.cells #[.bool false, .int .i64 1, .slice none 0 0, .slice none 0 0, .slice none 0 0] 59)) = .ok v2 w2 ∧ (∃ l2 d2, v2 = .slice l2 (L ++ [zLX]).length d2 ∧ (w2.heap[w.heap.size + 1]? = some (.cells #[.slice a A.length c, .slice l L.length d] 30 (0, 0))) ∧ NX w A (L ++ [zLX]) a c l2 d2 (w2.setCell ⟨w.heap.size + 1, 1, none⟩ v2))) ∧ (w'.cell? ⟨w.heap.size + 1, 1, none⟩ = some (.slice l L.length d) ∧ w.heap.size + 1 < w'.heap.size)) := by
      intro W hW;refine (bnew_is W).mono ?_;rintro e w' ⟨rfl, hb⟩;have N1 := HR.out.2.keep (below_via hW hb);have hb1 := below1 w' (.cells #[.bool false, .int .i64 1, .slice none 0 0, .slice none 0 0, .slice none 0 0] 59);have NX1 := N1.keep hb1;obtain ⟨⟨-, m1⟩, -, mz⟩ := at2 N1.m;obtain ⟨v', w2, hrun, how, hgr⟩ := app1 (enc := lanE) (t := 28) lanK lan1 Tryz.underlying28 infoLan rfl (by omega) (w'.alloc (.cells #[.bool false, .int .i64 1, .slice none 0 0, .slice none 0 0, .slice none 0 0] 59)) w.heap.size (.slice l L.length d) L zLX w'.heap.size 1 NX1.bel.size NX1.ln.row (heap_alloc_new w' _) (by omega) (by unfold maxLen; omega)
      have hln := NX1.ln.app (zLX_own _ _) how hgr (by omega);have hac := NX1.ac.kept hgr NX1.ln.row (by decide) (by decide);have hm := box_type hgr NX1.ln.row NX1.m (by decide);have hr := box_type hgr NX1.ln.row NX1.r (by decide);have hbw := grown_own hgr NX1.ln.row (Nat.le_refl _) NX1.bel;obtain ⟨l2, d2, rfl⟩ := own_len how;have hm2 := heap_set hm 1 (.slice l2 (L ++ [zLX]).length d2);have hne : w.heap.size ≠ w.heap.size + 1 := by omega
      exact ⟨rfl, hideIt ⟨_, w2, hrun, l2, d2, rfl, hm, setOther _ hr hne, hm2, hac.set hm (by decide) (by decide), hln.set hm (by decide) (by decide) (by decide), belowSet _ hbw (by omega)⟩, m1, mz⟩
     have HN0 : Hid ((L ++ [zLX]).map LanX.v = List.replicate (t + 1) newL) := by
      show _ = _
      rw [List.map_append, HR.out.1, List.replicate_succ']
      rfl
     obtain ⟨⟨m0, m1⟩, mf, mz⟩ := at2 HR.out.2.m;have HLEN := hideIt hal;clear HR hal
     go_upto_region 8 with fail
     refine wp_region_held_drew (S := fun _ => True) (by rfl) trivial (fun hHeld => ?_);refine wpAnyH_take (i := 0) (oi := ⟨some 13, _, _, _, _, _⟩) (v := ?_) rfl (by kernel_rfl) (by kernel_rfl) (by kernel_rfl) (fun _ _ _ h => h) (Or.inl ⟨by rfl, ?_⟩) (by assumption) ?_
     rotate_left
     ·intro w5 hSw
      (try dsimp only at hSw)
      go_simp
      (try with_reducible rfl)
     try simp only [Act.put, List.setIfInBounds_toArray, List.set_cons_zero, List.set_cons_succ]
     refine wpAnyH_ready (rs := [1, 2]) (by kernel_rfl) (by simp) ?_;refine AllReadyH.cons (o := ⟨some 14, _, _, _, _, _⟩) rfl (fun Kx hK => ?_) (AllReadyH.cons (o := ⟨some 15, _, _, _, _, _⟩) rfl (fun Kx hK => ?_) AllReadyH.nil)
     ·go_simp;refine hK.out _ _ trivial (fun hHeld => ?_);clear hK Kx
      try simp only [Act.put, List.setIfInBounds_toArray, List.set_cons_zero, List.set_cons_succ]
      refine wpAnyH_ready (rs := [2]) (by kernel_rfl) (by simp) ?_;refine AllReadyH.cons (o := ⟨some 15, _, _, _, _, _⟩) rfl (fun Kx hK => ?_) AllReadyH.nil;go_simp
      go_at_call 28
      refine (HCY.out _ (by first | exact (Below.refl _ _).drew | exact Below.refl _ _)).mono ?_;rintro e w5 ⟨rfl, HQ, k1, kz⟩;obtain ⟨v2, w2, hrun, l2, d2, rfl, hm, HNX⟩ := HQ.out;refine hK.out _ _ trivial (fun hHeld => ?_);clear hK Kx
      try simp only [Act.put, List.setIfInBounds_toArray, List.set_cons_zero, List.set_cons_succ]
      refine wpAnyH_ready (rs := [3]) (by kernel_rfl) (by simp) ?_;refine AllReadyH.cons (o := ⟨some 16, _, _, _, _, _⟩) rfl (fun Kx hK => ?_) AllReadyH.nil;go_simp;refine hK.out _ _ trivial (fun hHeld => ?_);clear hK Kx
      try simp only [Act.put, List.setIfInBounds_toArray, List.set_cons_zero, List.set_cons_succ]
      refine wpAnyH_ready (rs := [4]) (by kernel_rfl) (by simp) ?_;refine AllReadyH.cons (o := ⟨some 17, _, _, _, _, _⟩) rfl (fun Kx hK => ?_) AllReadyH.nil;refine step_app_runK rfl _ _ 28 28 rfl _ _ rfl rfl hrun ?_;refine hK.out _ _ trivial (fun hHeld => ?_);clear hK Kx
      try simp only [Act.put, List.setIfInBounds_toArray, List.set_cons_zero, List.set_cons_succ]
      refine wpAnyH_take (i := 5) (oi := ⟨some 18, _, _, _, _, _⟩) (v := ?_) rfl (by kernel_rfl) (by kernel_rfl) (by kernel_rfl) (fun _ _ _ h => h) (Or.inl ⟨by rfl, ?_⟩) (by assumption) ?_
      rotate_left
      ·intro w5 hSw
       (try dsimp only at hSw)
       go_simp
       (try with_reducible rfl)
      try simp only [Act.put, List.setIfInBounds_toArray, List.set_cons_zero, List.set_cons_succ]
      refine wpAnyH_ready (rs := [6]) (by kernel_rfl) (by simp) ?_;refine AllReadyH.cons (o := ⟨none, _, _, _, _, _⟩) rfl (fun Kx hK => ?_) AllReadyH.nil;obtain ⟨⟨-, s1⟩, sf, sz⟩ := at2 hm;go_simp;refine hK.out _ _ trivial (fun hHeld => ?_);clear hK Kx
      try simp only [Act.put, List.setIfInBounds_toArray, List.set_cons_zero, List.set_cons_succ]
      refine wpAnyH_done (by kernel_rfl) ?_ _;clear HQ hrun hm s1 sf sz k1 kz HCY m0 m1 mf mz hHeld;go_wp2
      go_roundw
      case rel => exact ⟨t + 1, L ++ [zLX], l2, d2, by go_num, by omega, hideIt ⟨HN0.out, by rw [List.length_append] at HNX; exact HNX⟩⟩
      case measure => simp [intOf]; omega
     ·go_simp
      go_at_call 28
      refine (HCY.out _ (by first | exact (Below.refl _ _).drew | exact Below.refl _ _)).mono ?_;rintro e w5 ⟨rfl, HQ, k1, kz⟩;obtain ⟨v2, w2, hrun, l2, d2, rfl, hm, HNX⟩ := HQ.out;refine hK.out _ _ trivial (fun hHeld => ?_);clear hK Kx
      try simp only [Act.put, List.setIfInBounds_toArray, List.set_cons_zero, List.set_cons_succ]
      refine wpAnyH_ready (rs := [1, 3]) (by kernel_rfl) (by simp) ?_;refine AllReadyH.cons (o := ⟨some 14, _, _, _, _, _⟩) rfl (fun Kx hK => ?_) (AllReadyH.cons (o := ⟨some 16, _, _, _, _, _⟩) rfl (fun Kx hK => ?_) AllReadyH.nil)
      ·go_simp;refine hK.out _ _ trivial (fun hHeld => ?_);clear hK Kx
       try simp only [Act.put, List.setIfInBounds_toArray, List.set_cons_zero, List.set_cons_succ]
       refine wpAnyH_ready (rs := [3]) (by kernel_rfl) (by simp) ?_;refine AllReadyH.cons (o := ⟨some 16, _, _, _, _, _⟩) rfl (fun Kx hK => ?_) AllReadyH.nil;go_simp;refine hK.out _ _ trivial (fun hHeld => ?_);clear hK Kx
       try simp only [Act.put, List.setIfInBounds_toArray, List.set_cons_zero, List.set_cons_succ]
       refine wpAnyH_ready (rs := [4]) (by kernel_rfl) (by simp) ?_;refine AllReadyH.cons (o := ⟨some 17, _, _, _, _, _⟩) rfl (fun Kx hK => ?_) AllReadyH.nil;refine step_app_runK rfl _ _ 28 28 rfl _ _ rfl rfl hrun ?_;refine hK.out _ _ trivial (fun hHeld => ?_);clear hK Kx
       try simp only [Act.put, List.setIfInBounds_toArray, List.set_cons_zero, List.set_cons_succ]
       refine wpAnyH_take (i := 5) (oi := ⟨some 18, _, _, _, _, _⟩) (v := ?_) rfl (by kernel_rfl) (by kernel_rfl) (by kernel_rfl) (fun _ _ _ h => h) (Or.inl ⟨by rfl, ?_⟩) (by assumption) ?_
       rotate_left
       ·intro w5 hSw
        (try dsimp only at hSw)
        go_simp
        (try with_reducible rfl)
       try simp only [Act.put, List.setIfInBounds_toArray, List.set_cons_zero, List.set_cons_succ]
       refine wpAnyH_ready (rs := [6]) (by kernel_rfl) (by simp) ?_;refine AllReadyH.cons (o := ⟨none, _, _, _, _, _⟩) rfl (fun Kx hK => ?_) AllReadyH.nil;obtain ⟨⟨-, s1⟩, sf, sz⟩ := at2 hm;go_simp;refine hK.out _ _ trivial (fun hHeld => ?_);clear hK Kx
       try simp only [Act.put, List.setIfInBounds_toArray, List.set_cons_zero, List.set_cons_succ]
       refine wpAnyH_done (by kernel_rfl) ?_ _;clear HQ hrun hm s1 sf sz k1 kz HCY m0 m1 mf mz hHeld;go_wp2
       go_roundw
       case rel => exact ⟨t + 1, L ++ [zLX], l2, d2, by go_num, by omega, hideIt ⟨HN0.out, by rw [List.length_append] at HNX; exact HNX⟩⟩
       case measure => simp [intOf]; omega
      ·go_simp;refine hK.out _ _ trivial (fun hHeld => ?_);clear hK Kx
       try simp only [Act.put, List.setIfInBounds_toArray, List.set_cons_zero, List.set_cons_succ]
       refine wpAnyH_ready (rs := [1]) (by kernel_rfl) (by simp) ?_;refine AllReadyH.cons (o := ⟨some 14, _, _, _, _, _⟩) rfl (fun Kx hK => ?_) AllReadyH.nil;go_simp;refine hK.out _ _ trivial (fun hHeld => ?_);clear hK Kx
       try simp only [Act.put, List.setIfInBounds_toArray, List.set_cons_zero, List.set_cons_succ]
       refine wpAnyH_ready (rs := [4]) (by kernel_rfl) (by simp) ?_;refine AllReadyH.cons (o := ⟨some 17, _, _, _, _, _⟩) rfl (fun Kx hK => ?_) AllReadyH.nil;refine step_app_runK rfl _ _ 28 28 rfl _ _ rfl rfl hrun ?_;refine hK.out _ _ trivial (fun hHeld => ?_);clear hK Kx
       try simp only [Act.put, List.setIfInBounds_toArray, List.set_cons_zero, List.set_cons_succ]
       refine wpAnyH_take (i := 5) (oi := ⟨some 18, _, _, _, _, _⟩) (v := ?_) rfl (by kernel_rfl) (by kernel_rfl) (by kernel_rfl) (fun _ _ _ h => h) (Or.inl ⟨by rfl, ?_⟩) (by assumption) ?_
       rotate_left
       ·intro w5 hSw
        (try dsimp only at hSw)
        go_simp
        (try with_reducible rfl)
       try simp only [Act.put, List.setIfInBounds_toArray, List.set_cons_zero, List.set_cons_succ]
       refine wpAnyH_ready (rs := [6]) (by kernel_rfl) (by simp) ?_;refine AllReadyH.cons (o := ⟨none, _, _, _, _, _⟩) rfl (fun Kx hK => ?_) AllReadyH.nil;obtain ⟨⟨-, s1⟩, sf, sz⟩ := at2 hm;go_simp;refine hK.out _ _ trivial (fun hHeld => ?_);clear hK Kx
       try simp only [Act.put, List.setIfInBounds_toArray, List.set_cons_zero, List.set_cons_succ]
       refine wpAnyH_done (by kernel_rfl) ?_ _;clear HQ hrun hm s1 sf sz k1 kz HCY m0 m1 mf mz hHeld;go_wp2
       go_roundw
       case rel => exact ⟨t + 1, L ++ [zLX], l2, d2, by go_num, by omega, hideIt ⟨HN0.out, by rw [List.length_append] at HNX; exact HNX⟩⟩
       case measure => simp [intOf]; omega
    ·have hltI : ¬ (t : Int) < 3 := by omega
     obtain rfl : t = 3 := by omega
     have HXX := hideIt HR.out.2;have HL3 := hideIt HR.out.1;clear HR;obtain ⟨⟨m0, m1⟩, mf, mz⟩ := at2 HXX.out.m;obtain ⟨⟨e0, e1⟩, ef, ez⟩ := at2 HXX.out.r;obtain ⟨hzz, hoo⟩ := puts2 wr w.heap.size 30 (.slice a A.length c) (.slice l L.length d) HXX.out.r;have g1 := heap_set HXX.out.r 0 (.slice a A.length c);have hA : A.length = newM.a.length := by
      have := congrArg List.length HA8.out
      simpa [newM] using this
     have hL : L.length = newM.l.length := by
      have := congrArg List.length HL3.out
      simpa [newM] using this
     have HFIN : Hid (MdlBack newM w (.returned (.agg #[.slice a A.length c, .slice l L.length d])) ((wr.setCell ⟨w.heap.size, 0, none⟩ (.slice a A.length c)).setCell ⟨w.heap.size, 1, none⟩ (.slice l L.length d))) := by
      refine ⟨a, c, l, d, by rw [hA, hL], ⟨⟨A, HA8.out, ?_⟩, L, HL3.out, ?_⟩, belowSet _ (belowSet _ HXX.out.bel (Nat.le_refl _)) (Nat.le_refl _)⟩
      ·rw [← hA];exact (HXX.out.ac.set HXX.out.r (by decide) (by decide)).set g1 (by decide) (by decide)
      ·rw [← hL];exact (HXX.out.ln.set HXX.out.r (by decide) (by decide) (by decide)).set g1 (by decide) (by decide) (by decide)
     have HZZ := hideIt hzz;clear hzz hoo g1 hA hL HXX HL3 HA8;go_wp2;exact bodyPost_ret (v := .agg #[.slice a A.length c, .slice l L.length d]) (by simp [results, Tryz.results15, go_sem, cell_at HZZ.out]) rfl HFIN.out
def plyM (R : List ReqV) : MdlV := R.foldl (fun M r => (doM M r).1) newM
theorem ply_step (R : List ReqV) (t : Nat) (h : t < R.length) : plyM (R.take (t + 1)) = (doM (plyM (R.take t)) R[t]).1 := by
 unfold plyM;rw [List.take_add_one, List.getElem?_eq_getElem h, Option.toList_some, List.foldl_append]
 rfl
structure MB (B K : Nat) (M : MdlV) (a : Option Addr) (c : Nat) (b : Option Addr) (d : Nat) (W : World) : Prop where
 box : W.heap[K]? = some (.cells #[.slice a M.a.length c, .slice b M.l.length d] 30 (0, 0))
 md : MdlOwn B W (.slice a M.a.length c) (.slice b M.l.length d) M
theorem MB.keep {B K : Nat} {M : MdlV} {a : Option Addr} {c : Nat} {b : Option Addr} {d : Nat} {W W' : World} (h : MB B K M a c b d W) (hb : Below W.heap.size W W') : MB B K M a c b d W' := ⟨blkK h.box hb, h.md.keep hb⟩
set_option maxRecDepth 100000 in
set_option maxHeartbeats 16000000 in
theorem played_is (v : Value) (l : List ReqV) (w : World) (h : Reqs w v l) (hF : Se.Forms w) : Calls Tryz.prog 9 #[v] w (MdlBack (plyM (l.take 40)) w) := by
 have HB0 := hideIt (below1 w (.cells #[.slice none 0 0, .slice none 0 0] 30));have hr0 := hideIt (heap_alloc_new w (.cells #[.slice none 0 0, .slice none 0 0] 30));have H0 := hideIt (fun W => mnew_is W);have H1 := hideIt (fun W (hW : Below w.heap.size w W) => few_is v l W (h.keep hW));have HQ := hideIt (fun W (hW : Below w.heap.size w W) => h.keep hW);have HFO := hideIt (fun W (hW : Below w.heap.size w W) => hF.keep hW);clear h hF
 go_enter Tryz.func9, Tryz.ntmps9
 go_upto_region 1 with fail
 generalize (World.alloc _ (.cells #[.slice none 0 0, .slice none 0 0] 30)) = W0 at *
 go_wp2_with fail
 refine (H0.out _).mono ?_;rintro e w1 ⟨a, c, b, d, rfl, ho, hb⟩;dsimp only;have hb01 := below_via HB0.out hb;have hW0 := HB0.out.size;have hr1 := (hb.block w.heap.size (Array.getElem?_eq_some_iff.1 hr0.out).1).trans hr0.out;have hz1 := (Array.getElem?_eq_some_iff.1 hr1).1;clear hb hr0 HB0 H0;have hb2 := below1 w1 (.cells #[.slice a newM.a.length c, .slice b newM.l.length d] 30);have hMB : Hid (MB w.heap.size w1.heap.size newM a c b d (w1.alloc (.cells #[.slice a newM.a.length c, .slice b newM.l.length d] 30))) := ⟨heap_alloc_new w1 _, (ho.keep hb2).base hW0⟩;have hr2 : Hid ((w1.alloc (.cells #[.slice a newM.a.length c, .slice b newM.l.length d] 30)).heap[w.heap.size]? = some (.cells #[.slice none 0 0, .slice none 0 0] 30 (0, 0))) := (hb2.block _ hz1).trans hr1;have hB2 := hideIt (below_via hb01 hb2);clear ho hb2 hr1;have HK := hideIt (And.intro hz1 hb01.size);clear hz1 hb01 hW0
 go_upto_region 2 with fail
 generalize w1.alloc (.cells #[.slice a newM.a.length c, .slice b newM.l.length d] 30) = w2 at *
 go_wp2_with fail
 refine (H1.out _ hB2.out).mono ?_;rintro e w3 ⟨⟨v', rfl, hv⟩, rfl⟩;dsimp only;have HR := hideIt (fun W (hW : Below w.heap.size w W) => hv W (HQ.out W hW));clear hv HQ H1;obtain ⟨v2, hv2⟩ : ∃ v2, v2 = v := ⟨_, rfl⟩;generalize l.take 40 = R at *;have h8 := (HR.out _ hB2.out).1;obtain ⟨ra, rc, rfl⟩ := (HR.out _ hB2.out).slice;have hcap := (HR.out _ hB2.out).cap;have hmx : maxLen = 9223372036854775807 := by decide
 rw [hmx] at hcap;have H8 := hideIt (And.intro h8 hcap);clear h8 hcap hmx hv2
 go_upto_region 4 with fail
 go_loopw [4] (fun v wr => ∃ (t : Nat) (a : Option Addr) (c : Nat) (b : Option Addr) (d : Nat), v = .int .i64 t ∧ t ≤ R.length ∧ Hid (MB w.heap.size w1.heap.size (plyM (R.take t)) a c b d wr ∧ wr.heap[w.heap.size]? = some (.cells #[.slice none 0 0, .slice none 0 0] 30 (0, 0)) ∧ Below w.heap.size w wr)) (fun v _ => R.length - (intOf v).toNat)
 case atStart => exact ⟨0, a, c, b, d, rfl, Nat.zero_le _, hideIt ⟨by rw [List.take_zero]; exact hMB.out, hr2.out, hB2.out⟩⟩
 case round =>
  clear hMB hr2 hB2;generalize (Value.agg #[.slice a newM.a.length c, .slice b newM.l.length d]) = u5 at *;clear a c b d;obtain ⟨t, a, c, b, d, rfl, ht, HX⟩ := hrel;have h8 := H8.out
  by_cases hlt : t < R.length
  ·have hltI : (t : Int) < (R.length : Int) := by omega
   have ht0 : (0 : Int) ≤ (t : Int) := by omega
   have hrq := HR.out _ HX.out.2.2;obtain ⟨_, ra', rc', e, _, hr⟩ := hrq;simp only [Value.slice.injEq] at e;obtain ⟨rfl, _, rfl⟩ := e;obtain ⟨rb, off, rfl, hrl, hrc⟩ := hr (by omega);have HPS := hideIt (ply_step R t hlt);have HRE := hideIt (reqE_c R[t]);have HCD : Hid (∀ W, Below wr.heap.size wr W → Calls Tryz.prog 10 #[.agg #[.slice a (plyM (R.take t)).a.length c, .slice b (plyM (R.take t)).l.length d], .agg (Se.reqC R[t])] W (DoBack (doM (plyM (R.take t)) R[t]) W)) := fun W hW => do_is _ _ _ _ W (HX.out.1.keep hW).md.at_ (HFO.out W (below_via HX.out.2.2 hW))
   have HBX := hideIt HX.out.1.box;have HRB := hideIt HX.out.2.1;have HBW := hideIt HX.out.2.2;have HKL := hideIt (And.intro hrl (And.intro (Array.getElem?_eq_some_iff.1 HX.out.1.box).1 HX.out.2.2.size));have hS : Hid (∀ W, Below w.heap.size w W → W.cell? ⟨rb, off + t * 11, none⟩ = some (.int .i64 (R[t]).kind) ∧ W.cell? ⟨rb, off + t * 11 + 1, none⟩ = some (.int .i64 (R[t]).acct) ∧ W.cell? ⟨rb, off + t * 11 + 2, none⟩ = some (.int .i64 (R[t]).lane) ∧ W.cell? ⟨rb, off + t * 11 + 3, none⟩ = some (.int .i64 (R[t]).asset) ∧ W.cell? ⟨rb, off + t * 11 + 4, none⟩ = some (.int .i64 (R[t]).side) ∧ W.cell? ⟨rb, off + t * 11 + 5, none⟩ = some (.int .i64 (R[t]).price) ∧ W.cell? ⟨rb, off + t * 11 + 6, none⟩ = some (.int .i64 (R[t]).n) ∧ W.cell? ⟨rb, off + t * 11 + 7, none⟩ = some (.bool (R[t]).now) ∧ W.cell? ⟨rb, off + t * 11 + 8, none⟩ = some (.int .i64 (R[t]).key.1) ∧ W.cell? ⟨rb, off + t * 11 + 9, none⟩ = some (.int .i64 (R[t]).key.2) ∧ W.cell? ⟨rb, off + t * 11 + 10, none⟩ = some (.int .i64 (R[t]).dst)) := by
    intro W hW;obtain ⟨_, ra', rc', e, _, hr⟩ := HR.out _ hW;simp only [Value.slice.injEq] at e;obtain ⟨e1, _, rfl⟩ := e;obtain ⟨rb', off', e2, _, hrc⟩ := hr (by omega);rw [← e1] at e2;simp only [Option.some.injEq, Addr.mk.injEq] at e2;obtain ⟨rfl, rfl, _⟩ := e2;have q := fun j (hj : j < 11) => (hrc (t * 11 + j) (by omega)).trans (celC_get reqEK R t hlt j hj)
    simp only [← Nat.add_assoc] at q
    exact ⟨q 0 (by omega), q 1 (by omega), q 2 (by omega), q 3 (by omega), q 4 (by omega), q 5 (by omega), q 6 (by omega), q 7 (by omega), q 8 (by omega), q 9 (by omega), q 10 (by omega)⟩
   obtain ⟨⟨p0, p1⟩, pf, pz⟩ := at2 HX.out.1.box;clear HX hrc hr HRE;generalize doM (plyM (R.take t)) R[t] = Z at *;generalize plyM (R.take t) = M at *;generalize R[t] = rq at *;unfold Se.reqC at HCD
   go_upto_region 6 with fail
   refine wp_region_held_drew (S := fun W => W.cell? ⟨rb, off + t * 11, none⟩ = some (.int .i64 rq.kind) ∧ W.cell? ⟨rb, off + t * 11 + 1, none⟩ = some (.int .i64 rq.acct) ∧ W.cell? ⟨rb, off + t * 11 + 2, none⟩ = some (.int .i64 rq.lane) ∧ W.cell? ⟨rb, off + t * 11 + 3, none⟩ = some (.int .i64 rq.asset) ∧ W.cell? ⟨rb, off + t * 11 + 4, none⟩ = some (.int .i64 rq.side) ∧ W.cell? ⟨rb, off + t * 11 + 5, none⟩ = some (.int .i64 rq.price) ∧ W.cell? ⟨rb, off + t * 11 + 6, none⟩ = some (.int .i64 rq.n) ∧ W.cell? ⟨rb, off + t * 11 + 7, none⟩ = some (.bool rq.now) ∧ W.cell? ⟨rb, off + t * 11 + 8, none⟩ = some (.int .i64 rq.key.1) ∧ W.cell? ⟨rb, off + t * 11 + 9, none⟩ = some (.int .i64 rq.key.2) ∧ W.cell? ⟨rb, off + t * 11 + 10, none⟩ = some (.int .i64 rq.dst)) (by rfl) (hS.out _ HBW.out.drew) (fun hHeld => ?_);refine wpAnyH_take (i := 1) (oi := ⟨some 16, _, _, _, _, _⟩) (v := ?_) rfl (by kernel_rfl) (by kernel_rfl) (by kernel_rfl) (fun _ _ _ h => h) (Or.inl ⟨by rfl, ?_⟩) (by assumption) ?_
   rotate_left
   ·intro w5 hSw
    (try dsimp only at hSw)
    go_simp
    (try with_reducible rfl)
   try simp only [Act.put, List.setIfInBounds_toArray, List.set_cons_zero, List.set_cons_succ]
   refine wpAnyH_take (i := 2) (oi := ⟨some 17, _, _, _, _, _⟩) (v := ?_) rfl (by kernel_rfl) (by kernel_rfl) (by kernel_rfl) (fun _ _ _ h => h) (Or.inl ⟨by rfl, ?_⟩) (by assumption) ?_
   rotate_left
   ·intro w5 hSw
    (try dsimp only at hSw)
    go_simp
    (try with_reducible rfl)
   try simp only [Act.put, List.setIfInBounds_toArray, List.set_cons_zero, List.set_cons_succ]
   refine wpAnyH_take (i := 3) (oi := ⟨some 18, _, _, _, _, _⟩) (v := ?_) rfl (by kernel_rfl) (by kernel_rfl) (by kernel_rfl) (fun _ _ _ h => h) (Or.inl ⟨by rfl, ?_⟩) (by assumption) ?_
   rotate_left
   ·intro w5 hSw
    (try dsimp only at hSw)
    go_simp
    (try with_reducible rfl)
   try simp only [Act.put, List.setIfInBounds_toArray, List.set_cons_zero, List.set_cons_succ]
   refine wpAnyH_take (i := 4) (oi := ⟨some 19, _, _, _, _, _⟩) (v := ?_) rfl (by kernel_rfl) (by kernel_rfl) (by kernel_rfl) (fun _ _ _ h => h) (Or.inl ⟨by rfl, ?_⟩) (by assumption) ?_
   rotate_left
   ·intro w5 hSw
    (try dsimp only at hSw)
    go_simp
    (try with_reducible rfl)
   try simp only [Act.put, List.setIfInBounds_toArray, List.set_cons_zero, List.set_cons_succ]
   refine wpAnyH_ready (rs := [0]) (by kernel_rfl) (by simp) ?_;refine AllReadyH.cons (o := ⟨some 15, _, _, _, _, _⟩) rfl (fun Kx hK => ?_) AllReadyH.nil;go_simp;refine hK.out _ _ (by first | exact hS.out _ HBW.out.drew | exact hS.out _ HBW.out) (fun hHeld => ?_);clear hK Kx
   try simp only [Act.put, List.setIfInBounds_toArray, List.set_cons_zero, List.set_cons_succ]
   refine wpAnyH_ready (rs := [5]) (by kernel_rfl) (by simp) ?_;refine AllReadyH.cons (o := ⟨some 20, _, _, _, _, _⟩) rfl (fun Kx hK => ?_) AllReadyH.nil;go_simp
   go_at_call 10
   refine (HCD.out _ (by first | exact (Below.refl _ _).drew | exact Below.refl _ _)).mono ?_;rintro e w5 ⟨a2, c2, b2, d2, f1, f2, g1, g2, rfl, HDO⟩;have HB5 := hideIt (below_via (by first | exact HBW.out.drew | exact HBW.out) HDO.out.2);have HX5 := hideIt (HDO.out.2.block w1.heap.size HKL.out.2.1);refine hK.out _ _ (hS.out _ HB5.out) (fun hHeld => ?_);clear hK Kx
   try simp only [Act.put, List.setIfInBounds_toArray, List.set_cons_zero, List.set_cons_succ]
   refine wpAnyH_take (i := 6) (oi := ⟨some 14, _, _, _, _, _⟩) (v := ?_) rfl (by kernel_rfl) (by kernel_rfl) (by kernel_rfl) (fun _ _ _ h => h) (Or.inl ⟨by rfl, ?_⟩) (by assumption) ?_
   rotate_left
   ·intro w5 hSw
    (try dsimp only at hSw)
    go_simp
    (try with_reducible rfl)
   try simp only [Act.put, List.setIfInBounds_toArray, List.set_cons_zero, List.set_cons_succ]
   refine wpAnyH_take (i := 7) (oi := ⟨some 21, _, _, _, _, _⟩) (v := ?_) rfl (by kernel_rfl) (by kernel_rfl) (by kernel_rfl) (fun _ _ _ h => h) (Or.inl ⟨by rfl, ?_⟩) (by assumption) ?_
   rotate_left
   ·intro w5 hSw
    (try dsimp only at hSw)
    go_simp
    (try with_reducible rfl)
   try simp only [Act.put, List.setIfInBounds_toArray, List.set_cons_zero, List.set_cons_succ]
   refine wpAnyH_take (i := 8) (oi := ⟨some 22, _, _, _, _, _⟩) (v := ?_) rfl (by kernel_rfl) (by kernel_rfl) (by kernel_rfl) (fun _ _ _ h => h) (Or.inl ⟨by rfl, ?_⟩) (by assumption) ?_
   rotate_left
   ·intro w5 hSw
    (try dsimp only at hSw)
    go_simp
    (try with_reducible rfl)
   try simp only [Act.put, List.setIfInBounds_toArray, List.set_cons_zero, List.set_cons_succ]
   refine wpAnyH_ready (rs := [9]) (by kernel_rfl) (by simp) ?_;refine AllReadyH.cons (o := ⟨none, _, _, _, _, _⟩) rfl (fun Kx hK => ?_) AllReadyH.nil;have hx5 := HX5.out.trans HBX.out;obtain ⟨⟨y0, y1⟩, yf, yz⟩ := at2 hx5;refine step_store_rowK rfl 30 _ _ rfl w1.heap.size #[.slice a2 Z.1.a.length c2, .slice b2 Z.1.l.length d2] rfl rfl 30 #[.slice a M.a.length c, .slice b M.l.length d] hx5 (by kernel_rfl) rfl (by simp [Value.oneCell']) ?_;have hout := setRow_out w5 w1.heap.size #[.slice a2 Z.1.a.length c2, .slice b2 Z.1.l.length d2];have hrow := setRow_heap w5 w1.heap.size #[.slice a M.a.length c, .slice b M.l.length d] #[.slice a2 Z.1.a.length c2, .slice b2 Z.1.l.length d2] 30 (0, 0) hx5;have hbz : Below w.heap.size w (w5.setRow w1.heap.size #[.slice a2 Z.1.a.length c2, .slice b2 Z.1.l.length d2]) := below_out HB5.out hout (fun k e => by have := HK.out.2; omega)
   refine hK.out _ _ (hS.out _ hbz) (fun hHeld => ?_);clear hK Kx
   try simp only [Act.put, List.setIfInBounds_toArray, List.set_cons_zero, List.set_cons_succ]
   refine wpAnyH_done (by kernel_rfl) ?_ _;have HN : Hid (MB w.heap.size w1.heap.size Z.1 a2 c2 b2 d2 (w5.setRow w1.heap.size #[.slice a2 Z.1.a.length c2, .slice b2 Z.1.l.length d2]) ∧ (w5.setRow w1.heap.size #[.slice a2 Z.1.a.length c2, .slice b2 Z.1.l.length d2]).heap[w.heap.size]? = some (.cells #[.slice none 0 0, .slice none 0 0] 30 (0, 0)) ∧ Below w.heap.size w (w5.setRow w1.heap.size #[.slice a2 Z.1.a.length c2, .slice b2 Z.1.l.length d2])) := by
    obtain ⟨⟨xs, hx, ha⟩, ys, hy, hl⟩ := HDO.out.1.m;have hkl := HKL.out;refine ⟨⟨hrow, ⟨xs, hx, (ha.out hout (fun k e => by subst e; exact hkl.2.1)).base hkl.2.2⟩, ys, hy, (hl.out hout (fun k e => by subst e; exact hkl.2.1)).base hkl.2.2⟩, ?_, hbz⟩
    have hk1 := HK.out.1;have hlt2 : w.heap.size < wr.heap.size := by omega
    refine (hout.block w.heap.size ?_ (by omega)).trans ((HDO.out.2.block w.heap.size hlt2).trans HRB.out);exact Nat.lt_of_lt_of_le hlt2 HDO.out.2.size
   clear hHeld HDO HB5 HX5 hx5 hout hrow hbz HBX HRB HBW hS HCD p0 p1 pf pz y0 y1 yf yz;go_wp2
   go_roundw
   case rel => exact ⟨t + 1, a2, c2, b2, d2, by go_num, by omega, hideIt (by rw [HPS.out]; exact HN.out)⟩
   case measure => simp [intOf]; omega
  ·have hltI : ¬ (t : Int) < (R.length : Int) := by omega
   obtain rfl : t = R.length := by omega
   obtain ⟨hMB, hr2, hB2⟩ := HX.out;rw [List.take_length] at hMB;obtain ⟨⟨m0, m1⟩, mf, mz⟩ := at2 hMB.box;obtain ⟨⟨e0, e1⟩, ef, ez⟩ := at2 hr2;obtain ⟨hzz, hoo⟩ := puts2 wr w.heap.size 30 (.slice a (plyM R).a.length c) (.slice b (plyM R).l.length d) hr2;have k1 := heap_set hr2 0 (.slice a (plyM R).a.length c);have HFIN : Hid (MdlBack (plyM R) w (.returned (.agg #[.slice a (plyM R).a.length c, .slice b (plyM R).l.length d])) ((wr.setCell ⟨w.heap.size, 0, none⟩ (.slice a (plyM R).a.length c)).setCell ⟨w.heap.size, 1, none⟩ (.slice b (plyM R).l.length d))) :=
    ⟨a, c, b, d, rfl, (hMB.md.set hr2 (by decide) (by decide) (by decide) (by decide) (by decide)).set k1 (by decide) (by decide) (by decide) (by decide) (by decide), belowSet _ (belowSet _ hB2 (Nat.le_refl _)) (Nat.le_refl _)⟩
   have HZZ := hideIt hzz;clear hzz hoo k1 hMB hr2 hB2 HX;go_wp2;exact bodyPost_ret (v := .agg #[.slice a (plyM R).a.length c, .slice b (plyM R).l.length d]) (by simp [results, Tryz.results9, go_sem, cell_at HZZ.out]) rfl HFIN.out
def CtB (c : Int) (l : List AccV) : Prop := ∀ A ∈ l, A.ct ≤ c
theorem CtB.mono {c d : Int} {l : List AccV} (h : CtB c l) (hc : c ≤ d) : CtB d l := fun A hA => Int.le_trans (h A hA) hc
theorem CtB.set {c : Int} {l : List AccV} (h : CtB c l) {A : AccV} (hA : A.ct ≤ c) (i : Nat) : CtB c (l.set i A) := by
 intro x hx
 rcases List.mem_or_eq_of_mem_set hx with hx | rfl
 ·exact h x hx
 ·exact hA
theorem CtB.at_ {c : Int} {S : StV} (h : CtB c S.a) (hc : 0 ≤ c) (i : Nat) : (accD S i).ct ≤ c := by
 unfold accD;rw [List.getD_eq_getElem?_getD]
 rcases Nat.lt_or_ge i S.a.length with hi | hi
 ·rw [List.getElem?_eq_getElem hi];exact h _ (List.getElem_mem hi)
 ·rw [List.getElem?_eq_none hi];exact hc
theorem cred_ct {A : AccV} {a n c : Int} (hc : 0 ≤ c) (h : A.ct ≤ c) : (Lg.credL A a n).1.ct ≤ c + 1 := by
 by_cases h2 : (Lg.credL A a n).2 = 0
 ·rw [(Lg.cred_ok h2).2.2.2]
  show A.ct + 1 ≤ c + 1
  omega
 ·rw [Lg.cred_zero h2]
  show (0 : Int) ≤ c + 1
  omega
theorem deb_ct {A : AccV} {a n c : Int} (hc : 0 ≤ c) (h : A.ct ≤ c) : (Lg.debL A a n).1.ct ≤ c + 1 := by
 by_cases h2 : (Lg.debL A a n).2 = 0
 ·rw [(Lg.deb_ok h2).2.2.2]
  show A.ct + 1 ≤ c + 1
  omega
 ·rw [Lg.deb_zero h2]
  show (0 : Int) ≤ c + 1
  omega
theorem payF_ct : ∀ (l : List AmtV) (A : AccV) (c : Int), 0 ≤ c → A.ct ≤ c → (payF l A).1.ct ≤ c + l.length
 | [], A, c, _, h => by
  unfold payF
  simpa using h
 | e :: l, A, c, hc, h => by
  unfold payF;have h1 := cred_ct (a := e.k) (n := e.n) hc h
  split
  ·have := payF_ct l _ (c + 1) (by omega) h1;rw [List.length_cons];omega
  ·show A.ct ≤ _
   rw [List.length_cons];omega
theorem stAcc_ct {r : ReqV} {i : Nat} {S : StV} {c : Int} (hc : 0 ≤ c) (h : CtB c S.a) : CtB (c + 4) (stAcc r i S).1.a := by
 have ha := h.at_ hc i;have hm := h.mono (d := c + 4) (by omega);unfold stAcc
 by_cases h1 : r.kind = 1
 ·rw [if_pos h1];exact hm.set (by have := cred_ct (a := r.asset) (n := r.n) hc ha; omega) i
 ·rw [if_neg h1]
  by_cases h3 : r.kind = 3
  ·rw [if_pos h3];exact hm.set (by have := deb_ct (a := brA_ r) (n := brN_ r) hc ha; omega) i
  ·rw [if_neg h3]
   by_cases h2 : r.kind = 2
   ·rw [if_pos h2];exact hm.set (by have := deb_ct (a := r.asset) (n := r.n) hc ha; omega) i
   ·rw [if_neg h2]
    by_cases h7 : r.kind = 7
    ·rw [if_pos h7]
     split
     ·exact hm
     ·exact hm.set (by
       have := payF_ct (Lg.pre S.s 4) _ c hc ha;have hl := Lg.pre_len S.s 4
       omega) i
    ·rw [if_neg h7]
     split <;> exact hm
theorem stAt_ct {r : ReqV} {k : Int × Int} {S : StV} {c : Int} (hc : 0 ≤ c) (h : CtB c S.a) : CtB (c + 4) (stAt r k S).1.a := by
 unfold stAt
 split
 ·exact h.mono (by omega)
 ·split
  ·exact stAcc_ct hc h
  ·rw [stLan_a];exact h.mono (by omega)
theorem runT_ct {r : ReqV} : ∀ (ks : List (Int × Int)) (S : StV) (c : Int), 0 ≤ c → CtB c S.a → CtB (c + 4 * ks.length) (runT r ks S).1.a
 | [], S, c, _, h => by
  unfold runT;exact h.mono (by simp)
 | k :: ks, S, c, hc, h => by
  unfold runT;have h1 := stAt_ct (r := r) (k := k) hc h
  split
  ·have := runT_ct (r := r) ks _ (c + 4) (by omega) h1;exact this.mono (by rw [List.length_cons]; omega)
  ·exact h1.mono (by rw [List.length_cons]; omega)
theorem doM_ct {M : MdlV} {r : ReqV} {c : Int} (hc : 0 ≤ c) (h : CtB c M.a) : CtB (c + 16) (doM M r).1.a := by
 have hl := tur_len r;unfold doM
 split
 ·split
  ·have := runT_ct (r := r) (turL r) (st0 M) c hc h;exact this.mono (by omega)
  ·exact h.mono (by omega)
 ·exact h.mono (by omega)
theorem do_acc {M : MdlV} {r : ReqV} (hm : mayM M = true) (hf : Se.fitsB r = true) (hk : r.kind = 1 ∨ r.kind = 2) : doM M r = if (stAcc r (r.acct - 1).toNat (st0 M)).2 = 0 then (⟨(stAcc r (r.acct - 1).toNat (st0 M)).1.a, M.l⟩, ⟨0, 0, [], []⟩) else (M, ⟨6, 0, [], []⟩) := by
 have hkeys : turL r = [((1 : Int), r.acct)] := by
  unfold turL;rw [if_neg (by omega)];unfold Se.keysB;rw [if_pos hf]
  rcases hk with e | e <;> rw [e] <;> rfl
 have hst : stAt r (1, r.acct) (st0 M) = stAcc r (r.acct - 1).toNat (st0 M) := by
  unfold stAt;rw [if_neg (by omega), if_pos rfl]
 have hl : (stAcc r (r.acct - 1).toNat (st0 M)).1 = {st0 M with a := (stAcc r (r.acct - 1).toNat (st0 M)).1.a} := by
  unfold stAcc
  rcases hk with e | e
  ·simp only [e, if_true]
  ·rw [if_neg (by omega), if_neg (by omega), if_pos e]
 unfold doM;rw [hm, hf, hkeys];simp only [Bool.and_self, if_true, runT, hst]
 by_cases h0 : (stAcc r (r.acct - 1).toNat (st0 M)).2 = 0
 ·rw [if_pos h0, if_pos h0];simp only [if_true];rw [hl]
  rfl
 ·rw [if_neg h0, if_neg h0, if_neg h0]
end Go.Proofs.YtiinigifjdpicaaGreatDoor
