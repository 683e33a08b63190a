/- Texts of my own, laid together. -/
import Derived.Test.YtiinigifjdpicaaGreatDoorMb14
namespace Go.Proofs.YtiinigifjdpicaaGreatDoor
open Go.RowKit
set_option linter.all false
set_option maxRecDepth 100000 in
set_option maxHeartbeats 32000000 in
theorem doLn3 (w : World) (K i q : Nat) (X : WkX) (wx : World) (h : WK w K X wx) (hi : i < X.L.length) (hk : X.r.kind = 3) : Calls Tryz.prog 52 #[.pointer (some ⟨K, 0, none⟩), .pointer (some ⟨X.gl, i * 5, none⟩), .int .i64 (q : Int)] wx (WkB w K X ({X.st with l := X.st.l.set i (placeL (lanD X.st i) X.r.acct X.r.side X.r.price X.r.n X.r.now).1, fl := (placeL (lanD X.st i) X.r.acct X.r.side X.r.price X.r.n X.r.now).2.1, num := (placeL (lanD X.st i) X.r.acct X.r.side X.r.price X.r.n X.r.now).2.2.1}, (placeL (lanD X.st i) X.r.acct X.r.side X.r.price X.r.n X.r.now).2.2.2)) := by
 rw [lanD_at hi];obtain ⟨PR, hPR⟩ : ∃ PR, PR = placeL (X.L[i]).v X.r.acct X.r.side X.r.price X.r.n X.r.now := ⟨_, rfl⟩;rw [← hPR];have HPR := hideIt hPR;clear hPR;obtain ⟨TM, FL, pn, pe⟩ := PR
 simp only
 have HKK := hideIt hk;clear hk;have HX := hideIt h;obtain ⟨⟨-, -, d2, d3, d4, d5, d6, d7, d8, d9, d10, d11, d12, -, -, -, -, -, -, -, -⟩, df, dz⟩ := at21 h.box;clear h
 go_enter Tryz.func52, Tryz.ntmps52
 go_upto_region 1 with fail
 go_cut [7, 8] from 9 to 12 (fun y x wy => x = .pointer (some ⟨wx.heap.size, 0, none⟩) ∧ y = .int .i64 0 ∧ Hid (wy.heap[wx.heap.size]? = some (.cells (Se.reqC X.r) 26 (0, 0)) ∧ Below wx.heap.size wx wy))
 case first =>
  clear HX
  go_region
  all_goals go_wp2_with fail
  all_goals go_meet
  exact ⟨rfl, rfl, hideIt ⟨heap_alloc_new wx _, (below1 wx _).drew⟩⟩
 case rest =>
 obtain ⟨rfl, rfl, HR⟩ := hcut;clear d2 d3 d4 d5 d6 d7 d8 d9 d10 d11 d12 df dz;have HX1 := hideIt (HX.out.keep HR.out.2);clear HX;have hKR : wx.heap.size ≠ K := by
  have := ty_ne HR.out.1 HX1.out.box (by decide);exact this
 have rz := (Array.getElem?_eq_some_iff.1 HR.out.1).1;have HRC : Hid (∀ W, Below wc.heap.size wc W → W.cell? ⟨wx.heap.size, 0, none⟩ = some (.int .i64 X.r.kind) ∧ W.cell? ⟨wx.heap.size, 1, none⟩ = some (.int .i64 X.r.acct) ∧ W.cell? ⟨wx.heap.size, 4, none⟩ = some (.int .i64 X.r.side) ∧ W.cell? ⟨wx.heap.size, 5, none⟩ = some (.int .i64 X.r.price) ∧ W.cell? ⟨wx.heap.size, 6, none⟩ = some (.int .i64 X.r.n) ∧ W.cell? ⟨wx.heap.size, 7, none⟩ = some (.bool X.r.now)) := fun W hW => ⟨(hW.cell (p := ⟨wx.heap.size, 0, none⟩) rz).trans ((cell_at HR.out.1 0).trans rfl), (hW.cell (p := ⟨wx.heap.size, 1, none⟩) rz).trans ((cell_at HR.out.1 1).trans rfl), (hW.cell (p := ⟨wx.heap.size, 4, none⟩) rz).trans ((cell_at HR.out.1 4).trans rfl), (hW.cell (p := ⟨wx.heap.size, 5, none⟩) rz).trans ((cell_at HR.out.1 5).trans rfl), (hW.cell (p := ⟨wx.heap.size, 6, none⟩) rz).trans ((cell_at HR.out.1 6).trans rfl), (hW.cell (p := ⟨wx.heap.size, 7, none⟩) rz).trans ((cell_at HR.out.1 7).trans rfl)⟩
 have HBX := hideIt HR.out.1;clear HR;generalize wx.heap.size = KR at *;have hKG := ty_ne HBX.out (row_blk HX1.out.ln.row).1.choose_spec (by decide);have hGK := hKG.symm;have hK2 := hKR.symm;clear HBX;obtain ⟨⟨a0, a1, a2, a3, a4⟩, af, az, hat⟩ := HX1.out.lan hi;have HAT := hideIt hat;clear hat;have HC := hideIt (fun W (hW : Below wc.heap.size wc W) => placeX (X.L[i]).v X.r.acct X.r.side X.r.price X.r.n X.r.now _ _ _ W (LanAt.keep HAT.out hW));have hfl := place_fl (X.L[i]).v X.r.acct X.r.side X.r.price X.r.n X.r.now;clear HAT;rw [← HPR.out] at HC hfl;clear HPR;simp only at HC;generalize (X.L[i]).v.call = l0 at *;generalize (X.L[i]).v.next = l1 at *;generalize (Value.slice (X.L[i]).ba (X.L[i]).v.bids.length (X.L[i]).bc) = l2 at *;generalize (Value.slice (X.L[i]).aa (X.L[i]).v.asks.length (X.L[i]).ac) = l3 at *;generalize (Value.slice (X.L[i]).oa (X.L[i]).v.owed.length (X.L[i]).oc) = l4 at *;obtain ⟨r0, r1, r4, r5, r6, r7⟩ := HRC.out wc (Below.refl _ _);rw [HKK.out] at r0;have HCY : Hid (∀ W, Below wc.heap.size wc W → Calls Tryz.prog 79 #[.agg #[.bool l0, .int .i64 l1, l2, l3, l4], .int .i64 X.r.acct, .int .i64 X.r.side, .int .i64 X.r.price, .int .i64 X.r.n, .bool X.r.now] W (fun e w' => ∃ b1 b2 c1 c2 o1 o2 u1 u2, e = .returned (.tuple #[.agg #[.bool TM.call, .int .i64 TM.next, .slice b1 TM.bids.length b2, .slice c1 TM.asks.length c2, .slice o1 TM.owed.length o2], .slice u1 FL.length u2, .int .i64 pn, .int .i64 pe]) ∧ Hid (LanOwn wc.heap.size w' ⟨TM, b1, b2, c1, c2, o1, o2⟩ ∧ w'.ownsRow wc.heap.size 106 4 (.slice u1 FL.length u2) FL.length (celC filE FL) ∧ Below wc.heap.size wc w') ∧ (w'.cell? ⟨KR, 1, none⟩ = some (.int .i64 X.r.acct) ∧ w'.cell? ⟨KR, 4, none⟩ = some (.int .i64 X.r.side) ∧ w'.cell? ⟨KR, 5, none⟩ = some (.int .i64 X.r.price) ∧ w'.cell? ⟨KR, 6, none⟩ = some (.int .i64 X.r.n) ∧ w'.cell? ⟨KR, 7, none⟩ = some (.bool X.r.now)))) := by
  intro W hW;refine (HC.out W hW).mono ?_;rintro e w' ⟨b1, b2, c1, c2, o1, o2, u1, u2, rfl, ho⟩;have hB := below_via hW ho.out.2.2;obtain ⟨-, s1, s4, s5, s6, s7⟩ := HRC.out w' hB
  exact ⟨b1, b2, c1, c2, o1, o2, u1, u2, rfl, hideIt ⟨ho.out.1.base hW.size, own_base ho.out.2.1 hW.size, hB⟩, s1, s4, s5, s6, s7⟩
 clear HC HRC HKK
 go_upto_region 4 with fail
 refine wp_region_held_drew (S := fun W => W.cell? ⟨KR, 1, none⟩ = some (.int .i64 X.r.acct) ∧ W.cell? ⟨KR, 4, none⟩ = some (.int .i64 X.r.side) ∧ W.cell? ⟨KR, 5, none⟩ = some (.int .i64 X.r.price) ∧ W.cell? ⟨KR, 6, none⟩ = some (.int .i64 X.r.n) ∧ W.cell? ⟨KR, 7, none⟩ = some (.bool X.r.now)) (by rfl) (by go_keep) (fun hHeld => ?_);refine wpAnyH_take (i := 0) (oi := ⟨some 18, _, _, _, _, _⟩) (v := ?_) rfl (by kernel_rfl) (by kernel_rfl) (by kernel_rfl) (fun _ _ _ h => h) (Or.inl ⟨by rfl, ?_⟩) (by assumption) ?_
 rotate_left
 ·intro w5 hSw
  (try dsimp only at hSw)
  go_simp
  (try with_reducible rfl)
 try simp only [Act.put, List.setIfInBounds_toArray, List.set_cons_zero, List.set_cons_succ]
 refine wpAnyH_take (i := 1) (oi := ⟨some 19, _, _, _, _, _⟩) (v := ?_) rfl (by kernel_rfl) (by kernel_rfl) (by kernel_rfl) (fun _ _ _ h => h) (Or.inl ⟨by rfl, ?_⟩) (by assumption) ?_
 rotate_left
 ·intro w5 hSw
  (try dsimp only at hSw)
  go_simp
  (try with_reducible rfl)
 try simp only [Act.put, List.setIfInBounds_toArray, List.set_cons_zero, List.set_cons_succ]
 refine wpAnyH_take (i := 2) (oi := ⟨some 20, _, _, _, _, _⟩) (v := ?_) rfl (by kernel_rfl) (by kernel_rfl) (by kernel_rfl) (fun _ _ _ h => h) (Or.inl ⟨by rfl, ?_⟩) (by assumption) ?_
 rotate_left
 ·intro w5 hSw
  (try dsimp only at hSw)
  go_simp
  (try with_reducible rfl)
 try simp only [Act.put, List.setIfInBounds_toArray, List.set_cons_zero, List.set_cons_succ]
 refine wpAnyH_take (i := 3) (oi := ⟨some 21, _, _, _, _, _⟩) (v := ?_) rfl (by kernel_rfl) (by kernel_rfl) (by kernel_rfl) (fun _ _ _ h => h) (Or.inl ⟨by rfl, ?_⟩) (by assumption) ?_
 rotate_left
 ·intro w5 hSw
  (try dsimp only at hSw)
  go_simp
  (try with_reducible rfl)
 try simp only [Act.put, List.setIfInBounds_toArray, List.set_cons_zero, List.set_cons_succ]
 refine wpAnyH_take (i := 4) (oi := ⟨some 22, _, _, _, _, _⟩) (v := ?_) rfl (by kernel_rfl) (by kernel_rfl) (by kernel_rfl) (fun _ _ _ h => h) (Or.inl ⟨by rfl, ?_⟩) (by assumption) ?_
 rotate_left
 ·intro w5 hSw
  (try dsimp only at hSw)
  go_simp
  (try with_reducible rfl)
 try simp only [Act.put, List.setIfInBounds_toArray, List.set_cons_zero, List.set_cons_succ]
 refine wpAnyH_take (i := 6) (oi := ⟨some 24, _, _, _, _, _⟩) (v := ?_) rfl (by kernel_rfl) (by kernel_rfl) (by kernel_rfl) (fun _ _ _ h => h) (Or.inl ⟨by rfl, ?_⟩) (by assumption) ?_
 rotate_left
 ·intro w5 hSw
  (try dsimp only at hSw)
  go_simp
  (try with_reducible rfl)
 try simp only [Act.put, List.setIfInBounds_toArray, List.set_cons_zero, List.set_cons_succ]
 refine wpAnyH_take (i := 7) (oi := ⟨some 25, _, _, _, _, _⟩) (v := ?_) rfl (by kernel_rfl) (by kernel_rfl) (by kernel_rfl) (fun _ _ _ h => h) (Or.inl ⟨by rfl, ?_⟩) (by assumption) ?_
 rotate_left
 ·intro w5 hSw
  (try dsimp only at hSw)
  go_simp
  (try with_reducible rfl)
 try simp only [Act.put, List.setIfInBounds_toArray, List.set_cons_zero, List.set_cons_succ]
 refine wpAnyH_take (i := 8) (oi := ⟨some 26, _, _, _, _, _⟩) (v := ?_) rfl (by kernel_rfl) (by kernel_rfl) (by kernel_rfl) (fun _ _ _ h => h) (Or.inl ⟨by rfl, ?_⟩) (by assumption) ?_
 rotate_left
 ·intro w5 hSw
  (try dsimp only at hSw)
  go_simp
  (try with_reducible rfl)
 try simp only [Act.put, List.setIfInBounds_toArray, List.set_cons_zero, List.set_cons_succ]
 refine wpAnyH_take (i := 9) (oi := ⟨some 27, _, _, _, _, _⟩) (v := ?_) rfl (by kernel_rfl) (by kernel_rfl) (by kernel_rfl) (fun _ _ _ h => h) (Or.inl ⟨by rfl, ?_⟩) (by assumption) ?_
 rotate_left
 ·intro w5 hSw
  (try dsimp only at hSw)
  go_simp
  (try with_reducible rfl)
 try simp only [Act.put, List.setIfInBounds_toArray, List.set_cons_zero, List.set_cons_succ]
 refine wpAnyH_take (i := 10) (oi := ⟨some 28, _, _, _, _, _⟩) (v := ?_) rfl (by kernel_rfl) (by kernel_rfl) (by kernel_rfl) (fun _ _ _ h => h) (Or.inl ⟨by rfl, ?_⟩) (by assumption) ?_
 rotate_left
 ·intro w5 hSw
  (try dsimp only at hSw)
  go_simp
  (try with_reducible rfl)
 try simp only [Act.put, List.setIfInBounds_toArray, List.set_cons_zero, List.set_cons_succ]
 refine wpAnyH_take (i := 11) (oi := ⟨some 29, _, _, _, _, _⟩) (v := ?_) rfl (by kernel_rfl) (by kernel_rfl) (by kernel_rfl) (fun _ _ _ h => h) (Or.inl ⟨by rfl, ?_⟩) (by assumption) ?_
 rotate_left
 ·intro w5 hSw
  (try dsimp only at hSw)
  go_simp
  (try with_reducible rfl)
 try simp only [Act.put, List.setIfInBounds_toArray, List.set_cons_zero, List.set_cons_succ]
 refine wpAnyH_take (i := 12) (oi := ⟨some 30, _, _, _, _, _⟩) (v := ?_) rfl (by kernel_rfl) (by kernel_rfl) (by kernel_rfl) (fun _ _ _ h => h) (Or.inl ⟨by rfl, ?_⟩) (by assumption) ?_
 rotate_left
 ·intro w5 hSw
  (try dsimp only at hSw)
  go_simp
  (try with_reducible rfl)
 try simp only [Act.put, List.setIfInBounds_toArray, List.set_cons_zero, List.set_cons_succ]
 refine wpAnyH_take (i := 13) (oi := ⟨some 31, _, _, _, _, _⟩) (v := ?_) rfl (by kernel_rfl) (by kernel_rfl) (by kernel_rfl) (fun _ _ _ h => h) (Or.inl ⟨by rfl, ?_⟩) (by assumption) ?_
 rotate_left
 ·intro w5 hSw
  (try dsimp only at hSw)
  go_simp
  (try with_reducible rfl)
 try simp only [Act.put, List.setIfInBounds_toArray, List.set_cons_zero, List.set_cons_succ]
 refine wpAnyH_take (i := 14) (oi := ⟨some 32, _, _, _, _, _⟩) (v := ?_) rfl (by kernel_rfl) (by kernel_rfl) (by kernel_rfl) (fun _ _ _ h => h) (Or.inl ⟨by rfl, ?_⟩) (by assumption) ?_
 rotate_left
 ·intro w5 hSw
  (try dsimp only at hSw)
  go_simp
  (try with_reducible rfl)
 try simp only [Act.put, List.setIfInBounds_toArray, List.set_cons_zero, List.set_cons_succ]
 refine wpAnyH_take (i := 15) (oi := ⟨some 33, _, _, _, _, _⟩) (v := ?_) rfl (by kernel_rfl) (by kernel_rfl) (by kernel_rfl) (fun _ _ _ h => h) (Or.inl ⟨by rfl, ?_⟩) (by assumption) ?_
 rotate_left
 ·intro w5 hSw
  (try dsimp only at hSw)
  go_simp
  (try with_reducible rfl)
 try simp only [Act.put, List.setIfInBounds_toArray, List.set_cons_zero, List.set_cons_succ]
 refine wpAnyH_ready (rs := [5]) (by kernel_rfl) (by simp) ?_;refine (AllReadyH.cons (o := ⟨some 23, _, _, _, _, _⟩) rfl (fun Kx hK => ?_) AllReadyH.nil);go_simp;refine hK.out _ _ (by go_keep) (fun hHeld => ?_);clear hK Kx
 try simp only [Act.put, List.setIfInBounds_toArray, List.set_cons_zero, List.set_cons_succ]
 refine wpAnyH_ready (rs := [16]) (by kernel_rfl) (by simp) ?_;refine (AllReadyH.cons (o := ⟨some 34, _, _, _, _, _⟩) rfl (fun Kx hK => ?_) AllReadyH.nil);go_simp
 go_at_call 79
 refine (HCY.out wc.drew (Below.refl _ _).drew).mono ?_;rintro e w5 ⟨b1, b2, c1, c2, o1, o2, u1, u2, rfl, HQ, hHeld5⟩;have HX2 := hideIt (HX1.out.keep HQ.out.2.2);obtain ⟨⟨e0, e1, e2, e3, e4⟩, ef, ez, -⟩ := HX2.out.lan hi;obtain ⟨⟨-, -, -, -, -, -, -, -, -, -, -, -, -, -, -, -, -, -, d18, -, d20⟩, df, dz⟩ := at21 HX2.out.box;have hne := ty_ne HX2.out.box (row_blk HX2.out.ln.row).1.choose_spec (by decide);have hne2 := hne.symm;refine hK.out _ _ hHeld5 (fun hHeld => ?_);clear hK Kx hHeld5
 try simp only [Act.put, List.setIfInBounds_toArray, List.set_cons_zero, List.set_cons_succ]
 refine wpAnyH_take (i := 17) (oi := ⟨some 17, _, _, _, _, _⟩) (v := ?_) rfl (by kernel_rfl) (by kernel_rfl) (by kernel_rfl) (fun _ _ _ h => h) (Or.inl ⟨by rfl, ?_⟩) (by assumption) ?_
 rotate_left
 ·intro w5 hSw
  (try dsimp only at hSw)
  go_simp
  (try with_reducible rfl)
 try simp only [Act.put, List.setIfInBounds_toArray, List.set_cons_zero, List.set_cons_succ]
 refine wpAnyH_take (i := 18) (oi := ⟨some 35, _, _, _, _, _⟩) (v := ?_) rfl (by kernel_rfl) (by kernel_rfl) (by kernel_rfl) (fun _ _ _ h => h) (Or.inl ⟨by rfl, ?_⟩) (by assumption) ?_
 rotate_left
 ·intro w5 hSw
  (try dsimp only at hSw)
  go_simp
  (try with_reducible rfl)
 try simp only [Act.put, List.setIfInBounds_toArray, List.set_cons_zero, List.set_cons_succ]
 refine wpAnyH_take (i := 19) (oi := ⟨some 36, _, _, _, _, _⟩) (v := ?_) rfl (by kernel_rfl) (by kernel_rfl) (by kernel_rfl) (fun _ _ _ h => h) (Or.inl ⟨by rfl, ?_⟩) (by assumption) ?_
 rotate_left
 ·intro w5 hSw
  (try dsimp only at hSw)
  go_simp
  (try with_reducible rfl)
 try simp only [Act.put, List.setIfInBounds_toArray, List.set_cons_zero, List.set_cons_succ]
 refine wpAnyH_take (i := 20) (oi := ⟨some 37, _, _, _, _, _⟩) (v := ?_) rfl (by kernel_rfl) (by kernel_rfl) (by kernel_rfl) (fun _ _ _ h => h) (Or.inl ⟨by rfl, ?_⟩) (by assumption) ?_
 rotate_left
 ·intro w5 hSw
  (try dsimp only at hSw)
  go_simp
  (try with_reducible rfl)
 try simp only [Act.put, List.setIfInBounds_toArray, List.set_cons_zero, List.set_cons_succ]
 refine wpAnyH_take (i := 21) (oi := ⟨some 38, _, _, _, _, _⟩) (v := ?_) rfl (by kernel_rfl) (by kernel_rfl) (by kernel_rfl) (fun _ _ _ h => h) (Or.inl ⟨by rfl, ?_⟩) (by assumption) ?_
 rotate_left
 ·intro w5 hSw
  (try dsimp only at hSw)
  go_simp
  (try with_reducible rfl)
 try simp only [Act.put, List.setIfInBounds_toArray, List.set_cons_zero, List.set_cons_succ]
 refine wpAnyH_take (i := 22) (oi := ⟨some 39, _, _, _, _, _⟩) (v := ?_) rfl (by kernel_rfl) (by kernel_rfl) (by kernel_rfl) (fun _ _ _ h => h) (Or.inl ⟨by rfl, ?_⟩) (by assumption) ?_
 rotate_left
 ·intro w5 hSw
  (try dsimp only at hSw)
  go_simp
  (try with_reducible rfl)
 try simp only [Act.put, List.setIfInBounds_toArray, List.set_cons_zero, List.set_cons_succ]
 refine wpAnyH_ready (rs := [23]) (by kernel_rfl) (by simp) ?_;refine (AllReadyH.cons (o := ⟨none, _, _, _, _, _⟩) rfl (fun Kx hK => ?_) AllReadyH.nil);go_simp;refine hK.out _ _ (by go_keep) (fun hHeld => ?_);clear hK Kx
 try simp only [Act.put, List.setIfInBounds_toArray, List.set_cons_zero, List.set_cons_succ]
 refine wpAnyH_take (i := 24) (oi := ⟨some 40, _, _, _, _, _⟩) (v := ?_) rfl (by kernel_rfl) (by kernel_rfl) (by kernel_rfl) (fun _ _ _ h => h) (Or.inl ⟨by rfl, ?_⟩) (by assumption) ?_
 rotate_left
 ·intro w5 hSw
  (try dsimp only at hSw)
  go_simp
  (try with_reducible rfl)
 try simp only [Act.put, List.setIfInBounds_toArray, List.set_cons_zero, List.set_cons_succ]
 refine wpAnyH_take (i := 25) (oi := ⟨some 41, _, _, _, _, _⟩) (v := ?_) rfl (by kernel_rfl) (by kernel_rfl) (by kernel_rfl) (fun _ _ _ h => h) (Or.inl ⟨by rfl, ?_⟩) (by assumption) ?_
 rotate_left
 ·intro w5 hSw
  (try dsimp only at hSw)
  go_simp
  (try with_reducible rfl)
 try simp only [Act.put, List.setIfInBounds_toArray, List.set_cons_zero, List.set_cons_succ]
 refine wpAnyH_take (i := 26) (oi := ⟨some 42, _, _, _, _, _⟩) (v := ?_) rfl (by kernel_rfl) (by kernel_rfl) (by kernel_rfl) (fun _ _ _ h => h) (Or.inl ⟨by rfl, ?_⟩) (by assumption) ?_
 rotate_left
 ·intro w5 hSw
  (try dsimp only at hSw)
  go_simp
  (try with_reducible rfl)
 try simp only [Act.put, List.setIfInBounds_toArray, List.set_cons_zero, List.set_cons_succ]
 refine wpAnyH_ready (rs := [27]) (by kernel_rfl) (by simp) ?_;refine (AllReadyH.cons (o := ⟨none, _, _, _, _, _⟩) rfl (fun Kx hK => ?_) AllReadyH.nil);go_simp;refine hK.out _ _ (by go_keep) (fun hHeld => ?_);clear hK Kx
 try simp only [Act.put, List.setIfInBounds_toArray, List.set_cons_zero, List.set_cons_succ]
 refine wpAnyH_take (i := 28) (oi := ⟨some 43, _, _, _, _, _⟩) (v := ?_) rfl (by kernel_rfl) (by kernel_rfl) (by kernel_rfl) (fun _ _ _ h => h) (Or.inl ⟨by rfl, ?_⟩) (by assumption) ?_
 rotate_left
 ·intro w5 hSw
  (try dsimp only at hSw)
  go_simp
  (try with_reducible rfl)
 try simp only [Act.put, List.setIfInBounds_toArray, List.set_cons_zero, List.set_cons_succ]
 refine wpAnyH_take (i := 29) (oi := ⟨some 44, _, _, _, _, _⟩) (v := ?_) rfl (by kernel_rfl) (by kernel_rfl) (by kernel_rfl) (fun _ _ _ h => h) (Or.inl ⟨by rfl, ?_⟩) (by assumption) ?_
 rotate_left
 ·intro w5 hSw
  (try dsimp only at hSw)
  go_simp
  (try with_reducible rfl)
 try simp only [Act.put, List.setIfInBounds_toArray, List.set_cons_zero, List.set_cons_succ]
 refine wpAnyH_take (i := 30) (oi := ⟨some 45, _, _, _, _, _⟩) (v := ?_) rfl (by kernel_rfl) (by kernel_rfl) (by kernel_rfl) (fun _ _ _ h => h) (Or.inl ⟨by rfl, ?_⟩) (by assumption) ?_
 rotate_left
 ·intro w5 hSw
  (try dsimp only at hSw)
  go_simp
  (try with_reducible rfl)
 try simp only [Act.put, List.setIfInBounds_toArray, List.set_cons_zero, List.set_cons_succ]
 refine wpAnyH_ready (rs := [31]) (by kernel_rfl) (by simp) ?_;refine (AllReadyH.cons (o := ⟨none, _, _, _, _, _⟩) rfl (fun Kx hK => ?_) AllReadyH.nil);go_simp;refine hK.out _ _ (by go_keep) (fun hHeld => ?_);clear hK Kx
 try simp only [Act.put, List.setIfInBounds_toArray, List.set_cons_zero, List.set_cons_succ]
 refine wpAnyH_take (i := 32) (oi := ⟨some 7, _, _, _, _, _⟩) (v := ?_) rfl (by kernel_rfl) (by kernel_rfl) (by kernel_rfl) (fun _ _ _ h => h) (Or.inl ⟨by rfl, ?_⟩) (by assumption) ?_
 rotate_left
 ·intro w5 hSw
  (try dsimp only at hSw)
  go_simp
  (try with_reducible rfl)
 try simp only [Act.put, List.setIfInBounds_toArray, List.set_cons_zero, List.set_cons_succ]
 refine wpAnyH_done (by kernel_rfl) ?_ _
 all_goals go_wp2
 all_goals go_ret
 have hB5 := HX1.out.bel.size;have HP := HX2.out.putL hi ⟨TM, b1, b2, c1, c2, o1, o2⟩ (HQ.out.1.base hB5);have HFO := own_base HQ.out.2.1 hB5;obtain ⟨⟨cs, hg⟩, hgB⟩ := row_blk HX2.out.ln.row;have g1 := heap_set hg (i * 5) (.bool TM.call);have g2 := heap_set g1 (i * 5 + 1) (.int .i64 TM.next);have g3 := heap_set g2 (i * 5 + 2) (.slice b1 TM.bids.length b2);have g4 := heap_set g3 (i * 5 + 3) (.slice c1 TM.asks.length c2);have HF7 := own_cell (j := i * 5 + 4) (u := .slice o1 TM.owed.length o2) (own_cell (j := i * 5 + 3) (u := .slice c1 TM.asks.length c2) (own_cell (j := i * 5 + 2) (u := .slice b1 TM.bids.length b2) (own_cell (j := i * 5 + 1) (u := .int .i64 TM.next) (own_cell (j := i * 5) (u := .bool TM.call) HFO hg (by decide)) g1 (by decide)) g2 (by decide)) g3 (by decide)) g4 (by decide);have HP2 := (HP.setFl u1 u2 FL HF7 (by omega)).setNum pn
 exact ⟨{X with L := X.L.set i ⟨TM, b1, b2, c1, c2, o1, o2⟩, ff := u1, cf := u2, fl := FL, num := pn}, rfl, by simp only [WkX.st, List.map_set], rfl, rfl, by simp, HP2⟩
set_option maxRecDepth 100000 in
set_option maxHeartbeats 32000000 in
theorem doLn4 (w : World) (K i q : Nat) (X : WkX) (wx : World) (h : WK w K X wx) (hi : i < X.L.length) (hk : X.r.kind = 4) : Calls Tryz.prog 52 #[.pointer (some ⟨K, 0, none⟩), .pointer (some ⟨X.gl, i * 5, none⟩), .int .i64 (q : Int)] wx (WkB w K X ({X.st with l := X.st.l.set i (canR (lanD X.st i) X.r.acct X.r.n).1, num := (canR (lanD X.st i) X.r.acct X.r.n).2.1}, (canR (lanD X.st i) X.r.acct X.r.n).2.2)) := by
 rw [lanD_at hi];obtain ⟨PR, hPR⟩ : ∃ PR, PR = canR (X.L[i]).v X.r.acct X.r.n := ⟨_, rfl⟩;rw [← hPR];have HPR := hideIt hPR;clear hPR;obtain ⟨TM, pn, pe⟩ := PR
 simp only
 have HKK := hideIt hk;clear hk;have HX := hideIt h;obtain ⟨⟨-, -, d2, d3, d4, d5, d6, d7, d8, d9, d10, d11, d12, -, -, -, -, -, -, -, -⟩, df, dz⟩ := at21 h.box;clear h
 go_enter Tryz.func52, Tryz.ntmps52
 go_upto_region 1 with fail
 go_cut [7, 8] from 9 to 12 (fun y x wy => x = .pointer (some ⟨wx.heap.size, 0, none⟩) ∧ y = .int .i64 0 ∧ Hid (wy.heap[wx.heap.size]? = some (.cells (Se.reqC X.r) 26 (0, 0)) ∧ Below wx.heap.size wx wy))
 case first =>
  clear HX
  go_region
  all_goals go_wp2_with fail
  all_goals go_meet
  exact ⟨rfl, rfl, hideIt ⟨heap_alloc_new wx _, (below1 wx _).drew⟩⟩
 case rest =>
 obtain ⟨rfl, rfl, HR⟩ := hcut;clear d2 d3 d4 d5 d6 d7 d8 d9 d10 d11 d12 df dz;have HX1 := hideIt (HX.out.keep HR.out.2);clear HX;have hKR : wx.heap.size ≠ K := by
  have := ty_ne HR.out.1 HX1.out.box (by decide);exact this
 have rz := (Array.getElem?_eq_some_iff.1 HR.out.1).1;have HRC : Hid (∀ W, Below wc.heap.size wc W → W.cell? ⟨wx.heap.size, 0, none⟩ = some (.int .i64 X.r.kind) ∧ W.cell? ⟨wx.heap.size, 1, none⟩ = some (.int .i64 X.r.acct) ∧ W.cell? ⟨wx.heap.size, 4, none⟩ = some (.int .i64 X.r.side) ∧ W.cell? ⟨wx.heap.size, 5, none⟩ = some (.int .i64 X.r.price) ∧ W.cell? ⟨wx.heap.size, 6, none⟩ = some (.int .i64 X.r.n) ∧ W.cell? ⟨wx.heap.size, 7, none⟩ = some (.bool X.r.now)) := fun W hW => ⟨(hW.cell (p := ⟨wx.heap.size, 0, none⟩) rz).trans ((cell_at HR.out.1 0).trans rfl), (hW.cell (p := ⟨wx.heap.size, 1, none⟩) rz).trans ((cell_at HR.out.1 1).trans rfl), (hW.cell (p := ⟨wx.heap.size, 4, none⟩) rz).trans ((cell_at HR.out.1 4).trans rfl), (hW.cell (p := ⟨wx.heap.size, 5, none⟩) rz).trans ((cell_at HR.out.1 5).trans rfl), (hW.cell (p := ⟨wx.heap.size, 6, none⟩) rz).trans ((cell_at HR.out.1 6).trans rfl), (hW.cell (p := ⟨wx.heap.size, 7, none⟩) rz).trans ((cell_at HR.out.1 7).trans rfl)⟩
 have HBX := hideIt HR.out.1;clear HR;generalize wx.heap.size = KR at *;have hKG := ty_ne HBX.out (row_blk HX1.out.ln.row).1.choose_spec (by decide);have hGK := hKG.symm;have hK2 := hKR.symm;clear HBX;obtain ⟨⟨a0, a1, a2, a3, a4⟩, af, az, hat⟩ := HX1.out.lan hi;have HAT := hideIt hat;clear hat;have HC := hideIt (fun W (hW : Below wc.heap.size wc W) => cancelX (X.L[i]).v X.r.acct X.r.n _ _ _ W (LanAt.keep HAT.out hW));clear HAT;rw [← HPR.out] at HC;clear HPR;simp only at HC;generalize (X.L[i]).v.call = l0 at *;generalize (X.L[i]).v.next = l1 at *;generalize (Value.slice (X.L[i]).ba (X.L[i]).v.bids.length (X.L[i]).bc) = l2 at *;generalize (Value.slice (X.L[i]).aa (X.L[i]).v.asks.length (X.L[i]).ac) = l3 at *;generalize (Value.slice (X.L[i]).oa (X.L[i]).v.owed.length (X.L[i]).oc) = l4 at *;obtain ⟨r0, r1, r4, r5, r6, r7⟩ := HRC.out wc (Below.refl _ _);rw [HKK.out] at r0;have HCY : Hid (∀ W, Below wc.heap.size wc W → Calls Tryz.prog 80 #[.agg #[.bool l0, .int .i64 l1, l2, l3, l4], .int .i64 X.r.acct, .int .i64 X.r.n] W (fun e w' => ∃ b1 b2 c1 c2 o1 o2 , e = .returned (.tuple #[.agg #[.bool TM.call, .int .i64 TM.next, .slice b1 TM.bids.length b2, .slice c1 TM.asks.length c2, .slice o1 TM.owed.length o2], .int .i64 pn, .int .i64 pe]) ∧ Hid (LanOwn wc.heap.size w' ⟨TM, b1, b2, c1, c2, o1, o2⟩ ∧ Below wc.heap.size wc w') ∧ (w'.cell? ⟨KR, 1, none⟩ = some (.int .i64 X.r.acct) ∧ w'.cell? ⟨KR, 6, none⟩ = some (.int .i64 X.r.n)))) := by
  intro W hW;refine (HC.out W hW).mono ?_;rintro e w' ⟨b1, b2, c1, c2, o1, o2, rfl, ho⟩;have hB := below_via hW ho.out.2;obtain ⟨-, s1, -, -, s6, -⟩ := HRC.out w' hB
  exact ⟨b1, b2, c1, c2, o1, o2, rfl, hideIt ⟨ho.out.1.base hW.size, hB⟩, s1, s6⟩
 clear HC HRC HKK
 go_upto_region 6 with fail
 refine wp_region_held_drew (S := fun W => W.cell? ⟨KR, 1, none⟩ = some (.int .i64 X.r.acct) ∧ W.cell? ⟨KR, 6, none⟩ = some (.int .i64 X.r.n)) (by rfl) (by go_keep) (fun hHeld => ?_);refine wpAnyH_take (i := 0) (oi := ⟨some 49, _, _, _, _, _⟩) (v := ?_) rfl (by kernel_rfl) (by kernel_rfl) (by kernel_rfl) (fun _ _ _ h => h) (Or.inl ⟨by rfl, ?_⟩) (by assumption) ?_
 rotate_left
 ·intro w5 hSw
  (try dsimp only at hSw)
  go_simp
  (try with_reducible rfl)
 try simp only [Act.put, List.setIfInBounds_toArray, List.set_cons_zero, List.set_cons_succ]
 refine wpAnyH_take (i := 1) (oi := ⟨some 50, _, _, _, _, _⟩) (v := ?_) rfl (by kernel_rfl) (by kernel_rfl) (by kernel_rfl) (fun _ _ _ h => h) (Or.inl ⟨by rfl, ?_⟩) (by assumption) ?_
 rotate_left
 ·intro w5 hSw
  (try dsimp only at hSw)
  go_simp
  (try with_reducible rfl)
 try simp only [Act.put, List.setIfInBounds_toArray, List.set_cons_zero, List.set_cons_succ]
 refine wpAnyH_take (i := 2) (oi := ⟨some 51, _, _, _, _, _⟩) (v := ?_) rfl (by kernel_rfl) (by kernel_rfl) (by kernel_rfl) (fun _ _ _ h => h) (Or.inl ⟨by rfl, ?_⟩) (by assumption) ?_
 rotate_left
 ·intro w5 hSw
  (try dsimp only at hSw)
  go_simp
  (try with_reducible rfl)
 try simp only [Act.put, List.setIfInBounds_toArray, List.set_cons_zero, List.set_cons_succ]
 refine wpAnyH_take (i := 3) (oi := ⟨some 52, _, _, _, _, _⟩) (v := ?_) rfl (by kernel_rfl) (by kernel_rfl) (by kernel_rfl) (fun _ _ _ h => h) (Or.inl ⟨by rfl, ?_⟩) (by assumption) ?_
 rotate_left
 ·intro w5 hSw
  (try dsimp only at hSw)
  go_simp
  (try with_reducible rfl)
 try simp only [Act.put, List.setIfInBounds_toArray, List.set_cons_zero, List.set_cons_succ]
 refine wpAnyH_take (i := 5) (oi := ⟨some 54, _, _, _, _, _⟩) (v := ?_) rfl (by kernel_rfl) (by kernel_rfl) (by kernel_rfl) (fun _ _ _ h => h) (Or.inl ⟨by rfl, ?_⟩) (by assumption) ?_
 rotate_left
 ·intro w5 hSw
  (try dsimp only at hSw)
  go_simp
  (try with_reducible rfl)
 try simp only [Act.put, List.setIfInBounds_toArray, List.set_cons_zero, List.set_cons_succ]
 refine wpAnyH_take (i := 6) (oi := ⟨some 55, _, _, _, _, _⟩) (v := ?_) rfl (by kernel_rfl) (by kernel_rfl) (by kernel_rfl) (fun _ _ _ h => h) (Or.inl ⟨by rfl, ?_⟩) (by assumption) ?_
 rotate_left
 ·intro w5 hSw
  (try dsimp only at hSw)
  go_simp
  (try with_reducible rfl)
 try simp only [Act.put, List.setIfInBounds_toArray, List.set_cons_zero, List.set_cons_succ]
 refine wpAnyH_take (i := 7) (oi := ⟨some 56, _, _, _, _, _⟩) (v := ?_) rfl (by kernel_rfl) (by kernel_rfl) (by kernel_rfl) (fun _ _ _ h => h) (Or.inl ⟨by rfl, ?_⟩) (by assumption) ?_
 rotate_left
 ·intro w5 hSw
  (try dsimp only at hSw)
  go_simp
  (try with_reducible rfl)
 try simp only [Act.put, List.setIfInBounds_toArray, List.set_cons_zero, List.set_cons_succ]
 refine wpAnyH_take (i := 8) (oi := ⟨some 57, _, _, _, _, _⟩) (v := ?_) rfl (by kernel_rfl) (by kernel_rfl) (by kernel_rfl) (fun _ _ _ h => h) (Or.inl ⟨by rfl, ?_⟩) (by assumption) ?_
 rotate_left
 ·intro w5 hSw
  (try dsimp only at hSw)
  go_simp
  (try with_reducible rfl)
 try simp only [Act.put, List.setIfInBounds_toArray, List.set_cons_zero, List.set_cons_succ]
 refine wpAnyH_ready (rs := [4]) (by kernel_rfl) (by simp) ?_;refine (AllReadyH.cons (o := ⟨some 53, _, _, _, _, _⟩) rfl (fun Kx hK => ?_) AllReadyH.nil);go_simp;refine hK.out _ _ (by go_keep) (fun hHeld => ?_);clear hK Kx
 try simp only [Act.put, List.setIfInBounds_toArray, List.set_cons_zero, List.set_cons_succ]
 refine wpAnyH_ready (rs := [9]) (by kernel_rfl) (by simp) ?_;refine (AllReadyH.cons (o := ⟨some 58, _, _, _, _, _⟩) rfl (fun Kx hK => ?_) AllReadyH.nil);go_simp
 go_at_call 80
 refine (HCY.out wc.drew (Below.refl _ _).drew).mono ?_;rintro e w5 ⟨b1, b2, c1, c2, o1, o2, rfl, HQ, hHeld5⟩;have HX2 := hideIt (HX1.out.keep HQ.out.2);obtain ⟨⟨e0, e1, e2, e3, e4⟩, ef, ez, -⟩ := HX2.out.lan hi;obtain ⟨⟨-, -, -, -, -, -, -, -, -, -, -, -, -, -, -, -, -, -, d18, -, d20⟩, df, dz⟩ := at21 HX2.out.box;have hne := ty_ne HX2.out.box (row_blk HX2.out.ln.row).1.choose_spec (by decide);have hne2 := hne.symm;refine hK.out _ _ hHeld5 (fun hHeld => ?_);clear hK Kx hHeld5
 try simp only [Act.put, List.setIfInBounds_toArray, List.set_cons_zero, List.set_cons_succ]
 refine wpAnyH_take (i := 10) (oi := ⟨some 48, _, _, _, _, _⟩) (v := ?_) rfl (by kernel_rfl) (by kernel_rfl) (by kernel_rfl) (fun _ _ _ h => h) (Or.inl ⟨by rfl, ?_⟩) (by assumption) ?_
 rotate_left
 ·intro w5 hSw
  (try dsimp only at hSw)
  go_simp
  (try with_reducible rfl)
 try simp only [Act.put, List.setIfInBounds_toArray, List.set_cons_zero, List.set_cons_succ]
 refine wpAnyH_take (i := 11) (oi := ⟨some 59, _, _, _, _, _⟩) (v := ?_) rfl (by kernel_rfl) (by kernel_rfl) (by kernel_rfl) (fun _ _ _ h => h) (Or.inl ⟨by rfl, ?_⟩) (by assumption) ?_
 rotate_left
 ·intro w5 hSw
  (try dsimp only at hSw)
  go_simp
  (try with_reducible rfl)
 try simp only [Act.put, List.setIfInBounds_toArray, List.set_cons_zero, List.set_cons_succ]
 refine wpAnyH_take (i := 12) (oi := ⟨some 60, _, _, _, _, _⟩) (v := ?_) rfl (by kernel_rfl) (by kernel_rfl) (by kernel_rfl) (fun _ _ _ h => h) (Or.inl ⟨by rfl, ?_⟩) (by assumption) ?_
 rotate_left
 ·intro w5 hSw
  (try dsimp only at hSw)
  go_simp
  (try with_reducible rfl)
 try simp only [Act.put, List.setIfInBounds_toArray, List.set_cons_zero, List.set_cons_succ]
 refine wpAnyH_take (i := 13) (oi := ⟨some 61, _, _, _, _, _⟩) (v := ?_) rfl (by kernel_rfl) (by kernel_rfl) (by kernel_rfl) (fun _ _ _ h => h) (Or.inl ⟨by rfl, ?_⟩) (by assumption) ?_
 rotate_left
 ·intro w5 hSw
  (try dsimp only at hSw)
  go_simp
  (try with_reducible rfl)
 try simp only [Act.put, List.setIfInBounds_toArray, List.set_cons_zero, List.set_cons_succ]
 refine wpAnyH_take (i := 14) (oi := ⟨some 62, _, _, _, _, _⟩) (v := ?_) rfl (by kernel_rfl) (by kernel_rfl) (by kernel_rfl) (fun _ _ _ h => h) (Or.inl ⟨by rfl, ?_⟩) (by assumption) ?_
 rotate_left
 ·intro w5 hSw
  (try dsimp only at hSw)
  go_simp
  (try with_reducible rfl)
 try simp only [Act.put, List.setIfInBounds_toArray, List.set_cons_zero, List.set_cons_succ]
 refine wpAnyH_ready (rs := [15]) (by kernel_rfl) (by simp) ?_;refine (AllReadyH.cons (o := ⟨none, _, _, _, _, _⟩) rfl (fun Kx hK => ?_) AllReadyH.nil);go_simp;refine hK.out _ _ (by go_keep) (fun hHeld => ?_);clear hK Kx
 try simp only [Act.put, List.setIfInBounds_toArray, List.set_cons_zero, List.set_cons_succ]
 refine wpAnyH_take (i := 16) (oi := ⟨some 63, _, _, _, _, _⟩) (v := ?_) rfl (by kernel_rfl) (by kernel_rfl) (by kernel_rfl) (fun _ _ _ h => h) (Or.inl ⟨by rfl, ?_⟩) (by assumption) ?_
 rotate_left
 ·intro w5 hSw
  (try dsimp only at hSw)
  go_simp
  (try with_reducible rfl)
 try simp only [Act.put, List.setIfInBounds_toArray, List.set_cons_zero, List.set_cons_succ]
 refine wpAnyH_take (i := 17) (oi := ⟨some 64, _, _, _, _, _⟩) (v := ?_) rfl (by kernel_rfl) (by kernel_rfl) (by kernel_rfl) (fun _ _ _ h => h) (Or.inl ⟨by rfl, ?_⟩) (by assumption) ?_
 rotate_left
 ·intro w5 hSw
  (try dsimp only at hSw)
  go_simp
  (try with_reducible rfl)
 try simp only [Act.put, List.setIfInBounds_toArray, List.set_cons_zero, List.set_cons_succ]
 refine wpAnyH_take (i := 18) (oi := ⟨some 65, _, _, _, _, _⟩) (v := ?_) rfl (by kernel_rfl) (by kernel_rfl) (by kernel_rfl) (fun _ _ _ h => h) (Or.inl ⟨by rfl, ?_⟩) (by assumption) ?_
 rotate_left
 ·intro w5 hSw
  (try dsimp only at hSw)
  go_simp
  (try with_reducible rfl)
 try simp only [Act.put, List.setIfInBounds_toArray, List.set_cons_zero, List.set_cons_succ]
 refine wpAnyH_ready (rs := [19]) (by kernel_rfl) (by simp) ?_;refine (AllReadyH.cons (o := ⟨none, _, _, _, _, _⟩) rfl (fun Kx hK => ?_) AllReadyH.nil);go_simp;refine hK.out _ _ (by go_keep) (fun hHeld => ?_);clear hK Kx
 try simp only [Act.put, List.setIfInBounds_toArray, List.set_cons_zero, List.set_cons_succ]
 refine wpAnyH_take (i := 20) (oi := ⟨some 7, _, _, _, _, _⟩) (v := ?_) rfl (by kernel_rfl) (by kernel_rfl) (by kernel_rfl) (fun _ _ _ h => h) (Or.inl ⟨by rfl, ?_⟩) (by assumption) ?_
 rotate_left
 ·intro w5 hSw
  (try dsimp only at hSw)
  go_simp
  (try with_reducible rfl)
 try simp only [Act.put, List.setIfInBounds_toArray, List.set_cons_zero, List.set_cons_succ]
 refine wpAnyH_done (by kernel_rfl) ?_ _
 all_goals go_wp2
 all_goals go_ret
 have HP := (HX2.out.putL hi ⟨TM, b1, b2, c1, c2, o1, o2⟩ (HQ.out.1.base HX1.out.bel.size)).setNum pn
 exact ⟨{X with L := X.L.set i ⟨TM, b1, b2, c1, c2, o1, o2⟩, num := pn}, rfl, by simp only [WkX.st, List.map_set], rfl, rfl, by simp, HP⟩
theorem doLane_is (w : World) (K i q : Nat) (X : WkX) (wx : World) (h : WK w K X wx) (hi : i < X.L.length) (hc : chkB (X.L[i]).v = true) (hq : 1 ≤ q ∧ q ≤ 3) : Calls Tryz.prog 52 #[.pointer (some ⟨K, 0, none⟩), .pointer (some ⟨X.gl, i * 5, none⟩), .int .i64 (q : Int)] wx (WkB w K X (stLan X.r i q X.st)) := by
 unfold stLan
 by_cases h3 : X.r.kind = 3
 ·rw [if_pos h3];exact doLn3 w K i q X wx h hi h3
 ·rw [if_neg h3]
  by_cases h4 : X.r.kind = 4
  ·rw [if_pos h4];exact doLn4 w K i q X wx h hi h4
  ·rw [if_neg h4]
   by_cases h5 : X.r.kind = 5
   ·rw [if_pos h5];exact doLn5 w K i q X wx h hi h5
   ·rw [if_neg h5]
    by_cases h6 : X.r.kind = 6
    ·rw [if_pos h6];exact doLn6 w K i q X wx h hi h6
    ·rw [if_neg h6]
     by_cases h7 : X.r.kind = 7
     ·rw [if_pos h7];exact doLn7 w K i q X wx h hi h7 hc hq
     ·rw [if_neg h7];exact doLnO w K i q X wx h hi h3 h4 h5 h6 h7
set_option maxRecDepth 100000 in
set_option maxHeartbeats 16000000 in
theorem doAtA (w : World) (K n : Nat) (X : WkX) (wx : World) (h : WK w K X wx) (hn : 1 ≤ n ∧ n ≤ X.A.length) (hf : Se.fitsB X.r = true) (h9 : X.r.kind ≠ 9) : Calls Tryz.prog 24 #[.pointer (some ⟨K, 0, none⟩), .agg #[.int .i64 1, .int .i64 (n : Int)]] wx (WkB w K X (stAcc X.r (n - 1) X.st)) := by
 have b9 : (X.r.kind == 9) = false := beq_eq_false_iff_ne.2 h9;obtain ⟨i, rfl⟩ : ∃ i, n = i + 1 := ⟨n - 1, by omega⟩;rw [Nat.add_sub_cancel];have hi : i < X.A.length := by omega
 have hsub : IntKind.i64.wrap (((i + 1 : Nat) : Int) - 1) = (i : Int) := by
  have hl := h.ac.siz;rw [IntKind.wrap_i64];omega
 have hiI : (i : Int) < (X.A.length : Int) := by omega
 have hi0 : (0 : Int) ≤ (i : Int) := by omega
 generalize ((i + 1 : Nat) : Int) = ni at *;clear h9;have HX := hideIt h;have hkb := heap_alloc_new wx (.cells #[.int .i64 1, .int .i64 ni] 24);have HX1 := hideIt (HX.out.keep (below1 wx (.cells #[.int .i64 1, .int .i64 ni] 24)));have hKK := ty_ne hkb HX1.out.box (by decide);have hKK2 := hKK.symm;obtain ⟨⟨d0, d1, d2, -, -, -, -, -, -, -, -, -, -, -, -, -, -, -, -, -, -⟩, df, dz⟩ := at21 HX1.out.box;obtain ⟨⟨b0, b1⟩, -, bz⟩ := at2 hkb;have HC := hideIt (doAcc_is w K i X (wx.alloc (.cells #[.int .i64 1, .int .i64 ni] 24)).drew (HX1.out.keep (Below.refl _ _).drew) hi hf);clear h HX hkb hn hf;unfold WkB at HC;generalize stAcc X.r i X.st = Z at *;have HCY : Hid (Calls Tryz.prog 51 #[.pointer (some ⟨K, 0, none⟩), .pointer (some ⟨X.ga, i * 2, none⟩)] (wx.alloc (.cells #[.int .i64 1, .int .i64 ni] 24)).drew (fun e w' => e = .returned (.int .i64 Z.2) ∧ Hid (∃ X' : WkX, X'.st = Z.1 ∧ X'.fx = X.fx ∧ X'.A.length = X.A.length ∧ X'.L.length = X.L.length ∧ WK w K X' w') ∧ (w'.cell? ⟨K, 0, none⟩ = some (.slice (some ⟨X.ga, 0, none⟩) X.A.length X.ca)))) := by
  refine HC.out.mono ?_;rintro e w' ⟨X', rfl, q1, q2, q3, q4, q5⟩;refine ⟨rfl, hideIt ⟨X', q1, q2, q3, q4, q5⟩, ?_⟩;obtain ⟨⟨k0, k1, -, -, -, -, -, -, -, -, -, -, -, -, -, -, -, -, -, -, -⟩, -, -⟩ := at21 q5.box;unfold WkX.fx at q2;simp only [Prod.mk.injEq] at q2;rw [q3, q2.2.1, q2.2.2.1] at k0;exact k0
 clear HC
 go_enter Tryz.func24, Tryz.ntmps24
 go_upto_region 4 with fail
 refine wp_region_held_drew (S := fun W => W.cell? ⟨K, 0, none⟩ = some (.slice (some ⟨X.ga, 0, none⟩) X.A.length X.ca)) (by rfl) (by go_keep) (fun hHeld => ?_);refine wpAnyH_take (i := 0) (oi := ⟨some 14, _, _, _, _, _⟩) (v := ?_) rfl (by kernel_rfl) (by kernel_rfl) (by kernel_rfl) (fun _ _ _ h => h) (Or.inl ⟨by rfl, ?_⟩) (by assumption) ?_
 rotate_left
 ·intro w5 hSw
  (try dsimp only at hSw)
  go_simp
  (try with_reducible rfl)
 try simp only [Act.put, List.setIfInBounds_toArray, List.set_cons_zero, List.set_cons_succ]
 refine wpAnyH_take (i := 1) (oi := ⟨some 15, _, _, _, _, _⟩) (v := ?_) rfl (by kernel_rfl) (by kernel_rfl) (by kernel_rfl) (fun _ _ _ h => h) (Or.inl ⟨by rfl, ?_⟩) (by assumption) ?_
 rotate_left
 ·intro w5 hSw
  (try dsimp only at hSw)
  go_simp
  (try with_reducible rfl)
 try simp only [Act.put, List.setIfInBounds_toArray, List.set_cons_zero, List.set_cons_succ]
 refine wpAnyH_take (i := 2) (oi := ⟨some 16, _, _, _, _, _⟩) (v := ?_) rfl (by kernel_rfl) (by kernel_rfl) (by kernel_rfl) (fun _ _ _ h => h) (Or.inl ⟨by rfl, ?_⟩) (by assumption) ?_
 rotate_left
 ·intro w5 hSw
  (try dsimp only at hSw)
  go_simp
  (try with_reducible rfl)
 try simp only [Act.put, List.setIfInBounds_toArray, List.set_cons_zero, List.set_cons_succ]
 refine wpAnyH_take (i := 3) (oi := ⟨some 17, _, _, _, _, _⟩) (v := ?_) rfl (by kernel_rfl) (by kernel_rfl) (by kernel_rfl) (fun _ _ _ h => h) (Or.inl ⟨by rfl, ?_⟩) (by assumption) ?_
 rotate_left
 ·intro w5 hSw
  (try dsimp only at hSw)
  go_simp
  (try with_reducible rfl)
 try simp only [Act.put, List.setIfInBounds_toArray, List.set_cons_zero, List.set_cons_succ]
 refine wpAnyH_take (i := 4) (oi := ⟨some 18, _, _, _, _, _⟩) (v := ?_) rfl (by kernel_rfl) (by kernel_rfl) (by kernel_rfl) (fun _ _ _ h => h) (Or.inl ⟨by rfl, ?_⟩) (by assumption) ?_
 rotate_left
 ·intro w5 hSw
  (try dsimp only at hSw)
  go_simp
  (try with_reducible rfl)
 try simp only [Act.put, List.setIfInBounds_toArray, List.set_cons_zero, List.set_cons_succ]
 refine wpAnyH_take (i := 5) (oi := ⟨some 19, _, _, _, _, _⟩) (v := ?_) rfl (by kernel_rfl) (by kernel_rfl) (by kernel_rfl) (fun _ _ _ h => h) (Or.inl ⟨by rfl, ?_⟩) (by assumption) ?_
 rotate_left
 ·intro w5 hSw
  (try dsimp only at hSw)
  go_simp
  (try with_reducible rfl)
 try simp only [Act.put, List.setIfInBounds_toArray, List.set_cons_zero, List.set_cons_succ]
 refine wpAnyH_take (i := 6) (oi := ⟨some 20, _, _, _, _, _⟩) (v := ?_) rfl (by kernel_rfl) (by kernel_rfl) (by kernel_rfl) (fun _ _ _ h => h) (Or.inl ⟨by rfl, ?_⟩) (by assumption) ?_
 rotate_left
 ·intro w5 hSw
  (try dsimp only at hSw)
  go_simp
  (try with_reducible rfl)
 try simp only [Act.put, List.setIfInBounds_toArray, List.set_cons_zero, List.set_cons_succ]
 refine wpAnyH_ready (rs := [7]) (by kernel_rfl) (by simp) ?_;refine (AllReadyH.cons (o := ⟨some 21, _, _, _, _, _⟩) rfl (fun Kx hK => ?_) AllReadyH.nil);go_simp;refine hK.out _ _ (by go_keep) (fun hHeld => ?_);clear hK Kx
 try simp only [Act.put, List.setIfInBounds_toArray, List.set_cons_zero, List.set_cons_succ]
 refine wpAnyH_take (i := 8) (oi := ⟨some 22, _, _, _, _, _⟩) (v := ?_) rfl (by kernel_rfl) (by kernel_rfl) (by kernel_rfl) (fun _ _ _ h => h) (Or.inl ⟨by rfl, ?_⟩) (by assumption) ?_
 rotate_left
 ·intro w5 hSw
  (try dsimp only at hSw)
  go_simp
  (try with_reducible rfl)
 try simp only [Act.put, List.setIfInBounds_toArray, List.set_cons_zero, List.set_cons_succ]
 refine wpAnyH_take (i := 9) (oi := ⟨some 23, _, _, _, _, _⟩) (v := ?_) rfl (by kernel_rfl) (by kernel_rfl) (by kernel_rfl) (fun _ _ _ h => h) (Or.inl ⟨by rfl, ?_⟩) (by assumption) ?_
 rotate_left
 ·intro w5 hSw
  (try dsimp only at hSw)
  go_simp
  (try with_reducible rfl)
 try simp only [Act.put, List.setIfInBounds_toArray, List.set_cons_zero, List.set_cons_succ]
 refine wpAnyH_ready (rs := [10]) (by kernel_rfl) (by simp) ?_;refine (AllReadyH.cons (o := ⟨some 24, _, _, _, _, _⟩) rfl (fun Kx hK => ?_) AllReadyH.nil);go_simp
 go_at_call 51
 refine HCY.out.mono ?_;rintro e w5 ⟨rfl, HQ, hH5⟩;refine hK.out _ _ hH5 (fun hHeld => ?_);clear hK Kx
 try simp only [Act.put, List.setIfInBounds_toArray, List.set_cons_zero, List.set_cons_succ]
 refine wpAnyH_take (i := 11) (oi := ⟨some 4, _, _, _, _, _⟩) (v := ?_) rfl (by kernel_rfl) (by kernel_rfl) (by kernel_rfl) (fun _ _ _ h => h) (Or.inl ⟨by rfl, ?_⟩) (by assumption) ?_
 rotate_left
 ·intro w5 hSw
  (try dsimp only at hSw)
  go_simp
  (try with_reducible rfl)
 try simp only [Act.put, List.setIfInBounds_toArray, List.set_cons_zero, List.set_cons_succ]
 refine wpAnyH_done (by kernel_rfl) ?_ _;go_wp2;go_ret;obtain ⟨X', q⟩ := HQ.out
 exact ⟨X', rfl, q⟩
set_option maxRecDepth 100000 in
set_option maxHeartbeats 16000000 in
theorem doAtL (w : World) (K n : Nat) (X : WkX) (wx : World) (h : WK w K X wx) (hn : 1 ≤ n ∧ n ≤ X.L.length) (hc : ∀ x ∈ X.L, chkB x.v = true) (h3 : X.L.length ≤ 3) (h9 : X.r.kind ≠ 9) : Calls Tryz.prog 24 #[.pointer (some ⟨K, 0, none⟩), .agg #[.int .i64 2, .int .i64 (n : Int)]] wx (WkB w K X (stLan X.r (n - 1) (n : Int) X.st)) := by
 have b9 : (X.r.kind == 9) = false := beq_eq_false_iff_ne.2 h9;obtain ⟨i, rfl⟩ : ∃ i, n = i + 1 := ⟨n - 1, by omega⟩;rw [Nat.add_sub_cancel];have hi : i < X.L.length := by omega
 have hsub : IntKind.i64.wrap (((i + 1 : Nat) : Int) - 1) = (i : Int) := by
  have hl := h.ln.siz;rw [IntKind.wrap_i64];omega
 have hiI : (i : Int) < (X.L.length : Int) := by omega
 have hi0 : (0 : Int) ≤ (i : Int) := by omega
 have HCL := hideIt (fun W (hW : WK w K X W) => doLane_is w K i (i + 1) X W hW hi (hc _ (List.getElem_mem hi)) ⟨by omega, by omega⟩);clear hc h3;generalize ((i + 1 : Nat) : Int) = ni at *;clear h9;have HX := hideIt h;have hkb := heap_alloc_new wx (.cells #[.int .i64 2, .int .i64 ni] 24);have HX1 := hideIt (HX.out.keep (below1 wx (.cells #[.int .i64 2, .int .i64 ni] 24)));have hKK := ty_ne hkb HX1.out.box (by decide);have hKK2 := hKK.symm;obtain ⟨⟨d0, d1, d2, -, -, -, -, -, -, -, -, -, -, -, -, -, -, -, -, -, -⟩, df, dz⟩ := at21 HX1.out.box;obtain ⟨⟨b0, b1⟩, -, bz⟩ := at2 hkb;have HC := hideIt (HCL.out (wx.alloc (.cells #[.int .i64 2, .int .i64 ni] 24)).drew (HX1.out.keep (Below.refl _ _).drew));clear h HX hkb hn HCL;unfold WkB at HC;generalize stLan X.r i ni X.st = Z at *;have HCY : Hid (Calls Tryz.prog 52 #[.pointer (some ⟨K, 0, none⟩), .pointer (some ⟨X.gl, i * 5, none⟩), .int .i64 ni] (wx.alloc (.cells #[.int .i64 2, .int .i64 ni] 24)).drew (fun e w' => e = .returned (.int .i64 Z.2) ∧ Hid (∃ X' : WkX, X'.st = Z.1 ∧ X'.fx = X.fx ∧ X'.A.length = X.A.length ∧ X'.L.length = X.L.length ∧ WK w K X' w') ∧ (w'.cell? ⟨K, 1, none⟩ = some (.slice (some ⟨X.gl, 0, none⟩) X.L.length X.cl)))) := by
  refine HC.out.mono ?_;rintro e w' ⟨X', rfl, q1, q2, q3, q4, q5⟩;refine ⟨rfl, hideIt ⟨X', q1, q2, q3, q4, q5⟩, ?_⟩;obtain ⟨⟨k0, k1, -, -, -, -, -, -, -, -, -, -, -, -, -, -, -, -, -, -, -⟩, -, -⟩ := at21 q5.box;unfold WkX.fx at q2;simp only [Prod.mk.injEq] at q2;rw [q4, q2.2.2.2.1, q2.2.2.2.2.1] at k1;exact k1
 clear HC
 go_enter Tryz.func24, Tryz.ntmps24
 go_upto_region 5 with fail
 refine wp_region_held_drew (S := fun W => W.cell? ⟨K, 1, none⟩ = some (.slice (some ⟨X.gl, 0, none⟩) X.L.length X.cl)) (by rfl) (by go_keep) (fun hHeld => ?_);refine wpAnyH_take (i := 0) (oi := ⟨some 25, _, _, _, _, _⟩) (v := ?_) rfl (by kernel_rfl) (by kernel_rfl) (by kernel_rfl) (fun _ _ _ h => h) (Or.inl ⟨by rfl, ?_⟩) (by assumption) ?_
 rotate_left
 ·intro w5 hSw
  (try dsimp only at hSw)
  go_simp
  (try with_reducible rfl)
 try simp only [Act.put, List.setIfInBounds_toArray, List.set_cons_zero, List.set_cons_succ]
 refine wpAnyH_take (i := 1) (oi := ⟨some 26, _, _, _, _, _⟩) (v := ?_) rfl (by kernel_rfl) (by kernel_rfl) (by kernel_rfl) (fun _ _ _ h => h) (Or.inl ⟨by rfl, ?_⟩) (by assumption) ?_
 rotate_left
 ·intro w5 hSw
  (try dsimp only at hSw)
  go_simp
  (try with_reducible rfl)
 try simp only [Act.put, List.setIfInBounds_toArray, List.set_cons_zero, List.set_cons_succ]
 refine wpAnyH_take (i := 2) (oi := ⟨some 27, _, _, _, _, _⟩) (v := ?_) rfl (by kernel_rfl) (by kernel_rfl) (by kernel_rfl) (fun _ _ _ h => h) (Or.inl ⟨by rfl, ?_⟩) (by assumption) ?_
 rotate_left
 ·intro w5 hSw
  (try dsimp only at hSw)
  go_simp
  (try with_reducible rfl)
 try simp only [Act.put, List.setIfInBounds_toArray, List.set_cons_zero, List.set_cons_succ]
 refine wpAnyH_take (i := 3) (oi := ⟨some 28, _, _, _, _, _⟩) (v := ?_) rfl (by kernel_rfl) (by kernel_rfl) (by kernel_rfl) (fun _ _ _ h => h) (Or.inl ⟨by rfl, ?_⟩) (by assumption) ?_
 rotate_left
 ·intro w5 hSw
  (try dsimp only at hSw)
  go_simp
  (try with_reducible rfl)
 try simp only [Act.put, List.setIfInBounds_toArray, List.set_cons_zero, List.set_cons_succ]
 refine wpAnyH_take (i := 4) (oi := ⟨some 29, _, _, _, _, _⟩) (v := ?_) rfl (by kernel_rfl) (by kernel_rfl) (by kernel_rfl) (fun _ _ _ h => h) (Or.inl ⟨by rfl, ?_⟩) (by assumption) ?_
 rotate_left
 ·intro w5 hSw
  (try dsimp only at hSw)
  go_simp
  (try with_reducible rfl)
 try simp only [Act.put, List.setIfInBounds_toArray, List.set_cons_zero, List.set_cons_succ]
 refine wpAnyH_take (i := 5) (oi := ⟨some 30, _, _, _, _, _⟩) (v := ?_) rfl (by kernel_rfl) (by kernel_rfl) (by kernel_rfl) (fun _ _ _ h => h) (Or.inl ⟨by rfl, ?_⟩) (by assumption) ?_
 rotate_left
 ·intro w5 hSw
  (try dsimp only at hSw)
  go_simp
  (try with_reducible rfl)
 try simp only [Act.put, List.setIfInBounds_toArray, List.set_cons_zero, List.set_cons_succ]
 refine wpAnyH_take (i := 6) (oi := ⟨some 31, _, _, _, _, _⟩) (v := ?_) rfl (by kernel_rfl) (by kernel_rfl) (by kernel_rfl) (fun _ _ _ h => h) (Or.inl ⟨by rfl, ?_⟩) (by assumption) ?_
 rotate_left
 ·intro w5 hSw
  (try dsimp only at hSw)
  go_simp
  (try with_reducible rfl)
 try simp only [Act.put, List.setIfInBounds_toArray, List.set_cons_zero, List.set_cons_succ]
 refine wpAnyH_take (i := 10) (oi := ⟨some 35, _, _, _, _, _⟩) (v := ?_) rfl (by kernel_rfl) (by kernel_rfl) (by kernel_rfl) (fun _ _ _ h => h) (Or.inl ⟨by rfl, ?_⟩) (by assumption) ?_
 rotate_left
 ·intro w5 hSw
  (try dsimp only at hSw)
  go_simp
  (try with_reducible rfl)
 try simp only [Act.put, List.setIfInBounds_toArray, List.set_cons_zero, List.set_cons_succ]
 refine wpAnyH_ready (rs := [7, 11]) (by kernel_rfl) (by simp) ?_;refine (AllReadyH.cons (o := ⟨some 32, _, _, _, _, _⟩) rfl (fun Kx hK => ?_) (AllReadyH.cons (o := ⟨some 36, _, _, _, _, _⟩) rfl (fun Kx hK => ?_) AllReadyH.nil))
 ·go_simp;refine hK.out _ _ (by go_keep) (fun hHeld => ?_);clear hK Kx
  try simp only [Act.put, List.setIfInBounds_toArray, List.set_cons_zero, List.set_cons_succ]
  refine wpAnyH_take (i := 8) (oi := ⟨some 33, _, _, _, _, _⟩) (v := ?_) rfl (by kernel_rfl) (by kernel_rfl) (by kernel_rfl) (fun _ _ _ h => h) (Or.inl ⟨by rfl, ?_⟩) (by assumption) ?_
  rotate_left
  ·intro w5 hSw
   (try dsimp only at hSw)
   go_simp
   (try with_reducible rfl)
  try simp only [Act.put, List.setIfInBounds_toArray, List.set_cons_zero, List.set_cons_succ]
  refine wpAnyH_take (i := 9) (oi := ⟨some 34, _, _, _, _, _⟩) (v := ?_) rfl (by kernel_rfl) (by kernel_rfl) (by kernel_rfl) (fun _ _ _ h => h) (Or.inl ⟨by rfl, ?_⟩) (by assumption) ?_
  rotate_left
  ·intro w5 hSw
   (try dsimp only at hSw)
   go_simp
   (try with_reducible rfl)
  try simp only [Act.put, List.setIfInBounds_toArray, List.set_cons_zero, List.set_cons_succ]
  refine wpAnyH_ready (rs := [11]) (by kernel_rfl) (by simp) ?_;refine (AllReadyH.cons (o := ⟨some 36, _, _, _, _, _⟩) rfl (fun Kx hK => ?_) AllReadyH.nil);go_simp;refine hK.out _ _ (by go_keep) (fun hHeld => ?_);clear hK Kx
  try simp only [Act.put, List.setIfInBounds_toArray, List.set_cons_zero, List.set_cons_succ]
  refine wpAnyH_ready (rs := [12]) (by kernel_rfl) (by simp) ?_;refine (AllReadyH.cons (o := ⟨some 37, _, _, _, _, _⟩) rfl (fun Kx hK => ?_) AllReadyH.nil);go_simp
  go_at_call 52
  refine HCY.out.mono ?_;rintro e w5 ⟨rfl, HQ, hH5⟩;refine hK.out _ _ hH5 (fun hHeld => ?_);clear hK Kx
  try simp only [Act.put, List.setIfInBounds_toArray, List.set_cons_zero, List.set_cons_succ]
  refine wpAnyH_take (i := 13) (oi := ⟨some 4, _, _, _, _, _⟩) (v := ?_) rfl (by kernel_rfl) (by kernel_rfl) (by kernel_rfl) (fun _ _ _ h => h) (Or.inl ⟨by rfl, ?_⟩) (by assumption) ?_
  rotate_left
  ·intro w5 hSw
   (try dsimp only at hSw)
   go_simp
   (try with_reducible rfl)
  try simp only [Act.put, List.setIfInBounds_toArray, List.set_cons_zero, List.set_cons_succ]
  refine wpAnyH_done (by kernel_rfl) ?_ _;go_wp2;go_ret;obtain ⟨X', q⟩ := HQ.out
  exact ⟨X', rfl, q⟩
 ·go_simp;refine hK.out _ _ (by go_keep) (fun hHeld => ?_);clear hK Kx
  try simp only [Act.put, List.setIfInBounds_toArray, List.set_cons_zero, List.set_cons_succ]
  refine wpAnyH_ready (rs := [7]) (by kernel_rfl) (by simp) ?_;refine (AllReadyH.cons (o := ⟨some 32, _, _, _, _, _⟩) rfl (fun Kx hK => ?_) AllReadyH.nil);go_simp;refine hK.out _ _ (by go_keep) (fun hHeld => ?_);clear hK Kx
  try simp only [Act.put, List.setIfInBounds_toArray, List.set_cons_zero, List.set_cons_succ]
  refine wpAnyH_take (i := 8) (oi := ⟨some 33, _, _, _, _, _⟩) (v := ?_) rfl (by kernel_rfl) (by kernel_rfl) (by kernel_rfl) (fun _ _ _ h => h) (Or.inl ⟨by rfl, ?_⟩) (by assumption) ?_
  rotate_left
  ·intro w5 hSw
   (try dsimp only at hSw)
   go_simp
   (try with_reducible rfl)
  try simp only [Act.put, List.setIfInBounds_toArray, List.set_cons_zero, List.set_cons_succ]
  refine wpAnyH_take (i := 9) (oi := ⟨some 34, _, _, _, _, _⟩) (v := ?_) rfl (by kernel_rfl) (by kernel_rfl) (by kernel_rfl) (fun _ _ _ h => h) (Or.inl ⟨by rfl, ?_⟩) (by assumption) ?_
  rotate_left
  ·intro w5 hSw
   (try dsimp only at hSw)
   go_simp
   (try with_reducible rfl)
  try simp only [Act.put, List.setIfInBounds_toArray, List.set_cons_zero, List.set_cons_succ]
  refine wpAnyH_ready (rs := [12]) (by kernel_rfl) (by simp) ?_;refine (AllReadyH.cons (o := ⟨some 37, _, _, _, _, _⟩) rfl (fun Kx hK => ?_) AllReadyH.nil);go_simp
  go_at_call 52
  refine HCY.out.mono ?_;rintro e w5 ⟨rfl, HQ, hH5⟩;refine hK.out _ _ hH5 (fun hHeld => ?_);clear hK Kx
  try simp only [Act.put, List.setIfInBounds_toArray, List.set_cons_zero, List.set_cons_succ]
  refine wpAnyH_take (i := 13) (oi := ⟨some 4, _, _, _, _, _⟩) (v := ?_) rfl (by kernel_rfl) (by kernel_rfl) (by kernel_rfl) (fun _ _ _ h => h) (Or.inl ⟨by rfl, ?_⟩) (by assumption) ?_
  rotate_left
  ·intro w5 hSw
   (try dsimp only at hSw)
   go_simp
   (try with_reducible rfl)
  try simp only [Act.put, List.setIfInBounds_toArray, List.set_cons_zero, List.set_cons_succ]
  refine wpAnyH_done (by kernel_rfl) ?_ _;go_wp2;go_ret;obtain ⟨X', q⟩ := HQ.out
  exact ⟨X', rfl, q⟩
theorem doAt_is (w : World) (K : Nat) (k : Int) (n : Nat) (X : WkX) (wx : World) (h : WK w K X wx) (hk : k = 1 ∧ 1 ≤ n ∧ n ≤ X.A.length ∨ k = 2 ∧ 1 ≤ n ∧ n ≤ X.L.length) (hf : Se.fitsB X.r = true) (hc : ∀ x ∈ X.L, chkB x.v = true) (h3 : X.L.length ≤ 3) (h9 : X.r.kind ≠ 9) : Calls Tryz.prog 24 #[.pointer (some ⟨K, 0, none⟩), .agg #[.int .i64 k, .int .i64 (n : Int)]] wx (WkB w K X (stAt X.r (k, (n : Int)) X.st)) := by
 unfold stAt;have e : ((n : Int) - 1).toNat = n - 1 := by omega
 rw [if_neg h9];simp only [e]
 rcases hk with ⟨rfl, hn⟩ | ⟨rfl, hn⟩
 ·rw [if_pos rfl];exact doAtA w K n X wx h hn hf h9
 ·rw [if_neg (by omega)];exact doAtL w K n X wx h hn hc h3 h9
set_option maxRecDepth 100000 in
set_option maxHeartbeats 16000000 in
theorem doAt9 (w : World) (K : Nat) (k n : Int) (X : WkX) (wx : World) (h : WK w K X wx) (h9 : X.r.kind = 9) : Calls Tryz.prog 24 #[.pointer (some ⟨K, 0, none⟩), .agg #[.int .i64 k, .int .i64 n]] wx (WkB w K X (stAt X.r (k, n) X.st)) := by
 have hz : stAt X.r (k, n) X.st = (X.st, 0) := by unfold stAt; rw [if_pos h9]
 rw [hz];clear hz;have HX1 := hideIt (h.keep (below1 wx (.cells #[.int .i64 k, .int .i64 n] 24)));obtain ⟨⟨-, -, d2, -, -, -, -, -, -, -, -, -, -, -, -, -, -, -, -, -, -⟩, df, dz⟩ := at21 HX1.out.box;rw [h9] at d2;clear h
 go_enter Tryz.func24, Tryz.ntmps24
 go_wp2;go_ret
 exact ⟨X, rfl, rfl, rfl, rfl, rfl, HX1.out⟩
end Go.Proofs.YtiinigifjdpicaaGreatDoor
