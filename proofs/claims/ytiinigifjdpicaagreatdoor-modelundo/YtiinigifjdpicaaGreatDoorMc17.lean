/- Texts of my own, laid together. -/
import Derived.Test.YtiinigifjdpicaaGreatDoorMc16
import Derived.Test.YtiinigifjdpicaaGreatDoorMc13
import Derived.Test.YtiinigifjdpicaaGreatDoorMc14
namespace Go.Proofs.YtiinigifjdpicaaGreatDoor
open Go.RowKit
set_option linter.all false
theorem doLane_is (w : World) (K i q : Nat) (X : WkX) (wx : World) (h : WK w K X wx) (hi : i < X.L.length) (hc : chkB (X.L[i]).v = true) (hq : 1 ≤ q ∧ q ≤ 3) : Calls Tryz.prog 52 #[.pointer (some ⟨K, 0, none⟩), .pointer (some ⟨X.gl, i * 5, none⟩), .int .i64 (q : Int)] wx (WkB w K X (stLan X.r i q X.st)) := by
 unfold stLan
 by_cases h3 : X.r.kind = 3
 ·rw [if_pos h3];exact doLn3 w K i q X wx h hi h3
 ·rw [if_neg h3]
  by_cases h4 : X.r.kind = 4
  ·rw [if_pos h4];exact doLn4 w K i q X wx h hi h4
  ·rw [if_neg h4]
   by_cases h5 : X.r.kind = 5
   ·rw [if_pos h5];exact doLn5 w K i q X wx h hi h5
   ·rw [if_neg h5]
    by_cases h6 : X.r.kind = 6
    ·rw [if_pos h6];exact doLn6 w K i q X wx h hi h6
    ·rw [if_neg h6]
     by_cases h7 : X.r.kind = 7
     ·rw [if_pos h7];exact doLn7 w K i q X wx h hi h7 hc hq
     ·rw [if_neg h7];exact doLnO w K i q X wx h hi h3 h4 h5 h6 h7
set_option maxRecDepth 100000 in
set_option maxHeartbeats 16000000 in
theorem doAtA (w : World) (K n : Nat) (X : WkX) (wx : World) (h : WK w K X wx) (hn : 1 ≤ n ∧ n ≤ X.A.length) (hf : Se.fitsB X.r = true) (h9 : X.r.kind ≠ 9) : Calls Tryz.prog 24 #[.pointer (some ⟨K, 0, none⟩), .agg #[.int .i64 1, .int .i64 (n : Int)]] wx (WkB w K X (stAcc X.r (n - 1) X.st)) := by
 have b9 : (X.r.kind == 9) = false := beq_eq_false_iff_ne.2 h9;obtain ⟨i, rfl⟩ : ∃ i, n = i + 1 := ⟨n - 1, by omega⟩;rw [Nat.add_sub_cancel];have hi : i < X.A.length := by omega
 have hsub : IntKind.i64.wrap (((i + 1 : Nat) : Int) - 1) = (i : Int) := by
  have hl := h.ac.siz;rw [IntKind.wrap_i64];omega
 have hiI : (i : Int) < (X.A.length : Int) := by omega
 have hi0 : (0 : Int) ≤ (i : Int) := by omega
 generalize ((i + 1 : Nat) : Int) = ni at *;clear h9;have HX := hideIt h;have hkb := heap_alloc_new wx (.cells #[.int .i64 1, .int .i64 ni] 24);have HX1 := hideIt (HX.out.keep (below1 wx (.cells #[.int .i64 1, .int .i64 ni] 24)));have hKK := ty_ne hkb HX1.out.box (by decide);have hKK2 := hKK.symm;obtain ⟨⟨d0, d1, d2, -, -, -, -, -, -, -, -, -, -, -, -, -, -, -, -, -, -⟩, df, dz⟩ := at21 HX1.out.box;obtain ⟨⟨b0, b1⟩, -, bz⟩ := at2 hkb;have HC := hideIt (doAcc_is w K i X (wx.alloc (.cells #[.int .i64 1, .int .i64 ni] 24)).drew (HX1.out.keep (Below.refl _ _).drew) hi hf);clear h HX hkb hn hf;unfold WkB at HC;generalize stAcc X.r i X.st = Z at *;have HCY : Hid (Calls Tryz.prog 51 #[.pointer (some ⟨K, 0, none⟩), .pointer (some ⟨X.ga, i * 2, none⟩)] (wx.alloc (.cells #[.int .i64 1, .int .i64 ni] 24)).drew (fun e w' => e = .returned (.int .i64 Z.2) ∧ Hid (∃ X' : WkX, X'.st = Z.1 ∧ X'.fx = X.fx ∧ X'.A.length = X.A.length ∧ X'.L.length = X.L.length ∧ WK w K X' w') ∧ (w'.cell? ⟨K, 0, none⟩ = some (.slice (some ⟨X.ga, 0, none⟩) X.A.length X.ca)))) := by
  refine HC.out.mono ?_;rintro e w' ⟨X', rfl, q1, q2, q3, q4, q5⟩;refine ⟨rfl, hideIt ⟨X', q1, q2, q3, q4, q5⟩, ?_⟩;obtain ⟨⟨k0, k1, -, -, -, -, -, -, -, -, -, -, -, -, -, -, -, -, -, -, -⟩, -, -⟩ := at21 q5.box;unfold WkX.fx at q2;simp only [Prod.mk.injEq] at q2;rw [q3, q2.2.1, q2.2.2.1] at k0;exact k0
 clear HC
 go_enter Tryz.func24, Tryz.ntmps24
 go_upto_region 4 with fail
 refine wp_region_held_drew (S := fun W => W.cell? ⟨K, 0, none⟩ = some (.slice (some ⟨X.ga, 0, none⟩) X.A.length X.ca)) (by rfl) (by go_keep) (fun hHeld => ?_);refine wpAnyH_take (i := 0) (oi := ⟨some 14, _, _, _, _, _⟩) (v := ?_) rfl (by kernel_rfl) (by kernel_rfl) (by kernel_rfl) (fun _ _ _ h => h) (Or.inl ⟨by rfl, ?_⟩) (by assumption) ?_
 rotate_left
 ·intro w5 hSw
  (try dsimp only at hSw)
  go_simp
  (try with_reducible rfl)
 try simp only [Act.put, List.setIfInBounds_toArray, List.set_cons_zero, List.set_cons_succ]
 refine wpAnyH_take (i := 1) (oi := ⟨some 15, _, _, _, _, _⟩) (v := ?_) rfl (by kernel_rfl) (by kernel_rfl) (by kernel_rfl) (fun _ _ _ h => h) (Or.inl ⟨by rfl, ?_⟩) (by assumption) ?_
 rotate_left
 ·intro w5 hSw
  (try dsimp only at hSw)
  go_simp
  (try with_reducible rfl)
 try simp only [Act.put, List.setIfInBounds_toArray, List.set_cons_zero, List.set_cons_succ]
 refine wpAnyH_take (i := 2) (oi := ⟨some 16, _, _, _, _, _⟩) (v := ?_) rfl (by kernel_rfl) (by kernel_rfl) (by kernel_rfl) (fun _ _ _ h => h) (Or.inl ⟨by rfl, ?_⟩) (by assumption) ?_
 rotate_left
 ·intro w5 hSw
  (try dsimp only at hSw)
  go_simp
  (try with_reducible rfl)
 try simp only [Act.put, List.setIfInBounds_toArray, List.set_cons_zero, List.set_cons_succ]
 refine wpAnyH_take (i := 3) (oi := ⟨some 17, _, _, _, _, _⟩) (v := ?_) rfl (by kernel_rfl) (by kernel_rfl) (by kernel_rfl) (fun _ _ _ h => h) (Or.inl ⟨by rfl, ?_⟩) (by assumption) ?_
 rotate_left
 ·intro w5 hSw
  (try dsimp only at hSw)
  go_simp
  (try with_reducible rfl)
 try simp only [Act.put, List.setIfInBounds_toArray, List.set_cons_zero, List.set_cons_succ]
 refine wpAnyH_take (i := 4) (oi := ⟨some 18, _, _, _, _, _⟩) (v := ?_) rfl (by kernel_rfl) (by kernel_rfl) (by kernel_rfl) (fun _ _ _ h => h) (Or.inl ⟨by rfl, ?_⟩) (by assumption) ?_
 rotate_left
 ·intro w5 hSw
  (try dsimp only at hSw)
  go_simp
  (try with_reducible rfl)
 try simp only [Act.put, List.setIfInBounds_toArray, List.set_cons_zero, List.set_cons_succ]
 refine wpAnyH_take (i := 5) (oi := ⟨some 19, _, _, _, _, _⟩) (v := ?_) rfl (by kernel_rfl) (by kernel_rfl) (by kernel_rfl) (fun _ _ _ h => h) (Or.inl ⟨by rfl, ?_⟩) (by assumption) ?_
 rotate_left
 ·intro w5 hSw
  (try dsimp only at hSw)
  go_simp
  (try with_reducible rfl)
 try simp only [Act.put, List.setIfInBounds_toArray, List.set_cons_zero, List.set_cons_succ]
 refine wpAnyH_take (i := 6) (oi := ⟨some 20, _, _, _, _, _⟩) (v := ?_) rfl (by kernel_rfl) (by kernel_rfl) (by kernel_rfl) (fun _ _ _ h => h) (Or.inl ⟨by rfl, ?_⟩) (by assumption) ?_
 rotate_left
 ·intro w5 hSw
  (try dsimp only at hSw)
  go_simp
  (try with_reducible rfl)
 try simp only [Act.put, List.setIfInBounds_toArray, List.set_cons_zero, List.set_cons_succ]
 refine wpAnyH_ready (rs := [7]) (by kernel_rfl) (by simp) ?_;refine (AllReadyH.cons (o := ⟨some 21, _, _, _, _, _⟩) rfl (fun Kx hK => ?_) AllReadyH.nil);go_simp;refine hK.out _ _ (by go_keep) (fun hHeld => ?_);clear hK Kx
 try simp only [Act.put, List.setIfInBounds_toArray, List.set_cons_zero, List.set_cons_succ]
 refine wpAnyH_take (i := 8) (oi := ⟨some 22, _, _, _, _, _⟩) (v := ?_) rfl (by kernel_rfl) (by kernel_rfl) (by kernel_rfl) (fun _ _ _ h => h) (Or.inl ⟨by rfl, ?_⟩) (by assumption) ?_
 rotate_left
 ·intro w5 hSw
  (try dsimp only at hSw)
  go_simp
  (try with_reducible rfl)
 try simp only [Act.put, List.setIfInBounds_toArray, List.set_cons_zero, List.set_cons_succ]
 refine wpAnyH_take (i := 9) (oi := ⟨some 23, _, _, _, _, _⟩) (v := ?_) rfl (by kernel_rfl) (by kernel_rfl) (by kernel_rfl) (fun _ _ _ h => h) (Or.inl ⟨by rfl, ?_⟩) (by assumption) ?_
 rotate_left
 ·intro w5 hSw
  (try dsimp only at hSw)
  go_simp
  (try with_reducible rfl)
 try simp only [Act.put, List.setIfInBounds_toArray, List.set_cons_zero, List.set_cons_succ]
 refine wpAnyH_ready (rs := [10]) (by kernel_rfl) (by simp) ?_;refine (AllReadyH.cons (o := ⟨some 24, _, _, _, _, _⟩) rfl (fun Kx hK => ?_) AllReadyH.nil);go_simp
 go_at_call 51
 refine HCY.out.mono ?_;rintro e w5 ⟨rfl, HQ, hH5⟩;refine hK.out _ _ hH5 (fun hHeld => ?_);clear hK Kx
 try simp only [Act.put, List.setIfInBounds_toArray, List.set_cons_zero, List.set_cons_succ]
 refine wpAnyH_take (i := 11) (oi := ⟨some 4, _, _, _, _, _⟩) (v := ?_) rfl (by kernel_rfl) (by kernel_rfl) (by kernel_rfl) (fun _ _ _ h => h) (Or.inl ⟨by rfl, ?_⟩) (by assumption) ?_
 rotate_left
 ·intro w5 hSw
  (try dsimp only at hSw)
  go_simp
  (try with_reducible rfl)
 try simp only [Act.put, List.setIfInBounds_toArray, List.set_cons_zero, List.set_cons_succ]
 refine wpAnyH_done (by kernel_rfl) ?_ _;go_wp2;go_ret;obtain ⟨X', q⟩ := HQ.out
 exact ⟨X', rfl, q⟩
set_option maxRecDepth 100000 in
set_option maxHeartbeats 16000000 in
theorem doAtL (w : World) (K n : Nat) (X : WkX) (wx : World) (h : WK w K X wx) (hn : 1 ≤ n ∧ n ≤ X.L.length) (hc : ∀ x ∈ X.L, chkB x.v = true) (h3 : X.L.length ≤ 3) (h9 : X.r.kind ≠ 9) : Calls Tryz.prog 24 #[.pointer (some ⟨K, 0, none⟩), .agg #[.int .i64 2, .int .i64 (n : Int)]] wx (WkB w K X (stLan X.r (n - 1) (n : Int) X.st)) := by
 have b9 : (X.r.kind == 9) = false := beq_eq_false_iff_ne.2 h9;obtain ⟨i, rfl⟩ : ∃ i, n = i + 1 := ⟨n - 1, by omega⟩;rw [Nat.add_sub_cancel];have hi : i < X.L.length := by omega
 have hsub : IntKind.i64.wrap (((i + 1 : Nat) : Int) - 1) = (i : Int) := by
  have hl := h.ln.siz;rw [IntKind.wrap_i64];omega
 have hiI : (i : Int) < (X.L.length : Int) := by omega
 have hi0 : (0 : Int) ≤ (i : Int) := by omega
 have HCL := hideIt (fun W (hW : WK w K X W) => doLane_is w K i (i + 1) X W hW hi (hc _ (List.getElem_mem hi)) ⟨by omega, by omega⟩);clear hc h3;generalize ((i + 1 : Nat) : Int) = ni at *;clear h9;have HX := hideIt h;have hkb := heap_alloc_new wx (.cells #[.int .i64 2, .int .i64 ni] 24);have HX1 := hideIt (HX.out.keep (below1 wx (.cells #[.int .i64 2, .int .i64 ni] 24)));have hKK := ty_ne hkb HX1.out.box (by decide);have hKK2 := hKK.symm;obtain ⟨⟨d0, d1, d2, -, -, -, -, -, -, -, -, -, -, -, -, -, -, -, -, -, -⟩, df, dz⟩ := at21 HX1.out.box;obtain ⟨⟨b0, b1⟩, -, bz⟩ := at2 hkb;have HC := hideIt (HCL.out (wx.alloc (.cells #[.int .i64 2, .int .i64 ni] 24)).drew (HX1.out.keep (Below.refl _ _).drew));clear h HX hkb hn HCL;unfold WkB at HC;generalize stLan X.r i ni X.st = Z at *;have HCY : Hid (Calls Tryz.prog 52 #[.pointer (some ⟨K, 0, none⟩), .pointer (some ⟨X.gl, i * 5, none⟩), .int .i64 ni] (wx.alloc (.cells #[.int .i64 2, .int .i64 ni] 24)).drew (fun e w' => e = .returned (.int .i64 Z.2) ∧ Hid (∃ X' : WkX, X'.st = Z.1 ∧ X'.fx = X.fx ∧ X'.A.length = X.A.length ∧ X'.L.length = X.L.length ∧ WK w K X' w') ∧ (w'.cell? ⟨K, 1, none⟩ = some (.slice (some ⟨X.gl, 0, none⟩) X.L.length X.cl)))) := by
  refine HC.out.mono ?_;rintro e w' ⟨X', rfl, q1, q2, q3, q4, q5⟩;refine ⟨rfl, hideIt ⟨X', q1, q2, q3, q4, q5⟩, ?_⟩;obtain ⟨⟨k0, k1, -, -, -, -, -, -, -, -, -, -, -, -, -, -, -, -, -, -, -⟩, -, -⟩ := at21 q5.box;unfold WkX.fx at q2;simp only [Prod.mk.injEq] at q2;rw [q4, q2.2.2.2.1, q2.2.2.2.2.1] at k1;exact k1
 clear HC
 go_enter Tryz.func24, Tryz.ntmps24
 go_upto_region 5 with fail
 refine wp_region_held_drew (S := fun W => W.cell? ⟨K, 1, none⟩ = some (.slice (some ⟨X.gl, 0, none⟩) X.L.length X.cl)) (by rfl) (by go_keep) (fun hHeld => ?_);refine wpAnyH_take (i := 0) (oi := ⟨some 25, _, _, _, _, _⟩) (v := ?_) rfl (by kernel_rfl) (by kernel_rfl) (by kernel_rfl) (fun _ _ _ h => h) (Or.inl ⟨by rfl, ?_⟩) (by assumption) ?_
 rotate_left
 ·intro w5 hSw
  (try dsimp only at hSw)
  go_simp
  (try with_reducible rfl)
 try simp only [Act.put, List.setIfInBounds_toArray, List.set_cons_zero, List.set_cons_succ]
 refine wpAnyH_take (i := 1) (oi := ⟨some 26, _, _, _, _, _⟩) (v := ?_) rfl (by kernel_rfl) (by kernel_rfl) (by kernel_rfl) (fun _ _ _ h => h) (Or.inl ⟨by rfl, ?_⟩) (by assumption) ?_
 rotate_left
 ·intro w5 hSw
  (try dsimp only at hSw)
  go_simp
  (try with_reducible rfl)
 try simp only [Act.put, List.setIfInBounds_toArray, List.set_cons_zero, List.set_cons_succ]
 refine wpAnyH_take (i := 2) (oi := ⟨some 27, _, _, _, _, _⟩) (v := ?_) rfl (by kernel_rfl) (by kernel_rfl) (by kernel_rfl) (fun _ _ _ h => h) (Or.inl ⟨by rfl, ?_⟩) (by assumption) ?_
 rotate_left
 ·intro w5 hSw
  (try dsimp only at hSw)
  go_simp
  (try with_reducible rfl)
 try simp only [Act.put, List.setIfInBounds_toArray, List.set_cons_zero, List.set_cons_succ]
 refine wpAnyH_take (i := 3) (oi := ⟨some 28, _, _, _, _, _⟩) (v := ?_) rfl (by kernel_rfl) (by kernel_rfl) (by kernel_rfl) (fun _ _ _ h => h) (Or.inl ⟨by rfl, ?_⟩) (by assumption) ?_
 rotate_left
 ·intro w5 hSw
  (try dsimp only at hSw)
  go_simp
  (try with_reducible rfl)
 try simp only [Act.put, List.setIfInBounds_toArray, List.set_cons_zero, List.set_cons_succ]
 refine wpAnyH_take (i := 4) (oi := ⟨some 29, _, _, _, _, _⟩) (v := ?_) rfl (by kernel_rfl) (by kernel_rfl) (by kernel_rfl) (fun _ _ _ h => h) (Or.inl ⟨by rfl, ?_⟩) (by assumption) ?_
 rotate_left
 ·intro w5 hSw
  (try dsimp only at hSw)
  go_simp
  (try with_reducible rfl)
 try simp only [Act.put, List.setIfInBounds_toArray, List.set_cons_zero, List.set_cons_succ]
 refine wpAnyH_take (i := 5) (oi := ⟨some 30, _, _, _, _, _⟩) (v := ?_) rfl (by kernel_rfl) (by kernel_rfl) (by kernel_rfl) (fun _ _ _ h => h) (Or.inl ⟨by rfl, ?_⟩) (by assumption) ?_
 rotate_left
 ·intro w5 hSw
  (try dsimp only at hSw)
  go_simp
  (try with_reducible rfl)
 try simp only [Act.put, List.setIfInBounds_toArray, List.set_cons_zero, List.set_cons_succ]
 refine wpAnyH_take (i := 6) (oi := ⟨some 31, _, _, _, _, _⟩) (v := ?_) rfl (by kernel_rfl) (by kernel_rfl) (by kernel_rfl) (fun _ _ _ h => h) (Or.inl ⟨by rfl, ?_⟩) (by assumption) ?_
 rotate_left
 ·intro w5 hSw
  (try dsimp only at hSw)
  go_simp
  (try with_reducible rfl)
 try simp only [Act.put, List.setIfInBounds_toArray, List.set_cons_zero, List.set_cons_succ]
 refine wpAnyH_take (i := 10) (oi := ⟨some 35, _, _, _, _, _⟩) (v := ?_) rfl (by kernel_rfl) (by kernel_rfl) (by kernel_rfl) (fun _ _ _ h => h) (Or.inl ⟨by rfl, ?_⟩) (by assumption) ?_
 rotate_left
 ·intro w5 hSw
  (try dsimp only at hSw)
  go_simp
  (try with_reducible rfl)
 try simp only [Act.put, List.setIfInBounds_toArray, List.set_cons_zero, List.set_cons_succ]
 refine wpAnyH_ready (rs := [7, 11]) (by kernel_rfl) (by simp) ?_;refine (AllReadyH.cons (o := ⟨some 32, _, _, _, _, _⟩) rfl (fun Kx hK => ?_) (AllReadyH.cons (o := ⟨some 36, _, _, _, _, _⟩) rfl (fun Kx hK => ?_) AllReadyH.nil))
 ·go_simp;refine hK.out _ _ (by go_keep) (fun hHeld => ?_);clear hK Kx
  try simp only [Act.put, List.setIfInBounds_toArray, List.set_cons_zero, List.set_cons_succ]
  refine wpAnyH_take (i := 8) (oi := ⟨some 33, _, _, _, _, _⟩) (v := ?_) rfl (by kernel_rfl) (by kernel_rfl) (by kernel_rfl) (fun _ _ _ h => h) (Or.inl ⟨by rfl, ?_⟩) (by assumption) ?_
  rotate_left
  ·intro w5 hSw
   (try dsimp only at hSw)
   go_simp
   (try with_reducible rfl)
  try simp only [Act.put, List.setIfInBounds_toArray, List.set_cons_zero, List.set_cons_succ]
  refine wpAnyH_take (i := 9) (oi := ⟨some 34, _, _, _, _, _⟩) (v := ?_) rfl (by kernel_rfl) (by kernel_rfl) (by kernel_rfl) (fun _ _ _ h => h) (Or.inl ⟨by rfl, ?_⟩) (by assumption) ?_
  rotate_left
  ·intro w5 hSw
   (try dsimp only at hSw)
   go_simp
   (try with_reducible rfl)
  try simp only [Act.put, List.setIfInBounds_toArray, List.set_cons_zero, List.set_cons_succ]
  refine wpAnyH_ready (rs := [11]) (by kernel_rfl) (by simp) ?_;refine (AllReadyH.cons (o := ⟨some 36, _, _, _, _, _⟩) rfl (fun Kx hK => ?_) AllReadyH.nil);go_simp;refine hK.out _ _ (by go_keep) (fun hHeld => ?_);clear hK Kx
  try simp only [Act.put, List.setIfInBounds_toArray, List.set_cons_zero, List.set_cons_succ]
  refine wpAnyH_ready (rs := [12]) (by kernel_rfl) (by simp) ?_;refine (AllReadyH.cons (o := ⟨some 37, _, _, _, _, _⟩) rfl (fun Kx hK => ?_) AllReadyH.nil);go_simp
  go_at_call 52
  refine HCY.out.mono ?_;rintro e w5 ⟨rfl, HQ, hH5⟩;refine hK.out _ _ hH5 (fun hHeld => ?_);clear hK Kx
  try simp only [Act.put, List.setIfInBounds_toArray, List.set_cons_zero, List.set_cons_succ]
  refine wpAnyH_take (i := 13) (oi := ⟨some 4, _, _, _, _, _⟩) (v := ?_) rfl (by kernel_rfl) (by kernel_rfl) (by kernel_rfl) (fun _ _ _ h => h) (Or.inl ⟨by rfl, ?_⟩) (by assumption) ?_
  rotate_left
  ·intro w5 hSw
   (try dsimp only at hSw)
   go_simp
   (try with_reducible rfl)
  try simp only [Act.put, List.setIfInBounds_toArray, List.set_cons_zero, List.set_cons_succ]
  refine wpAnyH_done (by kernel_rfl) ?_ _;go_wp2;go_ret;obtain ⟨X', q⟩ := HQ.out
  exact ⟨X', rfl, q⟩
 ·go_simp;refine hK.out _ _ (by go_keep) (fun hHeld => ?_);clear hK Kx
  try simp only [Act.put, List.setIfInBounds_toArray, List.set_cons_zero, List.set_cons_succ]
  refine wpAnyH_ready (rs := [7]) (by kernel_rfl) (by simp) ?_;refine (AllReadyH.cons (o := ⟨some 32, _, _, _, _, _⟩) rfl (fun Kx hK => ?_) AllReadyH.nil);go_simp;refine hK.out _ _ (by go_keep) (fun hHeld => ?_);clear hK Kx
  try simp only [Act.put, List.setIfInBounds_toArray, List.set_cons_zero, List.set_cons_succ]
  refine wpAnyH_take (i := 8) (oi := ⟨some 33, _, _, _, _, _⟩) (v := ?_) rfl (by kernel_rfl) (by kernel_rfl) (by kernel_rfl) (fun _ _ _ h => h) (Or.inl ⟨by rfl, ?_⟩) (by assumption) ?_
  rotate_left
  ·intro w5 hSw
   (try dsimp only at hSw)
   go_simp
   (try with_reducible rfl)
  try simp only [Act.put, List.setIfInBounds_toArray, List.set_cons_zero, List.set_cons_succ]
  refine wpAnyH_take (i := 9) (oi := ⟨some 34, _, _, _, _, _⟩) (v := ?_) rfl (by kernel_rfl) (by kernel_rfl) (by kernel_rfl) (fun _ _ _ h => h) (Or.inl ⟨by rfl, ?_⟩) (by assumption) ?_
  rotate_left
  ·intro w5 hSw
   (try dsimp only at hSw)
   go_simp
   (try with_reducible rfl)
  try simp only [Act.put, List.setIfInBounds_toArray, List.set_cons_zero, List.set_cons_succ]
  refine wpAnyH_ready (rs := [12]) (by kernel_rfl) (by simp) ?_;refine (AllReadyH.cons (o := ⟨some 37, _, _, _, _, _⟩) rfl (fun Kx hK => ?_) AllReadyH.nil);go_simp
  go_at_call 52
  refine HCY.out.mono ?_;rintro e w5 ⟨rfl, HQ, hH5⟩;refine hK.out _ _ hH5 (fun hHeld => ?_);clear hK Kx
  try simp only [Act.put, List.setIfInBounds_toArray, List.set_cons_zero, List.set_cons_succ]
  refine wpAnyH_take (i := 13) (oi := ⟨some 4, _, _, _, _, _⟩) (v := ?_) rfl (by kernel_rfl) (by kernel_rfl) (by kernel_rfl) (fun _ _ _ h => h) (Or.inl ⟨by rfl, ?_⟩) (by assumption) ?_
  rotate_left
  ·intro w5 hSw
   (try dsimp only at hSw)
   go_simp
   (try with_reducible rfl)
  try simp only [Act.put, List.setIfInBounds_toArray, List.set_cons_zero, List.set_cons_succ]
  refine wpAnyH_done (by kernel_rfl) ?_ _;go_wp2;go_ret;obtain ⟨X', q⟩ := HQ.out
  exact ⟨X', rfl, q⟩
theorem doAt_is (w : World) (K : Nat) (k : Int) (n : Nat) (X : WkX) (wx : World) (h : WK w K X wx) (hk : k = 1 ∧ 1 ≤ n ∧ n ≤ X.A.length ∨ k = 2 ∧ 1 ≤ n ∧ n ≤ X.L.length) (hf : Se.fitsB X.r = true) (hc : ∀ x ∈ X.L, chkB x.v = true) (h3 : X.L.length ≤ 3) (h9 : X.r.kind ≠ 9) : Calls Tryz.prog 24 #[.pointer (some ⟨K, 0, none⟩), .agg #[.int .i64 k, .int .i64 (n : Int)]] wx (WkB w K X (stAt X.r (k, (n : Int)) X.st)) := by
 unfold stAt;have e : ((n : Int) - 1).toNat = n - 1 := by omega
 rw [if_neg h9];simp only [e]
 rcases hk with ⟨rfl, hn⟩ | ⟨rfl, hn⟩
 ·rw [if_pos rfl];exact doAtA w K n X wx h hn hf h9
 ·rw [if_neg (by omega)];exact doAtL w K n X wx h hn hc h3 h9
set_option maxRecDepth 100000 in
set_option maxHeartbeats 16000000 in
theorem doAt9 (w : World) (K : Nat) (k n : Int) (X : WkX) (wx : World) (h : WK w K X wx) (h9 : X.r.kind = 9) : Calls Tryz.prog 24 #[.pointer (some ⟨K, 0, none⟩), .agg #[.int .i64 k, .int .i64 n]] wx (WkB w K X (stAt X.r (k, n) X.st)) := by
 have hz : stAt X.r (k, n) X.st = (X.st, 0) := by unfold stAt; rw [if_pos h9]
 rw [hz];clear hz;have HX1 := hideIt (h.keep (below1 wx (.cells #[.int .i64 k, .int .i64 n] 24)));obtain ⟨⟨-, -, d2, -, -, -, -, -, -, -, -, -, -, -, -, -, -, -, -, -, -⟩, df, dz⟩ := at21 HX1.out.box;rw [h9] at d2;clear h
 go_enter Tryz.func24, Tryz.ntmps24
 go_wp2;go_ret
 exact ⟨X, rfl, rfl, rfl, rfl, rfl, HX1.out⟩
theorem all_set {α : Type} {p : α → Bool} {l : List α} {i : Nat} {x : α} (h : ∀ y ∈ l, p y = true) (hx : p x = true) : ∀ y ∈ l.set i x, p y = true := by
 intro y hy
 rcases List.mem_or_eq_of_mem_set hy with hy | rfl
 ·exact h y hy
 ·exact hx
theorem lanD_mem {S : StV} {i : Nat} (hi : i < S.l.length) : lanD S i ∈ S.l := by
 unfold lanD;rw [List.getD_eq_getElem?_getD, List.getElem?_eq_getElem hi];exact List.getElem_mem hi
theorem accD_mem {S : StV} {i : Nat} (hi : i < S.a.length) : accD S i ∈ S.a := by
 unfold accD;rw [List.getD_eq_getElem?_getD, List.getElem?_eq_getElem hi];exact List.getElem_mem hi
theorem stLan_a (r : ReqV) (i : Nat) (q : Int) (S : StV) : (stLan r i q S).1.a = S.a := by
 unfold stLan
 repeat' split
 all_goals rfl
theorem stAcc_l (r : ReqV) (i : Nat) (S : StV) : (stAcc r i S).1.l = S.l := by
 unfold stAcc
 repeat' split
 all_goals rfl
theorem stLan_chk {r : ReqV} {i : Nat} {q : Int} {S : StV} (h : ∀ y ∈ S.l, chkB y = true) (h0 : (stLan r i q S).2 = 0) : ∀ y ∈ (stLan r i q S).1.l, chkB y = true := by
 unfold stLan at h0 ⊢
 by_cases h3 : r.kind = 3
 ·rw [if_pos h3] at h0 ⊢;exact all_set h (placeL_may h0)
 ·rw [if_neg h3] at h0 ⊢
  by_cases h4 : r.kind = 4
  ·rw [if_pos h4] at h0 ⊢;exact all_set h (canR_may h0)
  ·rw [if_neg h4] at h0 ⊢
   by_cases h5 : r.kind = 5
   ·rw [if_pos h5] at h0 ⊢;exact all_set h (cal_may h0).2.2.1
   ·rw [if_neg h5] at h0 ⊢
    by_cases h6 : r.kind = 6
    ·rw [if_pos h6] at h0 ⊢;exact all_set h (unc_may h0).2.2.1
    ·rw [if_neg h6] at h0 ⊢
     by_cases h7 : r.kind = 7
     ·rw [if_pos h7] at h0 ⊢
      split
      ·exact h
      ·rename_i hn
       simp only [Bool.or_eq_true, not_or, decide_eq_true_eq, Decidable.not_not] at hn;exact all_set h (tak_may hn.1).2.2.2
     ·rw [if_neg h7];exact h
theorem stAt_chk {r : ReqV} {k : Int × Int} {S : StV} (h : ∀ y ∈ S.l, chkB y = true) (h0 : (stAt r k S).2 = 0) : ∀ y ∈ (stAt r k S).1.l, chkB y = true := by
 unfold stAt at h0 ⊢
 split
 ·exact h
 ·rename_i h9
  rw [if_neg h9] at h0
  split
  ·rw [stAcc_l];exact h
  ·rename_i hk
   rw [if_neg hk] at h0;exact stLan_chk h h0
theorem runT_cons (r : ReqV) (k : Int × Int) (ks : List (Int × Int)) (S : StV) : runT r (k :: ks) S = if (stAt r k S).2 = 0 then runT r ks (stAt r k S).1 else stAt r k S := rfl
theorem runT_step (r : ReqV) {L : List (Int × Int)} {t : Nat} (S : StV) (h : t < L.length) : runT r (L.drop t) S = if (stAt r L[t] S).2 = 0 then runT r (L.drop (t + 1)) (stAt r L[t] S).1 else stAt r L[t] S := by
 rw [List.drop_eq_getElem_cons h]
 rfl
theorem tur_ok {r : ReqV} (hf : Se.fitsB r = true) (h9 : r.kind ≠ 9) : (turL r).length ≤ 4 ∧ ∀ k ∈ turL r, ∃ n : Nat, k.2 = n ∧ (k.1 = 1 ∧ 1 ≤ n ∧ n ≤ 8 ∨ k.1 = 2 ∧ 1 ≤ n ∧ n ≤ 3) := by
 have hk := Se.fits_kind hf;have hA : ∀ a : Int, 1 ≤ a ∧ a ≤ 8 → ∃ n : Nat, a = n ∧ (1 ≤ n ∧ n ≤ 8) := fun a h => ⟨a.toNat, by omega, by omega⟩
 have hL : ∀ a : Int, 1 ≤ a ∧ a ≤ 3 → ∃ n : Nat, a = n ∧ (1 ≤ n ∧ n ≤ 3) := fun a h => ⟨a.toNat, by omega, by omega⟩
 unfold turL
 rcases (by omega : r.kind = 1 ∨ r.kind = 2 ∨ r.kind = 3 ∨ r.kind = 4 ∨ r.kind = 5 ∨ r.kind = 6 ∨ r.kind = 7 ∨ r.kind = 8) with h | h | h | h | h | h | h | h
 ·obtain ⟨n, e, hn⟩ := hA _ ((Se.fitF1 h).1 hf).1;rw [if_neg (by omega), Se.keysK1 h hf];refine ⟨by simp, fun k hk => ?_⟩;simp only [List.mem_singleton] at hk
  exact ⟨n, by rw [hk]; exact e, .inl ⟨by rw [hk], hn⟩⟩
 ·obtain ⟨n, e, hn⟩ := hA _ ((Se.fitF2 h).1 hf).1;rw [if_neg (by omega), Se.keysK2 h hf];refine ⟨by simp, fun k hk => ?_⟩;simp only [List.mem_singleton] at hk
  exact ⟨n, by rw [hk]; exact e, .inl ⟨by rw [hk], hn⟩⟩
 ·obtain ⟨n, e, hn⟩ := hA _ ((Se.fitF3 h).1 hf).1;obtain ⟨m, f, hm⟩ := hL _ ((Se.fitF3 h).1 hf).2.1;rw [if_neg (by omega), Se.keysK3 h hf];refine ⟨by simp, fun k hk => ?_⟩;simp only [List.mem_cons, List.not_mem_nil, or_false] at hk
  rcases hk with hk | hk
  ·exact ⟨n, by rw [hk]; exact e, .inl ⟨by rw [hk], hn⟩⟩
  ·exact ⟨m, by rw [hk]; exact f, .inr ⟨by rw [hk], hm⟩⟩
 ·obtain ⟨m, f, hm⟩ := hL _ ((Se.fitF4 h).1 hf).2.1;rw [if_neg (by omega), Se.keysK4 h hf];refine ⟨by simp, fun k hk => ?_⟩;simp only [List.mem_singleton] at hk
  exact ⟨m, by rw [hk]; exact f, .inr ⟨by rw [hk], hm⟩⟩
 ·obtain ⟨m, f, hm⟩ := hL _ ((Se.fitF5 h).1 hf).2.1;rw [if_neg (by omega), Se.keysK5 h hf];refine ⟨by simp, fun k hk => ?_⟩;simp only [List.mem_singleton] at hk
  exact ⟨m, by rw [hk]; exact f, .inr ⟨by rw [hk], hm⟩⟩
 ·obtain ⟨m, f, hm⟩ := hL _ ((Se.fitF6 h).1 hf).2.1;rw [if_neg (by omega), Se.keysK6 h hf];refine ⟨by simp, fun k hk => ?_⟩;simp only [List.mem_singleton] at hk
  exact ⟨m, by rw [hk]; exact f, .inr ⟨by rw [hk], hm⟩⟩
 ·obtain ⟨n, e, hn⟩ := hA _ ((Se.fitF7 h).1 hf).1;rw [if_pos h, Se.keysK7 h hf];refine ⟨by simp, fun k hk => ?_⟩;simp only [List.drop_succ_cons, List.drop_zero, List.take_succ_cons, List.take_zero, List.cons_append, List.nil_append, List.mem_cons, List.not_mem_nil, or_false] at hk
  rcases hk with hk | hk | hk | hk
  ·exact ⟨1, by rw [hk]; rfl, .inr ⟨by rw [hk], by omega⟩⟩
  ·exact ⟨2, by rw [hk]; rfl, .inr ⟨by rw [hk], by omega⟩⟩
  ·exact ⟨3, by rw [hk]; rfl, .inr ⟨by rw [hk], by omega⟩⟩
  ·exact ⟨n, by rw [hk]; exact e, .inl ⟨by rw [hk], hn⟩⟩
 ·obtain ⟨n, e, hn⟩ := hA _ ((Se.fitF8 h).1 hf).1;rw [if_neg (by omega), Se.keysK8 h hf];refine ⟨by simp, fun k hk => ?_⟩;simp only [List.mem_singleton] at hk
  exact ⟨n, by rw [hk]; exact e, .inl ⟨by rw [hk], hn⟩⟩
theorem may_in {M : MdlV} (h : mayM M = true) : M.a.length = 8 ∧ M.l.length = 3 ∧ (∀ x ∈ M.a, Lg.accB x = true) ∧ ∀ x ∈ M.l, chkB x = true := by
 unfold mayM at h;simp only [Bool.and_eq_true, decide_eq_true_eq, List.all_eq_true] at h;exact h
theorem do_rej {M : MdlV} {r : ReqV} (h : (doM M r).2.code ≠ 0) : (doM M r).1 = M ∧ (doM M r).2.num = 0 ∧ (doM M r).2.am = [] ∧ (doM M r).2.fl = [] := by
 unfold doM at h ⊢
 split
 ·rename_i h1
  rw [if_pos h1] at h
  split
  ·rename_i h2
   rw [if_pos h2] at h;exact absurd rfl h
  ·exact ⟨rfl, rfl, rfl, rfl⟩
 ·exact ⟨rfl, rfl, rfl, rfl⟩
theorem puts4 (wc : World) (b : Nat) (ty : TypeId) (v0 v1 v2 v3 : Value) {z0 z1 z2 z3 : Value} (h : wc.heap[b]? = some (.cells #[z0, z1, z2, z3] ty (0, 0))) : ((((wc.setCell ⟨b, 0, none⟩ v0).setCell ⟨b, 1, none⟩ v1).setCell ⟨b, 2, none⟩ v2).setCell ⟨b, 3, none⟩ v3).heap[b]? = some (.cells #[v0, v1, v2, v3] ty (0, 0)) ∧ Out (fun k => k = b) wc ((((wc.setCell ⟨b, 0, none⟩ v0).setCell ⟨b, 1, none⟩ v1).setCell ⟨b, 2, none⟩ v2).setCell ⟨b, 3, none⟩ v3) := by
 have h0 := And.intro h (Out.refl (fun k => k = b) wc);have h1 := putS h0 0 v0 (cs' := #[v0, z1, z2, z3]) rfl;have h2 := putS h1 1 v1 (cs' := #[v0, v1, z2, z3]) rfl;have h3 := putS h2 2 v2 (cs' := #[v0, v1, v2, z3]) rfl;have h4 := putS h3 3 v3 (cs' := #[v0, v1, v2, v3]) rfl;exact h4
theorem at4 {w : World} {p : Nat} {ty : TypeId} {z0 z1 z2 z3 : Value} (h : w.heap[p]? = some (.cells #[z0, z1, z2, z3] ty (0, 0))) : (w.cell? ⟨p, 0, none⟩ = some z0 ∧ w.cell? ⟨p, 1, none⟩ = some z1 ∧ w.cell? ⟨p, 2, none⟩ = some z2 ∧ w.cell? ⟨p, 3, none⟩ = some z3) ∧ (∀ j, w.frozen? ⟨p, j, none⟩ = false) ∧ p < w.heap.size :=
 ⟨⟨by rw [cell_at h]; rfl, by rw [cell_at h]; rfl, by rw [cell_at h]; rfl, by rw [cell_at h]; rfl⟩, fun j => free_at h j, (Array.getElem?_eq_some_iff.1 h).1⟩
theorem at11 {w : World} {p : Nat} {ty : TypeId} {z0 z1 z2 z3 z4 z5 z6 z7 z8 z9 z10 : Value} (h : w.heap[p]? = some (.cells #[z0, z1, z2, z3, z4, z5, z6, z7, z8, z9, z10] ty (0, 0))) : (w.cell? ⟨p, 0, none⟩ = some z0 ∧ w.cell? ⟨p, 1, none⟩ = some z1 ∧ w.cell? ⟨p, 2, none⟩ = some z2 ∧ w.cell? ⟨p, 3, none⟩ = some z3 ∧ w.cell? ⟨p, 4, none⟩ = some z4 ∧ w.cell? ⟨p, 5, none⟩ = some z5 ∧ w.cell? ⟨p, 6, none⟩ = some z6 ∧ w.cell? ⟨p, 7, none⟩ = some z7 ∧ w.cell? ⟨p, 8, none⟩ = some z8 ∧ w.cell? ⟨p, 9, none⟩ = some z9 ∧ w.cell? ⟨p, 10, none⟩ = some z10) ∧ (∀ j, w.frozen? ⟨p, j, none⟩ = false) ∧ p < w.heap.size :=
 ⟨⟨by rw [cell_at h]; rfl, by rw [cell_at h]; rfl, by rw [cell_at h]; rfl, by rw [cell_at h]; rfl, by rw [cell_at h]; rfl, by rw [cell_at h]; rfl, by rw [cell_at h]; rfl, by rw [cell_at h]; rfl, by rw [cell_at h]; rfl, by rw [cell_at h]; rfl, by rw [cell_at h]; rfl⟩, fun j => free_at h j, (Array.getElem?_eq_some_iff.1 h).1⟩
structure DoOwn (B : Nat) (w : World) (va vl f g : Value) (X : MdlV × AnsV) : Prop where
 m : MdlOwn B w va vl X.1
 am : w.ownsRow B 53 2 f X.2.am.length (celC amtE X.2.am)
 fl : w.ownsRow B 106 4 g X.2.fl.length (celC filE X.2.fl)
 sa : X.2.am.length * 16 ≤ 140737488355328
 sf : X.2.fl.length * 32 ≤ 140737488355328
theorem DoOwn.set {B D j : Nat} {w : World} {va vl f g : Value} {X : MdlV × AnsV} {cs : Array Value} {t : TypeId} {u : Value} (h : DoOwn B w va vl f g X) (hd : w.heap[D]? = some (.cells cs t (0, 0))) (h1 : (53 : TypeId) ≠ t) (h2 : (44 : TypeId) ≠ t) (h3 : (115 : TypeId) ≠ t) (h4 : (61 : TypeId) ≠ t) (h5 : (59 : TypeId) ≠ t) (h6 : (106 : TypeId) ≠ t) : DoOwn B (w.setCell ⟨D, j, none⟩ u) va vl f g X :=
 ⟨h.m.set hd h1 h2 h3 h4 h5, own_cell h.am hd h1, own_cell h.fl hd h6, h.sa, h.sf⟩
def DoBack (X : MdlV × AnsV) (w : World) (e : Ending) (w' : World) : Prop := ∃ a c b d f1 f2 g1 g2, e = .returned (.tuple #[.agg #[.slice a X.1.a.length c, .slice b X.1.l.length d], .agg #[.int .i64 X.2.code, .int .i64 X.2.num, .slice f1 X.2.am.length f2, .slice g1 X.2.fl.length g2]]) ∧ Hid (DoOwn w.heap.size w' (.slice a X.1.a.length c) (.slice b X.1.l.length d) (.slice f1 X.2.am.length f2) (.slice g1 X.2.fl.length g2) X ∧ Below w.heap.size w w')
theorem do_exit {w W : World} {X : MdlV × AnsV} {P Q : Nat} {z0 z1 y0 y1 y2 y3 : Value} {a c b d f1 f2 g1 g2} (hP : W.heap[P]? = some (.cells #[z0, z1] 30 (0, 0))) (hQ : W.heap[Q]? = some (.cells #[y0, y1, y2, y3] 36 (0, 0))) (hB : Below w.heap.size w W) (hp : w.heap.size ≤ P) (hq : w.heap.size ≤ Q)
  (ho : DoOwn w.heap.size W (.slice a X.1.a.length c) (.slice b X.1.l.length d) (.slice f1 X.2.am.length f2) (.slice g1 X.2.fl.length g2) X) :
  ∃ W', W' = ((((((W.setCell ⟨P, 0, none⟩ (.slice a X.1.a.length c)).setCell ⟨P, 1, none⟩ (.slice b X.1.l.length d)).setCell ⟨Q, 0, none⟩ (.int .i64 X.2.code)).setCell ⟨Q, 1, none⟩ (.int .i64 X.2.num)).setCell ⟨Q, 2, none⟩ (.slice f1 X.2.am.length f2)).setCell ⟨Q, 3, none⟩ (.slice g1 X.2.fl.length g2)) ∧ W'.heap[P]? = some (.cells #[.slice a X.1.a.length c, .slice b X.1.l.length d] 30 (0, 0)) ∧ W'.heap[Q]? = some (.cells #[.int .i64 X.2.code, .int .i64 X.2.num, .slice f1 X.2.am.length f2, .slice g1 X.2.fl.length g2] 36 (0, 0)) ∧ DoBack X w (.returned (.tuple #[.agg #[.slice a X.1.a.length c, .slice b X.1.l.length d], .agg #[.int .i64 X.2.code, .int .i64 X.2.num, .slice f1 X.2.am.length f2, .slice g1 X.2.fl.length g2]])) W' := by
 have hne := ty_ne hP hQ (by decide);have p1 := heap_set hP 0 (.slice a X.1.a.length c);have p2 := puts2 W P 30 (.slice a X.1.a.length c) (.slice b X.1.l.length d) hP;have o2 := (ho.set (j := 0) (u := .slice a X.1.a.length c) hP (by decide) (by decide) (by decide) (by decide) (by decide) (by decide)).set (j := 1) (u := .slice b X.1.l.length d) p1 (by decide) (by decide) (by decide) (by decide) (by decide) (by decide);have q0 := setOther (b := P) (j := 1) (.slice b X.1.l.length d) (setOther (b := P) (j := 0) (.slice a X.1.a.length c) hQ hne.symm) hne.symm;have B2 := belowSet (b := P) (j := 1) (.slice b X.1.l.length d) (belowSet (b := P) (j := 0) (.slice a X.1.a.length c) hB hp) hp;generalize (W.setCell ⟨P, 0, none⟩ (.slice a X.1.a.length c)).setCell ⟨P, 1, none⟩ (.slice b X.1.l.length d) = W2 at *;have p4 := puts4 W2 Q 36 (.int .i64 X.2.code) (.int .i64 X.2.num) (.slice f1 X.2.am.length f2) (.slice g1 X.2.fl.length g2) q0;have q1 := heap_set q0 0 (.int .i64 X.2.code);have q2 := heap_set q1 1 (.int .i64 X.2.num);have q3 := heap_set q2 2 (.slice f1 X.2.am.length f2);refine ⟨_, rfl, ?_, p4.1, a, c, b, d, f1, f2, g1, g2, rfl, hideIt ⟨?_, ?_⟩⟩
 ·exact (p4.2.block P (Array.getElem?_eq_some_iff.1 p2.1).1 hne).trans p2.1
 ·exact (((o2.set q0 (by decide) (by decide) (by decide) (by decide) (by decide) (by decide)).set q1 (by decide) (by decide) (by decide) (by decide) (by decide) (by decide)).set q2 (by decide) (by decide) (by decide) (by decide) (by decide) (by decide)).set q3 (by decide) (by decide) (by decide) (by decide) (by decide) (by decide)
 ·exact below_out B2 p4.2 (fun k e => by rw [e]; exact hq)
theorem four_heap (w : World) (o p q r : Obj) : ((((w.alloc o).alloc p).alloc q).alloc r).heap[w.heap.size]? = some o ∧ ((((w.alloc o).alloc p).alloc q).alloc r).heap[w.heap.size + 1]? = some p ∧ ((((w.alloc o).alloc p).alloc q).alloc r).heap[w.heap.size + 2]? = some q ∧ ((((w.alloc o).alloc p).alloc q).alloc r).heap[w.heap.size + 3]? = some r ∧ ((((w.alloc o).alloc p).alloc q).alloc r).heap.size = w.heap.size + 4 := by
 obtain ⟨t1, t2, t3, t4⟩ := three_heap w o p q;have h := heap_alloc_new (((w.alloc o).alloc p).alloc q) r;rw [t4] at h;refine ⟨?_, ?_, ?_, h, by simp⟩
 ·rw [heap_alloc_old _ _ (by rw [t4]; omega)]
  exact t1
 ·rw [heap_alloc_old _ _ (by rw [t4]; omega)]
  exact t2
 ·rw [heap_alloc_old _ _ (by rw [t4]; omega)]
  exact t3
theorem below4 (w : World) (o p q r : Obj) : Below w.heap.size w ((((w.alloc o).alloc p).alloc q).alloc r) := (below3 w o p q).alloc (by simp; omega) r
structure DX (w : World) (va vl : Value) (r : ReqV) (M : MdlV) (W : World) : Prop where
 m : W.heap[w.heap.size]? = some (.cells #[va, vl] 30 (0, 0))
 r : W.heap[w.heap.size + 1]? = some (.cells (Se.reqC r) 26 (0, 0))
 p : W.heap[w.heap.size + 2]? = some (.cells #[.slice none 0 0, .slice none 0 0] 30 (0, 0))
 q : W.heap[w.heap.size + 3]? = some (.cells #[.int .i64 0, .int .i64 0, .slice none 0 0, .slice none 0 0] 36 (0, 0))
 md : Mdl W va vl M
 fo : Se.Forms W
 bel : Below w.heap.size w W
theorem DX.keep {w W W' : World} {va vl : Value} {r : ReqV} {M : MdlV} (h : DX w va vl r M W) (hb : Below W.heap.size W W') : DX w va vl r M W' :=
 ⟨blkK h.m hb, blkK h.r hb, blkK h.p hb, blkK h.q hb, h.md.keep hb, h.fo.keep hb, below_via h.bel hb⟩
theorem DX.first {w : World} {va vl : Value} {r : ReqV} {M : MdlV} (h : Mdl w va vl M) (hF : Se.Forms w) : DX w va vl r M ((((w.alloc (.cells #[va, vl] 30)).alloc (.cells (Se.reqC r) 26)).alloc (.cells #[.slice none 0 0, .slice none 0 0] 30)).alloc (.cells #[.int .i64 0, .int .i64 0, .slice none 0 0, .slice none 0 0] 36)) := by
 obtain ⟨t1, t2, t3, t4, _⟩ := four_heap w (.cells #[va, vl] 30) (.cells (Se.reqC r) 26) (.cells #[.slice none 0 0, .slice none 0 0] 30) (.cells #[.int .i64 0, .int .i64 0, .slice none 0 0, .slice none 0 0] 36)
 exact ⟨t1, t2, t3, t4, h.keep (below4 ..), hF.keep (below4 ..), below4 ..⟩
set_option maxRecDepth 100000 in
set_option maxHeartbeats 16000000 in
theorem do_bad (va vl : Value) (M : MdlV) (r : ReqV) (w : World) (h : Mdl w va vl M) (hF : Se.Forms w) (hb0 : mayM M = false ∨ (mayM M = true ∧ Se.fitsB r = false)) : Calls Tryz.prog 10 #[.agg #[va, vl], .agg (Se.reqC r)] w (DoBack (M, ⟨1, 0, [], []⟩) w) := by
 have D0 := hideIt (DX.first (r := r) h hF);clear h hF;unfold Se.reqC at *
 go_enter Tryz.func10, Tryz.ntmps10
 go_upto_region 1 with fail
 generalize (World.alloc _ (.cells #[.int .i64 0, .int .i64 0, .slice none 0 0, .slice none 0 0] 36)) = W0 at *;have HMY := hideIt (mayBe_is va vl M W0 D0.out.md);obtain ⟨⟨m0, m1⟩, -, mz⟩ := at2 D0.out.m
 rcases hb0 with h1 | ⟨h1, h2⟩
 ·rw [h1] at HMY;clear h1
  go_wp2_with fail
  refine HMY.out.mono ?_;rintro e w1 ⟨rfl, hb⟩;dsimp only;have D1 := hideIt (D0.out.keep hb);clear D0 HMY hb m0 m1 mz;have HMD := hideIt (model_is va vl M w1 D1.out.md);obtain ⟨⟨m0, m1⟩, -, mz⟩ := at2 D1.out.m
  go_wp2_with fail
  refine HMD.out.mono ?_;rintro e w9 ⟨a, c, b, d, rfl, ho, hb⟩;dsimp only;have DX9 := hideIt (D1.out.keep hb);obtain ⟨⟨n0, n1⟩, nf, nz⟩ := at2 DX9.out.p;obtain ⟨⟨k0, k1, k2, k3⟩, kf, kz⟩ := at4 DX9.out.q;obtain ⟨W', hW', hP', hQ', hDB⟩ := do_exit (X := (M, ⟨1, 0, [], []⟩)) DX9.out.p DX9.out.q DX9.out.bel (by omega) (by omega) (⟨ho.base D1.out.bel.size, own_nil _ _, own_nil _ _, by simp, by simp⟩ : DoOwn w.heap.size w9 (.slice a M.a.length c) (.slice b M.l.length d) (.slice none 0 0) (.slice none 0 0) (M, ⟨1, 0, [], []⟩));have HW := hideIt (And.intro hW' (And.intro hP' (And.intro hQ' hDB)));clear hW' hP' hQ' hDB ho hb m0 m1 mz HMD;go_wp2;simp only [List.length_nil] at HW;rw [← HW.out.1];exact bodyPost_ret (v := .tuple #[.agg #[.slice a M.a.length c, .slice b M.l.length d], .agg #[.int .i64 1, .int .i64 0, .slice none 0 0, .slice none 0 0]]) (by simp [results, Tryz.results10, go_sem, cell_at HW.out.2.1, cell_at HW.out.2.2.1]) rfl HW.out.2.2.2
 ·rw [h1] at HMY;clear h1
  go_wp2_with fail
  refine HMY.out.mono ?_;rintro e w1 ⟨rfl, hb⟩;dsimp only;have D1 := hideIt (D0.out.keep hb);clear D0 HMY hb m0 m1 mz;have HFI := hideIt (Se.fits_is r w1 D1.out.fo);rw [h2] at HFI;unfold Se.reqC at HFI;have hr := D1.out.r;unfold Se.reqC at hr;obtain ⟨⟨r0, r1, r2, r3, r4, r5, r6, r7, r8, r9, r10⟩, -, rz⟩ := at11 hr;clear hr h2
  go_wp2_with fail
  refine HFI.out.mono ?_;rintro e w2 ⟨rfl, hb⟩;dsimp only;have D2 := hideIt (D1.out.keep hb);clear D1 HFI hb r0 r1 r2 r3 r4 r5 r6 r7 r8 r9 r10 rz;have HMD := hideIt (model_is va vl M w2 D2.out.md);obtain ⟨⟨m0, m1⟩, -, mz⟩ := at2 D2.out.m
  go_wp2_with fail
  refine HMD.out.mono ?_;rintro e w9 ⟨a, c, b, d, rfl, ho, hb⟩;dsimp only;have DX9 := hideIt (D2.out.keep hb);obtain ⟨⟨n0, n1⟩, nf, nz⟩ := at2 DX9.out.p;obtain ⟨⟨k0, k1, k2, k3⟩, kf, kz⟩ := at4 DX9.out.q;obtain ⟨W', hW', hP', hQ', hDB⟩ := do_exit (X := (M, ⟨1, 0, [], []⟩)) DX9.out.p DX9.out.q DX9.out.bel (by omega) (by omega) (⟨ho.base D2.out.bel.size, own_nil _ _, own_nil _ _, by simp, by simp⟩ : DoOwn w.heap.size w9 (.slice a M.a.length c) (.slice b M.l.length d) (.slice none 0 0) (.slice none 0 0) (M, ⟨1, 0, [], []⟩));have HW := hideIt (And.intro hW' (And.intro hP' (And.intro hQ' hDB)));clear hW' hP' hQ' hDB ho hb m0 m1 mz HMD;go_wp2;simp only [List.length_nil] at HW;rw [← HW.out.1];exact bodyPost_ret (v := .tuple #[.agg #[.slice a M.a.length c, .slice b M.l.length d], .agg #[.int .i64 1, .int .i64 0, .slice none 0 0, .slice none 0 0]]) (by simp [results, Tryz.results10, go_sem, cell_at HW.out.2.1, cell_at HW.out.2.2.1]) rfl HW.out.2.2.2
end Go.Proofs.YtiinigifjdpicaaGreatDoor
