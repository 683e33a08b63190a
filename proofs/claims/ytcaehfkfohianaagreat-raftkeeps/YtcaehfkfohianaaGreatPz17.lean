/- Texts of my own, laid together. -/
import Derived.Test.YtcaehfkfohianaaGreatZq
import Derived.Test.YtcaehfkfohianaaGreatPz16
import Derived.Test.YtcaehfkfohianaaGreatPz13
set_option linter.all false
namespace Go.Proofs.YtcaehfkfohianaaGreat
open Go.RowKit
theorem mapRep (m : Nat) (x : Int) : (List.replicate m x).map Tm.iv = List.replicate m (.int .i64 x) := by
 rw [List.map_replicate]
 rfl
theorem made_rep (x : Value) (m : Nat) : (madeCells #[x] m).toList = List.replicate m x := by
 rw [List.eq_replicate_iff]
 constructor
 ·rw [Array.length_toList];exact size_madeCells _ _
 ·intro b hb;unfold madeCells at hb;simp only [Array.toList_map, List.mem_map] at hb;obtain ⟨a, ha, rfl⟩ := hb
  simp [Nat.mod_one]
set_option maxRecDepth 100000 in
set_option maxHeartbeats 16000000 in
theorem leadK_is {X : WkX} {K : Nat} {w wx : World} (h : WK w K X wx) (hb : NB X.d) (hr : X.d.b.r = 3) (hM : X.M.length + 10 ≤ 1000000) (hR : X.R.length + 10 ≤ 1000000) : Calls Tryz.prog 91 #[.pointer (some ⟨K, 0, none⟩)] wx fun r w' => ∃ Y' : WkX, r = .returned (.int .i64 (leadW X.v).2) ∧ Y'.v = (leadW X.v).1 ∧ Y'.M.length ≤ X.M.length + 7 ∧ Y'.R.length ≤ X.R.length + 1 ∧ WK w K Y' w' := by
 have hn := hb.n;obtain ⟨m, hm⟩ : ∃ m : Nat, m = (X.d.n + 1).toNat := ⟨_, rfl⟩;have hmi : (m : Int) = X.d.n + 1 := by omega
 have hc7 : m = 2 ∨ m = 3 ∨ m = 4 ∨ m = 5 ∨ m = 6 ∨ m = 7 ∨ m = 8 := by omega
 have hli := lastL_in X.d.L;have HMI := hideIt hmi;have HV : Hid (leadW X.v = addW {X.v with d := {X.d with ld := X.d.me, nx := (List.replicate m ((lastL X.d.L).1 + 1)).set 0 0, mt := List.replicate m 0}, wt := true} ⟨X.d.b.t, 1, noT⟩) := hideIt (by rw [hm]; rfl)
 have HNB : Hid (NB {X.d with ld := X.d.me, nx := (List.replicate m ((lastL X.d.L).1 + 1)).set 0 0, mt := List.replicate m 0} ∧ LD {X.d with ld := X.d.me, nx := (List.replicate m ((lastL X.d.L).1 + 1)).set 0 0, mt := List.replicate m 0}) := hideIt (by rw [hm]; exact new_nb hb)
 obtain ⟨Z, hZ⟩ : ∃ Z, Z = madeCells #[Value.int .i64 0] m := ⟨_, rfl⟩;have hZs : Z.size = m := by rw [hZ]; exact size_madeCells _ _
 have hZl : Z.toList = (List.replicate m 0).map Tm.iv := by
  rw [hZ, made_rep, mapRep]
 have hmk : ∀ W : World, (Instr.makeSlice 32 (.int .i64 (X.d.n + 1)) (.int .i64 (X.d.n + 1))).run Tryz.prog W = .ok (.slice (some ⟨W.heap.size, 0, none⟩) m m) (W.alloc (.cells Z 3)) := fun W => by
  rw [← hmi, hZ];exact run_make_row' (P := Tryz.prog) 32 3 (.int .i64 0) 8 Tryz.underlying32 (by kernel_rfl) rfl .i64 .i64 m (by omega) (by omega) W
 have H1 := hideIt (h.setLd X.d.me);obtain ⟨⟨k0, k1, k2, k3, k4, k5, k6, k7, k8, k9, k10, k11, k12, k13, k14, k15, k16, k17⟩, kf, kz⟩ := at18 h.box;have hm28 : 2 ≤ m ∧ m ≤ 8 := by omega
 clear h hb hc7 hZ hm hmi
 go_enter Tryz.func91, Tryz.ntmps91
 go_upto_region 2 with fail
 generalize (World.setCell _ ⟨K, 6, none⟩ _) = W1 at *;clear k0 k1 k2 k3 k4 k5 k6 k7 k8 k9 k10 k11 k12 k13 k14 k15 k16 k17 kf kz;have HL2 : Hid (∀ W, Below W1.heap.size W1 W → Calls Tryz.prog 95 #[.pointer (some ⟨K, 0, none⟩)] W fun r w' => r = .returned (.int .i64 (lastL X.d.L).1) ∧ Hid (Below W1.heap.size W1 w') ∧ w'.cell? ⟨K, 1, none⟩ = some (.int .i64 X.d.n) ∧ K < w'.heap.size) := by
  intro W hW;refine (lastW_is (H1.out.keep hW)).mono ?_;rintro r w' ⟨rfl, hbl⟩;have hb2 := below_via hW hbl;obtain ⟨⟨-, k1, -, -, -, -, -, -, -, -, -, -, -, -, -, -, -, -⟩, kf, kz⟩ := at18 (H1.out.keep hb2).box
  exact ⟨rfl, hideIt hb2, k1, kz⟩
 generalize hlst : (lastL X.d.L).1 = last at *;have HRP : Hid (∀ W, Below W1.heap.size W1 W → Calls Tryz.prog 135 #[.slice (some ⟨W.heap.size, 0, none⟩) 1 1, .int .i64 (X.d.n + 1)] (W.alloc (.cells #[.int .i64 (last + 1)] 3)) fun r w' => ∃ a c, r = .returned (.slice a m c) ∧ Hid (w'.ownsRow W1.heap.size 3 1 (.slice a m c) m ((List.replicate m (last + 1)).map Tm.iv) ∧ Below W1.heap.size W1 w') ∧ w'.cell? ⟨K, 1, none⟩ = some (.int .i64 X.d.n) ∧ w'.cell? ⟨K, 12, none⟩ = some (.slice X.na X.d.nx.length X.nc) ∧ (∀ j, w'.frozen? ⟨K, j, none⟩ = false) ∧ K < w'.heap.size) := by
  intro W hW;rw [← HMI.out];refine (rep_is W.heap.size m (last + 1) hm28 (W.alloc (.cells #[.int .i64 (last + 1)] 3)) (heap_alloc_new W _)).mono ?_;rintro r w' ⟨a, c, rfl, ho, hbl⟩;have hb2 := below_via (below_via hW (below1 W _)) hbl;obtain ⟨⟨-, k1, -, -, -, -, -, -, -, -, -, -, k12, -, -, -, -, -⟩, kf, kz⟩ := at18 (H1.out.keep hb2).box
  exact ⟨a, c, rfl, hideIt ⟨by rw [mapRep]; exact own_base ho (below_via hW (below1 W _)).size, hb2⟩, k1, k12, kf, kz⟩
 obtain ⟨⟨-, k1, -, -, -, -, -, -, -, -, -, -, -, -, -, -, -, -⟩, kf, kz⟩ := at18 H1.out.box;have hwl : IntKind.i64.wrap (last + 1) = last + 1 := by rw [IntKind.wrap_i64]; omega
 have hwn : IntKind.i64.wrap (X.d.n + 1) = X.d.n + 1 := by rw [IntKind.wrap_i64]; omega
 go_cut [] from 12 to 26 (fun wy => Hid (∃ a c, WK w K {X with d := {X.d with ld := X.d.me, nx := List.replicate m (last + 1)}, na := a, nc := c} wy))
 case first =>
  clear HV HNB hmk
  go_region_held3 (fun W => W.cell? ⟨K, 1, none⟩ = some (.int .i64 X.d.n)) (first | go_keep | simp [*, World.cell?_setCell_other]) (first | (go_at_call 95; refine (HL2.out _ (by first | exact (Below.refl _ _).drew | exact Below.refl _ _)).mono ?_; rintro r w5 ⟨rfl, HQ, i0, i1⟩) | (go_at_call 135; refine (HRP.out w5 HQ.out).mono ?_; rintro r w6 ⟨a, c, rfl, HS, i4, i5, i2, i3⟩))
  all_goals go_wp2_with fail
  all_goals go_meet
  all_goals exact hideIt ⟨a, c, (H1.out.keep HS.out.2).setNx (List.replicate m (last + 1)) (by simp) a c (own_base HS.out.1 H1.out.bel.size) (by omega) (flip_apart (apart_new H1.out.rows.nd.m HS.out.1)) (flip_apart (apart_new H1.out.rows.nd.b HS.out.1))⟩
 case rest =>
  obtain ⟨a, c, hw2⟩ := hcut.out;have HX2 := hideIt hw2;clear hcut hw2 HL2 HRP k1 kf kz;have hbl := below1 wc (.cells Z 3);have h3 := HX2.out.keep hbl;have hmo := made_own wc wc.heap.size m Z (Nat.le_refl _) hZs (by unfold maxLen; omega)
  rw [hZl] at hmo;have hkz := (Array.getElem?_eq_some_iff.1 HX2.out.box).1;have hx3 := (h3.setMt (List.replicate m 0) (by simp) (some ⟨wc.heap.size, 0, none⟩) m (own_base hmo HX2.out.bel.size) (by omega) (apart_new HX2.out.rows.nd.n hmo) (flip_apart (apart_new HX2.out.rows.nd.b hmo)));rw [World.setCell_alloc_past (hn := hkz)] at hx3;have HX3 := hideIt hx3;obtain ⟨⟨k0, k1, k2, k3, k4, k5, k6, k7, k8, k9, k10, k11, k12, k13, k14, k15, k16, k17⟩, kf, kz⟩ := at18 HX2.out.box;clear hbl h3 hmo hZl hZs hx3 hkz
  go_upto_region 4 with fail
  generalize (World.alloc (World.setCell _ ⟨K, 13, none⟩ _) _) = W3 at *;generalize (some (⟨wc.heap.size, 0, none⟩ : Addr)) = ma3 at *;clear k0 k1 k2 k3 k4 k5 k6 k7 k8 k9 k10 k11 k12 k13 k14 k15 k16 k17 kf kz hmk HX2;obtain ⟨g, hg, n0, nf, nz⟩ := HX3.out.rows.ncell 0 (by simp only [List.length_replicate]; omega)
  obtain ⟨hcap1, hcap2⟩ : m ≤ c ∧ c ≤ maxLen := by
   have ho := HX3.out.rows.nd.n;obtain ⟨_, ⟨hv, h0⟩ | ⟨g', cap, cur, hv, hB, hb, hn, hc, _, _⟩⟩ := ho
   ·simp only [List.length_replicate] at h0;omega
   ·unfold WkX.gn at hv;simp only [Value.slice.injEq, List.length_replicate] at hv hn;omega
  obtain ⟨⟨k0, k1, k2, k3, k4, k5, k6, k7, k8, k9, k10, k11, k12, k13, k14, k15, k16, k17⟩, kf, kz⟩ := at18 HX3.out.box;simp only [List.length_replicate] at hg k12;rw [hg] at k12;have HX4 := hideIt (HX3.out.putX hg 0 0);have hm0 : (0 : Int) < (m : Int) := by omega
  go_upto_region 5 with fail
  generalize (World.setCell _ ⟨g, 0, none⟩ _) = W4 at *;clear k0 k1 k2 k3 k4 k5 k6 k7 k8 k9 k10 k11 k12 k13 k14 k15 k16 k17 kf kz HX3 n0 nf nz;obtain ⟨⟨k0, k1, k2, k3, k4, k5, k6, k7, k8, k9, k10, k11, k12, k13, k14, k15, k16, k17⟩, kf, kz⟩ := at18 HX4.out.box;have HX5 := hideIt (HX4.out.setWt true)
  go_upto_region 6 with fail
  generalize (World.setCell _ ⟨K, 17, none⟩ _) = W5 at *;clear k0 k1 k2 k3 k4 k5 k6 k7 k8 k9 k10 k11 k12 k13 k14 k15 k16 k17 kf kz HX4;have HT := hideIt (termW_is HX5.out.box);have HA := hideIt (addK_is HX5.out ⟨X.d.b.t, 1, noT⟩ HNB.out.1 HNB.out.2 hr hM hR);unfold noT at HA
  go_wp2_with fail
  refine HT.out.mono ?_;rintro r w6 ⟨rfl, rfl⟩;dsimp only
  go_wp2_with fail
  refine HA.out.mono ?_;rintro r w7 ⟨Y', rfl, hv, hMl, hRl, hw⟩;dsimp only;have HW := hideIt hw;clear HA HT hw HX5;go_wp2;go_ret;refine ⟨Y', ?_, ?_, hMl, hRl, HW.out⟩
  ·rw [HV.out]
   rfl
  ·rw [HV.out, hv]
   rfl
def evC (e : EvV) (a : Option Addr) (c : Nat) : List Value := .int .i64 e.kind :: .int .i64 e.idx :: .string e.tx :: msgE ⟨e.m, a, c⟩
theorem at16 {w : World} {p : Nat} {ty : TypeId} {z0 z1 z2 z3 z4 z5 z6 z7 z8 z9 z10 z11 z12 z13 z14 z15 : Value} (h : w.heap[p]? = some (.cells #[z0, z1, z2, z3, z4, z5, z6, z7, z8, z9, z10, z11, z12, z13, z14, z15] ty (0, 0))) : (w.cell? ⟨p, 0, none⟩ = some z0 ∧ w.cell? ⟨p, 1, none⟩ = some z1 ∧ w.cell? ⟨p, 2, none⟩ = some z2 ∧ w.cell? ⟨p, 3, none⟩ = some z3 ∧ w.cell? ⟨p, 4, none⟩ = some z4 ∧ w.cell? ⟨p, 5, none⟩ = some z5 ∧ w.cell? ⟨p, 6, none⟩ = some z6 ∧ w.cell? ⟨p, 7, none⟩ = some z7 ∧ w.cell? ⟨p, 8, none⟩ = some z8 ∧ w.cell? ⟨p, 9, none⟩ = some z9 ∧ w.cell? ⟨p, 10, none⟩ = some z10 ∧ w.cell? ⟨p, 11, none⟩ = some z11 ∧ w.cell? ⟨p, 12, none⟩ = some z12 ∧ w.cell? ⟨p, 13, none⟩ = some z13 ∧ w.cell? ⟨p, 14, none⟩ = some z14 ∧ w.cell? ⟨p, 15, none⟩ = some z15) ∧ (∀ j, w.frozen? ⟨p, j, none⟩ = false) ∧ p < w.heap.size :=
 ⟨⟨by rw [Tm.cell_at h]; rfl, by rw [Tm.cell_at h]; rfl, by rw [Tm.cell_at h]; rfl, by rw [Tm.cell_at h]; rfl, by rw [Tm.cell_at h]; rfl, by rw [Tm.cell_at h]; rfl, by rw [Tm.cell_at h]; rfl, by rw [Tm.cell_at h]; rfl, by rw [Tm.cell_at h]; rfl, by rw [Tm.cell_at h]; rfl, by rw [Tm.cell_at h]; rfl, by rw [Tm.cell_at h]; rfl, by rw [Tm.cell_at h]; rfl, by rw [Tm.cell_at h]; rfl, by rw [Tm.cell_at h]; rfl, by rw [Tm.cell_at h]; rfl⟩, fun j => Tm.free_at h j, (Array.getElem?_eq_some_iff.1 h).1⟩
theorem sendAll_is {X : WkX} {K : Nat} {w wx : World} (h : WK w K X wx) (hb : NB X.d) (l : LD X.d) (hM : X.M.length + 10 ≤ 1000000) : Calls Tryz.prog 88 #[.pointer (some ⟨K, 0, none⟩), .func (.func 89) #[.pointer (some ⟨K, 0, none⟩)] #[]] wx fun e w' => ∃ X' : WkX, e = .returned (.tuple #[]) ∧ X'.v = allW sendW X.v ∧ X'.d = X.d ∧ X'.M.length ≤ X.M.length + 7 ∧ X'.R = X.R ∧ WK w K X' w' :=
 eachS_is (f := sendW) h hb.n hM (fun Y wy k hY hd hMl h1 h2 h3 => by
  have hh := l.nl;have hbk := l.nb k h1 (by omega);have hlas := las_in hb.L;rw [← hd] at hbk hh hlas h2;exact sendK_is hY k (by omega) (by omega) hMl)
set_option maxRecDepth 100000 in
set_option maxHeartbeats 16000000 in
theorem timeK_is {X : WkX} {K : Nat} {w wx : World} (h : WK w K X wx) (e : EvV) (ea : Option Addr) (ec : Nat) (hb : NB X.d) (hl : Led X.d) (hM : X.M.length + 10 ≤ 1000000) (hR : X.R.length + 10 ≤ 1000000) : Calls Tryz.prog 53 #[.pointer (some ⟨K, 0, none⟩), .agg (evC e ea ec).toArray] wx fun r w' => ∃ Y' : WkX, r = .returned (.int .i64 (timeW X.v).2) ∧ Y'.v = (timeW X.v).1 ∧ WK w K Y' w' := by
 have hn := hb.n;have HX0 := hideIt (h.keep (below1 wx (.cells (evC e ea ec).toArray 52)));have HV : Hid (timeW X.v = if X.d.b.r = 3 then (allW sendW {X.v with wt := true}, 0) else if (Tm.beginL X.d.b X.d.me X.d.n).2 ≠ 0 then ({X.v with wt := true}, 102) else if (Tm.beginL X.d.b X.d.me X.d.n).1.r = 3 then leadW {X.v with d := {X.d with b := (Tm.beginL X.d.b X.d.me X.d.n).1, ld := 0}, wt := true} else (allW pollW {X.v with d := {X.d with b := (Tm.beginL X.d.b X.d.me X.d.n).1, ld := 0}, wt := true}, 0)) := hideIt rfl;have HBB : Hid ((Tm.beginL X.d.b X.d.me X.d.n).2 = 0 → Tm.mayB (Tm.beginL X.d.b X.d.me X.d.n).1 = true ∧ (Tm.beginL X.d.b X.d.me X.d.n).1.l.length ≤ 1000000) := hideIt (fun h0 => by
  obtain ⟨b1, b2, b3, b4, b5⟩ := begin_bal h0;refine ⟨b4, ?_⟩;rw [b3]
  simp)
 clear h;unfold evC msgE at *
 go_enter Tryz.func53, Tryz.ntmps53
 go_upto_region 1 with fail
 generalize (World.alloc wx _) = W0 at *;have HX1 := hideIt (HX0.out.setWt true);obtain ⟨⟨k0, k1, k2, k3, k4, k5, k6, k7, k8, k9, k10, k11, k12, k13, k14, k15, k16, k17⟩, kf, kz⟩ := at18 HX0.out.box
 go_upto_region 2 with fail
 generalize (World.setCell _ ⟨K, 17, none⟩ _) = W1 at *;clear k0 k1 k2 k3 k4 k5 k6 k7 k8 k9 k10 k11 k12 k13 k14 k15 k16 k17 kf kz HX0
 by_cases hr : X.d.b.r = 3
 ·rw [if_pos hr] at HV;have HLe : Hid (Calls Tryz.prog 87 #[.pointer (some ⟨K, 0, none⟩)] W1 fun r w' => r = .returned (.bool true) ∧ w' = W1) := hideIt (by
   have := leadsW_is HX1.out.box;rw [show decide (({X with wt := true} : WkX).d.b.r = 3) = true from decide_eq_true hr] at this;exact this)
  have HE := hideIt (sendAll_is HX1.out hb (hl.1 hr) hM);clear HBB hr HX1
  go_wp2_with fail
  refine HLe.out.mono ?_;rintro r w2 ⟨rfl, rfl⟩;dsimp only
  go_wp2_with fail
  refine HE.out.mono ?_;rintro r w3 ⟨Y, rfl, hv, hd, hMl, hRe, hw⟩;dsimp only;have HW := hideIt hw;clear hw HE HLe;go_wp2;go_ret;refine ⟨Y, ?_, ?_, HW.out⟩
  ·rw [HV.out]
   rfl
  ·rw [HV.out, hv]
   rfl
 ·rw [if_neg hr] at HV;have HLe : Hid (Calls Tryz.prog 87 #[.pointer (some ⟨K, 0, none⟩)] W1 fun r w' => r = .returned (.bool false) ∧ w' = W1) := hideIt (by
   have := leadsW_is HX1.out.box;rw [show decide (({X with wt := true} : WkX).d.b.r = 3) = false from decide_eq_false hr] at this;exact this)
  have HCY : Hid (∀ W, Below W1.heap.size W1 W → Calls Tryz.prog 90 #[.agg #[.int .i64 X.d.b.t, .int .i64 X.d.b.v, .int .i64 X.d.b.r, .slice X.ba X.d.b.l.length X.bc], .int .i64 X.d.me, .int .i64 X.d.n] W fun r w' => ∃ a c, r = .returned (.tuple #[.agg #[.int .i64 (Tm.beginL X.d.b X.d.me X.d.n).1.t, .int .i64 (Tm.beginL X.d.b X.d.me X.d.n).1.v, .int .i64 (Tm.beginL X.d.b X.d.me X.d.n).1.r, .slice a (Tm.beginL X.d.b X.d.me X.d.n).1.l.length c], .int .i64 (Tm.beginL X.d.b X.d.me X.d.n).2]) ∧ Hid (w'.ownsRow W1.heap.size 3 1 (.slice a (Tm.beginL X.d.b X.d.me X.d.n).1.l.length c) (Tm.beginL X.d.b X.d.me X.d.n).1.l.length ((Tm.beginL X.d.b X.d.me X.d.n).1.l.map Tm.iv) ∧ Below W1.heap.size W1 w' ∧ Below W.heap.size W w') ∧ (w'.cell? ⟨K, 0, none⟩ = some (.int .i64 X.d.me) ∧ w'.cell? ⟨K, 1, none⟩ = some (.int .i64 X.d.n) ∧ w'.cell? ⟨K, 2, none⟩ = some (.int .i64 X.d.b.t) ∧ w'.cell? ⟨K, 3, none⟩ = some (.int .i64 X.d.b.v) ∧ w'.cell? ⟨K, 4, none⟩ = some (.int .i64 X.d.b.r) ∧ w'.cell? ⟨K, 5, none⟩ = some (.slice X.ba X.d.b.l.length X.bc))) := by
   intro W hW;refine (Tm.begin_is X.d.b X.gb X.d.me X.d.n W (HX1.out.keep hW).rows.at_.1).mono ?_;rintro r w' ⟨g, rfl, ho, hbl⟩;obtain ⟨a, c, rfl⟩ := Tm.own_len ho;have hb2 := below_via hW hbl;obtain ⟨⟨k0, k1, k2, k3, k4, k5, k6, k7, k8, k9, k10, k11, k12, k13, k14, k15, k16, k17⟩, kf, kz⟩ := at18 (HX1.out.keep hb2).box
   exact ⟨a, c, rfl, hideIt ⟨own_base ho hW.size, hb2, hbl⟩, k0, k1, k2, k3, k4, k5⟩
  have ZF : Hid (∀ w', Below (W1.alloc (.cells #[.int .i64 0, .int .i64 0, .int .i64 0, .slice none 0 0] 34)).heap.size (W1.alloc (.cells #[.int .i64 0, .int .i64 0, .int .i64 0, .slice none 0 0] 34)) w' → (w'.cell? ⟨W1.heap.size, 0, none⟩ = some (.int .i64 0) ∧ w'.cell? ⟨W1.heap.size, 1, none⟩ = some (.int .i64 0) ∧ w'.cell? ⟨W1.heap.size, 2, none⟩ = some (.int .i64 0) ∧ w'.cell? ⟨W1.heap.size, 3, none⟩ = some (.slice none 0 0)) ∧ (∀ j, w'.frozen? ⟨W1.heap.size, j, none⟩ = false) ∧ W1.heap.size < w'.heap.size) := by
   intro w' hb;exact at4 ((hb.block W1.heap.size (by simp)).trans (heap_alloc_new W1 _))
  obtain ⟨⟨k0, k1, k2, k3, k4, k5, k6, k7, k8, k9, k10, k11, k12, k13, k14, k15, k16, k17⟩, kf, kz⟩ := at18 HX1.out.box;have y1 : W1.heap.size ≠ K := by omega
  have y3 : K ≠ W1.heap.size := by omega
  clear k6 k7 k8 k9 k10 k11 k12 k13 k14 k15 k16 k17;generalize Tm.beginL X.d.b X.d.me X.d.n = Z at *
  go_wp2_with fail
  refine HLe.out.mono ?_;rintro r w2 ⟨rfl, rfl⟩;dsimp only
  go_upto_region 5 with fail
  go_cut [5, 6] from 18 to 35 (fun x y wy => ∃ P a c, x = .pointer (some ⟨P, 0, none⟩) ∧ y = .int .i64 Z.2 ∧ Hid (BBox w2 P Z.1 a c wy))
  case first =>
   go_region_held3 (fun W => W.cell? ⟨K, 0, none⟩ = some (.int .i64 X.d.me) ∧ W.cell? ⟨K, 1, none⟩ = some (.int .i64 X.d.n) ∧ W.cell? ⟨K, 2, none⟩ = some (.int .i64 X.d.b.t) ∧ W.cell? ⟨K, 3, none⟩ = some (.int .i64 X.d.b.v) ∧ W.cell? ⟨K, 4, none⟩ = some (.int .i64 X.d.b.r) ∧ W.cell? ⟨K, 5, none⟩ = some (.slice X.ba X.d.b.l.length X.bc)) (go_keep) (first | (go_at_call 90; refine (HCY.out (w2.alloc (.cells #[.int .i64 0, .int .i64 0, .int .i64 0, .slice none 0 0] 34)).drew (below1 _ _).drew).mono ?_; rintro r w5 ⟨a, c, rfl, HQ, ⟨i0, i1, i2, i3, i4, i5⟩⟩; obtain ⟨⟨m0, m1, m2, m3⟩, mf, mz⟩ := ZF.out w5 (below_via (Below.refl _ _).drew HQ.out.2.2)) | (go_at_call 90; refine (HCY.out w2.drew (Below.refl _ _).drew).mono ?_; rintro r w5 ⟨a, c, rfl, HQ, ⟨i0, i1, i2, i3, i4, i5⟩⟩))
   all_goals go_wp2_with fail
   all_goals go_meet
   ·exact ⟨w5.heap.size, a, c, rfl, rfl, hideIt (BBox.new HQ.out.1 HQ.out.2.1)⟩
   ·have hz := (HQ.out.2.2.block w2.heap.size (show w2.heap.size < (w2.alloc (.cells #[.int .i64 0, .int .i64 0, .int .i64 0, .slice none 0 0] 34)).heap.size by simp)).trans (heap_alloc_new w2 _)
    exact ⟨w2.heap.size, a, c, rfl, rfl, hideIt (BBox.put hz HQ.out.1 HQ.out.2.1 (Nat.le_refl _))⟩
  case rest =>
   obtain ⟨P, a, c, rfl, rfl, HB⟩ := hcut;clear HCY ZF y1 y3 k0 k1 k2 k3 k4 k5 kf kz HLe;obtain ⟨⟨m0, m1, m2, m3⟩, mf, mz⟩ := at4 HB.out.box;have HX3 := hideIt (HX1.out.keep HB.out.bel)
   by_cases hz0 : Z.2 = 0
   ·have hz1 : (Z.2 == 0) = true := beq_iff_eq.2 hz0;rw [if_neg (fun h => h hz0)] at HV;obtain ⟨hmay, hzl⟩ := HBB.out hz0;have HX4 := hideIt ((HX3.out.setBal Z.1 a c (own_base HB.out.own HX1.out.bel.size) hzl (apart_new HX1.out.rows.nd.n HB.out.own) (apart_new HX1.out.rows.nd.m HB.out.own)).setLd 0);obtain ⟨⟨k0, k1, k2, k3, k4, k5, k6, k7, k8, k9, k10, k11, k12, k13, k14, k15, k16, k17⟩, kf, kz⟩ := at18 HX3.out.box;have hPK : P ≠ K := by
     intro e1;have h1 := HX3.out.box;have h2 := HB.out.box;rw [e1, h1] at h2
     simp at h2
    clear HBB
    go_upto_region 9 with fail
    generalize (World.setCell _ ⟨K, 6, none⟩ _) = W4 at *;clear k0 k1 k2 k3 k4 k5 k6 k7 k8 k9 k10 k11 k12 k13 k14 k15 k16 k17 kf kz m0 m1 m2 m3 mf mz hPK HB HX3 HX1;have hnb : NB {X.d with b := Z.1, ld := 0} := ⟨hb.n, hb.me, ⟨Int.le_refl _, show (0 : Int) ≤ X.d.n by omega⟩, hmay, hb.L, hb.tx⟩
    by_cases hr3 : Z.1.r = 3
    ·rw [if_pos hr3] at HV;have HL2 : Hid (Calls Tryz.prog 87 #[.pointer (some ⟨K, 0, none⟩)] W4 fun r w' => r = .returned (.bool true) ∧ w' = W4) := hideIt (by
      have := leadsW_is HX4.out.box;rw [show decide (({X with d := {X.d with b := Z.1, ld := 0}, ba := a, bc := c, wt := true} : WkX).d.b.r = 3) = true from decide_eq_true hr3] at this;exact this)
     have HE := hideIt (leadK_is HX4.out hnb hr3 hM hR);clear hr3 HX4
     go_wp2_with fail
     refine HL2.out.mono ?_;rintro r w6 ⟨rfl, rfl⟩;dsimp only
     go_wp2_with fail
     refine HE.out.mono ?_;rintro r w7 ⟨Y, rfl, hv, hMl, hRl, hw⟩;dsimp only;have HW := hideIt hw;clear hw HE HL2;go_wp2;go_ret;refine ⟨Y, ?_, ?_, HW.out⟩
     ·rw [HV.out]
      rfl
     ·rw [HV.out, hv]
      rfl
    ·rw [if_neg hr3] at HV;have HL2 : Hid (Calls Tryz.prog 87 #[.pointer (some ⟨K, 0, none⟩)] W4 fun r w' => r = .returned (.bool false) ∧ w' = W4) := hideIt (by
      have := leadsW_is HX4.out.box;rw [show decide (({X with d := {X.d with b := Z.1, ld := 0}, ba := a, bc := c, wt := true} : WkX).d.b.r = 3) = false from decide_eq_false hr3] at this;exact this)
     have HE := hideIt (eachP_is (f := pollW) HX4.out hn hM (fun Y wy k hY hd hMl h1 h2 h3 => pollK_is hY k hMl));clear hr3 HX4
     go_wp2_with fail
     refine HL2.out.mono ?_;rintro r w6 ⟨rfl, rfl⟩;dsimp only
     go_wp2_with fail
     refine HE.out.mono ?_;rintro r w7 ⟨Y, rfl, hv, hd, hMl, hRl, hw⟩;dsimp only;have HW := hideIt hw;clear hw HE HL2;go_wp2;go_ret;refine ⟨Y, ?_, ?_, HW.out⟩
     ·rw [HV.out]
      rfl
     ·rw [HV.out, hv]
      rfl
   ·have hz1 : (Z.2 == 0) = false := beq_eq_false_iff_ne.2 hz0;rw [if_pos hz0] at HV;clear HBB hz0;go_wp2;go_ret;refine ⟨{X with wt := true}, ?_, ?_, HX3.out⟩
    ·rw [HV.out]
     rfl
    ·rw [HV.out]
     rfl
theorem grant_few (b : Tm.Bal) (qf qt qi qm li lm : Int) (h : b.l.length ≤ 1000000) : (Tm.grantL b qf qt qi qm li lm).1.l.length ≤ 1000000 := by
 have hh : (Tm.hearL b qt).l.length ≤ 1000000 := by
  unfold Tm.hearL
  split
  ·simp
  ·exact h
 unfold Tm.grantL
 split
 ·simp [Tm.zB]
 ·split
  ·simp [Tm.zB]
  ·split
   ·exact hh
   ·exact hh
set_option maxRecDepth 100000 in
set_option maxHeartbeats 16000000 in
theorem polledK_is {X : WkX} {K : Nat} {w wx : World} (h : WK w K X wx) (y : MsgX) (hs : X.M.length < 1000000) : Calls Tryz.prog 141 #[.pointer (some ⟨K, 0, none⟩), .agg (msgE y).toArray] wx fun r w' => ∃ Y' : WkX, r = .returned (.int .i64 0) ∧ Y'.v = pollED X.v y.m ∧ WK w K Y' w' := by
 have HX0 := hideIt (h.keep (below1 wx (.cells (msgE y).toArray 50)));have HP := hideIt (heap_alloc_new wx (.cells (msgE y).toArray 50));have hlG := grant_few X.d.b y.m.frm y.m.term y.m.pi y.m.pt (lastL X.d.L).1 (lastL X.d.L).2 h.rows.sb;have HV : Hid (pollED X.v y.m = tellW {X.v with d := {X.d with b := (Tm.grantL X.d.b y.m.frm y.m.term y.m.pi y.m.pt (lastL X.d.L).1 (lastL X.d.L).2).1}, wt := (Tm.grantL X.d.b y.m.frm y.m.term y.m.pi y.m.pt (lastL X.d.L).1 (lastL X.d.L).2).2.1} {msg0 2 y.m.frm with ok := (Tm.grantL X.d.b y.m.frm y.m.term y.m.pi y.m.pt (lastL X.d.L).1 (lastL X.d.L).2).2.1}) := hideIt rfl;have hKP : K ≠ wx.heap.size := by
  have := (Array.getElem?_eq_some_iff.1 h.box).1;omega
 clear h;unfold msgE at *
 go_enter Tryz.func141, Tryz.ntmps141
 go_upto_region 1 with fail
 generalize (World.alloc wx _) = W0 at *;generalize wx.heap.size = P at *;obtain ⟨⟨m0, m1, m2, m3, m4, m5, m6, m7, m8, m9, m10, m11, m12⟩, mf, mz⟩ := at13 HP.out;have HX1 := hideIt (HX0.out.keep (below1 W0 (.cells #[.int .i64 y.m.frm, .int .i64 y.m.term, .int .i64 y.m.pi, .int .i64 y.m.pt] 116)));have HP1 := hideIt (blkK HP.out (below1 W0 (.cells #[.int .i64 y.m.frm, .int .i64 y.m.term, .int .i64 y.m.pi, .int .i64 y.m.pt] 116)));have HQ1 := hideIt (heap_alloc_new W0 (.cells #[.int .i64 y.m.frm, .int .i64 y.m.term, .int .i64 y.m.pi, .int .i64 y.m.pt] 116));have hKQ : K ≠ W0.heap.size := by
  have := (Array.getElem?_eq_some_iff.1 HX0.out.box).1;omega
 have hPQ : P ≠ W0.heap.size := by omega
 go_upto_region 2 with fail
 generalize (World.alloc W0 _) = W1 at *;generalize W0.heap.size = Q at *;clear m0 m1 m2 m3 m4 m5 m6 m7 m8 m9 m10 m11 m12 mf mz HX0 HP;have HLC : Hid (∀ W, Below W1.heap.size W1 W → Calls Tryz.prog 82 #[.agg #[.int .i64 X.d.L.bi, .int .i64 X.d.L.bt, .slice X.la X.d.L.l.length X.lc, .int .i64 X.d.L.cm]] W fun r w' => r = .returned (.agg #[.int .i64 (lastL X.d.L).1, .int .i64 (lastL X.d.L).2]) ∧ Hid (Below W1.heap.size W1 w' ∧ Below W.heap.size W w') ∧ (w'.cell? ⟨K, 2, none⟩ = some (.int .i64 X.d.b.t) ∧ w'.cell? ⟨K, 3, none⟩ = some (.int .i64 X.d.b.v) ∧ w'.cell? ⟨K, 4, none⟩ = some (.int .i64 X.d.b.r) ∧ w'.cell? ⟨K, 5, none⟩ = some (.slice X.ba X.d.b.l.length X.bc) ∧ w'.cell? ⟨K, 7, none⟩ = some (.int .i64 X.d.L.bi) ∧ w'.cell? ⟨K, 8, none⟩ = some (.int .i64 X.d.L.bt) ∧ w'.cell? ⟨K, 9, none⟩ = some (.slice X.la X.d.L.l.length X.lc) ∧ w'.cell? ⟨K, 10, none⟩ = some (.int .i64 X.d.L.cm) ∧ w'.cell? ⟨Q, 0, none⟩ = some (.int .i64 y.m.frm) ∧ w'.cell? ⟨Q, 1, none⟩ = some (.int .i64 y.m.term) ∧ w'.cell? ⟨Q, 2, none⟩ = some (.int .i64 y.m.pi) ∧ w'.cell? ⟨Q, 3, none⟩ = some (.int .i64 y.m.pt))) := by
  intro W hW;refine (last_is X.d.L X.gl W (HX1.out.keep hW).rows.at_.2).mono ?_;rintro r w' ⟨rfl, hbl⟩;have hb2 := below_via hW hbl;obtain ⟨⟨k0, k1, k2, k3, k4, k5, k6, k7, k8, k9, k10, k11, k12, k13, k14, k15, k16, k17⟩, kf, kz⟩ := at18 (HX1.out.keep hb2).box;obtain ⟨⟨q0, q1, q2, q3⟩, qf, qz⟩ := at4 (blkK HQ1.out hb2)
  exact ⟨rfl, hideIt ⟨hb2, hbl⟩, k2, k3, k4, k5, k7, k8, k9, k10, q0, q1, q2, q3⟩
 have HGC : Hid (∀ W, Below W1.heap.size W1 W → Calls Tryz.prog 162 #[.agg #[.int .i64 X.d.b.t, .int .i64 X.d.b.v, .int .i64 X.d.b.r, .slice X.ba X.d.b.l.length X.bc], .agg #[.int .i64 y.m.frm, .int .i64 y.m.term, .int .i64 y.m.pi, .int .i64 y.m.pt], .agg #[.int .i64 (lastL X.d.L).1, .int .i64 (lastL X.d.L).2]] W fun r w' => ∃ a c, r = .returned (.tuple #[.agg #[.int .i64 (Tm.grantL X.d.b y.m.frm y.m.term y.m.pi y.m.pt (lastL X.d.L).1 (lastL X.d.L).2).1.t, .int .i64 (Tm.grantL X.d.b y.m.frm y.m.term y.m.pi y.m.pt (lastL X.d.L).1 (lastL X.d.L).2).1.v, .int .i64 (Tm.grantL X.d.b y.m.frm y.m.term y.m.pi y.m.pt (lastL X.d.L).1 (lastL X.d.L).2).1.r, .slice a (Tm.grantL X.d.b y.m.frm y.m.term y.m.pi y.m.pt (lastL X.d.L).1 (lastL X.d.L).2).1.l.length c], .bool (Tm.grantL X.d.b y.m.frm y.m.term y.m.pi y.m.pt (lastL X.d.L).1 (lastL X.d.L).2).2.1, .int .i64 (Tm.grantL X.d.b y.m.frm y.m.term y.m.pi y.m.pt (lastL X.d.L).1 (lastL X.d.L).2).2.2]) ∧ Hid (w'.ownsRow W1.heap.size 3 1 (.slice a (Tm.grantL X.d.b y.m.frm y.m.term y.m.pi y.m.pt (lastL X.d.L).1 (lastL X.d.L).2).1.l.length c) (Tm.grantL X.d.b y.m.frm y.m.term y.m.pi y.m.pt (lastL X.d.L).1 (lastL X.d.L).2).1.l.length ((Tm.grantL X.d.b y.m.frm y.m.term y.m.pi y.m.pt (lastL X.d.L).1 (lastL X.d.L).2).1.l.map Tm.iv) ∧ Below W1.heap.size W1 w' ∧ Below W.heap.size W w') ∧ (w'.cell? ⟨K, 2, none⟩ = some (.int .i64 X.d.b.t) ∧ w'.cell? ⟨K, 3, none⟩ = some (.int .i64 X.d.b.v) ∧ w'.cell? ⟨K, 4, none⟩ = some (.int .i64 X.d.b.r) ∧ w'.cell? ⟨K, 5, none⟩ = some (.slice X.ba X.d.b.l.length X.bc) ∧ w'.cell? ⟨K, 7, none⟩ = some (.int .i64 X.d.L.bi) ∧ w'.cell? ⟨K, 8, none⟩ = some (.int .i64 X.d.L.bt) ∧ w'.cell? ⟨K, 9, none⟩ = some (.slice X.la X.d.L.l.length X.lc) ∧ w'.cell? ⟨K, 10, none⟩ = some (.int .i64 X.d.L.cm) ∧ w'.cell? ⟨Q, 0, none⟩ = some (.int .i64 y.m.frm) ∧ w'.cell? ⟨Q, 1, none⟩ = some (.int .i64 y.m.term) ∧ w'.cell? ⟨Q, 2, none⟩ = some (.int .i64 y.m.pi) ∧ w'.cell? ⟨Q, 3, none⟩ = some (.int .i64 y.m.pt))) := by
  intro W hW;refine (Tm.grant_is X.d.b X.gb y.m.frm y.m.term y.m.pi y.m.pt (lastL X.d.L).1 (lastL X.d.L).2 W (HX1.out.keep hW).rows.at_.1).mono ?_;rintro r w' ⟨g, rfl, ho, hbl⟩;obtain ⟨a, c, rfl⟩ := Tm.own_len ho;have hb2 := below_via hW hbl;obtain ⟨⟨k0, k1, k2, k3, k4, k5, k6, k7, k8, k9, k10, k11, k12, k13, k14, k15, k16, k17⟩, kf, kz⟩ := at18 (HX1.out.keep hb2).box;obtain ⟨⟨q0, q1, q2, q3⟩, qf, qz⟩ := at4 (blkK HQ1.out hb2)
  exact ⟨a, c, rfl, hideIt ⟨own_base ho hW.size, hb2, hbl⟩, k2, k3, k4, k5, k7, k8, k9, k10, q0, q1, q2, q3⟩
 obtain ⟨⟨k0, k1, k2, k3, k4, k5, k6, k7, k8, k9, k10, k11, k12, k13, k14, k15, k16, k17⟩, kf, kz⟩ := at18 HX1.out.box;obtain ⟨⟨q0, q1, q2, q3⟩, qf, qz⟩ := at4 HQ1.out;have y1 : W1.heap.size ≠ K := by omega
 have y2 : W1.heap.size ≠ Q := by omega
 have y3 : K ≠ W1.heap.size := by omega
 have y4 : Q ≠ W1.heap.size := by omega
 clear k0 k1 k6 k11 k12 k13 k14 k15 k16 k17;generalize Tm.grantL X.d.b y.m.frm y.m.term y.m.pi y.m.pt (lastL X.d.L).1 (lastL X.d.L).2 = G at *;generalize (lastL X.d.L).1 = li at *;generalize (lastL X.d.L).2 = lm at *
 go_cut [6, 7, 8] from 17 to 32 (fun x y z wy => ∃ B a c, x = .pointer (some ⟨B, 0, none⟩) ∧ y = .bool G.2.1 ∧ z = .int .i64 G.2.2 ∧ Hid (BBox W1 B G.1 a c wy))
 case first =>
  clear HV
  go_region_held3 (fun W => W.cell? ⟨K, 2, none⟩ = some (.int .i64 X.d.b.t) ∧ W.cell? ⟨K, 3, none⟩ = some (.int .i64 X.d.b.v) ∧ W.cell? ⟨K, 4, none⟩ = some (.int .i64 X.d.b.r) ∧ W.cell? ⟨K, 5, none⟩ = some (.slice X.ba X.d.b.l.length X.bc) ∧ W.cell? ⟨K, 7, none⟩ = some (.int .i64 X.d.L.bi) ∧ W.cell? ⟨K, 8, none⟩ = some (.int .i64 X.d.L.bt) ∧ W.cell? ⟨K, 9, none⟩ = some (.slice X.la X.d.L.l.length X.lc) ∧ W.cell? ⟨K, 10, none⟩ = some (.int .i64 X.d.L.cm) ∧ W.cell? ⟨Q, 0, none⟩ = some (.int .i64 y.m.frm) ∧ W.cell? ⟨Q, 1, none⟩ = some (.int .i64 y.m.term) ∧ W.cell? ⟨Q, 2, none⟩ = some (.int .i64 y.m.pi) ∧ W.cell? ⟨Q, 3, none⟩ = some (.int .i64 y.m.pt)) (go_keep) (first
   | (go_at_call 82; refine (HLC.out (W1.alloc (.cells #[.int .i64 0, .int .i64 0, .int .i64 0, .slice none 0 0] 34)).drew (below1 _ _).drew).mono ?_; rintro r w5 ⟨rfl, HQ5, ⟨i0, i1, i2, i3, i4, i5, i6, i7, i8, i9, i10, i11⟩⟩; have HZ5 : Hid (w5.heap[W1.heap.size]? = some (.cells #[.int .i64 0, .int .i64 0, .int .i64 0, .slice none 0 0] 34 (0, 0))) := hideIt ((HQ5.out.2.block W1.heap.size (show W1.heap.size < (W1.alloc (.cells #[.int .i64 0, .int .i64 0, .int .i64 0, .slice none 0 0] 34)).heap.size by simp)).trans (heap_alloc_new W1 _)))
   | (go_at_call 82; refine (HLC.out W1.drew (Below.refl _ _).drew).mono ?_; rintro r w5 ⟨rfl, HQ5, ⟨i0, i1, i2, i3, i4, i5, i6, i7, i8, i9, i10, i11⟩⟩)
   | (go_at_call 162; refine (HGC.out (w5.alloc (.cells #[.int .i64 0, .int .i64 0, .int .i64 0, .slice none 0 0] 34)) (below_via HQ5.out.1 (below1 w5 _))).mono ?_; have y5 : K ≠ w5.heap.size := Nat.ne_of_lt (Nat.lt_of_lt_of_le kz HQ5.out.1.size); have y6 : Q ≠ w5.heap.size := Nat.ne_of_lt (Nat.lt_of_lt_of_le qz HQ5.out.1.size); have y7 : w5.heap.size ≠ K := y5.symm; have y8 : w5.heap.size ≠ Q := y6.symm; rintro r w6 ⟨a, c, rfl, HR, ⟨j0, j1, j2, j3, j4, j5, j6, j7, j8, j9, j10, j11⟩⟩; have HZ6 : Hid (w6.heap[w5.heap.size]? = some (.cells #[.int .i64 0, .int .i64 0, .int .i64 0, .slice none 0 0] 34 (0, 0))) := hideIt ((HR.out.2.2.block w5.heap.size (show w5.heap.size < (w5.alloc (.cells #[.int .i64 0, .int .i64 0, .int .i64 0, .slice none 0 0] 34)).heap.size by simp)).trans (heap_alloc_new w5 _)); obtain ⟨⟨z0, z1, z2, z3⟩, zf, zz⟩ := at4 HZ6.out)
   | (go_at_call 162; refine (HGC.out w5 HQ5.out.1).mono ?_; rintro r w6 ⟨a, c, rfl, HR, ⟨j0, j1, j2, j3, j4, j5, j6, j7, j8, j9, j10, j11⟩⟩; have HZ6 : Hid (w6.heap[W1.heap.size]? = some (.cells #[.int .i64 0, .int .i64 0, .int .i64 0, .slice none 0 0] 34 (0, 0))) := hideIt (blkK HZ5.out HR.out.2.2); obtain ⟨⟨z0, z1, z2, z3⟩, zf, zz⟩ := at4 HZ6.out)
   | (go_at_call 162; refine (HGC.out w5 HQ5.out.1).mono ?_; rintro r w6 ⟨a, c, rfl, HR, ⟨j0, j1, j2, j3, j4, j5, j6, j7, j8, j9, j10, j11⟩⟩))
  all_goals go_wp2_with fail
  all_goals go_meet
  all_goals first
   | exact ⟨w5.heap.size, a, c, rfl, rfl, rfl, hideIt (BBox.put HZ6.out HR.out.1 HR.out.2.1 HQ5.out.1.size)⟩
   | exact ⟨W1.heap.size, a, c, rfl, rfl, rfl, hideIt (BBox.put HZ6.out HR.out.1 HR.out.2.1 (Nat.le_refl _))⟩
   | exact ⟨w6.heap.size, a, c, rfl, rfl, rfl, hideIt (BBox.new HR.out.1 HR.out.2.1)⟩
 case rest =>
  obtain ⟨B, a, c, rfl, rfl, rfl, HB⟩ := hcut;clear HLC HGC y1 y2 y3 y4 q0 q1 q2 q3 qf qz k2 k3 k4 k5 k7 k8 k9 k10 kf kz;obtain ⟨⟨m0, m1, m2, m3⟩, mf, mz⟩ := at4 HB.out.box;have HX3 := hideIt (HX1.out.keep HB.out.bel);have HP3 := hideIt (blkK HP1.out HB.out.bel);have HX4 := hideIt ((HX3.out.setBal G.1 a c (own_base HB.out.own HX1.out.bel.size) hlG (apart_new HX1.out.rows.nd.n HB.out.own) (apart_new HX1.out.rows.nd.m HB.out.own)).setWt G.2.1);have hBK : B ≠ K := by
   intro e1;have h1 := HX3.out.box;have h2 := HB.out.box;rw [e1, h1] at h2
   simp at h2
  have hPK : P ≠ K := fun e1 => hKP e1.symm
  have HPP := hideIt (setOther (w := wc) (b := K) (j := 2) (.int .i64 G.1.t) HP3.out hPK);have HPP2 := hideIt (setOther (b := K) (j := 3) (.int .i64 G.1.v) HPP.out hPK);have HPP3 := hideIt (setOther (b := K) (j := 4) (.int .i64 G.1.r) HPP2.out hPK);have HPP4 := hideIt (setOther (b := K) (j := 5) (.slice a G.1.l.length c) HPP3.out hPK);have HPP5 := hideIt (setOther (b := K) (j := 17) (.bool G.2.1) HPP4.out hPK);obtain ⟨⟨k0, k1, k2, k3, k4, k5, k6, k7, k8, k9, k10, k11, k12, k13, k14, k15, k16, k17⟩, kf, kz⟩ := at18 HX3.out.box;clear HPP HPP2 HPP3 HPP4
  go_upto_region 5 with fail
  generalize (World.setCell _ ⟨K, 17, none⟩ _) = W4 at *;clear k0 k1 k2 k3 k4 k5 k6 k7 k8 k9 k10 k11 k12 k13 k14 k15 k16 k17 kf kz m0 m1 m2 m3 mf mz hBK HB HX3 HX1 HP1 HP3;obtain ⟨⟨m0, m1, m2, m3, m4, m5, m6, m7, m8, m9, m10, m11, m12⟩, mf, mz⟩ := at13 HPP5.out;have HT := hideIt (tell_is HX4.out ⟨{msg0 2 y.m.frm with ok := G.2.1}, none, 0⟩ (EntO.nil _ _) hs);unfold msgE msg0 noT at HT;simp only [List.length_nil] at HT
  go_wp2_with fail
  refine HT.out.mono ?_;rintro r w7 ⟨a7, c7, rfl, hw⟩;dsimp only;have HW := hideIt hw;clear hw HT;go_wp2;go_ret
  first
   | refine ⟨_, ?_, HW.out⟩
   | refine ⟨_, rfl, ?_, HW.out⟩
  rw [HV.out]
  simp [WkX.v, tellW, msg0, noT]
theorem count_few (b : Tm.Bal) (x y : Int) (ok : Bool) (n : Int) (h : b.l.length ≤ 1000) : (Tm.countL b x y ok n).1.l.length ≤ 1000000 := by
 have hh : (Tm.hearL b y).l.length ≤ 1000 := by
  unfold Tm.hearL
  split
  ·simp
  ·exact h
 unfold Tm.countL
 split
 ·simp [Tm.zB]
 ·split
  ·simp [Tm.zB]
  ·split
   ·simp [Tm.zB]
   ·split
    ·simp only [Tm.voteL];unfold Tm.addL
     split
     ·omega
     ·rw [Tm.insL_len];omega
    ·exact Nat.le_trans hh (by omega)
set_option maxRecDepth 100000 in
set_option maxHeartbeats 16000000 in
theorem grantedK_is {X : WkX} {K : Nat} {w wx : World} (h : WK w K X wx) (y : MsgX) (hb : NB X.d) (hbl : X.d.b.l.length ≤ 1000) (hmay : (Tm.countL X.d.b y.m.frm y.m.term y.m.ok X.d.n).1.r = 3 → Tm.mayB (Tm.countL X.d.b y.m.frm y.m.term y.m.ok X.d.n).1 = true) (hM : X.M.length + 10 ≤ 1000000) (hR : X.R.length + 10 ≤ 1000000) : Calls Tryz.prog 142 #[.pointer (some ⟨K, 0, none⟩), .agg (msgE y).toArray] wx fun r w' => ∃ Y' : WkX, r = .returned (.int .i64 (granED X.v y.m).2) ∧ Y'.v = (granED X.v y.m).1 ∧ WK w K Y' w' := by
 have HX0 := hideIt (h.keep (below1 wx (.cells (msgE y).toArray 50)));have HP := hideIt (heap_alloc_new wx (.cells (msgE y).toArray 50));have hlC := count_few X.d.b y.m.frm y.m.term y.m.ok X.d.n hbl;have HV : Hid (granED X.v y.m = if X.d.b.r = 3 ∨ (Tm.countL X.d.b y.m.frm y.m.term y.m.ok X.d.n).1.r ≠ 3 then ({X.v with d := {X.d with b := (Tm.countL X.d.b y.m.frm y.m.term y.m.ok X.d.n).1}}, 0) else leadW {X.v with d := {X.d with b := (Tm.countL X.d.b y.m.frm y.m.term y.m.ok X.d.n).1}}) := hideIt rfl;have hKP : K ≠ wx.heap.size := by
  have := (Array.getElem?_eq_some_iff.1 h.box).1;omega
 have HLe := hideIt (leadsW_is HX0.out.box);clear h;unfold msgE at *
 go_enter Tryz.func142, Tryz.ntmps142
 go_upto_region 1 with fail
 generalize (World.alloc wx _) = W0 at *;generalize wx.heap.size = P at *
 go_wp2_with fail
 refine HLe.out.mono ?_;rintro r w2 ⟨rfl, rfl⟩;dsimp only;have HGC : Hid (∀ W, Below w2.heap.size w2 W → Calls Tryz.prog 163 #[.agg #[.int .i64 X.d.b.t, .int .i64 X.d.b.v, .int .i64 X.d.b.r, .slice X.ba X.d.b.l.length X.bc], .int .i64 y.m.frm, .int .i64 y.m.term, .bool y.m.ok, .int .i64 X.d.n] W fun r w' => ∃ a c, r = .returned (.tuple #[.agg #[.int .i64 (Tm.countL X.d.b y.m.frm y.m.term y.m.ok X.d.n).1.t, .int .i64 (Tm.countL X.d.b y.m.frm y.m.term y.m.ok X.d.n).1.v, .int .i64 (Tm.countL X.d.b y.m.frm y.m.term y.m.ok X.d.n).1.r, .slice a (Tm.countL X.d.b y.m.frm y.m.term y.m.ok X.d.n).1.l.length c], .int .i64 (Tm.countL X.d.b y.m.frm y.m.term y.m.ok X.d.n).2]) ∧ Hid (w'.ownsRow w2.heap.size 3 1 (.slice a (Tm.countL X.d.b y.m.frm y.m.term y.m.ok X.d.n).1.l.length c) (Tm.countL X.d.b y.m.frm y.m.term y.m.ok X.d.n).1.l.length ((Tm.countL X.d.b y.m.frm y.m.term y.m.ok X.d.n).1.l.map Tm.iv) ∧ Below w2.heap.size w2 w') ∧ (w'.cell? ⟨K, 2, none⟩ = some (.int .i64 X.d.b.t) ∧ w'.cell? ⟨K, 3, none⟩ = some (.int .i64 X.d.b.v) ∧ w'.cell? ⟨K, 4, none⟩ = some (.int .i64 X.d.b.r) ∧ w'.cell? ⟨K, 5, none⟩ = some (.slice X.ba X.d.b.l.length X.bc) ∧ w'.cell? ⟨K, 1, none⟩ = some (.int .i64 X.d.n) ∧ w'.cell? ⟨P, 1, none⟩ = some (.int .i64 y.m.frm) ∧ w'.cell? ⟨P, 3, none⟩ = some (.int .i64 y.m.term) ∧ w'.cell? ⟨P, 8, none⟩ = some (.bool y.m.ok)) ∧ (∀ j, w'.frozen? ⟨K, j, none⟩ = false) ∧ K < w'.heap.size) := by
  intro W hW;refine (Tm.count_is X.d.b X.gb y.m.frm y.m.term y.m.ok X.d.n W (HX0.out.keep hW).rows.at_.1).mono ?_;rintro r w' ⟨g, rfl, ho, hbl⟩;obtain ⟨a, c, rfl⟩ := Tm.own_len ho;have hb2 := below_via hW hbl;obtain ⟨⟨k0, k1, k2, k3, k4, k5, k6, k7, k8, k9, k10, k11, k12, k13, k14, k15, k16, k17⟩, kf, kz⟩ := at18 (HX0.out.keep hb2).box;obtain ⟨⟨m0, m1, m2, m3, m4, m5, m6, m7, m8, m9, m10, m11, m12⟩, mf, mz⟩ := at13 (blkK HP.out hb2)
  exact ⟨a, c, rfl, hideIt ⟨own_base ho hW.size, hb2⟩, ⟨k2, k3, k4, k5, k1, m1, m3, m8⟩, kf, kz⟩
 obtain ⟨⟨k0, k1, k2, k3, k4, k5, k6, k7, k8, k9, k10, k11, k12, k13, k14, k15, k16, k17⟩, kf, kz⟩ := at18 HX0.out.box;obtain ⟨⟨m0, m1, m2, m3, m4, m5, m6, m7, m8, m9, m10, m11, m12⟩, mf, mz⟩ := at13 HP.out;have hPK : P ≠ K := fun e1 => hKP e1.symm
 clear k0 k6 k7 k8 k9 k10 k11 k12 k13 k14 k15 k16 k17 m0 m2 m4 m5 m6 m7 m9 m10 m11 m12 HLe;generalize Tm.countL X.d.b y.m.frm y.m.term y.m.ok X.d.n = C at *
 go_upto_region 2 with fail
 go_cut [] from 8 to 31 (fun wy => Hid (∃ a c, WK w K {X with d := {X.d with b := C.1}, ba := a, bc := c} wy))
 case first =>
  clear HV hmay;refine wp_region_held_drew (S := fun W => W.cell? ⟨K, 1, none⟩ = some (.int .i64 X.d.n) ∧ W.cell? ⟨P, 1, none⟩ = some (.int .i64 y.m.frm) ∧ W.cell? ⟨P, 3, none⟩ = some (.int .i64 y.m.term) ∧ W.cell? ⟨P, 8, none⟩ = some (.bool y.m.ok)) (by rfl) ⟨k1, m1, m3, m8⟩ (fun hHeld => ?_);refine wpAnyH_take (i := 0) (oi := ⟨some 9, _, _, _, _, _⟩) (v := ?_) rfl (by kernel_rfl) (by kernel_rfl) (by kernel_rfl) (fun _ _ _ h => h) (Or.inl ⟨by rfl, ?_⟩) (by assumption) ?_
  rotate_left
  ·intro w5 hSw
   (try dsimp only at hSw)
   go_simp
   (try with_reducible rfl)
  try simp only [aP, aQ, aA, aB, aC]
  refine wpAnyH_take (i := 1) (oi := ⟨some 10, _, _, _, _, _⟩) (v := ?_) rfl (by kernel_rfl) (by kernel_rfl) (by kernel_rfl) (fun _ _ _ h => h) (Or.inl ⟨by rfl, ?_⟩) (by assumption) ?_
  rotate_left
  ·intro w5 hSw
   (try dsimp only at hSw)
   go_simp
   (try with_reducible rfl)
  try simp only [aP, aQ, aA, aB, aC]
  refine wpAnyH_take (i := 2) (oi := ⟨some 11, _, _, _, _, _⟩) (v := ?_) rfl (by kernel_rfl) (by kernel_rfl) (by kernel_rfl) (fun _ _ _ h => h) (Or.inl ⟨by rfl, ?_⟩) (by assumption) ?_
  rotate_left
  ·intro w5 hSw
   (try dsimp only at hSw)
   go_simp
   (try with_reducible rfl)
  try simp only [aP, aQ, aA, aB, aC]
  refine wpAnyH_take (i := 3) (oi := ⟨some 12, _, _, _, _, _⟩) (v := ?_) rfl (by kernel_rfl) (by kernel_rfl) (by kernel_rfl) (fun _ _ _ h => h) (Or.inl ⟨by rfl, ?_⟩) (by assumption) ?_
  rotate_left
  ·intro w5 hSw
   (try dsimp only at hSw)
   go_simp
   (try with_reducible rfl)
  try simp only [aP, aQ, aA, aB, aC]
  refine wpAnyH_take (i := 4) (oi := ⟨some 13, _, _, _, _, _⟩) (v := ?_) rfl (by kernel_rfl) (by kernel_rfl) (by kernel_rfl) (fun _ _ _ h => h) (Or.inl ⟨by rfl, ?_⟩) (by assumption) ?_
  rotate_left
  ·intro w5 hSw
   (try dsimp only at hSw)
   go_simp
   (try with_reducible rfl)
  try simp only [aP, aQ, aA, aB, aC]
  refine wpAnyH_take (i := 6) (oi := ⟨some 15, _, _, _, _, _⟩) (v := ?_) rfl (by kernel_rfl) (by kernel_rfl) (by kernel_rfl) (fun _ _ _ h => h) (Or.inl ⟨by rfl, ?_⟩) (by assumption) ?_
  rotate_left
  ·intro w5 hSw
   (try dsimp only at hSw)
   go_simp
   (try with_reducible rfl)
  try simp only [aP, aQ, aA, aB, aC]
  refine wpAnyH_take (i := 7) (oi := ⟨some 16, _, _, _, _, _⟩) (v := ?_) rfl (by kernel_rfl) (by kernel_rfl) (by kernel_rfl) (fun _ _ _ h => h) (Or.inl ⟨by rfl, ?_⟩) (by assumption) ?_
  rotate_left
  ·intro w5 hSw
   (try dsimp only at hSw)
   go_simp
   (try with_reducible rfl)
  try simp only [aP, aQ, aA, aB, aC]
  refine wpAnyH_take (i := 8) (oi := ⟨some 17, _, _, _, _, _⟩) (v := ?_) rfl (by kernel_rfl) (by kernel_rfl) (by kernel_rfl) (fun _ _ _ h => h) (Or.inl ⟨by rfl, ?_⟩) (by assumption) ?_
  rotate_left
  ·intro w5 hSw
   (try dsimp only at hSw)
   go_simp
   (try with_reducible rfl)
  try simp only [aP, aQ, aA, aB, aC]
  refine wpAnyH_take (i := 9) (oi := ⟨some 18, _, _, _, _, _⟩) (v := ?_) rfl (by kernel_rfl) (by kernel_rfl) (by kernel_rfl) (fun _ _ _ h => h) (Or.inl ⟨by rfl, ?_⟩) (by assumption) ?_
  rotate_left
  ·intro w5 hSw
   (try dsimp only at hSw)
   go_simp
   (try with_reducible rfl)
  try simp only [aP, aQ, aA, aB, aC]
  refine wpAnyH_take (i := 10) (oi := ⟨some 19, _, _, _, _, _⟩) (v := ?_) rfl (by kernel_rfl) (by kernel_rfl) (by kernel_rfl) (fun _ _ _ h => h) (Or.inl ⟨by rfl, ?_⟩) (by assumption) ?_
  rotate_left
  ·intro w5 hSw
   (try dsimp only at hSw)
   go_simp
   (try with_reducible rfl)
  try simp only [aP, aQ, aA, aB, aC]
  refine wpAnyH_take (i := 11) (oi := ⟨some 20, _, _, _, _, _⟩) (v := ?_) rfl (by kernel_rfl) (by kernel_rfl) (by kernel_rfl) (fun _ _ _ h => h) (Or.inl ⟨by rfl, ?_⟩) (by assumption) ?_
  rotate_left
  ·intro w5 hSw
   (try dsimp only at hSw)
   go_simp
   (try with_reducible rfl)
  try simp only [aP, aQ, aA, aB, aC]
  refine wpAnyH_take (i := 12) (oi := ⟨some 21, _, _, _, _, _⟩) (v := ?_) rfl (by kernel_rfl) (by kernel_rfl) (by kernel_rfl) (fun _ _ _ h => h) (Or.inl ⟨by rfl, ?_⟩) (by assumption) ?_
  rotate_left
  ·intro w5 hSw
   (try dsimp only at hSw)
   go_simp
   (try with_reducible rfl)
  try simp only [aP, aQ, aA, aB, aC]
  refine wpAnyH_take (i := 13) (oi := ⟨some 22, _, _, _, _, _⟩) (v := ?_) rfl (by kernel_rfl) (by kernel_rfl) (by kernel_rfl) (fun _ _ _ h => h) (Or.inl ⟨by rfl, ?_⟩) (by assumption) ?_
  rotate_left
  ·intro w5 hSw
   (try dsimp only at hSw)
   go_simp
   (try with_reducible rfl)
  try simp only [aP, aQ, aA, aB, aC]
  refine wpAnyH_take (i := 14) (oi := ⟨some 23, _, _, _, _, _⟩) (v := ?_) rfl (by kernel_rfl) (by kernel_rfl) (by kernel_rfl) (fun _ _ _ h => h) (Or.inl ⟨by rfl, ?_⟩) (by assumption) ?_
  rotate_left
  ·intro w5 hSw
   (try dsimp only at hSw)
   go_simp
   (try with_reducible rfl)
  try simp only [aP, aQ, aA, aB, aC]
  refine wpAnyH_take (i := 15) (oi := ⟨some 24, _, _, _, _, _⟩) (v := ?_) rfl (by kernel_rfl) (by kernel_rfl) (by kernel_rfl) (fun _ _ _ h => h) (Or.inl ⟨by rfl, ?_⟩) (by assumption) ?_
  rotate_left
  ·intro w5 hSw
   (try dsimp only at hSw)
   go_simp
   (try with_reducible rfl)
  try simp only [aP, aQ, aA, aB, aC]
  refine wpAnyH_take (i := 16) (oi := ⟨some 25, _, _, _, _, _⟩) (v := ?_) rfl (by kernel_rfl) (by kernel_rfl) (by kernel_rfl) (fun _ _ _ h => h) (Or.inl ⟨by rfl, ?_⟩) (by assumption) ?_
  rotate_left
  ·intro w5 hSw
   (try dsimp only at hSw)
   go_simp
   (try with_reducible rfl)
  try simp only [aP, aQ, aA, aB, aC]
  refine wpAnyH_ready (rs := [5]) (by kernel_rfl) (by simp) ?_;refine AllReadyH.cons (o := ⟨some 14, _, _, _, _, _⟩) rfl (fun Kx hK => ?_) AllReadyH.nil;go_simp;refine hK.out _ _ hHeld (fun hHeld => ?_);clear hK Kx
  try simp only [aP, aQ, aA, aB, aC]
  refine wpAnyH_ready (rs := [17]) (by kernel_rfl) (by simp) ?_;refine AllReadyH.cons (o := ⟨some 26, _, _, _, _, _⟩) rfl (fun Kx hK => ?_) AllReadyH.nil;go_simp
  go_at_call 163
  refine (HGC.out _ (by first | exact (Below.refl _ _).drew | exact Below.refl _ _)).mono ?_;rintro r w6 ⟨a, c, rfl, HR, ⟨j0, j1, j2, j3, j4, j5, j6, j7⟩, jf, jz⟩;refine hK.out _ _ ⟨j4, j5, j6, j7⟩ (fun hHeld => ?_);clear hK Kx
  try simp only [aP, aQ, aA, aB, aC]
  refine wpAnyH_take (i := 18) (oi := ⟨some 8, _, _, _, _, _⟩) (v := ?_) rfl (by kernel_rfl) (by kernel_rfl) (by kernel_rfl) (fun _ _ _ h => h) (Or.inl ⟨by rfl, ?_⟩) (by assumption) ?_
  rotate_left
  ·intro w5 hSw
   (try dsimp only at hSw)
   go_simp
   (try with_reducible rfl)
  try simp only [aP, aQ, aA, aB, aC]
  refine wpAnyH_take (i := 19) (oi := ⟨some 27, _, _, _, _, _⟩) (v := ?_) rfl (by kernel_rfl) (by kernel_rfl) (by kernel_rfl) (fun _ _ _ h => h) (Or.inl ⟨by rfl, ?_⟩) (by assumption) ?_
  rotate_left
  ·intro w5 hSw
   (try dsimp only at hSw)
   go_simp
   (try with_reducible rfl)
  try simp only [aP, aQ, aA, aB, aC]
  refine wpAnyH_take (i := 20) (oi := ⟨some 28, _, _, _, _, _⟩) (v := ?_) rfl (by kernel_rfl) (by kernel_rfl) (by kernel_rfl) (fun _ _ _ h => h) (Or.inl ⟨by rfl, ?_⟩) (by assumption) ?_
  rotate_left
  ·intro w5 hSw
   (try dsimp only at hSw)
   go_simp
   (try with_reducible rfl)
  try simp only [aP, aQ, aA, aB, aC]
  refine wpAnyH_take (i := 21) (oi := ⟨some 29, _, _, _, _, _⟩) (v := ?_) rfl (by kernel_rfl) (by kernel_rfl) (by kernel_rfl) (fun _ _ _ h => h) (Or.inl ⟨by rfl, ?_⟩) (by assumption) ?_
  rotate_left
  ·intro w5 hSw
   (try dsimp only at hSw)
   go_simp
   (try with_reducible rfl)
  try simp only [aP, aQ, aA, aB, aC]
  refine wpAnyH_take (i := 22) (oi := ⟨some 30, _, _, _, _, _⟩) (v := ?_) rfl (by kernel_rfl) (by kernel_rfl) (by kernel_rfl) (fun _ _ _ h => h) (Or.inl ⟨by rfl, ?_⟩) (by assumption) ?_
  rotate_left
  ·intro w5 hSw
   (try dsimp only at hSw)
   go_simp
   (try with_reducible rfl)
  try simp only [aP, aQ, aA, aB, aC]
  refine wpAnyH_take (i := 23) (oi := ⟨some 31, _, _, _, _, _⟩) (v := ?_) rfl (by kernel_rfl) (by kernel_rfl) (by kernel_rfl) (fun _ _ _ h => h) (Or.inl ⟨by rfl, ?_⟩) (by assumption) ?_
  rotate_left
  ·intro w5 hSw
   (try dsimp only at hSw)
   go_simp
   (try with_reducible rfl)
  try simp only [aP, aQ, aA, aB, aC]
  refine wpAnyH_ready (rs := [24]) (by kernel_rfl) (by simp) ?_;refine AllReadyH.cons (o := ⟨none, _, _, _, _, _⟩) rfl (fun Kx hK => ?_) AllReadyH.nil;go_simp;refine hK.out _ _ (by simp [*, World.cell?_setCell_other]) (fun hHeld => ?_);clear hK Kx
  try simp only [aP, aQ, aA, aB, aC]
  refine wpAnyH_done (by kernel_rfl) ?_ _;clear hHeld
  all_goals go_wp2_with fail
  all_goals go_meet
  all_goals exact hideIt ⟨a, c, (HX0.out.keep HR.out.2).setBal C.1 a c (own_base HR.out.1 HX0.out.bel.size) hlC (apart_new HX0.out.rows.nd.n HR.out.1) (apart_new HX0.out.rows.nd.m HR.out.1)⟩
 case rest =>
  obtain ⟨a, c, hw⟩ := hcut.out;have HX1 := hideIt hw;clear hcut hw HGC k1 k2 k3 k4 k5 kf kz m1 m3 m8 mf mz
  by_cases hr : X.d.b.r = 3
  ·rw [if_pos (.inl hr)] at HV;have hd : decide (X.d.b.r = 3) = true := decide_eq_true hr;go_wp2;go_ret
   first
    | refine ⟨_, ?_, ?_, HX1.out⟩
    | refine ⟨?_, _, ?_, HX1.out⟩
   ·rw [HV.out]
    first | rfl | skip
   ·rw [HV.out]
    rfl
  ·have hd : decide (X.d.b.r = 3) = false := decide_eq_false hr
   by_cases hr3 : C.1.r = 3
   ·rw [if_neg (fun h => h.elim hr (fun h => h hr3))] at HV;have HL2 : Hid (Calls Tryz.prog 87 #[.pointer (some ⟨K, 0, none⟩)] wc fun r w' => r = .returned (.bool true) ∧ w' = wc) := hideIt (by
     have := leadsW_is HX1.out.box;rw [show decide (({X with d := {X.d with b := C.1}, ba := a, bc := c} : WkX).d.b.r = 3) = true from decide_eq_true hr3] at this;exact this)
    have hnb : NB {X.d with b := C.1} := ⟨hb.n, hb.me, hb.ld, hmay hr3, hb.L, hb.tx⟩;have HE := hideIt (leadK_is HX1.out hnb hr3 hM hR);clear hr3 HX1 hr
    go_wp2_with fail
    refine HL2.out.mono ?_;rintro r w6 ⟨rfl, rfl⟩;dsimp only
    go_wp2_with fail
    refine HE.out.mono ?_;rintro r w7 ⟨Y, rfl, hv, hMl, hRl, hw⟩;dsimp only;have HW := hideIt hw;clear hw HE HL2;go_wp2;go_ret;refine ⟨Y, ?_, ?_, HW.out⟩
    ·rw [HV.out]
     rfl
    ·rw [HV.out, hv]
     rfl
   ·rw [if_pos (.inr hr3)] at HV;have HL2 : Hid (Calls Tryz.prog 87 #[.pointer (some ⟨K, 0, none⟩)] wc fun r w' => r = .returned (.bool false) ∧ w' = wc) := hideIt (by
     have := leadsW_is HX1.out.box;rw [show decide (({X with d := {X.d with b := C.1}, ba := a, bc := c} : WkX).d.b.r = 3) = false from decide_eq_false hr3] at this;exact this)
    clear hr3 hr
    go_wp2_with fail
    refine HL2.out.mono ?_;rintro r w6 ⟨rfl, rfl⟩;dsimp only;go_wp2;go_ret
    first
     | refine ⟨_, ?_, ?_, HX1.out⟩
     | refine ⟨?_, _, ?_, HX1.out⟩
    ·rw [HV.out]
     first | rfl | skip
    ·rw [HV.out]
     rfl
theorem hear_ms (W : WkV) (t : Int) : (hearW W t).ms = W.ms := by
 unfold hearW
 split
 ·rfl
 ·rfl
end Go.Proofs.YtcaehfkfohianaaGreat
