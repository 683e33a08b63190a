/- The statement on questions, walked. -/
import Derived.Test.YtkoecdcbopkkbaaGr
namespace Go.Proofs.Ytkoecdcbopkkbaa
open Go.RowKit
open Go.Sort
set_option maxHeartbeats 16000000 in
set_option maxRecDepth 100000 in
theorem grants_walk (b : Bal) (g : Value) (qf qt qi qm li lm : Int) (w : World) (h : GotAt w g b.l) : Calls Try.prog 4 #[balV b g, .agg #[.int .i64 qf, .int .i64 qt, .int .i64 qi, .int .i64 qm], .agg #[.int .i64 li, .int .i64 lm]] w fun e w' => e = .returned (.bool true) ∧ Below w.heap.size w w' := by
  have HC := hideIt (fun W hW => copy_is b g W (h.keep hW))
  have H1 := hideIt (fun W g hg => grant_is b g qf qt qi qm li lm W hg)
  have H2 := hideIt (fun W g hg => rgrant_is b g qf qt qi qm li lm W hg)
  have HL := hideIt (fun W => live_is W)
  have HA := hideIt (fun W => less_g qi qm li lm W)
  have HB := hideIt (fun W => rless_g qi qm li lm W)
  have HA2 := hideIt (fun W => less_g li lm qi qm W)
  have HB2 := hideIt (fun W => rless_g li lm qi qm W)
  generalize lessB qi qm li lm = p1 at *
  generalize lessB li lm qi qm = p2 at *
  have lb := h.1
  have lx := grant_len b qf qt qi qm li lm
  have HS0 := hideIt (fun g k W hg hk => same_is b g k W hg hk)
  obtain ⟨⟨X, ok, ex⟩, eX⟩ : ∃ X, grantL b qf qt qi qm li lm = X := ⟨_, rfl⟩
  rw [eX] at H1 H2 lx
  simp only at lx
  have LB := hideIt lb
  have LX := hideIt lx
  have HSX := hideIt (fun g k W hg hk => same_g X g k W hg hk)
  have HSY := hideIt (fun g k W hg hk => same_g b g k W hg hk)
  have HPX := hideIt (fun g B W hg => spoil_is X g B W hg)
  have E0 := hideIt ((Ent.first h).keep (below2 _ (.cells #[.int .i64 qf, .int .i64 qt, .int .i64 qi, .int .i64 qm] 39) (.cells #[.int .i64 li, .int .i64 lm] 37)))
  have A0 := hideIt (three_heap w (.cells #[.int .i64 b.t, .int .i64 b.v, .int .i64 b.r, g] 26) (.cells #[.int .i64 qf, .int .i64 qt, .int .i64 qi, .int .i64 qm] 39) (.cells #[.int .i64 li, .int .i64 lm] 37))
  have D0 := hideIt (below3 w (.cells #[.int .i64 b.t, .int .i64 b.v, .int .i64 b.r, g] 26) (.cells #[.int .i64 qf, .int .i64 qt, .int .i64 qi, .int .i64 qm] 39) (.cells #[.int .i64 li, .int .i64 lm] 37))
  obtain ⟨ga, gc, rfl, _⟩ := h.open
  unfold balV at HC H1 H2 HS0 HSX HSY HPX ⊢
  have hex : (ex != ex) = false := by simp
  have hok : (ok != ok) = false := by simp
  have hp1 : (p1 != p1) = false := by simp
  have hp2 : (p2 != p2) = false := by simp
  clear eX lb lx h
  go_enter Try.func4, Try.ntmps4
  go_wp2_with fail
  refine (HC.out _ D0.out).mono ?_
  rintro e w1 ⟨go, rfl, h1, h2⟩
  dsimp only
  obtain ⟨oa, oc, rfl⟩ := own_len h1
  unfold balV
  have S1 := hideIt (below_via h2 (below1 w1 (.cells #[.int .i64 b.t, .int .i64 b.v, .int .i64 b.r, .slice oa b.l.length oc] 26)))
  have E1 := hideIt (E0.out.keep S1.out)
  have O1 := hideIt (Ent.new h1 LB.out)
  have Q1 := hideIt ((S1.out.block (w.heap.size + 1) (by rw [A0.out.2.2.2]; omega)).trans A0.out.2.1)
  have L1 := hideIt ((S1.out.block (w.heap.size + 2) (by rw [A0.out.2.2.2]; omega)).trans A0.out.2.2.1)
  have B1 := hideIt (below_via D0.out S1.out)
  clear h1 h2 HC E0 S1 A0 D0
  have ac0 : (w1.alloc (.cells #[.int .i64 b.t, .int .i64 b.v, .int .i64 b.r, .slice oa b.l.length oc] 26)).cell? ⟨w.heap.size + 1, 0, none⟩ = some (.int .i64 qf) := by rw [cell_at Q1.out]; rfl
  have ac1 : (w1.alloc (.cells #[.int .i64 b.t, .int .i64 b.v, .int .i64 b.r, .slice oa b.l.length oc] 26)).cell? ⟨w.heap.size + 1, 1, none⟩ = some (.int .i64 qt) := by rw [cell_at Q1.out]; rfl
  have ac2 : (w1.alloc (.cells #[.int .i64 b.t, .int .i64 b.v, .int .i64 b.r, .slice oa b.l.length oc] 26)).cell? ⟨w.heap.size + 1, 2, none⟩ = some (.int .i64 qi) := by rw [cell_at Q1.out]; rfl
  have ac3 : (w1.alloc (.cells #[.int .i64 b.t, .int .i64 b.v, .int .i64 b.r, .slice oa b.l.length oc] 26)).cell? ⟨w.heap.size + 1, 3, none⟩ = some (.int .i64 qm) := by rw [cell_at Q1.out]; rfl
  have lc0 : (w1.alloc (.cells #[.int .i64 b.t, .int .i64 b.v, .int .i64 b.r, .slice oa b.l.length oc] 26)).cell? ⟨w.heap.size + 2, 0, none⟩ = some (.int .i64 li) := by rw [cell_at L1.out]; rfl
  have lc1 : (w1.alloc (.cells #[.int .i64 b.t, .int .i64 b.v, .int .i64 b.r, .slice oa b.l.length oc] 26)).cell? ⟨w.heap.size + 2, 1, none⟩ = some (.int .i64 lm) := by rw [cell_at L1.out]; rfl
  go_wp2_with fail
  refine (H1.out _ _ O1.out.got).mono ?_
  rintro e w2 ⟨gx, rfl, h1, h2⟩
  dsimp only
  clear ac0 ac1 ac2 ac3 lc0 lc1
  obtain ⟨xa, xc, rfl⟩ := own_len h1
  unfold balV
  simp only at h1 ⊢
  have C2 := hideIt (below_via h2 (below1 w2 (.cells #[.int .i64 X.t, .int .i64 X.v, .int .i64 X.r, .slice xa X.l.length xc] 26)))
  have X2 := hideIt (Ent.new h1 LX.out)
  have OX2 := hideIt (own_keep h1 (below1 w2 (.cells #[.int .i64 X.t, .int .i64 X.v, .int .i64 X.r, .slice xa X.l.length xc] 26)))
  clear h1 h2 H1
  have E2 := hideIt (E1.out.keep C2.out)
  have Q2 := hideIt ((C2.out.block (w.heap.size + 1) (Array.getElem?_eq_some_iff.1 Q1.out).1).trans Q1.out)
  have L2 := hideIt ((C2.out.block (w.heap.size + 2) (Array.getElem?_eq_some_iff.1 L1.out).1).trans L1.out)
  have ac0 : (w2.alloc (.cells #[.int .i64 X.t, .int .i64 X.v, .int .i64 X.r, .slice xa X.l.length xc] 26)).cell? ⟨w.heap.size + 1, 0, none⟩ = some (.int .i64 qf) := by rw [cell_at Q2.out]; rfl
  have ac1 : (w2.alloc (.cells #[.int .i64 X.t, .int .i64 X.v, .int .i64 X.r, .slice xa X.l.length xc] 26)).cell? ⟨w.heap.size + 1, 1, none⟩ = some (.int .i64 qt) := by rw [cell_at Q2.out]; rfl
  have ac2 : (w2.alloc (.cells #[.int .i64 X.t, .int .i64 X.v, .int .i64 X.r, .slice xa X.l.length xc] 26)).cell? ⟨w.heap.size + 1, 2, none⟩ = some (.int .i64 qi) := by rw [cell_at Q2.out]; rfl
  have ac3 : (w2.alloc (.cells #[.int .i64 X.t, .int .i64 X.v, .int .i64 X.r, .slice xa X.l.length xc] 26)).cell? ⟨w.heap.size + 1, 3, none⟩ = some (.int .i64 qm) := by rw [cell_at Q2.out]; rfl
  have lc0 : (w2.alloc (.cells #[.int .i64 X.t, .int .i64 X.v, .int .i64 X.r, .slice xa X.l.length xc] 26)).cell? ⟨w.heap.size + 2, 0, none⟩ = some (.int .i64 li) := by rw [cell_at L2.out]; rfl
  have lc1 : (w2.alloc (.cells #[.int .i64 X.t, .int .i64 X.v, .int .i64 X.r, .slice xa X.l.length xc] 26)).cell? ⟨w.heap.size + 2, 1, none⟩ = some (.int .i64 lm) := by rw [cell_at L2.out]; rfl
  have ec0 : (w2.alloc (.cells #[.int .i64 X.t, .int .i64 X.v, .int .i64 X.r, .slice xa X.l.length xc] 26)).cell? ⟨w.heap.size, 0, none⟩ = some (.int .i64 b.t) := by rw [cell_at E2.out.box]; rfl
  have ec1 : (w2.alloc (.cells #[.int .i64 X.t, .int .i64 X.v, .int .i64 X.r, .slice xa X.l.length xc] 26)).cell? ⟨w.heap.size, 1, none⟩ = some (.int .i64 b.v) := by rw [cell_at E2.out.box]; rfl
  have ec2 : (w2.alloc (.cells #[.int .i64 X.t, .int .i64 X.v, .int .i64 X.r, .slice xa X.l.length xc] 26)).cell? ⟨w.heap.size, 2, none⟩ = some (.int .i64 b.r) := by rw [cell_at E2.out.box]; rfl
  have ec3 : (w2.alloc (.cells #[.int .i64 X.t, .int .i64 X.v, .int .i64 X.r, .slice xa X.l.length xc] 26)).cell? ⟨w.heap.size, 3, none⟩ = some (.slice ga b.l.length gc) := by rw [cell_at E2.out.box]; rfl
  go_wp2_with fail
  refine (H2.out _ _ E2.out.got).mono ?_
  rintro e w3 ⟨gy, rfl, h1, h2⟩
  dsimp only
  clear ec0 ec1 ec2 ec3 ac0 ac1 ac2 ac3 lc0 lc1
  obtain ⟨ya, yc, rfl⟩ := own_len h1
  unfold balV
  simp only at h1 ⊢
  have S3 := hideIt (below_via h2 (below1 w3 (.cells #[.int .i64 X.t, .int .i64 X.v, .int .i64 X.r, .slice ya X.l.length yc] 26)))
  have Y3 := hideIt (Ent.new h1 LX.out)
  clear h1 h2 H2 E2
  have C3 := hideIt (below_via C2.out S3.out)
  have X3 := hideIt (X2.out.keep S3.out)
  have OX3 := hideIt (own_keep OX2.out S3.out)
  have Q3 := hideIt ((S3.out.block (w.heap.size + 1) (Array.getElem?_eq_some_iff.1 Q2.out).1).trans Q2.out)
  have L3 := hideIt ((S3.out.block (w.heap.size + 2) (Array.getElem?_eq_some_iff.1 L2.out).1).trans L2.out)
  clear C2 X2 OX2 S3 Q1 Q2 L1 L2
  have E3 := hideIt (E1.out.keep C3.out)
  have O3 := hideIt (O1.out.keep C3.out)
  have mixed : Try.prog.follows .mixedOrders = true := by kernel_rfl
  go_upto_region 4 with fail
  generalize hWz : w3.alloc (.cells #[.int .i64 X.t, .int .i64 X.v, .int .i64 X.r, .slice ya X.l.length yc] 26) = Wz at *
  clear hWz
  have HGB : Hid (∀ n os, Below Wz.heap.size Wz (grow (Wz.drewN n) os)) := fun n os => ⟨rfl, rfl, rfl, by simp, fun k hk => heap_grow_old (Wz.drewN n) os hk⟩
  have j0 : ∀ n os, (grow (Wz.drewN n) os).cell? ⟨w2.heap.size, 0, none⟩ = some (.int .i64 X.t) := fun n os => by rw [cell_at (X3.out.keep (HGB.out n os)).box]; rfl
  have j1 : ∀ n os, (grow (Wz.drewN n) os).cell? ⟨w2.heap.size, 1, none⟩ = some (.int .i64 X.v) := fun n os => by rw [cell_at (X3.out.keep (HGB.out n os)).box]; rfl
  have j2 : ∀ n os, (grow (Wz.drewN n) os).cell? ⟨w2.heap.size, 2, none⟩ = some (.int .i64 X.r) := fun n os => by rw [cell_at (X3.out.keep (HGB.out n os)).box]; rfl
  have j3 : ∀ n os, (grow (Wz.drewN n) os).cell? ⟨w2.heap.size, 3, none⟩ = some (.slice xa X.l.length xc) := fun n os => by rw [cell_at (X3.out.keep (HGB.out n os)).box]; rfl
  have j4 : ∀ n os, (grow (Wz.drewN n) os).cell? ⟨w3.heap.size, 0, none⟩ = some (.int .i64 X.t) := fun n os => by rw [cell_at (Y3.out.keep (HGB.out n os)).box]; rfl
  have j5 : ∀ n os, (grow (Wz.drewN n) os).cell? ⟨w3.heap.size, 1, none⟩ = some (.int .i64 X.v) := fun n os => by rw [cell_at (Y3.out.keep (HGB.out n os)).box]; rfl
  have j6 : ∀ n os, (grow (Wz.drewN n) os).cell? ⟨w3.heap.size, 2, none⟩ = some (.int .i64 X.r) := fun n os => by rw [cell_at (Y3.out.keep (HGB.out n os)).box]; rfl
  have j7 : ∀ n os, (grow (Wz.drewN n) os).cell? ⟨w3.heap.size, 3, none⟩ = some (.slice ya X.l.length yc) := fun n os => by rw [cell_at (Y3.out.keep (HGB.out n os)).box]; rfl
  have j8 : ∀ n os, (grow (Wz.drewN n) os).cell? ⟨w1.heap.size, 0, none⟩ = some (.int .i64 b.t) := fun n os => by rw [cell_at (O3.out.keep (HGB.out n os)).box]; rfl
  have j9 : ∀ n os, (grow (Wz.drewN n) os).cell? ⟨w1.heap.size, 1, none⟩ = some (.int .i64 b.v) := fun n os => by rw [cell_at (O3.out.keep (HGB.out n os)).box]; rfl
  have j10 : ∀ n os, (grow (Wz.drewN n) os).cell? ⟨w1.heap.size, 2, none⟩ = some (.int .i64 b.r) := fun n os => by rw [cell_at (O3.out.keep (HGB.out n os)).box]; rfl
  have j11 : ∀ n os, (grow (Wz.drewN n) os).cell? ⟨w1.heap.size, 3, none⟩ = some (.slice oa b.l.length oc) := fun n os => by rw [cell_at (O3.out.keep (HGB.out n os)).box]; rfl
  have j12 : ∀ n os, (grow (Wz.drewN n) os).cell? ⟨w.heap.size, 0, none⟩ = some (.int .i64 b.t) := fun n os => by rw [cell_at (E3.out.keep (HGB.out n os)).box]; rfl
  have j13 : ∀ n os, (grow (Wz.drewN n) os).cell? ⟨w.heap.size, 1, none⟩ = some (.int .i64 b.v) := fun n os => by rw [cell_at (E3.out.keep (HGB.out n os)).box]; rfl
  have j14 : ∀ n os, (grow (Wz.drewN n) os).cell? ⟨w.heap.size, 2, none⟩ = some (.int .i64 b.r) := fun n os => by rw [cell_at (E3.out.keep (HGB.out n os)).box]; rfl
  have j15 : ∀ n os, (grow (Wz.drewN n) os).cell? ⟨w.heap.size, 3, none⟩ = some (.slice ga b.l.length gc) := fun n os => by rw [cell_at (E3.out.keep (HGB.out n os)).box]; rfl
  have j16 : ∀ n os, (grow (Wz.drewN n) os).cell? ⟨w.heap.size + 1, 2, none⟩ = some (.int .i64 qi) := fun n os => by rw [cell_at (((HGB.out n os).block _ (Array.getElem?_eq_some_iff.1 Q3.out).1).trans Q3.out)]; rfl
  have j17 : ∀ n os, (grow (Wz.drewN n) os).cell? ⟨w.heap.size + 1, 3, none⟩ = some (.int .i64 qm) := fun n os => by rw [cell_at (((HGB.out n os).block _ (Array.getElem?_eq_some_iff.1 Q3.out).1).trans Q3.out)]; rfl
  have j18 : ∀ n os, (grow (Wz.drewN n) os).cell? ⟨w.heap.size + 2, 0, none⟩ = some (.int .i64 li) := fun n os => by rw [cell_at (((HGB.out n os).block _ (Array.getElem?_eq_some_iff.1 L3.out).1).trans L3.out)]; rfl
  have j19 : ∀ n os, (grow (Wz.drewN n) os).cell? ⟨w.heap.size + 2, 1, none⟩ = some (.int .i64 lm) := fun n os => by rw [cell_at (((HGB.out n os).block _ (Array.getElem?_eq_some_iff.1 L3.out).1).trans L3.out)]; rfl
  have KX := hideIt (fun n os => HSX.out _ _ (grow (Wz.drewN n) os) (X3.out.keep (HGB.out n os)).got (Y3.out.keep (HGB.out n os)).got)
  have KO := hideIt (fun n os => HSY.out _ _ (grow (Wz.drewN n) os) (O3.out.keep (HGB.out n os)).got (E3.out.keep (HGB.out n os)).got)
  clear HSX HSY
  refine wp_region_quiet_grown (by kernel_rfl) (by kernel_rfl) ?_
  repeat (first | go_big_quiet_skip | (go_big_quiet_want; go_big_quiet_op; go_big_quiet_on))
  go_big_quiet_want
  go_big_quiet_op
  apply Exists.intro
  refine ⟨fun _ => ?_, ?_⟩
  · exact Calls.grown_of (KX.out _ _)
  go_big_quiet_on
  repeat (first | go_big_quiet_skip | (go_big_quiet_want; go_big_quiet_op; go_big_quiet_on))
  go_big_quiet_want
  go_big_quiet_op
  apply Exists.intro
  refine ⟨fun _ => ?_, ?_⟩
  · exact Calls.grown_of (KO.out _ _)
  go_big_quiet_on
  repeat (first | go_big_quiet_skip | (go_big_quiet_want; go_big_quiet_op; go_big_quiet_on))
  go_big_quiet_want
  go_big_quiet_op
  apply Exists.intro
  refine ⟨fun _ => ?_, ?_⟩
  · exact Calls.grown_of (HA.out _)
  go_big_quiet_on
  repeat (first | go_big_quiet_skip | (go_big_quiet_want; go_big_quiet_op; go_big_quiet_on))
  go_big_quiet_want
  go_big_quiet_op
  apply Exists.intro
  refine ⟨fun _ => ?_, ?_⟩
  · exact Calls.grown_of (HB.out _)
  go_big_quiet_on
  repeat (first | go_big_quiet_skip | (go_big_quiet_want; go_big_quiet_op; go_big_quiet_on))
  go_big_quiet_want
  go_big_quiet_op
  apply Exists.intro
  refine ⟨fun _ => ?_, ?_⟩
  · exact Calls.grown_of (HA2.out _)
  go_big_quiet_on
  repeat (first | go_big_quiet_skip | (go_big_quiet_want; go_big_quiet_op; go_big_quiet_on))
  go_big_quiet_want
  go_big_quiet_op
  apply Exists.intro
  refine ⟨fun _ => ?_, ?_⟩
  · exact Calls.grown_of (HB2.out _)
  go_big_quiet_on
  repeat (first | go_big_quiet_skip | (go_big_quiet_want; go_big_quiet_op; go_big_quiet_on))
  refine wpQuiet_nil ?_
  intro _ hw9
  obtain ⟨⟨nq, osq⟩, hw8⟩ := hw9
  subst hw8
  have hb := HGB.out nq osq
  have C8 := hideIt (below_via C3.out hb)
  have X8 := hideIt (X3.out.keep hb)
  have OX8 := hideIt (own_keep OX3.out hb)
  clear j0 j1 j2 j3 j4 j5 j6 j7 j8 j9 j10 j11 j12 j13 j14 j15 j16 j17 j18 j19 KX KO HA HB HA2 HB2 hb X3 Y3 O3 E3 Q3 L3 OX3 C3 HGB
  generalize grow (Wz.drewN nq) osq = w8 at *
  have ec0 : w8.cell? ⟨w2.heap.size, 0, none⟩ = some (.int .i64 X.t) := by rw [cell_at X8.out.box]; rfl
  have ec1 : w8.cell? ⟨w2.heap.size, 1, none⟩ = some (.int .i64 X.v) := by rw [cell_at X8.out.box]; rfl
  have ec2 : w8.cell? ⟨w2.heap.size, 2, none⟩ = some (.int .i64 X.r) := by rw [cell_at X8.out.box]; rfl
  have ec3 : w8.cell? ⟨w2.heap.size, 3, none⟩ = some (.slice xa X.l.length xc) := by rw [cell_at X8.out.box]; rfl
  go_wp2_with fail
  refine (HPX.out _ _ _ OX8.out).mono ?_
  rintro e w10 ⟨rfl, ho⟩
  dsimp only
  clear ec0 ec1 ec2 ec3
  have C10 := hideIt (below_out C8.out ho (fun k hk => (own_block OX8.out hk).2))
  have E10 := hideIt (E1.out.keep C10.out)
  have O10 := hideIt (O1.out.keep C10.out)
  clear ho C8 X8 OX8 HPX
  have ec0 : w10.cell? ⟨w1.heap.size, 0, none⟩ = some (.int .i64 b.t) := by rw [cell_at O10.out.box]; rfl
  have ec1 : w10.cell? ⟨w1.heap.size, 1, none⟩ = some (.int .i64 b.v) := by rw [cell_at O10.out.box]; rfl
  have ec2 : w10.cell? ⟨w1.heap.size, 2, none⟩ = some (.int .i64 b.r) := by rw [cell_at O10.out.box]; rfl
  have ec3 : w10.cell? ⟨w1.heap.size, 3, none⟩ = some (.slice oa b.l.length oc) := by rw [cell_at O10.out.box]; rfl
  have fc0 : w10.cell? ⟨w.heap.size, 0, none⟩ = some (.int .i64 b.t) := by rw [cell_at E10.out.box]; rfl
  have fc1 : w10.cell? ⟨w.heap.size, 1, none⟩ = some (.int .i64 b.v) := by rw [cell_at E10.out.box]; rfl
  have fc2 : w10.cell? ⟨w.heap.size, 2, none⟩ = some (.int .i64 b.r) := by rw [cell_at E10.out.box]; rfl
  have fc3 : w10.cell? ⟨w.heap.size, 3, none⟩ = some (.slice ga b.l.length gc) := by rw [cell_at E10.out.box]; rfl
  go_wp2_with fail
  refine (HS0.out _ _ _ O10.out.got E10.out.got).mono ?_
  rintro e w11 ⟨rfl, hb⟩
  dsimp only
  clear ec0 ec1 ec2 ec3 fc0 fc1 fc2 fc3
  have C11 := hideIt (below_via C10.out hb)
  clear hb
  go_wp2_with fail
  refine (HL.out _).mono ?_
  rintro e w12 ⟨rfl, hb⟩
  dsimp only
  have C12 := hideIt (below_via B1.out (below_via C11.out hb))
  clear hb C11
  go_wp2
  go_ret
  exact ⟨rfl, C12.out⟩
end Go.Proofs.Ytkoecdcbopkkbaa
