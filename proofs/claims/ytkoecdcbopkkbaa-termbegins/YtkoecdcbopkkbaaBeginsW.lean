/- The statement on beginnings, walked. -/
import Derived.Test.YtkoecdcbopkkbaaEnt
namespace Go.Proofs.Ytkoecdcbopkkbaa
open Go.RowKit
set_option maxHeartbeats 16000000 in
set_option maxRecDepth 100000 in
theorem begins_walk (b : Bal) (g : Value) (me n : Int) (w : World) (h : GotAt w g b.l) : Calls Try.prog 3 #[balV b g, .int .i64 me, .int .i64 n] w fun e w' => e = .returned (.bool true) ∧ Below w.heap.size w w' := by
  have HC := hideIt (fun W hW => copy_is b g W (h.keep hW))
  have H1 := hideIt (fun W g hg => begin_is b g me n W hg)
  have H2 := hideIt (fun W g hg => rbegin_is b g me n W hg)
  have H3 := hideIt (fun W g hg => hear_is b g n W hg)
  have H4 := hideIt (fun W g hg => rhear_is b g n W hg)
  have HL := hideIt (fun W => live_is W)
  have lb := h.1
  have lx := begin_len b me n
  have lu := hear_len b n
  have HS0 := hideIt (fun g k W hg hk => same_is b g k W hg hk)
  obtain ⟨⟨X, ex⟩, eX⟩ : ∃ X, beginL b me n = X := ⟨_, rfl⟩
  obtain ⟨⟨U, eu⟩, eU⟩ : ∃ U, hear2L b n = U := ⟨_, rfl⟩
  rw [eX] at H1 H2 lx
  rw [eU] at H3 H4 lu
  simp only at H1 H2 H3 H4 lx lu
  have LB := hideIt lb
  have LX := hideIt lx
  have LU := hideIt lu
  have HSX := hideIt (fun g k W hg hk => same_is X g k W hg hk)
  have HSU := hideIt (fun g k W hg hk => same_is U g k W hg hk)
  have HPX := hideIt (fun g B W hg => spoil_is X g B W hg)
  have HPU := hideIt (fun g B W hg => spoil_is U g B W hg)
  have E0 := hideIt (Ent.first h)
  obtain ⟨ga, gc, rfl, _⟩ := h.open
  unfold balV at HC H1 H2 H3 H4 HS0 HSX HSU HPX HPU ⊢
  have hex : (ex != ex) = false := by simp
  have heu : (eu != eu) = false := by simp
  clear eX eU lb lx lu h
  go_enter Try.func3, Try.ntmps3
  go_wp2_with fail
  refine (HC.out _ (below1 w _)).mono ?_
  rintro e w1 ⟨go, rfl, h1, h2⟩
  dsimp only
  obtain ⟨oa, oc, rfl⟩ := own_len h1
  unfold balV
  have E1 := hideIt ((E0.out.keep h2).keep (below1 w1 (.cells #[.int .i64 b.t, .int .i64 b.v, .int .i64 b.r, .slice oa b.l.length oc] 26)))
  have O1 := hideIt (Ent.new h1 LB.out)
  have B1 := hideIt (below_via (below_via (below1 w _) h2) (below1 w1 (.cells #[.int .i64 b.t, .int .i64 b.v, .int .i64 b.r, .slice oa b.l.length oc] 26)))
  clear h1 h2 HC E0
  go_wp2_with fail
  refine (H1.out _ _ O1.out.got).mono ?_
  rintro e w2 ⟨gx, rfl, h1, h2⟩
  dsimp only
  obtain ⟨xa, xc, rfl⟩ := own_len h1
  unfold balV
  have C2 := hideIt (below_via h2 (below1 w2 (.cells #[.int .i64 X.t, .int .i64 X.v, .int .i64 X.r, .slice xa X.l.length xc] 26)))
  have X2 := hideIt (Ent.new h1 LX.out)
  have OX2 := hideIt (own_keep h1 (below1 w2 (.cells #[.int .i64 X.t, .int .i64 X.v, .int .i64 X.r, .slice xa X.l.length xc] 26)))
  clear h1 h2 H1
  have E2 := hideIt (E1.out.keep C2.out)
  have ec0 : (w2.alloc (.cells #[.int .i64 X.t, .int .i64 X.v, .int .i64 X.r, .slice xa X.l.length xc] 26)).cell? ⟨w.heap.size, 0, none⟩ = some (.int .i64 b.t) := by rw [cell_at E2.out.box]; rfl
  have ec1 : (w2.alloc (.cells #[.int .i64 X.t, .int .i64 X.v, .int .i64 X.r, .slice xa X.l.length xc] 26)).cell? ⟨w.heap.size, 1, none⟩ = some (.int .i64 b.v) := by rw [cell_at E2.out.box]; rfl
  have ec2 : (w2.alloc (.cells #[.int .i64 X.t, .int .i64 X.v, .int .i64 X.r, .slice xa X.l.length xc] 26)).cell? ⟨w.heap.size, 2, none⟩ = some (.int .i64 b.r) := by rw [cell_at E2.out.box]; rfl
  have ec3 : (w2.alloc (.cells #[.int .i64 X.t, .int .i64 X.v, .int .i64 X.r, .slice xa X.l.length xc] 26)).cell? ⟨w.heap.size, 3, none⟩ = some (.slice ga b.l.length gc) := by rw [cell_at E2.out.box]; rfl
  go_wp2_with fail
  refine (H2.out _ _ E2.out.got).mono ?_
  rintro e w3 ⟨gy, rfl, h1, h2⟩
  dsimp only
  clear ec0 ec1 ec2 ec3
  obtain ⟨ya, yc, rfl⟩ := own_len h1
  unfold balV
  have S3 := hideIt (below_via h2 (below1 w3 (.cells #[.int .i64 X.t, .int .i64 X.v, .int .i64 X.r, .slice ya X.l.length yc] 26)))
  have Y3 := hideIt (Ent.new h1 LX.out)
  clear h1 h2 H2 E2
  have C3 := hideIt (below_via C2.out S3.out)
  have X3 := hideIt (X2.out.keep S3.out)
  have OX3 := hideIt (own_keep OX2.out S3.out)
  have O3 := hideIt (O1.out.keep C3.out)
  clear C2 X2 OX2 S3
  have ec0 : (w3.alloc (.cells #[.int .i64 X.t, .int .i64 X.v, .int .i64 X.r, .slice ya X.l.length yc] 26)).cell? ⟨w1.heap.size, 0, none⟩ = some (.int .i64 b.t) := by rw [cell_at O3.out.box]; rfl
  have ec1 : (w3.alloc (.cells #[.int .i64 X.t, .int .i64 X.v, .int .i64 X.r, .slice ya X.l.length yc] 26)).cell? ⟨w1.heap.size, 1, none⟩ = some (.int .i64 b.v) := by rw [cell_at O3.out.box]; rfl
  have ec2 : (w3.alloc (.cells #[.int .i64 X.t, .int .i64 X.v, .int .i64 X.r, .slice ya X.l.length yc] 26)).cell? ⟨w1.heap.size, 2, none⟩ = some (.int .i64 b.r) := by rw [cell_at O3.out.box]; rfl
  have ec3 : (w3.alloc (.cells #[.int .i64 X.t, .int .i64 X.v, .int .i64 X.r, .slice ya X.l.length yc] 26)).cell? ⟨w1.heap.size, 3, none⟩ = some (.slice oa b.l.length oc) := by rw [cell_at O3.out.box]; rfl
  go_wp2_with fail
  refine (H3.out _ _ O3.out.got).mono ?_
  rintro e w4 ⟨gu, rfl, h1, h2⟩
  dsimp only
  clear ec0 ec1 ec2 ec3
  obtain ⟨ua, uc, rfl⟩ := own_len h1
  unfold balV
  have S4 := hideIt (below_via h2 (below1 w4 (.cells #[.int .i64 U.t, .int .i64 U.v, .int .i64 U.r, .slice ua U.l.length uc] 26)))
  have U4 := hideIt (Ent.new h1 LU.out)
  have OU4 := hideIt (own_keep h1 (below1 w4 (.cells #[.int .i64 U.t, .int .i64 U.v, .int .i64 U.r, .slice ua U.l.length uc] 26)))
  have LW : Hid ((w3.alloc (.cells #[.int .i64 X.t, .int .i64 X.v, .int .i64 X.r, .slice ya X.l.length yc] 26)).heap.size ≤ w4.heap.size) := h2.size
  have C30 := hideIt C3.out.size
  clear h1 h2 H3 O3
  have C4 := hideIt (below_via C3.out S4.out)
  have X4 := hideIt (X3.out.keep S4.out)
  have Y4 := hideIt (Y3.out.keep S4.out)
  have OX4 := hideIt (own_keep OX3.out S4.out)
  have KX : Hid (∀ k, (Value.slice xa X.l.length xc).ownBlock = some k → k < (w3.alloc (.cells #[.int .i64 X.t, .int .i64 X.v, .int .i64 X.r, .slice ya X.l.length yc] 26)).heap.size) := fun k hk => (own_block OX3.out hk).1
  have E4 := hideIt (E1.out.keep C4.out)
  clear C3 X3 Y3 OX3
  have ec0 : (w4.alloc (.cells #[.int .i64 U.t, .int .i64 U.v, .int .i64 U.r, .slice ua U.l.length uc] 26)).cell? ⟨w.heap.size, 0, none⟩ = some (.int .i64 b.t) := by rw [cell_at E4.out.box]; rfl
  have ec1 : (w4.alloc (.cells #[.int .i64 U.t, .int .i64 U.v, .int .i64 U.r, .slice ua U.l.length uc] 26)).cell? ⟨w.heap.size, 1, none⟩ = some (.int .i64 b.v) := by rw [cell_at E4.out.box]; rfl
  have ec2 : (w4.alloc (.cells #[.int .i64 U.t, .int .i64 U.v, .int .i64 U.r, .slice ua U.l.length uc] 26)).cell? ⟨w.heap.size, 2, none⟩ = some (.int .i64 b.r) := by rw [cell_at E4.out.box]; rfl
  have ec3 : (w4.alloc (.cells #[.int .i64 U.t, .int .i64 U.v, .int .i64 U.r, .slice ua U.l.length uc] 26)).cell? ⟨w.heap.size, 3, none⟩ = some (.slice ga b.l.length gc) := by rw [cell_at E4.out.box]; rfl
  go_wp2_with fail
  refine (H4.out _ _ E4.out.got).mono ?_
  rintro e w5 ⟨gv, rfl, h1, h2⟩
  dsimp only
  clear ec0 ec1 ec2 ec3
  obtain ⟨va, vc, rfl⟩ := own_len h1
  unfold balV
  have S5 := hideIt (below_via h2 (below1 w5 (.cells #[.int .i64 U.t, .int .i64 U.v, .int .i64 U.r, .slice va U.l.length vc] 26)))
  have V5 := hideIt (Ent.new h1 LU.out)
  clear h1 h2 H4 E4
  have C5 := hideIt (below_via C4.out S5.out)
  have X5 := hideIt (X4.out.keep S5.out)
  have Y5 := hideIt (Y4.out.keep S5.out)
  have U5 := hideIt (U4.out.keep S5.out)
  have OX5 := hideIt (own_keep OX4.out S5.out)
  have OU5 := hideIt (own_keep OU4.out S5.out)
  clear C4 X4 Y4 U4 OX4 OU4 S5 S4
  have ec0 : (w5.alloc (.cells #[.int .i64 U.t, .int .i64 U.v, .int .i64 U.r, .slice va U.l.length vc] 26)).cell? ⟨w2.heap.size, 0, none⟩ = some (.int .i64 X.t) := by rw [cell_at X5.out.box]; rfl
  have ec1 : (w5.alloc (.cells #[.int .i64 U.t, .int .i64 U.v, .int .i64 U.r, .slice va U.l.length vc] 26)).cell? ⟨w2.heap.size, 1, none⟩ = some (.int .i64 X.v) := by rw [cell_at X5.out.box]; rfl
  have ec2 : (w5.alloc (.cells #[.int .i64 U.t, .int .i64 U.v, .int .i64 U.r, .slice va U.l.length vc] 26)).cell? ⟨w2.heap.size, 2, none⟩ = some (.int .i64 X.r) := by rw [cell_at X5.out.box]; rfl
  have ec3 : (w5.alloc (.cells #[.int .i64 U.t, .int .i64 U.v, .int .i64 U.r, .slice va U.l.length vc] 26)).cell? ⟨w2.heap.size, 3, none⟩ = some (.slice xa X.l.length xc) := by rw [cell_at X5.out.box]; rfl
  have fc0 : (w5.alloc (.cells #[.int .i64 U.t, .int .i64 U.v, .int .i64 U.r, .slice va U.l.length vc] 26)).cell? ⟨w3.heap.size, 0, none⟩ = some (.int .i64 X.t) := by rw [cell_at Y5.out.box]; rfl
  have fc1 : (w5.alloc (.cells #[.int .i64 U.t, .int .i64 U.v, .int .i64 U.r, .slice va U.l.length vc] 26)).cell? ⟨w3.heap.size, 1, none⟩ = some (.int .i64 X.v) := by rw [cell_at Y5.out.box]; rfl
  have fc2 : (w5.alloc (.cells #[.int .i64 U.t, .int .i64 U.v, .int .i64 U.r, .slice va U.l.length vc] 26)).cell? ⟨w3.heap.size, 2, none⟩ = some (.int .i64 X.r) := by rw [cell_at Y5.out.box]; rfl
  have fc3 : (w5.alloc (.cells #[.int .i64 U.t, .int .i64 U.v, .int .i64 U.r, .slice va U.l.length vc] 26)).cell? ⟨w3.heap.size, 3, none⟩ = some (.slice ya X.l.length yc) := by rw [cell_at Y5.out.box]; rfl
  go_wp2_with fail
  refine (HSX.out _ _ _ X5.out.got Y5.out.got).mono ?_
  rintro e w6 ⟨rfl, hb⟩
  dsimp only
  clear ec0 ec1 ec2 ec3 fc0 fc1 fc2 fc3
  have C6 := hideIt (below_via C5.out hb)
  have X6 := hideIt (X5.out.keep hb)
  have U6 := hideIt (U5.out.keep hb)
  have V6 := hideIt (V5.out.keep hb)
  have OX6 := hideIt (own_keep OX5.out hb)
  have OU6 := hideIt (own_keep OU5.out hb)
  clear hb C5 X5 Y5 U5 V5 OX5 OU5 HSX
  have ec0 : w6.cell? ⟨w4.heap.size, 0, none⟩ = some (.int .i64 U.t) := by rw [cell_at U6.out.box]; rfl
  have ec1 : w6.cell? ⟨w4.heap.size, 1, none⟩ = some (.int .i64 U.v) := by rw [cell_at U6.out.box]; rfl
  have ec2 : w6.cell? ⟨w4.heap.size, 2, none⟩ = some (.int .i64 U.r) := by rw [cell_at U6.out.box]; rfl
  have ec3 : w6.cell? ⟨w4.heap.size, 3, none⟩ = some (.slice ua U.l.length uc) := by rw [cell_at U6.out.box]; rfl
  have fc0 : w6.cell? ⟨w5.heap.size, 0, none⟩ = some (.int .i64 U.t) := by rw [cell_at V6.out.box]; rfl
  have fc1 : w6.cell? ⟨w5.heap.size, 1, none⟩ = some (.int .i64 U.v) := by rw [cell_at V6.out.box]; rfl
  have fc2 : w6.cell? ⟨w5.heap.size, 2, none⟩ = some (.int .i64 U.r) := by rw [cell_at V6.out.box]; rfl
  have fc3 : w6.cell? ⟨w5.heap.size, 3, none⟩ = some (.slice va U.l.length vc) := by rw [cell_at V6.out.box]; rfl
  go_wp2_with fail
  refine (HSU.out _ _ _ U6.out.got V6.out.got).mono ?_
  rintro e w7 ⟨rfl, hb⟩
  dsimp only
  clear ec0 ec1 ec2 ec3 fc0 fc1 fc2 fc3
  have C7 := hideIt (below_via C6.out hb)
  have X7 := hideIt (X6.out.keep hb)
  have U7 := hideIt (U6.out.keep hb)
  have OX7 := hideIt (own_keep OX6.out hb)
  have OU7 := hideIt (own_keep OU6.out hb)
  have E7 := hideIt (E1.out.keep C7.out)
  have O7 := hideIt (O1.out.keep C7.out)
  clear hb C6 X6 U6 V6 OX6 OU6 HSU
  have ec0 : w7.cell? ⟨w1.heap.size, 0, none⟩ = some (.int .i64 b.t) := by rw [cell_at O7.out.box]; rfl
  have ec1 : w7.cell? ⟨w1.heap.size, 1, none⟩ = some (.int .i64 b.v) := by rw [cell_at O7.out.box]; rfl
  have ec2 : w7.cell? ⟨w1.heap.size, 2, none⟩ = some (.int .i64 b.r) := by rw [cell_at O7.out.box]; rfl
  have ec3 : w7.cell? ⟨w1.heap.size, 3, none⟩ = some (.slice oa b.l.length oc) := by rw [cell_at O7.out.box]; rfl
  have fc0 : w7.cell? ⟨w.heap.size, 0, none⟩ = some (.int .i64 b.t) := by rw [cell_at E7.out.box]; rfl
  have fc1 : w7.cell? ⟨w.heap.size, 1, none⟩ = some (.int .i64 b.v) := by rw [cell_at E7.out.box]; rfl
  have fc2 : w7.cell? ⟨w.heap.size, 2, none⟩ = some (.int .i64 b.r) := by rw [cell_at E7.out.box]; rfl
  have fc3 : w7.cell? ⟨w.heap.size, 3, none⟩ = some (.slice ga b.l.length gc) := by rw [cell_at E7.out.box]; rfl
  go_wp2_with fail
  refine (HS0.out _ _ _ O7.out.got E7.out.got).mono ?_
  rintro e w8 ⟨rfl, hb⟩
  dsimp only
  clear ec0 ec1 ec2 ec3 fc0 fc1 fc2 fc3
  have C8 := hideIt (below_via C7.out hb)
  have X8 := hideIt (X7.out.keep hb)
  have U8 := hideIt (U7.out.keep hb)
  have OX8 := hideIt (own_keep OX7.out hb)
  have OU8 := hideIt (own_keep OU7.out hb)
  clear hb C7 X7 U7 OX7 OU7 E7 O7
  have ec0 : w8.cell? ⟨w2.heap.size, 0, none⟩ = some (.int .i64 X.t) := by rw [cell_at X8.out.box]; rfl
  have ec1 : w8.cell? ⟨w2.heap.size, 1, none⟩ = some (.int .i64 X.v) := by rw [cell_at X8.out.box]; rfl
  have ec2 : w8.cell? ⟨w2.heap.size, 2, none⟩ = some (.int .i64 X.r) := by rw [cell_at X8.out.box]; rfl
  have ec3 : w8.cell? ⟨w2.heap.size, 3, none⟩ = some (.slice xa X.l.length xc) := by rw [cell_at X8.out.box]; rfl
  go_wp2_with fail
  refine (HPX.out _ _ _ OX8.out).mono ?_
  rintro e w9 ⟨rfl, ho⟩
  dsimp only
  clear ec0 ec1 ec2 ec3
  have C9 := hideIt (below_out C8.out ho (fun k hk => (own_block OX8.out hk).2))
  have U9 : Hid (w9.heap[w4.heap.size]? = some (.cells #[.int .i64 U.t, .int .i64 U.v, .int .i64 U.r, .slice ua U.l.length uc] 26 (0, 0))) := (ho.block _ U8.out.lt (fun hk => by have := KX.out _ hk; have := LW.out; omega)).trans U8.out.box
  have OU9 := hideIt (own_out OU8.out ho (fun k hk => KX.out k hk))
  clear ho C8 X8 U8 OX8 OU8 HPX
  have ec0 : w9.cell? ⟨w4.heap.size, 0, none⟩ = some (.int .i64 U.t) := by rw [cell_at U9.out]; rfl
  have ec1 : w9.cell? ⟨w4.heap.size, 1, none⟩ = some (.int .i64 U.v) := by rw [cell_at U9.out]; rfl
  have ec2 : w9.cell? ⟨w4.heap.size, 2, none⟩ = some (.int .i64 U.r) := by rw [cell_at U9.out]; rfl
  have ec3 : w9.cell? ⟨w4.heap.size, 3, none⟩ = some (.slice ua U.l.length uc) := by rw [cell_at U9.out]; rfl
  go_wp2_with fail
  refine (HPU.out _ _ _ OU9.out).mono ?_
  rintro e w10 ⟨rfl, ho⟩
  dsimp only
  clear ec0 ec1 ec2 ec3
  have C10 := hideIt (below_out C9.out ho (fun k hk => by have := (own_block OU9.out hk).2; have := C30.out; omega))
  have E10 := hideIt (E1.out.keep C10.out)
  have O10 := hideIt (O1.out.keep C10.out)
  clear ho C9 U9 OU9 HPU
  have ec0 : w10.cell? ⟨w1.heap.size, 0, none⟩ = some (.int .i64 b.t) := by rw [cell_at O10.out.box]; rfl
  have ec1 : w10.cell? ⟨w1.heap.size, 1, none⟩ = some (.int .i64 b.v) := by rw [cell_at O10.out.box]; rfl
  have ec2 : w10.cell? ⟨w1.heap.size, 2, none⟩ = some (.int .i64 b.r) := by rw [cell_at O10.out.box]; rfl
  have ec3 : w10.cell? ⟨w1.heap.size, 3, none⟩ = some (.slice oa b.l.length oc) := by rw [cell_at O10.out.box]; rfl
  have fc0 : w10.cell? ⟨w.heap.size, 0, none⟩ = some (.int .i64 b.t) := by rw [cell_at E10.out.box]; rfl
  have fc1 : w10.cell? ⟨w.heap.size, 1, none⟩ = some (.int .i64 b.v) := by rw [cell_at E10.out.box]; rfl
  have fc2 : w10.cell? ⟨w.heap.size, 2, none⟩ = some (.int .i64 b.r) := by rw [cell_at E10.out.box]; rfl
  have fc3 : w10.cell? ⟨w.heap.size, 3, none⟩ = some (.slice ga b.l.length gc) := by rw [cell_at E10.out.box]; rfl
  go_wp2_with fail
  refine (HS0.out _ _ _ O10.out.got E10.out.got).mono ?_
  rintro e w11 ⟨rfl, hb⟩
  dsimp only
  clear ec0 ec1 ec2 ec3 fc0 fc1 fc2 fc3
  have C11 := hideIt (below_via C10.out hb)
  clear hb
  go_wp2_with fail
  refine (HL.out _).mono ?_
  rintro e w12 ⟨rfl, hb⟩
  dsimp only
  have C12 := hideIt (below_via B1.out (below_via C11.out hb))
  clear hb C11
  go_wp2
  go_ret
  exact ⟨rfl, C12.out⟩
end Go.Proofs.Ytkoecdcbopkkbaa
