/- The statement on answers, walked. -/
import Derived.Test.YtkoecdcbopkkbaaEnt
namespace Go.Proofs.Ytkoecdcbopkkbaa
open Go.RowKit
set_option maxHeartbeats 16000000 in
set_option maxRecDepth 100000 in
theorem counts_walk (b : Bal) (g : Value) (fr tm nn : Int) (ok : Bool) (w : World) (h : GotAt w g b.l) : Calls Try.prog 5 #[balV b g, .agg #[.int .i64 fr, .int .i64 tm, .int .i64 nn, .bool ok]] w fun e w' => e = .returned (.bool true) ∧ Below w.heap.size w w' := by
  have HC := hideIt (fun W hW => copy_is b g W (h.keep hW))
  have H1 := hideIt (fun W g hg => count_is b g fr tm ok nn W hg)
  have H2 := hideIt (fun W g hg => rcount_is b g fr tm ok nn W hg)
  have HL := hideIt (fun W => live_is W)
  have lb := h.1
  have lx := count_len b fr tm ok nn
  have HS0 := hideIt (fun g k W hg hk => same_is b g k W hg hk)
  obtain ⟨⟨X, ex⟩, eX⟩ : ∃ X, countL b fr tm ok nn = X := ⟨_, rfl⟩
  rw [eX] at H1 H2 lx
  simp only at H1 H2 lx
  have LB := hideIt lb
  have LX := hideIt lx
  have HSX := hideIt (fun g k W hg hk => same_is X g k W hg hk)
  have HPX := hideIt (fun g B W hg => spoil_is X g B W hg)
  have E0 := hideIt ((Ent.first h).keep (below1 _ (.cells #[.int .i64 fr, .int .i64 tm, .int .i64 nn, .bool ok] 45)))
  have A0 := hideIt (two_heap w (.cells #[.int .i64 b.t, .int .i64 b.v, .int .i64 b.r, g] 26) (.cells #[.int .i64 fr, .int .i64 tm, .int .i64 nn, .bool ok] 45)).2.1
  obtain ⟨ga, gc, rfl, _⟩ := h.open
  unfold balV at HC H1 H2 HS0 HSX HPX ⊢
  have hex : (ex != ex) = false := by simp
  clear eX lb lx h
  go_enter Try.func5, Try.ntmps5
  go_wp2_with fail
  refine (HC.out _ (below2 w _ _)).mono ?_
  rintro e w1 ⟨go, rfl, h1, h2⟩
  dsimp only
  obtain ⟨oa, oc, rfl⟩ := own_len h1
  unfold balV
  have S1 := hideIt (below_via h2 (below1 w1 (.cells #[.int .i64 b.t, .int .i64 b.v, .int .i64 b.r, .slice oa b.l.length oc] 26)))
  have E1 := hideIt (E0.out.keep S1.out)
  have O1 := hideIt (Ent.new h1 LB.out)
  have A1 := hideIt ((S1.out.block (w.heap.size + 1) (by simp)).trans A0.out)
  have B1 := hideIt (below_via (below2 w _ _) S1.out)
  clear h1 h2 HC E0 S1 A0
  have ac0 : (w1.alloc (.cells #[.int .i64 b.t, .int .i64 b.v, .int .i64 b.r, .slice oa b.l.length oc] 26)).cell? ⟨w.heap.size + 1, 0, none⟩ = some (.int .i64 fr) := by rw [cell_at A1.out]; rfl
  have ac1 : (w1.alloc (.cells #[.int .i64 b.t, .int .i64 b.v, .int .i64 b.r, .slice oa b.l.length oc] 26)).cell? ⟨w.heap.size + 1, 1, none⟩ = some (.int .i64 tm) := by rw [cell_at A1.out]; rfl
  have ac2 : (w1.alloc (.cells #[.int .i64 b.t, .int .i64 b.v, .int .i64 b.r, .slice oa b.l.length oc] 26)).cell? ⟨w.heap.size + 1, 2, none⟩ = some (.int .i64 nn) := by rw [cell_at A1.out]; rfl
  have ac3 : (w1.alloc (.cells #[.int .i64 b.t, .int .i64 b.v, .int .i64 b.r, .slice oa b.l.length oc] 26)).cell? ⟨w.heap.size + 1, 3, none⟩ = some (.bool ok) := by rw [cell_at A1.out]; rfl
  go_wp2_with fail
  refine (H1.out _ _ O1.out.got).mono ?_
  rintro e w2 ⟨gx, rfl, h1, h2⟩
  dsimp only
  clear ac0 ac1 ac2 ac3
  obtain ⟨xa, xc, rfl⟩ := own_len h1
  unfold balV
  have C2 := hideIt (below_via h2 (below1 w2 (.cells #[.int .i64 X.t, .int .i64 X.v, .int .i64 X.r, .slice xa X.l.length xc] 26)))
  have X2 := hideIt (Ent.new h1 LX.out)
  have OX2 := hideIt (own_keep h1 (below1 w2 (.cells #[.int .i64 X.t, .int .i64 X.v, .int .i64 X.r, .slice xa X.l.length xc] 26)))
  clear h1 h2 H1
  have E2 := hideIt (E1.out.keep C2.out)
  have A2 := hideIt ((C2.out.block (w.heap.size + 1) (Array.getElem?_eq_some_iff.1 A1.out).1).trans A1.out)
  have ac0 : (w2.alloc (.cells #[.int .i64 X.t, .int .i64 X.v, .int .i64 X.r, .slice xa X.l.length xc] 26)).cell? ⟨w.heap.size + 1, 0, none⟩ = some (.int .i64 fr) := by rw [cell_at A2.out]; rfl
  have ac1 : (w2.alloc (.cells #[.int .i64 X.t, .int .i64 X.v, .int .i64 X.r, .slice xa X.l.length xc] 26)).cell? ⟨w.heap.size + 1, 1, none⟩ = some (.int .i64 tm) := by rw [cell_at A2.out]; rfl
  have ac2 : (w2.alloc (.cells #[.int .i64 X.t, .int .i64 X.v, .int .i64 X.r, .slice xa X.l.length xc] 26)).cell? ⟨w.heap.size + 1, 2, none⟩ = some (.int .i64 nn) := by rw [cell_at A2.out]; rfl
  have ac3 : (w2.alloc (.cells #[.int .i64 X.t, .int .i64 X.v, .int .i64 X.r, .slice xa X.l.length xc] 26)).cell? ⟨w.heap.size + 1, 3, none⟩ = some (.bool ok) := by rw [cell_at A2.out]; rfl
  have ec0 : (w2.alloc (.cells #[.int .i64 X.t, .int .i64 X.v, .int .i64 X.r, .slice xa X.l.length xc] 26)).cell? ⟨w.heap.size, 0, none⟩ = some (.int .i64 b.t) := by rw [cell_at E2.out.box]; rfl
  have ec1 : (w2.alloc (.cells #[.int .i64 X.t, .int .i64 X.v, .int .i64 X.r, .slice xa X.l.length xc] 26)).cell? ⟨w.heap.size, 1, none⟩ = some (.int .i64 b.v) := by rw [cell_at E2.out.box]; rfl
  have ec2 : (w2.alloc (.cells #[.int .i64 X.t, .int .i64 X.v, .int .i64 X.r, .slice xa X.l.length xc] 26)).cell? ⟨w.heap.size, 2, none⟩ = some (.int .i64 b.r) := by rw [cell_at E2.out.box]; rfl
  have ec3 : (w2.alloc (.cells #[.int .i64 X.t, .int .i64 X.v, .int .i64 X.r, .slice xa X.l.length xc] 26)).cell? ⟨w.heap.size, 3, none⟩ = some (.slice ga b.l.length gc) := by rw [cell_at E2.out.box]; rfl
  go_wp2_with fail
  refine (H2.out _ _ E2.out.got).mono ?_
  rintro e w3 ⟨gy, rfl, h1, h2⟩
  dsimp only
  clear ec0 ec1 ec2 ec3 ac0 ac1 ac2 ac3 A1 A2
  obtain ⟨ya, yc, rfl⟩ := own_len h1
  unfold balV
  have S3 := hideIt (below_via h2 (below1 w3 (.cells #[.int .i64 X.t, .int .i64 X.v, .int .i64 X.r, .slice ya X.l.length yc] 26)))
  have Y3 := hideIt (Ent.new h1 LX.out)
  clear h1 h2 H2 E2
  have C3 := hideIt (below_via C2.out S3.out)
  have X3 := hideIt (X2.out.keep S3.out)
  have OX3 := hideIt (own_keep OX2.out S3.out)
  clear C2 X2 OX2 S3
  have ec0 : (w3.alloc (.cells #[.int .i64 X.t, .int .i64 X.v, .int .i64 X.r, .slice ya X.l.length yc] 26)).cell? ⟨w2.heap.size, 0, none⟩ = some (.int .i64 X.t) := by rw [cell_at X3.out.box]; rfl
  have ec1 : (w3.alloc (.cells #[.int .i64 X.t, .int .i64 X.v, .int .i64 X.r, .slice ya X.l.length yc] 26)).cell? ⟨w2.heap.size, 1, none⟩ = some (.int .i64 X.v) := by rw [cell_at X3.out.box]; rfl
  have ec2 : (w3.alloc (.cells #[.int .i64 X.t, .int .i64 X.v, .int .i64 X.r, .slice ya X.l.length yc] 26)).cell? ⟨w2.heap.size, 2, none⟩ = some (.int .i64 X.r) := by rw [cell_at X3.out.box]; rfl
  have ec3 : (w3.alloc (.cells #[.int .i64 X.t, .int .i64 X.v, .int .i64 X.r, .slice ya X.l.length yc] 26)).cell? ⟨w2.heap.size, 3, none⟩ = some (.slice xa X.l.length xc) := by rw [cell_at X3.out.box]; rfl
  have fc0 : (w3.alloc (.cells #[.int .i64 X.t, .int .i64 X.v, .int .i64 X.r, .slice ya X.l.length yc] 26)).cell? ⟨w3.heap.size, 0, none⟩ = some (.int .i64 X.t) := by rw [cell_at Y3.out.box]; rfl
  have fc1 : (w3.alloc (.cells #[.int .i64 X.t, .int .i64 X.v, .int .i64 X.r, .slice ya X.l.length yc] 26)).cell? ⟨w3.heap.size, 1, none⟩ = some (.int .i64 X.v) := by rw [cell_at Y3.out.box]; rfl
  have fc2 : (w3.alloc (.cells #[.int .i64 X.t, .int .i64 X.v, .int .i64 X.r, .slice ya X.l.length yc] 26)).cell? ⟨w3.heap.size, 2, none⟩ = some (.int .i64 X.r) := by rw [cell_at Y3.out.box]; rfl
  have fc3 : (w3.alloc (.cells #[.int .i64 X.t, .int .i64 X.v, .int .i64 X.r, .slice ya X.l.length yc] 26)).cell? ⟨w3.heap.size, 3, none⟩ = some (.slice ya X.l.length yc) := by rw [cell_at Y3.out.box]; rfl
  go_wp2_with fail
  refine (HSX.out _ _ _ X3.out.got Y3.out.got).mono ?_
  rintro e w6 ⟨rfl, hb⟩
  dsimp only
  clear ec0 ec1 ec2 ec3 fc0 fc1 fc2 fc3
  have C6 := hideIt (below_via C3.out hb)
  have X6 := hideIt (X3.out.keep hb)
  have OX6 := hideIt (own_keep OX3.out hb)
  have E6 := hideIt (E1.out.keep C6.out)
  have O6 := hideIt (O1.out.keep C6.out)
  clear hb C3 X3 Y3 OX3 HSX
  have ec0 : w6.cell? ⟨w1.heap.size, 0, none⟩ = some (.int .i64 b.t) := by rw [cell_at O6.out.box]; rfl
  have ec1 : w6.cell? ⟨w1.heap.size, 1, none⟩ = some (.int .i64 b.v) := by rw [cell_at O6.out.box]; rfl
  have ec2 : w6.cell? ⟨w1.heap.size, 2, none⟩ = some (.int .i64 b.r) := by rw [cell_at O6.out.box]; rfl
  have ec3 : w6.cell? ⟨w1.heap.size, 3, none⟩ = some (.slice oa b.l.length oc) := by rw [cell_at O6.out.box]; rfl
  have fc0 : w6.cell? ⟨w.heap.size, 0, none⟩ = some (.int .i64 b.t) := by rw [cell_at E6.out.box]; rfl
  have fc1 : w6.cell? ⟨w.heap.size, 1, none⟩ = some (.int .i64 b.v) := by rw [cell_at E6.out.box]; rfl
  have fc2 : w6.cell? ⟨w.heap.size, 2, none⟩ = some (.int .i64 b.r) := by rw [cell_at E6.out.box]; rfl
  have fc3 : w6.cell? ⟨w.heap.size, 3, none⟩ = some (.slice ga b.l.length gc) := by rw [cell_at E6.out.box]; rfl
  go_wp2_with fail
  refine (HS0.out _ _ _ O6.out.got E6.out.got).mono ?_
  rintro e w8 ⟨rfl, hb⟩
  dsimp only
  clear ec0 ec1 ec2 ec3 fc0 fc1 fc2 fc3
  have C8 := hideIt (below_via C6.out hb)
  have X8 := hideIt (X6.out.keep hb)
  have OX8 := hideIt (own_keep OX6.out hb)
  clear hb C6 X6 OX6 E6 O6
  have ec0 : w8.cell? ⟨w2.heap.size, 0, none⟩ = some (.int .i64 X.t) := by rw [cell_at X8.out.box]; rfl
  have ec1 : w8.cell? ⟨w2.heap.size, 1, none⟩ = some (.int .i64 X.v) := by rw [cell_at X8.out.box]; rfl
  have ec2 : w8.cell? ⟨w2.heap.size, 2, none⟩ = some (.int .i64 X.r) := by rw [cell_at X8.out.box]; rfl
  have ec3 : w8.cell? ⟨w2.heap.size, 3, none⟩ = some (.slice xa X.l.length xc) := by rw [cell_at X8.out.box]; rfl
  go_wp2_with fail
  refine (HPX.out _ _ _ OX8.out).mono ?_
  rintro e w10 ⟨rfl, ho⟩
  dsimp only
  clear ec0 ec1 ec2 ec3
  have C10 := hideIt (below_out C8.out ho (fun k hk => (own_block OX8.out hk).2))
  have E10 := hideIt (E1.out.keep C10.out)
  have O10 := hideIt (O1.out.keep C10.out)
  clear ho C8 X8 OX8 HPX
  have ec0 : w10.cell? ⟨w1.heap.size, 0, none⟩ = some (.int .i64 b.t) := by rw [cell_at O10.out.box]; rfl
  have ec1 : w10.cell? ⟨w1.heap.size, 1, none⟩ = some (.int .i64 b.v) := by rw [cell_at O10.out.box]; rfl
  have ec2 : w10.cell? ⟨w1.heap.size, 2, none⟩ = some (.int .i64 b.r) := by rw [cell_at O10.out.box]; rfl
  have ec3 : w10.cell? ⟨w1.heap.size, 3, none⟩ = some (.slice oa b.l.length oc) := by rw [cell_at O10.out.box]; rfl
  have fc0 : w10.cell? ⟨w.heap.size, 0, none⟩ = some (.int .i64 b.t) := by rw [cell_at E10.out.box]; rfl
  have fc1 : w10.cell? ⟨w.heap.size, 1, none⟩ = some (.int .i64 b.v) := by rw [cell_at E10.out.box]; rfl
  have fc2 : w10.cell? ⟨w.heap.size, 2, none⟩ = some (.int .i64 b.r) := by rw [cell_at E10.out.box]; rfl
  have fc3 : w10.cell? ⟨w.heap.size, 3, none⟩ = some (.slice ga b.l.length gc) := by rw [cell_at E10.out.box]; rfl
  go_wp2_with fail
  refine (HS0.out _ _ _ O10.out.got E10.out.got).mono ?_
  rintro e w11 ⟨rfl, hb⟩
  dsimp only
  clear ec0 ec1 ec2 ec3 fc0 fc1 fc2 fc3
  have C11 := hideIt (below_via C10.out hb)
  clear hb
  go_wp2_with fail
  refine (HL.out _).mono ?_
  rintro e w12 ⟨rfl, hb⟩
  dsimp only
  have C12 := hideIt (below_via B1.out (below_via C11.out hb))
  clear hb C11
  go_wp2
  go_ret
  exact ⟨rfl, C12.out⟩
end Go.Proofs.Ytkoecdcbopkkbaa
