/- ShardmapLearns' and ShardmapTells' bodies, walked. -/
import Derived.Test.YtfcbjdfelahfkaaAgW
import Derived.Test.YtfcbjdfelahfkaaRLn
namespace Go.Proofs.Ytfcbjdfelahfkaa
open Go.RowKit
set_option linter.all false
theorem lrn_len (l : List PlaV) (p : PlaV) : (lrnR l p).length ≤ 11 := by
  cases h : lrnB l p
  · rw [(lrn_no h).1]
    simp
  · rw [(lrn_yes h).1]
    exact may_len (lrn_may h)
set_option maxHeartbeats 8000000 in
set_option maxRecDepth 100000 in
theorem learns_walk (v : Value) (l : List PlaV) (x y z u : Int) (w : World) (h : Plas w v l) : Calls Try.prog 6 #[v, .agg #[.int .i64 x, .int .i64 y, .int .i64 z, .int .i64 u]] w fun e w' => e = .returned (.bool true) ∧ Below w.heap.size w w' := by
  have hb0 := below1 w (.cells #[.int .i64 x, .int .i64 y, .int .i64 z, .int .i64 u] 26)
  have HB0 := hideIt hb0
  have HX0 := hideIt (heap_alloc_new w (.cells #[.int .i64 x, .int .i64 y, .int .i64 z, .int .i64 u] 26))
  have HG := hideIt (fun W (hW : Below w.heap.size w W) => h.keep hW)
  have H0 := hideIt (rCopy_is v l _ (h.keep hb0))
  have H1 := hideIt (fun v W (hW : Plas W v l) => learn_is v l x y z u W hW)
  have H2 := hideIt (fun v W (hW : Plas W v l) => rLearn_is v l x y z u W hW)
  have HL := hideIt (fun W => live_is W)
  have H8 := hideIt h.1
  obtain ⟨a, c, rfl⟩ := h.slice
  clear h hb0
  have HLN := hideIt (lrn_len l ((x, y), (z, u)))
  generalize lrnR l ((x, y), (z, u)) = R at *
  generalize lrnE l ((x, y), (z, u)) = ee at *
  have HSR : Hid (∀ v v' W, Plas W v R → Plas W v' R → Calls Try.prog 10 #[v, v'] W fun e w' => e = .returned (.bool true) ∧ Below W.heap.size W w') := fun v v' W hW hW' => by
    have := same_is v v' R R W hW hW'
    rw [show (R == R) = true by simp] at this
    exact this
  have HSL : Hid (∀ v v' W, Plas W v l → Plas W v' l → Calls Try.prog 10 #[v, v'] W fun e w' => e = .returned (.bool true) ∧ Below W.heap.size W w') := fun v v' W hW hW' => by
    have := same_is v v' l l W hW hW'
    rw [show (l == l) = true by simp] at this
    exact this
  go_enter Try.func6, Try.ntmps6
  go_wp2_with fail
  refine H0.out.mono ?_
  rintro e w1 ⟨v1, rfl, ho, hb⟩
  dsimp only
  obtain ⟨a1, c1, rfl⟩ := own_len ho
  have G1 := hideIt (own_sgot (bytes := 32) ho H8.out)
  have HB1 := hideIt (below_via HB0.out hb)
  have HX1 := hideIt ((hb.block _ (by simp)).trans HX0.out)
  obtain ⟨x0, x1, x2, x3, xf, xl⟩ := four_at HX1.out
  clear hb ho HX0 HB0 H0
  go_wp2_with fail
  refine (H1.out _ _ G1.out).mono ?_
  rintro e w2 ⟨a2, c2, rfl, ho, hb⟩
  dsimp only
  have O2 := hideIt ho
  have D2 := hideIt hb
  have HX2 := hideIt ((hb.block _ xl).trans HX1.out)
  clear x0 x1 x2 x3 xf xl
  obtain ⟨x0, x1, x2, x3, xf, xl⟩ := four_at HX2.out
  clear hb ho HX1 H1
  go_wp2_with fail
  refine (H2.out _ _ (HG.out _ (below_via HB1.out D2.out))).mono ?_
  rintro e w3 ⟨a3, c3, rfl, ho, hb⟩
  dsimp only
  have O3 := hideIt (own_keep O2.out hb)
  have D3 := hideIt (below_via D2.out hb)
  have R3 := hideIt (own_sgot (bytes := 32) ho (small HLN.out))
  clear x0 x1 x2 x3 xf xl
  clear hb ho HX2 H2 O2 D2
  go_wp2_with fail
  refine (HSR.out _ _ _ (own_sgot (bytes := 32) O3.out (small HLN.out)) R3.out).mono ?_
  rintro e w4 ⟨rfl, hb⟩
  dsimp only
  have O4 := hideIt (own_keep O3.out hb)
  have D4 := hideIt (below_via D3.out hb)
  clear hb O3 R3 HSR D3
  go_wp2_with fail
  refine (HSL.out _ _ _ (G1.out.keep D4.out) (HG.out _ (below_via HB1.out D4.out))).mono ?_
  rintro e w5 ⟨rfl, hb⟩
  dsimp only
  have O5 := hideIt (own_keep O4.out hb)
  have D5 := hideIt (below_via D4.out hb)
  clear hb O4 D4
  have HI : Hid (Below w1.heap.size w1 w5 ∧ (0 < R.length → ∃ g cur, a2 = some ⟨g, 0, none⟩ ∧ w1.heap.size ≤ g ∧ w5.heap[g]? = some (.cells cur 26 (0, 0)) ∧ R.length * 4 ≤ cur.size)) := ⟨D5.out, fun hp => by
    rcases O5.out.2 with ⟨_, h0⟩ | ⟨g, cap, cur, hv, hgB, hg, hn, hc, hs, ht⟩
    · omega
    · simp only [Value.slice.injEq, true_and] at hv
      exact ⟨g, cur, hv.1, hgB, hg, by omega⟩⟩
  clear O5 D5
  go_upto_region 7 with fail
  go_loopw [10] (fun v wr => ∃ t : Nat, v = .int .i64 t ∧ t ≤ R.length ∧ Hid (Below w1.heap.size w1 wr ∧ (0 < R.length → ∃ g cur, a2 = some ⟨g, 0, none⟩ ∧ w1.heap.size ≤ g ∧ wr.heap[g]? = some (.cells cur 26 (0, 0)) ∧ R.length * 4 ≤ cur.size))) (fun v _ => R.length - (intOf v).toNat)
  case atStart => exact ⟨0, rfl, Nat.zero_le _, HI⟩
  case round =>
    clear HI
    obtain ⟨t, rfl, ht, HR⟩ := hrel
    by_cases hlt : t < R.length
    · have hltI : (t : Int) < (R.length : Int) := by omega
      have ht0 : (0 : Int) ≤ (t : Int) := by omega
      have h11 := HLN.out
      have hw : IntKind.i64.wrap ((t : Int) + 1) = ((t + 1 : Nat) : Int) := by rw [IntKind.wrap_i64]; omega
      obtain ⟨hD, hrow⟩ := HR.out
      obtain ⟨g, cur, rfl, hgB, hg, hsz⟩ := hrow (by omega)
      have hfz : wr.frozen? ⟨g, t * 4 + 2, none⟩ = false := free_at hg _
      have hcl : wr.cell? ⟨g, t * 4 + 2, none⟩ = some cur[t * 4 + 2] := by rw [cell_at hg]; exact Array.getElem?_eq_getElem (by omega)
      generalize cur[t * 4 + 2] = old at *
      have HN : Hid (Below w1.heap.size w1 (wr.setCell ⟨g, t * 4 + 2, none⟩ (.int .i64 (-1))) ∧ (0 < R.length → ∃ g' cur, some (⟨g, 0, none⟩ : Addr) = some ⟨g', 0, none⟩ ∧ w1.heap.size ≤ g' ∧ (wr.setCell ⟨g, t * 4 + 2, none⟩ (.int .i64 (-1))).heap[g']? = some (.cells cur 26 (0, 0)) ∧ R.length * 4 ≤ cur.size)) := ⟨belowSet _ hD hgB, fun _ => ⟨g, _, rfl, hgB, heap_set hg _ _, by simpa using hsz⟩⟩
      clear HR hD hrow hg hsz hgB h11
      go_wp2
      go_roundw
      case rel => exact ⟨t + 1, by go_num, by omega, HN⟩
      case measure => simp [intOf]; omega
    · have hltI : ¬ (t : Int) < (R.length : Int) := by omega
      have D6 := hideIt HR.out.1
      clear HR
      go_wp2_with fail
      refine (HSL.out _ _ _ (G1.out.keep D6.out) (HG.out _ (below_via HB1.out D6.out))).mono ?_
      rintro e w7 ⟨rfl, hb⟩
      dsimp only
      have D7 := hideIt (below_via D6.out hb)
      clear hb D6
      go_wp2_with fail
      refine (HL.out _).mono ?_
      rintro e w8 ⟨rfl, hb⟩
      dsimp only
      have D8 := hideIt (below_via HB1.out (below_via D7.out hb))
      clear hb D7
      go_wp2
      go_ret
      exact ⟨rfl, D8.out⟩
set_option maxHeartbeats 8000000 in
set_option maxRecDepth 100000 in
theorem tells_walk (v : Value) (l : List PlaV) (k n g : Int) (w : World) (h : Plas w v l) : Calls Try.prog 7 #[v, .agg #[.int .i64 k, .int .i64 n], .int .i64 g] w fun e w' => e = .returned (.bool true) ∧ Below w.heap.size w w' := by
  have hb0 := below1 w (.cells #[.int .i64 k, .int .i64 n] 24)
  have HB0 := hideIt hb0
  have HX0 := hideIt (heap_alloc_new w (.cells #[.int .i64 k, .int .i64 n] 24))
  have HG := hideIt (fun W (hW : Below w.heap.size w W) => h.keep hW)
  have H0 := hideIt (rCopy_is v l _ (h.keep hb0))
  have H1 := hideIt (fun W => home_is k n g W)
  have H2 := hideIt (fun W => rHome_is k n g W)
  have H3 := hideIt (fun v W (hW : Plas W v l) => owner_is v l k n g W hW)
  have H4 := hideIt (fun v W (hW : Plas W v l) => rOwner_is v l k n g W hW)
  have HL := hideIt (fun W => live_is W)
  have H8 := hideIt h.1
  obtain ⟨a, c, rfl⟩ := h.slice
  clear h hb0
  generalize homI (k, n) g = hi at *
  generalize homE (k, n) g = he at *
  generalize owrP l (k, n) g = op at *
  generalize owrE l (k, n) g = oe at *
  obtain ⟨⟨o0, o1⟩, ⟨o2, o3⟩⟩ := op
  unfold PlaBack at H3 H4
  dsimp only at H3 H4
  have HSL : Hid (∀ v v' W, Plas W v l → Plas W v' l → Calls Try.prog 10 #[v, v'] W fun e w' => e = .returned (.bool true) ∧ Below W.heap.size W w') := fun v v' W hW hW' => by
    have := same_is v v' l l W hW hW'
    rw [show (l == l) = true by simp] at this
    exact this
  have q1 : ∀ W, (binOp .eql 26 (.agg #[.int .i64 o0, .int .i64 o1, .int .i64 o2, .int .i64 o3]) (.agg #[.int .i64 o0, .int .i64 o1, .int .i64 o2, .int .i64 o3])).run Try.prog W = .ok (.bool true) W := fun W => by rw [eq26]; simp
  go_enter Try.func7, Try.ntmps7
  go_wp2_with fail
  refine H0.out.mono ?_
  rintro e w1 ⟨v1, rfl, ho, hb⟩
  dsimp only
  obtain ⟨a1, c1, rfl⟩ := own_len ho
  have G1 := hideIt (own_sgot (bytes := 32) ho H8.out)
  have HB1 := hideIt (below_via HB0.out hb)
  have HX1 := hideIt ((hb.block _ (by simp)).trans HX0.out)
  obtain ⟨x0, x1, xl⟩ := two_at HX1.out
  clear hb ho HX0 HB0 H0
  go_wp2_with fail
  refine (H1.out _).mono ?_
  rintro e w2 ⟨rfl, hb⟩
  dsimp only
  have D2 := hideIt hb
  have HX2 := hideIt ((hb.block _ xl).trans HX1.out)
  clear x0 x1 xl
  obtain ⟨x0, x1, xl⟩ := two_at HX2.out
  clear hb HX1 H1
  go_wp2_with fail
  refine (H2.out _).mono ?_
  rintro e w3 ⟨rfl, hb⟩
  dsimp only
  have D3 := hideIt (below_via D2.out hb)
  have HX3 := hideIt ((hb.block _ xl).trans HX2.out)
  clear x0 x1 xl
  obtain ⟨x0, x1, xl⟩ := two_at HX3.out
  clear hb HX2 H2 D2
  go_wp2_with fail
  refine (H3.out _ _ (G1.out.keep D3.out)).mono ?_
  rintro e w4 ⟨rfl, hb⟩
  dsimp only
  have hb4 := below_via hb (below1 w4 (.cells #[.int .i64 o0, .int .i64 o1, .int .i64 o2, .int .i64 o3] 26))
  have D4 := hideIt (below_via D3.out hb4)
  have HX4 := hideIt ((hb4.block _ xl).trans HX3.out)
  have HN4 := hideIt (heap_alloc_new w4 (.cells #[.int .i64 o0, .int .i64 o1, .int .i64 o2, .int .i64 o3] 26))
  clear x0 x1 xl
  clear hb hb4 HX3 H3 D3
  go_upto_region 5 with fail
  generalize w4.alloc (.cells #[.int .i64 o0, .int .i64 o1, .int .i64 o2, .int .i64 o3] 26) = W4 at *
  generalize w4.heap.size = K4 at *
  obtain ⟨x0, x1, xl⟩ := two_at HX4.out
  go_wp2_with fail
  refine (H4.out _ _ (HG.out _ (below_via HB1.out D4.out))).mono ?_
  rintro e w5 ⟨rfl, hb⟩
  dsimp only
  have hb5 := below_via hb (below1 w5 (.cells #[.int .i64 o0, .int .i64 o1, .int .i64 o2, .int .i64 o3] 26))
  have D5 := hideIt (below_via D4.out hb5)
  have HN5 := hideIt ((hb5.block _ (Array.getElem?_eq_some_iff.1 HN4.out).1).trans HN4.out)
  have HM5 := hideIt (heap_alloc_new w5 (.cells #[.int .i64 o0, .int .i64 o1, .int .i64 o2, .int .i64 o3] 26))
  clear x0 x1 xl
  clear hb hb5 HX4 H4 D4 HN4
  go_upto_region 6 with fail
  generalize w5.alloc (.cells #[.int .i64 o0, .int .i64 o1, .int .i64 o2, .int .i64 o3] 26) = W5 at *
  generalize w5.heap.size = K5 at *
  obtain ⟨y0, y1, y2, y3, yf, yl⟩ := four_at HN5.out
  obtain ⟨z0, z1, z2, z3, zf, zl⟩ := four_at HM5.out
  go_wp2_with fail
  refine (HSL.out _ _ _ (G1.out.keep D5.out) (HG.out _ (below_via HB1.out D5.out))).mono ?_
  rintro e w7 ⟨rfl, hb⟩
  dsimp only
  have D7 := hideIt (below_via D5.out hb)
  clear hb D5
  go_wp2_with fail
  refine (HL.out _).mono ?_
  rintro e w8 ⟨rfl, hb⟩
  dsimp only
  have D8 := hideIt (below_via HB1.out (below_via D7.out hb))
  clear hb D7
  go_wp2
  go_ret
  exact ⟨rfl, D8.out⟩
end Go.Proofs.Ytfcbjdfelahfkaa
