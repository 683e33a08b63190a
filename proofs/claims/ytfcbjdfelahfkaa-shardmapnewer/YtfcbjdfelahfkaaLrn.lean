/- Learn, walked. -/
import Derived.Test.YtfcbjdfelahfkaaLrP
namespace Go.Proofs.Ytfcbjdfelahfkaa
open Go.RowKit
set_option linter.all false
def LrnBack (R : List PlaV) (e0 : Int) (w : World) (e : Ending) (w' : World) : Prop := ∃ a c, e = .returned (.tuple #[.slice a R.length c, .int .i64 e0]) ∧ w'.ownsRow w.heap.size 26 4 (.slice a R.length c) R.length (celC plaE R) ∧ Below w.heap.size w w'
theorem own_slice {w : World} {B : Nat} {e : TypeId} {z n : Nat} {v : Value} {xs : List Value} (h : w.ownsRow B e z v n xs) : ∃ a c, v = .slice a n c := own_len h
theorem row_at {w : World} {g : Nat} {cur : Array Value} {l : List PlaV} (hg : w.heap[g]? = some (.cells cur 26 (0, 0))) (ht : cur.toList.take (l.length * 4) = celC plaE l) (N : Nat) (h : N < l.length) :
    w.cell? ⟨g, N * 4, none⟩ = some (.int .i64 l[N].1.1) ∧ w.cell? ⟨g, N * 4 + 1, none⟩ = some (.int .i64 l[N].1.2) ∧ w.cell? ⟨g, N * 4 + 2, none⟩ = some (.int .i64 l[N].2.1) ∧ w.cell? ⟨g, N * 4 + 3, none⟩ = some (.int .i64 l[N].2.2) := by
  have k : ∀ r, r < 4 → w.cell? ⟨g, N * 4 + r, none⟩ = (plaE l[N])[r]? := fun r hr => by
    rw [cell_at hg, ← celC_get plaK l N h r hr, ← ht, List.getElem?_take, if_pos (by omega)]
    simp
  exact ⟨k 0 (by omega), k 1 (by omega), k 2 (by omega), k 3 (by omega)⟩
set_option maxHeartbeats 8000000 in
set_option maxRecDepth 100000 in
theorem learn_is (v : Value) (l : List PlaV) (x y z u : Int) (w : World) (h : Plas w v l) : Calls Try.prog 8 #[v, .agg #[.int .i64 x, .int .i64 y, .int .i64 z, .int .i64 u]] w (LrnBack (lrnR l ((x, y), (z, u))) (lrnE l ((x, y), (z, u))) w) := by
  have hx0 := heap_alloc_new w (.cells #[.int .i64 x, .int .i64 y, .int .i64 z, .int .i64 u] 26)
  have hb0 := below1 w (.cells #[.int .i64 x, .int .i64 y, .int .i64 z, .int .i64 u] 26)
  have HC1 := hideIt (mayBe_is v l (w.alloc (.cells #[.int .i64 x, .int .i64 y, .int .i64 z, .int .i64 u] 26)) (h.keep hb0))
  have HC2 := hideIt (fun W b hb => mayBe_is _ _ W (own_one W b x y z u hb))
  have HX0 := hideIt hx0
  have HB0 := hideIt hb0
  obtain ⟨a, c, rfl⟩ := h.slice
  unfold lrnR lrnE lrnB
  cases hm1 : mayB l
  · rw [hm1] at HC1
    simp only [Bool.false_and, Bool.false_eq_true, if_false]
    clear hx0 hb0 h hm1
    go_enter Try.func8, Try.ntmps8
    go_wp2_with fail
    refine HC1.out.mono ?_
    rintro e w1 ⟨rfl, hb⟩
    dsimp only
    go_wp2
    go_ret2
    exact ⟨none, 0, rfl, own_nil _ _, (below_via HB0.out hb)⟩
  · rw [hm1] at HC1
    have H3 := hideIt (fun W (hW : Below w.heap.size w W) => cloneP_is _ l W (h.keep hW))
    have HL := hideIt (may_len hm1)
    have HM := hideIt hm1
    cases hm2 : mayB [((x, y), (z, u))]
    · rw [hm2] at HC2
      simp only [Bool.and_false, Bool.false_eq_true, if_false]
      clear hx0 hb0 h hm1 hm2 H3
      go_enter Try.func8, Try.ntmps8
      go_wp2_with fail
      refine HC1.out.mono ?_
      rintro e w1 ⟨rfl, hb⟩
      dsimp only
      have HB1 := hideIt (below_via HB0.out hb)
      have hX1 := (hb.block _ (by simp)).trans HX0.out
      have x0 : w1.cell? ⟨w.heap.size, 0, none⟩ = some (.int .i64 x) := by rw [cell_at hX1]; rfl
      have x1 : w1.cell? ⟨w.heap.size, 1, none⟩ = some (.int .i64 y) := by rw [cell_at hX1]; rfl
      have x2 : w1.cell? ⟨w.heap.size, 2, none⟩ = some (.int .i64 z) := by rw [cell_at hX1]; rfl
      have x3 : w1.cell? ⟨w.heap.size, 3, none⟩ = some (.int .i64 u) := by rw [cell_at hX1]; rfl
      clear hb hX1 HC1 HX0 HB0
      go_wp2_with fail
      refine (HC2.out _ _ (heap_alloc_new w1 _)).mono ?_
      rintro e w2 ⟨rfl, hb⟩
      dsimp only
      have HB2 := hideIt (below_via HB1.out (below_via (below1 w1 _) hb))
      clear hb
      go_wp2
      go_ret2
      exact ⟨none, 0, rfl, own_nil _ _, HB2.out⟩
    · rw [hm2] at HC2
      simp only [Bool.and_self, if_true]
      obtain ⟨R, hR⟩ : ∃ R, R = lrnL l ((x, y), (z, u)) := ⟨_, rfl⟩
      rw [← hR]
      unfold lrnL at hR
      dsimp only at hR
      have HRL := hideIt hR
      clear hx0 hb0 h hm1 hm2 hR
      go_enter Try.func8, Try.ntmps8
      go_wp2_with fail
      refine HC1.out.mono ?_
      rintro e w1 ⟨rfl, hb⟩
      dsimp only
      have HB1 := hideIt (below_via HB0.out hb)
      have hX1 := (hb.block _ (by simp)).trans HX0.out
      have x0 : w1.cell? ⟨w.heap.size, 0, none⟩ = some (.int .i64 x) := by rw [cell_at hX1]; rfl
      have x1 : w1.cell? ⟨w.heap.size, 1, none⟩ = some (.int .i64 y) := by rw [cell_at hX1]; rfl
      have x2 : w1.cell? ⟨w.heap.size, 2, none⟩ = some (.int .i64 z) := by rw [cell_at hX1]; rfl
      have x3 : w1.cell? ⟨w.heap.size, 3, none⟩ = some (.int .i64 u) := by rw [cell_at hX1]; rfl
      have HX1 := hideIt hX1
      clear hb hX1 HC1 HX0 HB0
      go_wp2_with fail
      refine (HC2.out _ _ (heap_alloc_new w1 _)).mono ?_
      rintro e w2 ⟨rfl, hb⟩
      dsimp only
      have hb2 := below_via (below1 w1 _) hb
      have HB2 := hideIt (below_via HB1.out hb2)
      have HX2 := hideIt ((hb2.block _ (Array.getElem?_eq_some_iff.1 HX1.out).1).trans HX1.out)
      clear hb hb2 HB1 HX1 x0 x1 x2 x3 HC2
      go_wp2_with fail
      refine (H3.out _ HB2.out).mono ?_
      rintro e w3 ⟨v3, rfl, ho, hb⟩
      dsimp only
      have HB3 := hideIt (below_via HB2.out hb)
      have hX3 := (hb.block _ (Array.getElem?_eq_some_iff.1 HX2.out).1).trans HX2.out
      have x0 : w3.cell? ⟨w.heap.size, 0, none⟩ = some (.int .i64 x) := by rw [cell_at hX3]; rfl
      have x1 : w3.cell? ⟨w.heap.size, 1, none⟩ = some (.int .i64 y) := by rw [cell_at hX3]; rfl
      have HX3 := hideIt hX3
      have HO3 := hideIt (own_base ho (show w.heap.size + 1 ≤ w2.heap.size from (Array.getElem?_eq_some_iff.1 HX2.out).1))
      obtain ⟨a3, c3, rfl⟩ := own_len ho
      have HS := hideIt (seek_is _ l x y w3 (own_sgot (bytes := 32) HO3.out (by have := HL.out; omega)) HM.out)
      clear hb hX3 ho H3 HX2 HB2
      go_wp2_with fail
      refine HS.out.mono ?_
      rintro e w4 ⟨rfl, hb⟩
      dsimp only
      have HB4 := hideIt (below_via HB3.out hb)
      have hX4 := (hb.block _ (Array.getElem?_eq_some_iff.1 HX3.out).1).trans HX3.out
      have HO4 := hideIt (own_keep HO3.out hb)
      have y0 : w4.cell? ⟨w.heap.size, 0, none⟩ = some (.int .i64 x) := by rw [cell_at hX4]; rfl
      have y1 : w4.cell? ⟨w.heap.size, 1, none⟩ = some (.int .i64 y) := by rw [cell_at hX4]; rfl
      have y2 : w4.cell? ⟨w.heap.size, 2, none⟩ = some (.int .i64 z) := by rw [cell_at hX4]; rfl
      have y3 : w4.cell? ⟨w.heap.size, 3, none⟩ = some (.int .i64 u) := by rw [cell_at hX4]; rfl
      have hsz4 : w.heap.size < w4.heap.size := (Array.getElem?_eq_some_iff.1 hX4).1
      have HX4 := hideIt hX4
      have HLE := hideIt (sek_le l (x, y))
      have HLT := hideIt (fun hk => kno_lt (l := l) (k := (x, y)) hk)
      clear hb hX4 HX3 HB3 HO3 HS x0 x1
      generalize sekN l (x, y) = N at *
      cases hk : knoB l (x, y)
      · rw [hk] at HRL
        obtain rfl : R = l.take N ++ ((x, y), (z, u)) :: l.drop N := HRL.out
        have hb5 := below1 w4 (.cells #[.int .i64 x, .int .i64 y, .int .i64 z, .int .i64 u] 26)
        have HI := hideIt (insertO_is (w.heap.size + 1) N w4.heap.size _ l ((x, y), (z, u)) (w4.alloc (.cells #[.int .i64 x, .int .i64 y, .int .i64 z, .int .i64 u] 26)) (own_keep HO4.out hb5) (by simp; omega) HLE.out (by have := HL.out; omega) (heap_alloc_new w4 _) (fun e => by have := (HO4.out.lt _ e).2; omega))
        have HO5 := hideIt (own_keep HO4.out hb5)
        have HB5 := hideIt (below_via HB4.out hb5)
        clear hb5 hk HLT HRL
        go_wp2_with fail
        refine HI.out.mono ?_
        rintro e w6 ⟨v6, rfl, ho, hg⟩
        dsimp only
        have HB6 := hideIt (grown_own hg HO5.out (by omega) HB5.out)
        have HO6 := hideIt (own_base ho (show w.heap.size ≤ w.heap.size + 1 by omega))
        clear hg
        obtain ⟨a6, c6, rfl⟩ := own_len ho
        clear ho HI
        go_wp2
        go_ret2
        exact ⟨a6, c6, rfl, HO6.out, HB6.out⟩
      · have hlt := HLT.out hk
        rw [hk] at HRL
        have HG : Hid (l.getD N ((x, y), (z, u)) = l[N]) := by
          show _ = _
          rw [List.getD_eq_getElem?_getD, List.getElem?_eq_getElem hlt]
          rfl
        have hltI : (N : Int) < (l.length : Int) := by omega
        have hN0 : (0 : Int) ≤ (N : Int) := by omega
        rcases HO4.out.2 with ⟨_, h0⟩ | ⟨g, cap, cur, hv, hgB, hg, hn, hc, hs, ht⟩
        · omega
        · simp only [Value.slice.injEq, true_and] at hv
          obtain ⟨rfl, rfl⟩ := hv
          obtain ⟨q0, q1, q2, q3⟩ := row_at hg ht N hlt
          have hgl : g < w4.heap.size := (Array.getElem?_eq_some_iff.1 hg).1
          have HGG := hideIt (And.intro hg (And.intro hn (And.intro hc (And.intro hs (And.intro ht hgB)))))
          have HLTN := hideIt hlt
          generalize hen : l[N] = en at *
          have HEN := hideIt hen
          obtain ⟨⟨ex, ey⟩, ⟨ez, eu⟩⟩ := en
          dsimp only at q0 q1 q2 q3
          clear hg hn hc hs ht hgB hen hlt HLT HLE hk
          by_cases hv : eu < u
          · have HRR : Hid (R = l.set N ((x, y), (z, u))) := by
              show _ = _
              rw [HRL.out, HG.out]
              simp [hv]
            clear HRL HG
            have hvd : decide (eu < u) = true := decide_eq_true hv
            go_upto_region 7 with fail
            go_quiet (fail)
            have HB5 := hideIt (below_drewN HB4.out nq)
            have HS5 := hideIt (own_set4 (w := w4.drewN nq) (B := w.heap.size) l N ((x, y), (z, u)) HLTN.out (by have := HGG.out.2.2.2.2.2; omega) HGG.out.1 HGG.out.2.1 HGG.out.2.2.1 HGG.out.2.2.2.1 HGG.out.2.2.2.2.1)
            have HGB := hideIt HGG.out.2.2.2.2.2
            have fz : ∀ j, (w4.drewN nq).frozen? ⟨g, j, none⟩ = false := fun j => free_at (w := w4.drewN nq) HGG.out.1 j
            obtain ⟨r0, r1, r2, r3⟩ : (w4.drewN nq).cell? ⟨g, N * 4, none⟩ = some (.int .i64 ex) ∧ (w4.drewN nq).cell? ⟨g, N * 4 + 1, none⟩ = some (.int .i64 ey) ∧ (w4.drewN nq).cell? ⟨g, N * 4 + 2, none⟩ = some (.int .i64 ez) ∧ (w4.drewN nq).cell? ⟨g, N * 4 + 3, none⟩ = some (.int .i64 eu) := ⟨q0, q1, q2, q3⟩
            obtain ⟨s0, s1, s2, s3⟩ : (w4.drewN nq).cell? ⟨w.heap.size, 0, none⟩ = some (.int .i64 x) ∧ (w4.drewN nq).cell? ⟨w.heap.size, 1, none⟩ = some (.int .i64 y) ∧ (w4.drewN nq).cell? ⟨w.heap.size, 2, none⟩ = some (.int .i64 z) ∧ (w4.drewN nq).cell? ⟨w.heap.size, 3, none⟩ = some (.int .i64 u) := ⟨y0, y1, y2, y3⟩
            clear y0 y1 y2 y3 q0 q1 q2 q3 HX4 HO4 HB4 HGG
            generalize w4.drewN nq = W at *
            obtain rfl := HRR.out
            have hlen : (l.set N ((x, y), (z, u))).length = l.length := List.length_set
            have HLEN := hideIt hlen
            clear hlen HRR
            go_wp2
            go_ret2
            exact ⟨some ⟨g, 0, none⟩, c3, by rw [HLEN.out]; rfl, by rw [HLEN.out] at HS5 ⊢; exact HS5.out, belowSet _ (belowSet _ (belowSet _ (belowSet _ HB5.out (by have := HGB.out; omega)) (by have := HGB.out; omega)) (by have := HGB.out; omega)) (by have := HGB.out; omega)⟩
          · have HRR : Hid (R = l) := by
              show _ = _
              rw [HRL.out, HG.out]
              simp [hv]
            clear HRL HG
            obtain rfl := HRR.out
            have hvd : decide (eu < u) = false := decide_eq_false hv
            go_upto_region 7 with fail
            go_quiet (fail)
            go_wp2
            go_ret2
            exact ⟨some ⟨g, 0, none⟩, c3, rfl, own_base (own_keep HO4.out (below_drewN (Below.refl _ _) _)) (by omega), below_drewN HB4.out _⟩
end Go.Proofs.Ytfcbjdfelahfkaa
