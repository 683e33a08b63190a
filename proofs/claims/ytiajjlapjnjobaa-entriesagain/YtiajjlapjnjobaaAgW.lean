/- The statement on what is sent again, walked. -/
import Derived.Test.YtiajjlapjnjobaaAgP
import Derived.Test.YtiajjlapjnjobaaLive8
namespace Go.Proofs.Ytiajjlapjnjobaa
open Go.RowKit
def sntA (pi pt : Int) (k : Value) (cc : Int) : Array Value := #[.int .i64 pi, .int .i64 pt, k, .int .i64 cc]
/-- A log in its box, and what is sent in its own. -/
structure LS (w : World) (L : LogV) (g : Value) (pi pt : Int) (k : Value) (es : List EntV) (cc : Int) (wx : World) : Prop where
  log : Ent wx w.heap.size L g
  snt : wx.heap[w.heap.size + 1]? = some (.cells (sntA pi pt k cc) 28 (0, 0))
  got : EGot wx k es
  bel : Below w.heap.size w wx
theorem LS.first {w : World} {L : LogV} {g : Value} (pi pt : Int) {k : Value} {es : List EntV} (cc : Int) (h : EGot w g L.l) (hk : EGot w k es) : LS w L g pi pt k es cc ((w.alloc (.cells (logA L g) 26)).alloc (.cells (sntA pi pt k cc) 28)) := by
  have ht := two_heap w (.cells (logA L g) 26) (.cells (sntA pi pt k cc) 28)
  have hb := below2 w (.cells (logA L g) 26) (.cells (sntA pi pt k cc) 28)
  exact ⟨⟨ht.1, h.keep hb⟩, ht.2.1, hk.keep hb, hb⟩
theorem LS.keep {w wx wy : World} {L : LogV} {g : Value} {pi pt : Int} {k : Value} {es : List EntV} {cc : Int} (h : LS w L g pi pt k es cc wx) (hb : Below wx.heap.size wx wy) : LS w L g pi pt k es cc wy :=
  ⟨h.log.keep hb, (hb.block _ (Array.getElem?_eq_some_iff.1 h.snt).1).trans h.snt, h.got.keep hb, below_via h.bel hb⟩
theorem LS.cells {w wx : World} {L : LogV} {g : Value} {pi pt : Int} {k : Value} {es : List EntV} {cc : Int} (h : LS w L g pi pt k es cc wx) : wx.cell? ⟨w.heap.size + 1, 0, none⟩ = some (.int .i64 pi) ∧ wx.cell? ⟨w.heap.size + 1, 1, none⟩ = some (.int .i64 pt) ∧ wx.cell? ⟨w.heap.size + 1, 2, none⟩ = some k ∧ wx.cell? ⟨w.heap.size + 1, 3, none⟩ = some (.int .i64 cc) :=
  ⟨by rw [cell_at h.snt]; rfl, by rw [cell_at h.snt]; rfl, by rw [cell_at h.snt]; rfl, by rw [cell_at h.snt]; rfl⟩
set_option maxHeartbeats 16000000 in
set_option maxRecDepth 100000 in
theorem again_walk (L : LogV) (g k : Value) (pi pt : Int) (es : List EntV) (cc : Int) (w : World) (h : EGot w g L.l) (hk : EGot w k es) : Calls Try.prog 3 #[logV L g, .agg (sntA pi pt k cc)] w fun e w' => e = .returned (.bool true) ∧ Below w.heap.size w w' := by
  have HL := hideIt (fun W => live8_is W)
  have S0 := hideIt (LS.first pi pt cc h hk)
  have HT := hideIt (acc_again (L := L) (pi := pi) (pt := pt) (es := es) (cc := cc))
  have HC1 := hideIt (fun W (hW : EGot W g L.l) (hV : EGot W k es) => accept_is L g k pi pt es cc W hW hV)
  have HC2 := hideIt (fun W gx (hW : EGot W gx (accL L pi pt es cc).1.l) (hV : EGot W k es) => accept_is (accL L pi pt es cc).1 gx k pi pt es cc W hW hV)
  have l1 := acc_len L pi pt es cc
  have h8 := h.1
  generalize accL L pi pt es cc = XX at *
  obtain ⟨X, nn, ok, x⟩ := XX
  simp only at HT l1 HC2
  have LX : Hid (X.l.length * 32 ≤ 140737488355328) := by
    show _ ≤ _
    omega
  unfold AccBack at HC1 HC2
  obtain ⟨a, c, rfl⟩ := h.slice
  obtain ⟨ka, kc, rfl⟩ := hk.slice
  unfold logV logA at *
  unfold sntA at *
  obtain ⟨bi, bt, l, cm⟩ := L
  simp only at HC1 HC2 S0 ⊢
  clear h hk h8 l1
  by_cases hx : x = 0
  · subst hx
    have e := HT.out rfl
    rw [e] at HC2
    try simp only at HC2
    have hnn : (nn == nn) = true := by simp
    have hoo : (ok == ok) = true := by simp
    have HS := hideIt (fun gy gz W hy hz => same_is X gy gz W hy hz)
    unfold logV logA at HS
    clear HT e
    go_enter Try.func3, Try.ntmps3
    go_wp2_with fail
    refine (HC1.out _ S0.out.log.got S0.out.got).mono ?_
    rintro e w1 ⟨gx, rfl, ho, hbl⟩
    dsimp only
    obtain ⟨xa, xc, rfl⟩ := own_len ho
    have C1 := hideIt (below_via hbl (below1 w1 (.cells #[.int .i64 X.bi, .int .i64 X.bt, .slice xa X.l.length xc, .int .i64 X.cm] 26)))
    have S1 := hideIt (S0.out.keep C1.out)
    have X1 := hideIt (Ent.new ho LX.out)
    clear ho hbl HC1 C1 S0
    go_upto_region 2 with fail
    unfold logA at X1
    generalize w1.alloc (.cells #[.int .i64 X.bi, .int .i64 X.bt, .slice xa X.l.length xc, .int .i64 X.cm] 26) = w2 at *
    generalize w1.heap.size = k1 at *
    obtain ⟨c0, c1, c2, c3⟩ := X1.out.cells
    obtain ⟨d0, d1, d2, d3⟩ := S1.out.cells
    try simp only at c0 c1 c2 c3
    go_wp2_with fail
    refine (HC2.out _ _ X1.out.got S1.out.got).mono ?_
    rintro e w3 ⟨gy, rfl, ho, hbl⟩
    dsimp only
    obtain ⟨ya, yc, rfl⟩ := own_len ho
    have C3 := hideIt (below_via hbl (below1 w3 (.cells #[.int .i64 X.bi, .int .i64 X.bt, .slice ya X.l.length yc, .int .i64 X.cm] 26)))
    have X3 := hideIt (X1.out.keep C3.out)
    have Y3 := hideIt (Ent.new ho LX.out)
    have B3 := hideIt (below_via S1.out.bel C3.out)
    clear ho hbl HC2 C3 X1 S1 c0 c1 c2 c3 d0 d1 d2 d3
    go_upto_region 5 with fail
    unfold logA at Y3
    generalize w3.alloc (.cells #[.int .i64 X.bi, .int .i64 X.bt, .slice ya X.l.length yc, .int .i64 X.cm] 26) = w4 at *
    generalize w3.heap.size = k3 at *
    obtain ⟨c0, c1, c2, c3⟩ := X3.out.cells
    obtain ⟨d0, d1, d2, d3⟩ := Y3.out.cells
    go_wp2_with fail
    refine (HS.out _ _ _ X3.out.got Y3.out.got).mono ?_
    rintro e w5 ⟨rfl, hbl⟩
    dsimp only
    have B5 := hideIt (below_via B3.out hbl)
    clear hbl c0 c1 c2 c3 d0 d1 d2 d3
    go_wp2_with fail
    refine (HL.out _).mono ?_
    rintro e w9 ⟨rfl, hbl⟩
    dsimp only
    have HB := hideIt (below_via B5.out hbl)
    clear hbl
    go_wp2
    go_ret
    exact ⟨rfl, HB.out⟩
  · have hxb : (x != 0) = true := by simp [hx]
    clear HT HC2 hx
    go_enter Try.func3, Try.ntmps3
    go_wp2_with fail
    refine (HC1.out _ S0.out.log.got S0.out.got).mono ?_
    rintro e w1 ⟨gx, rfl, ho, hbl⟩
    dsimp only
    obtain ⟨xa, xc, rfl⟩ := own_len ho
    have C1 := hideIt (below_via hbl (below1 w1 (.cells #[.int .i64 X.bi, .int .i64 X.bt, .slice xa X.l.length xc, .int .i64 X.cm] 26)))
    have S1 := hideIt (S0.out.keep C1.out)
    have X1 := hideIt (Ent.new ho LX.out)
    clear ho hbl HC1 C1 S0
    go_upto_region 2 with fail
    unfold logA at X1
    generalize w1.alloc (.cells #[.int .i64 X.bi, .int .i64 X.bt, .slice xa X.l.length xc, .int .i64 X.cm] 26) = w2 at *
    generalize w1.heap.size = k1 at *
    have B1 := hideIt S1.out.bel
    go_wp2_with fail
    refine (HL.out _).mono ?_
    rintro e w9 ⟨rfl, hbl⟩
    dsimp only
    have HB := hideIt (below_via B1.out hbl)
    clear hbl
    go_wp2
    go_ret
    exact ⟨rfl, HB.out⟩
end Go.Proofs.Ytiajjlapjnjobaa
