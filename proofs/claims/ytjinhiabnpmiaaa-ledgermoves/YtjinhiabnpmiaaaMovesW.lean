/- The statement on giving and taking, walked. -/
import Derived.Test.YtjinhiabnpmiaaaBackP
import Derived.Test.YtjinhiabnpmiaaaRefD
import Derived.Test.YtjinhiabnpmiaaaLive
namespace Go.Proofs.Ytjinhiabnpmiaaa
open Go.RowKit
theorem Ent.turn {wx wy : World} {k : Nat} {A : AccV} {a : Option Addr} {c : Nat} {F : Nat → Prop} (h : Ent wx k A (.slice a A.l.length c)) (ho : Out F wx wy) (hk : ¬ F k) (hg : 0 < A.l.length → ∀ b off, a = some ⟨b, off, none⟩ → ¬ F b) : Ent wy k A (.slice a A.l.length c) := by
  refine ⟨(ho.block _ h.lt hk).trans h.box, ?_⟩
  obtain ⟨h8, a', c', e, hcc, hr⟩ := h.got
  simp only [Value.slice.injEq] at e
  obtain ⟨rfl, _, rfl⟩ := e
  refine ⟨h8, a, c, rfl, hcc, fun hp => ?_⟩
  obtain ⟨b, off, rfl, hlt, hc⟩ := hr hp
  refine ⟨b, off, rfl, Nat.lt_of_lt_of_le hlt ho.size, fun j hj => ?_⟩
  have hb := ho.block b hlt (hg hp b off rfl)
  rw [← hc j hj]
  simp only [World.cell?, hb]
theorem AGot.blk {w : World} {a : Option Addr} {c : Nat} {l : List AmtV} (h : AGot w (.slice a l.length c) l) : 0 < l.length → ∀ b off, a = some ⟨b, off, none⟩ → b < w.heap.size := by
  intro hp b off e
  obtain ⟨_, a', c', e2, _, hr⟩ := h
  simp only [Value.slice.injEq] at e2
  obtain ⟨rfl, _, _⟩ := e2
  obtain ⟨b2, off2, e3, hlt, _⟩ := hr hp
  rw [e] at e3
  simp only [Option.some.injEq, Addr.mk.injEq] at e3
  rw [e3.1]
  exact hlt
/-- What a list's own row is. -/
theorem own_row {w : World} {B n c : Nat} {a : Option Addr} {xs : List Value} (h : w.ownsRow B 35 2 (.slice a n c) n xs) : 0 < n → ∃ q, a = some ⟨q, 0, none⟩ ∧ B ≤ q ∧ q < w.heap.size ∧ n ≤ c ∧ ∃ cur, w.heap[q]? = some (.cells cur 35 (0, 0)) ∧ cur.size = c * 2 := by
  intro hp
  obtain ⟨_, ⟨_, h0⟩ | ⟨g, cap, cur, hv, hB, hg, hn, _, hs, _⟩⟩ := h
  · omega
  · simp only [Value.slice.injEq] at hv
    obtain ⟨rfl, _, rfl⟩ := hv
    exact ⟨g, rfl, hB, (Array.getElem?_eq_some_iff.1 hg).1, hn, cur, hg, hs⟩
/-- A row of the caller's that may be written over. -/
def Row (xa : Option Addr) (n c lo hi : Nat) (wx : World) : Prop := 0 < n → ∃ q, xa = some ⟨q, 0, none⟩ ∧ lo ≤ q ∧ q < hi ∧ n ≤ c ∧ ∃ cur, wx.heap[q]? = some (.cells cur 35 (0, 0)) ∧ cur.size = c * 2
theorem Row.keep {xa : Option Addr} {n c lo hi : Nat} {wx wy : World} (h : Row xa n c lo hi wx) (hb : Below wx.heap.size wx wy) : Row xa n c lo hi wy := by
  intro hp
  obtain ⟨q, h1, h2, h3, h4, cur, h5, h6⟩ := h hp
  exact ⟨q, h1, h2, h3, h4, cur, (hb.block _ (Array.getElem?_eq_some_iff.1 h5).1).trans h5, h6⟩
theorem Row.out {xa : Option Addr} {n c lo hi : Nat} {wx wy : World} {F : Nat → Prop} (h : Row xa n c lo hi wx) (ho : Out F wx wy) (hF : ∀ k, F k → ¬ (lo ≤ k ∧ k < hi)) : Row xa n c lo hi wy := by
  intro hp
  obtain ⟨q, h1, h2, h3, h4, cur, h5, h6⟩ := h hp
  exact ⟨q, h1, h2, h3, h4, cur, (ho.block _ (Array.getElem?_eq_some_iff.1 h5).1 (fun e => hF q e ⟨h2, h3⟩)).trans h5, h6⟩
theorem Row.set {q n c lo hi : Nat} {wx : World} {t : Nat} {v : Value} (h : Row (some ⟨q, 0, none⟩) n c lo hi wx) : Row (some ⟨q, 0, none⟩) n c lo hi (wx.setCell ⟨q, t, none⟩ v) := by
  intro hp
  obtain ⟨q2, h1, h2, h3, h4, cur, h5, h6⟩ := h hp
  simp only [Option.some.injEq, Addr.mk.injEq] at h1
  obtain ⟨rfl, _⟩ := h1
  exact ⟨q, rfl, h2, h3, h4, _, heap_set h5 _ _, by simpa using h6⟩
/-- All that the walk keeps. -/
structure Six (w : World) (A X Y : AccV) (k1 k3 k5 : Nat) (g g1 gx gy : Value) (wx : World) : Prop where
  e0 : Ent wx w.heap.size A g
  e1 : Ent wx k1 A g1
  e3 : wx.heap[k3]? = some (.cells #[gx, .int .i64 X.ct] 24 (0, 0))
  e5 : wx.heap[k5]? = some (.cells #[gy, .int .i64 Y.ct] 24 (0, 0))
  bel : Below w.heap.size w wx
theorem Six.keep {w wx wy : World} {A X Y : AccV} {k1 k3 k5 : Nat} {g g1 gx gy : Value} (h : Six w A X Y k1 k3 k5 g g1 gx gy wx) (hb : Below wx.heap.size wx wy) : Six w A X Y k1 k3 k5 g g1 gx gy wy :=
  ⟨h.e0.keep hb, h.e1.keep hb, (hb.block _ (Array.getElem?_eq_some_iff.1 h.e3).1).trans h.e3, (hb.block _ (Array.getElem?_eq_some_iff.1 h.e5).1).trans h.e5, below_via h.bel hb⟩
set_option maxHeartbeats 16000000 in
set_option maxRecDepth 100000 in
theorem moves_walk (A : AccV) (g : Value) (a n : Int) (w : World) (h : AGot w g A.l) : Calls Try.prog 4 #[accV A g, .int .i64 a, .int .i64 n] w fun e w' => e = .returned (.bool true) ∧ Below w.heap.size w w' := by
  have HL := hideIt (fun W => live_is W)
  have E0 := hideIt (Ent.first h)
  have HCO := hideIt (copy_is A g (w.alloc (.cells (accA A g) 24)) E0.out.got)
  have HLN := hideIt h.1
  have KG := hideIt (fun ga gc (e : g = .slice ga A.l.length gc) => AGot.blk (w := w) (e ▸ h))
  have HC1 := hideIt (fun W gx (hW : AGot W gx A.l) => credit_is A gx a n W hW)
  have HC2 := hideIt (fun W gx (hW : AGot W gx A.l) => debit_is A gx a n W hW)
  have HC3 := hideIt (fun W gx (hW : AGot W gx A.l) => rCredit_is A gx a n W hW)
  have HC4 := hideIt (fun W gx (hW : AGot W gx A.l) => rDebit_is A gx a n W hW)
  have LX := hideIt (cred_len A a n)
  have LY := hideIt (deb_len A a n)
  generalize credL A a n = XX at *
  obtain ⟨X, x⟩ := XX
  generalize debL A a n = YY at *
  obtain ⟨Y, y⟩ := YY
  have HSX := hideIt (fun g k W hg hk => same_is X g k W hg hk)
  have HSY := hideIt (fun g k W hg hk => same_is Y g k W hg hk)
  have HS0 := hideIt (fun g k W hg hk => same_is A g k W hg hk)
  have hxx : (x != x) = false := by simp
  have hyy : (y != y) = false := by simp
  unfold AccErr at HC1 HC2 HC3 HC4
  unfold AccBack at HCO
  unfold accV accA at *
  obtain ⟨ga, gc, rfl⟩ := h.slice
  replace KG := hideIt (KG.out ga gc rfl)
  obtain ⟨l, ct⟩ := A
  simp only at HC1 HC2 HC3 HC4 LX LY E0 HCO HLN HS0 KG ⊢
  clear h
  go_enter Try.func4, Try.ntmps4
  go_wp2_with fail
  refine HCO.out.mono ?_
  rintro e w1 ⟨go, rfl, ho, hbl⟩
  dsimp only
  obtain ⟨oa, oc, rfl⟩ := own_len ho
  have C1 := hideIt (below_via hbl (below1 w1 (.cells #[.slice oa l.length oc, .int .i64 ct] 24)))
  have E1 := hideIt (E0.out.keep C1.out)
  have O1 := hideIt (Ent.new (A := ⟨l, ct⟩) ho HLN.out)
  have B1 := hideIt (below_via (below1 w _) C1.out)
  clear ho hbl HCO C1 E0
  go_upto_region 2 with fail
  unfold accA at O1
  generalize w1.alloc (.cells #[.slice oa l.length oc, .int .i64 ct] 24) = w2 at *
  generalize w1.heap.size = k1 at *
  have KO := hideIt (AGot.blk O1.out.got)
  have KE := hideIt E1.out.lt
  have KK := hideIt O1.out.lt
  have KS := hideIt B1.out.size
  try simp only at KO
  obtain ⟨c0, c1⟩ := O1.out.cells
  simp only at c0 c1
  go_wp2_with fail
  refine (HC1.out _ _ O1.out.got).mono ?_
  rintro e w3 ⟨gx, rfl, ho, hbl⟩
  dsimp only
  obtain ⟨xa, xc, rfl⟩ := own_len ho
  have C1 := hideIt (below_via hbl (below1 w3 (.cells #[.slice xa X.l.length xc, .int .i64 X.ct] 24)))
  have E3 := hideIt (E1.out.keep C1.out)
  have O3 := hideIt (O1.out.keep C1.out)
  have X3 := hideIt (Ent.new ho LX.out)
  have R3 : Hid (Row xa X.l.length xc w2.heap.size w3.heap.size (w3.alloc (.cells #[.slice xa X.l.length xc, .int .i64 X.ct] 24))) := Row.keep (wx := w3) (own_row ho) (below1 w3 _)
  have B3 := hideIt (below_via B1.out C1.out)
  have S3 := hideIt (Nat.le_trans hbl.size (Nat.le_of_lt (Nat.lt_succ_self _)))
  have T3 : Hid (w2.heap.size ≤ w3.heap.size ∧ w3.heap.size < (w3.alloc (.cells #[.slice xa X.l.length xc, .int .i64 X.ct] 24)).heap.size) := ⟨hbl.size, by simp⟩
  clear ho hbl HC1 C1 E1 O1 B1 c0 c1 S3
  go_upto_region 3 with fail
  unfold accA at X3
  generalize w3.alloc (.cells #[.slice xa X.l.length xc, .int .i64 X.ct] 24) = w4 at *
  generalize w3.heap.size = k3 at *
  obtain ⟨c0, c1⟩ := O3.out.cells
  simp only at c0 c1
  go_wp2_with fail
  refine (HC2.out _ _ O3.out.got).mono ?_
  rintro e w5 ⟨gy, rfl, ho, hbl⟩
  dsimp only
  obtain ⟨ya, yc, rfl⟩ := own_len ho
  have C1 := hideIt (below_via hbl (below1 w5 (.cells #[.slice ya Y.l.length yc, .int .i64 Y.ct] 24)))
  have E5 := hideIt (E3.out.keep C1.out)
  have O5 := hideIt (O3.out.keep C1.out)
  have X5 := hideIt (X3.out.keep C1.out)
  have R5 := hideIt (R3.out.keep C1.out)
  have Y5 := hideIt (Ent.new ho LY.out)
  have Q5 : Hid (Row ya Y.l.length yc w4.heap.size w5.heap.size (w5.alloc (.cells #[.slice ya Y.l.length yc, .int .i64 Y.ct] 24))) := Row.keep (wx := w5) (own_row ho) (below1 w5 _)
  have B5 := hideIt (below_via B3.out C1.out)
  have T5 : Hid (w4.heap.size ≤ w5.heap.size) := hbl.size
  clear ho hbl HC2 C1 E3 O3 X3 R3 B3 c0 c1
  go_upto_region 4 with fail
  unfold accA at Y5
  generalize w5.alloc (.cells #[.slice ya Y.l.length yc, .int .i64 Y.ct] 24) = w6 at *
  generalize w5.heap.size = k5 at *
  have V6 : Hid (Six w ⟨l, ct⟩ X Y k1 k3 k5 (.slice ga l.length gc) (.slice oa l.length oc) (.slice xa X.l.length xc) (.slice ya Y.l.length yc) w6) := ⟨E5.out, O5.out, X5.out.box, Y5.out.box, B5.out⟩
  obtain ⟨c0, c1⟩ := E5.out.cells
  simp only at c0 c1
  go_wp2_with fail
  refine (HC3.out _ _ E5.out.got).mono ?_
  rintro e w7 ⟨gp, rfl, ho, hbl⟩
  dsimp only
  obtain ⟨pa, pc, rfl⟩ := own_len ho
  have C1 := hideIt (below_via hbl (below1 w7 (.cells #[.slice pa X.l.length pc, .int .i64 X.ct] 24)))
  have V8 := hideIt (V6.out.keep C1.out)
  have X8 := hideIt (X5.out.keep C1.out)
  have Y8 := hideIt (Y5.out.keep C1.out)
  have R8 := hideIt (R5.out.keep C1.out)
  have Q8 := hideIt (Q5.out.keep C1.out)
  have P8 := hideIt (Ent.new ho LX.out)
  clear ho hbl HC3 C1 V6 X5 Y5 R5 Q5 E5 O5 B5 c0 c1
  go_upto_region 5 with fail
  unfold accA at P8
  generalize w7.alloc (.cells #[.slice pa X.l.length pc, .int .i64 X.ct] 24) = w8 at *
  generalize w7.heap.size = k7 at *
  obtain ⟨c0, c1⟩ := V8.out.e0.cells
  simp only at c0 c1
  go_wp2_with fail
  refine (HC4.out _ _ V8.out.e0.got).mono ?_
  rintro e w9 ⟨gq, rfl, ho, hbl⟩
  dsimp only
  obtain ⟨qa, qc, rfl⟩ := own_len ho
  have C1 := hideIt (below_via hbl (below1 w9 (.cells #[.slice qa Y.l.length qc, .int .i64 Y.ct] 24)))
  have V10 := hideIt (V8.out.keep C1.out)
  have X10 := hideIt (X8.out.keep C1.out)
  have Y10 := hideIt (Y8.out.keep C1.out)
  have R10 := hideIt (R8.out.keep C1.out)
  have Q10 := hideIt (Q8.out.keep C1.out)
  have P10 := hideIt (P8.out.keep C1.out)
  have Z10 := hideIt (Ent.new ho LY.out)
  clear ho hbl HC4 C1 V8 X8 Y8 R8 Q8 P8 c0 c1
  go_upto_region 6 with fail
  unfold accA at Z10
  generalize w9.alloc (.cells #[.slice qa Y.l.length qc, .int .i64 Y.ct] 24) = w10 at *
  generalize w9.heap.size = k9 at *
  obtain ⟨c0, c1⟩ := X10.out.cells
  obtain ⟨d0, d1⟩ := P10.out.cells
  go_wp2_with fail
  refine (HSX.out _ _ _ X10.out.got P10.out.got).mono ?_
  rintro e w11 ⟨rfl, hbl⟩
  dsimp only
  have V11 := hideIt (V10.out.keep hbl)
  have Y11 := hideIt (Y10.out.keep hbl)
  have Z11 := hideIt (Z10.out.keep hbl)
  have R11 := hideIt (R10.out.keep hbl)
  have Q11 := hideIt (Q10.out.keep hbl)
  clear hbl V10 X10 Y10 P10 Z10 R10 Q10 c0 c1 d0 d1 HSX
  obtain ⟨c0, c1⟩ := Y11.out.cells
  obtain ⟨d0, d1⟩ := Z11.out.cells
  go_wp2_with fail
  refine (HSY.out _ _ _ Y11.out.got Z11.out.got).mono ?_
  rintro e w12 ⟨rfl, hbl⟩
  dsimp only
  have V12 := hideIt (V11.out.keep hbl)
  have R12 := hideIt (R11.out.keep hbl)
  have Q12 := hideIt (Q11.out.keep hbl)
  clear hbl V11 Y11 Z11 R11 Q11 c0 c1 d0 d1 HSY
  obtain ⟨c0, c1⟩ := V12.out.e1.cells
  obtain ⟨d0, d1⟩ := V12.out.e0.cells
  simp only at c0 c1 d0 d1
  go_wp2_with fail
  refine (HS0.out _ _ _ V12.out.e1.got V12.out.e0.got).mono ?_
  rintro e w13 ⟨rfl, hbl⟩
  dsimp only
  have V13 := hideIt (V12.out.keep hbl)
  have R13 := hideIt (R12.out.keep hbl)
  have Q13 := hideIt (Q12.out.keep hbl)
  clear hbl V12 R12 Q12 c0 c1 d0 d1
  have HR0 := hideIt (And.intro V13.out (And.intro R13.out Q13.out))
  obtain ⟨t3a, t3b⟩ := T3.out
  have t5 := T5.out
  have ke := KE.out
  have kk := KK.out
  have ks := KS.out
  clear V13 R13 Q13 T3 T5 KE KK KS
  have HF : Hid (∀ q, (w2.heap.size ≤ q ∧ q < k3 ∨ w4.heap.size ≤ q ∧ q < k5) → ∀ wr wy, Six w ⟨l, ct⟩ X Y k1 k3 k5 (.slice ga l.length gc) (.slice oa l.length oc) (.slice xa X.l.length xc) (.slice ya Y.l.length yc) wr → Out (fun k => k = q) wr wy → Six w ⟨l, ct⟩ X Y k1 k3 k5 (.slice ga l.length gc) (.slice oa l.length oc) (.slice xa X.l.length xc) (.slice ya Y.l.length yc) wy) := by
    intro q hq wr wy hV ho
    refine ⟨Ent.turn (A := ⟨l, ct⟩) hV.e0 ho (by omega) (fun hp b off e => by have := KG.out hp b off e; omega), Ent.turn (A := ⟨l, ct⟩) hV.e1 ho (by omega) (fun hp b off e => by have := KO.out hp b off e; omega), ?_, ?_, below_out hV.bel ho (fun k hk => by omega)⟩
    · exact (ho.block _ (Array.getElem?_eq_some_iff.1 hV.e3).1 (by omega)).trans hV.e3
    · exact (ho.block _ (Array.getElem?_eq_some_iff.1 hV.e5).1 (by omega)).trans hV.e5
  go_upto_region 9 with fail
  go_loopw [16] (fun v wr => ∃ t : Nat, v = .int .i64 t ∧ t ≤ X.l.length ∧ Hid (Six w ⟨l, ct⟩ X Y k1 k3 k5 (.slice ga l.length gc) (.slice oa l.length oc) (.slice xa X.l.length xc) (.slice ya Y.l.length yc) wr ∧ Row xa X.l.length xc w2.heap.size k3 wr ∧ Row ya Y.l.length yc w4.heap.size k5 wr)) (fun v _ => X.l.length - (intOf v).toNat)
  case atStart => exact ⟨0, rfl, Nat.zero_le _, HR0⟩
  case round =>
    obtain ⟨t, rfl, ht, HR⟩ := hrel
    clear HR0
    have x0 : wr.cell? ⟨k3, 0, none⟩ = some (.slice xa X.l.length xc) := by
      rw [cell_at HR.out.1.e3]
      rfl
    by_cases hlt : t < X.l.length
    · have hltI : (t : Int) < (X.l.length : Int) := by omega
      have ht0 : (0 : Int) ≤ (t : Int) := by omega
      have hXL := LX.out
      obtain ⟨q, rfl, hq1, hq2, hq3, cur, hc1, hc2⟩ := HR.out.2.1 (by omega)
      have hu : wr.cell? ⟨q, t * 2 + 1, none⟩ = some (cur[t * 2 + 1]'(by omega)) := by
        rw [cell_at hc1]
        exact Array.getElem?_eq_getElem (by omega)
      have hf : wr.frozen? ⟨q, t * 2 + 1, none⟩ = false := free_at hc1 _
      have hO := Out.ofSet (F := fun k => k = q) wr ⟨q, t * 2 + 1, none⟩ (.int .i64 (-1)) rfl
      have HN := hideIt (And.intro (HF.out q (.inl ⟨hq1, hq2⟩) _ _ HR.out.1 hO) (And.intro (Row.set (t := t * 2 + 1) (v := .int .i64 (-1)) HR.out.2.1) (HR.out.2.2.out hO (fun k e => by omega))))
      generalize (cur[t * 2 + 1]'(by omega)) = u at *
      clear hc1 hc2 HR hO
      go_wp2
      go_roundw
      case rel => exact ⟨t + 1, by go_num, by omega, HN⟩
      case measure => simp [intOf]; omega
    · have hltI : ¬ (t : Int) < (X.l.length : Int) := by omega
      go_upto_region 13 with fail
      clear x0 hlt hltI ht
      go_loopw [17] (fun v wr => ∃ t : Nat, v = .int .i64 t ∧ t ≤ Y.l.length ∧ Hid (Six w ⟨l, ct⟩ X Y k1 k3 k5 (.slice ga l.length gc) (.slice oa l.length oc) (.slice xa X.l.length xc) (.slice ya Y.l.length yc) wr ∧ Row xa X.l.length xc w2.heap.size k3 wr ∧ Row ya Y.l.length yc w4.heap.size k5 wr)) (fun v _ => Y.l.length - (intOf v).toNat)
      case atStart => exact ⟨0, rfl, Nat.zero_le _, HR⟩
      case round =>
        clear HR
        obtain ⟨s, rfl, ht, HR⟩ := hrel
        have x0 : wr.cell? ⟨k5, 0, none⟩ = some (.slice ya Y.l.length yc) := by
          rw [cell_at HR.out.1.e5]
          rfl
        by_cases hlt : s < Y.l.length
        · have hltI : (s : Int) < (Y.l.length : Int) := by omega
          have ht0 : (0 : Int) ≤ (s : Int) := by omega
          have hYL := LY.out
          obtain ⟨q, rfl, hq1, hq2, hq3, cur, hc1, hc2⟩ := HR.out.2.2 (by omega)
          have hu : wr.cell? ⟨q, s * 2 + 1, none⟩ = some (cur[s * 2 + 1]'(by omega)) := by
            rw [cell_at hc1]
            exact Array.getElem?_eq_getElem (by omega)
          have hf : wr.frozen? ⟨q, s * 2 + 1, none⟩ = false := free_at hc1 _
          have hO := Out.ofSet (F := fun k => k = q) wr ⟨q, s * 2 + 1, none⟩ (.int .i64 (-2)) rfl
          have HN := hideIt (And.intro (HF.out q (.inr ⟨hq1, hq2⟩) _ _ HR.out.1 hO) (And.intro (HR.out.2.1.out hO (fun k e => by omega)) (Row.set (t := s * 2 + 1) (v := .int .i64 (-2)) HR.out.2.2)))
          generalize (cur[s * 2 + 1]'(by omega)) = u at *
          clear hc1 hc2 HR hO
          go_wp2
          go_roundw
          case rel => exact ⟨s + 1, by go_num, by omega, HN⟩
          case measure => simp [intOf]; omega
        · have hltI : ¬ (s : Int) < (Y.l.length : Int) := by omega
          have V := hideIt HR.out.1
          clear HR
          obtain ⟨c0, c1⟩ := V.out.e1.cells
          obtain ⟨d0, d1⟩ := V.out.e0.cells
          simp only at c0 c1 d0 d1
          go_wp2_with fail
          refine (HS0.out _ _ _ V.out.e1.got V.out.e0.got).mono ?_
          rintro e w14 ⟨rfl, hbl⟩
          dsimp only
          have B14 := hideIt (below_via V.out.bel hbl)
          clear hbl c0 c1 d0 d1 V
          go_wp2_with fail
          refine (HL.out _).mono ?_
          rintro e w15 ⟨rfl, hbl⟩
          dsimp only
          have HB := hideIt (below_via B14.out hbl)
          clear hbl
          go_wp2
          go_ret
          exact ⟨rfl, HB.out⟩
end Go.Proofs.Ytjinhiabnpmiaaa
