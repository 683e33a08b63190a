/- The statement on installing, walked. -/
import Derived.Test.YtofbikalfpmdpabRInst
import Derived.Test.YtofbikalfpmdpabCompW
namespace Go.Proofs.Ytofbikalfpmdpab
open Go.RowKit
theorem inst_len {L : LogV} (i t : Int) : (instL L i t).1.l.length ≤ L.l.length := by
  unfold instL
  split
  · split
    · split
      · exact Nat.le_refl _
      · simp only
        split
        · rw [List.length_drop]
          omega
        · exact Nat.zero_le _
    · exact Nat.zero_le _
  · exact Nat.zero_le _
/-- A log in a block, and a mark in the next one. -/
structure EM (wx : World) (k : Nat) (L : LogV) (g : Value) (i t : Int) : Prop where
  ent : Ent wx k L g
  mrk : wx.heap[k + 1]? = some (.cells #[.int .i64 i, .int .i64 t] 23 (0, 0))
theorem EM.first {w : World} {L : LogV} {g : Value} (h : EGot w g L.l) (i t : Int) : EM ((w.alloc (.cells (logA L g) 26)).alloc (.cells #[.int .i64 i, .int .i64 t] 23)) w.heap.size L g i t :=
  ⟨(Ent.first h).keep (below1 _ _), (two_heap w _ _).2.1⟩
theorem EM.keep {wx wy : World} {k : Nat} {L : LogV} {g : Value} {i t : Int} (h : EM wx k L g i t) (hb : Below wx.heap.size wx wy) : EM wy k L g i t :=
  ⟨h.ent.keep hb, (hb.block _ (Array.getElem?_eq_some_iff.1 h.mrk).1).trans h.mrk⟩
theorem EM.marks {wx : World} {k : Nat} {L : LogV} {g : Value} {i t : Int} (h : EM wx k L g i t) : wx.cell? ⟨k + 1, 0, none⟩ = some (.int .i64 i) ∧ wx.cell? ⟨k + 1, 1, none⟩ = some (.int .i64 t) :=
  ⟨by rw [cell_at h.mrk]; rfl, by rw [cell_at h.mrk]; rfl⟩
set_option maxHeartbeats 16000000 in
set_option maxRecDepth 100000 in
theorem installs_walk (L : LogV) (g : Value) (i tt : Int) (w : World) (h : EGot w g L.l) : Calls Try.prog 5 #[logV L g, .agg #[.int .i64 i, .int .i64 tt]] w fun e w' => e = .returned (.bool true) ∧ Below w.heap.size w w' := by
  have HL := hideIt (fun W => live_is W)
  have E0 := hideIt (EM.first h i tt)
  have HCP := hideIt (fun W (hW : EGot W g L.l) => copy_is L g W hW)
  have HC1 := hideIt (fun W k (hW : EGot W k L.l) => install_is L k i tt W hW)
  have HC2 := hideIt (fun W (hW : EGot W g L.l) => rInstall_is L g i tt W hW)
  have HS0 := hideIt (fun g k W hg hk => same_is L g k W hg hk)
  have l1 := inst_len (L := L) i tt
  have h8 := h.1
  have LB := hideIt h8
  obtain ⟨⟨X, xb, x⟩, eX⟩ : ∃ X, instL L i tt = X := ⟨_, rfl⟩
  rw [eX] at HC1 HC2 l1
  simp only at l1
  have HSX := hideIt (fun g k W hg hk => same_is X g k W hg hk)
  have LX : Hid (X.l.length * 32 ≤ 140737488355328) := by
    show _ ≤ _
    omega
  have hXl : X.l.length ≤ 9223372036854775806 := by omega
  obtain ⟨a, c, rfl⟩ := h.slice
  have KG := hideIt h.blk
  unfold LogInst at HC1 HC2
  unfold LogBack at HCP
  unfold logV logA at *
  obtain ⟨bi, bt, l, cm⟩ := L
  simp only at HC1 HC2 HCP E0 HS0 LB KG ⊢
  have hxx : (x != x) = false := by simp
  have hxb : (xb != xb) = false := by simp
  clear h eX l1 h8
  go_enter Try.func5, Try.ntmps5
  go_wp2_with fail
  refine (HCP.out _ E0.out.ent.got).mono ?_
  rintro e w1 ⟨gy, rfl, ho, hbl⟩
  dsimp only
  obtain ⟨oa, oc, rfl⟩ := own_len ho
  have C1 := hideIt (below_via hbl (below1 w1 (.cells #[.int .i64 bi, .int .i64 bt, .slice oa l.length oc, .int .i64 cm] 26)))
  have E1 := hideIt (E0.out.keep C1.out)
  have O1 := hideIt (Ent.new (L := ⟨bi, bt, l, cm⟩) ho LB.out)
  have KO := hideIt (Ent.new (L := ⟨bi, bt, l, cm⟩) ho LB.out).got.blk
  have B1 := hideIt (below_via (below2 w _ _) C1.out)
  clear ho hbl HCP C1 E0
  go_upto_region 2 with fail
  unfold logA at O1 KO
  simp only at O1 KO
  generalize w1.alloc (.cells #[.int .i64 bi, .int .i64 bt, .slice oa l.length oc, .int .i64 cm] 26) = w2 at *
  generalize w1.heap.size = k1 at *
  obtain ⟨c0, c1, c2, c3⟩ := O1.out.cells
  simp only at c0 c1 c2 c3
  obtain ⟨m0, m1⟩ := E1.out.marks
  go_wp2_with fail
  refine (HC1.out _ _ O1.out.got).mono ?_
  rintro e w3 ⟨gx, rfl, ho, hbl⟩
  dsimp only
  obtain ⟨xa, xc, rfl⟩ := own_len ho
  have KX := hideIt (own_row ho)
  have C3 := hideIt (below_via hbl (below1 w3 (.cells #[.int .i64 X.bi, .int .i64 X.bt, .slice xa X.l.length xc, .int .i64 X.cm] 26)))
  have E3 := hideIt (E1.out.keep C3.out)
  have O3 := hideIt (O1.out.keep C3.out)
  have X3 := hideIt (Ent.new ho LX.out)
  have OX3 := hideIt (own_keep ho (below1 w3 (.cells #[.int .i64 X.bi, .int .i64 X.bt, .slice xa X.l.length xc, .int .i64 X.cm] 26)))
  have hk2 : w2.heap.size ≤ w3.heap.size := hbl.size
  have B3 := hideIt (below_via B1.out C3.out)
  have hB12 := hideIt B1.out.size
  have OL1 := hideIt O1.out.lt
  have EL1 := hideIt E1.out.ent.lt
  clear ho hbl HC1 C3 E1 O1 B1 c0 c1 c2 c3 m0 m1
  go_upto_region 3 with fail
  unfold logA at X3
  generalize w3.alloc (.cells #[.int .i64 X.bi, .int .i64 X.bt, .slice xa X.l.length xc, .int .i64 X.cm] 26) = w4 at *
  generalize w3.heap.size = k3 at *
  obtain ⟨c0, c1, c2, c3⟩ := E3.out.ent.cells
  simp only at c0 c1 c2 c3
  obtain ⟨m0, m1⟩ := E3.out.marks
  go_wp2_with fail
  refine (HC2.out _ E3.out.ent.got).mono ?_
  rintro e w5 ⟨gz, rfl, ho, hbl⟩
  dsimp only
  obtain ⟨za, zc, rfl⟩ := own_len ho
  have C5 := hideIt (below_via hbl (below1 w5 (.cells #[.int .i64 X.bi, .int .i64 X.bt, .slice za X.l.length zc, .int .i64 X.cm] 26)))
  have E5 := hideIt (E3.out.keep C5.out).ent
  have O5 := hideIt (O3.out.keep C5.out)
  have X5 := hideIt (X3.out.keep C5.out)
  have Z5 := hideIt (Ent.new ho LX.out)
  have OX5 := hideIt (own_keep OX3.out C5.out)
  have B5 := hideIt (below_via B3.out C5.out)
  clear ho hbl HC2 C5 E3 O3 X3 OX3 B3 c0 c1 c2 c3 m0 m1
  go_upto_region 4 with fail
  unfold logA at Z5
  generalize w5.alloc (.cells #[.int .i64 X.bi, .int .i64 X.bt, .slice za X.l.length zc, .int .i64 X.cm] 26) = w6 at *
  generalize w5.heap.size = k5 at *
  obtain ⟨c0, c1, c2, c3⟩ := X5.out.cells
  obtain ⟨d0, d1, d2, d3⟩ := Z5.out.cells
  go_wp2_with fail
  refine (HSX.out _ _ _ X5.out.got Z5.out.got).mono ?_
  rintro e w7 ⟨rfl, hbl⟩
  dsimp only
  have E7 := hideIt (E5.out.keep hbl)
  have O7 := hideIt (O5.out.keep hbl)
  have X7 := hideIt (X5.out.keep hbl)
  have OX7 := hideIt (own_keep OX5.out hbl)
  have B7 := hideIt (below_via B5.out hbl)
  clear hbl E5 O5 X5 Z5 OX5 B5 HSX c0 c1 c2 c3 d0 d1 d2 d3
  obtain ⟨c0, c1, c2, c3⟩ := O7.out.cells
  obtain ⟨d0, d1, d2, d3⟩ := E7.out.cells
  simp only at c0 c1 c2 c3 d0 d1 d2 d3
  go_wp2_with fail
  refine (HS0.out _ _ _ O7.out.got E7.out.got).mono ?_
  rintro e w8 ⟨rfl, hbl⟩
  dsimp only
  have E8 := hideIt (E7.out.keep hbl)
  have O8 := hideIt (O7.out.keep hbl)
  have X8 := hideIt (X7.out.keep hbl)
  have OX8 := hideIt (own_keep OX7.out hbl)
  have B8 := hideIt (below_via B7.out hbl)
  clear hbl E7 O7 X7 OX7 B7 c0 c1 c2 c3 d0 d1 d2 d3
  have KB := hideIt B8.out.size
  have HR0 : Hid (Out (fun k => w2.heap.size ≤ k ∧ k < k3) w8 w8 ∧ ∀ q, xa = some ⟨q, 0, none⟩ → 0 < X.l.length → ∃ cur, w8.heap[q]? = some (.cells cur 39 (0, 0)) ∧ cur.size = xc * 3) := by
    refine ⟨Out.refl _ _, fun q e hp => ?_⟩
    obtain ⟨q2, e2, _, _, _, cur, h1, h2⟩ := own_row OX8.out hp
    rw [e] at e2
    simp only [Option.some.injEq, Addr.mk.injEq] at e2
    rw [e2.1]
    exact ⟨cur, h1, h2⟩
  go_wp2
  go_loopw [12] (fun v wr => ∃ t : Nat, v = .int .i64 t ∧ t ≤ X.l.length ∧ Hid (Out (fun k => w2.heap.size ≤ k ∧ k < k3) w8 wr ∧ ∀ q, xa = some ⟨q, 0, none⟩ → 0 < X.l.length → ∃ cur, wr.heap[q]? = some (.cells cur 39 (0, 0)) ∧ cur.size = xc * 3)) (fun v _ => X.l.length - (intOf v).toNat)
  case atStart => exact ⟨0, rfl, Nat.zero_le _, HR0⟩
  case round =>
    obtain ⟨t, rfl, ht, HR⟩ := hrel
    clear HR0
    have x2 : wr.cell? ⟨k3, 2, none⟩ = some (.slice xa X.l.length xc) := by
      rw [cell_at ((HR.out.1.block k3 X8.out.lt (by omega)).trans X8.out.box)]
      rfl
    by_cases hlt : t < X.l.length
    · have hltI : (t : Int) < (X.l.length : Int) := by omega
      have ht0 : (0 : Int) ≤ (t : Int) := by omega
      obtain ⟨q, rfl, hq1, hq2, hq3, _⟩ := KX.out (by omega)
      obtain ⟨cur, hc1, hc2⟩ := HR.out.2 q rfl (by omega)
      have hu : wr.cell? ⟨q, t * 3 + 2, none⟩ = some (cur[t * 3 + 2]'(by omega)) := by
        rw [cell_at hc1]
        exact Array.getElem?_eq_getElem (by omega)
      have hf : wr.frozen? ⟨q, t * 3 + 2, none⟩ = false := free_at hc1 _
      have HN : Hid (Out (fun k => w2.heap.size ≤ k ∧ k < k3) w8 (wr.setCell ⟨q, t * 3 + 2, none⟩ (.string ⟨#[119, 114, 105, 116, 116, 101, 110]⟩)) ∧ ∀ q2, some (⟨q, 0, none⟩ : Addr) = some ⟨q2, 0, none⟩ → 0 < X.l.length → ∃ cur, (wr.setCell ⟨q, t * 3 + 2, none⟩ (.string ⟨#[119, 114, 105, 116, 116, 101, 110]⟩)).heap[q2]? = some (.cells cur 39 (0, 0)) ∧ cur.size = xc * 3) := by
        refine ⟨HR.out.1.trans (Out.ofSet (F := fun k => w2.heap.size ≤ k ∧ k < k3) wr ⟨q, t * 3 + 2, none⟩ _ ⟨hq1, hq2⟩) (fun _ _ h => h), fun q2 e _ => ?_⟩
        simp only [Option.some.injEq, Addr.mk.injEq] at e
        rw [← e.1]
        exact ⟨_, heap_set hc1 _ _, by simpa using hc2⟩
      generalize (cur[t * 3 + 2]'(by omega)) = u at *
      clear hc1 hc2 HR
      go_wp2
      go_roundw
      case rel => exact ⟨t + 1, by go_num, by omega, HN⟩
      case measure => simp [intOf]; omega
    · have hltI : ¬ (t : Int) < (X.l.length : Int) := by omega
      have hw2 := hB12.out
      have E9 : Hid (Ent wr w.heap.size ⟨bi, bt, l, cm⟩ (.slice a l.length c)) := Ent.turn (L := ⟨bi, bt, l, cm⟩) E8.out HR.out.1 (by have := EL1.out; omega) (fun hp b off e => by have := KG.out hp b off e; omega)
      have O9 : Hid (Ent wr k1 ⟨bi, bt, l, cm⟩ (.slice oa l.length oc)) := Ent.turn (L := ⟨bi, bt, l, cm⟩) O8.out HR.out.1 (by have := OL1.out; omega) (fun hp b off e => by have := KO.out hp b off e; omega)
      have B9 := hideIt (below_out B8.out HR.out.1 (fun k hk => by omega))
      clear E8 O8 X8 OX8 B8 HR
      obtain ⟨c0, c1, c2, c3⟩ := O9.out.cells
      obtain ⟨d0, d1, d2, d3⟩ := E9.out.cells
      simp only at c0 c1 c2 c3 d0 d1 d2 d3
      go_wp2_with fail
      refine (HS0.out _ _ _ O9.out.got E9.out.got).mono ?_
      rintro e w9 ⟨rfl, hbl⟩
      dsimp only
      have B10 := hideIt (below_via B9.out hbl)
      clear hbl c0 c1 c2 c3 d0 d1 d2 d3 B9 E9 O9
      go_wp2_with fail
      refine (HL.out _).mono ?_
      rintro e w10 ⟨rfl, hbl⟩
      dsimp only
      have HB := hideIt (below_via B10.out hbl)
      clear hbl
      go_wp2
      go_ret
      exact ⟨rfl, HB.out⟩
end Go.Proofs.Ytofbikalfpmdpab
