/- The statement that no two lead in one term, walked. -/
import Derived.Test.YtkoecdcbopkkbaaOneK
namespace Go.Proofs.Ytkoecdcbopkkbaa
open Go.RowKit
structure TalkV where
  kind : Int
  who : Int
  dst : Int
  ok : Bool
def TalkAt (w : World) (b off : Nat) (s : TalkV) : Prop :=
  w.cell? ⟨b, off, none⟩ = some (.int .i64 s.kind) ∧ w.cell? ⟨b, off + 1, none⟩ = some (.int .i64 s.who) ∧ w.cell? ⟨b, off + 2, none⟩ = some (.int .i64 s.dst) ∧ w.cell? ⟨b, off + 3, none⟩ = some (.bool s.ok) ∧ i64B s.who ∧ i64B s.dst
def TalksAt (w : World) (a : Option Addr) (l : List TalkV) : Prop :=
  ∀ i (h : i < l.length), ∃ b off, a = some ⟨b, off, none⟩ ∧ b < w.heap.size ∧ TalkAt w b (off + i * 4) l[i]
def SpotsAt (w : World) (a : Option Addr) (l : List (Int × Int)) : Prop :=
  ∀ i (h : i < l.length), ∃ b off, a = some ⟨b, off, none⟩ ∧ b < w.heap.size ∧ w.cell? ⟨b, off + i * 2, none⟩ = some (.int .i64 l[i].1) ∧ w.cell? ⟨b, off + i * 2 + 1, none⟩ = some (.int .i64 l[i].2)
theorem info26 : (Try.prog.info? 26).map (fun i => (i.zero, i.size, i.bytes)) = some (some (.agg #[.int .i64 0, .int .i64 0, .int .i64 0, .slice none 0 0]), 4, 48) := by kernel_rfl
def roleK (k : Nat) : Nat → Bal := fun g => if g < k then ⟨0, 0, 1, []⟩ else ⟨0, 0, 0, []⟩
theorem roleK_zero : roleK 0 = fun _ => ⟨0, 0, 0, []⟩ := by
  funext g
  unfold roleK
  rw [if_neg (by omega)]
theorem roleK_step (k : Nat) : setB (roleK k) k ⟨((roleK k) k).t, ((roleK k) k).v, 1, ((roleK k) k).l⟩ = roleK (k + 1) := by
  funext g
  unfold setB roleK
  by_cases e : g = k
  · subst e
    rw [if_pos rfl, if_neg (by omega), if_pos (by omega)]
  · rw [if_neg e]
    by_cases h : g < k
    · rw [if_pos h, if_pos (by omega)]
    · rw [if_neg h, if_neg (by omega)]
/-- The election stands in memory, and fits the votes. -/
def St (w : World) (lb p : Nat) (led : Nat → Int) (wx : World) : Prop := ∃ B G h, OneAt w lb (p + 1) B G led wx ∧ Inv (p + 1) B h ∧ ledP (p + 1) led h
theorem St.bel {w wx : World} {lb p : Nat} {led : Nat → Int} (h : St w lb p led wx) : Below w.heap.size w wx := by
  obtain ⟨_, _, _, hA, _⟩ := h
  exact hA.bel
theorem inv_role (n : Nat) : Inv n (roleK (n + 1)) (fun _ _ => 0) := by
  have e : ∀ g, g ≤ n → roleK (n + 1) g = ⟨0, 0, 1, []⟩ := fun g hg => if_pos (by omega)
  refine ⟨fun g _ hg => ?_, fun _ _ _ _ _ => rfl, fun k _ hk x hx => ?_, fun k _ hk => ?_, fun k _ hk _ => ?_, fun k _ hk hr => ?_, fun k _ hk => ?_⟩
  · rw [e g hg]
  · rw [e k hk] at hx
    cases hx
  · rw [e k hk]
    exact List.Pairwise.nil
  · rw [e k hk]
  · rw [e k hk] at hr
    simp at hr
  · rw [e k hk]
    exact Int.le_refl _
/-- A node that is picked, 1 to p + 1. -/
theorem pick_at (c : Int) (p : Nat) (h : i64B c) (hp : p < 1000) : ∃ k : Nat, 1 ≤ k ∧ k ≤ p + 1 ∧ Hid (∀ W, Calls Try.prog 23 #[.int .i64 c, .int .i64 (1 + (p : Int))] W fun e w' => e = .returned (.int .i64 ((k : Int) - 1)) ∧ w' = W) := by
  have hl := pickN_lt c (p + 1) (by omega)
  refine ⟨pickN c (p + 1) + 1, by omega, by omega, fun W => ?_⟩
  have := pick_is c (p + 1) W h (by omega) (by omega)
  rw [show ((p + 1 : Nat) : Int) = 1 + (p : Int) by omega] at this
  rw [show (((pickN c (p + 1) + 1 : Nat) : Int) - 1) = (pickN c (p + 1) : Int) by omega]
  exact this
set_option maxHeartbeats 16000000 in
set_option maxRecDepth 100000 in
theorem one_walk (n0 : Int) (hn0 : i64B n0) (sa : Option Addr) (sc : Nat) (sl : List (Int × Int)) (a : Option Addr) (cap : Nat) (l : List TalkV) (w : World) (hS : SpotsAt w sa sl) (hsl : sl.length ≤ maxLen) (hO : TalksAt w a l) (hcap : l.length ≤ maxLen) :
    Calls Try.prog 7 #[.int .i64 n0, .slice sa sl.length sc, .slice a l.length cap] w fun e w' => e = .returned (.bool true) ∧ Below w.heap.size w w' := by
  have HO := hideIt hO
  have HSP := hideIt hS
  have HL := hideIt (fun W => live_is W)
  have hl9 : l.length ≤ 9223372036854775807 := hcap
  have hs9 : sl.length ≤ 9223372036854775807 := hsl
  have HP := hideIt (fun W => pick_is n0 7 W hn0 (by omega) (by omega))
  have hpl := pickN_lt n0 7 (by omega)
  generalize pickN n0 7 = p at *
  clear hO hcap hS hsl
  obtain ⟨i26, hi26, hz0, hz1, hz2⟩ := info_parts info26
  obtain ⟨i3, hi3, hy0, hy1, hy2⟩ := info_parts info3
  have HI26 := hideIt hi26
  have HI3 := hideIt hi3
  clear hi26 hi3
  go_enter Try.func7, Try.ntmps7
  go_wp2_with fail
  refine (HP.out _).mono ?_
  rintro e w ⟨rfl, rfl⟩
  dsimp only
  go_wp2_with (at_make; refine wpList_make_full _ rfl _ _ 55 rfl w.heap.size 26 i26 _ 4 Try.underlying55 HI26.out hz0 hz1 .i64 .i64 _ _ (p + 2) rfl rfl (by first | omega | (simp; omega)) (by first | omega | (simp; omega)) (by rw [hz2]; omega) (by unfold maxLen; omega) (Nat.le_refl _) ?_)
  intro w1 ho1 hg1
  have hh1 : w1.heap[w.heap.size]? = some (.cells (madeCells #[.int .i64 0, .int .i64 0, .int .i64 0, .slice none 0 0] ((p + 1 + 1) * 4)) 26 (0, 0)) := made_heap ho1
  have hb1 := grown_none hg1
  clear ho1 hg1
  have H1 := hideIt (And.intro hh1 hb1)
  clear hh1 hb1
  go_wp2_with (at_make; refine wpList_make_full _ rfl _ _ 24 rfl w1.heap.size 3 i3 _ 1 Try.underlying24 HI3.out hy0 hy1 .i64 .i64 _ _ 200 rfl rfl (by first | omega | rfl) (by first | omega | rfl) (by rw [hy2]; omega) (by unfold maxLen; omega) (Nat.le_refl _) ?_)
  intro w2 ho2 hg2
  have HA := hideIt (OneAt.start w w1 w2 (p + 1) H1.out.1 H1.out.2 (made_heap ho2) (grown_none hg2))
  rw [← roleK_zero] at HA
  clear ho2 hg2 H1 HI26 HI3 hz0 hz1 hz2 hy0 hy1 hy2 HP hn0
  generalize w1.heap.size = lb at *
  go_wp2
  go_loopw [34] (fun v wr => ∃ k : Nat, k ≤ p + 2 ∧ v = .int .i64 k ∧ Hid (OneAt w lb (p + 1) (roleK k) (fun _ => .slice none 0 0) (fun _ => 0) wr)) (fun v _ => p + 2 - (intOf v).toNat)
  case atStart => exact ⟨0, Nat.zero_le _, rfl, HA⟩
  case round =>
    clear HA
    obtain ⟨k, hk, rfl, HA⟩ := hrel
    by_cases hlt : k < p + 2
    · have hlt' : (k : Int) < (p : Int) + 2 := by omega
      obtain ⟨_, _, c2, _, cf⟩ := HA.out.cells k (by omega)
      have HN := hideIt (HA.out.role k (by omega) 1)
      rw [roleK_step] at HN
      clear HA
      go_wp2
      go_roundw
      case rel => exact ⟨k + 1, by omega, by go_num, HN⟩
      case measure => simp [intOf]; omega
    · have ek : k = p + 2 := by omega
      subst ek
      rw [show ((p + 2 : Nat) : Int) = (p : Int) + 2 by omega]
      have HV := hideIt (inv_role (p + 1))
      have HLD : Hid (ledP (p + 1) (fun _ => 0) (fun _ _ => 0)) := fun t ht => absurd rfl ht
      go_wp2
      go_loopw [10] (fun v wr => ∃ (i : Nat) (led : Nat → Int), i ≤ 120 ∧ v = .int .i64 i ∧ Hid (St w lb p led wr)) (fun v _ => 120 - (intOf v).toNat)
      case atStart => exact ⟨0, _, Nat.zero_le _, rfl, hideIt ⟨_, _, _, HA.out, HV.out, HLD.out⟩⟩
      case round =>
        clear HA HV HLD
        obtain ⟨i, led, hi, rfl, HS0⟩ := hrel
        by_cases hA : i < l.length
        · have hA0 : (0 : Int) ≤ (i : Int) := by omega
          have hA1 : (i : Int) < (l.length : Int) := by omega
          by_cases hB : i < 120
          · have hB1 : (i : Int) < 120 := by omega
            obtain ⟨tb, tf, rfl, hbl, t0, t1, t2, t3, b1, b2⟩ := HO.out i hA
            obtain ⟨B, G, h, hA9, hV9, hL9⟩ := HS0.out
            have HA := hideIt hA9
            have HV := hideIt hV9
            have HLD := hideIt hL9
            clear hA9 hV9 hL9
            have hBw := HA.out.bel
            have c0 := (hBw.cell (p := ⟨tb, tf + i * 4, none⟩) hbl).trans t0
            have c1 := (hBw.cell (p := ⟨tb, tf + i * 4 + 1, none⟩) hbl).trans t1
            have c2 := (hBw.cell (p := ⟨tb, tf + i * 4 + 2, none⟩) hbl).trans t2
            have c3 := (hBw.cell (p := ⟨tb, tf + i * 4 + 3, none⟩) hbl).trans t3
            have T3 := hideIt t3
            clear t0 t1 t2 t3 hBw
            generalize l[i] = s at *
            obtain ⟨kind, who0, dst0, ok⟩ := s
            simp only at c0 c1 c2 c3 b1 b2 T3
            obtain ⟨k, hk1, hk2, HP1⟩ := pick_at who0 p b1 (by omega)
            obtain ⟨m, hm1, hm2, HP2⟩ := pick_at dst0 p b2 (by omega)
            clear b1 b2
            go_wp2_with fail
            refine (HP1.out _).mono ?_
            rintro e wr ⟨rfl, rfl⟩
            dsimp only
            go_wp2_with fail
            refine (HP2.out _).mono ?_
            rintro e wr ⟨rfl, rfl⟩
            dsimp only
            go_upto_block 4 with fail
            obtain ⟨d0, d1, d2, d3, df⟩ := HA.out.cells k hk2
            obtain ⟨ga, gc, hG⟩ := own_len (HA.out.own k hk2)
            have GK := hideIt (HA.out.got k hk2)
            rw [hG] at d3 GK
            have hki : (1 + ((k : Int) - 1)) = (k : Int) := by omega
            have HKI := hideIt hki
            have HPI : Hid ((1 + (p : Int)) = ((p + 1 : Nat) : Int)) := by
              show _ = _
              omega
            have hkl : (k : Int) < (p : Int) + 2 := by omega
            have hkg : (1 : Int) ≤ (k : Int) := by omega
            clear hki
            go_cut [13, 14, 15, 16, 17, 18, 19, 20, 21, 22] from 73 to 183 (fun _ _ _ _ _ _ _ _ _ _ wx => Hid (St w lb p led wx))
            case first =>
              by_cases k0 : kind = 0
              · subst k0
                have H1 := hideIt (begin_is (B k) (.slice ga (B k).l.length gc) (1 + ((k : Int) - 1)) (1 + (p : Int)) wr GK.out)
                have HI := hideIt (inv_begin HV.out k hk1 hk2)
                have LX := hideIt (begin_len (B k) k ((p + 1 : Nat) : Int))
                rw [HKI.out, HPI.out] at H1
                obtain ⟨⟨X, ex⟩, eX⟩ : ∃ X, beginL (B k) k ((p + 1 : Nat) : Int) = X := ⟨_, rfl⟩
                rw [eX] at H1 HI LX
                simp only at H1 HI LX
                rw [← HKI.out, ← HPI.out] at H1
                clear eX
                unfold balV at H1
                go_wp2_with fail
                refine H1.out.mono ?_
                rintro e w2 ⟨gx, rfl, h1, h2⟩
                dsimp only
                clear H1
                obtain ⟨xa, xc, rfl⟩ := own_len h1
                unfold balV
                have A2 := hideIt ((HA.out.keep h2).keep (below1 w2 (.cells #[.int .i64 X.t, .int .i64 X.v, .int .i64 X.r, .slice xa X.l.length xc] 26)))
                have O2 := hideIt (own_base (own_keep h1 (below1 w2 (.cells #[.int .i64 X.t, .int .i64 X.v, .int .i64 X.r, .slice xa X.l.length xc] 26))) HA.out.size)
                clear h1 h2 d0 d1 d2 d3 df
                obtain ⟨d0, d1, d2, d3, df⟩ := A2.out.cells k hk2
                by_cases he : ex = 0
                · subst he
                  have HN : Hid (St w lb p led (((((w2.alloc (.cells #[.int .i64 X.t, .int .i64 X.v, .int .i64 X.r, .slice xa X.l.length xc] 26)).setCell ⟨w.heap.size, k * 4, none⟩ (.int .i64 X.t)).setCell ⟨w.heap.size, k * 4 + 1, none⟩ (.int .i64 X.v)).setCell ⟨w.heap.size, k * 4 + 2, none⟩ (.int .i64 X.r)).setCell ⟨w.heap.size, k * 4 + 3, none⟩ (.slice xa X.l.length xc))) := by
                    obtain ⟨h', hg, hi'⟩ := HI.out rfl
                    exact ⟨_, _, h', A2.out.put k hk2 X _ O2.out LX.out, hi', ledP_grew HLD.out hg⟩
                  clear A2 O2 HI HV HLD
                  go_wp2_with fail
                  go_meet
                  exact HN
                · have heb : (ex == 0) = false := by simp [he]
                  have HN : Hid (St w lb p led (w2.alloc (.cells #[.int .i64 X.t, .int .i64 X.v, .int .i64 X.r, .slice xa X.l.length xc] 26))) := ⟨_, _, _, A2.out, HV.out, HLD.out⟩
                  clear A2 O2 HI HV HLD
                  go_wp2_with fail
                  go_meet
                  exact HN
              · have k0b : (kind == 0) = false := beq_eq_false_iff_ne.2 k0
                by_cases k1 : kind = 1
                · subst k1
                  clear k0
                  by_cases hr2 : (B k).r = 2
                  · have hr2b : ((B k).r != 2) = false := by simp [hr2]
                    by_cases hkm' : m = k
                    · subst hkm'
                      have HNX : Hid (St w lb p led wr) := ⟨_, _, _, HA.out, HV.out, HLD.out⟩
                      clear HV HLD hr2
                      as_aux_lemma =>
                        go_wp2
                        go_roundw
                        case rel => exact ⟨i + 1, led, by omega, by go_num, HNX⟩
                        case measure => simp [intOf]; omega
                    · have hkm : k ≠ m := fun e => hkm' e.symm
                      have hmq : ((1 + ((m : Int) - 1)) == (1 + ((k : Int) - 1))) = false := by
                        rw [beq_eq_false_iff_ne]
                        omega
                      have hml : (m : Int) < (p : Int) + 2 := by omega
                      have hmg : (1 : Int) ≤ (m : Int) := by omega
                      have HMI : Hid ((1 + ((m : Int) - 1)) = (m : Int)) := by
                        show _ = _
                        omega
                      have hmt : (1 + ((m : Int) - 1)).toNat = m := by omega
                      have hkt : (1 + ((k : Int) - 1)).toNat = k := by omega
                      clear hr2 hkm'
                      by_cases hks : k < sl.length
                      · have hks1 : (1 + ((k : Int) - 1)) < (sl.length : Int) := by omega
                        by_cases hms : m < sl.length
                        · have hms1 : (1 + ((m : Int) - 1)) < (sl.length : Int) := by omega
                          obtain ⟨sb, so, rfl, hsb, y0, y1⟩ := HSP.out k hks
                          obtain ⟨sb2, so2, es2, _, x0, x1⟩ := HSP.out m hms
                          simp only [Option.some.injEq, Addr.mk.injEq] at es2
                          obtain ⟨rfl, rfl, _⟩ := es2
                          have r0 := (HA.out.bel.cell (p := ⟨sb, so + k * 2, none⟩) hsb).trans y0
                          have r1 := (HA.out.bel.cell (p := ⟨sb, so + k * 2 + 1, none⟩) hsb).trans y1
                          have u0 := (HA.out.bel.cell (p := ⟨sb, so + m * 2, none⟩) hsb).trans x0
                          have u1 := (HA.out.bel.cell (p := ⟨sb, so + m * 2 + 1, none⟩) hsb).trans x1
                          have hsbr : sb < wr.heap.size := Nat.lt_of_lt_of_le hsb HA.out.bel.size
                          generalize (sl[k]).1 = yi at *
                          generalize (sl[k]).2 = yt at *
                          generalize (sl[m]).1 = xi at *
                          generalize (sl[m]).2 = xt at *
                          clear y0 y1 x0 x1
                          as_aux_lemma =>
                            have A1 := hideIt (HA.out.keep (below2 wr (.cells #[.int .i64 xi, .int .i64 xt] 37) (.cells #[.int .i64 yi, .int .i64 yt] 37)))
                            obtain ⟨kk0, _, _, _, _⟩ := A1.out.cells k hk2
                            go_upto_region 27 with fail
                            clear kk0
                            have HT := hideIt (two_heap wr (.cells #[.int .i64 xi, .int .i64 xt] 37) (.cells #[.int .i64 yi, .int .i64 yt] 37))
                            clear d0 d1 d2 d3 df
                            generalize hY : (wr.alloc (.cells #[.int .i64 xi, .int .i64 xt] 37)).alloc (.cells #[.int .i64 yi, .int .i64 yt] 37) = Y at *
                            clear hY
                            obtain ⟨m0, m1, m2, m3, mf⟩ := A1.out.cells m hm2
                            obtain ⟨ma, mc, hGm⟩ := own_len (A1.out.own m hm2)
                            have GM := hideIt (A1.out.got m hm2)
                            rw [hGm] at m3 GM
                            have l0 : Y.cell? ⟨wr.heap.size, 0, none⟩ = some (.int .i64 xi) := by rw [cell_at HT.out.1]; rfl
                            have l1 : Y.cell? ⟨wr.heap.size, 1, none⟩ = some (.int .i64 xt) := by rw [cell_at HT.out.1]; rfl
                            have q0 : Y.cell? ⟨wr.heap.size + 1, 0, none⟩ = some (.int .i64 yi) := by rw [cell_at HT.out.2.1]; rfl
                            have q1 : Y.cell? ⟨wr.heap.size + 1, 1, none⟩ = some (.int .i64 yt) := by rw [cell_at HT.out.2.1]; rfl
                            have hmb0 : 0 ≤ 1 + ((m : Int) - 1) := by omega
                            have hmb1 : 1 + ((m : Int) - 1) < (p : Int) + 2 := by omega
                            obtain ⟨⟨X, okx, ex⟩, eX⟩ : ∃ X, grantL (B m) (1 + ((k : Int) - 1)) (B k).t yi yt xi xt = X := ⟨_, rfl⟩
                            have EX := hideIt eX
                            have HFA : Hid (∀ w', Below Y.heap.size Y w' → w'.cell? ⟨w.heap.size, m * 4, none⟩ = some (.int .i64 (B m).t) ∧ w'.cell? ⟨w.heap.size, m * 4 + 1, none⟩ = some (.int .i64 (B m).v) ∧ w'.cell? ⟨w.heap.size, m * 4 + 2, none⟩ = some (.int .i64 (B m).r) ∧ w'.cell? ⟨w.heap.size, m * 4 + 3, none⟩ = some (.slice ma (B m).l.length mc) ∧ w'.cell? ⟨wr.heap.size, 0, none⟩ = some (.int .i64 xi) ∧ w'.cell? ⟨wr.heap.size, 1, none⟩ = some (.int .i64 xt) ∧ w'.cell? ⟨wr.heap.size + 1, 0, none⟩ = some (.int .i64 yi) ∧ w'.cell? ⟨wr.heap.size + 1, 1, none⟩ = some (.int .i64 yt)) := by
                              intro w' hb
                              obtain ⟨x0, x1, x2, x3, _⟩ := (A1.out.keep hb).cells m hm2
                              rw [hGm] at x3
                              exact ⟨x0, x1, x2, x3, by rw [cell_at ((hb.block _ (by have := HT.out.2.2; omega)).trans HT.out.1)]; rfl, by rw [cell_at ((hb.block _ (by have := HT.out.2.2; omega)).trans HT.out.1)]; rfl, by rw [cell_at ((hb.block _ (by have := HT.out.2.2; omega)).trans HT.out.2.1)]; rfl, by rw [cell_at ((hb.block _ (by have := HT.out.2.2; omega)).trans HT.out.2.1)]; rfl⟩
                            have HK : Hid (∀ wx, Below Y.heap.size Y wx → Calls Try.prog 17 #[.agg #[.int .i64 (B m).t, .int .i64 (B m).v, .int .i64 (B m).r, .slice ma (B m).l.length mc], .agg #[.int .i64 (1 + ((k : Int) - 1)), .int .i64 (B k).t, .int .i64 yi, .int .i64 yt], .agg #[.int .i64 xi, .int .i64 xt]] wx fun e w' => ∃ gx, e = .returned (.tuple #[.agg #[.int .i64 X.t, .int .i64 X.v, .int .i64 X.r, gx], .bool okx, .int .i64 ex]) ∧ Hid (w'.ownsRow wx.heap.size 3 1 gx X.l.length (X.l.map iv) ∧ Below wx.heap.size wx w' ∧ Below Y.heap.size Y w') ∧ w'.cell? ⟨w.heap.size, m * 4, none⟩ = some (.int .i64 (B m).t) ∧ w'.cell? ⟨w.heap.size, m * 4 + 1, none⟩ = some (.int .i64 (B m).v) ∧ w'.cell? ⟨w.heap.size, m * 4 + 2, none⟩ = some (.int .i64 (B m).r) ∧ w'.cell? ⟨w.heap.size, m * 4 + 3, none⟩ = some (.slice ma (B m).l.length mc) ∧ w'.cell? ⟨wr.heap.size, 0, none⟩ = some (.int .i64 xi) ∧ w'.cell? ⟨wr.heap.size, 1, none⟩ = some (.int .i64 xt) ∧ w'.cell? ⟨wr.heap.size + 1, 0, none⟩ = some (.int .i64 yi) ∧ w'.cell? ⟨wr.heap.size + 1, 1, none⟩ = some (.int .i64 yt)) := by
                              intro wx hx
                              have := grant_is (B m) (.slice ma (B m).l.length mc) (1 + ((k : Int) - 1)) (B k).t yi yt xi xt wx (GM.out.keep hx)
                              rw [EX.out] at this
                              unfold balV at this
                              refine this.mono ?_
                              rintro e w' ⟨gx, rfl, h1, h2⟩
                              exact ⟨gx, rfl, hideIt ⟨h1, h2, below_via hx h2⟩, HFA.out w' (below_via hx h2)⟩
                            have NA : ∀ o, (Y.alloc o).cell? ⟨w.heap.size, m * 4, none⟩ = some (.int .i64 (B m).t) ∧ (Y.alloc o).cell? ⟨w.heap.size, m * 4 + 1, none⟩ = some (.int .i64 (B m).v) ∧ (Y.alloc o).cell? ⟨w.heap.size, m * 4 + 2, none⟩ = some (.int .i64 (B m).r) ∧ (Y.alloc o).cell? ⟨w.heap.size, m * 4 + 3, none⟩ = some (.slice ma (B m).l.length mc) ∧ (Y.alloc o).cell? ⟨wr.heap.size, 0, none⟩ = some (.int .i64 xi) ∧ (Y.alloc o).cell? ⟨wr.heap.size, 1, none⟩ = some (.int .i64 xt) ∧ (Y.alloc o).cell? ⟨wr.heap.size + 1, 0, none⟩ = some (.int .i64 yi) ∧ (Y.alloc o).cell? ⟨wr.heap.size + 1, 1, none⟩ = some (.int .i64 yt) := fun o => HFA.out _ (below1 Y o)
                            have ZF : Hid (∀ w', Below (Y.alloc (.cells #[.int .i64 0, .int .i64 0, .int .i64 0, .slice none 0 0] 26)).heap.size (Y.alloc (.cells #[.int .i64 0, .int .i64 0, .int .i64 0, .slice none 0 0] 26)) w' → w'.cell? ⟨Y.heap.size, 0, none⟩ = some (.int .i64 0) ∧ w'.cell? ⟨Y.heap.size, 1, none⟩ = some (.int .i64 0) ∧ w'.cell? ⟨Y.heap.size, 2, none⟩ = some (.int .i64 0) ∧ w'.cell? ⟨Y.heap.size, 3, none⟩ = some (.slice none 0 0) ∧ ∀ j, w'.frozen? ⟨Y.heap.size, j, none⟩ = false) := by
                              intro w' hb
                              have hz := (hb.block Y.heap.size (by simp)).trans (heap_alloc_new Y _)
                              exact ⟨by rw [cell_at hz]; rfl, by rw [cell_at hz]; rfl, by rw [cell_at hz]; rfl, by rw [cell_at hz]; rfl, fun j => free_at hz j⟩
                            have y1 : Y.heap.size ≠ w.heap.size := by have := HT.out.2.2; have := HA.out.size; have := HA.out.lt; omega
                            have y2 : Y.heap.size ≠ wr.heap.size := by have := HT.out.2.2; omega
                            have y3 : Y.heap.size ≠ wr.heap.size + 1 := by have := HT.out.2.2; omega
                            clear eX
                            go_cut [18, 19, 20] from 130 to 143 (fun x y z wx => ∃ (cb : Nat) (gx : Value), x = .pointer (some ⟨cb, 0, none⟩) ∧ y = .bool okx ∧ z = .int .i64 ex ∧ Hid (wx.heap[cb]? = some (.cells #[.int .i64 X.t, .int .i64 X.v, .int .i64 X.r, gx] 26 (0, 0)) ∧ wx.ownsRow Y.heap.size 3 1 gx X.l.length (X.l.map iv) ∧ Below Y.heap.size Y wx))
                            case first =>
                              go_region_held3 (fun w' => w'.cell? ⟨w.heap.size, m * 4, none⟩ = some (.int .i64 (B m).t) ∧ w'.cell? ⟨w.heap.size, m * 4 + 1, none⟩ = some (.int .i64 (B m).v) ∧ w'.cell? ⟨w.heap.size, m * 4 + 2, none⟩ = some (.int .i64 (B m).r) ∧ w'.cell? ⟨w.heap.size, m * 4 + 3, none⟩ = some (.slice ma (B m).l.length mc) ∧ w'.cell? ⟨wr.heap.size, 0, none⟩ = some (.int .i64 xi) ∧ w'.cell? ⟨wr.heap.size, 1, none⟩ = some (.int .i64 xt) ∧ w'.cell? ⟨wr.heap.size + 1, 0, none⟩ = some (.int .i64 yi) ∧ w'.cell? ⟨wr.heap.size + 1, 1, none⟩ = some (.int .i64 yt)) (go_keep) (first | (go_at_call 17; refine (HK.out (Y.alloc (.cells #[.int .i64 0, .int .i64 0, .int .i64 0, .slice none 0 0] 26)).drew (below1 _ _).drew).mono ?_; rintro e w5 ⟨gx, rfl, hst, j0, j1, j2, j3, j4, j5, j6, j7⟩; obtain ⟨xa, xc, rfl⟩ := own_len hst.out.1; obtain ⟨n0, n1, n2, n3, nf⟩ := ZF.out w5 (below_via (Below.refl _ _).drew hst.out.2.1)) | (go_at_call 17; refine (HK.out Y.drew (Below.refl _ _).drew).mono ?_; rintro e w5 ⟨gx, rfl, hst, j0, j1, j2, j3, j4, j5, j6, j7⟩; obtain ⟨xa, xc, rfl⟩ := own_len hst.out.1))
                              all_goals go_wp2_with fail
                              all_goals go_meet
                              · exact ⟨w5.heap.size, _, rfl, rfl, rfl, hideIt ⟨heap_alloc_new w5 _, own_keep hst.out.1 (below1 w5 _), below_via hst.out.2.2 (below1 w5 _)⟩⟩
                              · have hz := (hst.out.2.1.block Y.heap.size (show Y.heap.size < (Y.alloc (.cells #[.int .i64 0, .int .i64 0, .int .i64 0, .slice none 0 0] 26)).heap.size by simp)).trans (heap_alloc_new Y _)
                                have hbb : Y.heap.size < (Y.alloc (.cells #[.int .i64 0, .int .i64 0, .int .i64 0, .slice none 0 0] 26)).drew.heap.size := show Y.heap.size < (Y.alloc (.cells #[.int .i64 0, .int .i64 0, .int .i64 0, .slice none 0 0] 26)).heap.size by simp
                                exact ⟨Y.heap.size, _, rfl, rfl, rfl, hideIt ⟨put4 _ _ 26 _ _ _ _ hz, own_base (ownSet _ (ownSet _ (ownSet _ (ownSet _ hst.out.1 hbb) hbb) hbb) hbb) (Nat.le_of_lt hbb), belowSet _ (belowSet _ (belowSet _ (belowSet _ hst.out.2.2 (Nat.le_refl _)) (Nat.le_refl _)) (Nat.le_refl _)) (Nat.le_refl _)⟩⟩
                            case rest =>
                            obtain ⟨cb, gx, rfl, rfl, rfl, HGC⟩ := hcut
                            obtain ⟨xa, xc, rfl⟩ := own_len HGC.out.2.1
                            have HI := hideIt (inv_grant HV.out m hm1 hm2 (1 + ((k : Int) - 1)) (B k).t yi yt xi xt)
                            have LX := hideIt (grant_len (B m) (1 + ((k : Int) - 1)) (B k).t yi yt xi xt)
                            rw [EX.out] at HI LX
                            simp only at HI LX
                            have A2 := hideIt (A1.out.keep HGC.out.2.2)
                            have O2 := hideIt (own_base HGC.out.2.1 A1.out.size)
                            have x0 : wc.cell? ⟨cb, 0, none⟩ = some (.int .i64 X.t) := by rw [cell_at HGC.out.1]; rfl
                            have x1 : wc.cell? ⟨cb, 1, none⟩ = some (.int .i64 X.v) := by rw [cell_at HGC.out.1]; rfl
                            have x2 : wc.cell? ⟨cb, 2, none⟩ = some (.int .i64 X.r) := by rw [cell_at HGC.out.1]; rfl
                            have x3 : wc.cell? ⟨cb, 3, none⟩ = some (.slice xa X.l.length xc) := by rw [cell_at HGC.out.1]; rfl
                            clear m0 m1 m2 m3 mf l0 l1 q0 q1 A1 HT GM HGC HFA HK NA ZF y1 y2 y3 hmb0 hmb1 EX
                            obtain ⟨m0, m1, m2, m3, mf⟩ := A2.out.cells m hm2
                            by_cases he : ex = 0
                            · subst he
                              have AZ := hideIt (A2.out.put m hm2 X _ O2.out LX.out)
                              clear A2 O2
                              go_upto_region 30 with fail
                              clear m0 m1 m2 m3 mf x0 x1 x2 x3
                              generalize hZ : ((((wc.setCell ⟨w.heap.size, m * 4, none⟩ (.int .i64 X.t)).setCell ⟨w.heap.size, m * 4 + 1, none⟩ (.int .i64 X.v)).setCell ⟨w.heap.size, m * 4 + 2, none⟩ (.int .i64 X.r)).setCell ⟨w.heap.size, m * 4 + 3, none⟩ (.slice xa X.l.length xc)) = Z at *
                              clear hZ
                              obtain ⟨h', hgr, hiv, hvt⟩ := HI.out rfl
                              have HGR := hideIt hgr
                              have HIV := hideIt hiv
                              have HVT := hideIt hvt
                              clear hgr hiv hvt HI
                              have z3 := (AZ.out.bel.cell (p := ⟨tb, tf + i * 4 + 3, none⟩) hbl).trans T3.out
                              obtain ⟨d0, d1, d2, d3, df⟩ := AZ.out.cells k hk2
                              rw [setB_other _ _ _ _ hkm] at d0 d1 d2
                              rw [show setG G m (.slice xa X.l.length xc) k = G k from if_neg hkm, hG] at d3
                              cases ok
                              · have HN : Hid (St w lb p led Z) := ⟨_, _, _, AZ.out, HIV.out, ledP_grew HLD.out HGR.out⟩
                                clear AZ HIV HVT HGR HLD HV
                                go_wp2_with fail
                                go_meet
                                exact HN
                              · have GK2 := AZ.out.got k hk2
                                rw [setB_other _ _ _ _ hkm, show setG G m (.slice xa X.l.length xc) k = G k from if_neg hkm, hG] at GK2
                                have H3 := hideIt (count_is (B k) (.slice ga (B k).l.length gc) (1 + ((m : Int) - 1)) (B k).t okx (1 + (p : Int)) Z GK2)
                                have HC := hideIt (inv_count HIV.out k hk1 hk2 (m : Int) (B k).t okx (by omega) (by omega) (fun e => by have := HVT.out e; rw [show ((m : Int)).toNat = m by omega, this]; omega))
                                rw [setB_other _ _ _ _ hkm] at HC
                                have LD := hideIt (count_len (B k) (m : Int) (B k).t okx ((p + 1 : Nat) : Int))
                                rw [HMI.out, HPI.out] at H3
                                obtain ⟨⟨D, ed⟩, eD⟩ : ∃ D, countL (B k) (m : Int) (B k).t okx ((p + 1 : Nat) : Int) = D := ⟨_, rfl⟩
                                rw [eD] at H3 HC LD
                                simp only at H3 HC LD
                                rw [← HMI.out, ← HPI.out] at H3
                                clear eD GK2
                                unfold balV at H3
                                go_wp2_with fail
                                refine H3.out.mono ?_
                                rintro e w3 ⟨gd, rfl, h1, h2⟩
                                dsimp only
                                clear H3
                                obtain ⟨da, dc, rfl⟩ := own_len h1
                                unfold balV
                                have A3 := hideIt ((AZ.out.keep h2).keep (below1 w3 (.cells #[.int .i64 D.t, .int .i64 D.v, .int .i64 D.r, .slice da D.l.length dc] 26)))
                                have O3 := hideIt (own_base (own_keep h1 (below1 w3 (.cells #[.int .i64 D.t, .int .i64 D.v, .int .i64 D.r, .slice da D.l.length dc] 26))) AZ.out.size)
                                clear h1 h2 d0 d1 d2 d3 df z3
                                obtain ⟨d0, d1, d2, d3, df⟩ := A3.out.cells k hk2
                                by_cases hd : ed = 0
                                · subst hd
                                  have HN : Hid (St w lb p led (((((w3.alloc (.cells #[.int .i64 D.t, .int .i64 D.v, .int .i64 D.r, .slice da D.l.length dc] 26)).setCell ⟨w.heap.size, k * 4, none⟩ (.int .i64 D.t)).setCell ⟨w.heap.size, k * 4 + 1, none⟩ (.int .i64 D.v)).setCell ⟨w.heap.size, k * 4 + 2, none⟩ (.int .i64 D.r)).setCell ⟨w.heap.size, k * 4 + 3, none⟩ (.slice da D.l.length dc))) := ⟨_, _, _, A3.out.put k hk2 D _ O3.out LD.out, HC.out rfl, ledP_grew HLD.out HGR.out⟩
                                  clear A3 O3 HC HIV HVT HGR HLD HV AZ
                                  go_wp2_with fail
                                  go_meet
                                  exact HN
                                · have hdb : (ed == 0) = false := by simp [hd]
                                  have HN : Hid (St w lb p led (w3.alloc (.cells #[.int .i64 D.t, .int .i64 D.v, .int .i64 D.r, .slice da D.l.length dc] 26))) := ⟨_, _, _, A3.out, HIV.out, ledP_grew HLD.out HGR.out⟩
                                  clear A3 O3 HC HIV HVT HGR HLD HV AZ
                                  go_wp2_with fail
                                  go_meet
                                  exact HN
                            · have heb : (ex != 0) = true := by simp [he]
                              have HNX : Hid (St w lb p led wc) := ⟨_, _, _, A2.out, HV.out, HLD.out⟩
                              clear A2 O2 HI HV HLD
                              go_wp2
                              go_roundw
                              case rel => exact ⟨i + 1, led, by omega, by go_num, HNX⟩
                              case measure => simp [intOf]; omega
                        · have hms1 : ¬ ((1 + ((m : Int) - 1)) < (sl.length : Int)) := by omega
                          as_aux_lemma =>
                            have A1 := hideIt (HA.out.keep (below2 wr (.cells #[.int .i64 0, .int .i64 0] 37) (.cells #[.int .i64 0, .int .i64 0] 37)))
                            obtain ⟨kk0, _, _, _, _⟩ := A1.out.cells k hk2
                            go_upto_region 27 with fail
                            clear kk0
                            have HT := hideIt (two_heap wr (.cells #[.int .i64 0, .int .i64 0] 37) (.cells #[.int .i64 0, .int .i64 0] 37))
                            clear d0 d1 d2 d3 df
                            generalize hY : (wr.alloc (.cells #[.int .i64 0, .int .i64 0] 37)).alloc (.cells #[.int .i64 0, .int .i64 0] 37) = Y at *
                            clear hY
                            obtain ⟨m0, m1, m2, m3, mf⟩ := A1.out.cells m hm2
                            obtain ⟨ma, mc, hGm⟩ := own_len (A1.out.own m hm2)
                            have GM := hideIt (A1.out.got m hm2)
                            rw [hGm] at m3 GM
                            have l0 : Y.cell? ⟨wr.heap.size, 0, none⟩ = some (.int .i64 0) := by rw [cell_at HT.out.1]; rfl
                            have l1 : Y.cell? ⟨wr.heap.size, 1, none⟩ = some (.int .i64 0) := by rw [cell_at HT.out.1]; rfl
                            have q0 : Y.cell? ⟨wr.heap.size + 1, 0, none⟩ = some (.int .i64 0) := by rw [cell_at HT.out.2.1]; rfl
                            have q1 : Y.cell? ⟨wr.heap.size + 1, 1, none⟩ = some (.int .i64 0) := by rw [cell_at HT.out.2.1]; rfl
                            have hmb0 : 0 ≤ 1 + ((m : Int) - 1) := by omega
                            have hmb1 : 1 + ((m : Int) - 1) < (p : Int) + 2 := by omega
                            obtain ⟨⟨X, okx, ex⟩, eX⟩ : ∃ X, grantL (B m) (1 + ((k : Int) - 1)) (B k).t 0 0 0 0 = X := ⟨_, rfl⟩
                            have EX := hideIt eX
                            have HFA : Hid (∀ w', Below Y.heap.size Y w' → w'.cell? ⟨w.heap.size, m * 4, none⟩ = some (.int .i64 (B m).t) ∧ w'.cell? ⟨w.heap.size, m * 4 + 1, none⟩ = some (.int .i64 (B m).v) ∧ w'.cell? ⟨w.heap.size, m * 4 + 2, none⟩ = some (.int .i64 (B m).r) ∧ w'.cell? ⟨w.heap.size, m * 4 + 3, none⟩ = some (.slice ma (B m).l.length mc) ∧ w'.cell? ⟨wr.heap.size, 0, none⟩ = some (.int .i64 0) ∧ w'.cell? ⟨wr.heap.size, 1, none⟩ = some (.int .i64 0) ∧ w'.cell? ⟨wr.heap.size + 1, 0, none⟩ = some (.int .i64 0) ∧ w'.cell? ⟨wr.heap.size + 1, 1, none⟩ = some (.int .i64 0)) := by
                              intro w' hb
                              obtain ⟨x0, x1, x2, x3, _⟩ := (A1.out.keep hb).cells m hm2
                              rw [hGm] at x3
                              exact ⟨x0, x1, x2, x3, by rw [cell_at ((hb.block _ (by have := HT.out.2.2; omega)).trans HT.out.1)]; rfl, by rw [cell_at ((hb.block _ (by have := HT.out.2.2; omega)).trans HT.out.1)]; rfl, by rw [cell_at ((hb.block _ (by have := HT.out.2.2; omega)).trans HT.out.2.1)]; rfl, by rw [cell_at ((hb.block _ (by have := HT.out.2.2; omega)).trans HT.out.2.1)]; rfl⟩
                            have HK : Hid (∀ wx, Below Y.heap.size Y wx → Calls Try.prog 17 #[.agg #[.int .i64 (B m).t, .int .i64 (B m).v, .int .i64 (B m).r, .slice ma (B m).l.length mc], .agg #[.int .i64 (1 + ((k : Int) - 1)), .int .i64 (B k).t, .int .i64 0, .int .i64 0], .agg #[.int .i64 0, .int .i64 0]] wx fun e w' => ∃ gx, e = .returned (.tuple #[.agg #[.int .i64 X.t, .int .i64 X.v, .int .i64 X.r, gx], .bool okx, .int .i64 ex]) ∧ Hid (w'.ownsRow wx.heap.size 3 1 gx X.l.length (X.l.map iv) ∧ Below wx.heap.size wx w' ∧ Below Y.heap.size Y w') ∧ w'.cell? ⟨w.heap.size, m * 4, none⟩ = some (.int .i64 (B m).t) ∧ w'.cell? ⟨w.heap.size, m * 4 + 1, none⟩ = some (.int .i64 (B m).v) ∧ w'.cell? ⟨w.heap.size, m * 4 + 2, none⟩ = some (.int .i64 (B m).r) ∧ w'.cell? ⟨w.heap.size, m * 4 + 3, none⟩ = some (.slice ma (B m).l.length mc) ∧ w'.cell? ⟨wr.heap.size, 0, none⟩ = some (.int .i64 0) ∧ w'.cell? ⟨wr.heap.size, 1, none⟩ = some (.int .i64 0) ∧ w'.cell? ⟨wr.heap.size + 1, 0, none⟩ = some (.int .i64 0) ∧ w'.cell? ⟨wr.heap.size + 1, 1, none⟩ = some (.int .i64 0)) := by
                              intro wx hx
                              have := grant_is (B m) (.slice ma (B m).l.length mc) (1 + ((k : Int) - 1)) (B k).t 0 0 0 0 wx (GM.out.keep hx)
                              rw [EX.out] at this
                              unfold balV at this
                              refine this.mono ?_
                              rintro e w' ⟨gx, rfl, h1, h2⟩
                              exact ⟨gx, rfl, hideIt ⟨h1, h2, below_via hx h2⟩, HFA.out w' (below_via hx h2)⟩
                            have NA : ∀ o, (Y.alloc o).cell? ⟨w.heap.size, m * 4, none⟩ = some (.int .i64 (B m).t) ∧ (Y.alloc o).cell? ⟨w.heap.size, m * 4 + 1, none⟩ = some (.int .i64 (B m).v) ∧ (Y.alloc o).cell? ⟨w.heap.size, m * 4 + 2, none⟩ = some (.int .i64 (B m).r) ∧ (Y.alloc o).cell? ⟨w.heap.size, m * 4 + 3, none⟩ = some (.slice ma (B m).l.length mc) ∧ (Y.alloc o).cell? ⟨wr.heap.size, 0, none⟩ = some (.int .i64 0) ∧ (Y.alloc o).cell? ⟨wr.heap.size, 1, none⟩ = some (.int .i64 0) ∧ (Y.alloc o).cell? ⟨wr.heap.size + 1, 0, none⟩ = some (.int .i64 0) ∧ (Y.alloc o).cell? ⟨wr.heap.size + 1, 1, none⟩ = some (.int .i64 0) := fun o => HFA.out _ (below1 Y o)
                            have ZF : Hid (∀ w', Below (Y.alloc (.cells #[.int .i64 0, .int .i64 0, .int .i64 0, .slice none 0 0] 26)).heap.size (Y.alloc (.cells #[.int .i64 0, .int .i64 0, .int .i64 0, .slice none 0 0] 26)) w' → w'.cell? ⟨Y.heap.size, 0, none⟩ = some (.int .i64 0) ∧ w'.cell? ⟨Y.heap.size, 1, none⟩ = some (.int .i64 0) ∧ w'.cell? ⟨Y.heap.size, 2, none⟩ = some (.int .i64 0) ∧ w'.cell? ⟨Y.heap.size, 3, none⟩ = some (.slice none 0 0) ∧ ∀ j, w'.frozen? ⟨Y.heap.size, j, none⟩ = false) := by
                              intro w' hb
                              have hz := (hb.block Y.heap.size (by simp)).trans (heap_alloc_new Y _)
                              exact ⟨by rw [cell_at hz]; rfl, by rw [cell_at hz]; rfl, by rw [cell_at hz]; rfl, by rw [cell_at hz]; rfl, fun j => free_at hz j⟩
                            have y1 : Y.heap.size ≠ w.heap.size := by have := HT.out.2.2; have := HA.out.size; have := HA.out.lt; omega
                            have y2 : Y.heap.size ≠ wr.heap.size := by have := HT.out.2.2; omega
                            have y3 : Y.heap.size ≠ wr.heap.size + 1 := by have := HT.out.2.2; omega
                            clear eX
                            go_cut [18, 19, 20] from 130 to 143 (fun x y z wx => ∃ (cb : Nat) (gx : Value), x = .pointer (some ⟨cb, 0, none⟩) ∧ y = .bool okx ∧ z = .int .i64 ex ∧ Hid (wx.heap[cb]? = some (.cells #[.int .i64 X.t, .int .i64 X.v, .int .i64 X.r, gx] 26 (0, 0)) ∧ wx.ownsRow Y.heap.size 3 1 gx X.l.length (X.l.map iv) ∧ Below Y.heap.size Y wx))
                            case first =>
                              go_region_held3 (fun w' => w'.cell? ⟨w.heap.size, m * 4, none⟩ = some (.int .i64 (B m).t) ∧ w'.cell? ⟨w.heap.size, m * 4 + 1, none⟩ = some (.int .i64 (B m).v) ∧ w'.cell? ⟨w.heap.size, m * 4 + 2, none⟩ = some (.int .i64 (B m).r) ∧ w'.cell? ⟨w.heap.size, m * 4 + 3, none⟩ = some (.slice ma (B m).l.length mc) ∧ w'.cell? ⟨wr.heap.size, 0, none⟩ = some (.int .i64 0) ∧ w'.cell? ⟨wr.heap.size, 1, none⟩ = some (.int .i64 0) ∧ w'.cell? ⟨wr.heap.size + 1, 0, none⟩ = some (.int .i64 0) ∧ w'.cell? ⟨wr.heap.size + 1, 1, none⟩ = some (.int .i64 0)) (go_keep) (first | (go_at_call 17; refine (HK.out (Y.alloc (.cells #[.int .i64 0, .int .i64 0, .int .i64 0, .slice none 0 0] 26)).drew (below1 _ _).drew).mono ?_; rintro e w5 ⟨gx, rfl, hst, j0, j1, j2, j3, j4, j5, j6, j7⟩; obtain ⟨xa, xc, rfl⟩ := own_len hst.out.1; obtain ⟨n0, n1, n2, n3, nf⟩ := ZF.out w5 (below_via (Below.refl _ _).drew hst.out.2.1)) | (go_at_call 17; refine (HK.out Y.drew (Below.refl _ _).drew).mono ?_; rintro e w5 ⟨gx, rfl, hst, j0, j1, j2, j3, j4, j5, j6, j7⟩; obtain ⟨xa, xc, rfl⟩ := own_len hst.out.1))
                              all_goals go_wp2_with fail
                              all_goals go_meet
                              · exact ⟨w5.heap.size, _, rfl, rfl, rfl, hideIt ⟨heap_alloc_new w5 _, own_keep hst.out.1 (below1 w5 _), below_via hst.out.2.2 (below1 w5 _)⟩⟩
                              · have hz := (hst.out.2.1.block Y.heap.size (show Y.heap.size < (Y.alloc (.cells #[.int .i64 0, .int .i64 0, .int .i64 0, .slice none 0 0] 26)).heap.size by simp)).trans (heap_alloc_new Y _)
                                have hbb : Y.heap.size < (Y.alloc (.cells #[.int .i64 0, .int .i64 0, .int .i64 0, .slice none 0 0] 26)).drew.heap.size := show Y.heap.size < (Y.alloc (.cells #[.int .i64 0, .int .i64 0, .int .i64 0, .slice none 0 0] 26)).heap.size by simp
                                exact ⟨Y.heap.size, _, rfl, rfl, rfl, hideIt ⟨put4 _ _ 26 _ _ _ _ hz, own_base (ownSet _ (ownSet _ (ownSet _ (ownSet _ hst.out.1 hbb) hbb) hbb) hbb) (Nat.le_of_lt hbb), belowSet _ (belowSet _ (belowSet _ (belowSet _ hst.out.2.2 (Nat.le_refl _)) (Nat.le_refl _)) (Nat.le_refl _)) (Nat.le_refl _)⟩⟩
                            case rest =>
                            obtain ⟨cb, gx, rfl, rfl, rfl, HGC⟩ := hcut
                            obtain ⟨xa, xc, rfl⟩ := own_len HGC.out.2.1
                            have HI := hideIt (inv_grant HV.out m hm1 hm2 (1 + ((k : Int) - 1)) (B k).t 0 0 0 0)
                            have LX := hideIt (grant_len (B m) (1 + ((k : Int) - 1)) (B k).t 0 0 0 0)
                            rw [EX.out] at HI LX
                            simp only at HI LX
                            have A2 := hideIt (A1.out.keep HGC.out.2.2)
                            have O2 := hideIt (own_base HGC.out.2.1 A1.out.size)
                            have x0 : wc.cell? ⟨cb, 0, none⟩ = some (.int .i64 X.t) := by rw [cell_at HGC.out.1]; rfl
                            have x1 : wc.cell? ⟨cb, 1, none⟩ = some (.int .i64 X.v) := by rw [cell_at HGC.out.1]; rfl
                            have x2 : wc.cell? ⟨cb, 2, none⟩ = some (.int .i64 X.r) := by rw [cell_at HGC.out.1]; rfl
                            have x3 : wc.cell? ⟨cb, 3, none⟩ = some (.slice xa X.l.length xc) := by rw [cell_at HGC.out.1]; rfl
                            clear m0 m1 m2 m3 mf l0 l1 q0 q1 A1 HT GM HGC HFA HK NA ZF y1 y2 y3 hmb0 hmb1 EX
                            obtain ⟨m0, m1, m2, m3, mf⟩ := A2.out.cells m hm2
                            by_cases he : ex = 0
                            · subst he
                              have AZ := hideIt (A2.out.put m hm2 X _ O2.out LX.out)
                              clear A2 O2
                              go_upto_region 30 with fail
                              clear m0 m1 m2 m3 mf x0 x1 x2 x3
                              generalize hZ : ((((wc.setCell ⟨w.heap.size, m * 4, none⟩ (.int .i64 X.t)).setCell ⟨w.heap.size, m * 4 + 1, none⟩ (.int .i64 X.v)).setCell ⟨w.heap.size, m * 4 + 2, none⟩ (.int .i64 X.r)).setCell ⟨w.heap.size, m * 4 + 3, none⟩ (.slice xa X.l.length xc)) = Z at *
                              clear hZ
                              obtain ⟨h', hgr, hiv, hvt⟩ := HI.out rfl
                              have HGR := hideIt hgr
                              have HIV := hideIt hiv
                              have HVT := hideIt hvt
                              clear hgr hiv hvt HI
                              have z3 := (AZ.out.bel.cell (p := ⟨tb, tf + i * 4 + 3, none⟩) hbl).trans T3.out
                              obtain ⟨d0, d1, d2, d3, df⟩ := AZ.out.cells k hk2
                              rw [setB_other _ _ _ _ hkm] at d0 d1 d2
                              rw [show setG G m (.slice xa X.l.length xc) k = G k from if_neg hkm, hG] at d3
                              cases ok
                              · have HN : Hid (St w lb p led Z) := ⟨_, _, _, AZ.out, HIV.out, ledP_grew HLD.out HGR.out⟩
                                clear AZ HIV HVT HGR HLD HV
                                go_wp2_with fail
                                go_meet
                                exact HN
                              · have GK2 := AZ.out.got k hk2
                                rw [setB_other _ _ _ _ hkm, show setG G m (.slice xa X.l.length xc) k = G k from if_neg hkm, hG] at GK2
                                have H3 := hideIt (count_is (B k) (.slice ga (B k).l.length gc) (1 + ((m : Int) - 1)) (B k).t okx (1 + (p : Int)) Z GK2)
                                have HC := hideIt (inv_count HIV.out k hk1 hk2 (m : Int) (B k).t okx (by omega) (by omega) (fun e => by have := HVT.out e; rw [show ((m : Int)).toNat = m by omega, this]; omega))
                                rw [setB_other _ _ _ _ hkm] at HC
                                have LD := hideIt (count_len (B k) (m : Int) (B k).t okx ((p + 1 : Nat) : Int))
                                rw [HMI.out, HPI.out] at H3
                                obtain ⟨⟨D, ed⟩, eD⟩ : ∃ D, countL (B k) (m : Int) (B k).t okx ((p + 1 : Nat) : Int) = D := ⟨_, rfl⟩
                                rw [eD] at H3 HC LD
                                simp only at H3 HC LD
                                rw [← HMI.out, ← HPI.out] at H3
                                clear eD GK2
                                unfold balV at H3
                                go_wp2_with fail
                                refine H3.out.mono ?_
                                rintro e w3 ⟨gd, rfl, h1, h2⟩
                                dsimp only
                                clear H3
                                obtain ⟨da, dc, rfl⟩ := own_len h1
                                unfold balV
                                have A3 := hideIt ((AZ.out.keep h2).keep (below1 w3 (.cells #[.int .i64 D.t, .int .i64 D.v, .int .i64 D.r, .slice da D.l.length dc] 26)))
                                have O3 := hideIt (own_base (own_keep h1 (below1 w3 (.cells #[.int .i64 D.t, .int .i64 D.v, .int .i64 D.r, .slice da D.l.length dc] 26))) AZ.out.size)
                                clear h1 h2 d0 d1 d2 d3 df z3
                                obtain ⟨d0, d1, d2, d3, df⟩ := A3.out.cells k hk2
                                by_cases hd : ed = 0
                                · subst hd
                                  have HN : Hid (St w lb p led (((((w3.alloc (.cells #[.int .i64 D.t, .int .i64 D.v, .int .i64 D.r, .slice da D.l.length dc] 26)).setCell ⟨w.heap.size, k * 4, none⟩ (.int .i64 D.t)).setCell ⟨w.heap.size, k * 4 + 1, none⟩ (.int .i64 D.v)).setCell ⟨w.heap.size, k * 4 + 2, none⟩ (.int .i64 D.r)).setCell ⟨w.heap.size, k * 4 + 3, none⟩ (.slice da D.l.length dc))) := ⟨_, _, _, A3.out.put k hk2 D _ O3.out LD.out, HC.out rfl, ledP_grew HLD.out HGR.out⟩
                                  clear A3 O3 HC HIV HVT HGR HLD HV AZ
                                  go_wp2_with fail
                                  go_meet
                                  exact HN
                                · have hdb : (ed == 0) = false := by simp [hd]
                                  have HN : Hid (St w lb p led (w3.alloc (.cells #[.int .i64 D.t, .int .i64 D.v, .int .i64 D.r, .slice da D.l.length dc] 26))) := ⟨_, _, _, A3.out, HIV.out, ledP_grew HLD.out HGR.out⟩
                                  clear A3 O3 HC HIV HVT HGR HLD HV AZ
                                  go_wp2_with fail
                                  go_meet
                                  exact HN
                            · have heb : (ex != 0) = true := by simp [he]
                              have HNX : Hid (St w lb p led wc) := ⟨_, _, _, A2.out, HV.out, HLD.out⟩
                              clear A2 O2 HI HV HLD
                              go_wp2
                              go_roundw
                              case rel => exact ⟨i + 1, led, by omega, by go_num, HNX⟩
                              case measure => simp [intOf]; omega
                      · have hks1 : ¬ ((1 + ((k : Int) - 1)) < (sl.length : Int)) := by omega
                        as_aux_lemma =>
                          have A1 := hideIt (HA.out.keep (below2 wr (.cells #[.int .i64 0, .int .i64 0] 37) (.cells #[.int .i64 0, .int .i64 0] 37)))
                          obtain ⟨kk0, _, _, _, _⟩ := A1.out.cells k hk2
                          go_upto_region 27 with fail
                          clear kk0
                          have HT := hideIt (two_heap wr (.cells #[.int .i64 0, .int .i64 0] 37) (.cells #[.int .i64 0, .int .i64 0] 37))
                          clear d0 d1 d2 d3 df
                          generalize hY : (wr.alloc (.cells #[.int .i64 0, .int .i64 0] 37)).alloc (.cells #[.int .i64 0, .int .i64 0] 37) = Y at *
                          clear hY
                          obtain ⟨m0, m1, m2, m3, mf⟩ := A1.out.cells m hm2
                          obtain ⟨ma, mc, hGm⟩ := own_len (A1.out.own m hm2)
                          have GM := hideIt (A1.out.got m hm2)
                          rw [hGm] at m3 GM
                          have l0 : Y.cell? ⟨wr.heap.size, 0, none⟩ = some (.int .i64 0) := by rw [cell_at HT.out.1]; rfl
                          have l1 : Y.cell? ⟨wr.heap.size, 1, none⟩ = some (.int .i64 0) := by rw [cell_at HT.out.1]; rfl
                          have q0 : Y.cell? ⟨wr.heap.size + 1, 0, none⟩ = some (.int .i64 0) := by rw [cell_at HT.out.2.1]; rfl
                          have q1 : Y.cell? ⟨wr.heap.size + 1, 1, none⟩ = some (.int .i64 0) := by rw [cell_at HT.out.2.1]; rfl
                          have hmb0 : 0 ≤ 1 + ((m : Int) - 1) := by omega
                          have hmb1 : 1 + ((m : Int) - 1) < (p : Int) + 2 := by omega
                          obtain ⟨⟨X, okx, ex⟩, eX⟩ : ∃ X, grantL (B m) (1 + ((k : Int) - 1)) (B k).t 0 0 0 0 = X := ⟨_, rfl⟩
                          have EX := hideIt eX
                          have HFA : Hid (∀ w', Below Y.heap.size Y w' → w'.cell? ⟨w.heap.size, m * 4, none⟩ = some (.int .i64 (B m).t) ∧ w'.cell? ⟨w.heap.size, m * 4 + 1, none⟩ = some (.int .i64 (B m).v) ∧ w'.cell? ⟨w.heap.size, m * 4 + 2, none⟩ = some (.int .i64 (B m).r) ∧ w'.cell? ⟨w.heap.size, m * 4 + 3, none⟩ = some (.slice ma (B m).l.length mc) ∧ w'.cell? ⟨wr.heap.size, 0, none⟩ = some (.int .i64 0) ∧ w'.cell? ⟨wr.heap.size, 1, none⟩ = some (.int .i64 0) ∧ w'.cell? ⟨wr.heap.size + 1, 0, none⟩ = some (.int .i64 0) ∧ w'.cell? ⟨wr.heap.size + 1, 1, none⟩ = some (.int .i64 0)) := by
                            intro w' hb
                            obtain ⟨x0, x1, x2, x3, _⟩ := (A1.out.keep hb).cells m hm2
                            rw [hGm] at x3
                            exact ⟨x0, x1, x2, x3, by rw [cell_at ((hb.block _ (by have := HT.out.2.2; omega)).trans HT.out.1)]; rfl, by rw [cell_at ((hb.block _ (by have := HT.out.2.2; omega)).trans HT.out.1)]; rfl, by rw [cell_at ((hb.block _ (by have := HT.out.2.2; omega)).trans HT.out.2.1)]; rfl, by rw [cell_at ((hb.block _ (by have := HT.out.2.2; omega)).trans HT.out.2.1)]; rfl⟩
                          have HK : Hid (∀ wx, Below Y.heap.size Y wx → Calls Try.prog 17 #[.agg #[.int .i64 (B m).t, .int .i64 (B m).v, .int .i64 (B m).r, .slice ma (B m).l.length mc], .agg #[.int .i64 (1 + ((k : Int) - 1)), .int .i64 (B k).t, .int .i64 0, .int .i64 0], .agg #[.int .i64 0, .int .i64 0]] wx fun e w' => ∃ gx, e = .returned (.tuple #[.agg #[.int .i64 X.t, .int .i64 X.v, .int .i64 X.r, gx], .bool okx, .int .i64 ex]) ∧ Hid (w'.ownsRow wx.heap.size 3 1 gx X.l.length (X.l.map iv) ∧ Below wx.heap.size wx w' ∧ Below Y.heap.size Y w') ∧ w'.cell? ⟨w.heap.size, m * 4, none⟩ = some (.int .i64 (B m).t) ∧ w'.cell? ⟨w.heap.size, m * 4 + 1, none⟩ = some (.int .i64 (B m).v) ∧ w'.cell? ⟨w.heap.size, m * 4 + 2, none⟩ = some (.int .i64 (B m).r) ∧ w'.cell? ⟨w.heap.size, m * 4 + 3, none⟩ = some (.slice ma (B m).l.length mc) ∧ w'.cell? ⟨wr.heap.size, 0, none⟩ = some (.int .i64 0) ∧ w'.cell? ⟨wr.heap.size, 1, none⟩ = some (.int .i64 0) ∧ w'.cell? ⟨wr.heap.size + 1, 0, none⟩ = some (.int .i64 0) ∧ w'.cell? ⟨wr.heap.size + 1, 1, none⟩ = some (.int .i64 0)) := by
                            intro wx hx
                            have := grant_is (B m) (.slice ma (B m).l.length mc) (1 + ((k : Int) - 1)) (B k).t 0 0 0 0 wx (GM.out.keep hx)
                            rw [EX.out] at this
                            unfold balV at this
                            refine this.mono ?_
                            rintro e w' ⟨gx, rfl, h1, h2⟩
                            exact ⟨gx, rfl, hideIt ⟨h1, h2, below_via hx h2⟩, HFA.out w' (below_via hx h2)⟩
                          have NA : ∀ o, (Y.alloc o).cell? ⟨w.heap.size, m * 4, none⟩ = some (.int .i64 (B m).t) ∧ (Y.alloc o).cell? ⟨w.heap.size, m * 4 + 1, none⟩ = some (.int .i64 (B m).v) ∧ (Y.alloc o).cell? ⟨w.heap.size, m * 4 + 2, none⟩ = some (.int .i64 (B m).r) ∧ (Y.alloc o).cell? ⟨w.heap.size, m * 4 + 3, none⟩ = some (.slice ma (B m).l.length mc) ∧ (Y.alloc o).cell? ⟨wr.heap.size, 0, none⟩ = some (.int .i64 0) ∧ (Y.alloc o).cell? ⟨wr.heap.size, 1, none⟩ = some (.int .i64 0) ∧ (Y.alloc o).cell? ⟨wr.heap.size + 1, 0, none⟩ = some (.int .i64 0) ∧ (Y.alloc o).cell? ⟨wr.heap.size + 1, 1, none⟩ = some (.int .i64 0) := fun o => HFA.out _ (below1 Y o)
                          have ZF : Hid (∀ w', Below (Y.alloc (.cells #[.int .i64 0, .int .i64 0, .int .i64 0, .slice none 0 0] 26)).heap.size (Y.alloc (.cells #[.int .i64 0, .int .i64 0, .int .i64 0, .slice none 0 0] 26)) w' → w'.cell? ⟨Y.heap.size, 0, none⟩ = some (.int .i64 0) ∧ w'.cell? ⟨Y.heap.size, 1, none⟩ = some (.int .i64 0) ∧ w'.cell? ⟨Y.heap.size, 2, none⟩ = some (.int .i64 0) ∧ w'.cell? ⟨Y.heap.size, 3, none⟩ = some (.slice none 0 0) ∧ ∀ j, w'.frozen? ⟨Y.heap.size, j, none⟩ = false) := by
                            intro w' hb
                            have hz := (hb.block Y.heap.size (by simp)).trans (heap_alloc_new Y _)
                            exact ⟨by rw [cell_at hz]; rfl, by rw [cell_at hz]; rfl, by rw [cell_at hz]; rfl, by rw [cell_at hz]; rfl, fun j => free_at hz j⟩
                          have y1 : Y.heap.size ≠ w.heap.size := by have := HT.out.2.2; have := HA.out.size; have := HA.out.lt; omega
                          have y2 : Y.heap.size ≠ wr.heap.size := by have := HT.out.2.2; omega
                          have y3 : Y.heap.size ≠ wr.heap.size + 1 := by have := HT.out.2.2; omega
                          clear eX
                          go_cut [18, 19, 20] from 130 to 143 (fun x y z wx => ∃ (cb : Nat) (gx : Value), x = .pointer (some ⟨cb, 0, none⟩) ∧ y = .bool okx ∧ z = .int .i64 ex ∧ Hid (wx.heap[cb]? = some (.cells #[.int .i64 X.t, .int .i64 X.v, .int .i64 X.r, gx] 26 (0, 0)) ∧ wx.ownsRow Y.heap.size 3 1 gx X.l.length (X.l.map iv) ∧ Below Y.heap.size Y wx))
                          case first =>
                            go_region_held3 (fun w' => w'.cell? ⟨w.heap.size, m * 4, none⟩ = some (.int .i64 (B m).t) ∧ w'.cell? ⟨w.heap.size, m * 4 + 1, none⟩ = some (.int .i64 (B m).v) ∧ w'.cell? ⟨w.heap.size, m * 4 + 2, none⟩ = some (.int .i64 (B m).r) ∧ w'.cell? ⟨w.heap.size, m * 4 + 3, none⟩ = some (.slice ma (B m).l.length mc) ∧ w'.cell? ⟨wr.heap.size, 0, none⟩ = some (.int .i64 0) ∧ w'.cell? ⟨wr.heap.size, 1, none⟩ = some (.int .i64 0) ∧ w'.cell? ⟨wr.heap.size + 1, 0, none⟩ = some (.int .i64 0) ∧ w'.cell? ⟨wr.heap.size + 1, 1, none⟩ = some (.int .i64 0)) (go_keep) (first | (go_at_call 17; refine (HK.out (Y.alloc (.cells #[.int .i64 0, .int .i64 0, .int .i64 0, .slice none 0 0] 26)).drew (below1 _ _).drew).mono ?_; rintro e w5 ⟨gx, rfl, hst, j0, j1, j2, j3, j4, j5, j6, j7⟩; obtain ⟨xa, xc, rfl⟩ := own_len hst.out.1; obtain ⟨n0, n1, n2, n3, nf⟩ := ZF.out w5 (below_via (Below.refl _ _).drew hst.out.2.1)) | (go_at_call 17; refine (HK.out Y.drew (Below.refl _ _).drew).mono ?_; rintro e w5 ⟨gx, rfl, hst, j0, j1, j2, j3, j4, j5, j6, j7⟩; obtain ⟨xa, xc, rfl⟩ := own_len hst.out.1))
                            all_goals go_wp2_with fail
                            all_goals go_meet
                            · exact ⟨w5.heap.size, _, rfl, rfl, rfl, hideIt ⟨heap_alloc_new w5 _, own_keep hst.out.1 (below1 w5 _), below_via hst.out.2.2 (below1 w5 _)⟩⟩
                            · have hz := (hst.out.2.1.block Y.heap.size (show Y.heap.size < (Y.alloc (.cells #[.int .i64 0, .int .i64 0, .int .i64 0, .slice none 0 0] 26)).heap.size by simp)).trans (heap_alloc_new Y _)
                              have hbb : Y.heap.size < (Y.alloc (.cells #[.int .i64 0, .int .i64 0, .int .i64 0, .slice none 0 0] 26)).drew.heap.size := show Y.heap.size < (Y.alloc (.cells #[.int .i64 0, .int .i64 0, .int .i64 0, .slice none 0 0] 26)).heap.size by simp
                              exact ⟨Y.heap.size, _, rfl, rfl, rfl, hideIt ⟨put4 _ _ 26 _ _ _ _ hz, own_base (ownSet _ (ownSet _ (ownSet _ (ownSet _ hst.out.1 hbb) hbb) hbb) hbb) (Nat.le_of_lt hbb), belowSet _ (belowSet _ (belowSet _ (belowSet _ hst.out.2.2 (Nat.le_refl _)) (Nat.le_refl _)) (Nat.le_refl _)) (Nat.le_refl _)⟩⟩
                          case rest =>
                          obtain ⟨cb, gx, rfl, rfl, rfl, HGC⟩ := hcut
                          obtain ⟨xa, xc, rfl⟩ := own_len HGC.out.2.1
                          have HI := hideIt (inv_grant HV.out m hm1 hm2 (1 + ((k : Int) - 1)) (B k).t 0 0 0 0)
                          have LX := hideIt (grant_len (B m) (1 + ((k : Int) - 1)) (B k).t 0 0 0 0)
                          rw [EX.out] at HI LX
                          simp only at HI LX
                          have A2 := hideIt (A1.out.keep HGC.out.2.2)
                          have O2 := hideIt (own_base HGC.out.2.1 A1.out.size)
                          have x0 : wc.cell? ⟨cb, 0, none⟩ = some (.int .i64 X.t) := by rw [cell_at HGC.out.1]; rfl
                          have x1 : wc.cell? ⟨cb, 1, none⟩ = some (.int .i64 X.v) := by rw [cell_at HGC.out.1]; rfl
                          have x2 : wc.cell? ⟨cb, 2, none⟩ = some (.int .i64 X.r) := by rw [cell_at HGC.out.1]; rfl
                          have x3 : wc.cell? ⟨cb, 3, none⟩ = some (.slice xa X.l.length xc) := by rw [cell_at HGC.out.1]; rfl
                          clear m0 m1 m2 m3 mf l0 l1 q0 q1 A1 HT GM HGC HFA HK NA ZF y1 y2 y3 hmb0 hmb1 EX
                          obtain ⟨m0, m1, m2, m3, mf⟩ := A2.out.cells m hm2
                          by_cases he : ex = 0
                          · subst he
                            have AZ := hideIt (A2.out.put m hm2 X _ O2.out LX.out)
                            clear A2 O2
                            go_upto_region 30 with fail
                            clear m0 m1 m2 m3 mf x0 x1 x2 x3
                            generalize hZ : ((((wc.setCell ⟨w.heap.size, m * 4, none⟩ (.int .i64 X.t)).setCell ⟨w.heap.size, m * 4 + 1, none⟩ (.int .i64 X.v)).setCell ⟨w.heap.size, m * 4 + 2, none⟩ (.int .i64 X.r)).setCell ⟨w.heap.size, m * 4 + 3, none⟩ (.slice xa X.l.length xc)) = Z at *
                            clear hZ
                            obtain ⟨h', hgr, hiv, hvt⟩ := HI.out rfl
                            have HGR := hideIt hgr
                            have HIV := hideIt hiv
                            have HVT := hideIt hvt
                            clear hgr hiv hvt HI
                            have z3 := (AZ.out.bel.cell (p := ⟨tb, tf + i * 4 + 3, none⟩) hbl).trans T3.out
                            obtain ⟨d0, d1, d2, d3, df⟩ := AZ.out.cells k hk2
                            rw [setB_other _ _ _ _ hkm] at d0 d1 d2
                            rw [show setG G m (.slice xa X.l.length xc) k = G k from if_neg hkm, hG] at d3
                            cases ok
                            · have HN : Hid (St w lb p led Z) := ⟨_, _, _, AZ.out, HIV.out, ledP_grew HLD.out HGR.out⟩
                              clear AZ HIV HVT HGR HLD HV
                              go_wp2_with fail
                              go_meet
                              exact HN
                            · have GK2 := AZ.out.got k hk2
                              rw [setB_other _ _ _ _ hkm, show setG G m (.slice xa X.l.length xc) k = G k from if_neg hkm, hG] at GK2
                              have H3 := hideIt (count_is (B k) (.slice ga (B k).l.length gc) (1 + ((m : Int) - 1)) (B k).t okx (1 + (p : Int)) Z GK2)
                              have HC := hideIt (inv_count HIV.out k hk1 hk2 (m : Int) (B k).t okx (by omega) (by omega) (fun e => by have := HVT.out e; rw [show ((m : Int)).toNat = m by omega, this]; omega))
                              rw [setB_other _ _ _ _ hkm] at HC
                              have LD := hideIt (count_len (B k) (m : Int) (B k).t okx ((p + 1 : Nat) : Int))
                              rw [HMI.out, HPI.out] at H3
                              obtain ⟨⟨D, ed⟩, eD⟩ : ∃ D, countL (B k) (m : Int) (B k).t okx ((p + 1 : Nat) : Int) = D := ⟨_, rfl⟩
                              rw [eD] at H3 HC LD
                              simp only at H3 HC LD
                              rw [← HMI.out, ← HPI.out] at H3
                              clear eD GK2
                              unfold balV at H3
                              go_wp2_with fail
                              refine H3.out.mono ?_
                              rintro e w3 ⟨gd, rfl, h1, h2⟩
                              dsimp only
                              clear H3
                              obtain ⟨da, dc, rfl⟩ := own_len h1
                              unfold balV
                              have A3 := hideIt ((AZ.out.keep h2).keep (below1 w3 (.cells #[.int .i64 D.t, .int .i64 D.v, .int .i64 D.r, .slice da D.l.length dc] 26)))
                              have O3 := hideIt (own_base (own_keep h1 (below1 w3 (.cells #[.int .i64 D.t, .int .i64 D.v, .int .i64 D.r, .slice da D.l.length dc] 26))) AZ.out.size)
                              clear h1 h2 d0 d1 d2 d3 df z3
                              obtain ⟨d0, d1, d2, d3, df⟩ := A3.out.cells k hk2
                              by_cases hd : ed = 0
                              · subst hd
                                have HN : Hid (St w lb p led (((((w3.alloc (.cells #[.int .i64 D.t, .int .i64 D.v, .int .i64 D.r, .slice da D.l.length dc] 26)).setCell ⟨w.heap.size, k * 4, none⟩ (.int .i64 D.t)).setCell ⟨w.heap.size, k * 4 + 1, none⟩ (.int .i64 D.v)).setCell ⟨w.heap.size, k * 4 + 2, none⟩ (.int .i64 D.r)).setCell ⟨w.heap.size, k * 4 + 3, none⟩ (.slice da D.l.length dc))) := ⟨_, _, _, A3.out.put k hk2 D _ O3.out LD.out, HC.out rfl, ledP_grew HLD.out HGR.out⟩
                                clear A3 O3 HC HIV HVT HGR HLD HV AZ
                                go_wp2_with fail
                                go_meet
                                exact HN
                              · have hdb : (ed == 0) = false := by simp [hd]
                                have HN : Hid (St w lb p led (w3.alloc (.cells #[.int .i64 D.t, .int .i64 D.v, .int .i64 D.r, .slice da D.l.length dc] 26))) := ⟨_, _, _, A3.out, HIV.out, ledP_grew HLD.out HGR.out⟩
                                clear A3 O3 HC HIV HVT HGR HLD HV AZ
                                go_wp2_with fail
                                go_meet
                                exact HN
                          · have heb : (ex != 0) = true := by simp [he]
                            have HNX : Hid (St w lb p led wc) := ⟨_, _, _, A2.out, HV.out, HLD.out⟩
                            clear A2 O2 HI HV HLD
                            go_wp2
                            go_roundw
                            case rel => exact ⟨i + 1, led, by omega, by go_num, HNX⟩
                            case measure => simp [intOf]; omega
                  · have hr2b : ((B k).r != 2) = true := by simp [hr2]
                    have HNX : Hid (St w lb p led wr) := ⟨_, _, _, HA.out, HV.out, HLD.out⟩
                    clear HV HLD hr2
                    as_aux_lemma =>
                      go_wp2
                      go_roundw
                      case rel => exact ⟨i + 1, led, by omega, by go_num, HNX⟩
                      case measure => simp [intOf]; omega
                · have k1b : (kind == 1) = false := beq_eq_false_iff_ne.2 k1
                  by_cases k2 : kind = 2
                  · subst k2
                    have HN : Hid (St w lb p led ((((wr.setCell ⟨w.heap.size, k * 4, none⟩ (.int .i64 (B k).t)).setCell ⟨w.heap.size, k * 4 + 1, none⟩ (.int .i64 (B k).v)).setCell ⟨w.heap.size, k * 4 + 2, none⟩ (.int .i64 1)).setCell ⟨w.heap.size, k * 4 + 3, none⟩ (.slice none 0 0))) :=
                      ⟨_, _, _, HA.out.put k hk2 ⟨(B k).t, (B k).v, 1, []⟩ _ ⟨rfl, .inl ⟨rfl, rfl⟩⟩ (by simp), inv_forget HV.out k hk1 hk2, HLD.out⟩
                    clear HV HLD k0 k1
                    go_wp2_with fail
                    go_meet
                    exact HN
                  · have k2b : (kind == 2) = false := beq_eq_false_iff_ne.2 k2
                    have HN : Hid (St w lb p led wr) := ⟨_, _, _, HA.out, HV.out, HLD.out⟩
                    clear HV HLD k0 k1 k2
                    go_wp2_with fail
                    go_meet
                    exact HN
            case rest =>
            clear d0 d1 d2 d3 df GK HA HV HLD HS0 HP1 HP2 c0 c1 c2 c3
            have HS1 := hcut
            clear hcut
            obtain ⟨B2, G2, h2, hA9, hV9, hL9⟩ := HS1.out
            have HV := hideIt hV9
            have HA2 := hideIt (And.intro hA9 hL9)
            clear hA9 hV9 hL9 HS1
            go_wp2
            go_loopw [23] (fun v wr => ∃ (g : Nat) (led2 : Nat → Int), 1 ≤ g ∧ g ≤ p + 2 ∧ v = .int .i64 g ∧ Hid (OneAt w lb (p + 1) B2 G2 led2 wr ∧ ledP (p + 1) led2 h2)) (fun v _ => p + 3 - (intOf v).toNat)
            case atStart => exact ⟨1, led, by omega, by omega, rfl, HA2⟩
            case round =>
              clear HA2
              obtain ⟨g, led2, hg1, hg2, rfl, HA2⟩ := hrel
              by_cases hgp : g ≤ p + 1
              · have hgi : (g : Int) ≤ 1 + (p : Int) := by omega
                have hgl : (g : Int) < (p : Int) + 2 := by omega
                have hg0 : (0 : Int) ≤ (g : Int) := by omega
                obtain ⟨e0, _, e2, _, _⟩ := HA2.out.1.cells g hgp
                have htp := HV.out.pos g hg1 hgp
                by_cases hr : (B2 g).r = 3
                · have hrb : ((B2 g).r == 3) = true := by simp [hr]
                  by_cases ht : (B2 g).t < 200
                  · obtain ⟨tt, htt⟩ := Int.eq_ofNat_of_zero_le htp
                    have htl : tt < 200 := by omega
                    have htl' : (tt : Int) < 200 := by omega
                    have ht0 : (0 : Int) ≤ (tt : Int) := by omega
                    obtain ⟨f0, f1⟩ := HA2.out.1.led tt htl
                    have HNX := hideIt (And.intro (HA2.out.1.mark tt htl (g : Int)) (led_mark HV.out HA2.out.2 g hg1 hgp hr tt htt))
                    have HONE := hideIt (led_one HV.out HA2.out.2 g hg1 hgp hr tt htt)
                    rw [htt] at e0
                    clear htt htp ht hr HA2
                    by_cases hz : led2 tt = 0
                    · have hzb : (led2 tt != 0) = false := by simp [hz]
                      clear hz HONE
                      as_aux_lemma =>
                        go_wp2
                        go_roundw
                        case rel => exact ⟨g + 1, _, by omega, by omega, by go_num, HNX⟩
                        case measure => simp [intOf]; omega
                    · have hzb : (led2 tt != 0) = true := by simp [hz]
                      have hzg : (led2 tt != (g : Int)) = false := by simp [HONE.out hz]
                      clear hz HONE
                      as_aux_lemma =>
                        go_wp2
                        go_roundw
                        case rel => exact ⟨g + 1, _, by omega, by omega, by go_num, HNX⟩
                        case measure => simp [intOf]; omega
                  · have htb : ¬ ((B2 g).t < 200) := ht
                    have HNX := HA2
                    clear HA2 hr
                    as_aux_lemma =>
                      go_wp2
                      go_roundw
                      case rel => exact ⟨g + 1, led2, by omega, by omega, by go_num, HNX⟩
                      case measure => simp [intOf]; omega
                · have hrb : ((B2 g).r == 3) = false := by simp [hr]
                  have HNX := HA2
                  clear HA2 hr
                  as_aux_lemma =>
                    go_wp2
                    go_roundw
                    case rel => exact ⟨g + 1, led2, by omega, by omega, by go_num, HNX⟩
                    case measure => simp [intOf]; omega
              · have hgi : ¬ ((g : Int) ≤ 1 + (p : Int)) := by omega
                have HNX : Hid (St w lb p led2 wr) := ⟨_, _, _, HA2.out.1, HV.out, HA2.out.2⟩
                clear HA2
                go_wp2
                go_roundw
                case rel => exact ⟨i + 1, led2, by omega, by go_num, HNX⟩
                case measure => simp [intOf]; omega
          · have e60 : i = 120 := by omega
            subst e60
            have HB := hideIt (HS0.out.bel)
            go_wp2_with fail
            refine (HL.out _).mono ?_
            rintro e w2 ⟨rfl, hb⟩
            dsimp only
            have HB2 := hideIt (below_via HB.out hb)
            clear hb
            go_wp2
            go_ret
            exact ⟨rfl, HB2.out⟩
        · have hA1 : ¬ ((i : Int) < (l.length : Int)) := by omega
          have HB := hideIt (HS0.out.bel)
          go_wp2_with fail
          refine (HL.out _).mono ?_
          rintro e w2 ⟨rfl, hb⟩
          dsimp only
          have HB2 := hideIt (below_via HB.out hb)
          clear hb
          go_wp2
          go_ret
          exact ⟨rfl, HB2.out⟩
end Go.Proofs.Ytkoecdcbopkkbaa
