/- Texts of my own, laid together. -/
import Derived.Test.YtiinigifjdpicaaGreatDoorMc14
namespace Go.Proofs.YtiinigifjdpicaaGreatDoor
open Go.RowKit
set_option linter.all false
theorem accX_of {X : AccV × Int} {W : World} {e : Ending} {w' : World} (hl : X.1.l.length * 16 ≤ 140737488355328) (h : Lg.AccErr X W e w') : ∃ f c, e = .returned (.tuple #[.agg #[.slice f X.1.l.length c, .int .i64 X.1.ct], .int .i64 X.2]) ∧ Hid (AccOwn W.heap.size w' ⟨X.1, f, c⟩ ∧ Below W.heap.size W w') := by
 obtain ⟨g, he, ho, hb⟩ := h;obtain ⟨f, c, rfl⟩ := own_len ho
 exact ⟨f, c, he, hideIt ⟨⟨ho, hl⟩, hb⟩⟩
def CrB (X : AccV × Int) (W : World) (e : Ending) (w' : World) : Prop := ∃ f c, e = .returned (.tuple #[.agg #[.slice f X.1.l.length c, .int .i64 X.1.ct], .int .i64 X.2]) ∧ Hid (AccOwn W.heap.size w' ⟨X.1, f, c⟩ ∧ Below W.heap.size W w')
theorem credX (l : List AmtV) (ct : Int) (fa : Option Addr) (fc : Nat) (a n : Int) (W : World) (h : Amts W (.slice fa l.length fc) l) : Calls Tryz.prog 75 #[.agg #[.slice fa l.length fc, .int .i64 ct], .int .i64 a, .int .i64 n] W (CrB (Lg.credL ⟨l, ct⟩ a n) W) :=
 (Lg.credit_is ⟨l, ct⟩ (.slice fa l.length fc) a n W h).mono (fun _ _ hh => accX_of (Lg.cred_len _ _ _) hh)
theorem debX (l : List AmtV) (ct : Int) (fa : Option Addr) (fc : Nat) (a n : Int) (W : World) (h : Amts W (.slice fa l.length fc) l) : Calls Tryz.prog 77 #[.agg #[.slice fa l.length fc, .int .i64 ct], .int .i64 a, .int .i64 n] W (CrB (Lg.debL ⟨l, ct⟩ a n) W) :=
 (Lg.debit_is ⟨l, ct⟩ (.slice fa l.length fc) a n W h).mono (fun _ _ hh => accX_of (Lg.deb_len _ _ _) hh)
def payZ (i : Nat) (S : StV) : StV × Int := if aboveB Lg.AmtV.n (accD S i).l 4503599627370496 || decide (999999900 < (accD S i).ct) then (S, 6) else ({S with a := S.a.set i (payF (Lg.pre S.s 4) (accD S i)).1, am := Lg.pre S.s 4}, (payF (Lg.pre S.s 4) (accD S i)).2)
theorem payF_step {L : List AmtV} {t : Nat} (A : AccV) (h : t < L.length) : payF (L.drop t) A = if (Lg.credL A (L[t]).k (L[t]).n).2 = 0 then payF (L.drop (t + 1)) (Lg.credL A (L[t]).k (L[t]).n).1 else (A, (Lg.credL A (L[t]).k (L[t]).n).2) := by
 rw [List.drop_eq_getElem_cons h]
 rfl
theorem WK.amts {w wx : World} {K : Nat} {X : WkX} (h : WK w K X wx) : ∀ i (hi : i < X.am.length), ∃ b off, X.fm = some ⟨b, off, none⟩ ∧ b < wx.heap.size ∧ wx.cell? ⟨b, off + i * 2, none⟩ = some (.int .i64 (X.am[i]).k) ∧ wx.cell? ⟨b, off + i * 2 + 1, none⟩ = some (.int .i64 (X.am[i]).n) := by
 intro i hi;obtain ⟨a, c, e, _, hr⟩ := SGot.amts (own_sgot h.am h.sam);simp only [Value.slice.injEq] at e;rw [e.1];exact hr i hi
set_option maxRecDepth 100000 in
set_option maxHeartbeats 16000000 in
theorem pay_is (w : World) (K i : Nat) (X : WkX) (wx : World) (h : WK w K X wx) (hi : i < X.A.length) : Calls Tryz.prog 78 #[.pointer (some ⟨K, 0, none⟩), .pointer (some ⟨X.ga, i * 2, none⟩)] wx (WkB w K X (payZ i X.st)) := by
 have HX := hideIt h;obtain ⟨⟨c0, c1⟩, cf, cz, hat⟩ := h.acc hi;have hK := (Array.getElem?_eq_some_iff.1 h.box).1;have HZ : Hid (payZ i X.st = if aboveB Lg.AmtV.n (X.A[i]).v.l 4503599627370496 || decide (999999900 < (X.A[i]).v.ct) then (X.st, 6) else ({X.st with a := X.st.a.set i (payF (Lg.pre X.s 4) (X.A[i]).v).1, am := Lg.pre X.s 4}, (payF (Lg.pre X.s 4) (X.A[i]).v).2)) := by
  show _ = _
  unfold payZ;rw [accD_at hi]
  rfl
 have HAB := hideIt (hasAbove_is _ _ 4503599627370496 wx hat);have HAM := hideIt (fun W (hW : WK w K X W) => Lg.amountsM_is K 13 X.s W (fun t ht => by
  obtain ⟨⟨d0, d1, d2, d3, d4, d5, d6, d7, d8, d9, d10, d11, d12, d13, d14, d15, d16, d17, d18, d19, d20⟩, _, _⟩ := at21 hW.box
  rcases (by omega : t = 0 ∨ t = 1 ∨ t = 2 ∨ t = 3) with rfl | rfl | rfl | rfl
  ·exact d13
  ·exact d14
  ·exact d15
  ·exact d16) (Array.getElem?_eq_some_iff.1 hW.box).1)
 have HGET : Hid (X.A[i] = X.A[i]) := rfl;clear h hat;obtain ⟨A0, hA0⟩ : ∃ A0, A0 = (X.A[i]).v := ⟨_, rfl⟩;have HA0 := hideIt hA0;rw [← hA0] at HZ HAB c0 c1;clear hA0 HGET;cases hab : aboveB Lg.AmtV.n A0.l 4503599627370496
 ·rw [hab] at HZ HAB
  by_cases hct : 999999900 < A0.ct
  ·have hz := HZ.out;rw [decide_eq_true hct] at hz;simp only [Bool.false_or, if_true] at hz;rw [hz];clear HZ hz HAM hab HA0;generalize A0.l.length = n at *;generalize A0.ct = ct at *
   go_enter Tryz.func78, Tryz.ntmps78
   go_wp2_with fail
   refine HAB.out.mono ?_;rintro e w1 ⟨rfl, hb⟩;dsimp only;have c1' := (hb.cell (p := ⟨X.ga, i * 2 + 1, none⟩) cz).trans c1;have cz' : X.ga < w1.heap.size := Nat.lt_of_lt_of_le cz hb.size;have HX1 := hideIt (HX.out.keep hb);clear hb HX HAB c0 c1 cf cz;go_wp2;go_ret
   exact ⟨X, rfl, rfl, rfl, rfl, rfl, HX1.out⟩
  ·have hz := HZ.out;have hctd : decide (999999900 < A0.ct) = false := decide_eq_false hct;rw [hctd] at hz;simp only [Bool.or_self, Bool.false_eq_true, if_false] at hz;rw [hz];clear HZ hz hab hctd;have hctI : A0.ct ≤ 999999900 := by omega
   have HL0 : Hid (X.A[i] = X.A[i]) := rfl
   go_enter Tryz.func78, Tryz.ntmps78
   go_wp2_with fail
   refine HAB.out.mono ?_;rintro e w1 ⟨rfl, hb⟩;dsimp only;have c1' := (hb.cell (p := ⟨X.ga, i * 2 + 1, none⟩) cz).trans c1;have cz' : X.ga < w1.heap.size := Nat.lt_of_lt_of_le cz hb.size;have HX1 := hideIt (HX.out.keep hb);have hK1 : K < w1.heap.size := Nat.lt_of_lt_of_le hK hb.size;clear hb HX HAB c0 c1 cf cz hct HL0
   go_wp2_with fail
   refine (HAM.out _ HX1.out).mono ?_;rintro e w2 ⟨g, rfl, hm⟩;dsimp only;obtain ⟨fm, cm, rfl⟩ := own_len hm.own;have hK2 : K < w2.heap.size := Nat.lt_of_lt_of_le hK1 hm.bel.size;have HX2 := hideIt (HX1.out.keep hm.bel);obtain ⟨⟨-, -, -, -, -, -, -, -, -, -, -, -, -, -, -, -, -, -, -, d19, -⟩, df, dz⟩ := at21 HX2.out.box;have hpl : (Lg.pre X.s 4).length ≤ 4 := Lg.pre_len _ _;have HX3 := hideIt (HX2.out.setAm fm cm (Lg.pre X.s 4) (own_base hm.own HX1.out.bel.size) (by omega));clear HX1 HX2 hm c1' cz' HAM;obtain ⟨PL, hPL⟩ : ∃ PL, PL = Lg.pre X.s 4 := ⟨_, rfl⟩;rw [← hPL] at hpl HX3 ⊢;have HPL := hideIt hPL;clear hPL
   go_upto_region 4 with fail
   clear d19 df dz;generalize w2.setCell ⟨K, 19, none⟩ (.slice fm PL.length cm) = w3 at *;obtain ⟨⟨-, -, -, -, -, -, -, -, -, -, -, -, -, -, -, -, -, -, -, d19, -⟩, df, dz⟩ := at21 HX3.out.box;simp only at d19;have HS : Hid (payF (PL.drop 0) A0 = payF PL A0 ∧ WK w K {X with fm := fm, cm := cm, am := PL, A := X.A.set i X.A[i]} w3 ∧ (X.A[i]).v = A0) := by
    refine ⟨by rw [List.drop_zero], ?_, HA0.out.symm⟩;rw [List.set_getElem_self];exact HX3.out
   go_upto_region 5 with fail
   clear d19 df dz HX3 hK1 hK2 hK
   go_loopw [35] (fun v wr => ∃ (t : Nat) (x : AccX), v = .int .i64 t ∧ t ≤ PL.length ∧ Hid (payF (PL.drop t) x.v = payF PL A0 ∧ WK w K {X with fm := fm, cm := cm, am := PL, A := X.A.set i x} wr)) (fun v _ => PL.length - (intOf v).toNat)
   case atStart => exact ⟨0, X.A[i], rfl, Nat.zero_le _, hideIt ⟨by rw [HS.out.2.2]; exact HS.out.1, HS.out.2.1⟩⟩
   case round =>
    clear HS;obtain ⟨t, x, rfl, ht, HR⟩ := hrel
    by_cases hlt : t < PL.length
    ·have hltI : (t : Int) < (PL.length : Int) := by omega
     have ht0 : (0 : Int) ≤ (t : Int) := by omega
     obtain ⟨b, off, hfm, hbl, q0, q1⟩ := HR.out.2.amts t hlt;simp only at hfm q0 q1;subst hfm;have HSTEP := hideIt (payF_step x.v hlt);have HRR := hideIt HR.out.2;have HRE := hideIt HR.out.1;clear HR;generalize PL[t] = en at *;obtain ⟨ek, ex⟩ := en;simp only at q0 q1 HSTEP;have hgr := heap_alloc_new wr (.cells #[.int .i64 ek, .int .i64 ex] 53);have HXa := hideIt (HRR.out.keep (below1 wr (.cells #[.int .i64 ek, .int .i64 ex] 53)));have n0 : (wr.alloc (.cells #[.int .i64 ek, .int .i64 ex] 53)).cell? ⟨wr.heap.size, 0, none⟩ = some (.int .i64 ek) := (cell_at hgr 0).trans rfl;have n1 : (wr.alloc (.cells #[.int .i64 ek, .int .i64 ex] 53)).cell? ⟨wr.heap.size, 1, none⟩ = some (.int .i64 ex) := (cell_at hgr 1).trans rfl;have nz : wr.heap.size < (wr.alloc (.cells #[.int .i64 ek, .int .i64 ex] 53)).heap.size := by simp
     clear hgr HRR
     go_upto_region 7 with fail
     clear q0 q1;generalize hKA : wr.heap.size = KA at *;have HKA := hideIt hKA;clear hKA;generalize wr.alloc (.cells #[.int .i64 ek, .int .i64 ex] 53) = W1 at *;have hacc := HXa.out.acc (i := i) (by simp only [List.length_set]; exact hi)
     simp only [List.getElem_set_self] at hacc;obtain ⟨⟨a0, a1⟩, af, az, hat⟩ := hacc;obtain ⟨⟨al, act⟩, xa, xc⟩ := x;simp only at a0 a1 hat HSTEP;have HC : Hid (∀ W, Below W1.heap.size W1 W → Calls Tryz.prog 75 #[.agg #[.slice xa al.length xc, .int .i64 act], .int .i64 ek, .int .i64 ex] W (fun e w' => ∃ f c, e = .returned (.tuple #[.agg #[.slice f (Lg.credL ⟨al, act⟩ ek ex).1.l.length c, .int .i64 (Lg.credL ⟨al, act⟩ ek ex).1.ct], .int .i64 (Lg.credL ⟨al, act⟩ ek ex).2]) ∧ Hid (AccOwn W1.heap.size w' ⟨(Lg.credL ⟨al, act⟩ ek ex).1, f, c⟩ ∧ Below W1.heap.size W1 w' ∧ Below W.heap.size W w'))) := by
      intro W hW;refine (credX al act xa xc ek ex W (SGot.keep hat hW)).mono ?_;rintro e w' ⟨f, c, rfl, ho⟩
      exact ⟨f, c, rfl, hideIt ⟨ho.out.1.base hW.size, below_via hW ho.out.2, ho.out.2⟩⟩
     generalize Lg.credL ⟨al, act⟩ ek ex = CR at *;obtain ⟨⟨cl, cct⟩, cer⟩ := CR;simp only at HC HSTEP;clear hat;have HFA : Hid (∀ W, Below W1.heap.size W1 W → W.cell? ⟨X.ga, i * 2, none⟩ = some (.slice xa al.length xc) ∧ W.cell? ⟨X.ga, i * 2 + 1, none⟩ = some (.int .i64 act) ∧ W.cell? ⟨KA, 0, none⟩ = some (.int .i64 ek) ∧ W.cell? ⟨KA, 1, none⟩ = some (.int .i64 ex)) := fun W hW => ⟨(hW.cell (p := ⟨X.ga, i * 2, none⟩) az).trans a0, (hW.cell (p := ⟨X.ga, i * 2 + 1, none⟩) az).trans a1, (hW.cell (p := ⟨KA, 0, none⟩) nz).trans n0, (hW.cell (p := ⟨KA, 1, none⟩) nz).trans n1⟩
     have HCY : Hid (∀ W, Below W1.heap.size W1 W → Calls Tryz.prog 75 #[.agg #[.slice xa al.length xc, .int .i64 act], .int .i64 ek, .int .i64 ex] W (fun e w' => ∃ f c, e = .returned (.tuple #[.agg #[.slice f cl.length c, .int .i64 cct], .int .i64 cer]) ∧ Hid (AccOwn W1.heap.size w' ⟨⟨cl, cct⟩, f, c⟩ ∧ Below W1.heap.size W1 w' ∧ Below W.heap.size W w') ∧ (w'.cell? ⟨X.ga, i * 2, none⟩ = some (.slice xa al.length xc) ∧ w'.cell? ⟨X.ga, i * 2 + 1, none⟩ = some (.int .i64 act) ∧ w'.cell? ⟨KA, 0, none⟩ = some (.int .i64 ek) ∧ w'.cell? ⟨KA, 1, none⟩ = some (.int .i64 ex)))) := by
      intro W hW;refine (HC.out W hW).mono ?_;rintro e w' ⟨f, c, rfl, ho⟩
      exact ⟨f, c, rfl, ho, HFA.out w' ho.out.2.1⟩
     clear HC;have NA : ∀ x, (W1.alloc x).cell? ⟨X.ga, i * 2, none⟩ = some (.slice xa al.length xc) ∧ (W1.alloc x).cell? ⟨X.ga, i * 2 + 1, none⟩ = some (.int .i64 act) ∧ (W1.alloc x).cell? ⟨KA, 0, none⟩ = some (.int .i64 ek) ∧ (W1.alloc x).cell? ⟨KA, 1, none⟩ = some (.int .i64 ex) := fun x => HFA.out _ (below1 W1 x)
     have ZF : Hid (∀ w', Below (W1.alloc (.cells #[.slice none 0 0, .int .i64 0] 44)).heap.size (W1.alloc (.cells #[.slice none 0 0, .int .i64 0] 44)) w' → (w'.cell? ⟨W1.heap.size, 0, none⟩ = some (.slice none 0 0) ∧ w'.cell? ⟨W1.heap.size, 1, none⟩ = some (.int .i64 0)) ∧ (∀ j, w'.frozen? ⟨W1.heap.size, j, none⟩ = false) ∧ W1.heap.size < w'.heap.size) := by
      intro w' hb;exact at2 ((hb.block W1.heap.size (by simp)).trans (heap_alloc_new W1 _))
     have y1 : W1.heap.size ≠ X.ga := by omega
     have y2 : W1.heap.size ≠ KA := by omega
     have y3 : X.ga ≠ W1.heap.size := by omega
     have y4 : KA ≠ W1.heap.size := by omega
     go_cut [7, 8] from 39 to 49 (fun x y wx => ∃ km f c, x = .pointer (some ⟨km, 0, none⟩) ∧ y = .int .i64 cer ∧ Hid (wx.heap[km]? = some (.cells #[.slice f cl.length c, .int .i64 cct] 44 (0, 0)) ∧ AccOwn W1.heap.size wx ⟨⟨cl, cct⟩, f, c⟩ ∧ Below W1.heap.size W1 wx))
     case first =>
      clear HFA HSTEP HXa HRE HPL HA0 HKA
      go_region_held3 (fun W => W.cell? ⟨X.ga, i * 2, none⟩ = some (.slice xa al.length xc) ∧ W.cell? ⟨X.ga, i * 2 + 1, none⟩ = some (.int .i64 act) ∧ W.cell? ⟨KA, 0, none⟩ = some (.int .i64 ek) ∧ W.cell? ⟨KA, 1, none⟩ = some (.int .i64 ex)) (go_keep) (first | (go_at_call 75; refine (HCY.out (W1.alloc (.cells #[.slice none 0 0, .int .i64 0] 44)).drew (below1 _ _).drew).mono ?_; rintro e w5 ⟨f, c, rfl, HQ, ⟨i0, i1, i2, i3⟩⟩; obtain ⟨⟨m0, m1⟩, mf, mz⟩ := ZF.out w5 (below_via (Below.refl _ _).drew HQ.out.2.2)) | (go_at_call 75; refine (HCY.out W1.drew (Below.refl _ _).drew).mono ?_; rintro e w5 ⟨f, c, rfl, HQ, ⟨i0, i1, i2, i3⟩⟩))
      all_goals go_wp2_with fail
      all_goals go_meet
      ·exact ⟨w5.heap.size, f, c, rfl, rfl, hideIt ⟨heap_alloc_new w5 _, HQ.out.1.keep (below1 w5 _), below_via HQ.out.2.1 (below1 w5 _)⟩⟩
      ·have hz := (HQ.out.2.2.block W1.heap.size (show W1.heap.size < (W1.alloc (.cells #[.slice none 0 0, .int .i64 0] 44)).heap.size by simp)).trans (heap_alloc_new W1 _);have hp2 := puts2 w5 W1.heap.size 44 (.slice f cl.length c) (.int .i64 cct) hz
       exact ⟨W1.heap.size, f, c, rfl, rfl, hideIt ⟨hp2.1, (HQ.out.1.set hz (by decide)).set (heap_set hz 0 _) (by decide), belowSet _ (belowSet _ HQ.out.2.1 (Nat.le_refl _)) (Nat.le_refl _)⟩⟩
     case rest =>
     obtain ⟨km, f, c, rfl, rfl, HM⟩ := hcut;clear HCY NA ZF y1 y2 y3 y4 n0 n1 nz a0 a1 af az;have HX5 := hideIt (HXa.out.keep HM.out.2.2);have hB5 : w.heap.size ≤ W1.heap.size := HXa.out.bel.size;have hacc := HX5.out.acc (i := i) (by simp only [List.length_set]; exact hi)
     simp only [List.getElem_set_self] at hacc;obtain ⟨⟨a0, a1⟩, af, az, -⟩ := hacc;have HPUT := hideIt (HX5.out.putA (i := i) (by simp only [List.length_set]; exact hi) ⟨⟨cl, cct⟩, f, c⟩ (HM.out.2.1.base hB5))
     simp only [List.set_set] at HPUT;obtain ⟨⟨m0, m1⟩, -, mz⟩ := at2 HM.out.1;clear HM HXa;have ge := HSTEP.out
     by_cases her : cer = 0
     ·rw [if_pos her] at ge;have HN := hideIt ge;have herb : (cer == 0) = true := beq_iff_eq.2 her;clear ge HSTEP HX5 her;go_wp2
      revert HPUT
      generalize (World.setCell _ ⟨X.ga, i * 2 + 1, none⟩ _) = WF;intro HPUT
      go_roundw
      case rel => exact ⟨t + 1, ⟨⟨cl, cct⟩, f, c⟩, by go_num, by omega, hideIt ⟨by rw [← HN.out]; exact HRE.out, HPUT.out⟩⟩
      case measure => simp [intOf]; omega
     ·rw [if_neg her] at ge;have HN := hideIt ge;have herb : (cer == 0) = false := beq_eq_false_iff_ne.2 her;clear ge HSTEP HPUT her;go_wp2;go_ret;have hE := HRE.out;rw [HN.out] at hE;rw [← HPL.out, ← hE]
      exact ⟨{X with fm := some ⟨b, off, none⟩, cm := cm, am := PL, A := X.A.set i ⟨⟨al, act⟩, xa, xc⟩}, rfl, by simp only [WkX.st, List.map_set], rfl, by simp, rfl, HX5.out⟩
    ·have hltI : ¬ (t : Int) < (PL.length : Int) := by omega
     obtain rfl : t = PL.length := by omega
     have HE := hideIt HR.out.1;have HG := hideIt HR.out.2;clear HR;go_wp2;go_ret;have hE := HE.out;rw [List.drop_length] at hE;rw [← HPL.out, ← hE]
     exact ⟨{X with fm := fm, cm := cm, am := PL, A := X.A.set i x}, rfl, by simp only [WkX.st, List.map_set]; rfl, rfl, by simp, rfl, HG.out⟩
 ·rw [hab] at HZ HAB;have hz := HZ.out;simp only [Bool.true_or, if_true] at hz;rw [hz];clear HZ hz HAM hab HA0;generalize A0.l.length = n at *;generalize A0.ct = ct at *
  go_enter Tryz.func78, Tryz.ntmps78
  go_wp2_with fail
  refine HAB.out.mono ?_;rintro e w1 ⟨rfl, hb⟩;dsimp only;have HX1 := hideIt (HX.out.keep hb);clear hb HX HAB c0 c1 cf cz;go_wp2;go_ret
  exact ⟨X, rfl, rfl, rfl, rfl, rfl, HX1.out⟩
set_option maxRecDepth 100000 in
set_option maxHeartbeats 16000000 in
theorem doAcc1 (w : World) (K i : Nat) (X : WkX) (wx : World) (h : WK w K X wx) (hi : i < X.A.length) (hk : X.r.kind = 1) : Calls Tryz.prog 51 #[.pointer (some ⟨K, 0, none⟩), .pointer (some ⟨X.ga, i * 2, none⟩)] wx (WkB w K X ({X.st with a := X.st.a.set i (Lg.credL (accD X.st i) X.r.asset X.r.n).1}, (Lg.credL (accD X.st i) X.r.asset X.r.n).2)) := by
 rw [accD_at hi];have HX := hideIt h;obtain ⟨⟨-, -, d2, -, -, d5, -, -, d8, -, -, -, -, -, -, -, -, -, -, -, -⟩, df, dz⟩ := at21 h.box;rw [hk] at d2;clear h
 go_enter Tryz.func51, Tryz.ntmps51
 go_upto_region 1 with fail
 go_quiet (fail)
 have HX1 := hideIt (HX.out.drewN nq);clear HX d2 d5 d8 df dz;generalize wx.drewN nq = W1 at *;obtain ⟨⟨-, -, d2, -, -, d5, -, -, d8, -, -, -, -, -, -, -, -, -, -, -, -⟩, df, dz⟩ := at21 HX1.out.box;rw [hk] at d2;obtain ⟨⟨c0, c1⟩, cf, cz, hat⟩ := HX1.out.acc hi;have HC := hideIt (fun W (hW : Below W1.heap.size W1 W) => credX (X.A[i]).v.l (X.A[i]).v.ct (X.A[i]).fa (X.A[i]).fc X.r.asset X.r.n W (SGot.keep hat hW));have HC := hideIt (HC.out W1 (Below.refl _ _));unfold CrB at HC
 go_wp2_with fail
 refine HC.out.mono ?_;rintro e w2 ⟨f, c, rfl, ho⟩;dsimp only;have HX2 := hideIt (HX1.out.keep ho.out.2);have hB := HX1.out.bel.size;obtain ⟨⟨e0, e1⟩, ef, ez, -⟩ := HX2.out.acc hi;have HP := hideIt (HX2.out.putA hi ⟨(Lg.credL (X.A[i]).v X.r.asset X.r.n).1, f, c⟩ (ho.out.1.base hB));clear ho HX1 HX2 c0 c1 cf cz hat HC;go_wp2;go_ret
 exact ⟨{X with A := X.A.set i ⟨(Lg.credL (X.A[i]).v X.r.asset X.r.n).1, f, c⟩}, rfl, st_setA, rfl, by simp, rfl, HP.out⟩
set_option maxRecDepth 100000 in
set_option maxHeartbeats 16000000 in
theorem doAcc2 (w : World) (K i : Nat) (X : WkX) (wx : World) (h : WK w K X wx) (hi : i < X.A.length) (hk : X.r.kind = 2) : Calls Tryz.prog 51 #[.pointer (some ⟨K, 0, none⟩), .pointer (some ⟨X.ga, i * 2, none⟩)] wx (WkB w K X ({X.st with a := X.st.a.set i (Lg.debL (accD X.st i) X.r.asset X.r.n).1}, (Lg.debL (accD X.st i) X.r.asset X.r.n).2)) := by
 rw [accD_at hi];have HX := hideIt h;obtain ⟨⟨-, -, d2, -, -, d5, -, -, d8, -, -, -, -, -, -, -, -, -, -, -, -⟩, df, dz⟩ := at21 h.box;rw [hk] at d2;clear h
 go_enter Tryz.func51, Tryz.ntmps51
 go_upto_region 1 with fail
 go_quiet (fail)
 have HX1 := hideIt (HX.out.drewN nq);clear HX d2 d5 d8 df dz;generalize wx.drewN nq = W1 at *;obtain ⟨⟨-, -, d2, -, -, d5, -, -, d8, -, -, -, -, -, -, -, -, -, -, -, -⟩, df, dz⟩ := at21 HX1.out.box;rw [hk] at d2;obtain ⟨⟨c0, c1⟩, cf, cz, hat⟩ := HX1.out.acc hi;have HC := hideIt (fun W (hW : Below W1.heap.size W1 W) => debX (X.A[i]).v.l (X.A[i]).v.ct (X.A[i]).fa (X.A[i]).fc X.r.asset X.r.n W (SGot.keep hat hW));have HC := hideIt (HC.out W1 (Below.refl _ _));unfold CrB at HC
 go_wp2_with fail
 refine HC.out.mono ?_;rintro e w2 ⟨f, c, rfl, ho⟩;dsimp only;have HX2 := hideIt (HX1.out.keep ho.out.2);have hB := HX1.out.bel.size;obtain ⟨⟨e0, e1⟩, ef, ez, -⟩ := HX2.out.acc hi;have HP := hideIt (HX2.out.putA hi ⟨(Lg.debL (X.A[i]).v X.r.asset X.r.n).1, f, c⟩ (ho.out.1.base hB));clear ho HX1 HX2 c0 c1 cf cz hat HC;go_wp2;go_ret
 exact ⟨{X with A := X.A.set i ⟨(Lg.debL (X.A[i]).v X.r.asset X.r.n).1, f, c⟩}, rfl, st_setA, rfl, by simp, rfl, HP.out⟩
set_option maxRecDepth 100000 in
set_option maxHeartbeats 16000000 in
theorem doAcc3 (w : World) (K i : Nat) (X : WkX) (wx : World) (h : WK w K X wx) (hi : i < X.A.length) (hk : X.r.kind = 3) (hp : X.r.side = 1 → 0 ≤ X.r.price ∧ X.r.price ≤ 1000000 ∧ 0 ≤ X.r.n ∧ X.r.n ≤ 1000000) : Calls Tryz.prog 51 #[.pointer (some ⟨K, 0, none⟩), .pointer (some ⟨X.ga, i * 2, none⟩)] wx (WkB w K X ({X.st with a := X.st.a.set i (Lg.debL (accD X.st i) (brA_ X.r) (brN_ X.r)).1}, (Lg.debL (accD X.st i) (brA_ X.r) (brN_ X.r)).2)) := by
 rw [accD_at hi];have HX := hideIt h;obtain ⟨⟨-, -, d2, -, -, d5, -, -, d8, -, -, -, -, -, -, -, -, -, -, -, -⟩, df, dz⟩ := at21 h.box;rw [hk] at d2;clear h
 go_enter Tryz.func51, Tryz.ntmps51
 go_upto_region 1 with fail
 go_quiet (fail)
 have HX1 := hideIt (HX.out.drewN nq);clear HX d2 d5 d8 df dz;generalize wx.drewN nq = W1 at *;obtain ⟨⟨-, -, d2, -, -, d5, -, -, d8, -, -, -, -, -, -, -, -, -, -, -, -⟩, df, dz⟩ := at21 HX1.out.box;rw [hk] at d2;obtain ⟨⟨c0, c1⟩, cf, cz, hat⟩ := HX1.out.acc hi;have HBR := hideIt (brought_is X.r W1 hp);unfold Se.reqC at HBR;rw [hk] at HBR;obtain ⟨⟨-, -, -, g3, g4, g5, g6, g7, g8, g9, g10, g11, g12, -, -, -, -, -, -, -, -⟩, -, -⟩ := at21 HX1.out.box;have HAT := hideIt hat
 go_wp2_with fail
 refine HBR.out.mono ?_;rintro e w4 ⟨rfl, hb4⟩;dsimp only;have hat := SGot.keep HAT.out hb4;have HX1 := hideIt (HX1.out.keep hb4);clear c0 c1 cf cz HAT g3 g4 g5 g6 g7 g8 g9 g10 g11 g12 d2 d5 d8 df dz HBR;obtain ⟨⟨c0, c1⟩, cf, cz, -⟩ := HX1.out.acc hi;clear hb4;have HC := hideIt (fun W (hW : Below w4.heap.size w4 W) => debX (X.A[i]).v.l (X.A[i]).v.ct (X.A[i]).fa (X.A[i]).fc (brA_ X.r) (brN_ X.r) W (SGot.keep hat hW));have HC := hideIt (HC.out w4 (Below.refl _ _));unfold CrB at HC
 go_wp2_with fail
 refine HC.out.mono ?_;rintro e w2 ⟨f, c, rfl, ho⟩;dsimp only;have HX2 := hideIt (HX1.out.keep ho.out.2);have hB := HX1.out.bel.size;obtain ⟨⟨e0, e1⟩, ef, ez, -⟩ := HX2.out.acc hi;have HP := hideIt (HX2.out.putA hi ⟨(Lg.debL (X.A[i]).v (brA_ X.r) (brN_ X.r)).1, f, c⟩ (ho.out.1.base hB));clear ho HX1 HX2 c0 c1 cf cz hat HC;go_wp2;go_ret
 exact ⟨{X with A := X.A.set i ⟨(Lg.debL (X.A[i]).v (brA_ X.r) (brN_ X.r)).1, f, c⟩}, rfl, st_setA, rfl, by simp, rfl, HP.out⟩
set_option maxRecDepth 100000 in
set_option maxHeartbeats 16000000 in
theorem doAcc7 (w : World) (K i : Nat) (X : WkX) (wx : World) (h : WK w K X wx) (hi : i < X.A.length) (hk : X.r.kind = 7) : Calls Tryz.prog 51 #[.pointer (some ⟨K, 0, none⟩), .pointer (some ⟨X.ga, i * 2, none⟩)] wx (WkB w K X (payZ i X.st)) := by
 have HX := hideIt h;obtain ⟨⟨-, -, d2, -, -, d5, -, -, d8, -, -, -, -, -, -, -, -, -, -, -, -⟩, df, dz⟩ := at21 h.box;rw [hk] at d2;clear h
 go_enter Tryz.func51, Tryz.ntmps51
 go_upto_region 1 with fail
 go_quiet (fail)
 have HX1 := hideIt (HX.out.drewN nq);clear HX d2 d5 d8 df dz;generalize wx.drewN nq = W1 at *;obtain ⟨⟨-, -, d2, -, -, d5, -, -, d8, -, -, -, -, -, -, -, -, -, -, -, -⟩, df, dz⟩ := at21 HX1.out.box;rw [hk] at d2;obtain ⟨⟨c0, c1⟩, cf, cz, hat⟩ := HX1.out.acc hi;have HC := hideIt (pay_is w K i X W1 HX1.out hi);clear c0 c1 cf cz hat;unfold WkB at HC
 go_wp2_with fail
 refine HC.out.mono ?_;rintro e w2 ⟨X2, rfl, q1, q2, q3, q4, hx⟩;dsimp only;have HQ := hideIt (And.intro q1 (And.intro q2 (And.intro q3 (And.intro q4 hx))));clear HC HX1 q1 q2 q3 q4 hx;go_wp2;go_ret
 exact ⟨X2, rfl, HQ.out⟩
set_option maxRecDepth 100000 in
set_option maxHeartbeats 16000000 in
theorem doAcc8 (w : World) (K i : Nat) (X : WkX) (wx : World) (h : WK w K X wx) (hi : i < X.A.length) (hk : X.r.kind = 8) : Calls Tryz.prog 51 #[.pointer (some ⟨K, 0, none⟩), .pointer (some ⟨X.ga, i * 2, none⟩)] wx (WkB w K X ({X.st with am := (accD X.st i).l}, 0)) := by
 rw [accD_at hi];have HX := hideIt h;obtain ⟨⟨-, -, d2, -, -, d5, -, -, d8, -, -, -, -, -, -, -, -, -, -, -, -⟩, df, dz⟩ := at21 h.box;rw [hk] at d2;clear h
 go_enter Tryz.func51, Tryz.ntmps51
 go_upto_region 1 with fail
 go_quiet (fail)
 have HX1 := hideIt (HX.out.drewN nq);clear HX d2 d5 d8 df dz;generalize wx.drewN nq = W1 at *;obtain ⟨⟨-, -, d2, -, -, d5, -, -, d8, -, -, -, -, -, -, -, -, -, -, -, -⟩, df, dz⟩ := at21 HX1.out.box;rw [hk] at d2;obtain ⟨⟨c0, c1⟩, cf, cz, hat⟩ := HX1.out.acc hi;have HC := hideIt (cloneA_is _ _ W1 hat);have hsz := hat.1;clear hat
 go_wp2_with fail
 refine HC.out.mono ?_;rintro e w2 ⟨f, c, rfl, ho, hb⟩;dsimp only;have HX2 := hideIt (HX1.out.keep hb);have HP := hideIt (HX2.out.setAm f c (X.A[i]).v.l (own_base ho HX1.out.bel.size) hsz);clear HC HX1 ho hb c0 c1 cf cz d2 d5 d8 df dz;obtain ⟨⟨-, -, -, -, -, -, -, -, -, -, -, -, -, -, -, -, -, -, -, d19, -⟩, df, dz⟩ := at21 HX2.out.box;clear HX2;go_wp2;go_ret
 exact ⟨{X with fm := f, cm := c, am := (X.A[i]).v.l}, rfl, rfl, rfl, rfl, rfl, HP.out⟩
set_option maxRecDepth 100000 in
set_option maxHeartbeats 16000000 in
theorem doAccO (w : World) (K i : Nat) (X : WkX) (wx : World) (h : WK w K X wx) (hi : i < X.A.length) (h1 : X.r.kind ≠ 1) (h2 : X.r.kind ≠ 2) (h3 : X.r.kind ≠ 3) (h7 : X.r.kind ≠ 7) (h8 : X.r.kind ≠ 8) : Calls Tryz.prog 51 #[.pointer (some ⟨K, 0, none⟩), .pointer (some ⟨X.ga, i * 2, none⟩)] wx (WkB w K X (X.st, 0)) := by
 have b1 : (X.r.kind == 1) = false := beq_eq_false_iff_ne.2 h1;have b2 : (X.r.kind == 2) = false := beq_eq_false_iff_ne.2 h2;have b3 : (X.r.kind == 3) = false := beq_eq_false_iff_ne.2 h3;have b7 : (X.r.kind == 7) = false := beq_eq_false_iff_ne.2 h7;have b8 : (X.r.kind == 8) = false := beq_eq_false_iff_ne.2 h8;clear h1 h2 h3 h7 h8;have hk : X.r.kind = X.r.kind := rfl;have HX := hideIt h;obtain ⟨⟨-, -, d2, -, -, d5, -, -, d8, -, -, -, -, -, -, -, -, -, -, -, -⟩, df, dz⟩ := at21 h.box;rw [hk] at d2;clear h
 go_enter Tryz.func51, Tryz.ntmps51
 go_upto_region 1 with fail
 go_quiet (fail)
 have HX1 := hideIt (HX.out.drewN nq);clear HX d2 d5 d8 df dz;generalize wx.drewN nq = W1 at *;obtain ⟨⟨-, -, d2, -, -, d5, -, -, d8, -, -, -, -, -, -, -, -, -, -, -, -⟩, df, dz⟩ := at21 HX1.out.box;rw [hk] at d2;obtain ⟨⟨c0, c1⟩, cf, cz, hat⟩ := HX1.out.acc hi;clear c0 c1 cf cz hat;go_wp2;go_ret
 exact ⟨X, rfl, rfl, rfl, rfl, rfl, HX1.out⟩
theorem doAcc_is (w : World) (K i : Nat) (X : WkX) (wx : World) (h : WK w K X wx) (hi : i < X.A.length) (hf : Se.fitsB X.r = true) : Calls Tryz.prog 51 #[.pointer (some ⟨K, 0, none⟩), .pointer (some ⟨X.ga, i * 2, none⟩)] wx (WkB w K X (stAcc X.r i X.st)) := by
 unfold stAcc
 by_cases h1 : X.r.kind = 1
 ·rw [if_pos h1];exact doAcc1 w K i X wx h hi h1
 ·rw [if_neg h1]
  by_cases h3 : X.r.kind = 3
  ·rw [if_pos h3];exact doAcc3 w K i X wx h hi h3 (fun _ => by have := (Se.fitF3 h3).1 hf; omega)
  ·rw [if_neg h3]
   by_cases h2 : X.r.kind = 2
   ·rw [if_pos h2];exact doAcc2 w K i X wx h hi h2
   ·rw [if_neg h2]
    by_cases h7 : X.r.kind = 7
    ·rw [if_pos h7];exact doAcc7 w K i X wx h hi h7
    ·rw [if_neg h7]
     by_cases h8 : X.r.kind = 8
     ·rw [if_pos h8];exact doAcc8 w K i X wx h hi h8
     ·rw [if_neg h8];exact doAccO w K i X wx h hi h1 h2 h3 h7 h8
def toT (e : AmV) : AmtV := ⟨e.asset, e.n⟩
theorem am_cells (l : List AmV) : celC amtE (l.map toT) = celC amE l := by
 simp only [celC, List.map_map]
 rfl
theorem am_conv {w : World} {v : Value} {l : List AmV} (h : SGot 2 16 amE w v l) : Amts w v (l.map toT) := by
 unfold Amts SGot at *;rw [List.length_map, am_cells];exact h
theorem above_conv (l : List AmV) (m : Int) : aboveB Lg.AmtV.n (l.map toT) m = aboveB AmV.n l m := by
 unfold aboveB;rw [List.any_map]
 rfl
theorem WK.sh {w wx : World} {K t : Nat} {X : WkX} (h : WK w K X wx) (ht : t < 4) : wx.cell? ⟨K, 13 + t, none⟩ = some (.int .i64 (X.s t)) ∧ wx.frozen? ⟨K, 13 + t, none⟩ = false := by
 obtain ⟨⟨d0, d1, d2, d3, d4, d5, d6, d7, d8, d9, d10, d11, d12, d13, d14, d15, d16, d17, d18, d19, d20⟩, df, _⟩ := at21 h.box;refine ⟨?_, df _⟩
 rcases (by omega : t = 0 ∨ t = 1 ∨ t = 2 ∨ t = 3) with rfl | rfl | rfl | rfl
 ·exact d13
 ·exact d14
 ·exact d15
 ·exact d16
theorem tak_sml (L : LaneV) (acc : Int) (h : Sml L) : Sml (takR L acc).1 := by
 unfold takR
 split
 ·exact sml_zero
 ·split
  ·exact sml_zero
  ·exact ⟨h.1, h.2.1, Nat.le_trans (lefA_len _ _) h.2.2⟩
theorem tak_len (L : LaneV) (acc : Int) (h : Sml L) : (takR L acc).2.1.length ≤ 40 := by
 unfold takR
 split
 ·simp
 ·split
  ·simp
  ·exact Nat.le_trans (takA_len _ _) h.2.2
theorem lnb_of {M : LaneV} {W w' : World} {b a o : Value} (hs : Sml M) (hb : w'.ownsRow W.heap.size 115 4 b M.bids.length (celC ordE M.bids)) (ha : w'.ownsRow W.heap.size 115 4 a M.asks.length (celC ordE M.asks)) (ho : w'.ownsRow W.heap.size 61 3 o M.owed.length (celC oweE M.owed)) : ∃ b1 b2 a1 a2 o1 o2, b = .slice b1 M.bids.length b2 ∧ a = .slice a1 M.asks.length a2 ∧ o = .slice o1 M.owed.length o2 ∧ LanOwn W.heap.size w' ⟨M, b1, b2, a1, a2, o1, o2⟩ := by
 obtain ⟨b1, b2, rfl⟩ := own_len hb;obtain ⟨a1, a2, rfl⟩ := own_len ha;obtain ⟨o1, o2, rfl⟩ := own_len ho
 exact ⟨b1, b2, a1, a2, o1, o2, rfl, rfl, rfl, ⟨hb, ha, ho, by have := hs.1; simp only; omega, by have := hs.2.1; simp only; omega, by have := hs.2.2; simp only; omega⟩⟩
theorem takeX (L : LaneV) (acc : Int) (b a o : Value) (W : World) (hs : Sml L) (h : Lan W L b a o) : Calls Tryz.prog 126 #[.agg #[.bool L.call, .int .i64 L.next, b, a, o], .int .i64 acc] W fun e w' => ∃ b1 b2 a1 a2 o1 o2 u1 u2, e = .returned (.tuple #[.agg #[.bool (takR L acc).1.call, .int .i64 (takR L acc).1.next, .slice b1 (takR L acc).1.bids.length b2, .slice a1 (takR L acc).1.asks.length a2, .slice o1 (takR L acc).1.owed.length o2], .slice u1 (takR L acc).2.1.length u2, .int .i64 (takR L acc).2.2]) ∧ Hid (LanOwn W.heap.size w' ⟨(takR L acc).1, b1, b2, a1, a2, o1, o2⟩ ∧ w'.ownsRow W.heap.size 53 2 (.slice u1 (takR L acc).2.1.length u2) (takR L acc).2.1.length (celC amE (takR L acc).2.1) ∧ Below W.heap.size W w') := by
 refine (take_is L b a o acc W h).mono ?_;rintro e w' ⟨b', a', o', u', rfl, hb, ha, ho, hu, hB⟩;obtain ⟨b1, b2, a1, a2, o1, o2, rfl, rfl, rfl, hl⟩ := lnb_of (tak_sml L acc hs) hb ha ho;obtain ⟨u1, u2, rfl⟩ := own_len hu
 exact ⟨b1, b2, a1, a2, o1, o2, u1, u2, rfl, hideIt ⟨hl, hu, hB⟩⟩
def setZ (r : ReqV) (i : Nat) (q : Int) (S : StV) : StV × Int := if decide ((takR (lanD S i) r.acct).2.2 ≠ 0) || aboveB AmV.n (takR (lanD S i) r.acct).2.1 1125899906842624 then (S, 6) else ({S with l := S.l.set i (takR (lanD S i) r.acct).1, s := addT q (takR (lanD S i) r.acct).2.1 S.s}, 0)
theorem SGot.ams {w : World} {v : Value} {l : List AmV} (h : SGot 2 16 amE w v l) : ∃ a c, v = .slice a l.length c ∧ l.length * 16 ≤ 140737488355328 ∧ ∀ i (h : i < l.length), ∃ b off, a = some ⟨b, off, none⟩ ∧ b < w.heap.size ∧ w.cell? ⟨b, off + i * 2, none⟩ = some (.int .i64 (l[i]).asset) ∧ w.cell? ⟨b, off + i * 2 + 1, none⟩ = some (.int .i64 (l[i]).n) := by
 obtain ⟨h8, a, c, e, hc, hr⟩ := h;refine ⟨a, c, e, h8, fun i hi => ?_⟩;obtain ⟨b, off, ha, hb, hcell⟩ := hr (by omega);have g := celC_get amK l i hi
 exact ⟨b, off, ha, hb, (hcell (i * 2) (by omega)).trans (g 0 (by omega)), (hcell (i * 2 + 1) (by omega)).trans (g 1 (by omega))⟩
theorem addT_step (q : Int) {L : List AmV} {t : Nat} (s : Nat → Int) (h : t < L.length) : addT q (L.drop t) s = addT q (L.drop (t + 1)) (Lg.upS s (assQ q L[t]) (wr64 (s (assQ q L[t]) + (L[t]).n))) := by
 rw [List.drop_eq_getElem_cons h]
 rfl
set_option maxRecDepth 100000 in
set_option maxHeartbeats 16000000 in
theorem settle_is2 (w : World) (K i kq : Nat) (X : WkX) (wx : World) (h : WK w K X wx) (hi : i < X.L.length) (hs : Sml (X.L[i]).v) (hc : chkB (X.L[i]).v = true) (hq : 1 ≤ kq ∧ kq ≤ 3) : Calls Tryz.prog 83 #[.pointer (some ⟨K, 0, none⟩), .pointer (some ⟨X.gl, i * 5, none⟩), .int .i64 (kq : Int)] wx (WkB w K X (setZ X.r i kq X.st)) := by
 have HZ : Hid (setZ X.r i kq X.st = if decide ((takR (X.L[i]).v X.r.acct).2.2 ≠ 0) || aboveB AmV.n (takR (X.L[i]).v X.r.acct).2.1 1125899906842624 then (X.st, 6) else ({X.st with l := X.st.l.set i (takR (X.L[i]).v X.r.acct).1, s := addT kq (takR (X.L[i]).v X.r.acct).2.1 X.s}, 0)) := by
  show _ = _
  unfold setZ;rw [lanD_at hi]
  rfl
 generalize setZ X.r i kq X.st = Z at *;have HX := hideIt h;obtain ⟨⟨k0, k1, k2, k3, k4⟩, kf, kz, hat⟩ := h.lan hi;obtain ⟨⟨-, -, -, d3, -, -, -, -, -, -, -, -, -, -, -, -, -, -, -, -, -⟩, df, dz⟩ := at21 h.box;have hB0 := h.bel.size;have HC := hideIt (fun W (hW : Below wx.heap.size wx W) => takeX (X.L[i]).v X.r.acct _ _ _ W hs (Lan.keep hat hW));have hMem : ∀ e ∈ (takR (X.L[i]).v X.r.acct).2.1, (e.asset = 0 ∨ e.asset = 1) ∧ 1 ≤ e.n ∧ e.n ≤ 9007199254740992 := by
  intro e he;unfold takR at he
  split at he
  ·simp at he
  ·split at he
   ·simp at he
   ·exact tak_mem hc e he
 have HM := hideIt hMem;have htl := tak_len (X.L[i]).v X.r.acct hs;clear h hat hMem hc hs;have HLI : Hid (X.L[i] = X.L[i]) := rfl;generalize takR (X.L[i]).v X.r.acct = TR at *;obtain ⟨TM, TL, ter⟩ := TR;simp only at HC HM htl HZ;obtain ⟨acct, hacct⟩ : ∃ x, x = X.r.acct := ⟨_, rfl⟩;rw [← hacct] at d3 HC;clear hacct HLI;have HA : Hid (∀ W, Below wx.heap.size wx W → W.cell? ⟨X.gl, i * 5, none⟩ = some (.bool (X.L[i]).v.call) ∧ W.cell? ⟨X.gl, i * 5 + 1, none⟩ = some (.int .i64 (X.L[i]).v.next) ∧ W.cell? ⟨X.gl, i * 5 + 2, none⟩ = some (.slice (X.L[i]).ba (X.L[i]).v.bids.length (X.L[i]).bc) ∧ W.cell? ⟨X.gl, i * 5 + 3, none⟩ = some (.slice (X.L[i]).aa (X.L[i]).v.asks.length (X.L[i]).ac) ∧ W.cell? ⟨X.gl, i * 5 + 4, none⟩ = some (.slice (X.L[i]).oa (X.L[i]).v.owed.length (X.L[i]).oc) ∧ W.cell? ⟨K, 3, none⟩ = some (.int .i64 acct)) := fun W hW => ⟨(hW.cell (p := ⟨X.gl, i * 5, none⟩) kz).trans k0, (hW.cell (p := ⟨X.gl, i * 5 + 1, none⟩) kz).trans k1, (hW.cell (p := ⟨X.gl, i * 5 + 2, none⟩) kz).trans k2, (hW.cell (p := ⟨X.gl, i * 5 + 3, none⟩) kz).trans k3, (hW.cell (p := ⟨X.gl, i * 5 + 4, none⟩) kz).trans k4, (hW.cell (p := ⟨K, 3, none⟩) dz).trans d3⟩
 generalize (X.L[i]).v.call = l0 at *;generalize (X.L[i]).v.next = l1 at *;generalize (Value.slice (X.L[i]).ba (X.L[i]).v.bids.length (X.L[i]).bc) = l2 at *;generalize (Value.slice (X.L[i]).aa (X.L[i]).v.asks.length (X.L[i]).ac) = l3 at *;generalize (Value.slice (X.L[i]).oa (X.L[i]).v.owed.length (X.L[i]).oc) = l4 at *;have HCY : Hid (∀ W, Below wx.heap.size wx W → Calls Tryz.prog 126 #[.agg #[.bool l0, .int .i64 l1, l2, l3, l4], .int .i64 acct] W (fun e w' => ∃ b1 b2 c1 c2 o1 o2 u1 u2, e = .returned (.tuple #[.agg #[.bool TM.call, .int .i64 TM.next, .slice b1 TM.bids.length b2, .slice c1 TM.asks.length c2, .slice o1 TM.owed.length o2], .slice u1 TL.length u2, .int .i64 ter]) ∧ Hid (LanOwn wx.heap.size w' ⟨TM, b1, b2, c1, c2, o1, o2⟩ ∧ w'.ownsRow wx.heap.size 53 2 (.slice u1 TL.length u2) TL.length (celC amE TL) ∧ Below wx.heap.size wx w' ∧ Below W.heap.size W w') ∧ (w'.cell? ⟨X.gl, i * 5, none⟩ = some (.bool l0) ∧ w'.cell? ⟨X.gl, i * 5 + 1, none⟩ = some (.int .i64 l1) ∧ w'.cell? ⟨X.gl, i * 5 + 2, none⟩ = some l2 ∧ w'.cell? ⟨X.gl, i * 5 + 3, none⟩ = some l3 ∧ w'.cell? ⟨X.gl, i * 5 + 4, none⟩ = some l4 ∧ w'.cell? ⟨K, 3, none⟩ = some (.int .i64 acct)))) := by
  intro W hW;refine (HC.out W hW).mono ?_;rintro e w' ⟨b1, b2, c1, c2, o1, o2, u1, u2, rfl, ho⟩;have hB := below_via hW ho.out.2.2
  exact ⟨b1, b2, c1, c2, o1, o2, u1, u2, rfl, hideIt ⟨ho.out.1.base hW.size, own_base ho.out.2.1 hW.size, hB, ho.out.2.2⟩, HA.out w' hB⟩
 clear HC;have NA : ∀ x, (wx.alloc x).cell? ⟨X.gl, i * 5, none⟩ = some (.bool l0) ∧ (wx.alloc x).cell? ⟨X.gl, i * 5 + 1, none⟩ = some (.int .i64 l1) ∧ (wx.alloc x).cell? ⟨X.gl, i * 5 + 2, none⟩ = some l2 ∧ (wx.alloc x).cell? ⟨X.gl, i * 5 + 3, none⟩ = some l3 ∧ (wx.alloc x).cell? ⟨X.gl, i * 5 + 4, none⟩ = some l4 ∧ (wx.alloc x).cell? ⟨K, 3, none⟩ = some (.int .i64 acct) := fun x => HA.out _ (below1 wx x)
 have ZF : Hid (∀ w', Below (wx.alloc (.cells #[.bool false, .int .i64 0, .slice none 0 0, .slice none 0 0, .slice none 0 0] 59)).heap.size (wx.alloc (.cells #[.bool false, .int .i64 0, .slice none 0 0, .slice none 0 0, .slice none 0 0] 59)) w' → (w'.cell? ⟨wx.heap.size, 0, none⟩ = some (.bool false) ∧ w'.cell? ⟨wx.heap.size, 1, none⟩ = some (.int .i64 0) ∧ w'.cell? ⟨wx.heap.size, 2, none⟩ = some (.slice none 0 0) ∧ w'.cell? ⟨wx.heap.size, 3, none⟩ = some (.slice none 0 0) ∧ w'.cell? ⟨wx.heap.size, 4, none⟩ = some (.slice none 0 0)) ∧ (∀ j, w'.frozen? ⟨wx.heap.size, j, none⟩ = false) ∧ wx.heap.size < w'.heap.size) := by
  intro w' hb;exact at5 ((hb.block wx.heap.size (by simp)).trans (heap_alloc_new wx _))
 have y1 : wx.heap.size ≠ X.gl := by omega
 have y2 : wx.heap.size ≠ K := by omega
 have y3 : X.gl ≠ wx.heap.size := by omega
 have y4 : K ≠ wx.heap.size := by omega
 go_enter Tryz.func83, Tryz.ntmps83
 go_upto_region 1 with fail
 go_cut [7, 8, 9] from 13 to 25 (fun x y z wy => ∃ km b1 b2 c1 c2 o1 o2 u1 u2, x = .pointer (some ⟨km, 0, none⟩) ∧ y = .slice u1 TL.length u2 ∧ z = .int .i64 ter ∧ Hid (wy.heap[km]? = some (.cells #[.bool TM.call, .int .i64 TM.next, .slice b1 TM.bids.length b2, .slice c1 TM.asks.length c2, .slice o1 TM.owed.length o2] 59 (0, 0)) ∧ LanOwn wx.heap.size wy ⟨TM, b1, b2, c1, c2, o1, o2⟩ ∧ wy.ownsRow wx.heap.size 53 2 (.slice u1 TL.length u2) TL.length (celC amE TL) ∧ Below wx.heap.size wx wy))
 case first =>
  clear HA HX HM
  go_region_held3 (fun W => W.cell? ⟨X.gl, i * 5, none⟩ = some (.bool l0) ∧ W.cell? ⟨X.gl, i * 5 + 1, none⟩ = some (.int .i64 l1) ∧ W.cell? ⟨X.gl, i * 5 + 2, none⟩ = some l2 ∧ W.cell? ⟨X.gl, i * 5 + 3, none⟩ = some l3 ∧ W.cell? ⟨X.gl, i * 5 + 4, none⟩ = some l4 ∧ W.cell? ⟨K, 3, none⟩ = some (.int .i64 acct)) (go_keep) (first | (go_at_call 126; refine (HCY.out (wx.alloc (.cells #[.bool false, .int .i64 0, .slice none 0 0, .slice none 0 0, .slice none 0 0] 59)).drew (below1 _ _).drew).mono ?_; rintro e w5 ⟨b1, b2, c1, c2, o1, o2, u1, u2, rfl, HQ, ⟨i0, i1, i2, i3, i4, i5⟩⟩; obtain ⟨⟨m0, m1, m2, m3, m4⟩, mf, mz⟩ := ZF.out w5 (below_via (Below.refl _ _).drew HQ.out.2.2.2)) | (go_at_call 126; refine (HCY.out wx.drew (Below.refl _ _).drew).mono ?_; rintro e w5 ⟨b1, b2, c1, c2, o1, o2, u1, u2, rfl, HQ, ⟨i0, i1, i2, i3, i4, i5⟩⟩))
  all_goals go_wp2_with fail
  all_goals go_meet
  ·exact ⟨w5.heap.size, b1, b2, c1, c2, o1, o2, u1, u2, rfl, rfl, rfl, hideIt ⟨heap_alloc_new w5 _, HQ.out.1.keep (below1 w5 _), own_keep HQ.out.2.1 (below1 w5 _), below_via HQ.out.2.2.1 (below1 w5 _)⟩⟩
  ·have hz := (HQ.out.2.2.2.block wx.heap.size (show wx.heap.size < (wx.alloc (.cells #[.bool false, .int .i64 0, .slice none 0 0, .slice none 0 0, .slice none 0 0] 59)).heap.size by simp)).trans (heap_alloc_new wx _);have hp5 := puts5 w5 wx.heap.size 59 (.bool TM.call) (.int .i64 TM.next) (.slice b1 TM.bids.length b2) (.slice c1 TM.asks.length c2) (.slice o1 TM.owed.length o2) hz;have g1 := heap_set hz 0 (.bool TM.call);have g2 := heap_set g1 1 (.int .i64 TM.next);have g3 := heap_set g2 2 (.slice b1 TM.bids.length b2);have g4 := heap_set g3 3 (.slice c1 TM.asks.length c2)
   exact ⟨wx.heap.size, b1, b2, c1, c2, o1, o2, u1, u2, rfl, rfl, rfl, hideIt ⟨hp5.1, ((((HQ.out.1.set hz (by decide) (by decide)).set g1 (by decide) (by decide)).set g2 (by decide) (by decide)).set g3 (by decide) (by decide)).set g4 (by decide) (by decide), own_cell (own_cell (own_cell (own_cell (own_cell HQ.out.2.1 hz (by decide)) g1 (by decide)) g2 (by decide)) g3 (by decide)) g4 (by decide), belowSet _ (belowSet _ (belowSet _ (belowSet _ (belowSet _ HQ.out.2.2.1 (Nat.le_refl _)) (Nat.le_refl _)) (Nat.le_refl _)) (Nat.le_refl _)) (Nat.le_refl _)⟩⟩
 case rest =>
 obtain ⟨km, b1, b2, c1, c2, o1, o2, u1, u2, rfl, rfl, rfl, HQ⟩ := hcut;clear HCY NA ZF y1 y2 y3 y4 k0 k1 k2 k3 k4 kf kz d3 df dz HA;have HX5 := hideIt (HX.out.keep HQ.out.2.2.2);have HT := hideIt (own_base HQ.out.2.2.1 hB0);have HLN := hideIt (And.intro HQ.out.1 (HQ.out.2.1.base hB0));clear HQ HX
 by_cases her : ter = 0
 ·have herb : (ter == 0) = true := beq_iff_eq.2 her;have HAB := hideIt (hasAbove_is _ _ 1125899906842624 wc (am_conv (own_sgot HT.out (by omega))));rw [above_conv] at HAB;subst her;cases hab : aboveB AmV.n TL 1125899906842624
  ·rw [hab] at HAB;have HAB0 := hideIt hab;clear hab
   go_wp2_with fail
   refine HAB.out.mono ?_;rintro e w6 ⟨rfl, hb⟩;dsimp only;have HX6 := hideIt (HX5.out.keep hb);have HT6 := hideIt (own_keep HT.out hb);have HL6 := hideIt (And.intro (blkK HLN.out.1 hb) (HLN.out.2.keep hb));clear HX5 HT HLN hb HAB;obtain ⟨⟨a0, a1, a2, a3, a4⟩, af, az, -⟩ := HX6.out.lan hi;obtain ⟨⟨m0, m1, m2, m3, m4⟩, -, mz⟩ := at5 HL6.out.1;have HP := hideIt (HX6.out.putL hi ⟨TM, b1, b2, c1, c2, o1, o2⟩ HL6.out.2);obtain ⟨⟨cs, hg⟩, hgB⟩ := row_blk HX6.out.ln.row;have g1 := heap_set hg (i * 5) (.bool TM.call);have g2 := heap_set g1 (i * 5 + 1) (.int .i64 TM.next);have g3 := heap_set g2 (i * 5 + 2) (.slice b1 TM.bids.length b2);have g4 := heap_set g3 (i * 5 + 3) (.slice c1 TM.asks.length c2);have HT7 := hideIt (own_cell (j := i * 5 + 4) (u := .slice o1 TM.owed.length o2) (own_cell (j := i * 5 + 3) (u := .slice c1 TM.asks.length c2) (own_cell (j := i * 5 + 2) (u := .slice b1 TM.bids.length b2) (own_cell (j := i * 5 + 1) (u := .int .i64 TM.next) (own_cell (j := i * 5) (u := .bool TM.call) HT6.out hg (by decide)) g1 (by decide)) g2 (by decide)) g3 (by decide)) g4 (by decide));clear HX6 HL6 HT6 hg g1 g2 g3 g4 hgB
   go_upto_region 5 with fail
   clear a0 a1 a2 a3 a4 af az m0 m1 m2 m3 m4 mz;dsimp only at HP HT7;generalize (World.setCell _ ⟨X.gl, i * 5 + 4, none⟩ _) = W7 at *;have HLP : Hid (X.L.set i ⟨TM, b1, b2, c1, c2, o1, o2⟩ = X.L.set i ⟨TM, b1, b2, c1, c2, o1, o2⟩) := rfl;generalize hXl : X.L.set i ⟨TM, b1, b2, c1, c2, o1, o2⟩ = XL at *;have HXL := hideIt hXl;clear hXl HLP
   go_upto_region 6 with fail
   go_loopw [37] (fun v wr => ∃ (t : Nat) (s : Nat → Int), v = .int .i64 t ∧ t ≤ TL.length ∧ Hid (addT kq (TL.drop t) s = addT kq TL X.s ∧ WK w K {X with L := XL, s := s} wr ∧ wr.ownsRow w.heap.size 53 2 (.slice u1 TL.length u2) TL.length (celC amE TL))) (fun v _ => TL.length - (intOf v).toNat)
   case atStart => exact ⟨0, X.s, rfl, Nat.zero_le _, hideIt ⟨by rw [List.drop_zero], HP.out, HT7.out⟩⟩
   case round =>
    clear HP HT7;obtain ⟨t, s, rfl, ht, HR⟩ := hrel
    by_cases hlt : t < TL.length
    ·have hltI : (t : Int) < (TL.length : Int) := by omega
     have ht0 : (0 : Int) ≤ (t : Int) := by omega
     obtain ⟨ua, uc, hue, _, hcell⟩ := SGot.ams (own_sgot HR.out.2.2 (bytes := 16) (by omega));obtain ⟨b, off, rfl, hbl, q0, q1⟩ := hcell t hlt;simp only [Value.slice.injEq] at hue;obtain ⟨rfl, _, _⟩ := hue;have HSTEP := hideIt (addT_step kq s hlt);have hmem := HM.out TL[t] (List.getElem_mem hlt);have HRR := hideIt HR.out.2;have HRE := hideIt HR.out.1;clear HR hcell;generalize TL[t] = en at *;obtain ⟨ek, ex⟩ := en;simp only at q0 q1 HSTEP hmem;obtain ⟨hk01, hx1, hx2⟩ := hmem;have hgr := heap_alloc_new wr (.cells #[.int .i64 ek, .int .i64 ex] 53);have HXa := hideIt (HRR.out.1.keep (below1 wr (.cells #[.int .i64 ek, .int .i64 ex] 53)));have HTa := hideIt (own_keep HRR.out.2 (below1 wr (.cells #[.int .i64 ek, .int .i64 ex] 53)));have n0 : (wr.alloc (.cells #[.int .i64 ek, .int .i64 ex] 53)).cell? ⟨wr.heap.size, 0, none⟩ = some (.int .i64 ek) := (cell_at hgr 0).trans rfl;have n1 : (wr.alloc (.cells #[.int .i64 ek, .int .i64 ex] 53)).cell? ⟨wr.heap.size, 1, none⟩ = some (.int .i64 ex) := (cell_at hgr 1).trans rfl;have nz : wr.heap.size < (wr.alloc (.cells #[.int .i64 ek, .int .i64 ex] 53)).heap.size := by simp
     have nK : wr.heap.size ≠ K := by
      have := (Array.getElem?_eq_some_iff.1 HRR.out.1.box).1;omega
     clear hgr HRR
     go_upto_region 8 with fail
     clear q0 q1;generalize hKA : wr.heap.size = KA at *;have HKA := hideIt hKA;clear hKA;generalize wr.alloc (.cells #[.int .i64 ek, .int .i64 ex] 53) = W1 at *;have hKl := (Array.getElem?_eq_some_iff.1 HXa.out.box).1
     rcases hk01 with rfl | rfl
     ·have hsh := HXa.out.sh (t := 0) (by omega);obtain ⟨s0, f0⟩ := hsh;have HPUT := hideIt ((HXa.out.setS 0 (by omega) (wr64 (s 0 + ex))).keep (Below.refl _ _).drew);have HPT := hideIt (own_keep (own_cell (j := 13 + 0) (u := .int .i64 (wr64 (s 0 + ex))) HTa.out HXa.out.box (by decide)) (Below.refl _ _).drew);have HN : Hid (addT kq (TL.drop t) s = addT kq (TL.drop (t + 1)) (Lg.upS s 0 (wr64 (s 0 + ex)))) := HSTEP.out;clear HSTEP HXa HTa;simp only [Nat.add_zero] at s0 f0 HPUT HPT
      go_upto_region 11 with fail
      go_region
      go_wp2
      go_roundw
      case rel => exact ⟨t + 1, Lg.upS s 0 (wr64 (s 0 + ex)), by go_num, by omega, hideIt ⟨by rw [← HN.out]; exact HRE.out, HPUT.out, HPT.out⟩⟩
      case measure => simp [intOf]; omega
     ·have hsh := HXa.out.sh (t := kq) (by omega);obtain ⟨s0, f0⟩ := hsh;have HPUT := hideIt ((HXa.out.setS kq (by omega) (wr64 (s kq + ex))).keep (Below.refl _ _).drew);have HPT := hideIt (own_keep (own_cell (j := 13 + kq) (u := .int .i64 (wr64 (s kq + ex))) HTa.out HXa.out.box (by decide)) (Below.refl _ _).drew);have HN : Hid (addT kq (TL.drop t) s = addT kq (TL.drop (t + 1)) (Lg.upS s kq (wr64 (s kq + ex)))) := HSTEP.out;clear HSTEP HXa HTa;have hkqI : (kq : Int) < 4 := by omega
      have hkq0 : (0 : Int) ≤ (kq : Int) := by omega
      go_upto_region 11 with fail
      go_region
      go_wp2
      go_roundw
      case rel => exact ⟨t + 1, Lg.upS s kq (wr64 (s kq + ex)), by go_num, by omega, hideIt ⟨by rw [← HN.out]; exact HRE.out, HPUT.out, HPT.out⟩⟩
      case measure => simp [intOf]; omega
    ·have hltI : ¬ (t : Int) < (TL.length : Int) := by omega
     obtain rfl : t = TL.length := by omega
     have HE := hideIt HR.out.1;have HG := hideIt HR.out.2.1;clear HR;go_wp2;go_ret;have hE := HE.out;rw [List.drop_length] at hE;have hE2 : s = addT kq TL X.s := hE;subst hE2;rw [HZ.out, HAB0.out, if_neg (by simp)];refine ⟨{X with L := XL, s := addT kq TL X.s}, rfl, ?_, rfl, rfl, by rw [← HXL.out]; simp, HG.out⟩
     rw [← HXL.out];simp only [WkX.st, List.map_set]
  ·rw [hab] at HAB
   go_wp2_with fail
   refine HAB.out.mono ?_;rintro e w6 ⟨rfl, hb⟩;dsimp only;have HX6 := hideIt (HX5.out.keep hb);clear HX5 HT HLN hb HAB HM;go_wp2;go_ret;rw [HZ.out, hab, Bool.or_true, if_pos rfl]
   exact ⟨X, rfl, rfl, rfl, rfl, rfl, HX6.out⟩
 ·have herb : (ter == 0) = false := beq_eq_false_iff_ne.2 her;have hern : (ter != 0) = true := bne_iff_ne.2 her;have hd : decide (ter ≠ 0) = true := decide_eq_true her;have HD := hideIt hd;clear her hd HT HLN HM;go_wp2;go_ret;rw [HZ.out, HD.out, Bool.true_or, if_pos rfl]
  exact ⟨X, rfl, rfl, rfl, rfl, rfl, HX5.out⟩
end Go.Proofs.YtiinigifjdpicaaGreatDoor
