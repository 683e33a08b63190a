/- Texts of my own, laid together. -/
import Derived.Test.YtiinigifjdpicaaGreatDoorMa14
namespace Go.Proofs.YtiinigifjdpicaaGreatDoor
open Go.RowKit
set_option linter.all false
set_option maxRecDepth 100000 in
set_option maxHeartbeats 4000000 in
theorem brought_is (r : ReqV) (w : World) (hp : r.side = 1 → 0 ≤ r.price ∧ r.price ≤ 1000000 ∧ 0 ≤ r.n ∧ r.n ≤ 1000000) : Calls Tryz.prog 76 #[.agg (Se.reqC r)] w fun e w' => e = .returned (.tuple #[.int .i64 (brA_ r), .int .i64 (brN_ r)]) ∧ Below w.heap.size w w' := by
 have HE : Hid (brA_ r = if r.side = 1 then 0 else r.lane) := rfl;have HN : Hid (brN_ r = if r.side = 1 then r.price * r.n else r.n) := rfl;generalize brA_ r = ea at *;generalize brN_ r = en at *;obtain ⟨k, a, l, s, d, p, n, o, ⟨kk, kn⟩, t⟩ := r;simp only at hp HE HN;unfold Se.reqC
 simp only
 have HB := hideIt (below1 w (.cells #[.int .i64 k, .int .i64 a, .int .i64 l, .int .i64 s, .int .i64 d, .int .i64 p, .int .i64 n, .bool o, .int .i64 kk, .int .i64 kn, .int .i64 t] 26));have hx := heap_alloc_new w (.cells #[.int .i64 k, .int .i64 a, .int .i64 l, .int .i64 s, .int .i64 d, .int .i64 p, .int .i64 n, .bool o, .int .i64 kk, .int .i64 kn, .int .i64 t] 26)
 by_cases hd : d = 1
 ·subst hd;have h1 := hp rfl;obtain ⟨p1, p2, n1, n2⟩ := h1;have hm : p * n ≤ 1000000 * 1000000 := Int.mul_le_mul p2 n2 n1 (by omega);have hm0 : 0 ≤ p * n := Int.mul_nonneg p1 n1;have hw : IntKind.i64.wrap (p * n) = p * n := Lg.wrap_ok (by omega) (by omega);have hea := HE.out;have hen := HN.out;rw [if_pos rfl] at hea hen;subst hea hen;clear HE HN hp hm hm0 hx
  go_enter Tryz.func76, Tryz.ntmps76
  go_upto_region 2 with fail
  go_quiet (fail)
  go_wp2;exact bodyPost_ret (v := .tuple #[.int .i64 0, .int .i64 (p * n)]) (by simp [results, Tryz.results76, go_sem]) rfl ⟨rfl, Lg.bN HB.out _⟩
 ·have hdb : (d == 1) = false := beq_eq_false_iff_ne.2 hd;have hea := HE.out;have hen := HN.out;rw [if_neg hd] at hea hen;subst hea hen;clear HE HN hp hd hx
  go_enter Tryz.func76, Tryz.ntmps76
  go_upto_region 2 with fail
  go_quiet (fail)
  go_wp2;exact bodyPost_ret (v := .tuple #[.int .i64 ea, .int .i64 en]) (by simp [results, Tryz.results76, go_sem]) rfl ⟨rfl, Lg.bN HB.out _⟩
def TurB (l : List (Int × Int)) (w : World) (e : Ending) (w' : World) : Prop := ∃ a c, e = .returned (.slice a l.length c) ∧ w'.ownsRow w.heap.size 24 2 (.slice a l.length c) l.length (Se.celC Se.keyE l) ∧ Below w.heap.size w w'
set_option maxRecDepth 100000 in
set_option maxHeartbeats 4000000 in
theorem turns_is (r : ReqV) (w : World) (hF : Se.Forms w) (hf : Se.fitsB r = true) : Calls Tryz.prog 23 #[.agg (Se.reqC r)] w (TurB (turL r) w) := by
 have HB := hideIt (below1 w (.cells (Se.reqC r) 26));have HK := hideIt (Se.keys_is r _ (hF.keep HB.out));have hl : (Se.keysB r).length ≤ 4 := by
  unfold Se.keysB Se.keyT;rw [if_pos hf]
  repeat' split
  all_goals simp
 have hx := heap_alloc_new w (.cells (Se.reqC r) 26)
 by_cases h7 : r.kind = 7
 ·have hk7 := Se.keysK7 h7 hf;have ht : turL r = [(2, 1), (2, 2), (2, 3), (1, r.acct)] := by
   unfold turL;rw [if_pos h7, hk7]
   rfl
  rw [ht];rw [hk7] at HK;clear hl hf hF ht hk7;obtain ⟨k, a, l, s, d, p, n, o, ⟨kk, kn⟩, t⟩ := r;simp only at h7;subst h7;unfold Se.reqC at *;simp only at *;unfold Se.KeyBack Se.KeyOn at HK;simp only [List.length_cons, List.length_nil, Nat.zero_add, Nat.reduceAdd] at HK;clear hx
  go_enter Tryz.func23, Tryz.ntmps23
  go_wp2_with fail
  refine HK.out.mono ?_;rintro e w1 ⟨ga, gc, rfl, hown, hb⟩;dsimp only;have ck : w1.cell? ⟨w.heap.size, 0, none⟩ = some (.int .i64 7) := (box_cell hb 0).trans rfl;have hz1 : w.heap.size < w1.heap.size := by have := hb.size; simp at this; omega
  obtain ⟨_, ⟨hv, h0⟩ | ⟨g, cap, cur, hv, hgB, hg, hnc, hcm, hs, htk⟩⟩ := id hown
  ·exact absurd h0 (by omega)
  ·simp only [Value.slice.injEq] at hv;obtain ⟨rfl, _, rfl⟩ := hv;have HG := hideIt (Se.own_sgot (enc := Se.keyE) (bytes := 16) (l := [(1, a), (2, 1), (2, 2), (2, 3)]) hown (by simp));have HBB := hideIt (below_via HB.out hb);clear hown HK hb hg hgB hs htk HB;have hc1 : gc - 1 ≤ maxLen := by omega
   obtain ⟨c', rfl⟩ : ∃ c', gc = c' + 4 := ⟨gc - 4, by omega⟩;have P1 := hideIt (Se.SGot.part Se.keyK HG.out 1 3 (c' + 3) (by simp) ⟨by omega, by omega⟩ (some ⟨g, 2, none⟩) (fun _ b off e => by simp only [Option.some.injEq, Addr.mk.injEq] at e; rw [← e.1, ← e.2.1]))
   have P2 := hideIt (Se.SGot.part Se.keyK HG.out 0 1 (c' + 4) (by simp) ⟨by omega, by omega⟩ (some ⟨g, 0, none⟩) (fun _ b off e => by simp only [Option.some.injEq, Addr.mk.injEq] at e; rw [← e.1, ← e.2.1]))
   simp only [List.drop_succ_cons, List.drop_zero, List.take_succ_cons, List.take_zero] at P1 P2;have hcI : ((c' + 4 : Nat) : Int) = (c' : Int) + 4 := by omega
   clear hnc hcm hc1;have HC : Hid (∀ W, W.heap[w1.heap.size]? = some (.cells #[.slice (some ⟨g, 2, none⟩) 3 (c' + 3), .slice (some ⟨g, 0, none⟩) 1 (c' + 4)] 48 (0, 0)) → Below w1.heap.size w1 W → Calls Tryz.prog 50 #[.slice (some ⟨w1.heap.size, 0, none⟩) 2 2] W (fun e w' => ∃ r1 r2, e = .returned (.slice r1 4 r2) ∧ Hid (w'.ownsRow w.heap.size 24 2 (.slice r1 4 r2) 4 (Se.celC Se.keyE [(2, 1), (2, 2), (2, 3), (1, a)]) ∧ Below w.heap.size w w'))) := by
    intro W hW hB;have hlt : w1.heap.size < W.heap.size := (Array.getElem?_eq_some_iff.1 hW).1;refine (Se.concat_is (.slice (some ⟨w1.heap.size, 0, none⟩) 2 2) [.slice (some ⟨g, 2, none⟩) 3 (c' + 3), .slice (some ⟨g, 0, none⟩) 1 (c' + 4)] [[(2, 1), (2, 2), (2, 3)], [(1, a)]] [(2, 1), (2, 2), (2, 3), (1, a)] rfl W ⟨rfl, some ⟨w1.heap.size, 0, none⟩, 2, rfl, ?_⟩ (by simp) (by simp)).mono ?_
    ·intro j h1 h2;refine ⟨w1.heap.size, 0, rfl, hlt, ?_, ?_⟩
     ·rw [cell_at hW]
      rcases (by simp at h1; omega : j = 0 ∨ j = 1) with rfl | rfl <;> rfl
     ·rcases (by simp at h1; omega : j = 0 ∨ j = 1) with rfl | rfl
      ·exact P1.out.keep hB
      ·exact P2.out.keep hB
    ·rintro e w' ⟨r, rfl, ho, hb⟩;obtain ⟨r1, r2, rfl⟩ := Se.own_len ho
     exact ⟨r1, r2, rfl, hideIt ⟨own_base ho (below_via HBB.out hB).size, below_via HBB.out (below_via hB hb)⟩⟩
   clear HG P1 P2 HBB;have HB1 := hideIt (below1 w1 (.cells #[.slice (some ⟨g, 2, none⟩) 3 (c' + 3), .slice (some ⟨g, 0, none⟩) 1 (c' + 4)] 48));have HN1 := hideIt (heap_alloc_new w1 (.cells #[.slice (some ⟨g, 2, none⟩) 3 (c' + 3), .slice (some ⟨g, 0, none⟩) 1 (c' + 4)] 48))
   go_upto_region 4 with fail
   go_region_with (refine (HC.out _ (by exact HN1.out) (by first | exact HB1.out.drew | exact HB1.out)).mono ?_; rintro e w5 ⟨r1, r2, rfl, HR⟩; dsimp only)
   all_goals
    go_wp2;go_ret
    exact ⟨_, _, rfl, HR.out.1, HR.out.2⟩
 ·have ht : turL r = Se.keysB r := if_neg h7;rw [ht];have h7b : (r.kind == 7) = false := beq_eq_false_iff_ne.2 h7;have HL := hideIt hl;generalize Se.keysB r = ks at *;obtain ⟨k, a, l, s, d, p, n, o, ⟨kk, kn⟩, t⟩ := r;simp only at h7b;unfold Se.reqC at *;simp only at *;unfold Se.KeyBack Se.KeyOn at HK;clear hx ht h7 hl
  go_enter Tryz.func23, Tryz.ntmps23
  go_wp2_with fail
  refine HK.out.mono ?_;rintro e w1 ⟨ga, gc, rfl, hown, hb⟩;dsimp only;have ck : w1.cell? ⟨w.heap.size, 0, none⟩ = some (.int .i64 k) := (box_cell hb 0).trans rfl;have hz1 : w.heap.size < w1.heap.size := by have := hb.size; simp at this; omega
  have HG := hideIt (own_base (B' := w.heap.size) hown HB.out.size);have HBB := hideIt (below_via HB.out hb);clear hown HK hb;go_wp2;go_ret
  exact ⟨_, _, rfl, HG.out, HBB.out⟩
theorem accX_of {X : AccV × Int} {W : World} {e : Ending} {w' : World} (hl : X.1.l.length * 16 ≤ 140737488355328) (h : Lg.AccErr X W e w') : ∃ f c, e = .returned (.tuple #[.agg #[.slice f X.1.l.length c, .int .i64 X.1.ct], .int .i64 X.2]) ∧ Hid (AccOwn W.heap.size w' ⟨X.1, f, c⟩ ∧ Below W.heap.size W w') := by
 obtain ⟨g, he, ho, hb⟩ := h;obtain ⟨f, c, rfl⟩ := own_len ho
 exact ⟨f, c, he, hideIt ⟨⟨ho, hl⟩, hb⟩⟩
def CrB (X : AccV × Int) (W : World) (e : Ending) (w' : World) : Prop := ∃ f c, e = .returned (.tuple #[.agg #[.slice f X.1.l.length c, .int .i64 X.1.ct], .int .i64 X.2]) ∧ Hid (AccOwn W.heap.size w' ⟨X.1, f, c⟩ ∧ Below W.heap.size W w')
theorem credX (l : List AmtV) (ct : Int) (fa : Option Addr) (fc : Nat) (a n : Int) (W : World) (h : Amts W (.slice fa l.length fc) l) : Calls Tryz.prog 75 #[.agg #[.slice fa l.length fc, .int .i64 ct], .int .i64 a, .int .i64 n] W (CrB (Lg.credL ⟨l, ct⟩ a n) W) :=
 (Lg.credit_is ⟨l, ct⟩ (.slice fa l.length fc) a n W h).mono (fun _ _ hh => accX_of (Lg.cred_len _ _ _) hh)
theorem debX (l : List AmtV) (ct : Int) (fa : Option Addr) (fc : Nat) (a n : Int) (W : World) (h : Amts W (.slice fa l.length fc) l) : Calls Tryz.prog 77 #[.agg #[.slice fa l.length fc, .int .i64 ct], .int .i64 a, .int .i64 n] W (CrB (Lg.debL ⟨l, ct⟩ a n) W) :=
 (Lg.debit_is ⟨l, ct⟩ (.slice fa l.length fc) a n W h).mono (fun _ _ hh => accX_of (Lg.deb_len _ _ _) hh)
def payZ (i : Nat) (S : StV) : StV × Int := if aboveB Lg.AmtV.n (accD S i).l 4503599627370496 || decide (999999900 < (accD S i).ct) then (S, 6) else ({S with a := S.a.set i (payF (Lg.pre S.s 4) (accD S i)).1, am := Lg.pre S.s 4}, (payF (Lg.pre S.s 4) (accD S i)).2)
theorem payF_step {L : List AmtV} {t : Nat} (A : AccV) (h : t < L.length) : payF (L.drop t) A = if (Lg.credL A (L[t]).k (L[t]).n).2 = 0 then payF (L.drop (t + 1)) (Lg.credL A (L[t]).k (L[t]).n).1 else (A, (Lg.credL A (L[t]).k (L[t]).n).2) := by
 rw [List.drop_eq_getElem_cons h]
 rfl
theorem WK.amts {w wx : World} {K : Nat} {X : WkX} (h : WK w K X wx) : ∀ i (hi : i < X.am.length), ∃ b off, X.fm = some ⟨b, off, none⟩ ∧ b < wx.heap.size ∧ wx.cell? ⟨b, off + i * 2, none⟩ = some (.int .i64 (X.am[i]).k) ∧ wx.cell? ⟨b, off + i * 2 + 1, none⟩ = some (.int .i64 (X.am[i]).n) := by
 intro i hi;obtain ⟨a, c, e, _, hr⟩ := SGot.amts (own_sgot h.am h.sam);simp only [Value.slice.injEq] at e;rw [e.1];exact hr i hi
set_option maxRecDepth 100000 in
set_option maxHeartbeats 16000000 in
theorem pay_is (w : World) (K i : Nat) (X : WkX) (wx : World) (h : WK w K X wx) (hi : i < X.A.length) : Calls Tryz.prog 78 #[.pointer (some ⟨K, 0, none⟩), .pointer (some ⟨X.ga, i * 2, none⟩)] wx (WkB w K X (payZ i X.st)) := by
 have HX := hideIt h;obtain ⟨⟨c0, c1⟩, cf, cz, hat⟩ := h.acc hi;have hK := (Array.getElem?_eq_some_iff.1 h.box).1;have HZ : Hid (payZ i X.st = if aboveB Lg.AmtV.n (X.A[i]).v.l 4503599627370496 || decide (999999900 < (X.A[i]).v.ct) then (X.st, 6) else ({X.st with a := X.st.a.set i (payF (Lg.pre X.s 4) (X.A[i]).v).1, am := Lg.pre X.s 4}, (payF (Lg.pre X.s 4) (X.A[i]).v).2)) := by
  show _ = _
  unfold payZ;rw [accD_at hi]
  rfl
 have HAB := hideIt (hasAbove_is _ _ 4503599627370496 wx hat);have HAM := hideIt (fun W (hW : WK w K X W) => Lg.amountsM_is K 13 X.s W (fun t ht => by
  obtain ⟨⟨d0, d1, d2, d3, d4, d5, d6, d7, d8, d9, d10, d11, d12, d13, d14, d15, d16, d17, d18, d19, d20⟩, _, _⟩ := at21 hW.box
  rcases (by omega : t = 0 ∨ t = 1 ∨ t = 2 ∨ t = 3) with rfl | rfl | rfl | rfl
  ·exact d13
  ·exact d14
  ·exact d15
  ·exact d16) (Array.getElem?_eq_some_iff.1 hW.box).1)
 have HGET : Hid (X.A[i] = X.A[i]) := rfl;clear h hat;obtain ⟨A0, hA0⟩ : ∃ A0, A0 = (X.A[i]).v := ⟨_, rfl⟩;have HA0 := hideIt hA0;rw [← hA0] at HZ HAB c0 c1;clear hA0 HGET;cases hab : aboveB Lg.AmtV.n A0.l 4503599627370496
 ·rw [hab] at HZ HAB
  by_cases hct : 999999900 < A0.ct
  ·have hz := HZ.out;rw [decide_eq_true hct] at hz;simp only [Bool.false_or, if_true] at hz;rw [hz];clear HZ hz HAM hab HA0;generalize A0.l.length = n at *;generalize A0.ct = ct at *
   go_enter Tryz.func78, Tryz.ntmps78
   go_wp2_with fail
   refine HAB.out.mono ?_;rintro e w1 ⟨rfl, hb⟩;dsimp only;have c1' := (hb.cell (p := ⟨X.ga, i * 2 + 1, none⟩) cz).trans c1;have cz' : X.ga < w1.heap.size := Nat.lt_of_lt_of_le cz hb.size;have HX1 := hideIt (HX.out.keep hb);clear hb HX HAB c0 c1 cf cz;go_wp2;go_ret
   exact ⟨X, rfl, rfl, rfl, rfl, rfl, HX1.out⟩
  ·have hz := HZ.out;have hctd : decide (999999900 < A0.ct) = false := decide_eq_false hct;rw [hctd] at hz;simp only [Bool.or_self, Bool.false_eq_true, if_false] at hz;rw [hz];clear HZ hz hab hctd;have hctI : A0.ct ≤ 999999900 := by omega
   have HL0 : Hid (X.A[i] = X.A[i]) := rfl
   go_enter Tryz.func78, Tryz.ntmps78
   go_wp2_with fail
   refine HAB.out.mono ?_;rintro e w1 ⟨rfl, hb⟩;dsimp only;have c1' := (hb.cell (p := ⟨X.ga, i * 2 + 1, none⟩) cz).trans c1;have cz' : X.ga < w1.heap.size := Nat.lt_of_lt_of_le cz hb.size;have HX1 := hideIt (HX.out.keep hb);have hK1 : K < w1.heap.size := Nat.lt_of_lt_of_le hK hb.size;clear hb HX HAB c0 c1 cf cz hct HL0
   go_wp2_with fail
   refine (HAM.out _ HX1.out).mono ?_;rintro e w2 ⟨g, rfl, hm⟩;dsimp only;obtain ⟨fm, cm, rfl⟩ := own_len hm.own;have hK2 : K < w2.heap.size := Nat.lt_of_lt_of_le hK1 hm.bel.size;have HX2 := hideIt (HX1.out.keep hm.bel);obtain ⟨⟨-, -, -, -, -, -, -, -, -, -, -, -, -, -, -, -, -, -, -, d19, -⟩, df, dz⟩ := at21 HX2.out.box;have hpl : (Lg.pre X.s 4).length ≤ 4 := Lg.pre_len _ _;have HX3 := hideIt (HX2.out.setAm fm cm (Lg.pre X.s 4) (own_base hm.own HX1.out.bel.size) (by omega));clear HX1 HX2 hm c1' cz' HAM;obtain ⟨PL, hPL⟩ : ∃ PL, PL = Lg.pre X.s 4 := ⟨_, rfl⟩;rw [← hPL] at hpl HX3 ⊢;have HPL := hideIt hPL;clear hPL
   go_upto_region 4 with fail
   clear d19 df dz;generalize w2.setCell ⟨K, 19, none⟩ (.slice fm PL.length cm) = w3 at *;obtain ⟨⟨-, -, -, -, -, -, -, -, -, -, -, -, -, -, -, -, -, -, -, d19, -⟩, df, dz⟩ := at21 HX3.out.box;simp only at d19;have HS : Hid (payF (PL.drop 0) A0 = payF PL A0 ∧ WK w K {X with fm := fm, cm := cm, am := PL, A := X.A.set i X.A[i]} w3 ∧ (X.A[i]).v = A0) := by
    refine ⟨by rw [List.drop_zero], ?_, HA0.out.symm⟩;rw [List.set_getElem_self];exact HX3.out
   go_upto_region 5 with fail
   clear d19 df dz HX3 hK1 hK2 hK
   go_loopw [35] (fun v wr => ∃ (t : Nat) (x : AccX), v = .int .i64 t ∧ t ≤ PL.length ∧ Hid (payF (PL.drop t) x.v = payF PL A0 ∧ WK w K {X with fm := fm, cm := cm, am := PL, A := X.A.set i x} wr)) (fun v _ => PL.length - (intOf v).toNat)
   case atStart => exact ⟨0, X.A[i], rfl, Nat.zero_le _, hideIt ⟨by rw [HS.out.2.2]; exact HS.out.1, HS.out.2.1⟩⟩
   case round =>
    clear HS;obtain ⟨t, x, rfl, ht, HR⟩ := hrel
    by_cases hlt : t < PL.length
    ·have hltI : (t : Int) < (PL.length : Int) := by omega
     have ht0 : (0 : Int) ≤ (t : Int) := by omega
     obtain ⟨b, off, hfm, hbl, q0, q1⟩ := HR.out.2.amts t hlt;simp only at hfm q0 q1;subst hfm;have HSTEP := hideIt (payF_step x.v hlt);have HRR := hideIt HR.out.2;have HRE := hideIt HR.out.1;clear HR;generalize PL[t] = en at *;obtain ⟨ek, ex⟩ := en;simp only at q0 q1 HSTEP;have hgr := heap_alloc_new wr (.cells #[.int .i64 ek, .int .i64 ex] 53);have HXa := hideIt (HRR.out.keep (below1 wr (.cells #[.int .i64 ek, .int .i64 ex] 53)));have n0 : (wr.alloc (.cells #[.int .i64 ek, .int .i64 ex] 53)).cell? ⟨wr.heap.size, 0, none⟩ = some (.int .i64 ek) := (cell_at hgr 0).trans rfl;have n1 : (wr.alloc (.cells #[.int .i64 ek, .int .i64 ex] 53)).cell? ⟨wr.heap.size, 1, none⟩ = some (.int .i64 ex) := (cell_at hgr 1).trans rfl;have nz : wr.heap.size < (wr.alloc (.cells #[.int .i64 ek, .int .i64 ex] 53)).heap.size := by simp
     clear hgr HRR
     go_upto_region 7 with fail
     clear q0 q1;generalize hKA : wr.heap.size = KA at *;have HKA := hideIt hKA;clear hKA;generalize wr.alloc (.cells #[.int .i64 ek, .int .i64 ex] 53) = W1 at *;have hacc := HXa.out.acc (i := i) (by simp only [List.length_set]; exact hi)
     simp only [List.getElem_set_self] at hacc;obtain ⟨⟨a0, a1⟩, af, az, hat⟩ := hacc;obtain ⟨⟨al, act⟩, xa, xc⟩ := x;simp only at a0 a1 hat HSTEP;have HC : Hid (∀ W, Below W1.heap.size W1 W → Calls Tryz.prog 75 #[.agg #[.slice xa al.length xc, .int .i64 act], .int .i64 ek, .int .i64 ex] W (fun e w' => ∃ f c, e = .returned (.tuple #[.agg #[.slice f (Lg.credL ⟨al, act⟩ ek ex).1.l.length c, .int .i64 (Lg.credL ⟨al, act⟩ ek ex).1.ct], .int .i64 (Lg.credL ⟨al, act⟩ ek ex).2]) ∧ Hid (AccOwn W1.heap.size w' ⟨(Lg.credL ⟨al, act⟩ ek ex).1, f, c⟩ ∧ Below W1.heap.size W1 w' ∧ Below W.heap.size W w'))) := by
      intro W hW;refine (credX al act xa xc ek ex W (SGot.keep hat hW)).mono ?_;rintro e w' ⟨f, c, rfl, ho⟩
      exact ⟨f, c, rfl, hideIt ⟨ho.out.1.base hW.size, below_via hW ho.out.2, ho.out.2⟩⟩
     generalize Lg.credL ⟨al, act⟩ ek ex = CR at *;obtain ⟨⟨cl, cct⟩, cer⟩ := CR;simp only at HC HSTEP;clear hat;have HFA : Hid (∀ W, Below W1.heap.size W1 W → W.cell? ⟨X.ga, i * 2, none⟩ = some (.slice xa al.length xc) ∧ W.cell? ⟨X.ga, i * 2 + 1, none⟩ = some (.int .i64 act) ∧ W.cell? ⟨KA, 0, none⟩ = some (.int .i64 ek) ∧ W.cell? ⟨KA, 1, none⟩ = some (.int .i64 ex)) := fun W hW => ⟨(hW.cell (p := ⟨X.ga, i * 2, none⟩) az).trans a0, (hW.cell (p := ⟨X.ga, i * 2 + 1, none⟩) az).trans a1, (hW.cell (p := ⟨KA, 0, none⟩) nz).trans n0, (hW.cell (p := ⟨KA, 1, none⟩) nz).trans n1⟩
     have HCY : Hid (∀ W, Below W1.heap.size W1 W → Calls Tryz.prog 75 #[.agg #[.slice xa al.length xc, .int .i64 act], .int .i64 ek, .int .i64 ex] W (fun e w' => ∃ f c, e = .returned (.tuple #[.agg #[.slice f cl.length c, .int .i64 cct], .int .i64 cer]) ∧ Hid (AccOwn W1.heap.size w' ⟨⟨cl, cct⟩, f, c⟩ ∧ Below W1.heap.size W1 w' ∧ Below W.heap.size W w') ∧ (w'.cell? ⟨X.ga, i * 2, none⟩ = some (.slice xa al.length xc) ∧ w'.cell? ⟨X.ga, i * 2 + 1, none⟩ = some (.int .i64 act) ∧ w'.cell? ⟨KA, 0, none⟩ = some (.int .i64 ek) ∧ w'.cell? ⟨KA, 1, none⟩ = some (.int .i64 ex)))) := by
      intro W hW;refine (HC.out W hW).mono ?_;rintro e w' ⟨f, c, rfl, ho⟩
      exact ⟨f, c, rfl, ho, HFA.out w' ho.out.2.1⟩
     clear HC;have NA : ∀ x, (W1.alloc x).cell? ⟨X.ga, i * 2, none⟩ = some (.slice xa al.length xc) ∧ (W1.alloc x).cell? ⟨X.ga, i * 2 + 1, none⟩ = some (.int .i64 act) ∧ (W1.alloc x).cell? ⟨KA, 0, none⟩ = some (.int .i64 ek) ∧ (W1.alloc x).cell? ⟨KA, 1, none⟩ = some (.int .i64 ex) := fun x => HFA.out _ (below1 W1 x)
     have ZF : Hid (∀ w', Below (W1.alloc (.cells #[.slice none 0 0, .int .i64 0] 44)).heap.size (W1.alloc (.cells #[.slice none 0 0, .int .i64 0] 44)) w' → (w'.cell? ⟨W1.heap.size, 0, none⟩ = some (.slice none 0 0) ∧ w'.cell? ⟨W1.heap.size, 1, none⟩ = some (.int .i64 0)) ∧ (∀ j, w'.frozen? ⟨W1.heap.size, j, none⟩ = false) ∧ W1.heap.size < w'.heap.size) := by
      intro w' hb;exact at2 ((hb.block W1.heap.size (by simp)).trans (heap_alloc_new W1 _))
     have y1 : W1.heap.size ≠ X.ga := by omega
     have y2 : W1.heap.size ≠ KA := by omega
     have y3 : X.ga ≠ W1.heap.size := by omega
     have y4 : KA ≠ W1.heap.size := by omega
     go_cut [7, 8] from 39 to 49 (fun x y wx => ∃ km f c, x = .pointer (some ⟨km, 0, none⟩) ∧ y = .int .i64 cer ∧ Hid (wx.heap[km]? = some (.cells #[.slice f cl.length c, .int .i64 cct] 44 (0, 0)) ∧ AccOwn W1.heap.size wx ⟨⟨cl, cct⟩, f, c⟩ ∧ Below W1.heap.size W1 wx))
     case first =>
      clear HFA HSTEP HXa HRE HPL HA0 HKA
      go_region_held3 (fun W => W.cell? ⟨X.ga, i * 2, none⟩ = some (.slice xa al.length xc) ∧ W.cell? ⟨X.ga, i * 2 + 1, none⟩ = some (.int .i64 act) ∧ W.cell? ⟨KA, 0, none⟩ = some (.int .i64 ek) ∧ W.cell? ⟨KA, 1, none⟩ = some (.int .i64 ex)) (go_keep) (first | (go_at_call 75; refine (HCY.out (W1.alloc (.cells #[.slice none 0 0, .int .i64 0] 44)).drew (below1 _ _).drew).mono ?_; rintro e w5 ⟨f, c, rfl, HQ, ⟨i0, i1, i2, i3⟩⟩; obtain ⟨⟨m0, m1⟩, mf, mz⟩ := ZF.out w5 (below_via (Below.refl _ _).drew HQ.out.2.2)) | (go_at_call 75; refine (HCY.out W1.drew (Below.refl _ _).drew).mono ?_; rintro e w5 ⟨f, c, rfl, HQ, ⟨i0, i1, i2, i3⟩⟩))
      all_goals go_wp2_with fail
      all_goals go_meet
      ·exact ⟨w5.heap.size, f, c, rfl, rfl, hideIt ⟨heap_alloc_new w5 _, HQ.out.1.keep (below1 w5 _), below_via HQ.out.2.1 (below1 w5 _)⟩⟩
      ·have hz := (HQ.out.2.2.block W1.heap.size (show W1.heap.size < (W1.alloc (.cells #[.slice none 0 0, .int .i64 0] 44)).heap.size by simp)).trans (heap_alloc_new W1 _);have hp2 := puts2 w5 W1.heap.size 44 (.slice f cl.length c) (.int .i64 cct) hz
       exact ⟨W1.heap.size, f, c, rfl, rfl, hideIt ⟨hp2.1, (HQ.out.1.set hz (by decide)).set (heap_set hz 0 _) (by decide), belowSet _ (belowSet _ HQ.out.2.1 (Nat.le_refl _)) (Nat.le_refl _)⟩⟩
     case rest =>
     obtain ⟨km, f, c, rfl, rfl, HM⟩ := hcut;clear HCY NA ZF y1 y2 y3 y4 n0 n1 nz a0 a1 af az;have HX5 := hideIt (HXa.out.keep HM.out.2.2);have hB5 : w.heap.size ≤ W1.heap.size := HXa.out.bel.size;have hacc := HX5.out.acc (i := i) (by simp only [List.length_set]; exact hi)
     simp only [List.getElem_set_self] at hacc;obtain ⟨⟨a0, a1⟩, af, az, -⟩ := hacc;have HPUT := hideIt (HX5.out.putA (i := i) (by simp only [List.length_set]; exact hi) ⟨⟨cl, cct⟩, f, c⟩ (HM.out.2.1.base hB5))
     simp only [List.set_set] at HPUT;obtain ⟨⟨m0, m1⟩, -, mz⟩ := at2 HM.out.1;clear HM HXa;have ge := HSTEP.out
     by_cases her : cer = 0
     ·rw [if_pos her] at ge;have HN := hideIt ge;have herb : (cer == 0) = true := beq_iff_eq.2 her;clear ge HSTEP HX5 her;go_wp2
      revert HPUT
      generalize (World.setCell _ ⟨X.ga, i * 2 + 1, none⟩ _) = WF;intro HPUT
      go_roundw
      case rel => exact ⟨t + 1, ⟨⟨cl, cct⟩, f, c⟩, by go_num, by omega, hideIt ⟨by rw [← HN.out]; exact HRE.out, HPUT.out⟩⟩
      case measure => simp [intOf]; omega
     ·rw [if_neg her] at ge;have HN := hideIt ge;have herb : (cer == 0) = false := beq_eq_false_iff_ne.2 her;clear ge HSTEP HPUT her;go_wp2;go_ret;have hE := HRE.out;rw [HN.out] at hE;rw [← HPL.out, ← hE]
      exact ⟨{X with fm := some ⟨b, off, none⟩, cm := cm, am := PL, A := X.A.set i ⟨⟨al, act⟩, xa, xc⟩}, rfl, by simp only [WkX.st, List.map_set], rfl, by simp, rfl, HX5.out⟩
    ·have hltI : ¬ (t : Int) < (PL.length : Int) := by omega
     obtain rfl : t = PL.length := by omega
     have HE := hideIt HR.out.1;have HG := hideIt HR.out.2;clear HR;go_wp2;go_ret;have hE := HE.out;rw [List.drop_length] at hE;rw [← HPL.out, ← hE]
     exact ⟨{X with fm := fm, cm := cm, am := PL, A := X.A.set i x}, rfl, by simp only [WkX.st, List.map_set]; rfl, rfl, by simp, rfl, HG.out⟩
 ·rw [hab] at HZ HAB;have hz := HZ.out;simp only [Bool.true_or, if_true] at hz;rw [hz];clear HZ hz HAM hab HA0;generalize A0.l.length = n at *;generalize A0.ct = ct at *
  go_enter Tryz.func78, Tryz.ntmps78
  go_wp2_with fail
  refine HAB.out.mono ?_;rintro e w1 ⟨rfl, hb⟩;dsimp only;have HX1 := hideIt (HX.out.keep hb);clear hb HX HAB c0 c1 cf cz;go_wp2;go_ret
  exact ⟨X, rfl, rfl, rfl, rfl, rfl, HX1.out⟩
set_option maxRecDepth 100000 in
set_option maxHeartbeats 16000000 in
theorem doAcc1 (w : World) (K i : Nat) (X : WkX) (wx : World) (h : WK w K X wx) (hi : i < X.A.length) (hk : X.r.kind = 1) : Calls Tryz.prog 51 #[.pointer (some ⟨K, 0, none⟩), .pointer (some ⟨X.ga, i * 2, none⟩)] wx (WkB w K X ({X.st with a := X.st.a.set i (Lg.credL (accD X.st i) X.r.asset X.r.n).1}, (Lg.credL (accD X.st i) X.r.asset X.r.n).2)) := by
 rw [accD_at hi];have HX := hideIt h;obtain ⟨⟨-, -, d2, -, -, d5, -, -, d8, -, -, -, -, -, -, -, -, -, -, -, -⟩, df, dz⟩ := at21 h.box;rw [hk] at d2;clear h
 go_enter Tryz.func51, Tryz.ntmps51
 go_upto_region 1 with fail
 go_quiet (fail)
 have HX1 := hideIt (HX.out.drewN nq);clear HX d2 d5 d8 df dz;generalize wx.drewN nq = W1 at *;obtain ⟨⟨-, -, d2, -, -, d5, -, -, d8, -, -, -, -, -, -, -, -, -, -, -, -⟩, df, dz⟩ := at21 HX1.out.box;rw [hk] at d2;obtain ⟨⟨c0, c1⟩, cf, cz, hat⟩ := HX1.out.acc hi;have HC := hideIt (fun W (hW : Below W1.heap.size W1 W) => credX (X.A[i]).v.l (X.A[i]).v.ct (X.A[i]).fa (X.A[i]).fc X.r.asset X.r.n W (SGot.keep hat hW));have HC := hideIt (HC.out W1 (Below.refl _ _));unfold CrB at HC
 go_wp2_with fail
 refine HC.out.mono ?_;rintro e w2 ⟨f, c, rfl, ho⟩;dsimp only;have HX2 := hideIt (HX1.out.keep ho.out.2);have hB := HX1.out.bel.size;obtain ⟨⟨e0, e1⟩, ef, ez, -⟩ := HX2.out.acc hi;have HP := hideIt (HX2.out.putA hi ⟨(Lg.credL (X.A[i]).v X.r.asset X.r.n).1, f, c⟩ (ho.out.1.base hB));clear ho HX1 HX2 c0 c1 cf cz hat HC;go_wp2;go_ret
 exact ⟨{X with A := X.A.set i ⟨(Lg.credL (X.A[i]).v X.r.asset X.r.n).1, f, c⟩}, rfl, st_setA, rfl, by simp, rfl, HP.out⟩
set_option maxRecDepth 100000 in
set_option maxHeartbeats 16000000 in
theorem doAcc2 (w : World) (K i : Nat) (X : WkX) (wx : World) (h : WK w K X wx) (hi : i < X.A.length) (hk : X.r.kind = 2) : Calls Tryz.prog 51 #[.pointer (some ⟨K, 0, none⟩), .pointer (some ⟨X.ga, i * 2, none⟩)] wx (WkB w K X ({X.st with a := X.st.a.set i (Lg.debL (accD X.st i) X.r.asset X.r.n).1}, (Lg.debL (accD X.st i) X.r.asset X.r.n).2)) := by
 rw [accD_at hi];have HX := hideIt h;obtain ⟨⟨-, -, d2, -, -, d5, -, -, d8, -, -, -, -, -, -, -, -, -, -, -, -⟩, df, dz⟩ := at21 h.box;rw [hk] at d2;clear h
 go_enter Tryz.func51, Tryz.ntmps51
 go_upto_region 1 with fail
 go_quiet (fail)
 have HX1 := hideIt (HX.out.drewN nq);clear HX d2 d5 d8 df dz;generalize wx.drewN nq = W1 at *;obtain ⟨⟨-, -, d2, -, -, d5, -, -, d8, -, -, -, -, -, -, -, -, -, -, -, -⟩, df, dz⟩ := at21 HX1.out.box;rw [hk] at d2;obtain ⟨⟨c0, c1⟩, cf, cz, hat⟩ := HX1.out.acc hi;have HC := hideIt (fun W (hW : Below W1.heap.size W1 W) => debX (X.A[i]).v.l (X.A[i]).v.ct (X.A[i]).fa (X.A[i]).fc X.r.asset X.r.n W (SGot.keep hat hW));have HC := hideIt (HC.out W1 (Below.refl _ _));unfold CrB at HC
 go_wp2_with fail
 refine HC.out.mono ?_;rintro e w2 ⟨f, c, rfl, ho⟩;dsimp only;have HX2 := hideIt (HX1.out.keep ho.out.2);have hB := HX1.out.bel.size;obtain ⟨⟨e0, e1⟩, ef, ez, -⟩ := HX2.out.acc hi;have HP := hideIt (HX2.out.putA hi ⟨(Lg.debL (X.A[i]).v X.r.asset X.r.n).1, f, c⟩ (ho.out.1.base hB));clear ho HX1 HX2 c0 c1 cf cz hat HC;go_wp2;go_ret
 exact ⟨{X with A := X.A.set i ⟨(Lg.debL (X.A[i]).v X.r.asset X.r.n).1, f, c⟩}, rfl, st_setA, rfl, by simp, rfl, HP.out⟩
set_option maxRecDepth 100000 in
set_option maxHeartbeats 16000000 in
theorem doAcc3 (w : World) (K i : Nat) (X : WkX) (wx : World) (h : WK w K X wx) (hi : i < X.A.length) (hk : X.r.kind = 3) (hp : X.r.side = 1 → 0 ≤ X.r.price ∧ X.r.price ≤ 1000000 ∧ 0 ≤ X.r.n ∧ X.r.n ≤ 1000000) : Calls Tryz.prog 51 #[.pointer (some ⟨K, 0, none⟩), .pointer (some ⟨X.ga, i * 2, none⟩)] wx (WkB w K X ({X.st with a := X.st.a.set i (Lg.debL (accD X.st i) (brA_ X.r) (brN_ X.r)).1}, (Lg.debL (accD X.st i) (brA_ X.r) (brN_ X.r)).2)) := by
 rw [accD_at hi];have HX := hideIt h;obtain ⟨⟨-, -, d2, -, -, d5, -, -, d8, -, -, -, -, -, -, -, -, -, -, -, -⟩, df, dz⟩ := at21 h.box;rw [hk] at d2;clear h
 go_enter Tryz.func51, Tryz.ntmps51
 go_upto_region 1 with fail
 go_quiet (fail)
 have HX1 := hideIt (HX.out.drewN nq);clear HX d2 d5 d8 df dz;generalize wx.drewN nq = W1 at *;obtain ⟨⟨-, -, d2, -, -, d5, -, -, d8, -, -, -, -, -, -, -, -, -, -, -, -⟩, df, dz⟩ := at21 HX1.out.box;rw [hk] at d2;obtain ⟨⟨c0, c1⟩, cf, cz, hat⟩ := HX1.out.acc hi;have HBR := hideIt (brought_is X.r W1 hp);unfold Se.reqC at HBR;rw [hk] at HBR;obtain ⟨⟨-, -, -, g3, g4, g5, g6, g7, g8, g9, g10, g11, g12, -, -, -, -, -, -, -, -⟩, -, -⟩ := at21 HX1.out.box;have HAT := hideIt hat
 go_wp2_with fail
 refine HBR.out.mono ?_;rintro e w4 ⟨rfl, hb4⟩;dsimp only;have hat := SGot.keep HAT.out hb4;have HX1 := hideIt (HX1.out.keep hb4);clear c0 c1 cf cz HAT g3 g4 g5 g6 g7 g8 g9 g10 g11 g12 d2 d5 d8 df dz HBR;obtain ⟨⟨c0, c1⟩, cf, cz, -⟩ := HX1.out.acc hi;clear hb4;have HC := hideIt (fun W (hW : Below w4.heap.size w4 W) => debX (X.A[i]).v.l (X.A[i]).v.ct (X.A[i]).fa (X.A[i]).fc (brA_ X.r) (brN_ X.r) W (SGot.keep hat hW));have HC := hideIt (HC.out w4 (Below.refl _ _));unfold CrB at HC
 go_wp2_with fail
 refine HC.out.mono ?_;rintro e w2 ⟨f, c, rfl, ho⟩;dsimp only;have HX2 := hideIt (HX1.out.keep ho.out.2);have hB := HX1.out.bel.size;obtain ⟨⟨e0, e1⟩, ef, ez, -⟩ := HX2.out.acc hi;have HP := hideIt (HX2.out.putA hi ⟨(Lg.debL (X.A[i]).v (brA_ X.r) (brN_ X.r)).1, f, c⟩ (ho.out.1.base hB));clear ho HX1 HX2 c0 c1 cf cz hat HC;go_wp2;go_ret
 exact ⟨{X with A := X.A.set i ⟨(Lg.debL (X.A[i]).v (brA_ X.r) (brN_ X.r)).1, f, c⟩}, rfl, st_setA, rfl, by simp, rfl, HP.out⟩
set_option maxRecDepth 100000 in
set_option maxHeartbeats 16000000 in
theorem doAcc7 (w : World) (K i : Nat) (X : WkX) (wx : World) (h : WK w K X wx) (hi : i < X.A.length) (hk : X.r.kind = 7) : Calls Tryz.prog 51 #[.pointer (some ⟨K, 0, none⟩), .pointer (some ⟨X.ga, i * 2, none⟩)] wx (WkB w K X (payZ i X.st)) := by
 have HX := hideIt h;obtain ⟨⟨-, -, d2, -, -, d5, -, -, d8, -, -, -, -, -, -, -, -, -, -, -, -⟩, df, dz⟩ := at21 h.box;rw [hk] at d2;clear h
 go_enter Tryz.func51, Tryz.ntmps51
 go_upto_region 1 with fail
 go_quiet (fail)
 have HX1 := hideIt (HX.out.drewN nq);clear HX d2 d5 d8 df dz;generalize wx.drewN nq = W1 at *;obtain ⟨⟨-, -, d2, -, -, d5, -, -, d8, -, -, -, -, -, -, -, -, -, -, -, -⟩, df, dz⟩ := at21 HX1.out.box;rw [hk] at d2;obtain ⟨⟨c0, c1⟩, cf, cz, hat⟩ := HX1.out.acc hi;have HC := hideIt (pay_is w K i X W1 HX1.out hi);clear c0 c1 cf cz hat;unfold WkB at HC
 go_wp2_with fail
 refine HC.out.mono ?_;rintro e w2 ⟨X2, rfl, q1, q2, q3, q4, hx⟩;dsimp only;have HQ := hideIt (And.intro q1 (And.intro q2 (And.intro q3 (And.intro q4 hx))));clear HC HX1 q1 q2 q3 q4 hx;go_wp2;go_ret
 exact ⟨X2, rfl, HQ.out⟩
set_option maxRecDepth 100000 in
set_option maxHeartbeats 16000000 in
theorem doAcc8 (w : World) (K i : Nat) (X : WkX) (wx : World) (h : WK w K X wx) (hi : i < X.A.length) (hk : X.r.kind = 8) : Calls Tryz.prog 51 #[.pointer (some ⟨K, 0, none⟩), .pointer (some ⟨X.ga, i * 2, none⟩)] wx (WkB w K X ({X.st with am := (accD X.st i).l}, 0)) := by
 rw [accD_at hi];have HX := hideIt h;obtain ⟨⟨-, -, d2, -, -, d5, -, -, d8, -, -, -, -, -, -, -, -, -, -, -, -⟩, df, dz⟩ := at21 h.box;rw [hk] at d2;clear h
 go_enter Tryz.func51, Tryz.ntmps51
 go_upto_region 1 with fail
 go_quiet (fail)
 have HX1 := hideIt (HX.out.drewN nq);clear HX d2 d5 d8 df dz;generalize wx.drewN nq = W1 at *;obtain ⟨⟨-, -, d2, -, -, d5, -, -, d8, -, -, -, -, -, -, -, -, -, -, -, -⟩, df, dz⟩ := at21 HX1.out.box;rw [hk] at d2;obtain ⟨⟨c0, c1⟩, cf, cz, hat⟩ := HX1.out.acc hi;have HC := hideIt (cloneA_is _ _ W1 hat);have hsz := hat.1;clear hat
 go_wp2_with fail
 refine HC.out.mono ?_;rintro e w2 ⟨f, c, rfl, ho, hb⟩;dsimp only;have HX2 := hideIt (HX1.out.keep hb);have HP := hideIt (HX2.out.setAm f c (X.A[i]).v.l (own_base ho HX1.out.bel.size) hsz);clear HC HX1 ho hb c0 c1 cf cz d2 d5 d8 df dz;obtain ⟨⟨-, -, -, -, -, -, -, -, -, -, -, -, -, -, -, -, -, -, -, d19, -⟩, df, dz⟩ := at21 HX2.out.box;clear HX2;go_wp2;go_ret
 exact ⟨{X with fm := f, cm := c, am := (X.A[i]).v.l}, rfl, rfl, rfl, rfl, rfl, HP.out⟩
set_option maxRecDepth 100000 in
set_option maxHeartbeats 16000000 in
theorem doAccO (w : World) (K i : Nat) (X : WkX) (wx : World) (h : WK w K X wx) (hi : i < X.A.length) (h1 : X.r.kind ≠ 1) (h2 : X.r.kind ≠ 2) (h3 : X.r.kind ≠ 3) (h7 : X.r.kind ≠ 7) (h8 : X.r.kind ≠ 8) : Calls Tryz.prog 51 #[.pointer (some ⟨K, 0, none⟩), .pointer (some ⟨X.ga, i * 2, none⟩)] wx (WkB w K X (X.st, 0)) := by
 have b1 : (X.r.kind == 1) = false := beq_eq_false_iff_ne.2 h1;have b2 : (X.r.kind == 2) = false := beq_eq_false_iff_ne.2 h2;have b3 : (X.r.kind == 3) = false := beq_eq_false_iff_ne.2 h3;have b7 : (X.r.kind == 7) = false := beq_eq_false_iff_ne.2 h7;have b8 : (X.r.kind == 8) = false := beq_eq_false_iff_ne.2 h8;clear h1 h2 h3 h7 h8;have hk : X.r.kind = X.r.kind := rfl;have HX := hideIt h;obtain ⟨⟨-, -, d2, -, -, d5, -, -, d8, -, -, -, -, -, -, -, -, -, -, -, -⟩, df, dz⟩ := at21 h.box;rw [hk] at d2;clear h
 go_enter Tryz.func51, Tryz.ntmps51
 go_upto_region 1 with fail
 go_quiet (fail)
 have HX1 := hideIt (HX.out.drewN nq);clear HX d2 d5 d8 df dz;generalize wx.drewN nq = W1 at *;obtain ⟨⟨-, -, d2, -, -, d5, -, -, d8, -, -, -, -, -, -, -, -, -, -, -, -⟩, df, dz⟩ := at21 HX1.out.box;rw [hk] at d2;obtain ⟨⟨c0, c1⟩, cf, cz, hat⟩ := HX1.out.acc hi;clear c0 c1 cf cz hat;go_wp2;go_ret
 exact ⟨X, rfl, rfl, rfl, rfl, rfl, HX1.out⟩
theorem doAcc_is (w : World) (K i : Nat) (X : WkX) (wx : World) (h : WK w K X wx) (hi : i < X.A.length) (hf : Se.fitsB X.r = true) : Calls Tryz.prog 51 #[.pointer (some ⟨K, 0, none⟩), .pointer (some ⟨X.ga, i * 2, none⟩)] wx (WkB w K X (stAcc X.r i X.st)) := by
 unfold stAcc
 by_cases h1 : X.r.kind = 1
 ·rw [if_pos h1];exact doAcc1 w K i X wx h hi h1
 ·rw [if_neg h1]
  by_cases h3 : X.r.kind = 3
  ·rw [if_pos h3];exact doAcc3 w K i X wx h hi h3 (fun _ => by have := (Se.fitF3 h3).1 hf; omega)
  ·rw [if_neg h3]
   by_cases h2 : X.r.kind = 2
   ·rw [if_pos h2];exact doAcc2 w K i X wx h hi h2
   ·rw [if_neg h2]
    by_cases h7 : X.r.kind = 7
    ·rw [if_pos h7];exact doAcc7 w K i X wx h hi h7
    ·rw [if_neg h7]
     by_cases h8 : X.r.kind = 8
     ·rw [if_pos h8];exact doAcc8 w K i X wx h hi h8
     ·rw [if_neg h8];exact doAccO w K i X wx h hi h1 h2 h3 h7 h8
def toT (e : AmV) : AmtV := ⟨e.asset, e.n⟩
theorem am_cells (l : List AmV) : celC amtE (l.map toT) = celC amE l := by
 simp only [celC, List.map_map]
 rfl
theorem am_conv {w : World} {v : Value} {l : List AmV} (h : SGot 2 16 amE w v l) : Amts w v (l.map toT) := by
 unfold Amts SGot at *;rw [List.length_map, am_cells];exact h
theorem above_conv (l : List AmV) (m : Int) : aboveB Lg.AmtV.n (l.map toT) m = aboveB AmV.n l m := by
 unfold aboveB;rw [List.any_map]
 rfl
theorem WK.sh {w wx : World} {K t : Nat} {X : WkX} (h : WK w K X wx) (ht : t < 4) : wx.cell? ⟨K, 13 + t, none⟩ = some (.int .i64 (X.s t)) ∧ wx.frozen? ⟨K, 13 + t, none⟩ = false := by
 obtain ⟨⟨d0, d1, d2, d3, d4, d5, d6, d7, d8, d9, d10, d11, d12, d13, d14, d15, d16, d17, d18, d19, d20⟩, df, _⟩ := at21 h.box;refine ⟨?_, df _⟩
 rcases (by omega : t = 0 ∨ t = 1 ∨ t = 2 ∨ t = 3) with rfl | rfl | rfl | rfl
 ·exact d13
 ·exact d14
 ·exact d15
 ·exact d16
theorem tak_sml (L : LaneV) (acc : Int) (h : Sml L) : Sml (takR L acc).1 := by
 unfold takR
 split
 ·exact sml_zero
 ·split
  ·exact sml_zero
  ·exact ⟨h.1, h.2.1, Nat.le_trans (lefA_len _ _) h.2.2⟩
theorem tak_len (L : LaneV) (acc : Int) (h : Sml L) : (takR L acc).2.1.length ≤ 40 := by
 unfold takR
 split
 ·simp
 ·split
  ·simp
  ·exact Nat.le_trans (takA_len _ _) h.2.2
theorem lnb_of {M : LaneV} {W w' : World} {b a o : Value} (hs : Sml M) (hb : w'.ownsRow W.heap.size 115 4 b M.bids.length (celC ordE M.bids)) (ha : w'.ownsRow W.heap.size 115 4 a M.asks.length (celC ordE M.asks)) (ho : w'.ownsRow W.heap.size 61 3 o M.owed.length (celC oweE M.owed)) : ∃ b1 b2 a1 a2 o1 o2, b = .slice b1 M.bids.length b2 ∧ a = .slice a1 M.asks.length a2 ∧ o = .slice o1 M.owed.length o2 ∧ LanOwn W.heap.size w' ⟨M, b1, b2, a1, a2, o1, o2⟩ := by
 obtain ⟨b1, b2, rfl⟩ := own_len hb;obtain ⟨a1, a2, rfl⟩ := own_len ha;obtain ⟨o1, o2, rfl⟩ := own_len ho
 exact ⟨b1, b2, a1, a2, o1, o2, rfl, rfl, rfl, ⟨hb, ha, ho, by have := hs.1; simp only; omega, by have := hs.2.1; simp only; omega, by have := hs.2.2; simp only; omega⟩⟩
theorem takeX (L : LaneV) (acc : Int) (b a o : Value) (W : World) (hs : Sml L) (h : Lan W L b a o) : Calls Tryz.prog 126 #[.agg #[.bool L.call, .int .i64 L.next, b, a, o], .int .i64 acc] W fun e w' => ∃ b1 b2 a1 a2 o1 o2 u1 u2, e = .returned (.tuple #[.agg #[.bool (takR L acc).1.call, .int .i64 (takR L acc).1.next, .slice b1 (takR L acc).1.bids.length b2, .slice a1 (takR L acc).1.asks.length a2, .slice o1 (takR L acc).1.owed.length o2], .slice u1 (takR L acc).2.1.length u2, .int .i64 (takR L acc).2.2]) ∧ Hid (LanOwn W.heap.size w' ⟨(takR L acc).1, b1, b2, a1, a2, o1, o2⟩ ∧ w'.ownsRow W.heap.size 53 2 (.slice u1 (takR L acc).2.1.length u2) (takR L acc).2.1.length (celC amE (takR L acc).2.1) ∧ Below W.heap.size W w') := by
 refine (take_is L b a o acc W h).mono ?_;rintro e w' ⟨b', a', o', u', rfl, hb, ha, ho, hu, hB⟩;obtain ⟨b1, b2, a1, a2, o1, o2, rfl, rfl, rfl, hl⟩ := lnb_of (tak_sml L acc hs) hb ha ho;obtain ⟨u1, u2, rfl⟩ := own_len hu
 exact ⟨b1, b2, a1, a2, o1, o2, u1, u2, rfl, hideIt ⟨hl, hu, hB⟩⟩
end Go.Proofs.YtiinigifjdpicaaGreatDoor
