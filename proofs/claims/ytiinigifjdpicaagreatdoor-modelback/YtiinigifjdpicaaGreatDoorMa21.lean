/- Texts of my own, laid together. -/
import Derived.Test.YtiinigifjdpicaaGreatDoorMa20
import Derived.Test.YtiinigifjdpicaaGreatDoorMa18
import Derived.Test.YtiinigifjdpicaaGreatDoorMa07
import Derived.Deep.QuietTactic
import Derived.BigQuiet
import Derived.Test.YtiinigifjdpicaaGreatDoorMa06
import Derived.Test.YtiinigifjdpicaaGreatDoorMa01
namespace Go.Proofs.YtiinigifjdpicaaGreatDoor
open Go.RowKit
set_option linter.all false
def CtB (c : Int) (l : List AccV) : Prop := ∀ A ∈ l, A.ct ≤ c
theorem CtB.mono {c d : Int} {l : List AccV} (h : CtB c l) (hc : c ≤ d) : CtB d l := fun A hA => Int.le_trans (h A hA) hc
theorem CtB.set {c : Int} {l : List AccV} (h : CtB c l) {A : AccV} (hA : A.ct ≤ c) (i : Nat) : CtB c (l.set i A) := by
 intro x hx
 rcases List.mem_or_eq_of_mem_set hx with hx | rfl
 ·exact h x hx
 ·exact hA
theorem CtB.at_ {c : Int} {S : StV} (h : CtB c S.a) (hc : 0 ≤ c) (i : Nat) : (accD S i).ct ≤ c := by
 unfold accD;rw [List.getD_eq_getElem?_getD]
 rcases Nat.lt_or_ge i S.a.length with hi | hi
 ·rw [List.getElem?_eq_getElem hi];exact h _ (List.getElem_mem hi)
 ·rw [List.getElem?_eq_none hi];exact hc
theorem cred_ct {A : AccV} {a n c : Int} (hc : 0 ≤ c) (h : A.ct ≤ c) : (Lg.credL A a n).1.ct ≤ c + 1 := by
 by_cases h2 : (Lg.credL A a n).2 = 0
 ·rw [(Lg.cred_ok h2).2.2.2]
  show A.ct + 1 ≤ c + 1
  omega
 ·rw [Lg.cred_zero h2]
  show (0 : Int) ≤ c + 1
  omega
theorem deb_ct {A : AccV} {a n c : Int} (hc : 0 ≤ c) (h : A.ct ≤ c) : (Lg.debL A a n).1.ct ≤ c + 1 := by
 by_cases h2 : (Lg.debL A a n).2 = 0
 ·rw [(Lg.deb_ok h2).2.2.2]
  show A.ct + 1 ≤ c + 1
  omega
 ·rw [Lg.deb_zero h2]
  show (0 : Int) ≤ c + 1
  omega
theorem payF_ct : ∀ (l : List AmtV) (A : AccV) (c : Int), 0 ≤ c → A.ct ≤ c → (payF l A).1.ct ≤ c + l.length
 | [], A, c, _, h => by
  unfold payF
  simpa using h
 | e :: l, A, c, hc, h => by
  unfold payF;have h1 := cred_ct (a := e.k) (n := e.n) hc h
  split
  ·have := payF_ct l _ (c + 1) (by omega) h1;rw [List.length_cons];omega
  ·show A.ct ≤ _
   rw [List.length_cons];omega
theorem stAcc_ct {r : ReqV} {i : Nat} {S : StV} {c : Int} (hc : 0 ≤ c) (h : CtB c S.a) : CtB (c + 4) (stAcc r i S).1.a := by
 have ha := h.at_ hc i;have hm := h.mono (d := c + 4) (by omega);unfold stAcc
 by_cases h1 : r.kind = 1
 ·rw [if_pos h1];exact hm.set (by have := cred_ct (a := r.asset) (n := r.n) hc ha; omega) i
 ·rw [if_neg h1]
  by_cases h3 : r.kind = 3
  ·rw [if_pos h3];exact hm.set (by have := deb_ct (a := brA_ r) (n := brN_ r) hc ha; omega) i
  ·rw [if_neg h3]
   by_cases h2 : r.kind = 2
   ·rw [if_pos h2];exact hm.set (by have := deb_ct (a := r.asset) (n := r.n) hc ha; omega) i
   ·rw [if_neg h2]
    by_cases h7 : r.kind = 7
    ·rw [if_pos h7]
     split
     ·exact hm
     ·exact hm.set (by
       have := payF_ct (Lg.pre S.s 4) _ c hc ha;have hl := Lg.pre_len S.s 4
       omega) i
    ·rw [if_neg h7]
     split <;> exact hm
theorem stAt_ct {r : ReqV} {k : Int × Int} {S : StV} {c : Int} (hc : 0 ≤ c) (h : CtB c S.a) : CtB (c + 4) (stAt r k S).1.a := by
 unfold stAt
 split
 ·exact h.mono (by omega)
 ·split
  ·exact stAcc_ct hc h
  ·rw [stLan_a];exact h.mono (by omega)
theorem runT_ct {r : ReqV} : ∀ (ks : List (Int × Int)) (S : StV) (c : Int), 0 ≤ c → CtB c S.a → CtB (c + 4 * ks.length) (runT r ks S).1.a
 | [], S, c, _, h => by
  unfold runT;exact h.mono (by simp)
 | k :: ks, S, c, hc, h => by
  unfold runT;have h1 := stAt_ct (r := r) (k := k) hc h
  split
  ·have := runT_ct (r := r) ks _ (c + 4) (by omega) h1;exact this.mono (by rw [List.length_cons]; omega)
  ·exact h1.mono (by rw [List.length_cons]; omega)
theorem doM_ct {M : MdlV} {r : ReqV} {c : Int} (hc : 0 ≤ c) (h : CtB c M.a) : CtB (c + 16) (doM M r).1.a := by
 have hl := tur_len r;unfold doM
 split
 ·split
  ·have := runT_ct (r := r) (turL r) (st0 M) c hc h;exact this.mono (by omega)
  ·exact h.mono (by omega)
 ·exact h.mono (by omega)
theorem foldM_ct : ∀ (R : List ReqV) (M : MdlV) (c : Int), 0 ≤ c → CtB c M.a → CtB (c + 16 * R.length) (R.foldl (fun M r => (doM M r).1) M).a
 | [], M, c, _, h => by simpa using h
 | r :: R, M, c, hc, h => by
  rw [List.foldl_cons];have := foldM_ct R (doM M r).1 (c + 16) (by omega) (doM_ct hc h);exact this.mono (by rw [List.length_cons]; omega)
theorem plyM_ct (R : List ReqV) : CtB (16 * R.length) (plyM R).a := by
 have := foldM_ct R newM 0 (by omega) (fun A hA => by
  have : A = Lg.zA := by simpa [newM] using (List.mem_replicate.1 hA).2
  rw [this];exact Int.le_refl _)
 exact this.mono (by omega)
theorem fits_two (r : ReqV) : Se.fitsB {r with kind := 2} = Se.fitsB {r with kind := 1} := rfl
theorem fits_dep {r : ReqV} (h : Se.fitsB {r with kind := 1} = true) : ∃ i : Nat, i < 8 ∧ r.acct = (i : Int) + 1 := by
 have ht := tur_ok h (show (1 : Int) ≠ 9 by decide);have hk : ((1 : Int), r.acct) ∈ turL {r with kind := 1} := by
  unfold turL;rw [if_neg (by decide : ¬ (1 : Int) = 7)];unfold Se.keysB;rw [if_pos h];exact List.mem_singleton.2 rfl
 obtain ⟨n, e, hn⟩ := ht.2 _ hk;simp only at e hn
 exact ⟨n - 1, by omega, by omega⟩
theorem do_acc {M : MdlV} {r : ReqV} (hm : mayM M = true) (hf : Se.fitsB r = true) (hk : r.kind = 1 ∨ r.kind = 2) : doM M r = if (stAcc r (r.acct - 1).toNat (st0 M)).2 = 0 then (⟨(stAcc r (r.acct - 1).toNat (st0 M)).1.a, M.l⟩, ⟨0, 0, [], []⟩) else (M, ⟨6, 0, [], []⟩) := by
 have hkeys : turL r = [((1 : Int), r.acct)] := by
  unfold turL;rw [if_neg (by omega)];unfold Se.keysB;rw [if_pos hf]
  rcases hk with e | e <;> rw [e] <;> rfl
 have hst : stAt r (1, r.acct) (st0 M) = stAcc r (r.acct - 1).toNat (st0 M) := by
  unfold stAt;rw [if_neg (by omega), if_pos rfl]
 have hl : (stAcc r (r.acct - 1).toNat (st0 M)).1 = {st0 M with a := (stAcc r (r.acct - 1).toNat (st0 M)).1.a} := by
  unfold stAcc
  rcases hk with e | e
  ·simp only [e, if_true]
  ·rw [if_neg (by omega), if_neg (by omega), if_pos e]
 unfold doM;rw [hm, hf, hkeys];simp only [Bool.and_self, if_true, runT, hst]
 by_cases h0 : (stAcc r (r.acct - 1).toNat (st0 M)).2 = 0
 ·rw [if_pos h0, if_pos h0];simp only [if_true];rw [hl]
  rfl
 ·rw [if_neg h0, if_neg h0, if_neg h0]
theorem back_plain {M : MdlV} {r : ReqV} (hct : CtB 640 M.a) (h : (doM M {r with kind := 1}).2.code = 0) :
  ∃ i : Nat, i < 8 ∧ r.acct = (i : Int) + 1 ∧ M.a.length = 8 ∧ (doM (doM M {r with kind := 1}).1 {r with kind := 2}).2.code = 0 ∧ (doM (doM M {r with kind := 1}).1 {r with kind := 2}).1 = ⟨M.a.set i ⟨(M.a.getD i Lg.zA).l, (M.a.getD i Lg.zA).ct + 2⟩, M.l⟩ := by
 have hm : mayM M = true := by
  cases hc : mayM M with
  | true => rfl
  | false =>
   unfold doM at h;rw [hc] at h
   simp at h
 have hf : Se.fitsB {r with kind := 1} = true := by
  cases hc : Se.fitsB {r with kind := 1} with
  | true => rfl
  | false =>
   unfold doM at h;rw [hm, hc] at h
   simp at h
 obtain ⟨i, hi, hacct⟩ := fits_dep hf;have hin : ((r.acct - 1).toNat) = i := by omega
 obtain ⟨h8, h3, haccs, hlans⟩ := may_in hm;have e1 := do_acc (r := {r with kind := 1}) hm hf (Or.inl rfl);have s1 : stAcc {r with kind := 1} i (st0 M) = ({st0 M with a := M.a.set i (Lg.credL (M.a.getD i Lg.zA) r.asset r.n).1}, (Lg.credL (M.a.getD i Lg.zA) r.asset r.n).2) := by
  unfold stAcc;rw [if_pos rfl]
  rfl
 simp only [hin] at e1;rw [s1] at e1;simp only at e1;have hA : M.a.getD i Lg.zA ∈ M.a := by
  rw [List.getD_eq_getElem?_getD, List.getElem?_eq_getElem (by omega)];exact List.getElem_mem _
 have hcA := hct _ hA;generalize hAg : M.a.getD i Lg.zA = A at *
 by_cases h0 : (Lg.credL A r.asset r.n).2 = 0
 ·rw [if_pos h0] at e1;rw [e1];have hk := Lg.cred_ok h0
  rcases Lg.cred_deb h0 with ⟨_, hbad⟩ | ⟨d0, d1⟩
  ·rw [hk.2.2.2] at hbad;simp only at hbad;omega
  ·have hacc : Lg.accB (Lg.credL A r.asset r.n).1 = true := (Lg.refI_in (Lg.deb_ok d0).1).1;have hm2 : mayM ⟨M.a.set i (Lg.credL A r.asset r.n).1, M.l⟩ = true := by
    unfold mayM;simp only [List.length_set, Bool.and_eq_true, decide_eq_true_eq, List.all_eq_true]
    exact ⟨h8, h3, all_set haccs hacc, hlans⟩
   have e2 := do_acc (M := ⟨M.a.set i (Lg.credL A r.asset r.n).1, M.l⟩) (r := {r with kind := 2}) hm2 ((fits_two r).trans hf) (Or.inr rfl);have g : (M.a.set i (Lg.credL A r.asset r.n).1).getD i Lg.zA = (Lg.credL A r.asset r.n).1 := by
    rw [List.getD_eq_getElem?_getD, List.getElem?_set_self (by omega)]
    rfl
   have s2 : stAcc {r with kind := 2} i (st0 ⟨M.a.set i (Lg.credL A r.asset r.n).1, M.l⟩) = ({st0 ⟨M.a.set i (Lg.credL A r.asset r.n).1, M.l⟩ with a := (M.a.set i (Lg.credL A r.asset r.n).1).set i (Lg.debL (Lg.credL A r.asset r.n).1 r.asset r.n).1}, (Lg.debL (Lg.credL A r.asset r.n).1 r.asset r.n).2) := by
    unfold stAcc;rw [if_neg (show ¬ (2 : Int) = 1 by decide), if_neg (show ¬ (2 : Int) = 3 by decide), if_pos rfl];rw [show accD (st0 ⟨M.a.set i (Lg.credL A r.asset r.n).1, M.l⟩) i = (Lg.credL A r.asset r.n).1 from g]
    rfl
   simp only [hin] at e2;rw [s2] at e2;simp only at e2;rw [if_pos d0, d1, List.set_set] at e2;rw [e2]
   exact ⟨i, hi, hacct, h8, rfl, by rw [hAg]⟩
 ·rw [if_neg h0] at e1;rw [e1] at h
  simp at h
def lq1 : ReqV := ⟨1, 1, 0, 0, 0, 0, 100, false, (0, 0), 0⟩
def lq2 : ReqV := ⟨1, 2, 0, 1, 0, 0, 5, false, (0, 0), 0⟩
def lq3 : ReqV := ⟨3, 2, 1, 0, 2, 10, 5, false, (0, 0), 0⟩
def lq4 : ReqV := ⟨3, 1, 1, 0, 1, 12, 5, false, (0, 0), 0⟩
def lq5 : ReqV := ⟨7, 1, 0, 0, 0, 0, 0, false, (0, 0), 0⟩
def lq6 : ReqV := ⟨2, 1, 0, 0, 0, 0, 41, false, (0, 0), 0⟩
def lm1 : MdlV := (doM newM lq1).1
def lm2 : MdlV := (doM lm1 lq2).1
def lm3 : MdlV := (doM lm2 lq3).1
def lm4 : MdlV := (doM lm3 lq4).1
theorem lv_one : (doM newM lq1).2.code = 0 := by kernel_rfl
theorem lv_two : (doM lm1 lq2).2.code = 0 := by kernel_rfl
theorem lv_three : (doM lm2 lq3).2.num = 1 := by kernel_rfl
theorem lv_four : (doM lm3 lq4).2.num = 2 ∧ (doM lm3 lq4).2.fl.length = 1 := ⟨by kernel_rfl, by kernel_rfl⟩
theorem lv_five : (doM lm4 lq5).2.am.map (·.n) = [10, 5] := by kernel_rfl
theorem lv_six : (doM lm4 lq6).2.code = 6 := by kernel_rfl
theorem map_two {l : List AmtV} {x y : Int} (h : l.map (·.n) = [x, y]) : ∃ i j, l = [⟨i, x⟩, ⟨j, y⟩] := by
 match l, h with
 | [⟨i, a⟩, ⟨j, b⟩], h =>
  simp only [List.map_cons, List.map_nil, List.cons.injEq, and_true] at h;obtain ⟨rfl, rfl⟩ := h
  exact ⟨i, j, rfl⟩
def DoH (M : MdlV) (r : ReqV) (Z : MdlV × AnsV) : Prop := ∀ va vl W, Mdl W va vl M → Se.Forms W → Calls Tryz.prog 10 #[.agg #[va, vl], .agg (Se.reqC r)] W (DoBack Z W)
abbrev ansC (A : AnsV) (f1 : Option Addr) (f2 : Nat) (g1 : Option Addr) (g2 : Nat) : Array Value := #[.int .i64 A.code, .int .i64 A.num, .slice f1 A.am.length f2, .slice g1 A.fl.length g2]
theorem lv_step {K : Nat} {w0 W V : World} {M : MdlV} {Z : MdlV × AnsV} {a b a1 b1 f1 g1 : Option Addr} {c d c1 d1 f2 g2 : Nat} (hM : MB w0.heap.size K M a c b d W) (hB : Below w0.heap.size w0 W) (hK : w0.heap.size ≤ K) (ho : DoOwn W.heap.size V (.slice a1 Z.1.a.length c1) (.slice b1 Z.1.l.length d1) (.slice f1 Z.2.am.length f2) (.slice g1 Z.2.fl.length g2) Z ∧ Below W.heap.size W V) :
  ∀ G, G = ((V.setCell ⟨K, 0, none⟩ (.slice a1 Z.1.a.length c1)).setCell ⟨K, 1, none⟩ (.slice b1 Z.1.l.length d1)).alloc (.cells (ansC Z.2 f1 f2 g1 g2) 36) →
  MB w0.heap.size K Z.1 a1 c1 b1 d1 G ∧ G.heap[V.heap.size]? = some (.cells (ansC Z.2 f1 f2 g1 g2) 36 (0, 0)) ∧ Below w0.heap.size w0 G ∧ ∀ (A : Nat) (cs : Array Value), W.heap[A]? = some (Obj.cells cs 36 (0, 0)) → G.heap[A]? = some (Obj.cells cs 36 (0, 0)) := by
 rintro G rfl;have hkz := (Array.getElem?_eq_some_iff.1 hM.box).1;have hbx := (ho.2.block K hkz).trans hM.box;have k1 := heap_set hbx 0 (.slice a1 Z.1.a.length c1);obtain ⟨hz, -⟩ := puts2 V K 30 (.slice a1 Z.1.a.length c1) (.slice b1 Z.1.l.length d1) hbx;have hm2 := (ho.1.m.set (j := 0) (u := .slice a1 Z.1.a.length c1) hbx (by decide) (by decide) (by decide) (by decide) (by decide)).set (j := 1) (u := .slice b1 Z.1.l.length d1) k1 (by decide) (by decide) (by decide) (by decide) (by decide);have hb2 := below1 ((V.setCell ⟨K, 0, none⟩ (.slice a1 Z.1.a.length c1)).setCell ⟨K, 1, none⟩ (.slice b1 Z.1.l.length d1)) (.cells (ansC Z.2 f1 f2 g1 g2) 36);have hbb := belowSet (j := 1) (.slice b1 Z.1.l.length d1) (belowSet (j := 0) (.slice a1 Z.1.a.length c1) (below_via hB ho.2) hK) hK;have hh := heap_alloc_new ((V.setCell ⟨K, 0, none⟩ (.slice a1 Z.1.a.length c1)).setCell ⟨K, 1, none⟩ (.slice b1 Z.1.l.length d1)) (.cells (ansC Z.2 f1 f2 g1 g2) 36);rw [show ((V.setCell ⟨K, 0, none⟩ (.slice a1 Z.1.a.length c1)).setCell ⟨K, 1, none⟩ (.slice b1 Z.1.l.length d1)).heap.size = V.heap.size by simp] at hh;refine ⟨⟨blkK hz hb2, (hm2.keep hb2).base hB.size⟩, hh, below_via hbb hb2, fun A cs hA => ?_⟩;have hne := ty_ne hA hM.box (by decide);exact blkK (setOther _ (setOther _ ((ho.2.block A (Array.getElem?_eq_some_iff.1 hA).1).trans hA) hne) hne) hb2
set_option maxRecDepth 100000 in
set_option maxHeartbeats 32000000 in
theorem live_is (w : World) (hF : Se.Forms w) : Calls Tryz.prog 11 #[] w fun e w' => e = .returned (.bool true) ∧ Below w.heap.size w w' := by
 have H0 := hideIt (mnew_is w);have HFO := hideIt (fun W (hW : Below w.heap.size w W) => hF.keep hW);have HFC : Hid (∃ Z1 Z2 Z3 Z4 Z5 Z6, DoH newM lq1 Z1 ∧ DoH Z1.1 lq2 Z2 ∧ DoH Z2.1 lq3 Z3 ∧ DoH Z3.1 lq4 Z4 ∧ DoH Z4.1 lq5 Z5 ∧ DoH Z4.1 lq6 Z6 ∧ Z1.2.code = 0 ∧ Z2.2.code = 0 ∧ Z3.2.num = 1 ∧ Z4.2.num = 2 ∧ Z4.2.fl.length = 1 ∧ (∃ i j, Z5.2.am = [⟨i, 10⟩, ⟨j, 5⟩]) ∧ Z6.2.code = 6) :=
  ⟨doM newM lq1, doM lm1 lq2, doM lm2 lq3, doM lm3 lq4, doM lm4 lq5, doM lm4 lq6, fun _ _ _ h hf => do_is _ _ _ _ _ h hf, fun _ _ _ h hf => do_is _ _ _ _ _ h hf, fun _ _ _ h hf => do_is _ _ _ _ _ h hf, fun _ _ _ h hf => do_is _ _ _ _ _ h hf, fun _ _ _ h hf => do_is _ _ _ _ _ h hf, fun _ _ _ h hf => do_is _ _ _ _ _ h hf, lv_one, lv_two, lv_three, lv_four.1, lv_four.2, map_two lv_five, lv_six⟩
 obtain ⟨Z1, Z2, Z3, Z4, Z5, Z6, d1, d2, d3, d4, d5, d6, FC⟩ := HFC.out;clear HFC hF;have HC := hideIt FC;clear FC;unfold DoH at d1 d2 d3 d4 d5 d6;simp only [Se.reqC, lq1, lq2, lq3, lq4, lq5, lq6] at d1 d2 d3 d4 d5 d6;have D1 := hideIt d1;have D2 := hideIt d2;have D3 := hideIt d3;have D4 := hideIt d4;have D5 := hideIt d5;have D6 := hideIt d6;clear d1 d2 d3 d4 d5 d6
 go_enter Tryz.func11, Tryz.ntmps11
 go_wp2_with fail
 refine H0.out.mono ?_;rintro e w1 ⟨a, c, b, d, rfl, ho, hb⟩;dsimp only;have hb1 := below1 w1 (.cells #[.slice a newM.a.length c, .slice b newM.l.length d] 30);have HM : Hid (MB w.heap.size w1.heap.size newM a c b d (w1.alloc (.cells #[.slice a newM.a.length c, .slice b newM.l.length d] 30))) := ⟨heap_alloc_new w1 _, ho.keep hb1⟩;have HK := hideIt hb.size;have HB := hideIt (below_via hb hb1);clear hb hb1 ho H0
 go_upto_region 2 with fail
 generalize w1.alloc (.cells #[.slice a newM.a.length c, .slice b newM.l.length d] 30) = W1 at *;obtain ⟨⟨p0, p1⟩, pf, pz⟩ := at2 HM.out.box
 go_wp2_with fail
 refine (D1.out _ _ _ HM.out.md.at_ (HFO.out _ HB.out)).mono ?_;rintro e V1 ⟨a1, c1, b1, d1, f1, i1, g1, j1, rfl, HDO⟩;dsimp only;have hx5 := (HDO.out.2.block w1.heap.size pz).trans HM.out.box;clear p0 p1 pf;obtain ⟨⟨p0, p1⟩, pf, pz'⟩ := at2 hx5;obtain ⟨hm, ha1, hb, hk⟩ := lv_step HM.out HB.out HK.out HDO.out _ rfl
 go_upto_region 3 with fail
 generalize (World.alloc (World.setCell _ _ _) (.cells #[.int .i64 Z1.2.code, .int .i64 Z1.2.num, .slice f1 Z1.2.am.length i1, .slice g1 Z1.2.fl.length j1] 36)) = W2 at *;have HM' := hideIt hm;have HB' := hideIt hb;have HA1 := hideIt ha1;clear hm hb ha1 hk HM HB HDO hx5 p0 p1 pf pz pz' D1;have HM := HM';have HB := HB';clear HM' HB';obtain ⟨⟨p0, p1⟩, pf, pz⟩ := at2 HM.out.box
 go_wp2_with fail
 refine (D2.out _ _ _ HM.out.md.at_ (HFO.out _ HB.out)).mono ?_;rintro e V2 ⟨a2, c2, b2, d2, f2, i2, g2, j2, rfl, HDO⟩;dsimp only;have hx5 := (HDO.out.2.block w1.heap.size pz).trans HM.out.box;clear p0 p1 pf;obtain ⟨⟨p0, p1⟩, pf, pz'⟩ := at2 hx5;obtain ⟨hm, ha2, hb, hk⟩ := lv_step HM.out HB.out HK.out HDO.out _ rfl
 go_upto_region 4 with fail
 generalize (World.alloc (World.setCell _ _ _) (.cells #[.int .i64 Z2.2.code, .int .i64 Z2.2.num, .slice f2 Z2.2.am.length i2, .slice g2 Z2.2.fl.length j2] 36)) = W3 at *;have HM' := hideIt hm;have HB' := hideIt hb;have HA2 := hideIt ha2;have HA1' := hideIt (hk _ _ HA1.out);clear hm hb ha2 hk HM HB HDO hx5 p0 p1 pf pz pz' D2 HA1;have HA1 := HA1';clear HA1';have HM := HM';have HB := HB';clear HM' HB';obtain ⟨⟨p0, p1⟩, pf, pz⟩ := at2 HM.out.box
 go_wp2_with fail
 refine (D3.out _ _ _ HM.out.md.at_ (HFO.out _ HB.out)).mono ?_;rintro e V3 ⟨a3, c3, b3, d3, f3, i3, g3, j3, rfl, HDO⟩;dsimp only;have hx5 := (HDO.out.2.block w1.heap.size pz).trans HM.out.box;clear p0 p1 pf;obtain ⟨⟨p0, p1⟩, pf, pz'⟩ := at2 hx5;obtain ⟨hm, ha3, hb, hk⟩ := lv_step HM.out HB.out HK.out HDO.out _ rfl
 go_upto_region 5 with fail
 generalize (World.alloc (World.setCell _ _ _) (.cells #[.int .i64 Z3.2.code, .int .i64 Z3.2.num, .slice f3 Z3.2.am.length i3, .slice g3 Z3.2.fl.length j3] 36)) = W4 at *;have HM' := hideIt hm;have HB' := hideIt hb;have HA3 := hideIt ha3;have HA1' := hideIt (hk _ _ HA1.out);have HA2' := hideIt (hk _ _ HA2.out);clear hm hb ha3 hk HM HB HDO hx5 p0 p1 pf pz pz' D3 HA1 HA2;have HA1 := HA1';clear HA1';have HA2 := HA2';clear HA2';have HM := HM';have HB := HB';clear HM' HB';obtain ⟨⟨p0, p1⟩, pf, pz⟩ := at2 HM.out.box
 go_wp2_with fail
 refine (D4.out _ _ _ HM.out.md.at_ (HFO.out _ HB.out)).mono ?_;rintro e V4 ⟨a4, c4, b4, d4, f4, i4, g4, j4, rfl, HDO⟩;dsimp only;have hx5 := (HDO.out.2.block w1.heap.size pz).trans HM.out.box;clear p0 p1 pf;obtain ⟨⟨p0, p1⟩, pf, pz'⟩ := at2 hx5;obtain ⟨hm, ha4, hb, hk⟩ := lv_step HM.out HB.out HK.out HDO.out _ rfl
 go_upto_region 6 with fail
 generalize (World.alloc (World.setCell _ _ _) (.cells #[.int .i64 Z4.2.code, .int .i64 Z4.2.num, .slice f4 Z4.2.am.length i4, .slice g4 Z4.2.fl.length j4] 36)) = W5 at *;have HM' := hideIt hm;have HB' := hideIt hb;have HA4 := hideIt ha4;have HA1' := hideIt (hk _ _ HA1.out);have HA2' := hideIt (hk _ _ HA2.out);have HA3' := hideIt (hk _ _ HA3.out);clear hm hb ha4 hk HM HB HDO hx5 p0 p1 pf pz pz' D4 HA1 HA2 HA3;have HA1 := HA1';clear HA1';have HA2 := HA2';clear HA2';have HA3 := HA3';clear HA3';have HM := HM';have HB := HB';clear HM' HB';obtain ⟨⟨p0, p1⟩, pf, pz⟩ := at2 HM.out.box
 go_wp2_with fail
 refine (D5.out _ _ _ HM.out.md.at_ (HFO.out _ HB.out)).mono ?_;rintro e V5 ⟨a5, c5, b5, d5, f5, i5, g5, j5, rfl, HDO⟩;dsimp only;have hb2 := below2 V5 (.cells #[.slice a5 Z5.1.a.length c5, .slice b5 Z5.1.l.length d5] 30) (.cells (ansC Z5.2 f5 i5 g5 j5) 36);obtain ⟨t1, t2, t3⟩ := two_heap V5 (.cells #[.slice a5 Z5.1.a.length c5, .slice b5 Z5.1.l.length d5] 30) (.cells (ansC Z5.2 f5 i5 g5 j5) 36);have hbw := below_via HDO.out.2 hb2;have HM' := hideIt (HM.out.keep hbw);have HB' := hideIt (below_via HB.out hbw);have HA1' := hideIt (blkK HA1.out hbw);have HA2' := hideIt (blkK HA2.out hbw);have HA3' := hideIt (blkK HA3.out hbw);have HA4' := hideIt (blkK HA4.out hbw);have HA5 := hideIt t2;have HAM := hideIt (own_sgot (bytes := 16) (own_keep HDO.out.1.am hb2) HDO.out.1.sa);clear p0 p1 pf pz t1 t2 t3 HM HB HA1 HA2 HA3 HA4 HDO hb2 hbw D5;have HA1 := HA1';have HA2 := HA2';have HA3 := HA3';have HA4 := HA4';have HM := HM';have HB := HB';clear HM' HB' HA1' HA2' HA3' HA4';obtain ⟨⟨p0, p1⟩, pf, pz⟩ := at2 HM.out.box
 go_upto_region 7 with fail
 generalize (World.alloc (World.alloc _ _) (.cells #[.int .i64 Z5.2.code, .int .i64 Z5.2.num, .slice f5 Z5.2.am.length i5, .slice g5 Z5.2.fl.length j5] 36)) = W6 at *
 go_wp2_with fail
 refine (D6.out _ _ _ HM.out.md.at_ (HFO.out _ HB.out)).mono ?_;rintro e V6 ⟨a6, c6, b6, d6, f6, i6, g6, j6, rfl, HDO⟩;dsimp only;have hb2 := below2 V6 (.cells #[.slice a6 Z6.1.a.length c6, .slice b6 Z6.1.l.length d6] 30) (.cells (ansC Z6.2 f6 i6 g6 j6) 36);obtain ⟨t1, t2, t3⟩ := two_heap V6 (.cells #[.slice a6 Z6.1.a.length c6, .slice b6 Z6.1.l.length d6] 30) (.cells (ansC Z6.2 f6 i6 g6 j6) 36);have hbw := below_via HDO.out.2 hb2;have HB' := hideIt (below_via HB.out hbw);have q1 := cell_at (blkK HA1.out hbw) 0;have q2 := cell_at (blkK HA2.out hbw) 0;have q3 := cell_at (blkK HA3.out hbw) 1;have q4 := cell_at (blkK HA4.out hbw) 1;have q5 := cell_at (blkK HA4.out hbw) 3;have q6 := cell_at (blkK HA5.out hbw) 2;have q7 := cell_at t2 0;have ham := HAM.out.keep hbw;clear p0 p1 pf pz t1 t2 t3 HM HB HA1 HA2 HA3 HA4 HA5 HDO hb2 hbw D6 HFO HAM;unfold ansC at q1 q2 q3 q4 q5 q6 q7 ham HB'
 go_upto_region 8 with fail
 generalize (World.alloc (World.alloc _ _) (.cells #[.int .i64 Z6.2.code, .int .i64 Z6.2.num, .slice f6 Z6.2.am.length i6, .slice g6 Z6.2.fl.length j6] 36)) = W7 at *;obtain ⟨e1, e2, e3, e4, e5, ⟨mi, mj, e6⟩, e7⟩ := HC.out;rw [e6] at ham q6;obtain ⟨_, fa, fc, ef, _, hr⟩ := ham;simp only [Value.slice.injEq] at ef;obtain ⟨rfl, _, rfl⟩ := ef;obtain ⟨gm, om, rfl, _, hmc⟩ := hr (by simp);have m1 : World.cell? _ ⟨gm, om + 1, none⟩ = some (.int .i64 10) := hmc 1 (by simp);have m3 : World.cell? _ ⟨gm, om + 3, none⟩ = some (.int .i64 5) := hmc 3 (by simp);simp only [e1, e2, e3, e4, e5, e7, List.getElem?_toArray, List.getElem?_cons_zero, List.getElem?_cons_succ, List.length_cons, List.length_nil] at q1 q2 q3 q4 q5 q6 q7;clear hmc hr HC
 go_wp2;go_ret
 exact ⟨rfl, HB'.out⟩
theorem neq36 (a b c d : Int) (w : World) : (binOp .neq 115 (.agg #[.int .i64 a, .int .i64 b, .int .i64 c, .int .i64 d]) (.agg #[.int .i64 a, .int .i64 b, .int .i64 c, .int .i64 d])).run Tryz.prog w = .ok (.bool false) w := by
 simp [go_sem]
theorem neq63 (a b c : Int) (w : World) : (binOp .neq 61 (.agg #[.int .i64 a, .int .i64 b, .int .i64 c]) (.agg #[.int .i64 a, .int .i64 b, .int .i64 c])).run Tryz.prog w = .ok (.bool false) w := by
 simp [go_sem]
set_option maxHeartbeats 4000000 in
set_option maxRecDepth 100000 in
theorem sameO_is (v v' : Value) (l : List OrdV) (w : World) (h : Ords w v l) (h' : Ords w v' l) : Calls Tryz.prog 53 #[v, v'] w fun e w' => e = .returned (.bool true) ∧ Below w.heap.size w w' := by
 obtain ⟨a, c, rfl, h8, hr⟩ := h.ords;obtain ⟨a', c', rfl, h8', hr'⟩ := h'.ords;have HH := hideIt hr;have HM := hideIt hr';clear hr hr' h h'
 go_enter Tryz.func53, Tryz.ntmps53
 go_wp2
 go_loopw [5] (fun v wr => ∃ t : Nat, v = .int .i64 t ∧ t ≤ l.length ∧ Hid (Below w.heap.size w wr)) (fun v _ => l.length - (intOf v).toNat)
 case atStart => exact ⟨0, rfl, Nat.zero_le _, hideIt (Below.refl _ _)⟩
 case round =>
  obtain ⟨t, rfl, ht, HR⟩ := hrel
  by_cases hlt : t < l.length
  ·have hltI : (t : Int) < (l.length : Int) := by omega
   have ht0 : (0 : Int) ≤ (t : Int) := by omega
   have hw : IntKind.i64.wrap ((t : Int) + 1) = ((t + 1 : Nat) : Int) := by rw [IntKind.wrap_i64]; omega
   have hB := HR.out;obtain ⟨b, off, rfl, hbl, q0, q1, q2, q3⟩ := HH.out t hlt;have hblr : b < wr.heap.size := Nat.lt_of_lt_of_le hbl hB.size;have c0 := (hB.cell (p := ⟨b, off + t * 4, none⟩) hbl).trans q0;have c1 := (hB.cell (p := ⟨b, off + t * 4 + 1, none⟩) hbl).trans q1;have c2 := (hB.cell (p := ⟨b, off + t * 4 + 2, none⟩) hbl).trans q2;have c3 := (hB.cell (p := ⟨b, off + t * 4 + 3, none⟩) hbl).trans q3;clear q0 q1 q2 q3;obtain ⟨b', off', rfl, hbl', q0, q1, q2, q3⟩ := HM.out t hlt;have hblr' : b' < wr.heap.size := Nat.lt_of_lt_of_le hbl' hB.size;have d0 := (hB.cell (p := ⟨b', off' + t * 4, none⟩) hbl').trans q0;have d1 := (hB.cell (p := ⟨b', off' + t * 4 + 1, none⟩) hbl').trans q1;have d2 := (hB.cell (p := ⟨b', off' + t * 4 + 2, none⟩) hbl').trans q2;have d3 := (hB.cell (p := ⟨b', off' + t * 4 + 3, none⟩) hbl').trans q3;clear q0 q1 q2 q3 hB HH HM;generalize l[t] = en at *;obtain ⟨x, y, z, u⟩ := en;dsimp only at c0 c1 c2 c3 d0 d1 d2 d3;have q1 := fun W => neq36 x y z u W
   go_wp2_with fail
   go_quiet (fail)
   go_wp2
   go_roundw
   case rel => exact ⟨t + 1, by go_num, by omega, hideIt (below_drewN HR.out _)⟩
   case measure => simp [intOf]; omega
  ·have hltI : ¬ (t : Int) < (l.length : Int) := by omega
   clear HH HM;go_wp2;go_ret
   exact ⟨rfl, HR.out⟩
structure B2 (w : World) (L : LaneV) (b a o b' a' o' : Value) (W : World) : Prop where
 b0 : W.heap[w.heap.size]? = some (.cells #[.bool L.call, .int .i64 L.next, b, a, o] 59 (0, 0))
 b1 : W.heap[w.heap.size + 1]? = some (.cells #[.bool L.call, .int .i64 L.next, b', a', o'] 59 (0, 0))
 bel : Below w.heap.size w W
theorem B2.keep {w W W' : World} {L : LaneV} {b a o b' a' o' : Value} (h : B2 w L b a o b' a' o' W) (hb : Below W.heap.size W W') : B2 w L b a o b' a' o' W' :=
 ⟨(hb.block _ (Array.getElem?_eq_some_iff.1 h.b0).1).trans h.b0, (hb.block _ (Array.getElem?_eq_some_iff.1 h.b1).1).trans h.b1, below_via h.bel hb⟩
theorem B2.first (w : World) (L : LaneV) (b a o b' a' o' : Value) : B2 w L b a o b' a' o' ((w.alloc (.cells #[.bool L.call, .int .i64 L.next, b, a, o] 59)).alloc (.cells #[.bool L.call, .int .i64 L.next, b', a', o'] 59)) :=
 ⟨(two_heap w _ _).1, (two_heap w _ _).2.1, below2 w _ _⟩
set_option maxHeartbeats 8000000 in
set_option maxRecDepth 100000 in
theorem sameL_is (L : LaneV) (b a o b' a' o' : Value) (w : World) (h : Lan w L b a o) (h' : Lan w L b' a' o') : Calls Tryz.prog 26 #[laneV L b a o, laneV L b' a' o'] w fun e w' => e = .returned (.bool true) ∧ Below w.heap.size w w' := by
 have X0 := hideIt (B2.first w L b a o b' a' o');have H1 := hideIt (fun W (hW : Below w.heap.size w W) => sameO_is b b' L.bids W (h.keep hW).bids (h'.keep hW).bids);have H2 := hideIt (fun W (hW : Below w.heap.size w W) => sameO_is a a' L.asks W (h.keep hW).asks (h'.keep hW).asks);obtain ⟨ba, bc, rfl⟩ := h.bids.slice;obtain ⟨aa, ac, rfl⟩ := h.asks.slice;obtain ⟨oa, oc, rfl, h8, hr⟩ := h.owed.owes;obtain ⟨ba', bc', rfl⟩ := h'.bids.slice;obtain ⟨aa', ac', rfl⟩ := h'.asks.slice;obtain ⟨oa', oc', rfl, h8', hr'⟩ := h'.owed.owes;have HH := hideIt hr;have HM := hideIt hr';clear h h' hr hr';unfold laneV laneA;obtain ⟨cl, nx, bids, asks, owed⟩ := L;simp only at *;have qb : ∀ W, (binOp .neq 4 (.bool cl) (.bool cl)).run Tryz.prog W = .ok (.bool false) W := fun W => by cases cl <;> simp [go_sem]
 go_enter Tryz.func26, Tryz.ntmps26
 go_upto_region 1 with fail
 generalize (w.alloc (.cells #[.bool cl, .int .i64 nx, .slice ba bids.length bc, .slice aa asks.length ac, .slice oa owed.length oc] 59)).alloc (.cells #[.bool cl, .int .i64 nx, .slice ba' bids.length bc', .slice aa' asks.length ac', .slice oa' owed.length oc'] 59) = W0 at *;obtain ⟨⟨x0, x1, x2, x3, x4⟩, -, xl⟩ := five_at X0.out.b0;obtain ⟨⟨y0, y1, y2, y3, y4⟩, -, yl⟩ := five_at X0.out.b1;dsimp only at x0 x1 y0 y1
 go_wp2_with fail
 refine (H1.out _ X0.out.bel).mono ?_;rintro e w1 ⟨rfl, hb⟩;dsimp only;have X1 := hideIt (X0.out.keep hb);clear x0 x1 x2 x3 x4 xl y0 y1 y2 y3 y4 yl;clear hb X0 H1;obtain ⟨⟨x0, x1, x2, x3, x4⟩, -, xl⟩ := five_at X1.out.b0;obtain ⟨⟨y0, y1, y2, y3, y4⟩, -, yl⟩ := five_at X1.out.b1
 go_wp2_with fail
 refine (H2.out _ X1.out.bel).mono ?_;rintro e w2 ⟨rfl, hb⟩;dsimp only;have X2 := hideIt (X1.out.keep hb);clear x0 x1 x2 x3 x4 xl y0 y1 y2 y3 y4 yl;clear hb X1 H2;obtain ⟨⟨x0, x1, x2, x3, x4⟩, -, xl⟩ := five_at X2.out.b0;obtain ⟨⟨y0, y1, y2, y3, y4⟩, -, yl⟩ := five_at X2.out.b1
 go_upto_region 4 with fail
 clear x0 x1 x2 x3 x4 xl y0 y1 y2 y3 y4 yl
 go_loopw [5] (fun v wr => ∃ t : Nat, v = .int .i64 t ∧ t ≤ owed.length ∧ Hid (B2 w ⟨cl, nx, bids, asks, owed⟩ (.slice ba bids.length bc) (.slice aa asks.length ac) (.slice oa owed.length oc) (.slice ba' bids.length bc') (.slice aa' asks.length ac') (.slice oa' owed.length oc') wr)) (fun v _ => owed.length - (intOf v).toNat)
 case atStart => exact ⟨0, rfl, Nat.zero_le _, X2⟩
 case round =>
  clear X2;obtain ⟨t, rfl, ht, HR⟩ := hrel;obtain ⟨⟨x0, x1, x2, x3, x4⟩, -, xl⟩ := five_at HR.out.b0;obtain ⟨⟨y0, y1, y2, y3, y4⟩, -, yl⟩ := five_at HR.out.b1
  by_cases hlt : t < owed.length
  ·have hltI : (t : Int) < (owed.length : Int) := by omega
   have ht0 : (0 : Int) ≤ (t : Int) := by omega
   have hw : IntKind.i64.wrap ((t : Int) + 1) = ((t + 1 : Nat) : Int) := by rw [IntKind.wrap_i64]; omega
   have hB := HR.out.bel;obtain ⟨b, off, rfl, hbl, q0, q1, q2⟩ := HH.out t hlt;have hblr : b < wr.heap.size := Nat.lt_of_lt_of_le hbl hB.size;have c0 := (hB.cell (p := ⟨b, off + t * 3, none⟩) hbl).trans q0;have c1 := (hB.cell (p := ⟨b, off + t * 3 + 1, none⟩) hbl).trans q1;have c2 := (hB.cell (p := ⟨b, off + t * 3 + 2, none⟩) hbl).trans q2;clear q0 q1 q2;obtain ⟨b', off', rfl, hbl', q0, q1, q2⟩ := HM.out t hlt;have hblr' : b' < wr.heap.size := Nat.lt_of_lt_of_le hbl' hB.size;have d0 := (hB.cell (p := ⟨b', off' + t * 3, none⟩) hbl').trans q0;have d1 := (hB.cell (p := ⟨b', off' + t * 3 + 1, none⟩) hbl').trans q1;have d2 := (hB.cell (p := ⟨b', off' + t * 3 + 2, none⟩) hbl').trans q2;clear q0 q1 q2 hB HH HM;generalize owed[t] = en at *;obtain ⟨x, y, z⟩ := en;dsimp only at c0 c1 c2 d0 d1 d2;have q1 := fun W => neq63 x y z W
   go_wp2_with fail
   go_quiet (fail)
   go_wp2
   go_roundw
   case rel => exact ⟨t + 1, by go_num, by omega, hideIt (HR.out.keep (below_drewN (Below.refl _ _) _))⟩
   case measure => simp [intOf]; omega
  ·have hltI : ¬ (t : Int) < (owed.length : Int) := by omega
   clear HH HM;go_wp2;go_ret
   exact ⟨rfl, HR.out.bel⟩
theorem sameAc (x y : AccX) (w : World) (h : AccAt w x) (h' : AccAt w y) (e : x.v = y.v) : Calls Tryz.prog 25 #[.agg #[.slice x.fa x.v.l.length x.fc, .int .i64 x.v.ct], .agg #[.slice y.fa y.v.l.length y.fc, .int .i64 y.v.ct]] w fun e w' => e = .returned (.bool true) ∧ Below w.heap.size w w' := by
 obtain ⟨xv, xa, xc⟩ := x;obtain ⟨yv, ya, yc⟩ := y;simp only at e;subst e;exact Lg.same_is xv _ _ w h h'
theorem sameLn (x y : LanX) (w : World) (h : LanAt w x) (h' : LanAt w y) (e : x.v = y.v) : Calls Tryz.prog 26 #[.agg #[.bool x.v.call, .int .i64 x.v.next, .slice x.ba x.v.bids.length x.bc, .slice x.aa x.v.asks.length x.ac, .slice x.oa x.v.owed.length x.oc], .agg #[.bool y.v.call, .int .i64 y.v.next, .slice y.ba y.v.bids.length y.bc, .slice y.aa y.v.asks.length y.ac, .slice y.oa y.v.owed.length y.oc]] w fun e w' => e = .returned (.bool true) ∧ Below w.heap.size w w' := by
 obtain ⟨xv, _, _, _, _, _, _⟩ := x;obtain ⟨yv, _, _, _, _, _, _⟩ := y;simp only at e;subst e;exact sameL_is xv _ _ _ _ _ _ w h h'
theorem map_at {α β : Type} {f : α → β} {xs ys : List α} (h : xs.map f = ys.map f) {t : Nat} (h1 : t < xs.length) (h2 : t < ys.length) : f xs[t] = f ys[t] := by
 have := congrArg (fun l => l[t]?) h
 simpa [List.getElem?_map, List.getElem?_eq_getElem h1, List.getElem?_eq_getElem h2] using this
set_option maxRecDepth 100000 in
set_option maxHeartbeats 16000000 in
theorem sameM_is (va vl va' vl' : Value) (M : MdlV) (w : World) (h : Mdl w va vl M) (h' : Mdl w va' vl' M) : Calls Tryz.prog 12 #[.agg #[va, vl], .agg #[va', vl']] w fun e w' => e = .returned (.bool true) ∧ Below w.heap.size w w' := by
 obtain ⟨⟨xs, hx, h1⟩, ys, hy, h2⟩ := h;obtain ⟨⟨us, hu, h3⟩, vs, hv, h4⟩ := h';have hxu : xs.length = us.length := by rw [← List.length_map (f := AccX.v), hx, ← hu, List.length_map]
 have hyv : ys.length = vs.length := by rw [← List.length_map (f := LanX.v), hy, ← hv, List.length_map]
 have EX := hideIt (fun t (k1 : t < xs.length) (k2 : t < us.length) => map_at (hx.trans hu.symm) k1 k2);have EY := hideIt (fun t (k1 : t < ys.length) (k2 : t < vs.length) => map_at (hy.trans hv.symm) k1 k2);obtain ⟨t1, t2, t3⟩ := two_heap w (.cells #[va, vl] 30) (.cells #[va', vl'] 30);have HBW := hideIt (below2 w (.cells #[va, vl] 30) (.cells #[va', vl'] 30));have HA := hideIt (fun (t : Nat) (k1 : t < xs.length) (k2 : t < us.length) W (hW : Below w.heap.size w W) => sameAc xs[t] us[t] W ((h1.at_ _ (List.getElem_mem k1)).keep hW) ((h3.at_ _ (List.getElem_mem k2)).keep hW) (EX.out t k1 k2));have HL := hideIt (fun (t : Nat) (k1 : t < ys.length) (k2 : t < vs.length) W (hW : Below w.heap.size w W) => sameLn ys[t] vs[t] W ((h2.at_ _ (List.getElem_mem k1)).keep hW) ((h4.at_ _ (List.getElem_mem k2)).keep hW) (EY.out t k1 k2));obtain ⟨xa, xc, rfl, _, hr1⟩ := h1.two;obtain ⟨ua, uc, rfl, _, hr3⟩ := h3.two;obtain ⟨ya, yc, rfl, _, hr2⟩ := h2.five;obtain ⟨za, zc, rfl, _, hr4⟩ := h4.five;have R1 := hideIt hr1;have R2 := hideIt hr2;have R3 := hideIt hr3;have R4 := hideIt hr4;have HXU := hideIt hxu;have HYV := hideIt hyv;have HT1 := hideIt t1;have HT2 := hideIt t2;have HT3 := hideIt t3;clear hr1 hr2 hr3 hr4 hx hy hu hv h1 h2 h3 h4 EX EY t1 t2 t3;rw [← hxu, ← hyv] at HBW HT1 HT2 HT3 ⊢;clear hxu hyv;have hn8 : ∀ n : Nat, ((n : Int) != (n : Int)) = false := fun n => by simp
 go_enter Tryz.func12, Tryz.ntmps12
 go_upto_region 1 with fail
 generalize (w.alloc (.cells #[.slice xa xs.length xc, .slice ya ys.length yc] 30)).alloc (.cells #[.slice ua xs.length uc, .slice za ys.length zc] 30) = W0 at *;have HF : Hid (∀ W, Below W0.heap.size W0 W → (W.cell? ⟨w.heap.size, 0, none⟩ = some (.slice xa xs.length xc) ∧ W.cell? ⟨w.heap.size, 1, none⟩ = some (.slice ya ys.length yc)) ∧ (W.cell? ⟨w.heap.size + 1, 0, none⟩ = some (.slice ua xs.length uc) ∧ W.cell? ⟨w.heap.size + 1, 1, none⟩ = some (.slice za ys.length zc))) := fun W hW => ⟨(at2 (blkK HT1.out hW)).1, (at2 (blkK HT2.out hW)).1⟩
 obtain ⟨⟨c0, c1⟩, e0, e1⟩ := HF.out W0 (Below.refl _ _);have z0 : w.heap.size < W0.heap.size := by have := HT3.out; omega
 have z1 : w.heap.size + 1 < W0.heap.size := by have := HT3.out; omega
 clear HT1 HT2 HT3;generalize w.heap.size + 1 = P1 at *;have HN1 := hideIt (hn8 xs.length);have HN2 := hideIt (hn8 ys.length);have n1 := HN1.out;have n2 := HN2.out
 go_upto_region 4 with fail
 clear n1 n2 HN1 HN2 hn8 c0 c1 e0 e1
 go_loopw [5] (fun v wr => ∃ t : Nat, v = .int .i64 t ∧ t ≤ xs.length ∧ Hid (Below W0.heap.size W0 wr)) (fun v _ => xs.length - (intOf v).toNat)
 case atStart => exact ⟨0, rfl, Nat.zero_le _, hideIt (Below.refl _ _)⟩
 case round =>
  obtain ⟨t, rfl, ht, HR⟩ := hrel;obtain ⟨⟨c0, c1⟩, e0, e1⟩ := HF.out wr HR.out;have z0' : w.heap.size < wr.heap.size := Nat.lt_of_lt_of_le z0 HR.out.size;have z1' : P1 < wr.heap.size := Nat.lt_of_lt_of_le z1 HR.out.size
  by_cases hlt : t < xs.length
  ·have hltI : (t : Int) < (xs.length : Int) := by omega
   have ht0 : (0 : Int) ≤ (t : Int) := by omega
   have hlt2 : t < us.length := by have := HXU.out; omega
   obtain ⟨b, off, rfl, hbl, q0, q1⟩ := R1.out t hlt;obtain ⟨b2, off2, rfl, hbl2, p0, p1⟩ := R3.out t hlt2;have HBR := hideIt (HBW.out.trans (HR.out.mono HBW.out.size));have HCC := hideIt (HA.out t hlt hlt2);have hbr : b < wr.heap.size := Nat.lt_of_lt_of_le hbl HBR.out.size;have hbr2 : b2 < wr.heap.size := Nat.lt_of_lt_of_le hbl2 HBR.out.size;have k0 := (HBR.out.cell (p := ⟨b, off + t * 2, none⟩) hbl).trans q0;have m0 := (HBR.out.cell (p := ⟨b2, off2 + t * 2, none⟩) hbl2).trans p0;have k1 := (HBR.out.cell (p := ⟨b, off + t * 2 + 1, none⟩) hbl).trans q1;have m1 := (HBR.out.cell (p := ⟨b2, off2 + t * 2 + 1, none⟩) hbl2).trans p1;clear q0 q1 p0 p1 hbl hbl2;generalize (.slice (xs[t]).fa (xs[t]).v.l.length (xs[t]).fc : Value) = x0 at *;generalize (.slice (us[t]).fa (us[t]).v.l.length (us[t]).fc : Value) = y0 at *;generalize (.int .i64 (xs[t]).v.ct : Value) = x1 at *;generalize (.int .i64 (us[t]).v.ct : Value) = y1 at *;have HFA : Hid (∀ W, Below wr.heap.size wr W → W.cell? ⟨w.heap.size, 0, none⟩ = some (.slice (some ⟨b, off, none⟩) xs.length xc) ∧ W.cell? ⟨P1, 0, none⟩ = some (.slice (some ⟨b2, off2, none⟩) xs.length uc) ∧ W.cell? ⟨b, off + t * 2, none⟩ = some x0 ∧ W.cell? ⟨b, off + t * 2 + 1, none⟩ = some x1 ∧ W.cell? ⟨b2, off2 + t * 2, none⟩ = some y0 ∧ W.cell? ⟨b2, off2 + t * 2 + 1, none⟩ = some y1) := fun W hW => ⟨(hW.cell (p := ⟨w.heap.size, 0, none⟩) z0').trans c0, (hW.cell (p := ⟨P1, 0, none⟩) z1').trans e0, (hW.cell (p := ⟨b, off + t * 2, none⟩) hbr).trans k0, (hW.cell (p := ⟨b, off + t * 2 + 1, none⟩) hbr).trans k1, (hW.cell (p := ⟨b2, off2 + t * 2, none⟩) hbr2).trans m0, (hW.cell (p := ⟨b2, off2 + t * 2 + 1, none⟩) hbr2).trans m1⟩
   have HCY : Hid (∀ W, Below wr.heap.size wr W → Calls Tryz.prog 25 #[.agg #[x0, x1], .agg #[y0, y1]] W fun e w' => e = .returned (.bool true) ∧ Hid (Below wr.heap.size wr w') ∧ (w'.cell? ⟨w.heap.size, 0, none⟩ = some (.slice (some ⟨b, off, none⟩) xs.length xc) ∧ w'.cell? ⟨P1, 0, none⟩ = some (.slice (some ⟨b2, off2, none⟩) xs.length uc) ∧ w'.cell? ⟨b, off + t * 2, none⟩ = some x0 ∧ w'.cell? ⟨b, off + t * 2 + 1, none⟩ = some x1 ∧ w'.cell? ⟨b2, off2 + t * 2, none⟩ = some y0 ∧ w'.cell? ⟨b2, off2 + t * 2 + 1, none⟩ = some y1)) := by
    intro W hW;refine (HCC.out W (below_via HBR.out hW)).mono ?_;rintro e w' ⟨rfl, hb⟩
    exact ⟨rfl, hideIt (below_via hW hb), HFA.out w' (below_via hW hb)⟩
   clear HCC HFA
   go_upto_region 6 with fail
   go_cut [6] from 32 to 42 (fun v wx => v = .bool true ∧ Hid (Below wr.heap.size wr wx))
   case first =>
    clear HA HL R1 R2 R3 R4 HF HBR HR
    go_region_held3 (fun W => W.cell? ⟨w.heap.size, 0, none⟩ = some (.slice (some ⟨b, off, none⟩) xs.length xc) ∧ W.cell? ⟨P1, 0, none⟩ = some (.slice (some ⟨b2, off2, none⟩) xs.length uc) ∧ W.cell? ⟨b, off + t * 2, none⟩ = some x0 ∧ W.cell? ⟨b, off + t * 2 + 1, none⟩ = some x1 ∧ W.cell? ⟨b2, off2 + t * 2, none⟩ = some y0 ∧ W.cell? ⟨b2, off2 + t * 2 + 1, none⟩ = some y1) (go_keep) (first | (go_at_call 25; refine (HCY.out wr.drew (Below.refl _ _).drew).mono ?_; rintro e w5 ⟨rfl, HQ, ⟨i0, i1, i2, i3, i4, i5⟩⟩))
    all_goals go_wp2_with fail
    all_goals go_meet
    all_goals exact ⟨rfl, HQ⟩
   case rest =>
   obtain ⟨rfl, HQ⟩ := hcut;have HN := hideIt (below_via HR.out HQ.out);clear HCY c0 c1 e0 e1 k0 m0 k1 m1 HBR HR;go_wp2
   go_roundw
   case rel => exact ⟨t + 1, by go_num, by omega, HN⟩
   case measure => simp [intOf]; omega
  ·have hltI : ¬ (t : Int) < (xs.length : Int) := by omega
   have HG := hideIt HR.out;clear HR ht
   go_upto_region 10 with fail
   clear c0 c1 e0 e1 hlt hltI
   go_loopw [7] (fun v wr => ∃ t : Nat, v = .int .i64 t ∧ t ≤ ys.length ∧ Hid (Below W0.heap.size W0 wr)) (fun v _ => ys.length - (intOf v).toNat)
   case atStart => exact ⟨0, rfl, Nat.zero_le _, HG⟩
   case round =>
    obtain ⟨t, rfl, ht, HR⟩ := hrel;obtain ⟨⟨c0, c1⟩, e0, e1⟩ := HF.out wr HR.out;have z0' : w.heap.size < wr.heap.size := Nat.lt_of_lt_of_le z0 HR.out.size;have z1' : P1 < wr.heap.size := Nat.lt_of_lt_of_le z1 HR.out.size
    by_cases hlt : t < ys.length
    ·have hltI : (t : Int) < (ys.length : Int) := by omega
     have ht0 : (0 : Int) ≤ (t : Int) := by omega
     have hlt2 : t < vs.length := by have := HYV.out; omega
     obtain ⟨b, off, rfl, hbl, q0, q1, q2, q3, q4⟩ := R2.out t hlt;obtain ⟨b2, off2, rfl, hbl2, p0, p1, p2, p3, p4⟩ := R4.out t hlt2;have HBR := hideIt (HBW.out.trans (HR.out.mono HBW.out.size));have HCC := hideIt (HL.out t hlt hlt2);have hbr : b < wr.heap.size := Nat.lt_of_lt_of_le hbl HBR.out.size;have hbr2 : b2 < wr.heap.size := Nat.lt_of_lt_of_le hbl2 HBR.out.size;have k0 := (HBR.out.cell (p := ⟨b, off + t * 5, none⟩) hbl).trans q0;have m0 := (HBR.out.cell (p := ⟨b2, off2 + t * 5, none⟩) hbl2).trans p0;have k1 := (HBR.out.cell (p := ⟨b, off + t * 5 + 1, none⟩) hbl).trans q1;have m1 := (HBR.out.cell (p := ⟨b2, off2 + t * 5 + 1, none⟩) hbl2).trans p1;have k2 := (HBR.out.cell (p := ⟨b, off + t * 5 + 2, none⟩) hbl).trans q2;have m2 := (HBR.out.cell (p := ⟨b2, off2 + t * 5 + 2, none⟩) hbl2).trans p2;have k3 := (HBR.out.cell (p := ⟨b, off + t * 5 + 3, none⟩) hbl).trans q3;have m3 := (HBR.out.cell (p := ⟨b2, off2 + t * 5 + 3, none⟩) hbl2).trans p3;have k4 := (HBR.out.cell (p := ⟨b, off + t * 5 + 4, none⟩) hbl).trans q4;have m4 := (HBR.out.cell (p := ⟨b2, off2 + t * 5 + 4, none⟩) hbl2).trans p4;clear q0 q1 q2 q3 q4 p0 p1 p2 p3 p4 hbl hbl2;generalize (.bool (ys[t]).v.call : Value) = x0 at *;generalize (.bool (vs[t]).v.call : Value) = y0 at *;generalize (.int .i64 (ys[t]).v.next : Value) = x1 at *;generalize (.int .i64 (vs[t]).v.next : Value) = y1 at *;generalize (.slice (ys[t]).ba (ys[t]).v.bids.length (ys[t]).bc : Value) = x2 at *;generalize (.slice (vs[t]).ba (vs[t]).v.bids.length (vs[t]).bc : Value) = y2 at *;generalize (.slice (ys[t]).aa (ys[t]).v.asks.length (ys[t]).ac : Value) = x3 at *;generalize (.slice (vs[t]).aa (vs[t]).v.asks.length (vs[t]).ac : Value) = y3 at *;generalize (.slice (ys[t]).oa (ys[t]).v.owed.length (ys[t]).oc : Value) = x4 at *;generalize (.slice (vs[t]).oa (vs[t]).v.owed.length (vs[t]).oc : Value) = y4 at *;have HFA : Hid (∀ W, Below wr.heap.size wr W → W.cell? ⟨w.heap.size, 1, none⟩ = some (.slice (some ⟨b, off, none⟩) ys.length yc) ∧ W.cell? ⟨P1, 1, none⟩ = some (.slice (some ⟨b2, off2, none⟩) ys.length zc) ∧ W.cell? ⟨b, off + t * 5, none⟩ = some x0 ∧ W.cell? ⟨b, off + t * 5 + 1, none⟩ = some x1 ∧ W.cell? ⟨b, off + t * 5 + 2, none⟩ = some x2 ∧ W.cell? ⟨b, off + t * 5 + 3, none⟩ = some x3 ∧ W.cell? ⟨b, off + t * 5 + 4, none⟩ = some x4 ∧ W.cell? ⟨b2, off2 + t * 5, none⟩ = some y0 ∧ W.cell? ⟨b2, off2 + t * 5 + 1, none⟩ = some y1 ∧ W.cell? ⟨b2, off2 + t * 5 + 2, none⟩ = some y2 ∧ W.cell? ⟨b2, off2 + t * 5 + 3, none⟩ = some y3 ∧ W.cell? ⟨b2, off2 + t * 5 + 4, none⟩ = some y4) := fun W hW => ⟨(hW.cell (p := ⟨w.heap.size, 1, none⟩) z0').trans c1, (hW.cell (p := ⟨P1, 1, none⟩) z1').trans e1, (hW.cell (p := ⟨b, off + t * 5, none⟩) hbr).trans k0, (hW.cell (p := ⟨b, off + t * 5 + 1, none⟩) hbr).trans k1, (hW.cell (p := ⟨b, off + t * 5 + 2, none⟩) hbr).trans k2, (hW.cell (p := ⟨b, off + t * 5 + 3, none⟩) hbr).trans k3, (hW.cell (p := ⟨b, off + t * 5 + 4, none⟩) hbr).trans k4, (hW.cell (p := ⟨b2, off2 + t * 5, none⟩) hbr2).trans m0, (hW.cell (p := ⟨b2, off2 + t * 5 + 1, none⟩) hbr2).trans m1, (hW.cell (p := ⟨b2, off2 + t * 5 + 2, none⟩) hbr2).trans m2, (hW.cell (p := ⟨b2, off2 + t * 5 + 3, none⟩) hbr2).trans m3, (hW.cell (p := ⟨b2, off2 + t * 5 + 4, none⟩) hbr2).trans m4⟩
     have HCY : Hid (∀ W, Below wr.heap.size wr W → Calls Tryz.prog 26 #[.agg #[x0, x1, x2, x3, x4], .agg #[y0, y1, y2, y3, y4]] W fun e w' => e = .returned (.bool true) ∧ Hid (Below wr.heap.size wr w') ∧ (w'.cell? ⟨w.heap.size, 1, none⟩ = some (.slice (some ⟨b, off, none⟩) ys.length yc) ∧ w'.cell? ⟨P1, 1, none⟩ = some (.slice (some ⟨b2, off2, none⟩) ys.length zc) ∧ w'.cell? ⟨b, off + t * 5, none⟩ = some x0 ∧ w'.cell? ⟨b, off + t * 5 + 1, none⟩ = some x1 ∧ w'.cell? ⟨b, off + t * 5 + 2, none⟩ = some x2 ∧ w'.cell? ⟨b, off + t * 5 + 3, none⟩ = some x3 ∧ w'.cell? ⟨b, off + t * 5 + 4, none⟩ = some x4 ∧ w'.cell? ⟨b2, off2 + t * 5, none⟩ = some y0 ∧ w'.cell? ⟨b2, off2 + t * 5 + 1, none⟩ = some y1 ∧ w'.cell? ⟨b2, off2 + t * 5 + 2, none⟩ = some y2 ∧ w'.cell? ⟨b2, off2 + t * 5 + 3, none⟩ = some y3 ∧ w'.cell? ⟨b2, off2 + t * 5 + 4, none⟩ = some y4)) := by
      intro W hW;refine (HCC.out W (below_via HBR.out hW)).mono ?_;rintro e w' ⟨rfl, hb⟩
      exact ⟨rfl, hideIt (below_via hW hb), HFA.out w' (below_via hW hb)⟩
     clear HCC HFA
     go_upto_region 12 with fail
     go_cut [8] from 52 to 62 (fun v wx => v = .bool true ∧ Hid (Below wr.heap.size wr wx))
     case first =>
      clear HA HL R1 R2 R3 R4 HF HBR HR
      go_region_held3 (fun W => W.cell? ⟨w.heap.size, 1, none⟩ = some (.slice (some ⟨b, off, none⟩) ys.length yc) ∧ W.cell? ⟨P1, 1, none⟩ = some (.slice (some ⟨b2, off2, none⟩) ys.length zc) ∧ W.cell? ⟨b, off + t * 5, none⟩ = some x0 ∧ W.cell? ⟨b, off + t * 5 + 1, none⟩ = some x1 ∧ W.cell? ⟨b, off + t * 5 + 2, none⟩ = some x2 ∧ W.cell? ⟨b, off + t * 5 + 3, none⟩ = some x3 ∧ W.cell? ⟨b, off + t * 5 + 4, none⟩ = some x4 ∧ W.cell? ⟨b2, off2 + t * 5, none⟩ = some y0 ∧ W.cell? ⟨b2, off2 + t * 5 + 1, none⟩ = some y1 ∧ W.cell? ⟨b2, off2 + t * 5 + 2, none⟩ = some y2 ∧ W.cell? ⟨b2, off2 + t * 5 + 3, none⟩ = some y3 ∧ W.cell? ⟨b2, off2 + t * 5 + 4, none⟩ = some y4) (go_keep) (first | (go_at_call 26; refine (HCY.out wr.drew (Below.refl _ _).drew).mono ?_; rintro e w5 ⟨rfl, HQ, ⟨i0, i1, i2, i3, i4, i5, i6, i7, i8, i9, i10, i11⟩⟩))
      all_goals go_wp2_with fail
      all_goals go_meet
      all_goals exact ⟨rfl, HQ⟩
     case rest =>
     obtain ⟨rfl, HQ⟩ := hcut;have HN := hideIt (below_via HR.out HQ.out);clear HCY c0 c1 e0 e1 k0 m0 k1 m1 k2 m2 k3 m3 k4 m4 HBR HR;go_wp2
     go_roundw
     case rel => exact ⟨t + 1, by go_num, by omega, HN⟩
     case measure => simp [intOf]; omega
    ·have hltI : ¬ (t : Int) < (ys.length : Int) := by omega
     have HE := hideIt (below_via HBW.out HR.out);go_wp2;go_ret
     exact ⟨rfl, HE.out⟩
end Go.Proofs.YtiinigifjdpicaaGreatDoor
