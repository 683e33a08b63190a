/- Texts of my own, laid together. -/
import Derived.Test.YtiinigifjdpicaaGreatDoorMd19
import Derived.Test.YtiinigifjdpicaaGreatDoorMd13
import Derived.Test.YtiinigifjdpicaaGreatDoorMd08
import Derived.Test.YtiinigifjdpicaaGreatDoorMd06
namespace Go.Proofs.YtiinigifjdpicaaGreatDoor
open Go.RowKit
set_option linter.all false
theorem do_fits {M : MdlV} {r : ReqV} (h : (doM M r).2.code = 0) : mayM M = true ∧ Se.fitsB r = true := by
 have hm : mayM M = true := by
  cases hc : mayM M with
  | true => rfl
  | false =>
   unfold doM at h;rw [hc] at h
   simp at h
 refine ⟨hm, ?_⟩;cases hc : Se.fitsB r with
 | true => rfl
 | false =>
  unfold doM at h;rw [hm, hc] at h
  simp at h
theorem do_ord {M : MdlV} {r : ReqV} (hm : mayM M = true) (hf : Se.fitsB r = true) (hk : r.kind = 3) {i j : Nat} (hi : (r.acct - 1).toNat = i) (hj : (r.lane - 1).toNat = j) :
  doM M r = if (Lg.debL (M.a.getD i Lg.zA) (brA_ r) (brN_ r)).2 = 0 then (if (placeL (M.l.getD j zLane) r.acct r.side r.price r.n r.now).2.2.2 = 0 then (⟨M.a.set i (Lg.debL (M.a.getD i Lg.zA) (brA_ r) (brN_ r)).1, M.l.set j (placeL (M.l.getD j zLane) r.acct r.side r.price r.n r.now).1⟩, ⟨0, (placeL (M.l.getD j zLane) r.acct r.side r.price r.n r.now).2.2.1, [], (placeL (M.l.getD j zLane) r.acct r.side r.price r.n r.now).2.1⟩) else (M, ⟨6, 0, [], []⟩)) else (M, ⟨6, 0, [], []⟩) := by
 have hkeys : turL r = [(1, r.acct), (2, r.lane)] := by
  unfold turL;rw [if_neg (by omega), Se.keysK3 hk hf]
 have s1 : stAt r (1, r.acct) (st0 M) = ({st0 M with a := M.a.set i (Lg.debL (M.a.getD i Lg.zA) (brA_ r) (brN_ r)).1}, (Lg.debL (M.a.getD i Lg.zA) (brA_ r) (brN_ r)).2) := by
  unfold stAt stAcc;rw [if_neg (by omega), if_pos rfl, if_neg (by omega), if_pos hk]
  simp only
  rw [hi]
  rfl
 have s2 : ∀ X, stAt r (2, r.lane) {st0 M with a := X} = ({st0 M with a := X, l := M.l.set j (placeL (M.l.getD j zLane) r.acct r.side r.price r.n r.now).1, fl := (placeL (M.l.getD j zLane) r.acct r.side r.price r.n r.now).2.1, num := (placeL (M.l.getD j zLane) r.acct r.side r.price r.n r.now).2.2.1}, (placeL (M.l.getD j zLane) r.acct r.side r.price r.n r.now).2.2.2) := by
  intro X;unfold stAt stLan;rw [if_neg (by omega), if_neg (show ¬ (2 : Int) = 1 by decide), if_pos hk]
  simp only
  rw [hj]
  rfl
 unfold doM;rw [hm, hf, hkeys];simp only [Bool.and_self, if_true, runT, s1]
 by_cases h0 : (Lg.debL (M.a.getD i Lg.zA) (brA_ r) (brN_ r)).2 = 0
 ·rw [if_pos h0, if_pos h0];simp only [s2]
  by_cases h1 : (placeL (M.l.getD j zLane) r.acct r.side r.price r.n r.now).2.2.2 = 0
  ·rw [if_pos h1, if_pos h1];simp only [if_true]
   rfl
  ·rw [if_neg h1, if_neg h1];rw [if_neg h1]
 ·rw [if_neg h0, if_neg h0];rw [if_neg h0]
theorem do_lan {M : MdlV} {r : ReqV} (hm : mayM M = true) (hf : Se.fitsB r = true) (hk : r.kind = 4 ∨ r.kind = 5 ∨ r.kind = 6) {j : Nat} (hj : (r.lane - 1).toNat = j) :
  doM M r = if (stLan r j r.lane (st0 M)).2 = 0 then (⟨M.a, (stLan r j r.lane (st0 M)).1.l⟩, ⟨0, (stLan r j r.lane (st0 M)).1.num, [], (stLan r j r.lane (st0 M)).1.fl⟩) else (M, ⟨6, 0, [], []⟩) := by
 have hkeys : turL r = [(2, r.lane)] := by
  unfold turL;rw [if_neg (by omega)]
  rcases hk with h | h | h
  ·exact Se.keysK4 h hf
  ·exact Se.keysK5 h hf
  ·exact Se.keysK6 h hf
 have s1 : stAt r (2, r.lane) (st0 M) = stLan r j r.lane (st0 M) := by
  unfold stAt;rw [if_neg (by omega), if_neg (show ¬ (2 : Int) = 1 by decide)]
  simp only
  rw [hj]
 have ha : (stLan r j r.lane (st0 M)).1.a = M.a := stLan_a _ _ _ _;have hb : (stLan r j r.lane (st0 M)).1.am = [] := by
  unfold stLan
  rcases hk with h | h | h
  ·rw [if_neg (by omega), if_pos h]; rfl
  ·rw [if_neg (by omega), if_neg (by omega), if_pos h]; rfl
  ·rw [if_neg (by omega), if_neg (by omega), if_neg (by omega), if_pos h]; rfl
 unfold doM;rw [hm, hf, hkeys];simp only [Bool.and_self, if_true, runT, s1]
 by_cases h0 : (stLan r j r.lane (st0 M)).2 = 0
 ·rw [if_pos h0, if_pos h0];simp only [if_true];rw [ha, hb]
 ·rw [if_neg h0, if_neg h0, if_neg h0]
theorem lan_lane {r : ReqV} (hf : Se.fitsB r = true) (hk : r.kind = 3 ∨ r.kind = 4 ∨ r.kind = 5 ∨ r.kind = 6) : 1 ≤ r.lane ∧ r.lane ≤ 3 := by
 rcases hk with h | h | h | h
 ·exact ((Se.fitF3 h).1 hf).2.1
 ·exact ((Se.fitF4 h).1 hf).2.1
 ·exact ((Se.fitF5 h).1 hf).2.1
 ·exact ((Se.fitF6 h).1 hf).2.1
theorem may_mk {M : MdlV} (h8 : M.a.length = 8) (h3 : M.l.length = 3) (hA : ∀ x ∈ M.a, Lg.accB x = true) (hL : ∀ x ∈ M.l, chkB x = true) : mayM M = true := by
 unfold mayM;simp only [Bool.and_eq_true, decide_eq_true_eq, List.all_eq_true]
 exact ⟨h8, h3, hA, hL⟩
theorem lan_hold {r : ReqV} {M : MdlV} {j : Nat} {q : Int} (hk : r.kind = 4 ∨ r.kind = 5 ∨ r.kind = 6) (h0 : (stLan r j q (st0 M)).2 = 0) : ∃ L, (stLan r j q (st0 M)).1.l = M.l.set j L ∧ chkB L = true ∧ holM L = holM (M.l.getD j zLane) ∧ holG L = holG (M.l.getD j zLane) := by
 unfold stLan at h0 ⊢
 rcases hk with h | h | h
 ·rw [if_neg (by omega), if_pos h] at h0 ⊢;have hD : lanD (st0 M) j = M.l.getD j zLane := rfl;rw [hD] at h0 ⊢;simp only at h0 ⊢;refine ⟨_, rfl, canR_may h0, ?_⟩;have hk : chkB (M.l.getD j zLane) = true := by
   cases hc : chkB (M.l.getD j zLane) with
   | true => rfl
   | false =>
    unfold canR at h0;rw [hc] at h0
    simp at h0
  rcases can_cases _ r.acct r.n hk with e | e | e
  ·rw [e] at h0; simp at h0
  ·rw [e] at h0; simp at h0
  ·exact e.2
 ·rw [if_neg (by omega), if_neg (by omega), if_pos h] at h0 ⊢;simp only at h0 ⊢;have := cal_may h0;refine ⟨_, rfl, this.2.2.1, ?_⟩;rw [this.2.2.2]
  exact ⟨rfl, rfl⟩
 ·rw [if_neg (by omega), if_neg (by omega), if_neg (by omega), if_pos h] at h0 ⊢;simp only at h0 ⊢;have := unc_may h0
  exact ⟨_, rfl, this.2.2.1, this.2.2.2.1, this.2.2.2.2.1⟩
theorem do_tot {c : Int} {M : MdlV} {r : ReqV} (h : Inv c M) (hc : c ≤ 900000000) (h0 : (doM M r).2.code = 0) : mayM (doM M r).1 = true ∧ ∀ a, 0 ≤ a ∧ a ≤ 3 → totM (doM M r).1 a = totM M a + (if r.kind = 1 ∧ a = r.asset then r.n else 0) - (if r.kind = 2 ∧ a = r.asset then r.n else 0) := by
 obtain ⟨hm, hf⟩ := do_fits h0;obtain ⟨h8, h3, hA, hL⟩ := may_in hm;have hkk := Se.fits_kind hf
 rcases (by omega : r.kind = 1 ∨ r.kind = 2 ∨ r.kind = 3 ∨ (r.kind = 4 ∨ r.kind = 5 ∨ r.kind = 6) ∨ r.kind = 7 ∨ r.kind = 8 ∨ r.kind = 9) with k | k | k | k | k | k | k
 ·have hw := ((Se.fitF1 k).1 hf).1;have e := do_acc hm hf (.inl k);have s : stAcc r (r.acct - 1).toNat (st0 M) = ({st0 M with a := M.a.set (r.acct - 1).toNat (Lg.credL (M.a.getD (r.acct - 1).toNat Lg.zA) r.asset r.n).1}, (Lg.credL (M.a.getD (r.acct - 1).toNat Lg.zA) r.asset r.n).2) := by
   unfold stAcc;rw [if_pos k]
   rfl
  rw [s] at e;simp only at e;rw [e] at h0 ⊢
  by_cases d : (Lg.credL (M.a.getD (r.acct - 1).toNat Lg.zA) r.asset r.n).2 = 0
  ·rw [if_pos d];obtain ⟨d1, d2, d3⟩ := cred_acc d;refine ⟨may_mk (by simp only [List.length_set]; exact h8) h3 (all_set hA d1) hL, fun a ha => ?_⟩
   unfold totM
   simp only
   rw [accS_set _ _ _ _ (by omega), d2 a ha]
   by_cases f : a = r.asset
   ·rw [if_pos f, if_pos ⟨k, f⟩, if_neg (by omega)]; omega
   ·rw [if_neg f, if_neg (by omega), if_neg (by omega)]; omega
  ·rw [if_neg d] at h0
   simp at h0
 ·have hw := ((Se.fitF2 k).1 hf).1;have e := do_acc hm hf (.inr k);have s : stAcc r (r.acct - 1).toNat (st0 M) = ({st0 M with a := M.a.set (r.acct - 1).toNat (Lg.debL (M.a.getD (r.acct - 1).toNat Lg.zA) r.asset r.n).1}, (Lg.debL (M.a.getD (r.acct - 1).toNat Lg.zA) r.asset r.n).2) := by
   unfold stAcc;rw [if_neg (by omega), if_neg (by omega), if_pos k]
   rfl
  rw [s] at e;simp only at e;rw [e] at h0 ⊢
  by_cases d : (Lg.debL (M.a.getD (r.acct - 1).toNat Lg.zA) r.asset r.n).2 = 0
  ·rw [if_pos d];obtain ⟨d1, d2, d3⟩ := deb_acc d;refine ⟨may_mk (by simp only [List.length_set]; exact h8) h3 (all_set hA d1) hL, fun a ha => ?_⟩
   unfold totM
   simp only
   rw [accS_set _ _ _ _ (by omega), d2 a ha]
   by_cases f : a = r.asset
   ·rw [if_pos f, if_neg (by omega), if_pos ⟨k, f⟩]; omega
   ·rw [if_neg f, if_neg (by omega), if_neg (by omega)]; omega
  ·rw [if_neg d] at h0
   simp at h0
 ·have hF := (Se.fitF3 k).1 hf;obtain ⟨j, hj⟩ : ∃ j : Nat, (r.lane - 1).toNat = j := ⟨_, rfl⟩;have e := do_ord hm hf k (i := (r.acct - 1).toNat) rfl hj;rw [e] at h0 ⊢
  by_cases d : (Lg.debL (M.a.getD (r.acct - 1).toNat Lg.zA) (brA_ r) (brN_ r)).2 = 0
  ·rw [if_pos d] at h0 ⊢
   by_cases p : (placeL (M.l.getD j zLane) r.acct r.side r.price r.n r.now).2.2.2 = 0
   ·rw [if_pos p] at h0 ⊢;obtain ⟨d1, d2, d3⟩ := deb_acc d;have hp := hold_placed p;refine ⟨may_mk (by simp only [List.length_set]; exact h8) (by simp only [List.length_set]; exact h3) (all_set hA d1) (all_set hL (placeL_may p)), fun a ha => ?_⟩
    unfold totM
    simp only
    have z1 : ¬ (r.kind = 1 ∧ a = r.asset) := by omega
    have z2 : ¬ (r.kind = 2 ∧ a = r.asset) := by omega
    rw [if_neg z1, if_neg z2, accS_set _ _ _ _ (by omega), lanS_set _ _ _ _ _ (by omega), d2 a ha];unfold lanH;rw [hp.1, hp.2];unfold brA_ brN_;have hl : r.lane = ((1 + j : Nat) : Int) := by omega
    by_cases s : r.side = 1
    ·simp only [if_pos s]
     by_cases f : a = 0
     ·rw [if_pos f, if_pos f, if_pos f]; split <;> omega
     ·rw [if_neg f, if_neg f, if_neg f]; split <;> omega
    ·simp only [if_neg s];rw [hl]
     by_cases f : a = ((1 + j : Nat) : Int)
     ·rw [if_pos f, if_pos f, if_pos f]; split <;> omega
     ·rw [if_neg f, if_neg f, if_neg f]; split <;> omega
   ·rw [if_neg p] at h0
    simp at h0
  ·rw [if_neg d] at h0
   simp at h0
 ·have hl := lan_lane hf (.inr k);obtain ⟨j, hj⟩ : ∃ j : Nat, (r.lane - 1).toNat = j := ⟨_, rfl⟩;have e := do_lan hm hf k hj;rw [e] at h0 ⊢
  by_cases d : (stLan r j r.lane (st0 M)).2 = 0
  ·rw [if_pos d];obtain ⟨L, e1, e2, e3, e4⟩ := lan_hold k d;rw [e1];refine ⟨may_mk h8 (by simp only [List.length_set]; exact h3) hA (all_set hL e2), fun a ha => ?_⟩
   unfold totM
   simp only
   rw [lanS_set _ _ _ _ _ (by omega), if_neg (by omega), if_neg (by omega)];unfold lanH;rw [e3, e4];omega
  ·rw [if_neg d] at h0
   simp at h0
 ·obtain ⟨e, _, _, _, ht, hmm⟩ := do_net h hc k hf;rw [e];refine ⟨hmm, fun a ha => ?_⟩;rw [ht a ha, if_neg (by omega), if_neg (by omega)];omega
 ·have e : (doM M r).1 = M := by
   have hkeys : turL r = [(1, r.acct)] := by
    unfold turL;rw [if_neg (by omega), Se.keysK8 k hf]
   have s1 : stAt r (1, r.acct) (st0 M) = ({st0 M with am := (accD (st0 M) (r.acct - 1).toNat).l}, 0) := by
    unfold stAt stAcc;rw [if_neg (by omega), if_pos rfl, if_neg (by omega), if_neg (by omega), if_neg (by omega), if_neg (by omega), if_pos k]
   unfold doM;rw [hm, hf, hkeys];simp only [Bool.and_self, if_true, runT, s1]
   rfl
  rw [e];refine ⟨hm, fun a ha => ?_⟩;rw [if_neg (by omega), if_neg (by omega)];omega
 ·have e : (doM M r).1 = M := by
   have hs : ∀ (ks : List (Int × Int)), runT r ks (st0 M) = (st0 M, 0) := by
    intro ks
    induction ks with
    | nil => rfl
    | cons x ks ih =>
     rw [runT_cons];have : stAt r x (st0 M) = (st0 M, 0) := by
      unfold stAt;rw [if_pos k]
     rw [this];simp only [if_true];exact ih
   unfold doM;rw [hm, hf];simp only [Bool.and_self, if_true, hs]
   rfl
  rw [e];refine ⟨hm, fun a ha => ?_⟩;rw [if_neg (by omega), if_neg (by omega)];omega
theorem inv_new : Inv 0 newM := ⟨new_may, fun a _ => by rw [tot_new]; omega, fun A hA => by
 have : A = Lg.zA := by simpa [newM] using (List.mem_replicate.1 hA).2
 rw [this];exact Int.le_refl _⟩
theorem tot_pos {M : MdlV} (h : mayM M = true) (a : Int) : 0 ≤ totM M a := by
 obtain ⟨h8, h3, hA, hL⟩ := may_in h;have h1 := accS_pos M.a a hA;have h2 := lanS_pos M.l 1 a hL;unfold totM;omega
theorem inv_do {c : Int} {M : MdlV} (r : ReqV) (h : Inv c M) (hp : 0 ≤ c) (hc : c ≤ 900000000) : Inv (c + 1000000) (doM M r).1 := by
 by_cases h0 : (doM M r).2.code = 0
 ·obtain ⟨t1, t2⟩ := do_tot h hc h0;obtain ⟨hm, hf⟩ := do_fits h0;refine ⟨t1, fun a ha => ⟨tot_pos t1 a, ?_⟩, (doM_ct hp h.ct).mono (by omega)⟩;rw [t2 a ha];have := h.tot a ha
  by_cases k : r.kind = 1 ∧ a = r.asset
  ·have := ((Se.fitF1 k.1).1 hf).2.2.2.2.2.1;rw [if_pos k, if_neg (by omega)];omega
  ·rw [if_neg k]
   by_cases k2 : r.kind = 2 ∧ a = r.asset
   ·have := ((Se.fitF2 k2.1).1 hf).2.2.2.2.2.1;rw [if_pos k2];omega
   ·rw [if_neg k2];omega
 ·rw [(do_rej h0).1]
  exact ⟨h.may, fun a ha => ⟨(h.tot a ha).1, by have := (h.tot a ha).2; omega⟩, h.ct.mono (by omega)⟩
theorem inv_fold : ∀ (R : List ReqV) (M : MdlV) (c : Int), Inv c M → 0 ≤ c → c + 1000000 * R.length ≤ 900000000 → Inv (c + 1000000 * R.length) (R.foldl (fun M r => (doM M r).1) M)
 | [], M, c, h, _, _ => by simpa using h
 | r :: R, M, c, h, hp, hc => by
  rw [List.foldl_cons];rw [List.length_cons] at hc ⊢;have := inv_fold R _ (c + 1000000) (inv_do r h hp (by omega)) (by omega) (by omega);rw [show c + 1000000 * ((R.length + 1 : Nat) : Int) = c + 1000000 + 1000000 * (R.length : Int) by omega];exact this
theorem inv_ply (R : List ReqV) (h : R.length ≤ 100) : Inv 100000000 (plyM R) := by
 have := inv_fold R newM 0 inv_new (by omega) (by omega);unfold plyM
 exact ⟨this.may, fun a ha => ⟨(this.tot a ha).1, by have := (this.tot a ha).2; omega⟩, this.ct.mono (by omega)⟩
theorem accs_lgot {w : World} {v : Value} {xs : List AccX} (h : Accs w v xs) : Lg.LGot w v (xs.map AccX.v) := by
 obtain ⟨a, c, rfl, h8, hr⟩ := h.two;refine ⟨by rw [List.length_map]; exact h8, a, c, by rw [List.length_map], fun i hi => ?_⟩
 rw [List.length_map] at hi;obtain ⟨b, off, e, hb, c0, c1⟩ := hr i hi;rw [List.getElem_map]
 exact ⟨b, off, _, e, hb, c0, c1, h.at_ _ (List.getElem_mem hi)⟩
theorem Lg.mine_got {w w' : World} {v : Value} {l : List AmtV} (h : Lg.Mine w v l w') (hl : l.length * 16 ≤ 140737488355328) : Lg.AGot w' v l := amts_got.1 (own_sgot (bytes := 16) h.own hl)
theorem lanS_take : ∀ (l : List LaneV) (t q : Nat) (a : Int) (h : t < l.length), lanS (l.take (t + 1)) q a = lanS (l.take t) q a + lanH (q + t) l[t] a
 | [], t, _, _, h => absurd h (by simp)
 | L :: l, 0, q, a, _ => by simp [lanS]
 | L :: l, t + 1, q, a, h => by
  have ih := lanS_take l t (q + 1) a (by simpa using h);simp only [List.take_succ_cons, lanS, List.getElem_cons_succ] at ih ⊢;rw [ih, (by omega : q + 1 + t = q + (t + 1))];omega
theorem lanS_drop : ∀ (l : List LaneV) (t q : Nat) (a : Int), lanS l q a = lanS (l.take t) q a + lanS (l.drop t) (q + t) a
 | [], t, _, _ => by simp [lanS]
 | L :: l, 0, q, a => by simp [lanS]
 | L :: l, t + 1, q, a => by
  have ih := lanS_drop l t (q + 1) a;simp only [List.take_succ_cons, List.drop_succ_cons, lanS];rw [ih, (by omega : q + 1 + t = q + (t + 1))];omega
def ttS (M : MdlV) (t : Nat) (k : Nat) : Int := Lg.sumA M.a k + lanS (M.l.take t) 1 k
theorem tt_step {M : MdlV} {t : Nat} (ht : t < M.l.length) : Lg.upS (Lg.upS (ttS M t) 0 (ttS M t 0 + holM M.l[t])) (t + 1) (ttS M t (t + 1) + holG M.l[t]) = ttS M (t + 1) := by
 funext k
 have e := lanS_take M.l t 1 k ht;unfold lanH at e;unfold Lg.upS ttS;rw [e]
 by_cases h1 : k = t + 1
 ·rw [if_pos h1, if_neg (by omega), if_pos (by omega), h1];omega
 ·rw [if_neg h1]
  by_cases h0 : k = 0
  ·rw [if_pos h0, if_pos (by omega), if_neg (by omega), h0];simp only [Int.natCast_zero];omega
  ·rw [if_neg h0, if_neg (by omega), if_neg (by omega)];omega
theorem tt_in {M : MdlV} (hm : mayM M = true) {c : Int} (hT : ∀ a, 0 ≤ a ∧ a ≤ 3 → totM M a ≤ c) (t k : Nat) (hk : k < 4) : 0 ≤ ttS M t k ∧ ttS M t k ≤ c := by
 obtain ⟨h8, h3, hA, hL⟩ := may_in hm;have h1 := accS_pos M.a k hA;have h2 := lanS_pos (M.l.take t) 1 k (fun x hx => hL x (List.mem_of_mem_take hx));have h4 := lanS_pos (M.l.drop t) (1 + t) k (fun x hx => hL x (List.mem_of_mem_drop hx));have h5 := lanS_drop M.l t 1 k;have h6 := hT k (by omega);unfold totM at h6;unfold ttS;omega
structure TTX (w : World) (K : Nat) (va vl : Value) (s : Nat → Int) (W : World) : Prop where
 bx : W.heap[w.heap.size]? = some (.cells #[va, vl] 30 (0, 0))
 sh : W.heap[K]? = some (.cells (Lg.shA s) 67 (0, 0))
 lk : w.heap.size ≤ K
 bel : Below w.heap.size w W
theorem TTX.keep {w : World} {K : Nat} {va vl : Value} {s : Nat → Int} {W W' : World} (h : TTX w K va vl s W) (hb : Below W.heap.size W W') : TTX w K va vl s W' := ⟨blkK h.bx hb, blkK h.sh hb, h.lk, below_via h.bel hb⟩
theorem TTX.put {w : World} {K : Nat} {va vl : Value} {s : Nat → Int} {W : World} (h : TTX w K va vl s W) (t : Nat) (ht : t < 4) (n : Int) : TTX w K va vl (Lg.upS s t n) (W.setCell ⟨K, t, none⟩ (.int .i64 n)) :=
 ⟨setOther _ h.bx (ty_ne h.bx h.sh (by decide)), Lg.shM_set h.sh t ht n, h.lk, belowSet _ h.bel h.lk⟩
set_option maxRecDepth 100000 in
set_option maxHeartbeats 16000000 in
theorem mtotal_is (va vl : Value) (M : MdlV) (w : World) (h : Mdl w va vl M) (hm : mayM M = true) (hT : ∀ a, 0 ≤ a ∧ a ≤ 3 → totM M a ≤ 100000000) : Calls Tryz.prog 18 #[.agg #[va, vl]] w fun e w' => ∃ g, e = .returned g ∧ Lg.Mine w g (Lg.pre (fun k => totM M k) 4) w' := by
 obtain ⟨h8, h3, hA, hL⟩ := may_in hm;have HI := hideIt (fun t k hk => tt_in hm hT t k hk);have HS := hideIt (fun t (ht : t < M.l.length) => tt_step ht);have HM := hideIt (fun W (hW : Below w.heap.size w W) => mayBe_is va vl M W (h.keep hW));rw [hm] at HM;obtain ⟨⟨xs, hx, h1⟩, ys, hy, h2⟩ := h;have hle := accs_lgot h1;rw [hx] at hle;have HLT := hideIt (fun W (hW : Below w.heap.size w W) => Lg.total_is M.a va W (hle.keep hW));rw [show Lg.totL M.a = (Lg.pre (fun k => Lg.sumA M.a k) 4, 0) from if_pos ⟨by omega, List.all_eq_true.2 hA⟩] at HLT;have hys : ys.length = 3 := by rw [← h3, ← hy, List.length_map]
 have hyt : ∀ t (ht : t < ys.length), ∃ (hl : t < M.l.length), (ys[t]).v = M.l[t] := fun t ht => by
  refine ⟨by omega, ?_⟩;have := congrArg (fun l => l[t]?) hy
  simpa [List.getElem?_map, List.getElem?_eq_getElem ht, List.getElem?_eq_getElem (show t < M.l.length by omega)] using this
 have HHL := hideIt (fun (t : Nat) (k1 : t < ys.length) W (hW : Below w.heap.size w W) => holds_is ys[t].v _ _ _ W ((h2.at_ _ (List.getElem_mem k1)).keep hW));have HK : Hid (∀ t (k1 : t < ys.length), ∃ (hl : t < M.l.length), holR ys[t].v = (holM M.l[t], holG M.l[t], 0)) := fun t k1 => by
  obtain ⟨hl, e⟩ := hyt t k1;refine ⟨hl, ?_⟩;rw [e];exact if_pos (hL _ (List.getElem_mem hl))
 have hpo : Lg.amtsB (Lg.pre (fun k => Lg.sumA M.a k) 4) (-1) = true := Lg.pre_ok (fun k hk => by have := HI.out 0 k hk; unfold ttS at this; rw [List.take_zero] at this; simp only [lanS] at this; omega)
 have hpb : ∀ k : Nat, k < 4 → Lg.balL (Lg.pre (fun k => Lg.sumA M.a k) 4) k = ttS M 0 k := fun k hk => by
  rw [Lg.pre_bal (s := fun k => Lg.sumA M.a k) (fun k hk => by have := HI.out 0 k hk; unfold ttS at this; rw [List.take_zero] at this; simp only [lanS] at this; omega) k hk]
  unfold ttS;rw [List.take_zero];simp only [lanS];omega
 have hsh0 : ∀ s : Nat → Int, (∀ k : Nat, k < 4 → s k = ttS M 0 k) → Lg.shA s = Lg.shA (ttS M 0) := fun s hs => by
  unfold Lg.shA;rw [hs 0 (by omega), hs 1 (by omega), hs 2 (by omega), hs 3 (by omega)]
 have HPO := hideIt hpo;have HPB := hideIt hpb;have HSH := hideIt hsh0;have HEN : Hid (Lg.pre (ttS M 3) 4 = Lg.pre (fun k => totM M k) 4) := by
  refine Lg.pre_congr 4 (fun k _ => ?_);unfold ttS totM;rw [List.take_of_length_le (by omega)]
 obtain ⟨aa, ac, rfl⟩ := h1.row.slice;obtain ⟨la, lc, rfl, _, hr⟩ := h2.five;have HR5 := hideIt hr;rw [hys] at HM ⊢;have HB0 := hideIt (below1 w (.cells #[.slice aa xs.length ac, .slice la 3 lc] 30));have HX0 := hideIt (heap_alloc_new w (.cells #[.slice aa xs.length ac, .slice la 3 lc] 30));have HYS := hideIt hys;clear hr hle h1 h2 hx hy hm hT hA hL hpo hpb hsh0 hyt hys h8 h3
 go_enter Tryz.func18, Tryz.ntmps18
 go_wp2_with fail
 refine (HM.out _ HB0.out).mono ?_;rintro e w1 ⟨rfl, hb⟩;dsimp only;have hb2 := below1 w1 (.cells #[.int .i64 0, .int .i64 0, .int .i64 0, .int .i64 0] 67);have HT0 : Hid (TTX w w1.heap.size (.slice aa xs.length ac) (.slice la 3 lc) (fun _ => 0) (w1.alloc (.cells #[.int .i64 0, .int .i64 0, .int .i64 0, .int .i64 0] 67))) := ⟨blkK (blkK HX0.out hb) hb2, heap_alloc_new w1 _, (below_via HB0.out hb).size, below_via HB0.out (below_via hb hb2)⟩;clear hb hb2 HM HX0 HB0
 go_upto_region 4 with fail
 generalize (World.alloc w1 _) = W1 at *;generalize w1.heap.size = K at *;obtain ⟨⟨m0, m1⟩, mf, mz⟩ := at2 HT0.out.bx
 go_wp2_with fail
 refine (HLT.out _ HT0.out.bel).mono ?_;rintro e w2 ⟨g, rfl, hmine⟩;dsimp only;have HT1 := hideIt (HT0.out.keep hmine.bel);have HAG := hideIt (Lg.mine_got hmine (by have := Lg.pre_len (fun k => Lg.sumA M.a k) 4; show (Lg.pre (fun k => Lg.sumA M.a k) 4).length * 16 ≤ _; omega))
 have HNE : Hid (0 < (Lg.pre (fun k => Lg.sumA M.a k) 4).length → ∀ b off n c, g = .slice (some ⟨b, off, none⟩) n c → b ≠ K) := by
  intro hl b off n c e;subst e;have ho := hmine.own;obtain ⟨_, ⟨hv, _⟩ | ⟨g', cap', cur, hv, hb, hg, _⟩⟩ := ho
  ·cases hv
  ·simp only [Value.slice.injEq, Option.some.injEq, Addr.mk.injEq] at hv;obtain ⟨⟨rfl, _⟩, _, _⟩ := hv;exact ty_ne hg HT1.out.sh (by decide)
 clear hmine HT0 HLT m0 m1 mf mz;generalize Lg.pre (fun k => Lg.sumA M.a k) 4 = had at *;have HAD := hideIt (Lg.addM_is K (fun _ => 0) g had w2 HT1.out.sh HAG.out HPO.out (fun k _ => ⟨Int.le_refl _, by decide⟩) HNE.out);have hps := (Array.getElem?_eq_some_iff.1 HT1.out.sh).1
 go_upto_region 5 with fail
 go_wp2_with fail
 refine HAD.out.mono ?_;rintro e w3 ⟨rfl, hsh, ho⟩;dsimp only;have HT2 : Hid (TTX w K (.slice aa xs.length ac) (.slice la 3 lc) (ttS M 0) w3) := by
  refine ⟨(ho.block _ (Array.getElem?_eq_some_iff.1 HT1.out.bx).1 (ty_ne HT1.out.bx HT1.out.sh (by decide))).trans HT1.out.bx, ?_, HT1.out.lk, Lg.below_out HT1.out.bel ho (fun k (e : k = K) => by rw [e]; exact HT1.out.lk)⟩
  rw [hsh, HSH.out _ (fun k hk => by show (0 : Int) + _ = _; rw [HPB.out k hk]; omega)]
 clear hsh ho HAD hps HT1 HNE HAG HPO HPB HSH;obtain ⟨⟨m0, m1⟩, mf, mz⟩ := at2 HT2.out.bx
 go_upto_region 7 with fail
 clear m0 m1 mf mz
 go_loopw [25] (fun v wr => ∃ (t : Nat), v = .int .i64 t ∧ t ≤ 3 ∧ Hid (TTX w K (.slice aa xs.length ac) (.slice la 3 lc) (ttS M t) wr)) (fun v _ => 3 - (intOf v).toNat)
 case atStart => exact ⟨0, rfl, by omega, HT2⟩
 case round =>
  clear HT2;obtain ⟨t, rfl, ht, HR⟩ := hrel
  by_cases hlt : t < 3
  ·have hltI : (t : Int) < 3 := by omega
   have ht0 : (0 : Int) ≤ (t : Int) := by omega
   have hty : t < ys.length := by have := HYS.out; omega
   obtain ⟨hlm, hke⟩ := HK.out t hty;obtain ⟨b, off, rfl, hbl, q0, q1, q2, q3, q4⟩ := HR5.out t hty;have hB := HR.out.bel;have c0 := (hB.cell (p := ⟨b, off + t * 5, none⟩) hbl).trans q0;have c1 := (hB.cell (p := ⟨b, off + t * 5 + 1, none⟩) hbl).trans q1;have c2 := (hB.cell (p := ⟨b, off + t * 5 + 2, none⟩) hbl).trans q2;have c3 := (hB.cell (p := ⟨b, off + t * 5 + 3, none⟩) hbl).trans q3;have c4 := (hB.cell (p := ⟨b, off + t * 5 + 4, none⟩) hbl).trans q4;have HH := hideIt (HHL.out t hty);rw [hke] at HH;have HST := hideIt (HS.out t hlm);have hi0 := HI.out t 0 (by omega);have hi1 := HI.out t (t + 1) (by omega);have hj0 := HI.out (t + 1) 0 (by omega);have hj1 := HI.out (t + 1) (t + 1) (by omega);have hs0 : ttS M (t + 1) 0 = ttS M t 0 + holM M.l[t] := by
    rw [← HST.out];unfold Lg.upS;rw [if_neg (by omega), if_pos rfl]
   have hs1 : ttS M (t + 1) (t + 1) = ttS M t (t + 1) + holG M.l[t] := by
    rw [← HST.out];unfold Lg.upS;rw [if_pos rfl]
   rw [hs0] at hj0;rw [hs1] at hj1;have hbw : b < wr.heap.size := Nat.lt_of_lt_of_le hbl hB.size;clear q0 q1 q2 q3 q4 hB hs0 hs1 hke hbl;unfold laneV laneA at HH;simp only at HH;generalize holM M.l[t] = cash at *;generalize holG M.l[t] = stock at *;generalize (ys[t]).v.call = x0 at *;generalize (ys[t]).v.next = x1 at *;generalize (ys[t]).ba = e2 at *;generalize (ys[t]).v.bids.length = l2 at *;generalize (ys[t]).bc = k2 at *;generalize (ys[t]).aa = e3 at *;generalize (ys[t]).v.asks.length = l3 at *;generalize (ys[t]).ac = k3 at *;generalize (ys[t]).oa = e4 at *;generalize (ys[t]).v.owed.length = l4 at *;generalize (ys[t]).oc = k4 at *;have hb1 := below1 wr (.cells #[.bool x0, .int .i64 x1, .slice e2 l2 k2, .slice e3 l3 k3, .slice e4 l4 k4] 59);have HT3 := hideIt (HR.out.keep hb1);have hx3 := heap_alloc_new wr (.cells #[.bool x0, .int .i64 x1, .slice e2 l2 k2, .slice e3 l3 k3, .slice e4 l4 k4] 59);have HX3 := hideIt hx3;clear HR hb1 hx3
   go_upto_region 9 with fail
   generalize (World.alloc wr (.cells #[.bool x0, .int .i64 x1, .slice e2 l2 k2, .slice e3 l3 k3, .slice e4 l4 k4] 59)) = W4 at *;obtain ⟨⟨d0, d1, d2, d3, d4⟩, df, dz⟩ := five5_at HX3.out;clear c0 c1 c2 c3 c4
   go_wp2_with fail
   refine (HH.out _ HT3.out.bel).mono ?_;rintro e w5 ⟨rfl, hb⟩;dsimp only;have HT4 := hideIt (HT3.out.keep hb);clear d0 d1 d2 d3 d4 df dz HX3 HT3 hb HH;have s0 := (Lg.shM_cells HT4.out.sh).1;have sz := (Array.getElem?_eq_some_iff.1 HT4.out.sh).1;have sf := fun j => free_at HT4.out.sh j
   have HT5 := hideIt (HT4.out.put 0 (by omega) (ttS M t 0 + cash));have s1 := Lg.shM_cell HT5.out.sh (t + 1) (by omega);have e1 : Lg.upS (ttS M t) 0 (ttS M t 0 + cash) (t + 1) = ttS M t (t + 1) := by
    unfold Lg.upS;rw [if_neg (by omega)]
   rw [e1] at s1;have HT6 := hideIt (HT5.out.put (t + 1) (by omega) (ttS M t (t + 1) + stock));rw [HST.out] at HT6;generalize ttS M t 0 = A0 at *;generalize ttS M t (t + 1) = A1 at *;have sf1 := fun j => free_at HT5.out.sh j
   have sz1 := (Array.getElem?_eq_some_iff.1 HT5.out.sh).1;clear e1;go_wp2
   go_roundw
   case rel => exact ⟨t + 1, by go_num, by omega, HT6⟩
   case measure => simp [intOf]; omega
  ·have hltI : ¬ (t : Int) < 3 := by omega
   obtain rfl : t = 3 := by omega
   have HAM := hideIt (Lg.amountsM_is K 0 (ttS M 3) wr (fun j hj => by rw [Nat.zero_add]; exact Lg.shM_cell HR.out.sh j hj) (Array.getElem?_eq_some_iff.1 HR.out.sh).1)
   go_wp2_with fail
   refine HAM.out.mono ?_;rintro e w6 ⟨g2, rfl, hmine⟩;dsimp only;have HF := hideIt (Lg.Mine.base hmine HR.out.bel);rw [HEN.out] at HF;clear hmine;go_wp2;go_ret
   exact ⟨_, rfl, HF.out⟩
structure RG (wr : World) (pm : Option (Nat × Value × Value)) (qm : Option (Nat × Value × Value × Value × Value)) (om : Option (Value × Value × MdlV)) (W : World) : Prop where
 bel : Below wr.heap.size wr W
 p : ∀ k u v, pm = some (k, u, v) → wr.heap.size ≤ k ∧ W.heap[k]? = some (.cells #[u, v] 30 (0, 0))
 q : ∀ k a b c d, qm = some (k, a, b, c, d) → wr.heap.size ≤ k ∧ W.heap[k]? = some (.cells #[a, b, c, d] 36 (0, 0))
 o : ∀ va vl M, om = some (va, vl, M) → MdlOwn wr.heap.size W va vl M
theorem RG.keep {wr W W' : World} {pm : Option (Nat × Value × Value)} {qm : Option (Nat × Value × Value × Value × Value)} {om : Option (Value × Value × MdlV)} (h : RG wr pm qm om W) (hb : Below W.heap.size W W') : RG wr pm qm om W' :=
 ⟨below_via h.bel hb, fun k u v e => ⟨(h.p k u v e).1, blkK (h.p k u v e).2 hb⟩, fun k a b c d e => ⟨(h.q k a b c d e).1, blkK (h.q k a b c d e).2 hb⟩, fun va vl M e => (h.o va vl M e).keep hb⟩
theorem RG.newP {wr W : World} {qm : Option (Nat × Value × Value × Value × Value)} {om : Option (Value × Value × MdlV)} (h : RG wr none qm om W) : RG wr (some (W.heap.size, .slice none 0 0, .slice none 0 0)) qm om (W.alloc (.cells #[.slice none 0 0, .slice none 0 0] 30)) := by
 have k := h.keep (below1 W (.cells #[.slice none 0 0, .slice none 0 0] 30));refine ⟨k.bel, fun n u v e => ?_, k.q, k.o⟩;simp only [Option.some.injEq, Prod.mk.injEq] at e;obtain ⟨rfl, rfl, rfl⟩ := e
 exact ⟨h.bel.size, heap_alloc_new W _⟩
theorem RG.newQ {wr W : World} {pm : Option (Nat × Value × Value)} {om : Option (Value × Value × MdlV)} (h : RG wr pm none om W) : RG wr pm (some (W.heap.size, .int .i64 0, .int .i64 0, .slice none 0 0, .slice none 0 0)) om (W.alloc (.cells #[.int .i64 0, .int .i64 0, .slice none 0 0, .slice none 0 0] 36)) := by
 have k := h.keep (below1 W (.cells #[.int .i64 0, .int .i64 0, .slice none 0 0, .slice none 0 0] 36));refine ⟨k.bel, k.p, fun n a b c d e => ?_, k.o⟩;simp only [Option.some.injEq, Prod.mk.injEq] at e;obtain ⟨rfl, rfl, rfl, rfl, rfl⟩ := e
 exact ⟨h.bel.size, heap_alloc_new W _⟩
theorem RG.call {wr W V : World} {pm : Option (Nat × Value × Value)} {qm : Option (Nat × Value × Value × Value × Value)} {va vl : Value} {M : MdlV} (h : RG wr pm qm none W) (ho : MdlOwn W.heap.size V va vl M) (hb : Below W.heap.size W V) : RG wr pm qm (some (va, vl, M)) V := by
 have k := h.keep hb;refine ⟨k.bel, k.p, k.q, fun a b N e => ?_⟩;simp only [Option.some.injEq, Prod.mk.injEq] at e;obtain ⟨rfl, rfl, rfl⟩ := e;exact ho.base h.bel.size
theorem RG.stP {wr W : World} {k : Nat} {u v : Value} {qm : Option (Nat × Value × Value × Value × Value)} {om : Option (Value × Value × MdlV)} (h : RG wr (some (k, u, v)) qm om W) (u' v' : Value) : RG wr (some (k, u', v')) qm om ((W.setCell ⟨k, 0, none⟩ u').setCell ⟨k, 1, none⟩ v') := by
 obtain ⟨hk, h0⟩ := h.p k u v rfl;have h1 := heap_set h0 0 u';refine ⟨belowSet _ (belowSet _ h.bel hk) hk, fun n a b e => ?_, fun n a b c d e => ?_, fun va vl M e => ?_⟩
 ·simp only [Option.some.injEq, Prod.mk.injEq] at e;obtain ⟨rfl, rfl, rfl⟩ := e
  exact ⟨hk, (puts2 W k 30 u' v' h0).1⟩
 ·obtain ⟨g1, g2⟩ := h.q n a b c d e;have hne := ty_ne g2 h0 (by decide)
  exact ⟨g1, setOther _ (setOther _ g2 hne) hne⟩
 ·exact ((h.o va vl M e).set h0 (by decide) (by decide) (by decide) (by decide) (by decide)).set h1 (by decide) (by decide) (by decide) (by decide) (by decide)
theorem RG.stQ {wr W : World} {k : Nat} {a b c d : Value} {pm : Option (Nat × Value × Value)} {om : Option (Value × Value × MdlV)} (h : RG wr pm (some (k, a, b, c, d)) om W) (a' b' c' d' : Value) : RG wr pm (some (k, a', b', c', d')) om ((((W.setCell ⟨k, 0, none⟩ a').setCell ⟨k, 1, none⟩ b').setCell ⟨k, 2, none⟩ c').setCell ⟨k, 3, none⟩ d') := by
 obtain ⟨hk, h0⟩ := h.q k a b c d rfl;have h1 := heap_set h0 0 a';have h2 := heap_set h1 1 b';have h3 := heap_set h2 2 c';refine ⟨belowSet _ (belowSet _ (belowSet _ (belowSet _ h.bel hk) hk) hk) hk, fun n u v e => ?_, fun n a b c d e => ?_, fun va vl M e => ?_⟩
 ·obtain ⟨g1, g2⟩ := h.p n u v e;have hne := ty_ne g2 h0 (by decide)
  exact ⟨g1, setOther _ (setOther _ (setOther _ (setOther _ g2 hne) hne) hne) hne⟩
 ·simp only [Option.some.injEq, Prod.mk.injEq] at e;obtain ⟨rfl, rfl, rfl, rfl, rfl⟩ := e
  exact ⟨hk, (puts4 W k 36 a' b' c' d' h0).1⟩
 ·exact ((((h.o va vl M e).set h0 (by decide) (by decide) (by decide) (by decide) (by decide)).set h1 (by decide) (by decide) (by decide) (by decide) (by decide)).set h2 (by decide) (by decide) (by decide) (by decide) (by decide)).set h3 (by decide) (by decide) (by decide) (by decide) (by decide)
theorem SGot.first60 {w : World} {a : Option Addr} {c : Nat} {l : List ReqV} (h : Reqs w (.slice a l.length c) l) (hl : 60 < l.length) : Reqs w (.slice a 60 c) (l.take 60) := by
 have hc := h.cap;obtain ⟨h8, a', c', e, hcc, hr⟩ := h;simp only [Value.slice.injEq] at e;obtain ⟨rfl, _, rfl⟩ := e;have e60 : (l.take 60).length = 60 := by rw [List.length_take]; omega
 refine ⟨by rw [e60]; omega, a, c, by rw [e60], ⟨by omega, hcc.2⟩, fun _ => ?_⟩
 obtain ⟨b, off, e2, hlt, hcell⟩ := hr (by omega);refine ⟨b, off, e2, hlt, fun j hj => ?_⟩;rw [e60] at hj;rw [hcell j (by omega), ← celC_take reqEK l 60, List.getElem?_take, if_pos (by omega)]
set_option maxHeartbeats 4000000 in
theorem few60_is (v : Value) (l : List ReqV) (w : World) (h : Reqs w v l) : Calls Tryz.prog 16 #[v, .int .i64 60] w fun e w' => (∃ v', e = .returned v' ∧ ∀ w0, Reqs w0 v l → Reqs w0 v' (l.take 60)) ∧ w' = w := by
 obtain ⟨a, c, rfl⟩ := h.slice;have hc := h.cap;have h8 : l.length * 88 ≤ 140737488355328 := h.1;have hm : maxLen = 9223372036854775807 := by decide
 rw [hm] at hc
 by_cases hl : 60 < l.length
 ·have H := hideIt (fun w0 (h0 : Reqs w0 (.slice a l.length c) l) => h0.first60 hl);have hI : (60 : Int) < (l.length : Int) := by omega
  have h60 : (60 : Int) ≤ (c : Int) := by omega
  clear h
  go_enter Tryz.func16, Tryz.ntmps16
  go_wp2;go_ret
  exact ⟨⟨_, rfl, H.out⟩, rfl⟩
 ·have H := hideIt (fun w0 (h0 : Reqs w0 (.slice a l.length c) l) => h0);have hI : ¬ (60 : Int) < (l.length : Int) := by omega
  have ht : l.take 60 = l := List.take_of_length_le (by omega);rw [ht];clear h
  go_enter Tryz.func16, Tryz.ntmps16
  go_wp2;go_ret
  exact ⟨⟨_, rfl, H.out⟩, rfl⟩
theorem shX_cell {w : World} {p : Nat} {s : Nat → Int} {ty : TypeId} (h : w.heap[p]? = some (.cells (Lg.shA s) ty (0, 0))) (t : Nat) (ht : t < 4) : w.cell? ⟨p, t, none⟩ = some (.int .i64 (s t)) := by
 rcases (by omega : t = 0 ∨ t = 1 ∨ t = 2 ∨ t = 3) with rfl | rfl | rfl | rfl <;> (rw [cell_at h]; rfl)
theorem shX_set {w : World} {p : Nat} {s : Nat → Int} {ty : TypeId} (h : w.heap[p]? = some (.cells (Lg.shA s) ty (0, 0))) (t : Nat) (ht : t < 4) (n : Int) : (w.setCell ⟨p, t, none⟩ (.int .i64 n)).heap[p]? = some (.cells (Lg.shA (Lg.upS s t n)) ty (0, 0)) := by
 rw [heap_set h]
 rcases (by omega : t = 0 ∨ t = 1 ∨ t = 2 ∨ t = 3) with rfl | rfl | rfl | rfl <;> rfl
def totS (M : MdlV) (k : Nat) : Int := totM M k
theorem shA_cg {s r : Nat → Int} (h : ∀ k : Nat, k < 4 → s k = r k) : Lg.shA s = Lg.shA r := by
 unfold Lg.shA;rw [h 0 (by omega), h 1 (by omega), h 2 (by omega), h 3 (by omega)]
theorem tot_step {M : MdlV} {r : ReqV} (h : Inv 100000000 M) (h0 : (doM M r).2.code = 0) :
  (r.kind = 1 → ∃ k : Nat, r.asset = k ∧ k < 4 ∧ (1 ≤ r.n ∧ r.n ≤ 1000000) ∧ (0 ≤ totS M k ∧ totS M k ≤ 100000000) ∧ Lg.shA (Lg.upS (totS M) k (totS M k + r.n)) = Lg.shA (totS (doM M r).1)) ∧
  (r.kind = 2 → ∃ k : Nat, r.asset = k ∧ k < 4 ∧ (1 ≤ r.n ∧ r.n ≤ 1000000) ∧ (0 ≤ totS M k ∧ totS M k ≤ 100000000) ∧ Lg.shA (Lg.upS (totS M) k (totS M k - r.n)) = Lg.shA (totS (doM M r).1)) ∧
  (r.kind ≠ 1 → r.kind ≠ 2 → Lg.shA (totS M) = Lg.shA (totS (doM M r).1)) := by
 obtain ⟨hm, hf⟩ := do_fits h0;obtain ⟨_, ht⟩ := do_tot h (by omega) h0;refine ⟨fun k => ?_, fun k => ?_, fun k1 k2 => ?_⟩
 ·have hF := (Se.fitF1 k).1 hf;obtain ⟨a, ha⟩ : ∃ a : Nat, r.asset = a := Int.eq_ofNat_of_zero_le hF.2.2.1.1;refine ⟨a, ha, by omega, hF.2.2.2.2.2.1, h.tot a (by omega), shA_cg (fun j hj => ?_)⟩;unfold totS Lg.upS;rw [ht j (by omega), ha]
  by_cases c : j = a
  ·subst c;rw [if_pos rfl, if_pos ⟨k, rfl⟩, if_neg (by omega)];omega
  ·rw [if_neg c, if_neg (by omega), if_neg (by omega)]
   show totM M (j : Int) = _
   omega
 ·have hF := (Se.fitF2 k).1 hf;obtain ⟨a, ha⟩ : ∃ a : Nat, r.asset = a := Int.eq_ofNat_of_zero_le hF.2.2.1.1;refine ⟨a, ha, by omega, hF.2.2.2.2.2.1, h.tot a (by omega), shA_cg (fun j hj => ?_)⟩;unfold totS Lg.upS;rw [ht j (by omega), ha]
  by_cases c : j = a
  ·subst c;rw [if_pos rfl, if_neg (by omega), if_pos ⟨k, rfl⟩];omega
  ·rw [if_neg c, if_neg (by omega), if_neg (by omega)]
   show totM M (j : Int) = _
   omega
 ·refine shA_cg (fun j hj => ?_);unfold totS;rw [ht j (by omega), if_neg (by omega), if_neg (by omega)];omega
end Go.Proofs.YtiinigifjdpicaaGreatDoor
