/- Texts of my own, laid together. -/
import Derived.Test.YtiinigifjdpicaaGreatDoorMb12
import Derived.Test.YtiinigifjdpicaaGreatDoorMb13
import Derived.Test.YtiinigifjdpicaaGreatDoorMb15
import Derived.Deep.WholeRow
namespace Go.Proofs.YtiinigifjdpicaaGreatDoor
open Go.RowKit
set_option linter.all false
theorem all_set {α : Type} {p : α → Bool} {l : List α} {i : Nat} {x : α} (h : ∀ y ∈ l, p y = true) (hx : p x = true) : ∀ y ∈ l.set i x, p y = true := by
 intro y hy
 rcases List.mem_or_eq_of_mem_set hy with hy | rfl
 ·exact h y hy
 ·exact hx
theorem lanD_mem {S : StV} {i : Nat} (hi : i < S.l.length) : lanD S i ∈ S.l := by
 unfold lanD;rw [List.getD_eq_getElem?_getD, List.getElem?_eq_getElem hi];exact List.getElem_mem hi
theorem accD_mem {S : StV} {i : Nat} (hi : i < S.a.length) : accD S i ∈ S.a := by
 unfold accD;rw [List.getD_eq_getElem?_getD, List.getElem?_eq_getElem hi];exact List.getElem_mem hi
theorem stLan_a (r : ReqV) (i : Nat) (q : Int) (S : StV) : (stLan r i q S).1.a = S.a := by
 unfold stLan
 repeat' split
 all_goals rfl
theorem stAcc_l (r : ReqV) (i : Nat) (S : StV) : (stAcc r i S).1.l = S.l := by
 unfold stAcc
 repeat' split
 all_goals rfl
theorem stLan_len (r : ReqV) (i : Nat) (q : Int) (S : StV) : (stLan r i q S).1.l.length = S.l.length := by
 unfold stLan
 repeat' split
 all_goals simp
theorem stAcc_len (r : ReqV) (i : Nat) (S : StV) : (stAcc r i S).1.a.length = S.a.length := by
 unfold stAcc
 repeat' split
 all_goals simp
theorem stAt_len (r : ReqV) (k : Int × Int) (S : StV) : (stAt r k S).1.a.length = S.a.length ∧ (stAt r k S).1.l.length = S.l.length := by
 unfold stAt
 split
 ·exact ⟨rfl, rfl⟩
 ·split
  ·exact ⟨stAcc_len _ _ _, by rw [stAcc_l]⟩
  ·exact ⟨by rw [stLan_a], stLan_len _ _ _ _⟩
theorem stLan_chk {r : ReqV} {i : Nat} {q : Int} {S : StV} (h : ∀ y ∈ S.l, chkB y = true) (h0 : (stLan r i q S).2 = 0) : ∀ y ∈ (stLan r i q S).1.l, chkB y = true := by
 unfold stLan at h0 ⊢
 by_cases h3 : r.kind = 3
 ·rw [if_pos h3] at h0 ⊢;exact all_set h (placeL_may h0)
 ·rw [if_neg h3] at h0 ⊢
  by_cases h4 : r.kind = 4
  ·rw [if_pos h4] at h0 ⊢;exact all_set h (canR_may h0)
  ·rw [if_neg h4] at h0 ⊢
   by_cases h5 : r.kind = 5
   ·rw [if_pos h5] at h0 ⊢;exact all_set h (cal_may h0).2.2.1
   ·rw [if_neg h5] at h0 ⊢
    by_cases h6 : r.kind = 6
    ·rw [if_pos h6] at h0 ⊢;exact all_set h (unc_may h0).2.2.1
    ·rw [if_neg h6] at h0 ⊢
     by_cases h7 : r.kind = 7
     ·rw [if_pos h7] at h0 ⊢
      split
      ·exact h
      ·rename_i hn
       simp only [Bool.or_eq_true, not_or, decide_eq_true_eq, Decidable.not_not] at hn;exact all_set h (tak_may hn.1).2.2.2
     ·rw [if_neg h7];exact h
theorem stAt_chk {r : ReqV} {k : Int × Int} {S : StV} (h : ∀ y ∈ S.l, chkB y = true) (h0 : (stAt r k S).2 = 0) : ∀ y ∈ (stAt r k S).1.l, chkB y = true := by
 unfold stAt at h0 ⊢
 split
 ·exact h
 ·rename_i h9
  rw [if_neg h9] at h0
  split
  ·rw [stAcc_l];exact h
  ·rename_i hk
   rw [if_neg hk] at h0;exact stLan_chk h h0
theorem runT_cons (r : ReqV) (k : Int × Int) (ks : List (Int × Int)) (S : StV) : runT r (k :: ks) S = if (stAt r k S).2 = 0 then runT r ks (stAt r k S).1 else stAt r k S := rfl
theorem runT_step (r : ReqV) {L : List (Int × Int)} {t : Nat} (S : StV) (h : t < L.length) : runT r (L.drop t) S = if (stAt r L[t] S).2 = 0 then runT r (L.drop (t + 1)) (stAt r L[t] S).1 else stAt r L[t] S := by
 rw [List.drop_eq_getElem_cons h]
 rfl
theorem tur_ok {r : ReqV} (hf : Se.fitsB r = true) (h9 : r.kind ≠ 9) : (turL r).length ≤ 4 ∧ ∀ k ∈ turL r, ∃ n : Nat, k.2 = n ∧ (k.1 = 1 ∧ 1 ≤ n ∧ n ≤ 8 ∨ k.1 = 2 ∧ 1 ≤ n ∧ n ≤ 3) := by
 have hk := Se.fits_kind hf;have hA : ∀ a : Int, 1 ≤ a ∧ a ≤ 8 → ∃ n : Nat, a = n ∧ (1 ≤ n ∧ n ≤ 8) := fun a h => ⟨a.toNat, by omega, by omega⟩
 have hL : ∀ a : Int, 1 ≤ a ∧ a ≤ 3 → ∃ n : Nat, a = n ∧ (1 ≤ n ∧ n ≤ 3) := fun a h => ⟨a.toNat, by omega, by omega⟩
 unfold turL
 rcases (by omega : r.kind = 1 ∨ r.kind = 2 ∨ r.kind = 3 ∨ r.kind = 4 ∨ r.kind = 5 ∨ r.kind = 6 ∨ r.kind = 7 ∨ r.kind = 8) with h | h | h | h | h | h | h | h
 ·obtain ⟨n, e, hn⟩ := hA _ ((Se.fitF1 h).1 hf).1;rw [if_neg (by omega), Se.keysK1 h hf];refine ⟨by simp, fun k hk => ?_⟩;simp only [List.mem_singleton] at hk
  exact ⟨n, by rw [hk]; exact e, .inl ⟨by rw [hk], hn⟩⟩
 ·obtain ⟨n, e, hn⟩ := hA _ ((Se.fitF2 h).1 hf).1;rw [if_neg (by omega), Se.keysK2 h hf];refine ⟨by simp, fun k hk => ?_⟩;simp only [List.mem_singleton] at hk
  exact ⟨n, by rw [hk]; exact e, .inl ⟨by rw [hk], hn⟩⟩
 ·obtain ⟨n, e, hn⟩ := hA _ ((Se.fitF3 h).1 hf).1;obtain ⟨m, f, hm⟩ := hL _ ((Se.fitF3 h).1 hf).2.1;rw [if_neg (by omega), Se.keysK3 h hf];refine ⟨by simp, fun k hk => ?_⟩;simp only [List.mem_cons, List.not_mem_nil, or_false] at hk
  rcases hk with hk | hk
  ·exact ⟨n, by rw [hk]; exact e, .inl ⟨by rw [hk], hn⟩⟩
  ·exact ⟨m, by rw [hk]; exact f, .inr ⟨by rw [hk], hm⟩⟩
 ·obtain ⟨m, f, hm⟩ := hL _ ((Se.fitF4 h).1 hf).2.1;rw [if_neg (by omega), Se.keysK4 h hf];refine ⟨by simp, fun k hk => ?_⟩;simp only [List.mem_singleton] at hk
  exact ⟨m, by rw [hk]; exact f, .inr ⟨by rw [hk], hm⟩⟩
 ·obtain ⟨m, f, hm⟩ := hL _ ((Se.fitF5 h).1 hf).2.1;rw [if_neg (by omega), Se.keysK5 h hf];refine ⟨by simp, fun k hk => ?_⟩;simp only [List.mem_singleton] at hk
  exact ⟨m, by rw [hk]; exact f, .inr ⟨by rw [hk], hm⟩⟩
 ·obtain ⟨m, f, hm⟩ := hL _ ((Se.fitF6 h).1 hf).2.1;rw [if_neg (by omega), Se.keysK6 h hf];refine ⟨by simp, fun k hk => ?_⟩;simp only [List.mem_singleton] at hk
  exact ⟨m, by rw [hk]; exact f, .inr ⟨by rw [hk], hm⟩⟩
 ·obtain ⟨n, e, hn⟩ := hA _ ((Se.fitF7 h).1 hf).1;rw [if_pos h, Se.keysK7 h hf];refine ⟨by simp, fun k hk => ?_⟩;simp only [List.drop_succ_cons, List.drop_zero, List.take_succ_cons, List.take_zero, List.cons_append, List.nil_append, List.mem_cons, List.not_mem_nil, or_false] at hk
  rcases hk with hk | hk | hk | hk
  ·exact ⟨1, by rw [hk]; rfl, .inr ⟨by rw [hk], by omega⟩⟩
  ·exact ⟨2, by rw [hk]; rfl, .inr ⟨by rw [hk], by omega⟩⟩
  ·exact ⟨3, by rw [hk]; rfl, .inr ⟨by rw [hk], by omega⟩⟩
  ·exact ⟨n, by rw [hk]; exact e, .inl ⟨by rw [hk], hn⟩⟩
 ·obtain ⟨n, e, hn⟩ := hA _ ((Se.fitF8 h).1 hf).1;rw [if_neg (by omega), Se.keysK8 h hf];refine ⟨by simp, fun k hk => ?_⟩;simp only [List.mem_singleton] at hk
  exact ⟨n, by rw [hk]; exact e, .inl ⟨by rw [hk], hn⟩⟩
theorem may_in {M : MdlV} (h : mayM M = true) : M.a.length = 8 ∧ M.l.length = 3 ∧ (∀ x ∈ M.a, Lg.accB x = true) ∧ ∀ x ∈ M.l, chkB x = true := by
 unfold mayM at h;simp only [Bool.and_eq_true, decide_eq_true_eq, List.all_eq_true] at h;exact h
theorem do_rej {M : MdlV} {r : ReqV} (h : (doM M r).2.code ≠ 0) : (doM M r).1 = M ∧ (doM M r).2.num = 0 ∧ (doM M r).2.am = [] ∧ (doM M r).2.fl = [] := by
 unfold doM at h ⊢
 split
 ·rename_i h1
  rw [if_pos h1] at h
  split
  ·rename_i h2
   rw [if_pos h2] at h;exact absurd rfl h
  ·exact ⟨rfl, rfl, rfl, rfl⟩
 ·exact ⟨rfl, rfl, rfl, rfl⟩
theorem puts4 (wc : World) (b : Nat) (ty : TypeId) (v0 v1 v2 v3 : Value) {z0 z1 z2 z3 : Value} (h : wc.heap[b]? = some (.cells #[z0, z1, z2, z3] ty (0, 0))) : ((((wc.setCell ⟨b, 0, none⟩ v0).setCell ⟨b, 1, none⟩ v1).setCell ⟨b, 2, none⟩ v2).setCell ⟨b, 3, none⟩ v3).heap[b]? = some (.cells #[v0, v1, v2, v3] ty (0, 0)) ∧ Out (fun k => k = b) wc ((((wc.setCell ⟨b, 0, none⟩ v0).setCell ⟨b, 1, none⟩ v1).setCell ⟨b, 2, none⟩ v2).setCell ⟨b, 3, none⟩ v3) := by
 have h0 := And.intro h (Out.refl (fun k => k = b) wc);have h1 := putS h0 0 v0 (cs' := #[v0, z1, z2, z3]) rfl;have h2 := putS h1 1 v1 (cs' := #[v0, v1, z2, z3]) rfl;have h3 := putS h2 2 v2 (cs' := #[v0, v1, v2, z3]) rfl;have h4 := putS h3 3 v3 (cs' := #[v0, v1, v2, v3]) rfl;exact h4
theorem at4 {w : World} {p : Nat} {ty : TypeId} {z0 z1 z2 z3 : Value} (h : w.heap[p]? = some (.cells #[z0, z1, z2, z3] ty (0, 0))) : (w.cell? ⟨p, 0, none⟩ = some z0 ∧ w.cell? ⟨p, 1, none⟩ = some z1 ∧ w.cell? ⟨p, 2, none⟩ = some z2 ∧ w.cell? ⟨p, 3, none⟩ = some z3) ∧ (∀ j, w.frozen? ⟨p, j, none⟩ = false) ∧ p < w.heap.size :=
 ⟨⟨by rw [cell_at h]; rfl, by rw [cell_at h]; rfl, by rw [cell_at h]; rfl, by rw [cell_at h]; rfl⟩, fun j => free_at h j, (Array.getElem?_eq_some_iff.1 h).1⟩
theorem at11 {w : World} {p : Nat} {ty : TypeId} {z0 z1 z2 z3 z4 z5 z6 z7 z8 z9 z10 : Value} (h : w.heap[p]? = some (.cells #[z0, z1, z2, z3, z4, z5, z6, z7, z8, z9, z10] ty (0, 0))) : (w.cell? ⟨p, 0, none⟩ = some z0 ∧ w.cell? ⟨p, 1, none⟩ = some z1 ∧ w.cell? ⟨p, 2, none⟩ = some z2 ∧ w.cell? ⟨p, 3, none⟩ = some z3 ∧ w.cell? ⟨p, 4, none⟩ = some z4 ∧ w.cell? ⟨p, 5, none⟩ = some z5 ∧ w.cell? ⟨p, 6, none⟩ = some z6 ∧ w.cell? ⟨p, 7, none⟩ = some z7 ∧ w.cell? ⟨p, 8, none⟩ = some z8 ∧ w.cell? ⟨p, 9, none⟩ = some z9 ∧ w.cell? ⟨p, 10, none⟩ = some z10) ∧ (∀ j, w.frozen? ⟨p, j, none⟩ = false) ∧ p < w.heap.size :=
 ⟨⟨by rw [cell_at h]; rfl, by rw [cell_at h]; rfl, by rw [cell_at h]; rfl, by rw [cell_at h]; rfl, by rw [cell_at h]; rfl, by rw [cell_at h]; rfl, by rw [cell_at h]; rfl, by rw [cell_at h]; rfl, by rw [cell_at h]; rfl, by rw [cell_at h]; rfl, by rw [cell_at h]; rfl⟩, fun j => free_at h j, (Array.getElem?_eq_some_iff.1 h).1⟩
structure DoOwn (B : Nat) (w : World) (va vl f g : Value) (X : MdlV × AnsV) : Prop where
 m : MdlOwn B w va vl X.1
 am : w.ownsRow B 53 2 f X.2.am.length (celC amtE X.2.am)
 fl : w.ownsRow B 106 4 g X.2.fl.length (celC filE X.2.fl)
 sa : X.2.am.length * 16 ≤ 140737488355328
 sf : X.2.fl.length * 32 ≤ 140737488355328
theorem DoOwn.set {B D j : Nat} {w : World} {va vl f g : Value} {X : MdlV × AnsV} {cs : Array Value} {t : TypeId} {u : Value} (h : DoOwn B w va vl f g X) (hd : w.heap[D]? = some (.cells cs t (0, 0))) (h1 : (53 : TypeId) ≠ t) (h2 : (44 : TypeId) ≠ t) (h3 : (115 : TypeId) ≠ t) (h4 : (61 : TypeId) ≠ t) (h5 : (59 : TypeId) ≠ t) (h6 : (106 : TypeId) ≠ t) : DoOwn B (w.setCell ⟨D, j, none⟩ u) va vl f g X :=
 ⟨h.m.set hd h1 h2 h3 h4 h5, own_cell h.am hd h1, own_cell h.fl hd h6, h.sa, h.sf⟩
def DoBack (X : MdlV × AnsV) (w : World) (e : Ending) (w' : World) : Prop := ∃ a c b d f1 f2 g1 g2, e = .returned (.tuple #[.agg #[.slice a X.1.a.length c, .slice b X.1.l.length d], .agg #[.int .i64 X.2.code, .int .i64 X.2.num, .slice f1 X.2.am.length f2, .slice g1 X.2.fl.length g2]]) ∧ Hid (DoOwn w.heap.size w' (.slice a X.1.a.length c) (.slice b X.1.l.length d) (.slice f1 X.2.am.length f2) (.slice g1 X.2.fl.length g2) X ∧ Below w.heap.size w w')
theorem do_exit {w W : World} {X : MdlV × AnsV} {P Q : Nat} {z0 z1 y0 y1 y2 y3 : Value} {a c b d f1 f2 g1 g2} (hP : W.heap[P]? = some (.cells #[z0, z1] 30 (0, 0))) (hQ : W.heap[Q]? = some (.cells #[y0, y1, y2, y3] 36 (0, 0))) (hB : Below w.heap.size w W) (hp : w.heap.size ≤ P) (hq : w.heap.size ≤ Q)
  (ho : DoOwn w.heap.size W (.slice a X.1.a.length c) (.slice b X.1.l.length d) (.slice f1 X.2.am.length f2) (.slice g1 X.2.fl.length g2) X) :
  ∃ W', W' = ((((((W.setCell ⟨P, 0, none⟩ (.slice a X.1.a.length c)).setCell ⟨P, 1, none⟩ (.slice b X.1.l.length d)).setCell ⟨Q, 0, none⟩ (.int .i64 X.2.code)).setCell ⟨Q, 1, none⟩ (.int .i64 X.2.num)).setCell ⟨Q, 2, none⟩ (.slice f1 X.2.am.length f2)).setCell ⟨Q, 3, none⟩ (.slice g1 X.2.fl.length g2)) ∧ W'.heap[P]? = some (.cells #[.slice a X.1.a.length c, .slice b X.1.l.length d] 30 (0, 0)) ∧ W'.heap[Q]? = some (.cells #[.int .i64 X.2.code, .int .i64 X.2.num, .slice f1 X.2.am.length f2, .slice g1 X.2.fl.length g2] 36 (0, 0)) ∧ DoBack X w (.returned (.tuple #[.agg #[.slice a X.1.a.length c, .slice b X.1.l.length d], .agg #[.int .i64 X.2.code, .int .i64 X.2.num, .slice f1 X.2.am.length f2, .slice g1 X.2.fl.length g2]])) W' := by
 have hne := ty_ne hP hQ (by decide);have p1 := heap_set hP 0 (.slice a X.1.a.length c);have p2 := puts2 W P 30 (.slice a X.1.a.length c) (.slice b X.1.l.length d) hP;have o2 := (ho.set (j := 0) (u := .slice a X.1.a.length c) hP (by decide) (by decide) (by decide) (by decide) (by decide) (by decide)).set (j := 1) (u := .slice b X.1.l.length d) p1 (by decide) (by decide) (by decide) (by decide) (by decide) (by decide);have q0 := setOther (b := P) (j := 1) (.slice b X.1.l.length d) (setOther (b := P) (j := 0) (.slice a X.1.a.length c) hQ hne.symm) hne.symm;have B2 := belowSet (b := P) (j := 1) (.slice b X.1.l.length d) (belowSet (b := P) (j := 0) (.slice a X.1.a.length c) hB hp) hp;generalize (W.setCell ⟨P, 0, none⟩ (.slice a X.1.a.length c)).setCell ⟨P, 1, none⟩ (.slice b X.1.l.length d) = W2 at *;have p4 := puts4 W2 Q 36 (.int .i64 X.2.code) (.int .i64 X.2.num) (.slice f1 X.2.am.length f2) (.slice g1 X.2.fl.length g2) q0;have q1 := heap_set q0 0 (.int .i64 X.2.code);have q2 := heap_set q1 1 (.int .i64 X.2.num);have q3 := heap_set q2 2 (.slice f1 X.2.am.length f2);refine ⟨_, rfl, ?_, p4.1, a, c, b, d, f1, f2, g1, g2, rfl, hideIt ⟨?_, ?_⟩⟩
 ·exact (p4.2.block P (Array.getElem?_eq_some_iff.1 p2.1).1 hne).trans p2.1
 ·exact (((o2.set q0 (by decide) (by decide) (by decide) (by decide) (by decide) (by decide)).set q1 (by decide) (by decide) (by decide) (by decide) (by decide) (by decide)).set q2 (by decide) (by decide) (by decide) (by decide) (by decide) (by decide)).set q3 (by decide) (by decide) (by decide) (by decide) (by decide) (by decide)
 ·exact below_out B2 p4.2 (fun k e => by rw [e]; exact hq)
theorem four_heap (w : World) (o p q r : Obj) : ((((w.alloc o).alloc p).alloc q).alloc r).heap[w.heap.size]? = some o ∧ ((((w.alloc o).alloc p).alloc q).alloc r).heap[w.heap.size + 1]? = some p ∧ ((((w.alloc o).alloc p).alloc q).alloc r).heap[w.heap.size + 2]? = some q ∧ ((((w.alloc o).alloc p).alloc q).alloc r).heap[w.heap.size + 3]? = some r ∧ ((((w.alloc o).alloc p).alloc q).alloc r).heap.size = w.heap.size + 4 := by
 obtain ⟨t1, t2, t3, t4⟩ := three_heap w o p q;have h := heap_alloc_new (((w.alloc o).alloc p).alloc q) r;rw [t4] at h;refine ⟨?_, ?_, ?_, h, by simp⟩
 ·rw [heap_alloc_old _ _ (by rw [t4]; omega)]
  exact t1
 ·rw [heap_alloc_old _ _ (by rw [t4]; omega)]
  exact t2
 ·rw [heap_alloc_old _ _ (by rw [t4]; omega)]
  exact t3
theorem below4 (w : World) (o p q r : Obj) : Below w.heap.size w ((((w.alloc o).alloc p).alloc q).alloc r) := (below3 w o p q).alloc (by simp; omega) r
structure DX (w : World) (va vl : Value) (r : ReqV) (M : MdlV) (W : World) : Prop where
 m : W.heap[w.heap.size]? = some (.cells #[va, vl] 30 (0, 0))
 r : W.heap[w.heap.size + 1]? = some (.cells (Se.reqC r) 26 (0, 0))
 p : W.heap[w.heap.size + 2]? = some (.cells #[.slice none 0 0, .slice none 0 0] 30 (0, 0))
 q : W.heap[w.heap.size + 3]? = some (.cells #[.int .i64 0, .int .i64 0, .slice none 0 0, .slice none 0 0] 36 (0, 0))
 md : Mdl W va vl M
 fo : Se.Forms W
 bel : Below w.heap.size w W
theorem DX.keep {w W W' : World} {va vl : Value} {r : ReqV} {M : MdlV} (h : DX w va vl r M W) (hb : Below W.heap.size W W') : DX w va vl r M W' :=
 ⟨blkK h.m hb, blkK h.r hb, blkK h.p hb, blkK h.q hb, h.md.keep hb, h.fo.keep hb, below_via h.bel hb⟩
theorem DX.first {w : World} {va vl : Value} {r : ReqV} {M : MdlV} (h : Mdl w va vl M) (hF : Se.Forms w) : DX w va vl r M ((((w.alloc (.cells #[va, vl] 30)).alloc (.cells (Se.reqC r) 26)).alloc (.cells #[.slice none 0 0, .slice none 0 0] 30)).alloc (.cells #[.int .i64 0, .int .i64 0, .slice none 0 0, .slice none 0 0] 36)) := by
 obtain ⟨t1, t2, t3, t4, _⟩ := four_heap w (.cells #[va, vl] 30) (.cells (Se.reqC r) 26) (.cells #[.slice none 0 0, .slice none 0 0] 30) (.cells #[.int .i64 0, .int .i64 0, .slice none 0 0, .slice none 0 0] 36)
 exact ⟨t1, t2, t3, t4, h.keep (below4 ..), hF.keep (below4 ..), below4 ..⟩
set_option maxRecDepth 100000 in
set_option maxHeartbeats 16000000 in
theorem do_bad (va vl : Value) (M : MdlV) (r : ReqV) (w : World) (h : Mdl w va vl M) (hF : Se.Forms w) (hb0 : mayM M = false ∨ (mayM M = true ∧ Se.fitsB r = false)) : Calls Tryz.prog 10 #[.agg #[va, vl], .agg (Se.reqC r)] w (DoBack (M, ⟨1, 0, [], []⟩) w) := by
 have D0 := hideIt (DX.first (r := r) h hF);clear h hF;unfold Se.reqC at *
 go_enter Tryz.func10, Tryz.ntmps10
 go_upto_region 1 with fail
 generalize (World.alloc _ (.cells #[.int .i64 0, .int .i64 0, .slice none 0 0, .slice none 0 0] 36)) = W0 at *;have HMY := hideIt (mayBe_is va vl M W0 D0.out.md);obtain ⟨⟨m0, m1⟩, -, mz⟩ := at2 D0.out.m
 rcases hb0 with h1 | ⟨h1, h2⟩
 ·rw [h1] at HMY;clear h1
  go_wp2_with fail
  refine HMY.out.mono ?_;rintro e w1 ⟨rfl, hb⟩;dsimp only;have D1 := hideIt (D0.out.keep hb);clear D0 HMY hb m0 m1 mz;have HMD := hideIt (model_is va vl M w1 D1.out.md);obtain ⟨⟨m0, m1⟩, -, mz⟩ := at2 D1.out.m
  go_wp2_with fail
  refine HMD.out.mono ?_;rintro e w9 ⟨a, c, b, d, rfl, ho, hb⟩;dsimp only;have DX9 := hideIt (D1.out.keep hb);obtain ⟨⟨n0, n1⟩, nf, nz⟩ := at2 DX9.out.p;obtain ⟨⟨k0, k1, k2, k3⟩, kf, kz⟩ := at4 DX9.out.q;obtain ⟨W', hW', hP', hQ', hDB⟩ := do_exit (X := (M, ⟨1, 0, [], []⟩)) DX9.out.p DX9.out.q DX9.out.bel (by omega) (by omega) (⟨ho.base D1.out.bel.size, own_nil _ _, own_nil _ _, by simp, by simp⟩ : DoOwn w.heap.size w9 (.slice a M.a.length c) (.slice b M.l.length d) (.slice none 0 0) (.slice none 0 0) (M, ⟨1, 0, [], []⟩));have HW := hideIt (And.intro hW' (And.intro hP' (And.intro hQ' hDB)));clear hW' hP' hQ' hDB ho hb m0 m1 mz HMD;go_wp2;simp only [List.length_nil] at HW;rw [← HW.out.1];exact bodyPost_ret (v := .tuple #[.agg #[.slice a M.a.length c, .slice b M.l.length d], .agg #[.int .i64 1, .int .i64 0, .slice none 0 0, .slice none 0 0]]) (by simp [results, Tryz.results10, go_sem, cell_at HW.out.2.1, cell_at HW.out.2.2.1]) rfl HW.out.2.2.2
 ·rw [h1] at HMY;clear h1
  go_wp2_with fail
  refine HMY.out.mono ?_;rintro e w1 ⟨rfl, hb⟩;dsimp only;have D1 := hideIt (D0.out.keep hb);clear D0 HMY hb m0 m1 mz;have HFI := hideIt (Se.fits_is r w1 D1.out.fo);rw [h2] at HFI;unfold Se.reqC at HFI;have hr := D1.out.r;unfold Se.reqC at hr;obtain ⟨⟨r0, r1, r2, r3, r4, r5, r6, r7, r8, r9, r10⟩, -, rz⟩ := at11 hr;clear hr h2
  go_wp2_with fail
  refine HFI.out.mono ?_;rintro e w2 ⟨rfl, hb⟩;dsimp only;have D2 := hideIt (D1.out.keep hb);clear D1 HFI hb r0 r1 r2 r3 r4 r5 r6 r7 r8 r9 r10 rz;have HMD := hideIt (model_is va vl M w2 D2.out.md);obtain ⟨⟨m0, m1⟩, -, mz⟩ := at2 D2.out.m
  go_wp2_with fail
  refine HMD.out.mono ?_;rintro e w9 ⟨a, c, b, d, rfl, ho, hb⟩;dsimp only;have DX9 := hideIt (D2.out.keep hb);obtain ⟨⟨n0, n1⟩, nf, nz⟩ := at2 DX9.out.p;obtain ⟨⟨k0, k1, k2, k3⟩, kf, kz⟩ := at4 DX9.out.q;obtain ⟨W', hW', hP', hQ', hDB⟩ := do_exit (X := (M, ⟨1, 0, [], []⟩)) DX9.out.p DX9.out.q DX9.out.bel (by omega) (by omega) (⟨ho.base D2.out.bel.size, own_nil _ _, own_nil _ _, by simp, by simp⟩ : DoOwn w.heap.size w9 (.slice a M.a.length c) (.slice b M.l.length d) (.slice none 0 0) (.slice none 0 0) (M, ⟨1, 0, [], []⟩));have HW := hideIt (And.intro hW' (And.intro hP' (And.intro hQ' hDB)));clear hW' hP' hQ' hDB ho hb m0 m1 mz HMD;go_wp2;simp only [List.length_nil] at HW;rw [← HW.out.1];exact bodyPost_ret (v := .tuple #[.agg #[.slice a M.a.length c, .slice b M.l.length d], .agg #[.int .i64 1, .int .i64 0, .slice none 0 0, .slice none 0 0]]) (by simp [results, Tryz.results10, go_sem, cell_at HW.out.2.1, cell_at HW.out.2.2.1]) rfl HW.out.2.2.2
theorem AccsOwn.out {B : Nat} {F : Nat → Prop} {wa wb : World} {v : Value} {l : List AccX} (h : AccsOwn B wa v l) (ho : Out F wa wb) (hF : ∀ k, F k → k < B) : AccsOwn B wb v l := ⟨own_out h.row ho hF, fun c hc => ⟨own_out (h.own c hc).f ho hF, (h.own c hc).s⟩, h.siz⟩
theorem LnsOwn.out {B : Nat} {F : Nat → Prop} {wa wb : World} {v : Value} {l : List LanX} (h : LnsOwn B wa v l) (ho : Out F wa wb) (hF : ∀ k, F k → k < B) : LnsOwn B wb v l := ⟨own_out h.row ho hF, fun c hc => ⟨own_out (h.own c hc).b ho hF, own_out (h.own c hc).a ho hF, own_out (h.own c hc).o ho hF, (h.own c hc).sb, (h.own c hc).sa, (h.own c hc).so⟩, h.siz⟩
theorem row_addr {w : World} {B n z c : Nat} {e : TypeId} {a : Option Addr} {xs : List Value} (h : w.ownsRow B e z (.slice a n c) n xs) (hn : 0 < n) : ∃ g, a = some ⟨g, 0, none⟩ := by
 obtain ⟨_, ⟨hv, h0⟩ | ⟨g, cap, cur, hv, _⟩⟩ := h
 ·omega
 ·simp only [Value.slice.injEq] at hv
  exact ⟨g, hv.1⟩
def wk0 (xs : List AccX) (ga ca : Nat) (ys : List LanX) (gl cl : Nat) (r : ReqV) : WkX := ⟨xs, ga, ca, ys, gl, cl, r, fun _ => 0, 0, none, 0, [], none, 0, [], .slice none 0 0, []⟩
theorem wk0_st (xs : List AccX) (ga ca : Nat) (ys : List LanX) (gl cl : Nat) (r : ReqV) : (wk0 xs ga ca ys gl cl r).st = st0 ⟨xs.map AccX.v, ys.map LanX.v⟩ := rfl
theorem wk_begin {w2 W : World} {K : Nat} {xs : List AccX} {ga ca : Nat} {ys : List LanX} {gl cl : Nat} {r : ReqV} (hbox : W.heap[K]? = some (.cells (wkA (wk0 xs ga ca ys gl cl r)) 69 (0, 0))) (ha : AccsOwn w2.heap.size W (.slice (some ⟨ga, 0, none⟩) xs.length ca) xs) (hl : LnsOwn w2.heap.size W (.slice (some ⟨gl, 0, none⟩) ys.length cl) ys) (hK : w2.heap.size ≤ K) (hb : Below w2.heap.size w2 W) : WK w2 K (wk0 xs ga ca ys gl cl r) W :=
 ⟨hbox, ha, hl, own_nil _ _, own_nil _ _, own_nil _ _, by simp [wk0], by simp [wk0], hK, hb⟩
theorem doAtG (w : World) (K : Nat) (k : Int × Int) (X : WkX) (wx : World) (h : WK w K X wx) (hf : Se.fitsB X.r = true) (hk : k ∈ turL X.r) (ha : X.A.length = 8) (hl : X.L.length = 3) (hc : ∀ y ∈ X.st.l, chkB y = true) : Calls Tryz.prog 24 #[.pointer (some ⟨K, 0, none⟩), .agg #[.int .i64 k.1, .int .i64 k.2]] wx (WkB w K X (stAt X.r k X.st)) := by
 by_cases h9 : X.r.kind = 9
 ·exact doAt9 w K k.1 k.2 X wx h h9
 ·obtain ⟨n, e, hn⟩ := (tur_ok hf h9).2 k hk;obtain ⟨k1, k2⟩ := k;simp only at e hn;subst e;exact doAt_is w K k1 n X wx h (by rw [ha, hl]; exact hn) hf (fun x hx => hc _ (List.mem_map_of_mem hx)) (by omega) h9
theorem step_store_rowK {ops : Array Oper} {o : Oper} {a : Act} {w : World} {K : Act → World → Prop} {Q : Exit → Act → World → Prop} {E : Prop}
  (hgd : o.guard = none) (ty : TypeId) (x y : Operand) (ho : o.op = .store ty x y) (g : Nat) (cells : Array Value) (hx : a.eval x = .pointer (some ⟨g, 0, none⟩)) (hy : a.eval y = .agg cells) (t : TypeId) (old : Array Value) (hg : w.heap[g]? = some (.cells old t (0, 0))) (hi : (Tryz.prog.info? ty).map (·.size) = some cells.size) (hold : old.size = cells.size) (h1 : cells.all (·.oneCell') = true) (hK : K (a.put o.dst undef) (w.setRow g cells)) :
  if Region.wanted o (yielded ops a.tmps) = true then Oper.wp Tryz.prog o a w K Q else E := by
 have hw : Region.wanted o (yielded ops a.tmps) = true := by simp [Region.wanted, hgd]
 rw [if_pos hw];exact wp_store_row ty x y ho g cells hx hy t old hg hi hold h1 hK
theorem setRow_out (w : World) (g : Nat) (cells : Array Value) : Out (fun k => k = g) w (w.setRow g cells) := by
 refine ⟨rfl, rfl, rfl, by simp [World.setRow], fun i hi hn => ?_⟩;simp only [World.setRow];rw [Array.getElem?_modify, if_neg (fun e => hn e.symm)]
theorem DoBack.drew {X : MdlV × AnsV} {w : World} {e : Ending} {w' : World} (h : DoBack X w e w') : DoBack X w e w'.drew := by
 obtain ⟨a, c, b, d, f1, f2, g1, g2, he, ho⟩ := h;have hb := (Below.refl w'.heap.size w').drew
 exact ⟨a, c, b, d, f1, f2, g1, g2, he, hideIt ⟨⟨ho.out.1.m.keep hb, own_keep ho.out.1.am hb, own_keep ho.out.1.fl hb, ho.out.1.sa, ho.out.1.sf⟩, ho.out.2.drew⟩⟩
theorem tur_len (r : ReqV) : (turL r).length ≤ 4 := by
 have h : (Se.keysB r).length ≤ 4 := by
  unfold Se.keysB Se.keyT
  repeat' split
  all_goals simp
 unfold turL
 split
 ·rw [List.length_append, List.length_drop, List.length_take];omega
 ·exact h
set_option maxRecDepth 100000 in
set_option maxHeartbeats 32000000 in
theorem do_run (va vl : Value) (M : MdlV) (r : ReqV) (w : World) (h : Mdl w va vl M) (hF : Se.Forms w) (h1 : mayM M = true) (h2 : Se.fitsB r = true) : Calls Tryz.prog 10 #[.agg #[va, vl], .agg (Se.reqC r)] w (DoBack (doM M r) w) := by
 have HZ : Hid (doM M r = if (runT r (turL r) (st0 M)).2 = 0 then (⟨(runT r (turL r) (st0 M)).1.a, (runT r (turL r) (st0 M)).1.l⟩, ⟨0, (runT r (turL r) (st0 M)).1.num, (runT r (turL r) (st0 M)).1.am, (runT r (turL r) (st0 M)).1.fl⟩) else (M, ⟨6, 0, [], []⟩)) := by
  show _ = _
  unfold doM;rw [h1, h2]
  rfl
 generalize doM M r = ZZ at *;have hmy := may_in h1;have HMI := hideIt hmy;have HFT := hideIt h2;have D0 := hideIt (DX.first (r := r) h hF);clear h hF hmy;unfold Se.reqC at *
 go_enter Tryz.func10, Tryz.ntmps10
 go_upto_region 1 with fail
 generalize (World.alloc _ (.cells #[.int .i64 0, .int .i64 0, .slice none 0 0, .slice none 0 0] 36)) = W0 at *;have HMY := hideIt (mayBe_is va vl M W0 D0.out.md);obtain ⟨⟨m0, m1⟩, -, mz⟩ := at2 D0.out.m;rw [h1] at HMY;clear h1
 go_wp2_with fail
 refine HMY.out.mono ?_;rintro e w1 ⟨rfl, hb⟩;dsimp only;have D1 := hideIt (D0.out.keep hb);clear D0 HMY hb m0 m1 mz;have HFI := hideIt (Se.fits_is r w1 D1.out.fo);rw [h2] at HFI;unfold Se.reqC at HFI;have hr := D1.out.r;unfold Se.reqC at hr;obtain ⟨⟨r0, r1, r2, r3, r4, r5, r6, r7, r8, r9, r10⟩, -, rz⟩ := at11 hr;clear hr h2
 go_wp2_with fail
 refine HFI.out.mono ?_;rintro e w2 ⟨rfl, hb⟩;dsimp only;have D2 := hideIt (D1.out.keep hb);clear D1 HFI hb r0 r1 r2 r3 r4 r5 r6 r7 r8 r9 r10 rz
 go_upto_region 3 with fail
 have HFA : Hid (∀ W, Below w2.heap.size w2 W → W.cell? ⟨w.heap.size, 0, none⟩ = some va ∧ W.cell? ⟨w.heap.size, 1, none⟩ = some vl ∧ W.cell? ⟨w.heap.size + 1, 0, none⟩ = some (.int .i64 r.kind) ∧ W.cell? ⟨w.heap.size + 1, 1, none⟩ = some (.int .i64 r.acct) ∧ W.cell? ⟨w.heap.size + 1, 2, none⟩ = some (.int .i64 r.lane) ∧ W.cell? ⟨w.heap.size + 1, 3, none⟩ = some (.int .i64 r.asset) ∧ W.cell? ⟨w.heap.size + 1, 4, none⟩ = some (.int .i64 r.side) ∧ W.cell? ⟨w.heap.size + 1, 5, none⟩ = some (.int .i64 r.price) ∧ W.cell? ⟨w.heap.size + 1, 6, none⟩ = some (.int .i64 r.n) ∧ W.cell? ⟨w.heap.size + 1, 7, none⟩ = some (.bool r.now) ∧ W.cell? ⟨w.heap.size + 1, 8, none⟩ = some (.int .i64 r.key.1) ∧ W.cell? ⟨w.heap.size + 1, 9, none⟩ = some (.int .i64 r.key.2) ∧ W.cell? ⟨w.heap.size + 1, 10, none⟩ = some (.int .i64 r.dst)) := by
  intro W hW;have dx := D2.out.keep hW;obtain ⟨⟨p0, p1⟩, -, -⟩ := at2 dx.m;have hr := dx.r;unfold Se.reqC at hr;obtain ⟨⟨r0, r1, r2, r3, r4, r5, r6, r7, r8, r9, r10⟩, -, -⟩ := at11 hr
  exact ⟨p0, p1, r0, r1, r2, r3, r4, r5, r6, r7, r8, r9, r10⟩
 have HCY : Hid (∀ W, Below w2.heap.size w2 W → Calls Tryz.prog 22 #[.agg #[va, vl]] W fun e w' => ∃ a c b d, e = .returned (.agg #[.slice a M.a.length c, .slice b M.l.length d]) ∧ Hid (MdlOwn W.heap.size w' (.slice a M.a.length c) (.slice b M.l.length d) M ∧ Below w2.heap.size w2 w' ∧ Below W.heap.size W w') ∧ (w'.cell? ⟨w.heap.size, 0, none⟩ = some va ∧ w'.cell? ⟨w.heap.size, 1, none⟩ = some vl ∧ w'.cell? ⟨w.heap.size + 1, 0, none⟩ = some (.int .i64 r.kind) ∧ w'.cell? ⟨w.heap.size + 1, 1, none⟩ = some (.int .i64 r.acct) ∧ w'.cell? ⟨w.heap.size + 1, 2, none⟩ = some (.int .i64 r.lane) ∧ w'.cell? ⟨w.heap.size + 1, 3, none⟩ = some (.int .i64 r.asset) ∧ w'.cell? ⟨w.heap.size + 1, 4, none⟩ = some (.int .i64 r.side) ∧ w'.cell? ⟨w.heap.size + 1, 5, none⟩ = some (.int .i64 r.price) ∧ w'.cell? ⟨w.heap.size + 1, 6, none⟩ = some (.int .i64 r.n) ∧ w'.cell? ⟨w.heap.size + 1, 7, none⟩ = some (.bool r.now) ∧ w'.cell? ⟨w.heap.size + 1, 8, none⟩ = some (.int .i64 r.key.1) ∧ w'.cell? ⟨w.heap.size + 1, 9, none⟩ = some (.int .i64 r.key.2) ∧ w'.cell? ⟨w.heap.size + 1, 10, none⟩ = some (.int .i64 r.dst))) := by
  intro W hW;refine (model_is va vl M W (D2.out.md.keep hW)).mono ?_;rintro e w' ⟨a, c, b, d, rfl, ho, hb⟩
  exact ⟨a, c, b, d, rfl, hideIt ⟨ho, below_via hW hb, hb⟩, HFA.out w' (below_via hW hb)⟩
 obtain ⟨p0, p1, r0, r1, r2, r3, r4, r5, r6, r7, r8, r9, r10⟩ := HFA.out w2 (Below.refl _ _);have NA : ∀ x, (w2.alloc x).cell? ⟨w.heap.size, 0, none⟩ = some va := fun x => (HFA.out _ (below1 w2 x)).1
 have zs := D2.out.q;have zl : w.heap.size + 3 < w2.heap.size := (Array.getElem?_eq_some_iff.1 zs).1;have y1 : w2.heap.size ≠ w.heap.size := by omega
 have y2 : w2.heap.size ≠ w.heap.size + 1 := by omega
 have y3 : w.heap.size ≠ w2.heap.size := by omega
 have y4 : w.heap.size + 1 ≠ w2.heap.size := by omega
 have ZF : Hid (∀ w', Below (w2.alloc (.cells #[.slice none 0 0, .slice none 0 0, .int .i64 0, .int .i64 0, .int .i64 0, .int .i64 0, .int .i64 0, .int .i64 0, .int .i64 0, .bool false, .int .i64 0, .int .i64 0, .int .i64 0, .int .i64 0, .int .i64 0, .int .i64 0, .int .i64 0, .int .i64 0, .int .i64 0, .slice none 0 0, .slice none 0 0] 69)).heap.size (w2.alloc (.cells #[.slice none 0 0, .slice none 0 0, .int .i64 0, .int .i64 0, .int .i64 0, .int .i64 0, .int .i64 0, .int .i64 0, .int .i64 0, .bool false, .int .i64 0, .int .i64 0, .int .i64 0, .int .i64 0, .int .i64 0, .int .i64 0, .int .i64 0, .int .i64 0, .int .i64 0, .slice none 0 0, .slice none 0 0] 69)) w' → w'.heap[w2.heap.size]? = some (.cells #[.slice none 0 0, .slice none 0 0, .int .i64 0, .int .i64 0, .int .i64 0, .int .i64 0, .int .i64 0, .int .i64 0, .int .i64 0, .bool false, .int .i64 0, .int .i64 0, .int .i64 0, .int .i64 0, .int .i64 0, .int .i64 0, .int .i64 0, .int .i64 0, .int .i64 0, .slice none 0 0, .slice none 0 0] 69 (0, 0))) := fun w' hb => (hb.block w2.heap.size (by simp)).trans (heap_alloc_new w2 _)
 clear NA zs
 go_cut [6] from 21 to 24 (fun x wx => ∃ K xs ga ca ys gl cl, x = .pointer (some ⟨K, 0, none⟩) ∧ Hid (WK w2 K (wk0 xs ga ca ys gl cl r) wx ∧ xs.map AccX.v = M.a ∧ ys.map LanX.v = M.l))
 case first =>
  clear HZ D2;have HMI2 := hideIt (And.intro HMI.out.1 HMI.out.2.1);clear HMI HFT;refine wp_region_held_drew (S := fun W => W.cell? ⟨w.heap.size, 0, none⟩ = some va ∧ W.cell? ⟨w.heap.size, 1, none⟩ = some vl ∧ W.cell? ⟨w.heap.size + 1, 0, none⟩ = some (.int .i64 r.kind) ∧ W.cell? ⟨w.heap.size + 1, 1, none⟩ = some (.int .i64 r.acct) ∧ W.cell? ⟨w.heap.size + 1, 2, none⟩ = some (.int .i64 r.lane) ∧ W.cell? ⟨w.heap.size + 1, 3, none⟩ = some (.int .i64 r.asset) ∧ W.cell? ⟨w.heap.size + 1, 4, none⟩ = some (.int .i64 r.side) ∧ W.cell? ⟨w.heap.size + 1, 5, none⟩ = some (.int .i64 r.price) ∧ W.cell? ⟨w.heap.size + 1, 6, none⟩ = some (.int .i64 r.n) ∧ W.cell? ⟨w.heap.size + 1, 7, none⟩ = some (.bool r.now) ∧ W.cell? ⟨w.heap.size + 1, 8, none⟩ = some (.int .i64 r.key.1) ∧ W.cell? ⟨w.heap.size + 1, 9, none⟩ = some (.int .i64 r.key.2) ∧ W.cell? ⟨w.heap.size + 1, 10, none⟩ = some (.int .i64 r.dst)) (by rfl) (HFA.out _ (Below.refl _ _).drew) (fun hHeld => ?_);refine wpAnyH_take (i := 0) (oi := ⟨some 21, _, _, _, _, _⟩) (v := ?_) rfl (by kernel_rfl) (by kernel_rfl) (by kernel_rfl) (fun _ _ _ h => h) (Or.inl ⟨by rfl, ?_⟩) (by assumption) ?_
  rotate_left
  ·intro w5 hSw
   (try dsimp only at hSw)
   go_simp
   (try with_reducible rfl)
  try simp only [Act.put, List.setIfInBounds_toArray, List.set_cons_zero, List.set_cons_succ]
  refine wpAnyH_take (i := 2) (oi := ⟨some 23, _, _, _, _, _⟩) (v := ?_) rfl (by kernel_rfl) (by kernel_rfl) (by kernel_rfl) (fun _ _ _ h => h) (Or.inl ⟨by rfl, ?_⟩) (by assumption) ?_
  rotate_left
  ·intro w5 hSw
   (try dsimp only at hSw)
   go_simp
   (try with_reducible rfl)
  try simp only [Act.put, List.setIfInBounds_toArray, List.set_cons_zero, List.set_cons_succ]
  refine wpAnyH_ready (rs := [1, 4]) (by kernel_rfl) (by simp) ?_;refine AllReadyH.cons (o := ⟨some 22, _, _, _, _, _⟩) rfl (fun Kx hK => ?_) (AllReadyH.cons (o := ⟨some 6, _, _, _, _, _⟩) rfl (fun Kx hK => ?_) AllReadyH.nil)
  ·-- the call first
   go_simp
   go_at_call 22
   refine (HCY.out _ (by first | exact (below1 _ _).drew | exact below1 _ _ | exact (Below.refl _ _).drew)).mono ?_;rintro e w5 ⟨a, c, b, d, rfl, HQ, hH5⟩;refine hK.out _ _ hH5 (fun hHeld => ?_);clear hH5;clear hK Kx
   try simp only [Act.put, List.setIfInBounds_toArray, List.set_cons_zero, List.set_cons_succ]
   refine wpAnyH_take (i := 3) (oi := ⟨some 24, _, _, _, _, _⟩) (v := ?_) rfl (by kernel_rfl) (by kernel_rfl) (by kernel_rfl) (fun _ _ _ h => h) (Or.inl ⟨by rfl, ?_⟩) (by assumption) ?_
   rotate_left
   ·intro w5 hSw
    (try dsimp only at hSw)
    go_simp
    (try with_reducible rfl)
   try simp only [Act.put, List.setIfInBounds_toArray, List.set_cons_zero, List.set_cons_succ]
   refine wpAnyH_ready (rs := [4]) (by kernel_rfl) (by simp) ?_;refine (AllReadyH.cons (o := ⟨some 6, _, _, _, _, _⟩) rfl (fun Kx hK => ?_) AllReadyH.nil);go_simp;refine hK.out _ _ (by first | exact HFA.out _ (below1 _ _).drew | exact HFA.out _ (below1 _ _) | exact HFA.out _ (below_via HQ.out.2.1 (below1 _ _))) (fun hHeld => ?_);clear hK Kx
   try simp only [Act.put, List.setIfInBounds_toArray, List.set_cons_zero, List.set_cons_succ]
   refine wpAnyH_ready (rs := [5]) (by kernel_rfl) (by simp) ?_;refine (AllReadyH.cons (o := ⟨none, _, _, _, _, _⟩) rfl (fun Kx hK => ?_) AllReadyH.nil);refine step_store_rowK rfl 69 _ _ rfl w5.heap.size #[.slice a M.a.length c, .slice b M.l.length d, .int .i64 r.kind, .int .i64 r.acct, .int .i64 r.lane, .int .i64 r.asset, .int .i64 r.side, .int .i64 r.price, .int .i64 r.n, .bool r.now, .int .i64 r.key.1, .int .i64 r.key.2, .int .i64 r.dst, .int .i64 0, .int .i64 0, .int .i64 0, .int .i64 0, .int .i64 0, .int .i64 0, .slice none 0 0, .slice none 0 0] rfl rfl _ #[.slice none 0 0, .slice none 0 0, .int .i64 0, .int .i64 0, .int .i64 0, .int .i64 0, .int .i64 0, .int .i64 0, .int .i64 0, .bool false, .int .i64 0, .int .i64 0, .int .i64 0, .int .i64 0, .int .i64 0, .int .i64 0, .int .i64 0, .int .i64 0, .int .i64 0, .slice none 0 0, .slice none 0 0] (heap_alloc_new w5 _) (by kernel_rfl) rfl (by simp [Value.oneCell']) ?_;rw [World.setRow_alloc_new];refine hK.out _ _ (HFA.out _ (below_via HQ.out.2.1 (below1 w5 _))) (fun hHeld => ?_);clear hK Kx
   try simp only [Act.put, List.setIfInBounds_toArray, List.set_cons_zero, List.set_cons_succ]
   refine wpAnyH_done (by kernel_rfl) ?_ _;clear hHeld HFA HCY ZF
   go_wp2_with fail
   go_meet
   obtain ⟨⟨xs, hx, ha⟩, ys, hy, hl⟩ := HQ.out.1;have hxl : M.a.length = xs.length := by rw [← hx, List.length_map]
   have hyl : M.l.length = ys.length := by rw [← hy, List.length_map]
   have hx8 : xs.length = 8 := by rw [← hxl]; exact HMI2.out.1
   have hy3 : ys.length = 3 := by rw [← hyl]; exact HMI2.out.2
   rw [hxl] at ha;rw [hyl] at hl;obtain ⟨ga, rfl⟩ := row_addr ha.row (by omega);obtain ⟨gl, rfl⟩ := row_addr hl.row (by omega);rw [hxl, hyl];have hb1 := below1 w5 (.cells (wkA (wk0 xs ga c ys gl d r)) 69)
   exact ⟨w5.heap.size, xs, ga, c, ys, gl, d, rfl, hideIt ⟨wk_begin (heap_alloc_new w5 _) ((ha.keep hb1).base (Nat.le_refl _)) ((hl.keep hb1).base (Nat.le_refl _)) HQ.out.2.1.size (below_via HQ.out.2.1 hb1), hx, hy⟩⟩
  ·-- the box first
   go_simp;refine hK.out _ _ (by first | exact HFA.out _ (below1 _ _).drew | exact HFA.out _ (below1 _ _) | exact HFA.out _ (below_via HQ.out.2.1 (below1 _ _))) (fun hHeld => ?_);clear hK Kx
   try simp only [Act.put, List.setIfInBounds_toArray, List.set_cons_zero, List.set_cons_succ]
   refine wpAnyH_ready (rs := [1]) (by kernel_rfl) (by simp) ?_;refine (AllReadyH.cons (o := ⟨some 22, _, _, _, _, _⟩) rfl (fun Kx hK => ?_) AllReadyH.nil);go_simp
   go_at_call 22
   refine (HCY.out _ (by first | exact (below1 _ _).drew | exact below1 _ _ | exact (Below.refl _ _).drew)).mono ?_;rintro e w5 ⟨a, c, b, d, rfl, HQ, hH5⟩;refine hK.out _ _ hH5 (fun hHeld => ?_);clear hH5;clear hK Kx
   try simp only [Act.put, List.setIfInBounds_toArray, List.set_cons_zero, List.set_cons_succ]
   refine wpAnyH_take (i := 3) (oi := ⟨some 24, _, _, _, _, _⟩) (v := ?_) rfl (by kernel_rfl) (by kernel_rfl) (by kernel_rfl) (fun _ _ _ h => h) (Or.inl ⟨by rfl, ?_⟩) (by assumption) ?_
   rotate_left
   ·intro w5 hSw
    (try dsimp only at hSw)
    go_simp
    (try with_reducible rfl)
   try simp only [Act.put, List.setIfInBounds_toArray, List.set_cons_zero, List.set_cons_succ]
   refine wpAnyH_ready (rs := [5]) (by kernel_rfl) (by simp) ?_;refine (AllReadyH.cons (o := ⟨none, _, _, _, _, _⟩) rfl (fun Kx hK => ?_) AllReadyH.nil);have hz5 := ZF.out w5 (below_via (by first | exact (Below.refl _ _).drew | exact Below.refl _ _) HQ.out.2.2);refine step_store_rowK rfl 69 _ _ rfl w2.heap.size #[.slice a M.a.length c, .slice b M.l.length d, .int .i64 r.kind, .int .i64 r.acct, .int .i64 r.lane, .int .i64 r.asset, .int .i64 r.side, .int .i64 r.price, .int .i64 r.n, .bool r.now, .int .i64 r.key.1, .int .i64 r.key.2, .int .i64 r.dst, .int .i64 0, .int .i64 0, .int .i64 0, .int .i64 0, .int .i64 0, .int .i64 0, .slice none 0 0, .slice none 0 0] rfl rfl _ #[.slice none 0 0, .slice none 0 0, .int .i64 0, .int .i64 0, .int .i64 0, .int .i64 0, .int .i64 0, .int .i64 0, .int .i64 0, .bool false, .int .i64 0, .int .i64 0, .int .i64 0, .int .i64 0, .int .i64 0, .int .i64 0, .int .i64 0, .int .i64 0, .int .i64 0, .slice none 0 0, .slice none 0 0] hz5 (by kernel_rfl) rfl (by simp [Value.oneCell']) ?_;have hrow := setRow_heap w5 w2.heap.size #[.slice none 0 0, .slice none 0 0, .int .i64 0, .int .i64 0, .int .i64 0, .int .i64 0, .int .i64 0, .int .i64 0, .int .i64 0, .bool false, .int .i64 0, .int .i64 0, .int .i64 0, .int .i64 0, .int .i64 0, .int .i64 0, .int .i64 0, .int .i64 0, .int .i64 0, .slice none 0 0, .slice none 0 0] #[.slice a M.a.length c, .slice b M.l.length d, .int .i64 r.kind, .int .i64 r.acct, .int .i64 r.lane, .int .i64 r.asset, .int .i64 r.side, .int .i64 r.price, .int .i64 r.n, .bool r.now, .int .i64 r.key.1, .int .i64 r.key.2, .int .i64 r.dst, .int .i64 0, .int .i64 0, .int .i64 0, .int .i64 0, .int .i64 0, .int .i64 0, .slice none 0 0, .slice none 0 0] 69 (0, 0) hz5;have hout := setRow_out w5 w2.heap.size #[.slice a M.a.length c, .slice b M.l.length d, .int .i64 r.kind, .int .i64 r.acct, .int .i64 r.lane, .int .i64 r.asset, .int .i64 r.side, .int .i64 r.price, .int .i64 r.n, .bool r.now, .int .i64 r.key.1, .int .i64 r.key.2, .int .i64 r.dst, .int .i64 0, .int .i64 0, .int .i64 0, .int .i64 0, .int .i64 0, .int .i64 0, .slice none 0 0, .slice none 0 0];refine hK.out _ _ (HFA.out _ (below_out HQ.out.2.1 hout (fun k e => by omega))) (fun hHeld => ?_);clear hK Kx
   try simp only [Act.put, List.setIfInBounds_toArray, List.set_cons_zero, List.set_cons_succ]
   refine wpAnyH_done (by kernel_rfl) ?_ _;clear hHeld HFA HCY ZF
   go_wp2_with fail
   go_meet
   obtain ⟨⟨xs, hx, ha⟩, ys, hy, hl⟩ := HQ.out.1;have hxl : M.a.length = xs.length := by rw [← hx, List.length_map]
   have hyl : M.l.length = ys.length := by rw [← hy, List.length_map]
   have hx8 : xs.length = 8 := by rw [← hxl]; exact HMI2.out.1
   have hy3 : ys.length = 3 := by rw [← hyl]; exact HMI2.out.2
   rw [hxl] at ha;rw [hyl] at hl;obtain ⟨ga, rfl⟩ := row_addr ha.row (by omega);obtain ⟨gl, rfl⟩ := row_addr hl.row (by omega);rw [hxl, hyl] at hrow hout ⊢;have hBs : w2.heap.size < (w2.alloc (.cells #[.slice none 0 0, .slice none 0 0, .int .i64 0, .int .i64 0, .int .i64 0, .int .i64 0, .int .i64 0, .int .i64 0, .int .i64 0, .bool false, .int .i64 0, .int .i64 0, .int .i64 0, .int .i64 0, .int .i64 0, .int .i64 0, .int .i64 0, .int .i64 0, .int .i64 0, .slice none 0 0, .slice none 0 0] 69)).drew.heap.size := by
    show w2.heap.size < (w2.alloc _).heap.size
    simp
   exact ⟨w2.heap.size, xs, ga, c, ys, gl, d, rfl, hideIt ⟨wk_begin hrow ((ha.out hout (fun k e => by rw [e]; exact hBs)).base (Nat.le_of_lt hBs)) ((hl.out hout (fun k e => by rw [e]; exact hBs)).base (Nat.le_of_lt hBs)) (Nat.le_refl _) (below_out HQ.out.2.1 hout (fun k e => by omega)), hx, hy⟩⟩
 case rest =>
 obtain ⟨K, xs, ga, ca, ys, gl, cl, rfl, HK⟩ := hcut;clear HCY ZF y1 y2 y3 y4 p0 p1 r0 r1 r2 r3 r4 r5 r6 r7 r8 r9 r10 HFA;have hmi := HMI.out;have hx8 : xs.length = 8 := by rw [← List.length_map (f := AccX.v), HK.out.2.1]; exact hmi.1
 have hy3 : ys.length = 3 := by rw [← List.length_map (f := LanX.v), HK.out.2.2]; exact hmi.2.1
 have hst : (wk0 xs ga ca ys gl cl r).st = st0 M := by
  rw [wk0_st, HK.out.2.1, HK.out.2.2]
 have HWK := hideIt HK.out.1;have HCH := hideIt hmi.2.2.2;have HST := hideIt hst;have HX8 := hideIt (And.intro hx8 hy3);clear hmi hx8 hy3 hst HK HMI;have DC := hideIt (D2.out.keep HWK.out.bel);have HTU := hideIt (turns_is r wc DC.out.fo HFT.out);unfold Se.reqC at HTU;unfold TurB at HTU;have hr := DC.out.r;unfold Se.reqC at hr;obtain ⟨⟨r0, r1, r2, r3, r4, r5, r6, r7, r8, r9, r10⟩, -, rz⟩ := at11 hr;clear hr
 go_wp2_with fail
 refine HTU.out.mono ?_;rintro e w4 ⟨ka, kc, rfl, hko, hb⟩;dsimp only;have D4 := hideIt (D2.out.keep (below_via HWK.out.bel hb));have HW4 : Hid (WK w2 K {wk0 xs ga ca ys gl cl r with kv := .slice ka (turL r).length kc, ks := turL r} w4) := by
  have k := HWK.out.keep hb
  exact ⟨k.box, k.ac, k.ln, k.am, k.fl, own_base hko HWK.out.bel.size, k.sam, k.sfl, k.hK, k.bel⟩
 clear HTU hko hb r0 r1 r2 r3 r4 r5 r6 r7 r8 r9 r10 rz DC HWK;obtain ⟨TL, hTL⟩ : ∃ TL, TL = turL r := ⟨_, rfl⟩;have HTL := hideIt hTL;rw [← hTL] at HW4 HZ ⊢;clear hTL;have HS : Hid (runT r (TL.drop 0) (wk0 xs ga ca ys gl cl r).st = runT r TL (st0 M)) := by
  show _ = _
  rw [List.drop_zero, HST.out]
 go_upto_region 5 with fail
 go_loopw [28] (fun v wr => ∃ (t : Nat) (X : WkX), v = .int .i64 t ∧ t ≤ TL.length ∧ Hid (runT r (TL.drop t) X.st = runT r TL (st0 M) ∧ (X.r = r ∧ X.kv = .slice ka TL.length kc ∧ X.ks = TL ∧ X.A.length = 8 ∧ X.L.length = 3) ∧ (∀ y ∈ X.st.l, chkB y = true) ∧ WK w2 K X wr)) (fun v _ => TL.length - (intOf v).toNat)
 case atStart =>
  refine ⟨0, {wk0 xs ga ca ys gl cl r with kv := .slice ka TL.length kc, ks := TL}, rfl, Nat.zero_le _, hideIt ⟨HS.out, ⟨rfl, rfl, rfl, HX8.out.1, HX8.out.2⟩, ?_, HW4.out⟩⟩;intro y hy;have : y ∈ (wk0 xs ga ca ys gl cl r).st.l := hy;rw [HST.out] at this;exact HCH.out y this
 case round =>
  clear HW4 HS;obtain ⟨t, X, rfl, ht, HR⟩ := hrel
  by_cases hlt : t < TL.length
  ·have hltI : (t : Int) < (TL.length : Int) := by omega
   have ht0 : (0 : Int) ≤ (t : Int) := by omega
   have hky := HR.out.2.2.2.ky;rw [HR.out.2.1.2.1, HR.out.2.1.2.2.1] at hky;have hbd : TL.length * 16 ≤ 140737488355328 := by
    have := tur_len r;rw [← HTL.out] at this;omega
   obtain ⟨_, ka', kc', hke, _, hkr⟩ := Se.own_sgot (bytes := 16) hky hbd;obtain ⟨b, off, hkb, hbl, hkc⟩ := hkr (by omega);simp only [Value.slice.injEq] at hke;obtain ⟨rfl, _, rfl⟩ := hke;subst hkb;have q0 := (hkc (t * 2) (by omega)).trans (Se.celC_get Se.keyK TL t hlt 0 (by omega));have q1 := (hkc (t * 2 + 1) (by omega)).trans (Se.celC_get Se.keyK TL t hlt 1 (by omega));rw [← Nat.add_assoc] at q1;have HSTEP := hideIt (runT_step r X.st hlt);have hmem : TL[t] ∈ turL r := by rw [← HTL.out]; exact List.getElem_mem hlt
   have HME := hideIt hmem;have HRE := hideIt HR.out.1;have HRX := hideIt HR.out.2.1;have HRC := hideIt HR.out.2.2.1;have HRW := hideIt HR.out.2.2.2;clear HR hky hkc hkr hbd hmem;generalize TL[t] = kk at *;obtain ⟨k1, k2⟩ := kk;simp only [Se.keyE, List.getElem?_cons_zero, List.getElem?_cons_succ] at q0 q1;have hb1 := below1 wr (.cells #[.int .i64 k1, .int .i64 k2] 24);have HC := hideIt (doAtG w2 K (k1, k2) X _ (HRW.out.keep hb1) (by rw [HRX.out.1]; exact HFT.out) (by rw [HRX.out.1]; exact HME.out) HRX.out.2.2.2.1 HRX.out.2.2.2.2 HRC.out)
   rw [HRX.out.1] at HC;have HCHK := hideIt (fun h0 => stAt_chk (r := r) (k := (k1, k2)) HRC.out h0);unfold WkB at HC;generalize stAt r (k1, k2) X.st = Z at *;obtain ⟨ZS, ze⟩ := Z;simp only at HC HSTEP HCHK;clear hb1 HME HRC HRW
   go_wp2_with fail
   refine HC.out.mono ?_;rintro e w5 ⟨X', rfl, g1, g2, g3, g4, g5⟩;dsimp only;have HX5 := hideIt (And.intro g1 (And.intro g2 (And.intro g3 (And.intro g4 g5))));have hse := HSTEP.out;clear g1 g2 g3 g4 g5 HC q0 q1 HSTEP
   by_cases her : ze = 0
   ·have herb : (ze == 0) = true := beq_iff_eq.2 her;rw [if_pos her] at hse;have HSE := hideIt hse;have HCK := hideIt (HCHK.out her);clear hse HCHK her;go_wp2
    go_roundw
    case rel =>
     refine ⟨t + 1, X', by go_num, by omega, hideIt ⟨?_, ?_, ?_, HX5.out.2.2.2.2⟩⟩
     ·rw [HX5.out.1, ← HSE.out];exact HRE.out
     ·have q2 := HX5.out.2.1;unfold WkX.fx at q2;simp only [Prod.mk.injEq] at q2
      exact ⟨q2.1.trans HRX.out.1, q2.2.2.2.2.2.1.trans HRX.out.2.1, q2.2.2.2.2.2.2.trans HRX.out.2.2.1, HX5.out.2.2.1.trans HRX.out.2.2.2.1, HX5.out.2.2.2.1.trans HRX.out.2.2.2.2⟩
     ·rw [HX5.out.1];exact HCK.out
    case measure => simp [intOf]; omega
   ·have herb : (ze == 0) = false := beq_eq_false_iff_ne.2 her;rw [if_neg her] at hse;have hzz : ZZ = (M, ⟨6, 0, [], []⟩) := by
     rw [HZ.out, ← HRE.out, hse, if_neg her]
    have HZZ := hideIt hzz;have D5 := hideIt (D2.out.keep HX5.out.2.2.2.2.bel);clear hse hzz her HZ HRE HRX HX5 HCHK;have HMD := hideIt (model_is va vl M w5 D5.out.md);obtain ⟨⟨m0, m1⟩, -, mz⟩ := at2 D5.out.m
    go_wp2_with fail
    refine HMD.out.mono ?_;rintro e w9 ⟨a, c, b, d, rfl, ho, hb⟩;dsimp only;have DX9 := hideIt (D5.out.keep hb);obtain ⟨⟨n0, n1⟩, nf, nz⟩ := at2 DX9.out.p;obtain ⟨⟨k0, k1, k2, k3⟩, kf, kz⟩ := at4 DX9.out.q;obtain ⟨W', hW', hP', hQ', hDB⟩ := do_exit (X := (M, ⟨6, 0, [], []⟩)) DX9.out.p DX9.out.q DX9.out.bel (by omega) (by omega) (⟨ho.base D5.out.bel.size, own_nil _ _, own_nil _ _, by simp, by simp⟩ : DoOwn w.heap.size w9 (.slice a M.a.length c) (.slice b M.l.length d) (.slice none 0 0) (.slice none 0 0) (M, ⟨6, 0, [], []⟩));have HW := hideIt (And.intro hW' (And.intro hP' (And.intro hQ' hDB)));clear hW' hP' hQ' hDB ho hb m0 m1 mz HMD;go_wp2;simp only [List.length_nil] at HW;rw [← HW.out.1];rw [HZZ.out];exact bodyPost_ret (v := .tuple #[.agg #[.slice a M.a.length c, .slice b M.l.length d], .agg #[.int .i64 6, .int .i64 0, .slice none 0 0, .slice none 0 0]]) (by simp [results, Tryz.results10, go_sem, cell_at HW.out.2.1, cell_at HW.out.2.2.1]) rfl HW.out.2.2.2
  ·have hltI : ¬ (t : Int) < (TL.length : Int) := by omega
   obtain rfl : t = TL.length := by omega
   have hre := HR.out.1;rw [List.drop_length] at hre;have hre2 : runT r TL (st0 M) = (X.st, 0) := hre.symm;have hzz : ZZ = (⟨X.st.a, X.st.l⟩, ⟨0, X.st.num, X.st.am, X.st.fl⟩) := by
    rw [HZ.out, hre2, if_pos rfl]
   have HZZ := hideIt hzz;have HWX := hideIt HR.out.2.2.2;have DX9 := hideIt (D2.out.keep HWX.out.bel);clear hre hre2 hzz HR HZ HX8 HTL;obtain ⟨⟨d0, d1, d2, d3, d4, d5, d6, d7, d8, d9, d10, d11, d12, d13, d14, d15, d16, d17, d18, d19, d20⟩, df, dz⟩ := at21 HWX.out.box;clear d2 d3 d4 d5 d6 d7 d8 d9 d10 d11 d12 d13 d14 d15 d16 df;obtain ⟨⟨n0, n1⟩, nf, nz⟩ := at2 DX9.out.p;obtain ⟨⟨k0, k1, k2, k3⟩, kf, kz⟩ := at4 DX9.out.q;have hKp := ty_ne HWX.out.box DX9.out.p (by decide);have hKq := ty_ne HWX.out.box DX9.out.q (by decide);have hpK := hKp.symm;have hqK := hKq.symm;have hs2 := D2.out.bel.size;have e1 : X.A.length = X.st.a.length := by simp [WkX.st]
   have e2 : X.L.length = X.st.l.length := by simp [WkX.st]
   obtain ⟨W', hW', hP', hQ', hDB⟩ := do_exit (X := (⟨X.st.a, X.st.l⟩, ⟨0, X.st.num, X.st.am, X.st.fl⟩)) (a := some ⟨X.ga, 0, none⟩) (c := X.ca) (b := some ⟨X.gl, 0, none⟩) (d := X.cl) (f1 := X.fm) (f2 := X.cm) (g1 := X.ff) (g2 := X.cf) DX9.out.p DX9.out.q DX9.out.bel (by omega) (by omega) ⟨⟨⟨X.A, rfl, by rw [← e1]; exact HWX.out.ac.base hs2⟩, X.L, rfl, by rw [← e2]; exact HWX.out.ln.base hs2⟩, own_base HWX.out.am hs2, own_base HWX.out.fl hs2, HWX.out.sam, HWX.out.sfl⟩
   have HW := hideIt (And.intro hW' (And.intro hP' (And.intro hQ' hDB)));clear hW' hP' hQ' hDB;simp only at HW;rw [← e1, ← e2] at HW;clear e1 e2
   go_upto_region 11 with fail
   go_region
   go_wp2;generalize hG : (World.setCell _ ⟨w.heap.size + 1 + 1 + 1, 3, none⟩ _) = G;obtain ⟨hW, hP, hQ, hD⟩ := HW.out;have hGW : G = W' := hG.symm.trans hW.symm;subst hGW;rw [HZZ.out];have c0 := (cell_at hP 0);have c1 := (cell_at hP 1);have e0 := (cell_at hQ 0);have e1 := (cell_at hQ 1);have e2 := (cell_at hQ 2);have e3 := (cell_at hQ 3);clear hG hW HW HZZ;refine bodyPost_ret (v := .tuple #[.agg #[.slice (some ⟨X.ga, 0, none⟩) X.A.length X.ca, .slice (some ⟨X.gl, 0, none⟩) X.L.length X.cl], .agg #[.int .i64 0, .int .i64 X.st.num, .slice X.fm X.st.am.length X.cm, .slice X.ff X.st.fl.length X.cf]]) (by simp [results, Tryz.results10, go_sem, c0, c1, e0, e1, e2, e3]) rfl hD.drew
end Go.Proofs.YtiinigifjdpicaaGreatDoor
