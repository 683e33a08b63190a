/- Texts of my own, laid together. -/
import Derived.Test.YtcaehfkfohianaaGreatPz17
import Derived.Test.YtcaehfkfohianaaGreatPz23
import Derived.Test.YtcaehfkfohianaaGreatPz18
import Derived.Test.YtcaehfkfohianaaGreatPz14
import Derived.Test.YtcaehfkfohianaaGreatPz08
import Derived.Deep.RegionLaw
import Derived.Deep.CutRange
import Derived.BigQuiet
import Derived.WalkSmall
set_option linter.all false
namespace Go.Proofs.YtcaehfkfohianaaGreat
open Go.RowKit
structure KptV where
 ht : Int
 hv : Int
 si : Int
 st : Int
 tx : ByteArray
 l : List EntV
def ent4 (e : EntV) : Bool := wiB e.term 1 1000000 && ((e.kind == 1 || e.kind == 2) && decide (e.text.size ≤ 4000))
def fitK (k : KptV) (r : RecV) : Bool :=
 if r.kind = 1 then wiB r.ht 0 1000000 && wiB r.hv 0 7
 else if r.kind = 2 then wiB r.at_ (k.si + 1) (k.si + (k.l.length : Int) + 1) && (decide (r.es.length ≤ 400) && (decide (r.at_ - k.si - 1 + (r.es.length : Int) ≤ 400) && r.es.all ent4))
 else if r.kind = 3 then decide (k.si < r.si ∧ r.si ≤ 1000000) && (wiB r.st 1 1000000 && decide (r.tx.size ≤ 50000))
 else false
def foldK (k : KptV) (r : RecV) : KptV :=
 if r.kind = 1 then {k with ht := r.ht, hv := r.hv}
 else if r.kind = 2 then {k with l := k.l.take (r.at_ - k.si - 1).toNat ++ r.es}
 else if r.kind = 3 then {k with si := r.si, st := r.st, tx := r.tx, l := if r.si - k.si ≤ (k.l.length : Int) ∧ (k.l.getD (r.si - k.si - 1).toNat noE).term = r.st then k.l.drop (r.si - k.si).toNat else []}
 else {k with l := []}
def runK : KptV → List RecV → Option KptV
 | k, [] => some k
 | k, r :: rs => if fitK k r then runK (foldK k r) rs else none
theorem runK_snoc : ∀ (rs : List RecV) (k x : KptV) (r : RecV), runK k rs = some x → fitK x r = true → runK k (rs ++ [r]) = some (foldK x r)
 | [], k, x, r, h, hf => by
  simp only [runK, Option.some.injEq] at h;subst h;simp only [List.nil_append, runK];rw [if_pos hf]
 | a :: rs, k, x, r, h, hf => by
  simp only [runK, List.cons_append] at h ⊢
  split at h
  ·rename_i c
   rw [if_pos c];exact runK_snoc rs _ x r h hf
  ·cases h
theorem eqE_eq {a b : EntV} (h : eqE a b = true) : a = b := by
 obtain ⟨t, k, x⟩ := a;obtain ⟨t', k', x'⟩ := b;simp only [eqE, Bool.and_eq_true, beq_iff_eq] at h;obtain ⟨⟨rfl, rfl⟩, h⟩ := h;rw [ByteArray.toList_eq, ByteArray.toList_eq] at h;obtain ⟨⟨x⟩⟩ := x;obtain ⟨⟨y⟩⟩ := x';simp only at h;subst h
 rfl
theorem sameN_take : ∀ (l k : List EntV), l.take (sameN l k) = k.take (sameN l k) ∧ sameN l k ≤ l.length ∧ sameN l k ≤ k.length
 | [], k => by cases k <;> simp [sameN]
 | a :: l, [] => by simp [sameN]
 | a :: l, b :: k => by
  unfold sameN
  split
  ·rename_i h
   obtain ⟨h1, h2, h3⟩ := sameN_take l k;rw [eqE_eq h];simp only [List.take_succ_cons, List.length_cons]
   exact ⟨by rw [h1], by omega, by omega⟩
  ·simp
theorem from_drop {M : LogV} (hm : mayB M = true) {i : Int} (h1 : M.bi < i) : fromL M i 400 = M.l.drop (i - M.bi - 1).toNat := by
 have hin := mayB_in hm;unfold fromL;rw [hm]
 by_cases c : i ≤ lasI M
 ·rw [show hasB M i = true from decide_eq_true ⟨by omega, c⟩];simp only [Bool.and_self, Int.reduceLE, decide_true, if_true, Int.reduceToNat];rw [List.take_of_length_le (by rw [List.length_drop]; omega)]
 ·rw [show hasB M i = false from decide_eq_false (fun h => c h.2)];simp only [Bool.and_false, Bool.false_and, Bool.false_eq_true, if_false];rw [List.drop_eq_nil_of_le];unfold lasI at c;omega
def kpt (d : NodeV) (x y : Int) : KptV := ⟨x, y, d.L.bi, d.L.bt, d.tx, d.L.l⟩
def KW (d0 : NodeV) (W : WkV) : Prop := ∀ x y, runK (kpt d0 x y) W.rs = some (kpt W.d x y)
theorem KW.same {d0 : NodeV} {W V : WkV} (h : KW d0 W) (h1 : V.rs = W.rs) (h2 : V.d.L.bi = W.d.L.bi ∧ V.d.L.bt = W.d.L.bt ∧ V.d.L.l = W.d.L.l) (h3 : V.d.tx = W.d.tx) : KW d0 V := by
 intro x y;have := h x y;unfold kpt at this ⊢;rw [h1, h2.1, h2.2.1, h2.2.2, h3];exact this
theorem sendK_rs (W : WkV) (k : Nat) : (sendW W k).rs = W.rs := by
 unfold sendW
 split
 ·rfl
 ·rfl
theorem eachK_rs {f : WkV → Nat → WkV} (hf : ∀ W k, (f W k).rs = W.rs) (W : WkV) : ∀ k, (eachW f k W).rs = W.rs
 | 0 => rfl
 | k + 1 => by
  unfold eachW
  split
  ·exact eachK_rs hf W k
  ·rw [hf];exact eachK_rs hf W k
theorem KW.all {d0 : NodeV} {W : WkV} (h : KW d0 W) : KW d0 (allW sendW W) :=
 h.same (eachK_rs sendK_rs W _) (by rw [allW, each_d send_d]; exact ⟨rfl, rfl, rfl⟩) (by rw [allW, each_d send_d])
theorem ent_four {M : LogV} (hm : mayB M = true) (n : Nat) : (M.l.drop n).all ent4 = true := by
 rw [List.all_eq_true];intro e he;have h := rowsB_all M.l M.bt (mayB_in hm).2.2.2.1 e (List.mem_of_mem_drop he);simp only [entB, wiB, Bool.and_eq_true, Bool.or_eq_true, decide_eq_true_eq, beq_iff_eq] at h;simp only [ent4, wiB, Bool.and_eq_true, Bool.or_eq_true, decide_eq_true_eq, beq_iff_eq];refine ⟨h.1, ?_⟩
 rcases h.2 with ⟨h1, h2⟩ | ⟨h1, h2⟩
 ·exact ⟨.inl h1, by omega⟩
 ·exact ⟨.inr h1, h2⟩
theorem KW.tail {d0 : NodeV} {W : WkV} (h : KW d0 W) {M : LogV} (hm : mayB M = true) (h1 : M.bi = W.d.L.bi) (h2 : M.bt = W.d.L.bt) {i : Int} (h3 : M.bi + 1 ≤ i) (h4 : i ≤ M.bi + (W.d.L.l.length : Int) + 1) (h6 : i ≤ M.bi + (M.l.length : Int) + 1) (h5 : W.d.L.l.take (i - M.bi - 1).toNat = M.l.take (i - M.bi - 1).toNat) : KW d0 (tailW {W with d := {W.d with L := M}} i) := by
 intro x y;have hin := mayB_in hm;have hr := h x y;have hd := from_drop hm (show M.bi < i by omega);have hlen : (M.l.drop (i - M.bi - 1).toNat).length = M.l.length - (i - M.bi - 1).toNat := List.length_drop ..;have hfit : fitK (kpt W.d x y) ⟨2, 0, 0, i, fromL M i 400, 0, 0, noT⟩ = true := by
  unfold fitK kpt;simp only [Int.reduceEq, if_false, if_true, Bool.and_eq_true, wiB, decide_eq_true_eq];rw [hd, hlen, ← h1]
  exact ⟨by omega, by omega, by omega, ent_four hm _⟩
 have := runK_snoc _ _ _ _ hr hfit;simp only [tailW];rw [this];unfold foldK kpt;simp only [Int.reduceEq, if_false, if_true];rw [← h1, h5, hd, List.take_append_drop, ← h2]
theorem add_kw {d0 d1 : NodeV} {W : WkV} {e : EntV} (h : KW d0 W) (hf : FW d1 W.d) (l : LD W.d) (hr : W.d.b.r = 3) (h0 : (addW W e).2 = 0) : KW d0 (addW W e).1 := by
 unfold addW at h0 ⊢
 split at h0
 ·rename_i ha
  rw [if_pos ha];obtain ⟨p1, p2⟩ := put_led hf l ha;have hadv := adv_log p1.nb.L W.d.b.t ((putN W.d.mt W.d.me (lastL (addL W.d.L e).1).1).drop 1) (p2.adv p1.nb hr);obtain ⟨a1, a2, a3, a4, a5⟩ := add_log ha;have hl := last_fst a4;have e1 : lasI (addL W.d.L e).1 = W.d.L.bi + (W.d.L.l.length : Int) + 1 := by
   rw [a3];unfold lasI;simp only [List.length_append, List.length_singleton];omega
  refine KW.all ?_;have key := h.tail a4 (i := (lastL (addL W.d.L e).1).1) (by rw [a3]) (by rw [a3]) (by rw [hl, e1, a3]; simp only; omega) (by rw [hl, e1, a3]; simp only; omega) (by rw [hl]; unfold lasI; omega) (by
   rw [hl, e1, a3]
   simp only
   rw [show (W.d.L.bi + (W.d.L.l.length : Int) + 1 - W.d.L.bi - 1).toNat = W.d.L.l.length by omega]
   simp)
  exact key.same rfl ⟨hadv.2.1, hadv.2.2.1, hadv.2.2.2.1⟩ rfl
 ·simp at h0
theorem lead_kw {d0 d1 : NodeV} {W : WkV} (h : KW d0 W) (hf : FW d1 W.d) (hr : W.d.b.r = 3) (h0 : (leadW W).2 = 0) : KW d0 (leadW W).1 := by
 obtain ⟨p1, p2⟩ := new_led hf;exact add_kw (W := {W with d := {W.d with ld := W.d.me, nx := (List.replicate (W.d.n + 1).toNat ((lastL W.d.L).1 + 1)).set 0 0, mt := List.replicate (W.d.n + 1).toNat 0}, wt := true}) h p1 p2 hr h0
theorem time_kw {d0 d1 : NodeV} {W : WkV} (hk : KW d0 W) (h : FW d1 W.d) (l : Led W.d) (h0 : (timeW W).2 = 0) : KW d0 (timeW W).1 := by
 unfold timeW at h0 ⊢
 by_cases c1 : W.d.b.r = 3
 ·rw [if_pos c1];exact KW.all (W := {W with wt := true}) hk
 ·rw [if_neg c1] at h0 ⊢
  by_cases c2 : (Tm.beginL W.d.b W.d.me W.d.n).2 ≠ 0
  ·rw [if_pos c2] at h0
   simp at h0
  ·rw [if_neg c2] at h0 ⊢;obtain ⟨b1, b2, b3, b4, b5⟩ := begin_bal (Decidable.not_not.1 c2);have hn := h.nb.n;have hb : FW d1 {W.d with b := (Tm.beginL W.d.b W.d.me W.d.n).1, ld := 0} := h.bal b4 b5 (by rw [b3]; simp only [List.length_singleton]; omega) (by
    rw [b3];simp only [List.length_singleton]
    split
    ·intro h; omega
    ·intro h; omega) (by omega)
   by_cases c3 : (Tm.beginL W.d.b W.d.me W.d.n).1.r = 3
   ·rw [if_pos c3] at h0 ⊢;exact lead_kw (W := {W with d := {W.d with b := (Tm.beginL W.d.b W.d.me W.d.n).1, ld := 0}, wt := true}) hk hb c3 h0
   ·rw [if_neg c3];refine KW.same (W := W) hk ?_ ?_ ?_
    ·exact eachK_rs (f := pollW) (fun W k => rfl) _ _
    ·rw [allW, each_d (f := pollW) (fun W k => rfl)]
     exact ⟨rfl, rfl, rfl⟩
    ·rw [allW, each_d (f := pollW) (fun W k => rfl)]
theorem prop_kw {d0 d1 : NodeV} {W : WkV} {t : ByteArray} (hk : KW d0 W) (h : FW d1 W.d) (l : Led W.d) (h0 : (propW W t).2 = 0) : KW d0 (propW W t).1 := by
 unfold propW at h0 ⊢
 by_cases c1 : W.d.b.r ≠ 3
 ·rw [if_pos c1] at h0
  simp at h0
 ·rw [if_neg c1] at h0 ⊢
  by_cases c2 : 4000 < t.size
  ·rw [if_pos c2] at h0
   simp at h0
  ·rw [if_neg c2] at h0 ⊢;exact add_kw hk h (l.1 (Decidable.not_not.1 c1)) (Decidable.not_not.1 c1) h0
theorem tm_one {L : LogV} (hm : mayB L = true) (j : Nat) (h : j < L.l.length) : 1 ≤ (L.l.getD j noE).term ∧ (L.l.getD j noE).term ≤ 1000000 := by
 have h1 := ((rowsB_iff _ _).1 (mayB_in hm).2.2.2.1 j h).1;rw [List.getD_eq_getElem?_getD, List.getElem?_eq_getElem h];simp only [entB, wiB, Bool.and_eq_true, decide_eq_true_eq] at h1;exact h1.1
theorem save_kw {d0 d1 : NodeV} {W : WkV} {i : Int} {t : ByteArray} (hk : KW d0 W) (h : FW d1 W.d) (h0 : (saveW W i t).2 = 0) : KW d0 (saveW W i t).1 := by
 unfold saveW at h0 ⊢
 by_cases c1 : 50000 < t.size
 ·rw [if_pos c1] at h0
  simp at h0
 ·rw [if_neg c1] at h0 ⊢
  by_cases c2 : (compL W.d.L i).2 ≠ 0
  ·rw [if_pos c2] at h0;exact absurd h0 c2
  ·rw [if_neg c2];obtain ⟨a1, a2, a3, a4, a5⟩ := comp_log (Decidable.not_not.1 c2);have hin := mayB_in a1;unfold lasI at hin;obtain ⟨k, hkk⟩ : ∃ k : Nat, i = W.d.L.bi + 1 + k := ⟨(i - W.d.L.bi - 1).toNat, by omega⟩;have ht : (termL W.d.L i).1 = (W.d.L.l.getD k noE).term := by
    rw [markN a1 i (by omega) (by unfold lasI; omega), show (i - W.d.L.bi).toNat = k + 1 by omega]
    rfl
   have h1 := tm_one a1 k (by omega);intro x y;have hr := hk x y;have hfit : fitK (kpt W.d x y) ⟨3, 0, 0, 0, [], i, (termL W.d.L i).1, t⟩ = true := by
    unfold fitK kpt;simp only [Int.reduceEq, if_false, if_true, Bool.and_eq_true, wiB, decide_eq_true_eq];rw [ht]
    exact ⟨by omega, h1, by omega⟩
   have := runK_snoc _ _ _ _ hr hfit;simp only [snapW];rw [a4]
   simp only
   rw [this];unfold foldK kpt;simp only [Int.reduceEq, if_false, if_true];rw [if_pos];refine ⟨by omega, ?_⟩;rw [ht, show (i - W.d.L.bi - 1).toNat = k by omega]
theorem acc_kw {d0 : NodeV} {W : WkV} {m : MsgW} (hk : KW d0 W) (hL : mayB W.d.L = true) : KW d0 (accW W m) := by
 unfold accW
 split
 ·exact hk.same rfl ⟨rfl, rfl, rfl⟩ rfl
 ·rename_i h1
  split
  ·exact hk.same rfl ⟨rfl, rfl, rfl⟩ rfl
  ·obtain ⟨a1, a2, a3⟩ := acc_log (pi := m.pi) (pt := m.pt) (es := m.es) (cc := m.cm) hL (Decidable.not_not.1 h1);generalize accL W.d.L m.pi m.pt m.es m.cm = A at *;obtain ⟨s1, s2, s3⟩ := sameN_take W.d.L.l A.1.l
   split
   ·have := hk.tail (M := A.1) (i := A.1.bi + 1 + (sameN W.d.L.l A.1.l : Nat)) a1.may a2 a3 (by omega) (by omega) (by omega) (by
     rw [show (A.1.bi + 1 + ((sameN W.d.L.l A.1.l : Nat) : Int) - A.1.bi - 1).toNat = sameN W.d.L.l A.1.l by omega];exact s1)
    exact this.same rfl ⟨rfl, rfl, rfl⟩ rfl
   ·rename_i c
    have e : A.1.l = W.d.L.l := by
     rw [List.take_of_length_le (by omega), List.take_of_length_le (by omega)] at s1;exact s1.symm
    exact hk.same rfl ⟨a2, a3, e⟩ rfl
theorem inst_kw {d0 : NodeV} {W : WkV} {m : MsgW} (hk : KW d0 W) (hL : mayB W.d.L = true) (hs : sentB m = true) (h5 : m.kind = 5) : KW d0 (instW W m) := by
 obtain ⟨s1, s2, s3, s4, s5, s6, s7, s8⟩ := sent_in hs;obtain ⟨k1, k2, k3⟩ := s7 h5;obtain ⟨i1, i2, i3⟩ := inst_log (L := W.d.L) hL k1 (by omega);unfold instW;cases c : (instL W.d.L m.si m.st).2.1
 ·exact hk.same rfl ⟨rfl, rfl, rfl⟩ rfl
 ·obtain ⟨j1, j2, j3, j4, j5⟩ := i2 c;have hin := mayB_in hL;have hmi := mkB_in k1;have hst : 1 ≤ m.st := by
   have := hmi.2.2;have := hmi.2.1;omega
  simp only [if_true];refine KW.same (W := snapW {W with d := {W.d with L := (instL W.d.L m.si m.st).1, tx := m.tx}}) ?_ rfl ⟨rfl, rfl, rfl⟩ rfl;intro x y;have hr := hk x y;have hfit : fitK (kpt W.d x y) ⟨3, 0, 0, 0, [], m.si, m.st, m.tx⟩ = true := by
   unfold fitK kpt;simp only [Int.reduceEq, if_false, if_true, Bool.and_eq_true, wiB, decide_eq_true_eq]
   exact ⟨by omega, by omega, k3⟩
  have := runK_snoc _ _ _ _ hr hfit;simp only [snapW];rw [j3, j4, this];unfold foldK kpt;simp only [Int.reduceEq, if_false, if_true];rw [j3, j4]
  congr 2
  unfold instL;rw [if_pos hL, if_pos (show mkB m.si m.st = true ∧ m.si ≠ 0 from ⟨k1, by omega⟩), if_neg (show ¬ m.si ≤ W.d.L.cm by omega)]
  simp only
  obtain ⟨k, hkk⟩ : ∃ k : Nat, m.si = W.d.L.bi + 1 + k := ⟨(m.si - W.d.L.bi - 1).toNat, by omega⟩;rw [show (m.si - W.d.L.bi - 1).toNat = k by omega]
  by_cases q : m.si ≤ lasI W.d.L
  ·have ht := markN hL m.si (by omega) q;rw [show (m.si - W.d.L.bi).toNat = k + 1 by omega] at ht ⊢;rw [ht];unfold lasI at q;simp only [tmN, true_and]
   by_cases qb : (W.d.L.l.getD k noE).term = m.st
   ·rw [if_pos ⟨by omega, qb⟩, if_pos qb]
   ·rw [if_neg (fun h => qb h.2), if_neg qb]
  ·have hn : ¬ (termL W.d.L m.si).2 = true := by
    intro h;obtain ⟨j, h1, h2, h3⟩ := (term_at hL m.si).1 h;unfold lasI at q;omega
   rw [if_neg (show ¬ (m.si - W.d.L.bi ≤ (W.d.L.l.length : Int) ∧ (W.d.L.l.getD k noE).term = m.st) from fun h => by unfold lasI at q; omega), if_neg (fun h => hn h.1)]
theorem led_kw {d0 : NodeV} {W : WkV} {m : MsgW} (hk : KW d0 W) (hL : mayB W.d.L = true) (hs : sentB m = true) (hkk : m.kind = 3 ∨ m.kind = 5) : KW d0 (ledW W m) := by
 unfold ledW
 split
 ·exact hk.same rfl ⟨rfl, rfl, rfl⟩ rfl
 ·split
  ·exact hk
  ·split
   ·exact acc_kw (W := {follW W m.frm with wt := true}) (hk.same rfl ⟨rfl, rfl, rfl⟩ rfl) hL
   ·exact inst_kw (W := {follW W m.frm with wt := true}) (hk.same rfl ⟨rfl, rfl, rfl⟩ rfl) hL hs (by omega)
theorem hear_kw {d0 : NodeV} {W : WkV} (hk : KW d0 W) (t : Int) : KW d0 (hearW W t) := by
 unfold hearW
 split
 ·exact hk
 ·exact hk.same rfl ⟨rfl, rfl, rfl⟩ rfl
theorem gran_kw {d0 d1 : NodeV} {W : WkV} {m : MsgW} (hk : KW d0 W) (h : FW d1 W.d) (l : Led W.d) (hs : sentB m = true) (hf : m.frm ≤ W.d.n) (ht : m.term ≤ W.d.b.t) (h0 : (granED W m).2 = 0) : KW d0 (granED W m).1 := by
 obtain ⟨s1, s2, s3, s4, s5, s6, s7, s8⟩ := sent_in hs;have hn := h.nb.n;have hC := count_bal (ok := m.ok) h.nb.b (x := m.frm) (n := W.d.n) ⟨s1.1, hf, hn.2⟩ s4 ht;unfold granED at h0 ⊢
 by_cases c : W.d.b.r = 3 ∨ (Tm.countL W.d.b m.frm m.term m.ok W.d.n).1.r ≠ 3
 ·rw [if_pos c];exact hk.same rfl ⟨rfl, rfl, rfl⟩ rfl
 ·rw [if_neg c] at h0 ⊢
  rcases hC with e | ⟨r2, e, m1, l1, c1⟩
  ·rw [e] at c;exact absurd (Decidable.em (W.d.b.r = 3)) c
  ·rw [e] at h0 c ⊢;simp only at h0 c ⊢;have hb2 := h.b2 r2;have hv : VoteF W.d.b (Tm.voteL W.d.b m.frm W.d.n) := ⟨Int.le_refl _, fun _ _ => rfl⟩;have hb : FW d1 {W.d with b := Tm.voteL W.d.b m.frm W.d.n, ld := W.d.ld} := h.bal m1 hv (by omega) (fun hr => by
    rcases c1 with c1 | c1
    ·omega
    ·exact c1.2) h.nb.ld
   have hr : (Tm.voteL W.d.b m.frm W.d.n).r = 3 := by
    rcases Decidable.em ((Tm.voteL W.d.b m.frm W.d.n).r = 3) with h | h
    ·exact h
    ·exact absurd (.inr h) c
   exact lead_kw (W := {W with d := {W.d with b := Tm.voteL W.d.b m.frm W.d.n}}) (hk.same rfl ⟨rfl, rfl, rfl⟩ rfl) hb hr h0
theorem appd_kw {d0 d1 : NodeV} {W : WkV} {m : MsgW} (hk : KW d0 W) (h : FW d1 W.d) (l : Led W.d) (hf : 1 ≤ m.frm ∧ m.frm ≤ W.d.n) (hmt : 0 ≤ m.mtch) : KW d0 (appdW W m) := by
 unfold appdW
 split
 ·exact hk
 ·rename_i c
  have hr : W.d.b.r = 3 := by
   rcases Decidable.em (W.d.b.r = 3) with h | h
   ·exact h
   ·exact absurd (.inl h) c
  split
  ·refine KW.same (W := W) hk (sendK_rs _ _) ?_ ?_
   ·rw [send_d]
    exact ⟨rfl, rfl, rfl⟩
   ·rw [send_d]
  ·have hl := l.1 hr;obtain ⟨n1, n2, n3, n4⟩ := hl.at_ h.nb hf.1 hf.2;have hm : m.mtch ≤ lasI W.d.L := by
    rw [← last_fst h.nb.L];exact Int.not_lt.1 (fun h => c (.inr (.inr h)))
   have ha : advB W.d.b.t ((putN W.d.mt m.frm (max (W.d.mt.getD m.frm.toNat 0) m.mtch)).drop 1) = true := by
    have l2 : LD {W.d with mt := putN W.d.mt m.frm (max (W.d.mt.getD m.frm.toNat 0) m.mtch)} := by
     refine ⟨hl.ld, hl.nl, hl.n0, hl.nb, ?_, ?_, ?_⟩
     ·simp only [putN, List.length_set];exact hl.ml
     ·simp only [putN];rw [head_set (by omega)];exact hl.m0
     ·simp only [putN];exact set_all (p := fun x => 0 ≤ x ∧ x ≤ lasI W.d.L) hl.mb (by omega)
    exact l2.adv ⟨h.nb.n, h.nb.me, h.nb.ld, h.nb.b, h.nb.L, h.nb.tx⟩ hr
   obtain ⟨b1, b2, b3, b4, b5⟩ := adv_log h.nb.L W.d.b.t _ ha
   simp only
   split
   ·refine KW.same (W := W) hk (sendK_rs _ _) ?_ ?_
    ·rw [send_d]
     exact ⟨b2, b3, b4⟩
    ·rw [send_d]
     rfl
   ·exact hk.same rfl ⟨b2, b3, b4⟩ rfl
theorem mess_kw {d0 d1 : NodeV} {W : WkV} {m : MsgW} (hk : KW d0 W) (h : FW d1 W.d) (l : Led W.d) (h0 : (messW W m).2 = 0) : KW d0 (messW W m).1 := by
 unfold messW at h0 ⊢
 split at h0
 ·simp at h0
 ·rename_i c
  rw [if_neg c];have hs : sentB m = true := by
   cases hh : sentB m
   ·exact absurd (.inl hh) c
   ·rfl
  have hf : m.frm ≤ W.d.n := Int.not_lt.1 (fun h => c (.inr (.inr h)));obtain ⟨s1, s2, s3, s4, s5, s6, s7, s8⟩ := sent_in hs;obtain ⟨g1, g2, g3⟩ := hear_go h l s4;have hk2 := hear_kw hk m.term;have hf2 : m.frm ≤ (hearW W m.term).d.n := by
   rw [g1.n, ← h.n];exact hf
  generalize hearW W m.term = V at *
  split at h0
  ·rename_i k1
   rw [if_pos k1];exact hk2.same rfl ⟨rfl, rfl, rfl⟩ rfl
  ·rename_i k1
   rw [if_neg k1]
   split at h0
   ·rename_i k2
    rw [if_pos k2];exact gran_kw hk2 g1 g2 hs hf2 g3 h0
   ·rename_i k2
    rw [if_neg k2]
    split at h0
    ·rename_i k4
     rw [if_pos k4];exact appd_kw hk2 g1 g2 ⟨s1.1, hf2⟩ (s8 k4).1
    ·rename_i k4
     rw [if_neg k4];exact led_kw hk2 g1.nb.L hs (by omega)
theorem step_keeps {d : NodeV} {e : EvV} (h : Inv d) (h0 : (stepN d e).2 = 0) : runK (kpt d d.b.t d.b.v) (stepN d e).1.rs = some (kpt (stepN d e).1.d (stepN d e).1.d.b.t (stepN d e).1.d.b.v) := by
 have hf := h.fw;have hgo := step_go h h0;unfold stepN at h0 hgo ⊢;rw [h.1, if_neg (by simp)] at h0 hgo ⊢
 split at h0
 ·simp at h0
 ·rename_i c
  rw [if_neg c] at hgo ⊢
  split at h0
  ·rename_i c2
   exact absurd h0 c2
  ·rename_i c2
   rw [if_neg c2] at hgo ⊢;have hk0 : KW d ⟨d, [], [], 0, false⟩ := fun x y => rfl
   have key : KW d (evW ⟨d, [], [], 0, false⟩ e).1 := by
    have h1 := Decidable.not_not.1 c2;unfold evW at h1 ⊢
    split at h1
    ·rename_i k1
     rw [if_pos k1];exact time_kw hk0 hf.1 hf.2 h1
    ·rename_i k1
     rw [if_neg k1]
     split at h1
     ·rename_i k2
      rw [if_pos k2];exact prop_kw hk0 hf.1 hf.2 h1
     ·rename_i k2
      rw [if_neg k2]
      split at h1
      ·rename_i k3
       rw [if_pos k3];exact mess_kw hk0 hf.1 hf.2 h1
      ·rename_i k3
       rw [if_neg k3];exact save_kw hk0 hf.1 h1
   generalize (evW ⟨d, [], [], 0, false⟩ e).1 = W at *;simp only at hgo ⊢;unfold hardW at hgo ⊢
   split
   ·rename_i c3
    rw [← c3.1, ← c3.2];exact key _ _
   ·rename_i c3
    rw [if_neg c3] at hgo;have hb := bal_in hgo.1.nb.b;simp only at hb;have hfit : fitK (kpt d d.b.t d.b.v) ⟨1, W.d.b.t, W.d.b.v, 0, [], 0, 0, noT⟩ = true := by
     unfold fitK;simp only [if_true, Bool.and_eq_true, wiB, decide_eq_true_eq]
     exact ⟨hb.1, hb.2.1⟩
    simp only [runK];rw [if_pos hfit];exact key _ _
theorem wiB_in {x a b : Int} (h : wiB x a b = true) : a ≤ x ∧ x ≤ b := by
 unfold wiB at h
 simpa using h
theorem fold_in {k : KptV} {r : RecV} (hin : 0 ≤ k.si ∧ k.si ≤ 1000000 ∧ k.l.length ≤ 400) (hf : fitK k r = true) : 0 ≤ (foldK k r).si ∧ (foldK k r).si ≤ 1000000 ∧ (foldK k r).l.length ≤ 400 := by
 unfold fitK at hf;unfold foldK
 split at hf
 ·rename_i c
  rw [if_pos c];exact hin
 ·rename_i c
  rw [if_neg c]
  split at hf
  ·rename_i c2
   rw [if_pos c2];simp only [Bool.and_eq_true, decide_eq_true_eq] at hf;obtain ⟨h1, h2, h3, h4⟩ := hf;have h1 := wiB_in h1;refine ⟨hin.1, hin.2.1, ?_⟩;dsimp only;rw [List.length_append, List.length_take];omega
  ·rename_i c2
   rw [if_neg c2]
   split at hf
   ·rename_i c3
    rw [if_pos c3];simp only [Bool.and_eq_true, decide_eq_true_eq] at hf;refine ⟨by dsimp only; omega, hf.1.2, ?_⟩
    dsimp only
    split
    ·rw [List.length_drop];omega
    ·simp
   ·cases hf
set_option maxHeartbeats 2000000 in
theorem ent4_is (e : EntV) (w : World) (h : ent4 e = true) : Calls Tryz.prog 32 #[.agg #[.int .i64 e.term, .int .i64 e.kind, .string e.text]] w fun r w' => r = .returned (.bool true) ∧ Below w.heap.size w w' := by
 obtain ⟨t, k, x⟩ := e;unfold ent4 at h;simp only [Bool.and_eq_true, Bool.or_eq_true, beq_iff_eq, decide_eq_true_eq] at h;obtain ⟨h1, h2, h3⟩ := h;obtain ⟨h1, h1'⟩ := wiB_in h1;have q3 : (x.size : Int) ≤ 4000 := by omega
 have hb := below1 w (.cells #[.int .i64 t, .int .i64 k, .string x] 55);dsimp only
 rcases h2 with rfl | rfl
 ·go_enter Tryz.func32, Tryz.ntmps32
  go_wp2;go_ret
  exact ⟨rfl, hb⟩
 ·go_enter Tryz.func32, Tryz.ntmps32
  go_wp2;go_ret
  exact ⟨rfl, hb⟩
set_option maxRecDepth 100000 in
set_option maxHeartbeats 8000000 in
theorem fits_is (k : KptV) (gk : Value) (x : RecX) (w : World) (hk : EGot w gk k.l) (hr : EGot w (.slice x.a x.r.es.length x.c) x.r.es) (hin : 0 ≤ k.si ∧ k.si ≤ 1000000 ∧ k.l.length ≤ 400) (hf : fitK k x.r = true) : Calls Tryz.prog 15 #[.agg #[.int .i64 k.ht, .int .i64 k.hv, .int .i64 k.si, .int .i64 k.st, .string k.tx, gk], .agg #[.int .i64 x.r.kind, .int .i64 x.r.ht, .int .i64 x.r.hv, .int .i64 x.r.at_, .slice x.a x.r.es.length x.c, .int .i64 x.r.si, .int .i64 x.r.st, .string x.r.tx]] w fun e w' => e = .returned (.bool true) ∧ Below w.heap.size w w' := by
 obtain ⟨ht, hv, si, st, tx, l⟩ := k;obtain ⟨⟨kd, rt, rv, at_, es, ri, rs, rx⟩, ra, rc⟩ := x;dsimp only at hk hr hin hf;dsimp only;obtain ⟨ga, gc, rfl⟩ := hk.slice;obtain ⟨hin1, hin2, hin3⟩ := hin;have hB2 := hideIt (below_via (below1 w (.cells #[.int .i64 ht, .int .i64 hv, .int .i64 si, .int .i64 st, .string tx, .slice ga l.length gc] 60)) (below1 (w.alloc (.cells #[.int .i64 ht, .int .i64 hv, .int .i64 si, .int .i64 st, .string tx, .slice ga l.length gc] 60)) (.cells #[.int .i64 kd, .int .i64 rt, .int .i64 rv, .int .i64 at_, .slice ra es.length rc, .int .i64 ri, .int .i64 rs, .string rx] 63)));have HP := hideIt (blkK (heap_alloc_new w (.cells #[.int .i64 ht, .int .i64 hv, .int .i64 si, .int .i64 st, .string tx, .slice ga l.length gc] 60)) (below1 (w.alloc (.cells #[.int .i64 ht, .int .i64 hv, .int .i64 si, .int .i64 st, .string tx, .slice ga l.length gc] 60)) (.cells #[.int .i64 kd, .int .i64 rt, .int .i64 rv, .int .i64 at_, .slice ra es.length rc, .int .i64 ri, .int .i64 rs, .string rx] 63)));have HQ := hideIt (alloc2_new w (.cells #[.int .i64 ht, .int .i64 hv, .int .i64 si, .int .i64 st, .string tx, .slice ga l.length gc] 60) #[.int .i64 kd, .int .i64 rt, .int .i64 rv, .int .i64 at_, .slice ra es.length rc, .int .i64 ri, .int .i64 rs, .string rx] 63);have HR := hideIt hr;unfold fitK at hf
 go_enter Tryz.func15, Tryz.ntmps15
 go_upto_region 1 with fail
 generalize (World.alloc (World.alloc w _) _) = W0 at *;generalize w.heap.size + 1 = Q at *;obtain ⟨⟨p0, p1, p2, p3, p4, p5⟩, pf, pz⟩ := at6 HP.out;obtain ⟨⟨q0, q1, q2, q3, q4, q5, q6, q7⟩, qf, qz⟩ := at8 HQ.out
 split at hf
 ·rename_i c
  dsimp only at c hf;subst c;simp only [Bool.and_eq_true] at hf;obtain ⟨h1, h2⟩ := hf;obtain ⟨h1, h1'⟩ := wiB_in h1;obtain ⟨h2, h2'⟩ := wiB_in h2;go_wp2;go_ret
  exact ⟨rfl, hB2.out⟩
 ·rename_i c
  dsimp only at c;have c1 : decide (kd = 1) = false := decide_eq_false c;have c1' : (kd == 1) = false := beq_eq_false_iff_ne.2 c
  split at hf
  ·rename_i c2
   dsimp only at c2 hf;subst c2;simp only [Bool.and_eq_true, decide_eq_true_eq] at hf;obtain ⟨h1, h2, h3, h4⟩ := hf;obtain ⟨h1, h1'⟩ := wiB_in h1;have hw1 : IntKind.i64.wrap (si + 1) = si + 1 := by rw [IntKind.wrap_i64]; omega
   have hw2 : IntKind.i64.wrap (si + (l.length : Int)) = si + (l.length : Int) := by rw [IntKind.wrap_i64]; omega
   have hw3 : IntKind.i64.wrap (si + (l.length : Int) + 1) = si + (l.length : Int) + 1 := by rw [IntKind.wrap_i64]; omega
   have hw4 : IntKind.i64.wrap (at_ - si) = at_ - si := by rw [IntKind.wrap_i64]; omega
   have hw5 : IntKind.i64.wrap (at_ - si - 1) = at_ - si - 1 := by rw [IntKind.wrap_i64]; omega
   have hw6 : IntKind.i64.wrap (at_ - si - 1 + (es.length : Int)) = at_ - si - 1 + (es.length : Int) := by rw [IntKind.wrap_i64]; omega
   have d1 : decide (at_ < si + 1) = false := decide_eq_false (by omega);have d2 : decide (si + (l.length : Int) + 1 < at_) = false := decide_eq_false (by omega);have d3 : decide ((400 : Int) < (es.length : Int)) = false := decide_eq_false (by omega);have d4 : decide (400 < at_ - si - 1 + (es.length : Int)) = false := decide_eq_false (by omega);have HE4 := hideIt (fun (t : Nat) (ht : t < es.length) => List.all_eq_true.1 h4 es[t] (List.getElem_mem ht));have hes : es.length ≤ 400 := h2;clear h1 h1' h2 h3 h4
   go_wp2_with fail
   go_loopw [6] (fun kv wz => ∃ t : Nat, t ≤ es.length ∧ kv = .int .i64 (t : Int) ∧ Hid (Below W0.heap.size W0 wz)) (fun kv _ => es.length - (intOf kv).toNat)
   case atStart => exact ⟨0, Nat.zero_le _, by go_num, hideIt (Below.refl _ _)⟩
   case round =>
    obtain ⟨t, ht, rfl, HZ⟩ := hrel;clear p0 p1 p2 p3 p4 p5 pf pz q0 q1 q2 q3 q4 q5 q6 q7 qf qz hw1 hw2 hw3 hw4 hw5 hw6 d1 d2 d3 d4;obtain ⟨⟨q0, q1, q2, q3, q4, q5, q6, q7⟩, qf, qz⟩ := at8 (blkK HQ.out HZ.out);have ht0 : (0 : Int) ≤ (t : Int) := by omega
    by_cases hlt : t < es.length
    ·have hlt' : (t : Int) < (es.length : Int) := by omega
     have hd : decide ((t : Int) < (es.length : Int)) = true := decide_eq_true hlt';have hw8 : IntKind.i64.wrap ((t : Int) + 1) = (t : Int) + 1 := by rw [IntKind.wrap_i64]; omega
     obtain ⟨a2, c2, g2, -, hE⟩ := (HR.out.keep (below_via hB2.out HZ.out)).opend;simp only [Value.slice.injEq] at g2;obtain ⟨b, off, hb, hbl, e0, e1, e2⟩ := hE t hlt;rw [← g2.1] at hb;subst hb;have h4 := HE4.out t hlt;rw [show es.getD t noE = es[t] by simp [List.getD, hlt]] at e0 e1 e2;generalize es[t] = y at e0 e1 e2 h4;obtain ⟨yt, yk, yx⟩ := y;dsimp only at e0 e1 e2;have HE := hideIt (ent4_is ⟨yt, yk, yx⟩ wr h4);clear hE g2 h4
     go_wp2_with fail
     refine HE.out.mono ?_;rintro r w5 ⟨rfl, hb5⟩;dsimp only;go_wp2
     go_roundw
     case rel => exact ⟨t + 1, by omega, by go_num, hideIt (below_via HZ.out hb5)⟩
     case measure => simp [intOf]; omega
    ·have hd : decide ((t : Int) < (es.length : Int)) = false := decide_eq_false (by omega);go_wp2;go_ret
     exact ⟨rfl, below_via hB2.out HZ.out⟩
  ·rename_i c2
   dsimp only at c2;have c2a : decide (kd = 2) = false := decide_eq_false c2;have c2b : (kd == 2) = false := beq_eq_false_iff_ne.2 c2
   split at hf
   ·rename_i c3
    dsimp only at c3 hf;subst c3;simp only [Bool.and_eq_true, decide_eq_true_eq] at hf;obtain ⟨⟨h1, h2⟩, h3, h4⟩ := hf;obtain ⟨h3, h3'⟩ := wiB_in h3;have h5 : (rx.size : Int) ≤ 50000 := by omega
    have d1 : decide (si < ri) = true := decide_eq_true h1;have hbA := hideIt (below_via hB2.out (below1 W0 (.cells #[.int .i64 ri, .int .i64 rs] 25)));have HA := hideIt (heap_alloc_new W0 (.cells #[.int .i64 ri, .int .i64 rs] 25));have HQ2 := hideIt (blkK HQ.out (below1 W0 (.cells #[.int .i64 ri, .int .i64 rs] 25)))
    go_upto_region 16 with (refine wpList_store_row rfl 25 _ _ rfl W0.heap.size #[.int .i64 ri, .int .i64 rs] rfl rfl 25 #[.int .i64 0, .int .i64 0] (heap_alloc_new W0 _) (by kernel_rfl) (by rfl) (by simp [Value.oneCell']) ?_; rw [World.setRow_alloc_new])
    generalize (World.alloc W0 _) = W1 at *;generalize W0.heap.size = D at *;clear q0 q1 q2 q3 q4 q5 q6 q7 qf qz p0 p1 p2 p3 p4 p5 pf pz;obtain ⟨⟨q0, q1, q2, q3, q4, q5, q6, q7⟩, qf, qz⟩ := at8 HQ2.out;have s0 : W1.cell? ⟨D, 0, none⟩ = some (.int .i64 ri) := by rw [Tm.cell_at HA.out]; rfl
    have s1 : W1.cell? ⟨D, 1, none⟩ = some (.int .i64 rs) := by rw [Tm.cell_at HA.out]; rfl
    go_wp2;go_ret
    exact ⟨rfl, hbA.out⟩
   ·cases hf
structure FB (w : World) (Q R O : Nat) (kc rc oc : Array Value) (wx : World) : Prop where
 k : wx.heap[w.heap.size]? = some (.cells kc 60 (0, 0))
 r : wx.heap[Q]? = some (.cells rc 63 (0, 0))
 z : wx.heap[R]? = some (.cells #[.int .i64 0, .int .i64 0, .int .i64 0, .int .i64 0, .string ⟨#[]⟩, .slice none 0 0] 60 (0, 0))
 o : wx.heap[O]? = some (.cells oc 60 (0, 0))
 bel : Below w.heap.size w wx
 ord : w.heap.size < Q ∧ Q < R ∧ R < O
theorem FB.set {w wx : World} {Q R O : Nat} {kc rc oc : Array Value} (h : FB w Q R O kc rc oc wx) (j : Nat) (u : Value) : FB w Q R O kc rc (oc.setIfInBounds j u) (wx.setCell ⟨O, j, none⟩ u) := by
 obtain ⟨o1, o2, o3⟩ := h.ord
 exact ⟨setOther _ h.k (by omega), setOther _ h.r (by omega), setOther _ h.z (by omega), heap_set h.o j u, belowSet _ h.bel (by omega), h.ord⟩
theorem FB.keep {w wx wy : World} {Q R O : Nat} {kc rc oc : Array Value} (h : FB w Q R O kc rc oc wx) (hb : Below wx.heap.size wx wy) : FB w Q R O kc rc oc wy :=
 ⟨blkK h.k hb, blkK h.r hb, blkK h.z hb, blkK h.o hb, below_via h.bel hb, h.ord⟩
theorem FB.app {w wx w' : World} {Q R O : Nat} {kc rc oc : Array Value} {v : Value} {n : Nat} {xs : List Value} (h : FB w Q R O kc rc oc wx) (ho : wx.ownsRow (O + 1) 55 3 v n xs) (hg : wx.grownBy w' v.ownBlock) : FB w Q R O kc rc oc w' :=
 ⟨box_type hg ho h.k (by decide), box_type hg ho h.r (by decide), box_type hg ho h.z (by decide), box_type hg ho h.o (by decide), grown_row (B := O + 1) hg ho (by have := h.ord; omega) h.bel, h.ord⟩
theorem FB.size {w wx : World} {Q R O : Nat} {kc rc oc : Array Value} (h : FB w Q R O kc rc oc wx) : O + 1 ≤ wx.heap.size := (Array.getElem?_eq_some_iff.1 h.o).1
theorem FB.own {w wx : World} {Q R O n j : Nat} {kc rc oc : Array Value} {v u : Value} {xs : List Value} (_h : FB w Q R O kc rc oc wx) (ho : wx.ownsRow (O + 1) 55 3 v n xs) : (wx.setCell ⟨O, j, none⟩ u).ownsRow (O + 1) 55 3 v n xs := ownSet u ho (by omega)
theorem FB.fin {w wx : World} {Q R O n : Nat} {kc rc oc : Array Value} {v : Value} {xs : List Value} (h : FB w Q R O kc rc oc wx) (ho : wx.ownsRow (O + 1) 55 3 v n xs) (u : Array Value) : Hid ((wx.setRow R u).heap[R]? = some (.cells u 60 (0, 0)) ∧ (wx.setRow R u).ownsRow w.heap.size 55 3 v n xs ∧ Below w.heap.size w (wx.setRow R u)) := by
 obtain ⟨o1, o2, o3⟩ := h.ord;exact hideIt ⟨setRow_heap _ R _ _ _ _ h.z, own_base (own_out ho (setRow_out _ R u) (fun k e => by omega)) (by omega), below_out h.bel (setRow_out _ R u) (fun k e => by omega)⟩
set_option maxRecDepth 100000 in
set_option maxHeartbeats 8000000 in
theorem fold_is (k : KptV) (gk : Value) (x : RecX) (w : World) (hk : EGot w gk k.l) (hr : EGot w (.slice x.a x.r.es.length x.c) x.r.es) (hin : 0 ≤ k.si ∧ k.si ≤ 1000000 ∧ k.l.length ≤ 400) (hf : fitK k x.r = true) : Calls Tryz.prog 16 #[.agg #[.int .i64 k.ht, .int .i64 k.hv, .int .i64 k.si, .int .i64 k.st, .string k.tx, gk], .agg #[.int .i64 x.r.kind, .int .i64 x.r.ht, .int .i64 x.r.hv, .int .i64 x.r.at_, .slice x.a x.r.es.length x.c, .int .i64 x.r.si, .int .i64 x.r.st, .string x.r.tx]] w fun e w' => ∃ a c, e = .returned (.agg #[.int .i64 (foldK k x.r).ht, .int .i64 (foldK k x.r).hv, .int .i64 (foldK k x.r).si, .int .i64 (foldK k x.r).st, .string (foldK k x.r).tx, .slice a (foldK k x.r).l.length c]) ∧ w'.ownsRow w.heap.size 55 3 (.slice a (foldK k x.r).l.length c) (foldK k x.r).l.length (entC (foldK k x.r).l) ∧ Below w.heap.size w w' := by
 obtain ⟨ht, hv, si, st, tx, l⟩ := k;obtain ⟨⟨kd, rt, rv, at_, es, ri, rs, rx⟩, ra, rc⟩ := x;dsimp only at hk hr hin hf;dsimp only;obtain ⟨ga, gc, rfl⟩ := hk.slice;obtain ⟨hin1, hin2, hin3⟩ := hin;have hB3 := below3 w (.cells #[.int .i64 ht, .int .i64 hv, .int .i64 si, .int .i64 st, .string tx, .slice ga l.length gc] 60) (.cells #[.int .i64 kd, .int .i64 rt, .int .i64 rv, .int .i64 at_, .slice ra es.length rc, .int .i64 ri, .int .i64 rs, .string rx] 63) (.cells #[.int .i64 0, .int .i64 0, .int .i64 0, .int .i64 0, .string ⟨#[]⟩, .slice none 0 0] 60);obtain ⟨g1, g2, g3, g4⟩ := three_heap w (.cells #[.int .i64 ht, .int .i64 hv, .int .i64 si, .int .i64 st, .string tx, .slice ga l.length gc] 60) (.cells #[.int .i64 kd, .int .i64 rt, .int .i64 rv, .int .i64 at_, .slice ra es.length rc, .int .i64 ri, .int .i64 rs, .string rx] 63) (.cells #[.int .i64 0, .int .i64 0, .int .i64 0, .int .i64 0, .string ⟨#[]⟩, .slice none 0 0] 60);have G3 : Hid ((((w.alloc (.cells #[.int .i64 ht, .int .i64 hv, .int .i64 si, .int .i64 st, .string tx, .slice ga l.length gc] 60)).alloc (.cells #[.int .i64 kd, .int .i64 rt, .int .i64 rv, .int .i64 at_, .slice ra es.length rc, .int .i64 ri, .int .i64 rs, .string rx] 63)).alloc (.cells #[.int .i64 0, .int .i64 0, .int .i64 0, .int .i64 0, .string ⟨#[]⟩, .slice none 0 0] 60)).heap[w.heap.size + 1 + 1]? = some (.cells #[.int .i64 0, .int .i64 0, .int .i64 0, .int .i64 0, .string ⟨#[]⟩, .slice none 0 0] 60 (0, 0))) := g3;have G2 := hideIt g2;have G1 := hideIt g1;have HB3 := hideIt hB3;have HK := hideIt hk;have HR := hideIt hr;have hQR : w.heap.size < w.heap.size + 1 ∧ w.heap.size + 1 < w.heap.size + 1 + 1 ∧ w.heap.size + 1 + 1 < (((w.alloc (.cells #[.int .i64 ht, .int .i64 hv, .int .i64 si, .int .i64 st, .string tx, .slice ga l.length gc] 60)).alloc (.cells #[.int .i64 kd, .int .i64 rt, .int .i64 rv, .int .i64 at_, .slice ra es.length rc, .int .i64 ri, .int .i64 rs, .string rx] 63)).alloc (.cells #[.int .i64 0, .int .i64 0, .int .i64 0, .int .i64 0, .string ⟨#[]⟩, .slice none 0 0] 60)).heap.size := by rw [g4]; omega
 clear g1 g2 g3 g4 hB3 hk hr;unfold fitK at hf;obtain ⟨u, hv'⟩ : ∃ u, foldK ⟨ht, hv, si, st, tx, l⟩ ⟨kd, rt, rv, at_, es, ri, rs, rx⟩ = u := ⟨_, rfl⟩;rw [hv'];obtain ⟨f1, f2, f3, f4, f5, fl⟩ := u;dsimp only;unfold foldK at hv'
 go_enter Tryz.func16, Tryz.ntmps16
 go_upto_region 1 with fail
 generalize (World.alloc (World.alloc (World.alloc w _) _) _) = W2 at *;generalize w.heap.size + 1 + 1 = R at *;generalize w.heap.size + 1 = Q at *;obtain ⟨⟨p0, p1, p2, p3, p4, p5⟩, pf, pz⟩ := at6 G1.out;have HF3 : Hid (FB w Q R W2.heap.size #[.int .i64 ht, .int .i64 hv, .int .i64 si, .int .i64 st, .string tx, .slice ga l.length gc] #[.int .i64 kd, .int .i64 rt, .int .i64 rv, .int .i64 at_, .slice ra es.length rc, .int .i64 ri, .int .i64 rs, .string rx] #[.int .i64 ht, .int .i64 hv, .int .i64 si, .int .i64 st, .string tx, .slice none 0 0] (W2.alloc (.cells #[.int .i64 ht, .int .i64 hv, .int .i64 si, .int .i64 st, .string tx, .slice none 0 0] 60))) := hideIt ⟨blkK G1.out (below1 _ _), blkK G2.out (below1 _ _), blkK G3.out (below1 _ _), heap_alloc_new W2 _, below_via HB3.out (below1 _ _), hQR⟩
 go_upto_region 3 with (refine wpList_store_row rfl 60 _ _ rfl W2.heap.size #[.int .i64 ht, .int .i64 hv, .int .i64 si, .int .i64 st, .string tx, .slice none 0 0] rfl rfl 60 #[.int .i64 0, .int .i64 0, .int .i64 0, .int .i64 0, .string ⟨#[]⟩, .slice none 0 0] (heap_alloc_new W2 _) (by kernel_rfl) (by rfl) (by simp [Value.oneCell']) ?_; rw [World.setRow_alloc_new])
 generalize (World.alloc W2 _) = W3 at *;generalize W2.heap.size = O at *;clear p0 p1 p2 p3 p4 p5 pf pz G1 G2 G3 HB3;have HK3 := hideIt (HK.out.keep HF3.out.bel);have HR3 := hideIt (HR.out.keep HF3.out.bel);obtain ⟨o1', o2', o3'⟩ := hQR;have hnl : W3.ownsRow (O + 1) 55 3 (.slice none 0 0) 0 (entC []) := own_nil _ _;have HNL := hideIt hnl;clear hnl;obtain ⟨⟨p0, p1, p2, p3, p4, p5⟩, pf, pz⟩ := at6 HF3.out.k;obtain ⟨⟨q0, q1, q2, q3, q4, q5, q6, q7⟩, qf, qz⟩ := at8 HF3.out.r;obtain ⟨⟨z0, z1, z2, z3, z4, z5⟩, zf, zz⟩ := at6 HF3.out.z;obtain ⟨⟨o0, o1, o2, o3, o4, o5⟩, of, oz⟩ := at6 HF3.out.o
 split at hf
 ·rename_i c
  dsimp only at c hf;rw [if_pos c] at hv';simp only [KptV.mk.injEq] at hv';obtain ⟨rfl, rfl, rfl, rfl, rfl, rfl⟩ := hv';subst c;clear hf;have HF5 := hideIt ((HF3.out.set 0 (.int .i64 rt)).set 1 (.int .i64 rv));have HN5 := hideIt (ownSet (b := O) (j := 1) (.int .i64 rv) (ownSet (b := O) (j := 0) (.int .i64 rt) HNL.out (by omega)) (by omega));have HK5 := hideIt (HK.out.keep HF5.out.bel)
  go_upto_region 6 with fail
  generalize ((W3.setCell ⟨O, 0, none⟩ _).setCell ⟨O, 1, none⟩ _) = W5 at *;clear p0 p1 p2 p3 p4 p5 pf pz q0 q1 q2 q3 q4 q5 q6 q7 qf qz z0 z1 z2 z3 z4 z5 zf zz o0 o1 o2 o3 o4 o5 of oz;obtain ⟨⟨p0, p1, p2, p3, p4, p5⟩, pf, pz⟩ := at6 HF5.out.k;obtain ⟨⟨q0, q1, q2, q3, q4, q5, q6, q7⟩, qf, qz⟩ := at8 HF5.out.r;obtain ⟨⟨o0, o1, o2, o3, o4, o5⟩, of, oz⟩ := at6 HF5.out.o;obtain ⟨v', w', hrun, how, hgr⟩ := run_app W5 28 (O + 1) (.slice none 0 0) [] l (.slice ga l.length gc) HF5.out.size HN5.out HK5.out (by have := HK5.out.1; simpa using this)
  rw [List.nil_append] at how;obtain ⟨a2, cc, rfl⟩ := own_len how;have HRUN := hideIt hrun;have HF6 := hideIt (HF5.out.app HN5.out hgr);have HO6 := hideIt how;have HF7 := hideIt (HF6.out.set 5 (.slice a2 l.length cc));have HO7 := hideIt (HF6.out.own (j := 5) (u := .slice a2 l.length cc) HO6.out);clear hrun how hgr;obtain ⟨⟨u0, u1, u2, u3, u4, u5⟩, uf, uz⟩ := at6 HF6.out.o
  go_upto_region 15 with (at_builtin; refine wpList_append_run _ rfl _ _ rfl rfl rfl rfl HRUN.out ?_)
  generalize (w'.setCell ⟨O, 5, none⟩ _) = W7 at *;clear p0 p1 p2 p3 p4 p5 pf pz q0 q1 q2 q3 q4 q5 q6 q7 qf qz o0 o1 o2 o3 o4 o5 of oz u0 u1 u2 u3 u4 u5 uf uz;have HFIN := HF7.out.fin HO7.out #[.int .i64 rt, .int .i64 rv, .int .i64 si, .int .i64 st, .string tx, .slice a2 l.length cc];obtain ⟨⟨z0, z1, z2, z3, z4, z5⟩, zf, zz⟩ := at6 HF7.out.z;obtain ⟨⟨o0, o1, o2, o3, o4, o5⟩, of, oz⟩ := at6 HF7.out.o
  go_wp2_with (refine wpList_store_row rfl 60 _ _ rfl R #[.int .i64 rt, .int .i64 rv, .int .i64 si, .int .i64 st, .string tx, .slice a2 l.length cc] rfl rfl 60 _ HF7.out.z (by kernel_rfl) (by rfl) (by simp [Value.oneCell']) ?_)
  obtain ⟨e1, e2, e3⟩ := HFIN.out
  revert e1 e2 e3
  generalize (World.setRow _ R _) = WF;intro e1 e2 e3;exact bodyPost_ret (v := .agg #[.int .i64 rt, .int .i64 rv, .int .i64 si, .int .i64 st, .string tx, .slice a2 l.length cc]) (by simp [results, Tryz.results16, go_sem, Tm.cell_at e1]) rfl ⟨_, _, rfl, e2, e3⟩
 ·rename_i c
  dsimp only at c;rw [if_neg c] at hv';have c1 : decide (kd = 1) = false := decide_eq_false c;have c1' : (kd == 1) = false := beq_eq_false_iff_ne.2 c
  split at hf
  ·rename_i c2
   dsimp only at c2 hf;rw [if_pos c2] at hv';simp only [KptV.mk.injEq] at hv';obtain ⟨rfl, rfl, rfl, rfl, rfl, hv'⟩ := hv';subst c2;simp only [Bool.and_eq_true, decide_eq_true_eq] at hf;obtain ⟨h1, h2, h3, h4⟩ := hf;obtain ⟨h1, h1'⟩ := wiB_in h1;have hw4 : IntKind.i64.wrap (at_ - si) = at_ - si := by rw [IntKind.wrap_i64]; omega
   obtain ⟨j, hj⟩ : ∃ j : Nat, at_ - si - 1 = (j : Int) := ⟨(at_ - si - 1).toNat, by omega⟩;have hw5 : IntKind.i64.wrap (at_ - si - 1) = (j : Int) := by rw [hj, IntKind.wrap_i64]; omega
   rw [hj] at hv';simp only [Int.toNat_natCast] at hv';have hjl : j ≤ l.length := by omega
   have hgc := (EGot.cap HK3.out);have jj0 : (0 : Int) ≤ (j : Int) := by omega
   have jj1 : (j : Int) ≤ (gc : Int) := by omega
   have hel : es.length ≤ 400 := h2;have hlj : (l.take j).length = j := by rw [List.length_take]; omega
   have HPT := hideIt (fun W (hW : EGot W (.slice ga l.length gc) l) => EGot.part hW 0 j gc (by omega) ⟨by omega, hgc.2⟩ ga (fun _ b off e => by rw [e]; simp))
   simp only [List.drop_zero] at HPT;have HFD := hideIt (HF3.out.keep (Below.refl _ _).drew);obtain ⟨v', w', hrun, how, hgr⟩ := run_app W3.drew 28 (O + 1) (.slice none 0 0) [] (l.take j) (.slice ga j gc) HFD.out.size (own_keep HNL.out (Below.refl _ _).drew) (HPT.out _ (HK3.out.keep (Below.refl _ _).drew)) (by rw [hlj, List.length_nil]; omega)
   have HF6 := hideIt (HFD.out.app (own_keep HNL.out (Below.refl _ _).drew) hgr);rw [List.nil_append] at how;obtain ⟨a2, cc, rfl⟩ := own_len how;rw [hlj] at how hrun;have HRUN := hideIt hrun;have HO6 := hideIt how;have HF7 := hideIt (HF6.out.set 5 (.slice a2 j cc));have HO7 := hideIt (HF6.out.own (j := 5) (u := .slice a2 j cc) HO6.out);clear hrun how hgr h1 h1' h2 h3 h4 hj;obtain ⟨⟨u0, u1, u2, u3, u4, u5⟩, uf, uz⟩ := at6 HF6.out.o
   go_upto_region 8 with fail
   go_cut [] from 32 to 43 (fun wx => wx = w'.setCell ⟨O, 5, none⟩ (.slice a2 j cc))
   case first =>
    go_region_law (refine step_run rfl _ _ 28 28 rfl rfl rfl rfl HRUN.out ?_)
    all_goals go_wp2_with fail
    all_goals go_meet
    all_goals rfl
   case rest =>
   subst hcut;generalize (w'.setCell ⟨O, 5, none⟩ _) = W7 at *;clear p0 p1 p2 p3 p4 p5 pf pz q0 q1 q2 q3 q4 q5 q6 q7 qf qz z0 z1 z2 z3 z4 z5 zf zz o0 o1 o2 o3 o4 o5 of oz u0 u1 u2 u3 u4 u5 uf uz;obtain ⟨⟨q0, q1, q2, q3, q4, q5, q6, q7⟩, qf, qz⟩ := at8 HF7.out.r;obtain ⟨⟨o0, o1, o2, o3, o4, o5⟩, of, oz⟩ := at6 HF7.out.o;obtain ⟨v2, w2, hrun, how, hgr⟩ := run_app W7 28 (O + 1) (.slice a2 j cc) (l.take j) es (.slice ra es.length rc) HF7.out.size (by rw [hlj]; exact HO7.out) (HR.out.keep HF7.out.bel) (by rw [hlj]; omega)
   have HF8 := hideIt (HF7.out.app HO7.out hgr);rw [hv'] at how;obtain ⟨a3, cc3, rfl⟩ := own_len how;have HRUN2 := hideIt hrun;have HO8 := hideIt how;have HF9 := hideIt (HF8.out.set 5 (.slice a3 fl.length cc3));have HO9 := hideIt (HF8.out.own (j := 5) (u := .slice a3 fl.length cc3) HO8.out);clear hrun how hgr HRUN;obtain ⟨⟨u0, u1, u2, u3, u4, u5⟩, uf, uz⟩ := at6 HF8.out.o
   go_upto_region 15 with (at_builtin; refine wpList_append_run _ rfl _ _ rfl rfl rfl rfl HRUN2.out ?_)
   generalize (w2.setCell ⟨O, 5, none⟩ _) = W9 at *;clear q0 q1 q2 q3 q4 q5 q6 q7 qf qz o0 o1 o2 o3 o4 o5 of oz u0 u1 u2 u3 u4 u5 uf uz;have HFIN := HF9.out.fin HO9.out #[.int .i64 ht, .int .i64 hv, .int .i64 si, .int .i64 st, .string tx, .slice a3 fl.length cc3];obtain ⟨⟨z0, z1, z2, z3, z4, z5⟩, zf, zz⟩ := at6 HF9.out.z;obtain ⟨⟨o0, o1, o2, o3, o4, o5⟩, of, oz⟩ := at6 HF9.out.o
   go_wp2_with (refine wpList_store_row rfl 60 _ _ rfl R #[.int .i64 ht, .int .i64 hv, .int .i64 si, .int .i64 st, .string tx, .slice a3 fl.length cc3] rfl rfl 60 _ HF9.out.z (by kernel_rfl) (by rfl) (by simp [Value.oneCell']) ?_)
   obtain ⟨e1, e2, e3⟩ := HFIN.out
   revert e1 e2 e3
   generalize (World.setRow _ R _) = WF;intro e1 e2 e3;exact bodyPost_ret (v := .agg #[.int .i64 ht, .int .i64 hv, .int .i64 si, .int .i64 st, .string tx, .slice a3 fl.length cc3]) (by simp [results, Tryz.results16, go_sem, Tm.cell_at e1]) rfl ⟨_, _, rfl, e2, e3⟩
  ·rename_i c2
   dsimp only at c2;rw [if_neg c2] at hv';have c2a : decide (kd = 2) = false := decide_eq_false c2;have c2b : (kd == 2) = false := beq_eq_false_iff_ne.2 c2
   split at hf
   ·rename_i c3
    dsimp only at c3 hf;rw [if_pos c3] at hv';simp only [KptV.mk.injEq] at hv';obtain ⟨rfl, rfl, rfl, rfl, rfl, hv'⟩ := hv';subst c3;simp only [Bool.and_eq_true, decide_eq_true_eq] at hf;obtain ⟨⟨h1, h2⟩, h3, h4⟩ := hf;have hw4 : IntKind.i64.wrap (ri - si) = ri - si := by rw [IntKind.wrap_i64]; omega
    obtain ⟨J, hJ⟩ : ∃ J : Nat, ri - si = (J : Int) := ⟨(ri - si).toNat, by omega⟩;obtain ⟨j, hj⟩ : ∃ j : Nat, J = j + 1 := ⟨J - 1, by omega⟩;have hw5 : IntKind.i64.wrap ((J : Int) - 1) = (j : Int) := by rw [IntKind.wrap_i64]; omega
    have HF5 := hideIt (((HF3.out.set 2 (.int .i64 ri)).set 3 (.int .i64 rs)).set 4 (.string rx));have HN5 := hideIt (ownSet (b := O) (j := 4) (.string rx) (ownSet (b := O) (j := 3) (.int .i64 rs) (ownSet (b := O) (j := 2) (.int .i64 ri) HNL.out (by omega)) (by omega)) (by omega));have HK5 := hideIt (HK.out.keep HF5.out.bel)
    go_upto_region 12 with fail
    generalize (((W3.setCell ⟨O, 2, none⟩ _).setCell ⟨O, 3, none⟩ _).setCell ⟨O, 4, none⟩ _) = W5 at *;clear p0 p1 p2 p3 p4 p5 pf pz q0 q1 q2 q3 q4 q5 q6 q7 qf qz z0 z1 z2 z3 z4 z5 zf zz o0 o1 o2 o3 o4 o5 of oz;obtain ⟨⟨p0, p1, p2, p3, p4, p5⟩, pf, pz⟩ := at6 HF5.out.k;obtain ⟨⟨q0, q1, q2, q3, q4, q5, q6, q7⟩, qf, qz⟩ := at8 HF5.out.r;obtain ⟨⟨o0, o1, o2, o3, o4, o5⟩, of, oz⟩ := at6 HF5.out.o;rw [show ri - si - 1 = (j : Int) by omega, hJ] at hv';simp only [Int.toNat_natCast] at hv';have hgc := (EGot.cap HK5.out);have jj0 : (0 : Int) ≤ (j : Int) := by omega
    have JJ0 : (0 : Int) ≤ (J : Int) := by omega
    by_cases hjl : J ≤ l.length
    ·have d1 : decide ((J : Int) ≤ (l.length : Int)) = true := decide_eq_true (by omega);have jj1 : (j : Int) < (l.length : Int) := by omega
     have JJ1 : (J : Int) ≤ (l.length : Int) := by omega
     have JJ2 : (l.length : Int) ≤ (gc : Int) := by omega
     obtain ⟨a1, c4, e4, -, hE⟩ := HK5.out.opend;simp only [Value.slice.injEq] at e4;obtain ⟨b, off, hb, hbl, k0, k1, k2⟩ := hE j (by omega);rw [← e4.1] at hb;subst hb;clear hE e4 k1 k2 hj
     go_upto_region 13 with fail
     generalize ri - si = G at *;subst hJ
     by_cases hT : (l.getD j noE).term = rs
     ·rw [if_pos ⟨by omega, hT⟩] at hv';subst hv';rw [hT] at k0;have hdl : (l.drop J).length = l.length - J := List.length_drop
      go_quiet (fail)
      go_upto_region 14 with fail
      have HFA := hideIt (HF5.out.keep (below_drewN (Below.refl _ _) nq));have HNA := hideIt (own_keep HN5.out (below_drewN (Below.refl _ _) nq));have HKA := hideIt (HK5.out.keep (below_drewN (Below.refl _ _) nq));clear p0 p1 p2 p3 p4 p5 pf pz q0 q1 q2 q3 q4 q5 q6 q7 qf qz o0 o1 o2 o3 o4 o5 of oz;generalize W5.drewN nq = WA at *
      by_cases hcap : gc = J
      ·have hlJ : l.length = J := by omega
       have hd0 : l.drop J = [] := List.drop_eq_nil_of_le (by omega);have HFX := hideIt ((HFA.out.set 5 (.slice none 0 0)).keep (Below.refl _ _).drew);have HOX := hideIt (own_keep (ownSet (b := O) (j := 5) (.slice none 0 0) HNA.out (by omega)) (Below.refl _ _).drew);obtain ⟨⟨p0, p1, p2, p3, p4, p5⟩, pf, pz⟩ := at6 HFA.out.k;obtain ⟨⟨o0, o1, o2, o3, o4, o5⟩, of, oz⟩ := at6 HFA.out.o
       go_region_law (fail)
       all_goals
        generalize (World.drew (WA.setCell ⟨O, 5, none⟩ _)) = W7 at *;clear p0 p1 p2 p3 p4 p5 pf pz o0 o1 o2 o3 o4 o5 of oz;have HFIN := HFX.out.fin HOX.out #[.int .i64 ht, .int .i64 hv, .int .i64 ri, .int .i64 rs, .string rx, .slice none 0 0];obtain ⟨⟨z0, z1, z2, z3, z4, z5⟩, zf, zz⟩ := at6 HFX.out.z;obtain ⟨⟨o0, o1, o2, o3, o4, o5⟩, of, oz⟩ := at6 HFX.out.o
        go_wp2_with (refine wpList_store_row rfl 60 _ _ rfl R #[.int .i64 ht, .int .i64 hv, .int .i64 ri, .int .i64 rs, .string rx, .slice none 0 0] rfl rfl 60 _ HFX.out.z (by kernel_rfl) (by rfl) (by simp [Value.oneCell']) ?_)
        obtain ⟨e1, e2, e3⟩ := HFIN.out
        revert e1 e2 e3
        generalize (World.setRow _ R _) = WF;intro e1 e2 e3;exact bodyPost_ret (v := .agg #[.int .i64 ht, .int .i64 hv, .int .i64 ri, .int .i64 rs, .string rx, .slice none 0 0]) (by simp [results, Tryz.results16, go_sem, Tm.cell_at e1]) rfl ⟨none, 0, by rw [hd0]; rfl, by rw [hd0]; exact e2, e3⟩
      ·have hcapI : ¬ (gc = J) := hcap;have HPD : Hid (EGot WA.drew (.slice (some ⟨b, off + J * 3, none⟩) (l.length - J) (gc - J)) (l.drop J)) := by
        have h := EGot.part (HKA.out.keep (Below.refl _ _).drew) J (l.length - J) (gc - J) (by omega) ⟨by omega, by omega⟩ (some ⟨b, off + J * 3, none⟩) (fun _ b2 o2 e => by simp only [Option.some.injEq, Addr.mk.injEq, and_true] at e; rw [← e.1, ← e.2])
        rw [List.take_of_length_le (by omega)] at h;exact hideIt h
       obtain ⟨v', w', hrun, how, hgr⟩ := run_app WA.drew 28 (O + 1) (.slice none 0 0) [] (l.drop J) (.slice (some ⟨b, off + J * 3, none⟩) (l.length - J) (gc - J)) (HFA.out.keep (Below.refl _ _).drew).size (own_keep HNA.out (Below.refl _ _).drew) HPD.out (by rw [hdl, List.length_nil]; omega)
       have HF6 := hideIt ((HFA.out.keep (Below.refl _ _).drew).app (own_keep HNA.out (Below.refl _ _).drew) hgr);rw [List.nil_append] at how;rw [hdl] at how;obtain ⟨a2, cc, rfl⟩ := own_len how;have HRUN := hideIt hrun;have HO6 := hideIt how;have HF7 := hideIt (HF6.out.set 5 (.slice a2 (l.length - J) cc));have HO7 := hideIt (HF6.out.own (j := 5) (u := .slice a2 (l.length - J) cc) HO6.out);clear hrun how hgr;obtain ⟨⟨u0, u1, u2, u3, u4, u5⟩, uf, uz⟩ := at6 HF6.out.o;obtain ⟨⟨p0, p1, p2, p3, p4, p5⟩, pf, pz⟩ := at6 HFA.out.k;obtain ⟨⟨o0, o1, o2, o3, o4, o5⟩, of, oz⟩ := at6 HFA.out.o
       go_region_law (refine step_run rfl _ _ 28 28 rfl rfl rfl rfl HRUN.out ?_)
       all_goals
        generalize (w'.setCell ⟨O, 5, none⟩ _) = W7 at *;clear p0 p1 p2 p3 p4 p5 pf pz o0 o1 o2 o3 o4 o5 of oz u0 u1 u2 u3 u4 u5 uf uz;have HFIN := HF7.out.fin HO7.out #[.int .i64 ht, .int .i64 hv, .int .i64 ri, .int .i64 rs, .string rx, .slice a2 (l.length - J) cc];obtain ⟨⟨z0, z1, z2, z3, z4, z5⟩, zf, zz⟩ := at6 HF7.out.z;obtain ⟨⟨o0, o1, o2, o3, o4, o5⟩, of, oz⟩ := at6 HF7.out.o
        go_wp2_with (refine wpList_store_row rfl 60 _ _ rfl R #[.int .i64 ht, .int .i64 hv, .int .i64 ri, .int .i64 rs, .string rx, .slice a2 (l.length - J) cc] rfl rfl 60 _ HF7.out.z (by kernel_rfl) (by rfl) (by simp [Value.oneCell']) ?_)
        obtain ⟨e1, e2, e3⟩ := HFIN.out
        revert e1 e2 e3
        generalize (World.setRow _ R _) = WF;intro e1 e2 e3;exact bodyPost_ret (v := .agg #[.int .i64 ht, .int .i64 hv, .int .i64 ri, .int .i64 rs, .string rx, .slice a2 (l.length - J) cc]) (by simp [results, Tryz.results16, go_sem, Tm.cell_at e1]) rfl ⟨a2, cc, by rw [hdl], by rw [hdl]; exact e2, e3⟩
     ·rw [if_neg (fun h => hT h.2)] at hv';subst hv';generalize (l.getD j noE).term = yt at k0 hT;have q8 : decide (yt = rs) = false := decide_eq_false hT;have q9 : (yt == rs) = false := beq_eq_false_iff_ne.2 hT
      go_quiet (fail)
      have HFA := hideIt (HF5.out.keep (below_drewN (Below.refl _ _) nq));have HNA := hideIt (own_keep HN5.out (below_drewN (Below.refl _ _) nq));clear p0 p1 p2 p3 p4 p5 pf pz q0 q1 q2 q3 q4 q5 q6 q7 qf qz o0 o1 o2 o3 o4 o5 of oz;have HFIN := HFA.out.fin HNA.out #[.int .i64 ht, .int .i64 hv, .int .i64 ri, .int .i64 rs, .string rx, .slice none 0 0];obtain ⟨⟨z0, z1, z2, z3, z4, z5⟩, zf, zz⟩ := at6 HFA.out.z;obtain ⟨⟨o0, o1, o2, o3, o4, o5⟩, of, oz⟩ := at6 HFA.out.o
      go_wp2_with (refine wpList_store_row rfl 60 _ _ rfl R #[.int .i64 ht, .int .i64 hv, .int .i64 ri, .int .i64 rs, .string rx, .slice none 0 0] rfl rfl 60 _ HFA.out.z (by kernel_rfl) (by rfl) (by simp [Value.oneCell']) ?_)
      obtain ⟨e1, e2, e3⟩ := HFIN.out
      revert e1 e2 e3
      generalize (World.setRow _ R _) = WF;intro e1 e2 e3;exact bodyPost_ret (v := .agg #[.int .i64 ht, .int .i64 hv, .int .i64 ri, .int .i64 rs, .string rx, .slice none 0 0]) (by simp [results, Tryz.results16, go_sem, Tm.cell_at e1]) rfl ⟨_, _, rfl, e2, e3⟩
    ·have d1 : decide ((J : Int) ≤ (l.length : Int)) = false := decide_eq_false (by omega);clear hj;rw [if_neg (fun h => by omega)] at hv';subst hv'
     go_upto_region 13 with fail
     generalize ri - si = G at *;subst hJ
     go_quiet (fail)
     have HFA := hideIt (HF5.out.keep (below_drewN (Below.refl _ _) nq));have HNA := hideIt (own_keep HN5.out (below_drewN (Below.refl _ _) nq));clear p0 p1 p2 p3 p4 p5 pf pz q0 q1 q2 q3 q4 q5 q6 q7 qf qz o0 o1 o2 o3 o4 o5 of oz;have HFIN := HFA.out.fin HNA.out #[.int .i64 ht, .int .i64 hv, .int .i64 ri, .int .i64 rs, .string rx, .slice none 0 0];obtain ⟨⟨z0, z1, z2, z3, z4, z5⟩, zf, zz⟩ := at6 HFA.out.z;obtain ⟨⟨o0, o1, o2, o3, o4, o5⟩, of, oz⟩ := at6 HFA.out.o
     go_wp2_with (refine wpList_store_row rfl 60 _ _ rfl R #[.int .i64 ht, .int .i64 hv, .int .i64 ri, .int .i64 rs, .string rx, .slice none 0 0] rfl rfl 60 _ HFA.out.z (by kernel_rfl) (by rfl) (by simp [Value.oneCell']) ?_)
     obtain ⟨e1, e2, e3⟩ := HFIN.out
     revert e1 e2 e3
     generalize (World.setRow _ R _) = WF;intro e1 e2 e3;exact bodyPost_ret (v := .agg #[.int .i64 ht, .int .i64 hv, .int .i64 ri, .int .i64 rs, .string rx, .slice none 0 0]) (by simp [results, Tryz.results16, go_sem, Tm.cell_at e1]) rfl ⟨_, _, rfl, e2, e3⟩
   ·cases hf
end Go.Proofs.YtcaehfkfohianaaGreat
