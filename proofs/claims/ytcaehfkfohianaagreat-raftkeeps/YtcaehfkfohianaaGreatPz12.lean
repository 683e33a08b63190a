/- Texts of my own, laid together. -/
import Derived.Test.YtcaehfkfohianaaGreatPz11
import Derived.Test.YtcaehfkfohianaaGreatPz07
import Derived.Test.YtcaehfkfohianaaGreatPz09
set_option linter.all false
namespace Go.Proofs.YtcaehfkfohianaaGreat.Tm
open Go.RowKit
theorem ins_sorted (x : Int) : ∀ (l : List Int), l.Pairwise (· < ·) → x ∉ l → (insL l (l.countP (· < x)) x).Pairwise (· < ·) ∧ ∀ y, y ∈ insL l (l.countP (· < x)) x ↔ (y = x ∨ y ∈ l)
 | [], _, _ => ⟨by simp [insL], fun y => by simp [insL]⟩
 | z :: l, h, hx => by
  rw [List.pairwise_cons] at h;rw [List.mem_cons, not_or] at hx
  by_cases hz : z < x
  ·have e : (z :: l).countP (· < x) = l.countP (· < x) + 1 := by simp [hz]
   have e2 : insL (z :: l) (l.countP (· < x) + 1) x = z :: insL l (l.countP (· < x)) x := by simp [insL]
   obtain ⟨i1, i2⟩ := ins_sorted x l h.2 hx.2;rw [e, e2];refine ⟨List.pairwise_cons.2 ⟨fun y hy => ?_, i1⟩, fun y => ?_⟩
   ·rcases (i2 y).1 hy with rfl | h3
    ·exact hz
    ·exact h.1 y h3
   ·rw [List.mem_cons, i2, List.mem_cons]
    constructor
    ·rintro (h1 | h1 | h1)
     ·exact .inr (.inl h1)
     ·exact .inl h1
     ·exact .inr (.inr h1)
    ·rintro (h1 | h1 | h1)
     ·exact .inr (.inl h1)
     ·exact .inl h1
     ·exact .inr (.inr h1)
  ·have e : (z :: l).countP (· < x) = 0 := by
    rw [List.countP_eq_zero];intro y hy
    rcases List.mem_cons.1 hy with rfl | hy
    ·simpa using hz
    ·have := h.1 y hy
     simp
     omega
   rw [e];have e2 : insL (z :: l) 0 x = x :: z :: l := by simp [insL]
   rw [e2];refine ⟨List.pairwise_cons.2 ⟨fun y hy => ?_, List.pairwise_cons.2 h⟩, fun y => by simp⟩
   rcases List.mem_cons.1 hy with rfl | hy
   ·omega
   ·have := h.1 y hy;omega
theorem add_mem (l : List Int) (x : Int) (h : l.Pairwise (· < ·)) : (addL l x).Pairwise (· < ·) ∧ ∀ y, y ∈ addL l x ↔ (y = x ∨ y ∈ l) := by
 unfold addL
 by_cases hx : x ∈ l
 ·rw [if_pos (by simpa using hx)]
  exact ⟨h, fun y => ⟨.inr, fun h2 => h2.elim (fun e => e ▸ hx) id⟩⟩
 ·rw [if_neg (by simpa using hx)];exact ins_sorted x l h hx
theorem grown_own {w0 w w' : World} {B : Nat} {e : TypeId} {z n : Nat} {v : Value} {xs : List Value} (ho : w0.ownsRow B e z v n xs) (hg : w.grownBy w' v.ownBlock) (hB : B ≤ w.heap.size) : Below B w w' :=
 (Out.ofGrown (F := fun k => v.ownBlock = some k) hg (fun _ h => h)).below hB (fun _ hj => (own_block ho hj).2)
end Go.Proofs.YtcaehfkfohianaaGreat.Tm
namespace Go.Proofs.YtcaehfkfohianaaGreat
open Go.RowKit
def tmN (x : Int) (l : List EntV) : Nat → Int
 | 0 => x
 | j + 1 => (l.getD j noE).term
theorem rowsB_iff : ∀ (l : List EntV) (x : Int), rowsB l x = true ↔ ∀ j (h : j < l.length), entB l[j] = true ∧ tmN x l j ≤ (l[j]).term
 | [], x => by simp [rowsB]
 | e :: l, x => by
  rw [rowsB];simp only [Bool.and_eq_true, decide_eq_true_eq];rw [rowsB_iff l e.term]
  constructor
  ·rintro ⟨⟨h1, h2⟩, h3⟩ j hj;cases j with
   | zero => exact ⟨h1, h2⟩
   | succ j =>
    have h4 := h3 j (by simpa using hj);refine ⟨by simpa using h4.1, ?_⟩;cases j with
    | zero => simpa [tmN] using h4.2
    | succ j => simpa [tmN] using h4.2
  ·intro h;have h0 := h 0 (by simp);refine ⟨⟨h0.1, h0.2⟩, fun j hj => ?_⟩;have h4 := h (j + 1) (by simpa using hj);refine ⟨by simpa using h4.1, ?_⟩;cases j with
   | zero => simpa [tmN] using h4.2
   | succ j => simpa [tmN] using h4.2
theorem hasM_iff (L : LogV) (i t : Int) : hasM L i t = true ↔ ∃ j : Nat, j ≤ L.l.length ∧ i = L.bi + j ∧ tmN L.bt L.l j = t := by
 unfold hasM markL
 by_cases c : i = L.bi
 ·rw [if_pos c];simp only [Bool.true_and, Bool.and_eq_true, beq_iff_eq]
  constructor
  ·rintro ⟨_, h⟩
   exact ⟨0, Nat.zero_le _, by omega, h⟩
  ·rintro ⟨j, _, h1, h2⟩;have : j = 0 := by omega
   subst this
   exact ⟨c.symm, h2⟩
 ·rw [if_neg c];cases hb : hasB L i
  ·simp only [Bool.false_eq_true, if_false, Bool.false_and, false_iff];rintro ⟨j, h0, h1, _⟩;have hn : ¬ (L.bi + 1 ≤ i ∧ i ≤ lasI L) := of_decide_eq_false hb;unfold lasI at hn;omega
  ·have hn : L.bi + 1 ≤ i ∧ i ≤ lasI L := of_decide_eq_true hb;unfold lasI at hn;simp only [if_true, Bool.true_and, Bool.and_eq_true, beq_iff_eq, true_and]
   constructor
   ·intro h;refine ⟨(i - L.bi - 1).toNat + 1, by omega, by omega, h⟩
   ·rintro ⟨j, h0, h1, h2⟩;obtain ⟨j, rfl⟩ : ∃ k, j = k + 1 := ⟨j - 1, by omega⟩;rw [show (i - L.bi - 1).toNat = j by omega];exact h2
theorem passR_all (L : LogV) : ∀ (es : List EntV) (p : Int), (∀ i (h : i < es.length), p + i + 1 ≤ L.bi ∨ hasM L (p + i + 1) (es[i]).term = true) → passR L p es = es.length
 | [], _, _ => rfl
 | e :: es, p, h => by
  have h0 := h 0 (by simp);simp only [Int.natCast_zero, Int.add_zero, List.getElem_cons_zero] at h0;rw [passR, if_pos h0, passR_all L es (p + 1) (fun i hi => by
   have := h (i + 1) (by simpa using hi);simp only [List.getElem_cons_succ] at this
   rwa [show p + ((i + 1 : Nat) : Int) + 1 = p + 1 + i + 1 by omega] at this)]
  rfl
theorem passR_pre (L : LogV) : ∀ (es : List EntV) (p : Int) (i : Nat) (h : i < es.length), i < passR L p es → p + i + 1 ≤ L.bi ∨ hasM L (p + i + 1) (es[i]).term = true
 | [], _, _, h, _ => by simp at h
 | e :: es, p, i, h, hi => by
  rw [passR] at hi
  split at hi
  ·rename_i hc
   cases i with
   | zero => simpa using hc
   | succ i =>
    have := passR_pre L es (p + 1) i (by simpa using h) (by omega);rw [show p + ((i + 1 : Nat) : Int) + 1 = p + 1 + i + 1 by omega]
    simpa using this
  ·omega
theorem tm_glue (x : Int) (l es : List EntV) (q k : Nat) (hq : q ≤ l.length) (j : Nat) : tmN x (l.take q ++ es.drop k) j = if j ≤ q then tmN x l j else (es.getD (k + (j - 1 - q)) noE).term := by
 have hl : (l.take q).length = q := by rw [List.length_take]; omega
 cases j with
 | zero => rfl
 | succ j =>
  simp only [tmN, List.getD]
  by_cases c : j < q
  ·rw [if_pos (by omega), List.getElem?_append_left (by omega), List.getElem?_take, if_pos c]
  ·rw [if_neg (by omega), List.getElem?_append_right (by omega), hl, List.getElem?_drop, show j + 1 - 1 - q = j - q by omega]
theorem rows_glue {x pt : Int} {l es : List EntV} {q k : Nat} (hq : q ≤ l.length) (hk : k < es.length) (h1 : rowsB l x = true) (h2 : rowsB es pt = true) (h3 : tmN x l q ≤ (es.getD k noE).term) : rowsB (l.take q ++ es.drop k) x = true := by
 rw [rowsB_iff] at h1 h2 ⊢;have hl : (l.take q).length = q := by rw [List.length_take]; omega
 intro j hj;rw [List.length_append, hl, List.length_drop] at hj;rw [tm_glue x l es q k hq j]
 by_cases c : j < q
 ·rw [if_pos (by omega), List.getElem_append_left (by omega)];simp only [List.getElem_take];exact h1 j (by omega)
 ·rw [List.getElem_append_right (by omega)];simp only [List.getElem_drop, hl];have h4 := h2 (k + (j - q)) (by omega);refine ⟨h4.1, ?_⟩
  by_cases c2 : j ≤ q
  ·have : j = q := by omega
   subst this;rw [if_pos (Nat.le_refl _)];simp only [Nat.sub_self, Nat.add_zero]
   simpa [List.getD, List.getElem?_eq_getElem hk] using h3
  ·rw [if_neg c2];have h5 := h4.2;obtain ⟨u, hu⟩ : ∃ u, k + (j - q) = u + 1 := ⟨k + (j - q) - 1, by omega⟩;simp only [hu, tmN] at h5 ⊢
   rwa [show k + (j - 1 - q) = u by omega]
theorem mayB_mk {L : LogV} (h1 : mkB L.bi L.bt = true) (h2 : L.l.length ≤ 400) (h3 : rowsB L.l L.bt = true) (h4 : lasI L ≤ 1000000) (h5 : L.bi ≤ L.cm ∧ L.cm ≤ lasI L) : mayB L = true := by
 simp only [mayB, wiB, Bool.and_eq_true, decide_eq_true_eq]
 exact ⟨⟨⟨⟨h1, h2⟩, h3⟩, h4⟩, h5⟩
theorem mayB_mkB {L : LogV} (h : mayB L = true) : mkB L.bi L.bt = true := by
 simp only [mayB, Bool.and_eq_true] at h;exact h.1.1.1.1
theorem lasM_tm {L : LogV} : (lasM L).2 = tmN L.bt L.l L.l.length := by
 unfold lasM markL
 by_cases c : lasI L = L.bi
 ·rw [if_pos c];have : L.l.length = 0 := by unfold lasI at c; omega
  rw [this]
  rfl
 ·rw [if_neg c];have hp : 0 < L.l.length := by
   rcases Nat.eq_zero_or_pos L.l.length with h | h
   ·exact absurd (by unfold lasI; omega) c
   ·exact h
  have hb : hasB L (lasI L) = true := decide_eq_true (by unfold lasI; omega)
  rw [hb];simp only [if_true];obtain ⟨n, hn⟩ : ∃ n, L.l.length = n + 1 := ⟨L.l.length - 1, by omega⟩;rw [hn, tmN, show (lasI L - L.bi - 1).toNat = n by unfold lasI; omega]
structure Took (L A : LogV) (pi : Int) (es : List EntV) (cc : Int) : Prop where
 bi : A.bi = L.bi
 bt : A.bt = L.bt
 may : mayB A = true
 all : passR A pi es = es.length
 cm : A.cm = max L.cm (min cc (pi + es.length))
 end_ : pi + es.length ≤ lasI A
 mark : ∀ t, L.bi ≤ pi → hasM L pi t = true → hasM A pi t = true
 keep : ∀ n : Nat, L.bi + n ≤ L.cm → A.l.take n = L.l.take n
 term : ∀ i (h : i < es.length), L.bi < pi + i + 1 → ∃ j : Nat, j < A.l.length ∧ pi + i + 1 = L.bi + j + 1 ∧ (A.l.getD j noE).term = (es[i]).term
theorem took {L : LogV} {pi pt : Int} {es : List EntV} {cc : Int} (hm : mayB L = true) (ha : argB pi pt es cc = true) (hpl : pi ≤ lasI L) (h : (putL L pi es).2 = 0) :
  Took L ⟨(putL L pi es).1.bi, (putL L pi es).1.bt, (putL L pi es).1.l, max L.cm (min cc (pi + (es.length : Int)))⟩ pi es cc := by
 have hin := mayB_in hm;simp only [argB, Bool.and_eq_true] at ha;obtain ⟨⟨ha1, ha2⟩, ha3⟩ := ha;have hp := mkB_in ha1;have hle := passR_le L es pi;have hpi := passR_in L es pi hpl;have hpre := passR_pre L es pi;have hpb := passR_base L es pi;unfold putL at h ⊢;generalize passR L pi es = k at *
 by_cases c1 : k = es.length
 ·rw [if_pos c1]
  simp only
  have hend : pi + es.length ≤ lasI L := by omega
  have hH : ∀ M i t, hasM ⟨L.bi, L.bt, L.l, M⟩ i t = hasM L i t := fun _ _ _ => rfl
  refine ⟨rfl, rfl, ?_, ?_, rfl, hend, fun t _ ht => ht, fun n _ => rfl, fun i hi hb => ?_⟩
  ·exact mayB_mk (show mkB L.bi L.bt = true from mayB_mkB hm) hin.2.2.1 hin.2.2.2.1 hin.2.2.2.2.1 ⟨by simp only; omega, by simp only; unfold lasI at *; simp only; omega⟩
  ·exact passR_all _ es pi (fun i hi => hpre i hi (by omega))
  ·rcases hpre i hi (by omega) with h1 | h1
   ·omega
   ·obtain ⟨j, h2, h3, h4⟩ := (hasM_iff L _ _).1 h1;obtain ⟨j, rfl⟩ : ∃ u, j = u + 1 := ⟨j - 1, by omega⟩
    exact ⟨j, by simp only; omega, by omega, h4⟩
 ·rw [if_neg c1] at h ⊢
  by_cases c2 : pi + k < L.cm
  ·rw [if_pos c2] at h;cases h
  ·rw [if_neg c2] at h ⊢
   by_cases c3 : (es.getD k noE).term < (lasM (cutL L (pi + k))).2
   ·rw [if_pos c3] at h;cases h
   ·rw [if_neg c3] at h ⊢
    by_cases c4 : 400 < (cutL L (pi + k)).l.length + (es.length - k) ∨ 1000000 < lasI (cutL L (pi + k)) + ((es.length - k : Nat) : Int)
    ·rw [if_pos c4] at h;cases h
    ·rw [if_neg c4];have hkl : k < es.length := by omega
     have hbk := hpb hkl (by omega);obtain ⟨q, hq⟩ : ∃ q : Nat, pi + k - L.bi = (q : Int) := Int.eq_ofNat_of_zero_le (by omega);have hql : q ≤ L.l.length := by unfold lasI at hpi; omega
     have ecut : cutL L (pi + k) = ⟨L.bi, L.bt, L.l.take q, L.cm⟩ := by
      unfold cutL;rw [hq, Int.toNat_natCast]
     have hlt : (L.l.take q).length = q := by rw [List.length_take]; omega
     rw [ecut] at c3 c4 ⊢;rw [lasM_tm] at c3;simp only at c3 c4 ⊢;unfold lasI at c4;rw [hlt] at c3 c4;simp only at c4;have ht3 : tmN L.bt (L.l.take q) q = tmN L.bt L.l q := by
      have := tm_glue L.bt L.l [] q 0 hql q
      simpa using this
     rw [ht3] at c3;have hglue := tm_glue L.bt L.l es q k hql;have hA : ∀ M, (⟨L.bi, L.bt, L.l.take q ++ es.drop k, M⟩ : LogV).l.length = q + (es.length - k) := fun M => by
      simp only [List.length_append, List.length_drop, hlt]
     have hHM : ∀ M i t, hasM ⟨L.bi, L.bt, L.l.take q ++ es.drop k, M⟩ i t = true ↔ ∃ j : Nat, j ≤ q + (es.length - k) ∧ i = L.bi + j ∧ tmN L.bt (L.l.take q ++ es.drop k) j = t := fun M i t => by
      rw [hasM_iff, hA]
     refine ⟨rfl, rfl, ?_, ?_, rfl, ?_, ?_, ?_, ?_⟩
     ·refine mayB_mk (show mkB L.bi L.bt = true from mayB_mkB hm) (by rw [hA]; omega) (show rowsB (L.l.take q ++ es.drop k) L.bt = true from rows_glue hql hkl hin.2.2.2.1 ha3 (by omega)) ?_ ?_
      ·unfold lasI;rw [hA]
       simp only
       omega
      ·unfold lasI;rw [hA]
       simp only
       omega
     ·refine passR_all _ es pi (fun i hi => ?_)
      by_cases ci : i < k
      ·rcases hpre i hi ci with h1 | h1
       ·exact .inl h1
       ·obtain ⟨j, h2, h3, h4⟩ := (hasM_iff L _ _).1 h1;exact .inr ((hHM _ _ _).2 ⟨j, by omega, h3, by rw [hglue, if_pos (by omega)]; exact h4⟩)
      ·refine .inr ((hHM _ _ _).2 ⟨q + (i - k) + 1, by omega, by omega, ?_⟩);rw [hglue, if_neg (by omega), show k + (q + (i - k) + 1 - 1 - q) = i by omega]
       simp [List.getD, List.getElem?_eq_getElem hi]
     ·unfold lasI;rw [hA]
      simp only
      omega
     ·intro t hb ht;obtain ⟨j, h2, h3, h4⟩ := (hasM_iff L _ _).1 ht;exact (hHM _ _ _).2 ⟨j, by omega, h3, by rw [hglue, if_pos (by omega)]; exact h4⟩
     ·intro n hn
      simp only
      rw [List.take_append_of_le_length (by omega), List.take_take, Nat.min_eq_left (by omega)]
     ·intro i hi hb
      by_cases ci : i < k
      ·rcases hpre i hi ci with h1 | h1
       ·omega
       ·obtain ⟨j, h2, h3, h4⟩ := (hasM_iff L _ _).1 h1;obtain ⟨j, rfl⟩ : ∃ u, j = u + 1 := ⟨j - 1, by omega⟩;refine ⟨j, by rw [hA]; omega, by omega, ?_⟩
        have := hglue (j + 1);rw [if_pos (by omega)] at this;simp only [tmN] at this h4
        simp only
        rw [this, h4]
      ·refine ⟨q + (i - k), by rw [hA]; omega, by omega, ?_⟩
       have := hglue (q + (i - k) + 1);rw [if_neg (by omega)] at this;simp only [tmN] at this
       simp only
       rw [this, show k + (q + (i - k) + 1 - 1 - q) = i by omega]
       simp [List.getD, List.getElem?_eq_getElem hi]
theorem acc_again {L : LogV} {pi pt : Int} {es : List EntV} {cc : Int} (h : (accL L pi pt es cc).2.2.2 = 0) : accL (accL L pi pt es cc).1 pi pt es cc = accL L pi pt es cc := by
 unfold accL at h;cases hm : mayB L
 ·rw [hm, if_pos rfl] at h;cases h
 ·cases ha : argB pi pt es cc
  ·rw [hm, ha, if_neg (by simp), if_pos rfl] at h;cases h
  ·rw [hm, ha, if_neg (by simp), if_neg (by simp)] at h
   by_cases c : L.bi ≤ pi ∧ hasM L pi pt = false
   ·have e : accL L pi pt es cc = (L, 0, false, 0) := by
     unfold accL;rw [hm, ha, if_neg (by simp), if_neg (by simp), if_pos c]
    rw [e];exact e
   ·rw [if_neg c] at h
    by_cases c2 : (putL L pi es).2 = 0
    ·have e : accL L pi pt es cc = (⟨(putL L pi es).1.bi, (putL L pi es).1.bt, (putL L pi es).1.l, max L.cm (min cc (pi + (es.length : Int)))⟩, max (pi + (es.length : Int)) L.bi, true, 0) := by
      conv => lhs; unfold accL
      rw [hm, ha, if_neg (by simp), if_neg (by simp), if_neg c, if_neg (by simpa using c2)]
     have hpl : pi ≤ lasI L := by
      by_cases hb : L.bi ≤ pi
      ·have : hasM L pi pt = true := by
        cases hh : hasM L pi pt
        ·exact absurd ⟨hb, hh⟩ c
        ·rfl
       exact (hasM_in this).2
      ·have := mayB_in hm;unfold lasI;omega
     have T := took hm ha hpl c2;rw [e];generalize (⟨(putL L pi es).1.bi, (putL L pi es).1.bt, (putL L pi es).1.l, max L.cm (min cc (pi + (es.length : Int)))⟩ : LogV) = A at *;have hc : ¬ (A.bi ≤ pi ∧ hasM A pi pt = false) := fun hx => by
      rw [T.bi] at hx;have : hasM L pi pt = true := by
       cases hh : hasM L pi pt
       ·exact absurd ⟨hx.1, hh⟩ c
       ·rfl
      rw [T.mark pt hx.1 this] at hx;cases hx.2
     have hput : putL A pi es = (A, 0) := by
      unfold putL;rw [if_pos T.all]
     unfold accL;rw [T.may, ha, if_neg (by simp), if_neg (by simp), if_neg hc, hput];simp only [ne_eq, not_true_eq_false, if_false];have hcm : max A.cm (min cc (pi + (es.length : Int))) = A.cm := by
      rw [T.cm];omega
     rw [hcm, show max (pi + (es.length : Int)) A.bi = max (pi + (es.length : Int)) L.bi by rw [T.bi]]
    ·rw [if_pos c2] at h;exact absurd h c2
theorem acc_len (L : LogV) (pi pt : Int) (es : List EntV) (cc : Int) : (accL L pi pt es cc).1.l.length ≤ 400 ∨ (accL L pi pt es cc).1.l.length = L.l.length := by
 unfold accL;cases hm : mayB L
 ·rw [if_pos rfl];exact .inl (Nat.zero_le _)
 ·rw [if_neg (by simp)]
  split
  ·exact .inl (Nat.zero_le _)
  ·split
   ·exact .inr rfl
   ·split
    ·exact .inl (Nat.zero_le _)
    ·exact .inl (put_len L pi es (mayB_in hm).2.2.1)
theorem term_at {L : LogV} (hm : mayB L = true) (i : Int) : (termL L i).2 = true ↔ ∃ j : Nat, j ≤ L.l.length ∧ i = L.bi + j ∧ (termL L i).1 = tmN L.bt L.l j := by
 unfold termL;rw [hm];simp only [if_true]
 constructor
 ·intro h;have hh : hasM L i (markL L i).1.2 = true := by
   unfold hasM;rw [h]
   rcases markL_fst h with ⟨h1, _, _⟩ | h1
   ·simp [h1]
   ·simp [markL, h1]
  obtain ⟨j, h1, h2, h3⟩ := (hasM_iff L _ _).1 hh
  exact ⟨j, h1, h2, h3.symm⟩
 ·rintro ⟨j, h1, h2, h3⟩;have hh : hasM L i (tmN L.bt L.l j) = true := (hasM_iff L _ _).2 ⟨j, h1, h2, rfl⟩;unfold hasM at hh;simp only [Bool.and_eq_true] at hh;exact hh.1
theorem term_of {L : LogV} (hm : mayB L = true) {i t : Int} (h : hasM L i t = true) : termL L i = (t, true) := by
 unfold hasM at h;simp only [Bool.and_eq_true, beq_iff_eq] at h;unfold termL;rw [hm, if_pos rfl, h.1, h.2.2]
theorem mark_ok {L : LogV} (hm : mayB L = true) (j : Nat) (hj : j ≤ L.l.length) : mkB (L.bi + j) (tmN L.bt L.l j) = true := by
 have hin := mayB_in hm;cases j with
 | zero => simpa [tmN] using mayB_mkB hm
 | succ j =>
  have h1 := ((rowsB_iff _ _).1 hin.2.2.2.1 j (by omega)).1;have h2 : (L.l.getD j noE).term = (L.l[j]'(by omega)).term := by simp [List.getD, List.getElem?_eq_getElem (show j < L.l.length by omega)]
  have h3 : 1 ≤ (L.l[j]'(by omega)).term ∧ (L.l[j]'(by omega)).term ≤ 1000000 := by
   simp only [entB, wiB, Bool.and_eq_true, decide_eq_true_eq] at h1;exact h1.1
  rw [show tmN L.bt L.l (j + 1) = (L.l[j]'(by omega)).term from h2];generalize (L.l[j]'(by omega)).term = tt at *;simp only [mkB, wiB, Bool.and_eq_true, decide_eq_true_eq, beq_iff_eq];unfold lasI at hin;refine ⟨⟨by omega, by omega⟩, ?_⟩;rw [beq_eq_false_iff_ne.2 (show ¬ L.bi + ((j + 1 : Nat) : Int) = 0 by omega), beq_eq_false_iff_ne.2 (show ¬ tt = 0 by omega)]
theorem rows_drop {l : List EntV} {x : Int} (h : rowsB l x = true) (j : Nat) (hj : j ≤ l.length) : rowsB (l.drop j) (tmN x l j) = true := by
 rw [rowsB_iff] at h ⊢;intro i hi;rw [List.length_drop] at hi;have h1 := h (j + i) (by omega);rw [List.getElem_drop];refine ⟨h1.1, ?_⟩;cases i with
 | zero => simpa [tmN] using h1.2
 | succ i =>
  have e : tmN (tmN x l j) (l.drop j) (i + 1) = tmN x l (j + (i + 1)) := by
   rw [show j + (i + 1) = (j + i) + 1 by omega];simp only [tmN, List.getD, List.getElem?_drop]
  rw [e];exact h1.2
theorem min_foldl (l : List Int) : ∀ x, l.foldl min x ≤ x ∧ (∀ z ∈ l, l.foldl min x ≤ z) ∧ (l.foldl min x = x ∨ l.foldl min x ∈ l) := by
 induction l with
 | nil => intro x; simp
 | cons a l ih =>
  intro x;obtain ⟨h1, h2, h3⟩ := ih (min x a);simp only [List.foldl_cons];refine ⟨by omega, fun z hz => ?_, ?_⟩
  ·rcases List.mem_cons.1 hz with rfl | hz
   ·omega
   ·exact h2 z hz
  ·rcases h3 with h3 | h3
   ·rw [h3]
    rcases Int.le_total x a with hxa | hxa
    ·left; omega
    ·right;rw [show min x a = a by omega];exact List.mem_cons_self ..
   ·exact .inr (List.mem_cons_of_mem _ h3)
theorem min_neg {m : List Int} (h : 1 ≤ m.length) : 0 ≤ Lib.minOf m ↔ ∀ z ∈ m, 0 ≤ z := by
 unfold Lib.minOf;cases m with
 | nil => simp at h
 | cons a l =>
  obtain ⟨h1, h2, h3⟩ := min_foldl (a :: l) ((a :: l).headD 0);simp only [List.headD_cons] at h1 h2 h3 ⊢
  constructor
  ·intro h0 z hz;have := h2 z hz;omega
  ·intro h0
   rcases h3 with h3 | h3
   ·rw [h3];exact h0 a (List.mem_cons_self ..)
   ·exact h0 _ h3
theorem last_fst {L : LogV} (h : mayB L = true) : (lastL L).1 = lasI L := by
 rw [lastL, if_pos h, lasM, markL]
 by_cases c : lasI L = L.bi
 ·rw [if_pos c];exact c.symm
 ·rw [if_neg c];have hb : hasB L (lasI L) = true := decide_eq_true (by unfold lasI at *; omega)
  rw [hb]
  rfl
theorem last_mark {L : LogV} (h : mayB L = true) : mkB (lastL L).1 (lastL L).2 = true := by
 have h1 := mark_ok h L.l.length (Nat.le_refl _);rw [last_fst h, lastL, if_pos h, lasM_tm];exact h1
structure LogF (L M : LogV) : Prop where
 may : mayB M = true
 cm : L.cm ≤ M.cm
 bi : L.bi ≤ M.bi
 at_ : ∀ i : Int, M.bi < i → i ≤ L.cm → M.l.getD (i - M.bi - 1).toNat noE = L.l.getD (i - L.bi - 1).toNat noE
theorem LogF.refl {L : LogV} (h : mayB L = true) : LogF L L := ⟨h, Int.le_refl _, Int.le_refl _, fun _ _ _ => rfl⟩
theorem LogF.trans {L M K : LogV} (h : LogF L M) (k : LogF M K) : LogF L K :=
 ⟨k.may, Int.le_trans h.cm k.cm, Int.le_trans h.bi k.bi, fun i h1 h2 => (k.at_ i h1 (Int.le_trans h2 h.cm)).trans (h.at_ i (by have := k.bi; omega) h2)⟩
theorem rows_snoc : ∀ (l : List EntV) (x : Int) (e : EntV), rowsB l x = true → entB e = true → tmN x l l.length ≤ e.term → rowsB (l ++ [e]) x = true
 | [], x, e, _, h2, h3 => by
  simp only [List.nil_append, rowsB, Bool.and_eq_true, decide_eq_true_eq]
  exact ⟨⟨h2, h3⟩, trivial⟩
 | a :: l, x, e, h1, h2, h3 => by
  simp only [rowsB, List.cons_append, Bool.and_eq_true, decide_eq_true_eq] at h1 ⊢;refine ⟨h1.1, rows_snoc l a.term e h1.2 h2 ?_⟩;cases l with
  | nil => simpa [tmN] using h3
  | cons b l => simpa [tmN] using h3
theorem add_log {L : LogV} {e : EntV} (h : (addL L e).2 = 0) : mayB L = true ∧ entB e = true ∧ (addL L e).1 = ⟨L.bi, L.bt, L.l ++ [e], L.cm⟩ ∧ mayB (addL L e).1 = true ∧ LogF L (addL L e).1 := by
 unfold addL at h ⊢
 split at h
 ·simp at h
 ·rename_i h1
  split at h
  ·simp at h
  ·rename_i h2
   split at h
   ·simp at h
   ·rename_i h3
    split at h
    ·simp at h
    ·rename_i h4
     split at h
     ·simp at h
     ·rename_i h5
      rw [if_neg h1, if_neg h2, if_neg h3, if_neg h4, if_neg h5];have hm : mayB L = true := by simpa using h1
      have he : entB e = true := by simpa using h2
      have hin := mayB_in hm;rw [lasM_tm] at h3;have hl : (L.l ++ [e]).length = L.l.length + 1 := by simp
      have hM : mayB ⟨L.bi, L.bt, L.l ++ [e], L.cm⟩ = true := by
       unfold lasI at hin h5;have hk := mayB_mkB hm;have hrw : rowsB (L.l ++ [e]) L.bt = true := rows_snoc _ _ _ hin.2.2.2.1 he (by omega);refine mayB_mk hk ?_ hrw ?_ ?_
       ·rw [hl];omega
       ·unfold lasI
        simp only
        rw [hl];omega
       ·unfold lasI
        simp only
        rw [hl];omega
      refine ⟨hm, he, rfl, hM, hM, Int.le_refl _, Int.le_refl _, fun i h6 h7 => ?_⟩;simp only at h6 h7 ⊢;unfold lasI at hin;rw [List.getD_eq_getElem?_getD, List.getD_eq_getElem?_getD, List.getElem?_append_left (by omega)]
theorem adv_log {L : LogV} (hm : mayB L = true) (t : Int) (m : List Int) (ha : advB t m = true) : LogF L (advL L t m).1 ∧ (advL L t m).1.bi = L.bi ∧ (advL L t m).1.bt = L.bt ∧ (advL L t m).1.l = L.l ∧ (advL L t m).2 = 0 := by
 unfold advL;rw [hm, if_neg (by simp), ha, if_neg (by simp)];have hin := mayB_in hm
 split
 ·rename_i h
  have h2 := hasM_in h.2;have hk := mayB_mkB hm
  exact ⟨⟨mayB_mk hk hin.2.2.1 hin.2.2.2.1 hin.2.2.2.2.1 (by simp only; exact h2), by simp only; omega, Int.le_refl _, fun _ _ _ => rfl⟩, rfl, rfl, rfl, rfl⟩
 ·exact ⟨LogF.refl hm, rfl, rfl, rfl, rfl⟩
theorem take_at {l k : List EntV} {n j : Nat} (h : l.take n = k.take n) (hj : j < n) : l.getD j noE = k.getD j noE := by
 have h1 : (l.take n)[j]? = (k.take n)[j]? := by rw [h]
 rw [List.getElem?_take, List.getElem?_take, if_pos hj, if_pos hj] at h1;rw [List.getD_eq_getElem?_getD, List.getD_eq_getElem?_getD, h1]
theorem acc_cut {L : LogV} {pi pt : Int} {es : List EntV} {cc : Int} (hm : mayB L = true) (h : (accL L pi pt es cc).2.2.2 = 0) : accL L pi pt es cc = (L, 0, false, 0) ∨ (argB pi pt es cc = true ∧ pi ≤ lasI L ∧ (putL L pi es).2 = 0 ∧ accL L pi pt es cc = (⟨(putL L pi es).1.bi, (putL L pi es).1.bt, (putL L pi es).1.l, max L.cm (min cc (pi + (es.length : Int)))⟩, max (pi + (es.length : Int)) L.bi, true, 0)) := by
 unfold accL at h ⊢;rw [hm, if_neg (by simp)] at h ⊢;cases ha : argB pi pt es cc
 ·rw [ha, if_pos rfl] at h;cases h
 ·rw [ha, if_neg (by simp)] at h;rw [if_neg (by simp)]
  by_cases c : L.bi ≤ pi ∧ hasM L pi pt = false
  ·rw [if_pos c];exact .inl rfl
  ·rw [if_neg c] at h ⊢
   by_cases c2 : (putL L pi es).2 = 0
   ·rw [if_neg (by simpa using c2)];refine .inr ⟨rfl, ?_, c2, rfl⟩
    by_cases hb : L.bi ≤ pi
    ·have : hasM L pi pt = true := by
      cases hh : hasM L pi pt
      ·exact absurd ⟨hb, hh⟩ c
      ·rfl
     exact (hasM_in this).2
    ·have := mayB_in hm;unfold lasI;omega
   ·rw [if_pos c2] at h;exact absurd h c2
theorem acc_log {L : LogV} {pi pt : Int} {es : List EntV} {cc : Int} (hm : mayB L = true) (h : (accL L pi pt es cc).2.2.2 = 0) : LogF L (accL L pi pt es cc).1 ∧ (accL L pi pt es cc).1.bi = L.bi ∧ (accL L pi pt es cc).1.bt = L.bt := by
 rcases acc_cut hm h with e | ⟨ha, hpl, h2, e⟩
 ·rw [e]
  exact ⟨LogF.refl hm, rfl, rfl⟩
 ·have T := took hm ha hpl h2;rw [e];generalize (⟨(putL L pi es).1.bi, (putL L pi es).1.bt, (putL L pi es).1.l, max L.cm (min cc (pi + (es.length : Int)))⟩ : LogV) = A at *;have hcm := T.cm;refine ⟨⟨T.may, by simp only; omega, by simp only; rw [T.bi]; exact Int.le_refl _, fun i h6 h7 => ?_⟩, T.bi, T.bt⟩
  simp only at h6 h7 ⊢;rw [T.bi] at h6 ⊢;exact take_at (T.keep (i - L.bi).toNat (by omega)) (by omega)
theorem markN {L : LogV} (hm : mayB L = true) (i : Int) (h1 : L.bi ≤ i) (h2 : i ≤ lasI L) : termL L i = (tmN L.bt L.l (i - L.bi).toNat, true) :=
 term_of hm ((hasM_iff L i _).2 ⟨(i - L.bi).toNat, by unfold lasI at h2; omega, by omega, rfl⟩)
theorem cut_may {L : LogV} (hm : mayB L = true) (i cm : Int) (h1 : L.bi ≤ i) (h2 : i ≤ lasI L) (h3 : i ≤ cm) (h4 : cm ≤ lasI L) : mayB ⟨i, (termL L i).1, L.l.drop (i - L.bi).toNat, cm⟩ = true := by
 have hin := mayB_in hm;have hk := mark_ok hm (i - L.bi).toNat (by unfold lasI at h2; omega)
 rw [markN hm i h1 h2]
 simp only
 rw [show L.bi + ((i - L.bi).toNat : Int) = i by omega] at hk;unfold lasI at h2 h4 hin;refine mayB_mk hk ?_ (rows_drop hin.2.2.2.1 _ (by omega)) ?_ ?_
 ·simp only [List.length_drop];omega
 ·unfold lasI;simp only [List.length_drop];omega
 ·unfold lasI;simp only [List.length_drop];omega
theorem comp_log {L : LogV} {i : Int} (h : (compL L i).2 = 0) : mayB L = true ∧ L.bi < i ∧ i ≤ L.cm ∧ (compL L i).1 = ⟨i, (termL L i).1, L.l.drop (i - L.bi).toNat, L.cm⟩ ∧ LogF L (compL L i).1 := by
 unfold compL at h ⊢
 split at h
 ·rename_i hm
  split at h
  ·rename_i hi
   rw [if_pos hm, if_pos hi];have hin := mayB_in hm;refine ⟨hm, hi.1, hi.2, rfl, cut_may hm i L.cm (by omega) (by omega) hi.2 hin.2.2.2.2.2.2, Int.le_refl _, by simp only; omega, fun j h6 h7 => ?_⟩
   simp only at h6 h7 ⊢;rw [List.getD_eq_getElem?_getD, List.getD_eq_getElem?_getD, List.getElem?_drop];rw [show (i - L.bi).toNat + (j - i - 1).toNat = (j - L.bi - 1).toNat by omega]
  ·simp at h
 ·simp at h
theorem inst_log {L : LogV} {i t : Int} (hm : mayB L = true) (hk : mkB i t = true) (h0 : i ≠ 0) : (instL L i t).2.2 = 0 ∧ ((instL L i t).2.1 = true → L.cm < i ∧ LogF L (instL L i t).1 ∧ (instL L i t).1.bi = i ∧ (instL L i t).1.bt = t ∧ (instL L i t).1.cm = i) ∧ ((instL L i t).2.1 = false → i ≤ L.cm ∧ (instL L i t).1 = L) := by
 unfold instL;rw [if_pos hm, if_pos ⟨hk, h0⟩];have hin := mayB_in hm;have hmi := mkB_in hk
 split
 ·rename_i h
  exact ⟨rfl, fun h => (by cases h), fun _ => ⟨h, rfl⟩⟩
 ·rename_i h
  refine ⟨rfl, fun _ => ⟨by omega, ⟨?_, by simp only; omega, by simp only; omega, fun j h6 h7 => by simp only at h6; omega⟩, rfl, rfl, rfl⟩, fun h => (by cases h)⟩
  split
  ·rename_i hq
   obtain ⟨j, h1, h2, h3⟩ := (term_at hm i).1 hq.1;have := cut_may hm i i (by omega) (by unfold lasI; omega) (Int.le_refl _) (by unfold lasI; omega)
   rw [hq.2] at this;exact this
  ·refine mayB_mk hk (by simp) rfl ?_ ?_
   ·unfold lasI;simp only [List.length_nil];omega
   ·unfold lasI;simp only [List.length_nil];omega
theorem bal_in {b : Tm.Bal} (h : Tm.mayB b = true) : (0 ≤ b.t ∧ b.t ≤ 1000000) ∧ (0 ≤ b.v ∧ b.v ≤ 7) ∧ (b.t = 0 → b.v = 0) ∧ Tm.roleB b.v b.r b.l = true := by
 simp only [Tm.mayB, Tm.wiB, Bool.and_eq_true, decide_eq_true_eq] at h;obtain ⟨⟨⟨h1, h2⟩, h3⟩, h4⟩ := h
 exact ⟨h1, h2, fun e => by simpa [e] using h3, h4⟩
theorem bal_of {b : Tm.Bal} (h1 : 0 ≤ b.t ∧ b.t ≤ 1000000) (h2 : 0 ≤ b.v ∧ b.v ≤ 7) (h3 : b.t = 0 → b.v = 0) (h4 : Tm.roleB b.v b.r b.l = true) : Tm.mayB b = true := by
 simp only [Tm.mayB, Tm.wiB, Bool.and_eq_true, decide_eq_true_eq];refine ⟨⟨⟨h1, h2⟩, ?_⟩, h4⟩
 by_cases e : b.t = 0
 ·simp [e, h3 e]
 ·simp [e]
theorem nodes_of : ∀ (l : List Int) (p : Int), l.Pairwise (· < ·) → (∀ x ∈ l, p < x ∧ 1 ≤ x ∧ x ≤ 7) → Tm.nodesB p l = true
 | [], _, _, _ => rfl
 | y :: r, p, h, k => by
  have h1 := List.pairwise_cons.1 h;have h2 := k y (by simp);simp only [Tm.nodesB, Tm.wiB, Bool.and_eq_true, decide_eq_true_eq]
  exact ⟨⟨⟨h2.2.1, h2.2.2⟩, h2.1⟩, nodes_of r y h1.2 (fun x hx => ⟨h1.1 x hx, (k x (by simp [hx])).2⟩)⟩
structure VoteF (b c : Tm.Bal) : Prop where
 t : b.t ≤ c.t
 v : c.t = b.t → b.v ≠ 0 → c.v = b.v
theorem VoteF.refl (b : Tm.Bal) : VoteF b b := ⟨Int.le_refl _, fun _ _ => rfl⟩
theorem VoteF.trans {b c d : Tm.Bal} (h : VoteF b c) (k : VoteF c d) : VoteF b d :=
 ⟨Int.le_trans h.t k.t, fun h1 h2 => by
  have e1 := h.t;have e2 := k.t;have e3 := h.v (by omega) h2;rw [k.v (by omega) (by rw [e3]; exact h2), e3]⟩
theorem hear_bal {b : Tm.Bal} (hm : Tm.mayB b = true) {t : Int} (ht : 1 ≤ t ∧ t ≤ 1000000) : Tm.hear2L b t = (Tm.hearL b t, 0) ∧ Tm.mayB (Tm.hearL b t) = true ∧ VoteF b (Tm.hearL b t) ∧ t ≤ (Tm.hearL b t).t ∧ ((Tm.hearL b t = b ∧ t ≤ b.t) ∨ (b.t < t ∧ Tm.hearL b t = ⟨t, 0, 1, []⟩)) := by
 rw [Tm.hear2L, hm, if_neg (by simp), show Tm.wiB t 1 1000000 = true from decide_eq_true ht, if_neg (by simp)];unfold Tm.hearL
 split
 ·rename_i h
  exact ⟨rfl, bal_of (by simp only; omega) (by simp only; omega) (fun _ => rfl) rfl, ⟨by simp only; omega, fun e => by simp only at e; omega⟩, Int.le_refl _, .inr ⟨h, rfl⟩⟩
 ·rename_i h
  exact ⟨rfl, hm, VoteF.refl b, by omega, .inl ⟨rfl, by omega⟩⟩
theorem begin_bal {b : Tm.Bal} {me n : Int} (h : (Tm.beginL b me n).2 = 0) : Tm.mayB b = true ∧ (1 ≤ me ∧ me ≤ n ∧ n ≤ 7) ∧ (Tm.beginL b me n).1 = ⟨b.t + 1, me, if n < 2 then 3 else 2, [me]⟩ ∧ Tm.mayB (Tm.beginL b me n).1 = true ∧ VoteF b (Tm.beginL b me n).1 := by
 unfold Tm.beginL at h ⊢
 split at h
 ·simp at h
 ·rename_i h1
  split at h
  ·simp at h
  ·rename_i h2
   split at h
   ·simp at h
   ·rename_i h3
    rw [if_neg h1, if_neg h2, if_neg h3];have hm : Tm.mayB b = true := by simpa using h1
    have ho : Tm.oneB me n = true := by simpa using h2
    simp only [Tm.oneB, Tm.wiB, Bool.and_eq_true, decide_eq_true_eq] at ho;have hb := bal_in hm;have e : Tm.voteL ⟨b.t + 1, me, 2, []⟩ me n = ⟨b.t + 1, me, if n < 2 then 3 else 2, [me]⟩ := by
     simp [Tm.voteL, Tm.addL, Tm.insL]
    rw [e];refine ⟨hm, ⟨ho.2.1, ho.2.2, ho.1.2⟩, rfl, bal_of (by simp only; omega) (by simp only; omega) (fun h => by simp only at h; omega) ?_, ⟨by simp only; omega, fun e => by simp only at e; omega⟩⟩
    have hn : Tm.nodesB 0 [me] = true := nodes_of [me] 0 (by simp) (fun x hx => by simp only [List.mem_singleton] at hx; omega)
    have hc : [me].contains me = true := by simp
    simp only [Tm.roleB, hn, hc]
    split
    ·rfl
    ·rfl
theorem grant_bal {b : Tm.Bal} {qf qt qi qm li lm : Int} (hm : Tm.mayB b = true) (ha : Tm.askB qf qt qi qm li lm = true) (ht : qt ≤ b.t) : Tm.grantL b qf qt qi qm li lm = (b, false, 0) ∨ (Tm.grantL b qf qt qi qm li lm = (⟨b.t, qf, b.r, b.l⟩, true, 0) ∧ b.r = 1 ∧ (b.v = 0 ∨ b.v = qf) ∧ b.t = qt ∧ Tm.mayB ⟨b.t, qf, b.r, b.l⟩ = true) := by
 have hh : Tm.hearL b qt = b := by
  rw [Tm.hearL, if_neg (by omega)]
 rw [Tm.grantL, hm, if_neg (by simp), ha, if_neg (by simp), hh];simp only [Tm.askB, Tm.wiB, Bool.and_eq_true, decide_eq_true_eq] at ha
 by_cases c : Tm.grantC b qf qt qi qm li lm = true
 ·rw [if_pos c];simp only [Tm.grantC, Tm.freeB, Bool.and_eq_true, Bool.or_eq_true, beq_iff_eq] at c;have hb := bal_in hm;have hr := hb.2.2.2;obtain ⟨⟨⟨c1, c2⟩, c3⟩, c4⟩ := c;refine .inr ⟨rfl, c2, c3, c1, bal_of hb.1 (by simp only; omega) (fun h => by simp only at h; omega) ?_⟩
  rw [c2] at hr ⊢;exact hr
 ·rw [if_neg c];exact .inl rfl
theorem count_bal {b : Tm.Bal} {x y n : Int} {ok : Bool} (hm : Tm.mayB b = true) (ho : 1 ≤ x ∧ x ≤ n ∧ n ≤ 7) (hy : 1 ≤ y ∧ y ≤ 1000000) (ht : y ≤ b.t) : Tm.countL b x y ok n = (b, 0) ∨ (b.r = 2 ∧ Tm.countL b x y ok n = (Tm.voteL b x n, 0) ∧ Tm.mayB (Tm.voteL b x n) = true ∧ (Tm.voteL b x n).l.length ≤ b.l.length + 1 ∧ ((Tm.voteL b x n).r = 3 ∨ ((Tm.voteL b x n).r = 2 ∧ 2 * ((Tm.voteL b x n).l.length : Int) ≤ n))) := by
 have hh : Tm.hearL b y = b := by
  rw [Tm.hearL, if_neg (by omega)]
 have h1 : Tm.oneB x n = true := by
  simp only [Tm.oneB, Tm.wiB, Bool.and_eq_true, decide_eq_true_eq];omega
 rw [Tm.countL, hm, if_neg (by simp), h1, if_neg (by simp), show Tm.wiB y 1 1000000 = true from decide_eq_true hy, if_neg (by simp), hh]
 by_cases c : (ok && (b.t == y && b.r == 2)) = true
 ·rw [if_pos c];simp only [Bool.and_eq_true, beq_iff_eq] at c;have hb := bal_in hm;have hr := hb.2.2.2;have h2 := c.2.2;unfold Tm.roleB at hr;rw [if_neg (by omega), if_pos (by omega)] at hr;simp only [Bool.and_eq_true] at hr;obtain ⟨n1, n2⟩ := Tm.nodes_l _ _ hr.1;obtain ⟨a1, a2⟩ := Tm.add_mem b.l x n1;have hn : Tm.nodesB 0 (Tm.addL b.l x) = true := nodes_of _ 0 a1 (fun z hz => by
   rcases (a2 z).1 hz with rfl | hz
   ·omega
   ·exact n2 z hz)
  have hc : (Tm.addL b.l x).contains b.v = true := by
   rw [List.contains_iff_mem];exact (a2 _).2 (.inr (by rw [← List.contains_iff_mem]; exact hr.2))
  have hal : (Tm.addL b.l x).length ≤ b.l.length + 1 := by
   unfold Tm.addL
   split
   ·omega
   ·rw [Tm.insL_len];exact Nat.le_refl _
  refine .inr ⟨h2, rfl, bal_of hb.1 hb.2.1 hb.2.2.1 ?_, hal, ?_⟩
  ·unfold Tm.voteL;simp only [Tm.roleB, hn, hc]
   by_cases c5 : n < 2 * ((Tm.addL b.l x).length : Int)
   ·rw [if_pos c5]
    rfl
   ·rw [if_neg c5, h2]
    rfl
  ·unfold Tm.voteL
   simp only
   by_cases c5 : n < 2 * ((Tm.addL b.l x).length : Int)
   ·rw [if_pos c5];exact .inl rfl
   ·rw [if_neg c5];exact .inr ⟨h2, by omega⟩
 ·rw [if_neg c];exact .inl rfl
theorem foldl_max_le (l : List Int) : ∀ x hi, l.foldl max x ≤ hi ↔ x ≤ hi ∧ ∀ z ∈ l, z ≤ hi := by
 induction l with
 | nil => intro x hi; simp
 | cons a l ih =>
  intro x hi;rw [List.foldl_cons, ih];simp only [List.mem_cons, forall_eq_or_imp]
  constructor
  ·rintro ⟨h1, h2⟩
   exact ⟨by omega, by omega, h2⟩
  ·rintro ⟨h1, h2, h3⟩
   exact ⟨by omega, h3⟩
theorem foldl_min_ge (l : List Int) : ∀ x lo, lo ≤ l.foldl min x ↔ lo ≤ x ∧ ∀ z ∈ l, lo ≤ z := by
 induction l with
 | nil => intro x lo; simp
 | cons a l ih =>
  intro x lo;rw [List.foldl_cons, ih];simp only [List.mem_cons, forall_eq_or_imp]
  constructor
  ·rintro ⟨h1, h2⟩
   exact ⟨by omega, by omega, h2⟩
  ·rintro ⟨h1, h2, h3⟩
   exact ⟨by omega, h3⟩
theorem all_getD (r : List Int) (p : Int → Prop) : (∀ z ∈ r, p z) ↔ ∀ j, j < r.length → p (r.getD j 0) := by
 constructor
 ·intro h j hj;rw [List.getD_eq_getElem?_getD, List.getElem?_eq_getElem hj];exact h _ (List.getElem_mem hj)
 ·intro h z hz;obtain ⟨j, hj, rfl⟩ := List.mem_iff_getElem.1 hz;have := h j hj
  rwa [List.getD_eq_getElem?_getD, List.getElem?_eq_getElem hj] at this
theorem ofNodes_iff (l : List Int) (n lo hi : Int) (hh : 0 ≤ hi) (hn : 1 ≤ n) : ofNodes l n lo hi = true ↔ (l.length : Int) = n + 1 ∧ l.head? = some 0 ∧ ∀ j, 1 ≤ j → j < l.length → lo ≤ l.getD j 0 ∧ l.getD j 0 ≤ hi := by
 unfold ofNodes;simp only [Bool.and_eq_true, decide_eq_true_eq];cases l with
 | nil =>
  simp only [List.length_nil]
  constructor
  ·rintro ⟨h, _⟩;omega
  ·rintro ⟨h, _⟩;omega
 | cons a r =>
  have e1 : List.drop 1 (a :: r) = r := rfl;rw [e1];have hgo : (∀ j, 1 ≤ j → j < (a :: r).length → lo ≤ (a :: r).getD j 0 ∧ (a :: r).getD j 0 ≤ hi) ↔ ∀ j, j < r.length → lo ≤ r.getD j 0 ∧ r.getD j 0 ≤ hi := by
   constructor
   ·intro h j hj;have := h (j + 1) (by omega) (by simpa using hj)
    simpa using this
   ·intro h j h1 hj;obtain ⟨k, rfl⟩ : ∃ k, j = k + 1 := ⟨j - 1, by omega⟩;have := h k (by simpa using hj)
    simpa using this
  rw [hgo]
  constructor
  ·rintro ⟨h1, h2, h3, h4⟩;refine ⟨h1, h2, ?_⟩;cases r with
   | nil => intro j hj; simp at hj
   | cons b r =>
    unfold Lib.minOf at h3;unfold Lib.maxOf at h4;rw [foldl_min_ge] at h3;rw [foldl_max_le] at h4;have h5 := (all_getD _ _).1 h3.2;have h6 : ∀ z ∈ b :: r, z ≤ hi := fun z hz => h4.2 z (List.mem_cons_of_mem _ hz)
    have h7 := (all_getD _ _).1 h6;exact fun j hj => ⟨h5 j hj, h7 j hj⟩
  ·rintro ⟨h1, h2, h3⟩;simp only [List.head?_cons, Option.some.injEq] at h2;subst h2;have h5 : ∀ z ∈ r, lo ≤ z := (all_getD _ _).2 (fun j hj => (h3 j hj).1);have h6 : ∀ z ∈ r, z ≤ hi := (all_getD _ _).2 (fun j hj => (h3 j hj).2);refine ⟨h1, rfl, ?_, ?_⟩
   ·cases r with
    | nil => simp at h1; omega
    | cons b r =>
     unfold Lib.minOf;rw [foldl_min_ge]
     exact ⟨h5 b (by simp), h5⟩
   ·unfold Lib.maxOf;rw [foldl_max_le];refine ⟨hh, fun z hz => ?_⟩
    rcases List.mem_cons.1 hz with rfl | hz
    ·exact hh
    ·exact h6 z hz
structure NB (d : NodeV) : Prop where
 n : 1 ≤ d.n ∧ d.n ≤ 7
 me : 1 ≤ d.me ∧ d.me ≤ d.n
 ld : 0 ≤ d.ld ∧ d.ld ≤ d.n
 b : Tm.mayB d.b = true
 L : mayB d.L = true
 tx : textB d.tx d.L.bi = true
structure LD (d : NodeV) : Prop where
 ld : d.ld = d.me
 nl : (d.nx.length : Int) = d.n + 1
 n0 : d.nx.head? = some 0
 nb : ∀ j, 1 ≤ j → j < d.nx.length → 1 ≤ d.nx.getD j 0 ∧ d.nx.getD j 0 ≤ lasI d.L + 1
 ml : (d.mt.length : Int) = d.n + 1
 m0 : d.mt.head? = some 0
 mb : ∀ j, 1 ≤ j → j < d.mt.length → 0 ≤ d.mt.getD j 0 ∧ d.mt.getD j 0 ≤ lasI d.L
def Led (d : NodeV) : Prop := (d.b.r = 3 → LD d) ∧ (d.b.r ≠ 3 → d.nx = [] ∧ d.mt = [])
theorem las_in {L : LogV} (h : mayB L = true) : 0 ≤ lasI L ∧ lasI L ≤ 1000000 := by
 have := mayB_in h;omega
theorem nodeB_iff (d : NodeV) : nodeB d = true ↔ NB d ∧ (d.b.l.length : Int) ≤ d.n ∧ Led d := by
 unfold nodeB;simp only [Bool.and_eq_true, decide_eq_true_eq, wiB]
 constructor
 ·rintro ⟨h1, h2, h3, h4, h5, h6, h7, h8⟩;have hl := las_in h6;refine ⟨⟨h1, h2, h3, h4, h6, h7⟩, h5, ?_⟩;unfold leadB at h8
  constructor
  ·intro hr;rw [if_pos hr] at h8;simp only [Bool.and_eq_true, decide_eq_true_eq] at h8;rw [ofNodes_iff _ _ _ _ (by rw [last_fst h6]; omega) h1.1, ofNodes_iff _ _ _ _ (by rw [last_fst h6]; omega) h1.1, last_fst h6] at h8
   exact ⟨h8.1, h8.2.1.1, h8.2.1.2.1, h8.2.1.2.2, h8.2.2.1, h8.2.2.2.1, h8.2.2.2.2⟩
  ·intro hr;rw [if_neg hr] at h8;simp only [Bool.and_eq_true, decide_eq_true_eq] at h8
   exact ⟨List.length_eq_zero_iff.1 (by omega), List.length_eq_zero_iff.1 (by omega)⟩
 ·rintro ⟨⟨h1, h2, h3, h4, h6, h7⟩, h5, h8⟩;have hl := las_in h6;refine ⟨h1, h2, h3, h4, h5, h6, h7, ?_⟩;unfold leadB
  by_cases hr : d.b.r = 3
  ·rw [if_pos hr];have h9 := h8.1 hr;simp only [Bool.and_eq_true, decide_eq_true_eq];rw [ofNodes_iff _ _ _ _ (by rw [last_fst h6]; omega) h1.1, ofNodes_iff _ _ _ _ (by rw [last_fst h6]; omega) h1.1, last_fst h6]
   exact ⟨h9.ld, ⟨h9.nl, h9.n0, h9.nb⟩, h9.ml, h9.m0, h9.mb⟩
  ·rw [if_neg hr];have h9 := h8.2 hr;rw [h9.1, h9.2]
   rfl
theorem lead_term {b : Tm.Bal} (h : Tm.mayB b = true) (hr : b.r = 3) : 1 ≤ b.t ∧ b.t ≤ 1000000 := by
 have hb := bal_in h;have h4 := hb.2.2.2;unfold Tm.roleB at h4;rw [if_neg (by omega), if_pos (by omega)] at h4;simp only [Bool.and_eq_true] at h4;have h5 := (Tm.nodes_l _ _ h4.1).2 b.v (by rw [← List.contains_iff_mem]; exact h4.2)
 refine ⟨?_, hb.1.2⟩
 by_cases e : b.t = 0
 ·have := hb.2.2.1 e;omega
 ·omega
structure FW (d0 d : NodeV) : Prop where
 me : d.me = d0.me
 n : d.n = d0.n
 nb : NB d
 log : LogF d0.L d.L
 vote : VoteF d0.b d.b
 bl : (d.b.l.length : Int) ≤ d.n
 b2 : d.b.r = 2 → 2 * (d.b.l.length : Int) ≤ d.n
theorem LD.adv {d : NodeV} (h : LD d) (hb : NB d) (hr : d.b.r = 3) : advB d.b.t (d.mt.drop 1) = true := by
 have ht := lead_term hb.b hr;have hn := hb.n;have hl := h.ml;simp only [advB, wiB, Bool.and_eq_true, decide_eq_true_eq, List.length_drop];refine ⟨ht, by omega, ?_⟩;rw [min_neg (by rw [List.length_drop]; omega)]
 refine (all_getD _ _).2 (fun j hj => ?_);rw [List.length_drop] at hj;have := (h.mb (1 + j) (by omega) (by omega)).1;rw [List.getD_eq_getElem?_getD, List.getElem?_drop]
 rwa [List.getD_eq_getElem?_getD] at this
theorem las_eq {L M : LogV} (h1 : M.bi = L.bi) (h2 : M.l = L.l) : lasI M = lasI L := by
 unfold lasI;rw [h1, h2]
theorem adv_nb {d : NodeV} (h : NB d) (l : LD d) (hr : d.b.r = 3) : NB {d with L := (advL d.L d.b.t (d.mt.drop 1)).1} ∧ LD {d with L := (advL d.L d.b.t (d.mt.drop 1)).1} := by
 obtain ⟨a1, a2, a3, a4, a5⟩ := adv_log h.L d.b.t (d.mt.drop 1) (l.adv h hr);have e := las_eq a2 a4;refine ⟨⟨h.n, h.me, h.ld, h.b, a1.may, ?_⟩, ⟨l.ld, l.nl, l.n0, ?_, l.ml, l.m0, ?_⟩⟩
 ·simp only
  rw [a2];exact h.tx
 ·simp only
  rw [e];exact l.nb
 ·simp only
  rw [e];exact l.mb
theorem adv_led {d0 d : NodeV} (h : FW d0 d) (l : LD d) (hr : d.b.r = 3) : FW d0 {d with L := (advL d.L d.b.t (d.mt.drop 1)).1} ∧ LD {d with L := (advL d.L d.b.t (d.mt.drop 1)).1} := by
 have a := adv_nb h.nb l hr
 exact ⟨⟨h.me, h.n, a.1, h.log.trans (adv_log h.nb.L d.b.t (d.mt.drop 1) (l.adv h.nb hr)).1, h.vote, h.bl, h.b2⟩, a.2⟩
theorem head_set {l : List Int} {k : Nat} (hk : 1 ≤ k) (x : Int) : (l.set k x).head? = l.head? := by
 cases l with
 | nil => rfl
 | cons a l =>
  obtain ⟨j, rfl⟩ : ∃ j, k = j + 1 := ⟨k - 1, by omega⟩
  rfl
theorem set_all {l : List Int} {k : Nat} {x : Int} {p : Int → Prop} (h : ∀ j, 1 ≤ j → j < l.length → p (l.getD j 0)) (hx : p x) : ∀ j, 1 ≤ j → j < (l.set k x).length → p ((l.set k x).getD j 0) := by
 intro j h1 h2;rw [List.length_set] at h2;rw [List.getD_eq_getElem?_getD, List.getElem?_set]
 split
 ·rename_i e
  subst e;rw [if_pos h2];exact hx
 ·have := h j h1 h2
  rwa [List.getD_eq_getElem?_getD] at this
theorem put_nb {d : NodeV} (h : NB d) (l : LD d) {e : EntV} (h0 : (addL d.L e).2 = 0) : NB {d with L := (addL d.L e).1, mt := putN d.mt d.me (lastL (addL d.L e).1).1} ∧ LD {d with L := (addL d.L e).1, mt := putN d.mt d.me (lastL (addL d.L e).1).1} := by
 obtain ⟨a1, a2, a3, a4, a5⟩ := add_log h0;have e1 : lasI (addL d.L e).1 = lasI d.L + 1 := by
  rw [a3];unfold lasI;simp only [List.length_append, List.length_singleton];omega
 have hl := las_in h.L;have hm := h.me;refine ⟨⟨h.n, h.me, h.ld, h.b, a4, ?_⟩, ⟨l.ld, l.nl, l.n0, ?_, ?_, ?_, ?_⟩⟩
 ·simp only
  rw [a3];exact h.tx
 ·simp only
  rw [e1];intro j h1 h2;have := l.nb j h1 h2;omega
 ·simp only [putN, List.length_set];exact l.ml
 ·simp only [putN];rw [head_set (by omega)];exact l.m0
 ·simp only [putN];rw [last_fst a4, e1];refine set_all (p := fun x => 0 ≤ x ∧ x ≤ lasI d.L + 1) (fun j h1 h2 => ?_) (by omega);have := l.mb j h1 h2;omega
theorem put_led {d0 d : NodeV} (h : FW d0 d) (l : LD d) {e : EntV} (h0 : (addL d.L e).2 = 0) : FW d0 {d with L := (addL d.L e).1, mt := putN d.mt d.me (lastL (addL d.L e).1).1} ∧ LD {d with L := (addL d.L e).1, mt := putN d.mt d.me (lastL (addL d.L e).1).1} := by
 have a := put_nb h.nb l h0
 exact ⟨⟨h.me, h.n, a.1, h.log.trans (add_log h0).2.2.2.2, h.vote, h.bl, h.b2⟩, a.2⟩
theorem repl_getD (n j : Nat) (x : Int) (h : j < n) : (List.replicate n x).getD j 0 = x := by
 rw [List.getD_eq_getElem?_getD, List.getElem?_replicate, if_pos h]
 rfl
theorem new_nb {d : NodeV} (h : NB d) : NB {d with ld := d.me, nx := (List.replicate (d.n + 1).toNat ((lastL d.L).1 + 1)).set 0 0, mt := List.replicate (d.n + 1).toNat 0} ∧ LD {d with ld := d.me, nx := (List.replicate (d.n + 1).toNat ((lastL d.L).1 + 1)).set 0 0, mt := List.replicate (d.n + 1).toNat 0} := by
 have hn := h.n;have hl := las_in h.L;have hm := h.me;refine ⟨⟨h.n, h.me, ⟨by simp only; omega, hm.2⟩, h.b, h.L, h.tx⟩, ⟨rfl, ?_, ?_, ?_, ?_, ?_, ?_⟩⟩
 ·simp only [List.length_set, List.length_replicate];omega
 ·simp only
  obtain ⟨k, hk⟩ : ∃ k, (d.n + 1).toNat = k + 1 := ⟨(d.n + 1).toNat - 1, by omega⟩;rw [hk]
  rfl
 ·simp only
  rw [last_fst h.L];intro j h1 h2;rw [List.length_set, List.length_replicate] at h2;rw [List.getD_eq_getElem?_getD, List.getElem?_set, if_neg (by omega), ← List.getD_eq_getElem?_getD, repl_getD _ _ _ h2];omega
 ·simp only [List.length_replicate];omega
 ·simp only
  obtain ⟨k, hk⟩ : ∃ k, (d.n + 1).toNat = k + 1 := ⟨(d.n + 1).toNat - 1, by omega⟩;rw [hk]
  rfl
 ·simp only
  intro j h1 h2;rw [List.length_replicate] at h2;rw [repl_getD _ _ _ h2];omega
theorem new_led {d0 d : NodeV} (h : FW d0 d) : FW d0 {d with ld := d.me, nx := (List.replicate (d.n + 1).toNat ((lastL d.L).1 + 1)).set 0 0, mt := List.replicate (d.n + 1).toNat 0} ∧ LD {d with ld := d.me, nx := (List.replicate (d.n + 1).toNat ((lastL d.L).1 + 1)).set 0 0, mt := List.replicate (d.n + 1).toNat 0} := by
 have a := new_nb h.nb
 exact ⟨⟨h.me, h.n, a.1, h.log, h.vote, h.bl, h.b2⟩, a.2⟩
end Go.Proofs.YtcaehfkfohianaaGreat
