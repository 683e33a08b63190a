/- What the document's way of taking entries gives: plain data. -/
import Derived.Test.YtonhoopmhkomcaaAvP
import Derived.Test.YtonhoopmhkomcaaCpP
namespace Go.Proofs.Ytonhoopmhkomcaa
open Go.RowKit
/-- What comes back once the list stands. -/
def endL (L : LogV) (D : List EntV) (cc la : Int) : LogV × Int × Bool × Int :=
  if rowsB D L.bt = false then (zL, 0, false, 80) else if 400 < D.length then (zL, 0, false, 2) else if 1000000 < L.bi + (D.length : Int) then (zL, 0, false, 2) else
  (⟨L.bi, L.bt, D, max L.cm (min cc la)⟩, max la L.bi, true, 0)
theorem acc_go {L : LogV} {pi pt : Int} {es : List EntV} {cc : Int} (hm : mayB L = true) (ha : argB pi pt es cc = true) (hh : ¬ (L.bi ≤ pi ∧ hasM L pi pt = false)) :
    accL L pi pt es cc = if (putL L pi es).2 ≠ 0 then (zL, 0, false, (putL L pi es).2) else
  (⟨(putL L pi es).1.bi, (putL L pi es).1.bt, (putL L pi es).1.l, max L.cm (min cc (pi + (es.length : Int)))⟩, max (pi + (es.length : Int)) L.bi, true, 0) := by
  unfold accL
  rw [if_neg (by rw [hm]; simp), if_neg (by rw [ha]; simp), if_neg hh]
theorem acc_all {L : LogV} {pi pt : Int} {es : List EntV} {cc : Int} (hm : mayB L = true) (ha : argB pi pt es cc = true) (hh : ¬ (L.bi ≤ pi ∧ hasM L pi pt = false)) (hp : passR L pi es = es.length) :
    accL L pi pt es cc = endL L L.l cc (pi + (es.length : Int)) := by
  have hin := mayB_in hm
  rw [acc_go hm ha hh]
  have : putL L pi es = (L, 0) := by unfold putL; rw [if_pos hp]
  rw [this, if_neg (by simp)]
  unfold endL
  rw [hin.2.2.2.1, if_neg (by simp), if_neg (by omega), if_neg (by unfold lasI at hin; omega)]
theorem acc_old {L : LogV} {pi pt : Int} {es : List EntV} {cc : Int} (hm : mayB L = true) (ha : argB pi pt es cc = true) (hh : ¬ (L.bi ≤ pi ∧ hasM L pi pt = false)) (t : Nat) (ht : t < es.length) (hp : passR L pi es = t) (hc : pi + t < L.cm) :
    accL L pi pt es cc = (zL, 0, false, 80) := by
  rw [acc_go hm ha hh]
  have : putL L pi es = (zL, 80) := by unfold putL; rw [hp, if_neg (by omega), if_pos hc]
  rw [this, if_pos (by decide)]
theorem acc_new {L : LogV} {pi pt : Int} {es : List EntV} {cc : Int} (hm : mayB L = true) (ha : argB pi pt es cc = true) (hh : ¬ (L.bi ≤ pi ∧ hasM L pi pt = false)) (hpl : pi ≤ lasI L) (t : Nat) (ht : t < es.length) (hp : passR L pi es = t) (hc : ¬ pi + t < L.cm) (q : Nat) (hq : L.bi + q = pi + t) :
    q ≤ L.l.length ∧ accL L pi pt es cc = endL L (L.l.take q ++ es.drop t) cc (pi + (es.length : Int)) := by
  have hin := mayB_in hm
  have hpi := passR_in L es pi hpl
  rw [hp] at hpi
  have hql : q ≤ L.l.length := by unfold lasI at hpi; omega
  refine ⟨hql, ?_⟩
  have hrows : rowsB es pt = true := by
    unfold argB at ha
    simp only [Bool.and_eq_true] at ha
    exact ha.2
  rw [acc_go hm ha hh]
  have hcut : cutL L (pi + t) = ⟨L.bi, L.bt, L.l.take q, L.cm⟩ := by
    unfold cutL
    rw [show (pi + (t : Int) - L.bi).toNat = q by omega]
  have hln : (L.l.take q).length = q := by rw [List.length_take]; omega
  have hlas : (lasM (cutL L (pi + t))).2 = tmN L.bt L.l q := by
    rw [hcut, lasM_tm]
    show tmN L.bt (L.l.take q) (L.l.take q).length = _
    rw [hln]
    have := tm_glue L.bt L.l [] q 0 hql q
    rw [if_pos (Nat.le_refl _)] at this
    simpa using this
  have hli : lasI (cutL L (pi + t)) = L.bi + q := by
    rw [hcut]
    show L.bi + ((L.l.take q).length : Int) = _
    rw [hln]
  have hDl : (L.l.take q ++ es.drop t).length = q + (es.length - t) := by rw [List.length_append, List.length_drop, hln]
  have hcl : (cutL L (pi + t)).l = L.l.take q := by rw [hcut]
  have hput : putL L pi es = (if (es.getD t noE).term < tmN L.bt L.l q then (zL, 80) else if 400 < q + (es.length - t) ∨ 1000000 < L.bi + (q : Int) + ((es.length - t : Nat) : Int) then (zL, 2) else (⟨L.bi, L.bt, L.l.take q ++ es.drop t, L.cm⟩, 0)) := by
    unfold putL
    rw [hp, if_neg (Nat.ne_of_lt ht), if_neg hc, hlas, hli, hcl, hln]
  unfold endL
  rw [hDl]
  by_cases h3 : (es.getD t noE).term < tmN L.bt L.l q
  · rw [if_pos h3] at hput
    rw [hput]
    have : rowsB (L.l.take q ++ es.drop t) L.bt = false := by
      cases hr : rowsB (L.l.take q ++ es.drop t) L.bt
      · rfl
      · exfalso
        have h4 := ((rowsB_iff _ _).1 hr q (by rw [hDl]; omega)).2
        rw [tm_glue L.bt L.l es q t hql q, if_pos (Nat.le_refl _)] at h4
        have h5 : (L.l.take q ++ es.drop t)[q]'(by rw [hDl]; omega) = es.getD t noE := by
          rw [List.getElem_append_right (by omega)]
          simp only [hln, Nat.sub_self, List.getElem_drop, Nat.add_zero]
          rw [List.getD_eq_getElem?_getD, List.getElem?_eq_getElem ht]
          rfl
        rw [h5] at h4
        omega
    rw [this, if_pos (show (zL, (80 : Int)).2 ≠ 0 by decide), if_pos rfl]
  · rw [if_neg h3] at hput
    have hr : ¬ (rowsB (L.l.take q ++ es.drop t) L.bt = false) := by
      rw [rows_glue hql ht hin.2.2.2.1 hrows (by omega)]
      simp
    rw [if_neg hr]
    by_cases h6 : 400 < q + (es.length - t)
    · rw [if_pos (.inl h6)] at hput
      rw [hput, if_pos (show (zL, (2 : Int)).2 ≠ 0 by decide), if_pos h6]
    · by_cases h7 : 1000000 < L.bi + (q : Int) + ((es.length - t : Nat) : Int)
      · rw [if_pos (.inr h7)] at hput
        rw [hput, if_pos (show (zL, (2 : Int)).2 ≠ 0 by decide), if_neg h6, if_pos (by omega)]
      · rw [if_neg (fun h => h.elim h6 h7)] at hput
        rw [hput, if_neg (by simp), if_neg h6, if_neg (by omega)]
end Go.Proofs.Ytonhoopmhkomcaa
