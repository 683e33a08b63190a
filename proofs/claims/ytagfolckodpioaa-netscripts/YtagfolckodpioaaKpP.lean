/- What is there, what went in and what came out: plain data, and the rows of it in memory. -/
import Derived.Test.YtagfolckodpioaaT2
import Derived.Test.YtagfolckodpioaaLi
import Derived.Lib.Strings
namespace Go.Proofs.Ytagfolckodpioaa.K2
open Go.RowKit Go.Maps Go.Proofs.Ytagfolckodpioaa
set_option linter.all false
theorem eqT_eqP (a b : PkV) : eqT a b = eqP a b := by
  unfold eqT eqP
  rw [Go.Lib.toList_data, Go.Lib.toList_data]
  rw [Bool.eq_iff_iff]
  simp only [Bool.and_eq_true, beq_iff_eq, decide_eq_true_eq]
  exact ⟨fun h => ⟨h.1.1, h.1.2, h.2⟩, fun h => ⟨⟨h.1, h.2.1⟩, h.2.2⟩⟩
theorem eqT_self (a : PkV) : eqT a a = true := by rw [eqT_eqP]; exact eqP_self a
theorem eqP_comm (a b : PkV) : eqP a b = eqP b a := by
  cases h : eqP b a with
  | true =>
    rw [eqP_eq h]
    exact eqP_self a
  | false =>
    cases h2 : eqP a b with
    | true =>
      rw [eqP_eq h2, eqP_self] at h
      cases h
    | false => rfl
def ind (a b : PkV) : Nat := if eqT a b = true then 1 else 0
theorem cnt_app (x p : PkV) (l : List PkV) : cntP x (l ++ [p]) = cntP x l + ind p x := by
  unfold cntP ind
  rw [List.countP_append]
  simp [List.countP_cons]
theorem cnt_del {x p : PkV} {l : List PkV} {i : Nat} (h : l[i]? = some p) : cntP x l = cntP x (l.take i ++ l.drop (i + 1)) + ind p x := by
  obtain ⟨hi, he⟩ := List.getElem?_eq_some_iff.1 h
  have e : l = l.take i ++ (p :: l.drop (i + 1)) := by
    rw [← he, ← List.drop_eq_getElem_cons hi, List.take_append_drop]
  unfold cntP ind
  rw [List.countP_append]
  conv => lhs; rw [e]
  rw [List.countP_append, List.countP_cons]
  omega
theorem pg_add (f : Pks) (p x : PkV) : pg (updP f p (pg f p + 1)) x = pg f x + (ind p x : Nat) := by
  rw [pg_upd]
  unfold ind
  rw [eqT_eqP, eqP_comm p x]
  by_cases e : eqP x p = true
  · rw [if_pos e, if_pos e, eqP_eq e]
    rfl
  · rw [if_neg e, if_neg e]
    simp
theorem pg_del (f : Pks) (p x : PkV) : pg (delP f p) x = if eqP x p = true then 0 else pg f x := by
  unfold pg delP
  by_cases e : eqP x p = true
  · rw [if_pos e, if_pos e]
    rfl
  · rw [if_neg e, if_neg e]
theorem pg_tk (f : Pks) (p x : PkV) : pg (tkP f p) x = pg f x - (ind p x : Nat) := by
  have e0 : pg (updP f p (pg f p - 1)) x = pg f x - (ind p x : Nat) := by
    rw [pg_upd]
    unfold ind
    rw [eqT_eqP, eqP_comm p x]
    by_cases e : eqP x p = true
    · rw [if_pos e, if_pos e, eqP_eq e]
      rfl
    · rw [if_neg e, if_neg e]
      simp
  unfold tkP
  by_cases h : pg f p - 1 = 0
  · rw [if_pos h, pg_del]
    by_cases e : eqP x p = true
    · rw [if_pos e]
      have := eqP_eq e
      subst this
      rw [← e0, pg_upd, if_pos (eqP_self x), h]
    · rw [if_neg e, e0]
  · rw [if_neg h, e0]
/-- What went in less what came out is there. -/
structure KI (I O l : List PkV) (f : Pks) : Prop where
  len : l.length + O.length = I.length
  cnt : ∀ x, cntP x l + cntP x O = cntP x I
  pgc : ∀ x, pg f x = (cntP x l : Nat)
  ok : ∀ p ∈ l, PkOk p
theorem KI.start : KI [] [] [] f0 := ⟨rfl, fun _ => rfl, fun _ => rfl, fun p hp => by simp at hp⟩
theorem KI.add {I O l : List PkV} {f : Pks} (h : KI I O l f) {p : PkV} (hp : PkOk p) : KI (I ++ [p]) O (l ++ [p]) (updP f p (pg f p + 1)) := by
  refine ⟨by have := h.len; simp; omega, fun x => ?_, fun x => ?_, fun q hq => ?_⟩
  · have := h.cnt x
    rw [cnt_app, cnt_app]
    omega
  · have := h.pgc x
    rw [pg_add, cnt_app, this]
    push_cast
    rfl
  · rw [List.mem_append, List.mem_singleton] at hq
    rcases hq with hq | rfl
    · exact h.ok q hq
    · exact hp
theorem KI.take {I O l : List PkV} {f : Pks} (h : KI I O l f) {p : PkV} {i : Nat} (hi : l[i]? = some p) : KI I (O ++ [p]) (l.take i ++ l.drop (i + 1)) (tkP f p) := by
  have hil := (List.getElem?_eq_some_iff.1 hi).1
  refine ⟨by have := h.len; simp; omega, fun x => ?_, fun x => ?_, fun q hq => ?_⟩
  · have h1 := h.cnt x
    have h2 := cnt_del (x := x) hi
    rw [cnt_app]
    omega
  · have h1 := h.pgc x
    have h2 := cnt_del (x := x) hi
    rw [pg_tk, h1]
    omega
  · rw [List.mem_append] at hq
    rcases hq with hq | hq
    · exact h.ok q (List.mem_of_mem_take hq)
    · exact h.ok q (List.mem_of_mem_drop hq)
theorem KI.pgb {I O l : List PkV} {f : Pks} (h : KI I O l f) (hl : l.length ≤ 1000) (x : PkV) : 0 ≤ pg f x ∧ pg f x ≤ 1000000 := by
  have h1 := h.pgc x
  have h2 := cnt_le x l
  omega
/-- A row of packets stays when a net's call turns only its own. -/
theorem row_stays {B n mb : Nat} {room sent taken : Int} {l J : List PkV} {row v : Value} {c : Nat} {f : Pks} {W W' : World} (h : NA B n mb room sent taken l row c f W) (ho : W.ownsRow B 56 3 v J.length (celC pkE J)) (hd : ∀ k, v.ownBlock = some k → row.ownBlock ≠ some k) (hO : Out (NtF n mb row) W W') : W'.ownsRow B 56 3 v J.length (celC pkE J) := by
  have hlt := ho.lt
  have hn : ∀ k, v.ownBlock = some k → k ≠ n := fun k hk e => by
    obtain ⟨_, ⟨rfl, _⟩ | ⟨g, cap, cur, rfl, _, hg, _⟩⟩ := ho
    · cases hk
    · simp only [Value.ownBlock, Option.some.injEq] at hk
      rw [hk, e, h.blk] at hg
      simp at hg
  have hm : ∀ k, v.ownBlock = some k → k ≠ mb := fun k hk e => by
    rw [e] at hk
    exact h.mp.row ho hk
  obtain ⟨h1, h2 | ⟨g, cap, cur, rfl, hb, hg, rest⟩⟩ := ho
  · exact ⟨h1, .inl h2⟩
  · refine ⟨h1, .inr ⟨g, cap, cur, rfl, hb, ?_, rest⟩⟩
    refine (hO.block g (Array.getElem?_eq_some_iff.1 hg).1 (fun c => ?_)).trans hg
    rcases c with c | c | c
    · exact hn g rfl c
    · exact hm g rfl c
    · exact hd g rfl c
end Go.Proofs.Ytagfolckodpioaa.K2
