/- The steps of nodes, as plain data: each keeps what the votes say. -/
import Derived.Test.YtkoecdcbopkkbaaOneP
import Derived.Test.YtkoecdcbopkkbaaRefC
namespace Go.Proofs.Ytkoecdcbopkkbaa
def setB (B : Nat → Bal) (k : Nat) (b : Bal) : Nat → Bal := fun g => if g = k then b else B g
theorem setB_same (B : Nat → Bal) (k : Nat) (b : Bal) : setB B k b k = b := if_pos rfl
theorem setB_other (B : Nat → Bal) (k g : Nat) (b : Bal) (h : g ≠ k) : setB B k b g = B g := if_neg h
def setH (h : Hist) (g : Nat) (t v : Int) : Hist := fun g' t' => if g' = g ∧ t' = t then v else h g' t'
theorem setH_grew {h : Hist} {g : Nat} {t v : Int} (h0 : h g t = 0 ∨ h g t = v) : grewH h (setH h g t v) := by
  intro g' t' hn
  unfold setH
  split
  · rename_i e
    rcases h0 with h0 | h0
    · rw [e.1, e.2] at hn
      exact absurd h0 hn
    · rw [e.1, e.2, h0]
  · rfl
/-- One node's ballot is another one, of which its own vote, and its list, fit the votes. -/
theorem Inv.put {n : Nat} {B : Nat → Bal} {h h' : Hist} (hi : Inv n B h) (hg : grewH h h') (k : Nat) (b : Bal) (h1 : 1 ≤ k) (h2 : k ≤ n) (hle : (B k).t ≤ b.t) (hoth : ∀ g, g ≠ k → ∀ t, h' g t = h g t)
    (hnow : h' k b.t = b.v) (hlater : ∀ t, b.t < t → h' k t = 0) (hgot : ∀ x ∈ b.l, 1 ≤ x ∧ x ≤ n ∧ h' x.toNat b.t = k) (hrise : b.l.Pairwise (· < ·)) (hrole : b.r = 1 → b.l = []) (hlead : b.r = 3 → (n : Int) < 2 * (b.l.length : Int)) : Inv n (setB B k b) h' := by
  refine ⟨fun g g1 g2 => ?_, fun g g1 g2 t ht => ?_, fun g g1 g2 x hx => ?_, fun g g1 g2 => ?_, fun g g1 g2 hr => ?_, fun g g1 g2 hr => ?_, fun g g1 g2 => ?_⟩
  · by_cases e : g = k
    · subst e
      rw [setB_same]
      exact hnow
    · rw [setB_other _ _ _ _ e, hoth g e]
      exact hi.now g g1 g2
  · by_cases e : g = k
    · subst e
      rw [setB_same] at ht
      exact hlater t ht
    · rw [setB_other _ _ _ _ e] at ht
      rw [hoth g e]
      exact hi.later g g1 g2 t ht
  · by_cases e : g = k
    · subst e
      rw [setB_same] at hx ⊢
      exact hgot x hx
    · rw [setB_other _ _ _ _ e] at hx ⊢
      obtain ⟨a1, a2, a3⟩ := hi.got g g1 g2 x hx
      exact ⟨a1, a2, by rw [hg _ _ (by rw [a3]; omega)]; exact a3⟩
  · by_cases e : g = k
    · subst e
      rw [setB_same]
      exact hrise
    · rw [setB_other _ _ _ _ e]
      exact hi.rise g g1 g2
  · by_cases e : g = k
    · subst e
      rw [setB_same] at hr ⊢
      exact hrole hr
    · rw [setB_other _ _ _ _ e] at hr ⊢
      exact hi.role g g1 g2 hr
  · by_cases e : g = k
    · subst e
      rw [setB_same] at hr ⊢
      exact hlead hr
    · rw [setB_other _ _ _ _ e] at hr ⊢
      exact hi.lead g g1 g2 hr
  · by_cases e : g = k
    · subst e
      rw [setB_same]
      have := hi.pos g g1 g2
      omega
    · rw [setB_other _ _ _ _ e]
      exact hi.pos g g1 g2
theorem grew_refl (h : Hist) : grewH h h := fun _ _ _ => rfl
/-- A node hears of a term: its ballot. -/
theorem inv_hear {n : Nat} {B : Nat → Bal} {h : Hist} (hi : Inv n B h) (k : Nat) (h1 : 1 ≤ k) (h2 : k ≤ n) (x : Int) : Inv n (setB B k (hearL (B k) x)) h := by
  unfold hearL
  split
  · rename_i hx
    refine hi.put (grew_refl h) k _ h1 h2 (by simp only; omega) (fun _ _ _ => rfl) ?_ ?_ (fun y hy => by cases hy) List.Pairwise.nil (fun _ => rfl) (fun hr => by simp at hr)
    · exact hi.later k h1 h2 x hx
    · intro t ht
      exact hi.later k h1 h2 t (by simp only at ht; omega)
  · exact hi.put (grew_refl h) k _ h1 h2 (Int.le_refl _) (fun _ _ _ => rfl) (hi.now k h1 h2) (hi.later k h1 h2) (hi.got k h1 h2) (hi.rise k h1 h2) (hi.role k h1 h2) (hi.lead k h1 h2)
theorem hear_again (B : Nat → Bal) (k : Nat) (b c : Bal) : setB (setB B k b) k c = setB B k c := by
  funext g
  unfold setB
  split <;> rfl
/-- A vote is counted. -/
theorem inv_vote {n : Nat} {B : Nat → Bal} {h : Hist} (hi : Inv n B h) (k : Nat) (h1 : 1 ≤ k) (h2 : k ≤ n) (x : Int) (hx1 : 1 ≤ x) (hx2 : x ≤ n) (hr : (B k).r = 2) (hv : h x.toNat (B k).t = k) : Inv n (setB B k (voteL (B k) x n)) h := by
  obtain ⟨a1, a2⟩ := add_mem (B k).l x (hi.rise k h1 h2)
  refine hi.put (grew_refl h) k _ h1 h2 (Int.le_refl _) (fun _ _ _ => rfl) (hi.now k h1 h2) (hi.later k h1 h2) ?_ a1 ?_ ?_
  · intro y hy
    rcases (a2 y).1 hy with rfl | hy
    · exact ⟨hx1, hx2, hv⟩
    · exact hi.got k h1 h2 y hy
  · intro hr1
    simp only [voteL] at hr1
    split at hr1
    · omega
    · omega
  · intro hr3
    simp only [voteL] at hr3 ⊢
    split at hr3
    · assumption
    · omega
/-- A node begins an election. -/
theorem inv_begin {n : Nat} {B : Nat → Bal} {h : Hist} (hi : Inv n B h) (k : Nat) (h1 : 1 ≤ k) (h2 : k ≤ n) (he : (beginL (B k) k n).2 = 0) :
    ∃ h', grewH h h' ∧ Inv n (setB B k (beginL (B k) k n).1) h' := by
  have hb : beginL (B k) k n = (voteL ⟨(B k).t + 1, k, 2, []⟩ k n, 0) := by
    revert he
    unfold beginL
    split
    · intro h; simp at h
    · split
      · intro h; simp at h
      · split
        · intro h; simp at h
        · intro _; rfl
  rw [hb]
  have h0 : h k ((B k).t + 1) = 0 := hi.later k h1 h2 _ (by omega)
  have hg := setH_grew (v := (k : Int)) (.inl h0)
  refine ⟨setH h k ((B k).t + 1) k, hg, ?_⟩
  have hi1 : Inv n (setB B k ⟨(B k).t + 1, k, 2, []⟩) (setH h k ((B k).t + 1) k) := by
    refine hi.put hg k _ h1 h2 (by simp only; omega) (fun g e t => ?_) ?_ ?_ (fun y hy => by cases hy) List.Pairwise.nil (fun hr => by simp at hr) (fun hr => by simp at hr)
    · unfold setH
      rw [if_neg (fun h => e h.1)]
    · unfold setH
      rw [if_pos ⟨rfl, rfl⟩]
    · intro t ht
      unfold setH
      simp only at ht
      rw [if_neg (fun h => by omega)]
      exact hi.later k h1 h2 t (by omega)
  have hi2 := inv_vote hi1 k h1 h2 k (by omega) (by omega) (by rw [setB_same]) (by
    rw [setB_same]
    unfold setH
    rw [if_pos ⟨by simp, rfl⟩])
  rw [setB_same, hear_again] at hi2
  exact hi2
/-- A node is asked for its vote. -/
theorem inv_grant {n : Nat} {B : Nat → Bal} {h : Hist} (hi : Inv n B h) (k : Nat) (h1 : 1 ≤ k) (h2 : k ≤ n) (qf qt qi qm li lm : Int) (he : (grantL (B k) qf qt qi qm li lm).2.2 = 0) :
    ∃ h', grewH h h' ∧ Inv n (setB B k (grantL (B k) qf qt qi qm li lm).1) h' ∧ ((grantL (B k) qf qt qi qm li lm).2.1 = true → h' k qt = qf) := by
  have hi1 := inv_hear hi k h1 h2 qt
  revert he
  unfold grantL
  split
  · intro h; simp at h
  · split
    · intro h; simp at h
    · split
      · rename_i hc
        intro _
        simp only [grantC, freeB, Bool.and_eq_true, Bool.or_eq_true, beq_iff_eq] at hc
        obtain ⟨⟨⟨c1, c2⟩, c3⟩, _⟩ := hc
        have hnow := hi1.now k h1 h2
        rw [setB_same, c1] at hnow
        have hg := setH_grew (h := h) (g := k) (t := qt) (v := qf) (by rw [hnow]; exact c3)
        refine ⟨setH h k qt qf, hg, ?_, fun _ => by unfold setH; rw [if_pos ⟨rfl, rfl⟩]⟩
        have hl : (hearL (B k) qt).l = [] := by
          have := hi1.role k h1 h2
          rw [setB_same] at this
          exact this c2
        have := hi1.put hg k ⟨(hearL (B k) qt).t, qf, (hearL (B k) qt).r, (hearL (B k) qt).l⟩ h1 h2 (by rw [setB_same]; exact Int.le_refl _) (fun g e t => by unfold setH; rw [if_neg (fun h => e h.1)]) (by
            show setH h k qt qf k (hearL (B k) qt).t = qf
            unfold setH
            rw [if_pos ⟨rfl, c1⟩]) (by
            intro t ht
            simp only at ht
            unfold setH
            rw [if_neg (fun h => by omega)]
            have := hi1.later k h1 h2 t
            rw [setB_same] at this
            exact this ht) (by
            intro x hx
            simp only [hl] at hx
            cases hx) (by simp only [hl]; exact List.Pairwise.nil) (fun _ => hl) (fun hr => by simp only at hr; omega)
        rw [hear_again] at this
        exact this
      · intro _
        exact ⟨h, grew_refl h, hi1, fun h => by simp at h⟩
/-- An answer is counted: the vote was given. -/
theorem inv_count {n : Nat} {B : Nat → Bal} {h : Hist} (hi : Inv n B h) (k : Nat) (h1 : 1 ≤ k) (h2 : k ≤ n) (x y : Int) (ok : Bool) (hx1 : 1 ≤ x) (hx2 : x ≤ n) (hv : ok = true → h x.toNat y = k) (he : (countL (B k) x y ok n).2 = 0) :
    Inv n (setB B k (countL (B k) x y ok n).1) h := by
  have hi1 := inv_hear hi k h1 h2 y
  revert he
  unfold countL
  split
  · intro h; simp at h
  · split
    · intro h; simp at h
    · split
      · intro h; simp at h
      · split
        · rename_i hc
          intro _
          simp only [Bool.and_eq_true, beq_iff_eq] at hc
          obtain ⟨c1, c2, c3⟩ := hc
          have := inv_vote hi1 k h1 h2 x hx1 hx2 (by rw [setB_same]; exact c3) (by rw [setB_same, c2]; exact hv c1)
          rw [setB_same, hear_again] at this
          exact this
        · intro _
          exact hi1
/-- A node forgets all but its term and its vote. -/
theorem inv_forget {n : Nat} {B : Nat → Bal} {h : Hist} (hi : Inv n B h) (k : Nat) (h1 : 1 ≤ k) (h2 : k ≤ n) : Inv n (setB B k ⟨(B k).t, (B k).v, 1, []⟩) h :=
  hi.put (grew_refl h) k _ h1 h2 (Int.le_refl _) (fun _ _ _ => rfl) (hi.now k h1 h2) (hi.later k h1 h2) (fun y hy => by cases hy) List.Pairwise.nil (fun _ => rfl) (fun hr => by simp at hr)
theorem inv_start (n : Nat) : Inv n (fun _ => ⟨0, 0, 1, []⟩) (fun _ _ => 0) :=
  ⟨fun _ _ _ => rfl, fun _ _ _ _ _ => rfl, (by intro _ _ _ x hx; cases hx), fun _ _ _ => List.Pairwise.nil, fun _ _ _ _ => rfl, (by intro _ _ _ h; simp at h), fun _ _ _ => Int.le_refl _⟩
end Go.Proofs.Ytkoecdcbopkkbaa
