/- What the document's own May answers where the head of a message may not be. -/
import Derived.Test.YtagfolckodpioaaR5
import Derived.Test.YtagfolckodpioaaSame
namespace Go.Proofs.Ytagfolckodpioaa
open Go.RowKit

theorem eql23 (a1 a2 b1 b2 : Int) (w : World) : (binOp .eql 23 (.agg #[.int .i64 a1, .int .i64 a2]) (.agg #[.int .i64 b1, .int .i64 b2])).run Try.prog w = .ok (.bool (eqS (a1, a2) (b1, b2))) w := by
  unfold eqS
  simp [go_sem]
  by_cases h1 : a1 = b1 <;> by_cases h2 : a2 = b2 <;> simp [h1, h2, go_sem]
theorem eql26 (a1 a2 b1 b2 : Int) (a3 b3 : ByteArray) (w : World) : (binOp .eql 26 (.agg #[.int .i64 a1, .int .i64 a2, .string a3]) (.agg #[.int .i64 b1, .int .i64 b2, .string b3])).run Try.prog w = .ok (.bool (eqE ⟨a1, a2, a3⟩ ⟨b1, b2, b3⟩)) w := by
  unfold eqE
  simp [go_sem]
  by_cases h1 : a1 = b1 <;> by_cases h2 : a2 = b2 <;> by_cases h3 : a3.toList = b3.toList <;> simp [h1, h2, h3, go_sem]
set_option maxHeartbeats 4000000 in
set_option maxRecDepth 100000 in
theorem refMay_head (m : MsgV) (w : World) (h : headB m = false) : Calls Try.prog 36 #[.agg (msgC m)] w fun e w' => e = .returned (.bool false) ∧ Below w.heap.size w w' := by
  obtain ⟨kind, frm, dst, term, pi, pt, ea, en, ec, commit, ok, mtch, si, st, text⟩ := m
  simp only [headB] at h
  have HB := hideIt ((Below.refl w.heap.size w).alloc (Nat.le_refl _) (.cells (msgC ⟨kind, frm, dst, term, pi, pt, ea, en, ec, commit, ok, mtch, si, st, text⟩) 28))
  simp only [msgC] at HB ⊢
  have N1 := hideIt (fun W => refWithin_is frm 1 7 W)
  have N2 := hideIt (fun W => refWithin_is dst 1 7 W)
  have N3 := hideIt (fun W => refWithin_is term 1 1000000 W)
  cases h1 : wiB frm 1 7
  · rw [h1] at N1
    clear h
    go_enter Try.func36, Try.ntmps36
    go_wp2_with fail
    refine (N1.out _).mono ?_
    rintro e w1 ⟨rfl, rfl⟩
    dsimp only
    go_wp2
    go_ret
    exact ⟨rfl, HB.out⟩
  · rw [h1] at N1 h
    cases h2 : wiB dst 1 7
    · rw [h2] at N2
      clear h
      go_enter Try.func36, Try.ntmps36
      go_wp2_with fail
      refine (N1.out _).mono ?_
      rintro e w1 ⟨rfl, rfl⟩
      dsimp only
      go_wp2_with fail
      refine (N2.out _).mono ?_
      rintro e w1 ⟨rfl, rfl⟩
      dsimp only
      go_wp2
      go_ret
      exact ⟨rfl, HB.out⟩
    · rw [h2] at N2 h
      by_cases h3 : frm = dst
      · subst h3
        clear h
        go_enter Try.func36, Try.ntmps36
        go_wp2_with fail
        refine (N1.out _).mono ?_
        rintro e w1 ⟨rfl, rfl⟩
        dsimp only
        go_wp2_with fail
        refine (N2.out _).mono ?_
        rintro e w1 ⟨rfl, rfl⟩
        dsimp only
        go_wp2
        go_ret
        exact ⟨rfl, HB.out⟩
      · have h3b : (frm == dst) = false := beq_eq_false_iff_ne.2 h3
        rw [h3b] at h
        have h4 : wiB term 1 1000000 = false := by simpa using h
        rw [h4] at N3
        clear h h3
        go_enter Try.func36, Try.ntmps36
        go_wp2_with fail
        refine (N1.out _).mono ?_
        rintro e w1 ⟨rfl, rfl⟩
        dsimp only
        go_wp2_with fail
        refine (N2.out _).mono ?_
        rintro e w1 ⟨rfl, rfl⟩
        dsimp only
        go_wp2_with fail
        refine (N3.out _).mono ?_
        rintro e w1 ⟨rfl, rfl⟩
        dsimp only
        go_wp2
        go_ret
        exact ⟨rfl, HB.out⟩
end Go.Proofs.Ytagfolckodpioaa
