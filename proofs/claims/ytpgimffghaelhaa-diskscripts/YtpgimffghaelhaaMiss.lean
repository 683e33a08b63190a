/- What a disk answers where a segment is missing; a segment's first bytes; a new disk; its plain fields. -/
import Derived.Test.YtpgimffghaelhaaUp
import Derived.RegionTactic
import Derived.BigRegion
namespace Go.Proofs.Ytpgimffghaelhaa
open Go.RowKit Go.Maps

theorem thereI_nat {S : St} {i : Int} (h : thereI S i) : ∃ k : Nat, i = (k : Int) ∧ k < 1000 ∧ (S.seg k).bytes ≠ [] := by
  obtain ⟨h1, h2, h3⟩ := h
  exact ⟨i.toNat, by omega, by omega, h3⟩
theorem thereI_not {S : St} {i : Int} (h : ¬ thereI S i) : ∀ k : Nat, k < 1000 → i = (k : Int) → (S.seg k).bytes = [] := by
  intro k hk e
  refine Classical.byContradiction fun hne => h ⟨by omega, by omega, ?_⟩
  subst e
  simpa using hne
set_option maxHeartbeats 1000000 in
theorem missing_is {w : World} {F : Nat → Prop} {p : Nat} {S : St} {N : Nat} (h : DiskAt w F p S N) (i : Int) (hi : (Lit.int .i64 i).wf = true) :
    Calls Try.prog 52 #[.pointer (some ⟨p, 0, none⟩), .int .i64 i] w fun e w' => e = .returned (.int .i64 (readE S i : Int)) ∧ Below w.heap.size w w' := by
  have hup := fun W => @up_is W F p S N
  unfold readE
  by_cases h0 : S.fuse = 0
  · have Hu := hideIt (hup w h)
    simp only [h0, if_true] at *
    go_enter Try.func52, Try.ntmps52
    go_wp2_with fail
    refine Hu.out.mono ?_
    rintro e w1 ⟨rfl, hb⟩
    go_wp2
    go_ret
    exact ⟨rfl, hb⟩
  · have Hu := hideIt (hup w h)
    simp only [h0, if_false]
    obtain ⟨mb, ch, fs, ff, fm, rb, cp, D, hc, r⟩ := h
    have hp : p < w.heap.size := (Array.getElem?_eq_some_iff.1 hc.cells).1
    have hm := hc.map.lt
    clear hup r
    by_cases ht : thereI S i
    · obtain ⟨k, rfl, hk, hne⟩ := thereI_nat ht
      simp only [ht, not_true, if_false]
      go_enter Try.func52, Try.ntmps52
      go_wp2_with fail
      refine Hu.out.mono ?_
      rintro e w1 ⟨rfl, hb⟩
      simp only [ne_eq, h0, not_false_eq_true, decide_true]
      have c2 : w1.cell? ⟨p, 2, none⟩ = some (.map (some mb)) := by rw [hb.cell hp, cell_at hc.cells]; rfl
      have hl := look_hit_ok hc k hk hne w1 (hb.block mb hm)
      simp only [segV] at hl
      clear hc ht hne Hu
      go_wp2
      go_ret
      exact ⟨rfl, (hb.alloc hb.size _).mono (Nat.le_refl _)⟩
    · simp only [ht, not_false_eq_true, if_true]
      go_enter Try.func52, Try.ntmps52
      go_wp2_with fail
      refine Hu.out.mono ?_
      rintro e w1 ⟨rfl, hb⟩
      simp only [ne_eq, h0, not_false_eq_true, decide_true]
      have c2 : w1.cell? ⟨p, 2, none⟩ = some (.map (some mb)) := by rw [hb.cell hp, cell_at hc.cells]; rfl
      have hl := look_miss_ok hc i hi (thereI_not ht) w1 (hb.block mb hm)
      simp only [zeroSeg] at hl
      clear hc ht Hu
      go_wp2
      go_ret
      exact ⟨rfl, (hb.alloc hb.size _).mono (Nat.le_refl _)⟩
end Go.Proofs.Ytpgimffghaelhaa
