/- What a disk's Append answers and leaves (D2). -/
import Derived.Test.YtpgimffghaelhaaOne
namespace Go.Proofs.Ytpgimffghaelhaa
open Go.RowKit Go.Maps

/-- The blocks of F, and those that were laid meanwhile. -/
def Grow (F : Nat → Prop) (w w' : World) : Nat → Prop := fun k => F k ∨ (w.heap.size ≤ k ∧ k < w'.heap.size)
theorem DiskAt.more {w : World} {F : Nat → Prop} {p : Nat} {S : St} {N M : Nat} (h : DiskAt w F p S N) (hN : N ≤ M) (hM : M < 1099511627776) : DiskAt w F p S M := by
  obtain ⟨mb, ch, fs, ff, fm, rb, cp, D, hc, ⟨h1, h2, h3, h4, h5, h6⟩, hg, ha⟩ := h
  exact ⟨mb, ch, fs, ff, fm, rb, cp, D, hc, ⟨h1, by omega, hM, h4, h5, h6⟩, hg, by omega⟩
theorem DiskAt.wide {w : World} {F G : Nat → Prop} {p : Nat} {S : St} {N : Nat} (h : DiskAt w F p S N) (hG : ∀ k, F k → k < w.heap.size → G k) : DiskAt w G p S N := by
  obtain ⟨mb, ch, fs, ff, fm, rb, cp, D, hc, r⟩ := h
  exact ⟨mb, ch, fs, ff, fm, rb, cp, D, hc.wide hG, r⟩
theorem DiskAt.same {w w' : World} {F : Nat → Prop} {p : Nat} {S : St} {N M : Nat} (h : DiskAt w F p S N) (hN : N ≤ M) (hM : M < 1099511627776) (hb : Below w.heap.size w w') : DiskAt w' (Grow F w w') p S M ∧ Out F w w' :=
  ⟨((h.below hb).more hN hM).wide (fun _ hF _ => .inl hF), Out.ofBelow hb⟩
theorem size0 (s : ByteArray) : s.data.toList = [] ↔ s.size = 0 := by
  constructor
  · intro h
    have : s.data.toList.length = 0 := by rw [h]; rfl
    simpa using this
  · intro h
    exact List.eq_nil_of_length_eq_zero (by simpa using h)
theorem isEmpty_of (s : ByteArray) (h : s.size = 0) : s.toList.isEmpty = true := by
  rw [Lib.toList_data, (size0 s).2 h]; rfl
theorem notEmpty_of (s : ByteArray) (h : s.size ≠ 0) : s.toList.isEmpty = false := by
  rw [Lib.toList_data, List.isEmpty_eq_false_iff]
  exact fun e => h ((size0 s).1 e)
set_option maxHeartbeats 1000000 in
theorem append_err {w : World} {F : Nat → Prop} {p : Nat} {S : St} {N : Nat} (h : DiskAt w F p S N) (i : Int) (s : ByteArray) (he : appendE S i s.data.toList ≠ 0) :
    Calls Try.prog 17 #[.pointer (some ⟨p, 0, none⟩), .int .i64 i, .string s] w fun e w' => e = .returned (.int .i64 (appendE S i s.data.toList : Int)) ∧ Below w.heap.size w w' := by
  have Hu := hideIt (up_is h)
  have hsz : s.data.toList.length = s.size := by simp
  by_cases h0 : S.fuse = 0
  · rw [show appendE S i s.data.toList = 31 by unfold appendE; rw [if_pos h0]]
    have hup : decide (S.fuse ≠ 0) = false := by simp [h0]
    rw [hup] at Hu
    clear h he
    go_enter Try.func17, Try.ntmps17
    go_wp2_with fail
    refine Hu.out.mono ?_
    rintro e w1 ⟨rfl, hb⟩
    go_wp2
    go_ret
    exact ⟨rfl, hb⟩
  · have hup : decide (S.fuse ≠ 0) = true := by simp [h0]
    rw [hup] at Hu
    by_cases h1 : i < 0 ∨ i > 999 ∨ s.data.toList = []
    · rw [show appendE S i s.data.toList = 1 by unfold appendE; rw [if_neg h0, if_pos h1]]
      clear h he
      by_cases h2 : i < 0
      · go_enter Try.func17, Try.ntmps17
        go_wp2_with fail
        refine Hu.out.mono ?_
        rintro e w1 ⟨rfl, hb⟩
        go_wp2
        go_ret
        exact ⟨rfl, hb⟩
      · by_cases h3 : 999 < i
        · go_enter Try.func17, Try.ntmps17
          go_wp2_with fail
          refine Hu.out.mono ?_
          rintro e w1 ⟨rfl, hb⟩
          go_wp2
          go_ret
          exact ⟨rfl, hb⟩
        · have h4 : s.toList.isEmpty = true := by
            rcases h1 with h | h | h
            · exact absurd h h2
            · exact absurd h h3
            · exact isEmpty_of s ((size0 s).1 h)
          clear h1
          go_enter Try.func17, Try.ntmps17
          go_wp2_with fail
          refine Hu.out.mono ?_
          rintro e w1 ⟨rfl, hb⟩
          go_wp2
          go_ret
          exact ⟨rfl, hb⟩
    · by_cases h5 : S.room < tot S.seg 1000 + s.data.toList.length
      · rw [show appendE S i s.data.toList = 32 by unfold appendE; rw [if_neg h0, if_neg h1, if_pos h5]]
        have h2 : ¬ i < 0 := fun e => h1 (.inl e)
        have h3 : ¬ 999 < i := fun e => h1 (.inr (.inl e))
        have h4 : s.toList.isEmpty = false := notEmpty_of s (fun e => h1 (.inr (.inr ((size0 s).2 e))))
        obtain ⟨mb, ch, fs, ff, fm, rb, cp, D, hc, hf, hg, ha⟩ := h
        have hp : p < w.heap.size := (Array.getElem?_eq_some_iff.1 hc.cells).1
        obtain ⟨g1, g2, g3, _⟩ := hg
        have hr : (S.room : Int) - (tot S.seg 1000 : Int) < (s.size : Int) := by rw [hsz] at h5; omega
        generalize htot : tot S.seg 1000 = u at *
        clear h1 he
        go_enter Try.func17, Try.ntmps17
        go_wp2_with fail
        refine Hu.out.mono ?_
        rintro e w1 ⟨rfl, hb⟩
        have c0 : w1.cell? ⟨p, 0, none⟩ = some (.int .i64 (S.room : Int)) := by rw [hb.cell hp, cell_at hc.cells]; rfl
        have c1 : w1.cell? ⟨p, 1, none⟩ = some (.int .i64 (u : Int)) := by rw [hb.cell hp, cell_at hc.cells]; rfl
        clear hc
        go_wp2
        go_quiet (fail)
        go_wp2
        go_ret
        exact ⟨rfl, below_drewN hb _⟩
      · exact absurd (by unfold appendE; rw [if_neg h0, if_neg h1, if_neg h5]) he
end Go.Proofs.Ytpgimffghaelhaa
