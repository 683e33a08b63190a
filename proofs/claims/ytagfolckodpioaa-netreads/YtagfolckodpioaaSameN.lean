/- What the document's Same answers where a field differs; and whole. -/
import Derived.Test.YtagfolckodpioaaSame
namespace Go.Proofs.Ytagfolckodpioaa
open Go.RowKit

set_option maxHeartbeats 20000000 in
set_option maxRecDepth 100000 in
theorem same_not (m n : MsgV) (w : World) (hs : sameF m n = false) :
    Calls Try.prog 12 #[.agg (msgC m), .agg (msgC n)] w fun e w' => e = .returned (.bool false) ∧ Below w.heap.size w w' := by
  obtain ⟨kind, frm, dst, term, pi, pt, ea, en, ec, commit, ok, mtch, si, st, text⟩ := m
  obtain ⟨kind2, frm2, dst2, term2, pi2, pt2, ea2, en2, ec2, commit2, ok2, mtch2, si2, st2, text2⟩ := n
  simp only [sameF] at hs
  have HB := hideIt (fun (o p : Obj) => ((Below.refl w.heap.size w).alloc (Nat.le_refl _) o).alloc (by simp : w.heap.size ≤ (w.alloc o).heap.size) p)
  have n1 := neq23
  have n2 := neq26
  simp only [msgC]
  cases h0 : (kind == kind2)
  · have q0 : (kind != kind2) = true := by rw [bne, h0]; rfl
    clear hs
    go_enter Try.func12, Try.ntmps12
    go_wp2
    go_ret
    exact ⟨rfl, HB.out _ _⟩
  rw [h0] at hs
  rw [beq_iff_eq] at h0
  subst h0
  cases h1 : (frm == frm2)
  · have q1 : (frm != frm2) = true := by rw [bne, h1]; rfl
    clear hs
    go_enter Try.func12, Try.ntmps12
    go_wp2
    go_ret
    exact ⟨rfl, HB.out _ _⟩
  rw [h1] at hs
  rw [beq_iff_eq] at h1
  subst h1
  cases h2 : (dst == dst2)
  · have q2 : (dst != dst2) = true := by rw [bne, h2]; rfl
    clear hs
    go_enter Try.func12, Try.ntmps12
    go_wp2
    go_ret
    exact ⟨rfl, HB.out _ _⟩
  rw [h2] at hs
  rw [beq_iff_eq] at h2
  subst h2
  cases h3 : (term == term2)
  · have q3 : (term != term2) = true := by rw [bne, h3]; rfl
    clear hs
    go_enter Try.func12, Try.ntmps12
    go_wp2
    go_ret
    exact ⟨rfl, HB.out _ _⟩
  rw [h3] at hs
  rw [beq_iff_eq] at h3
  subst h3
  cases h4 : (eqS (pi, pt) (pi2, pt2))
  · clear hs
    go_enter Try.func12, Try.ntmps12
    go_wp2
    go_ret
    exact ⟨rfl, HB.out _ _⟩
  rw [h4] at hs
  cases h5 : (commit == commit2)
  · have q5 : (commit != commit2) = true := by rw [bne, h5]; rfl
    clear hs
    go_enter Try.func12, Try.ntmps12
    go_wp2
    go_ret
    exact ⟨rfl, HB.out _ _⟩
  rw [h5] at hs
  rw [beq_iff_eq] at h5
  subst h5
  cases h6 : (ok == ok2)
  · have q6 : (ok != ok2) = true := by rw [bne, h6]; rfl
    clear hs
    go_enter Try.func12, Try.ntmps12
    go_wp2
    go_ret
    exact ⟨rfl, HB.out _ _⟩
  rw [h6] at hs
  rw [beq_iff_eq] at h6
  subst h6
  cases h7 : (mtch == mtch2)
  · have q7 : (mtch != mtch2) = true := by rw [bne, h7]; rfl
    clear hs
    go_enter Try.func12, Try.ntmps12
    go_wp2
    go_ret
    exact ⟨rfl, HB.out _ _⟩
  rw [h7] at hs
  rw [beq_iff_eq] at h7
  subst h7
  cases h8 : (eqE ⟨si, st, text⟩ ⟨si2, st2, text2⟩)
  · clear hs
    go_enter Try.func12, Try.ntmps12
    go_wp2
    go_ret
    exact ⟨rfl, HB.out _ _⟩
  rw [h8] at hs
  have q9 : ((en : Int) != (en2 : Int)) = true := by rw [bne]; simpa using hs
  clear hs
  go_enter Try.func12, Try.ntmps12
  go_wp2
  go_ret
  exact ⟨rfl, HB.out _ _⟩
theorem same_any (m n : MsgV) (l k : List EntV) (w : World) (hl : EntsAt w m.ea l) (hk : EntsAt w n.ea k) (hml : m.en = l.length) (hnk : n.en = k.length) (hmx : l.length ≤ 9223372036854775807) :
    Calls Try.prog 12 #[.agg (msgC m), .agg (msgC n)] w fun e w' => e = .returned (.bool (sameF m n && sameE l k)) ∧ Below w.heap.size w w' := by
  cases h : sameF m n
  · exact same_not m n w h
  · exact same_all m n l k w hl hk hml hnk hmx h
end Go.Proofs.Ytagfolckodpioaa
