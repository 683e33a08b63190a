/- What the document's Same answers: are two messages the same, field by field and entry by entry? -/
import Derived.Test.YtagfolckodpioaaMayBe
namespace Go.Proofs.Ytagfolckodpioaa
open Go.RowKit

def eqS (a b : Int × Int) : Bool := a.1 == b.1 && a.2 == b.2
def eqE (a b : EntV) : Bool := a.term == b.term && a.kind == b.kind && (a.text.toList == b.text.toList)
theorem neq23 (a1 a2 b1 b2 : Int) (w : World) : (binOp .neq 23 (.agg #[.int .i64 a1, .int .i64 a2]) (.agg #[.int .i64 b1, .int .i64 b2])).run Try.prog w = .ok (.bool (!eqS (a1, a2) (b1, b2))) w := by
  unfold eqS
  simp [go_sem]
  by_cases h1 : a1 = b1 <;> by_cases h2 : a2 = b2 <;> simp [h1, h2, go_sem]
theorem neq26 (a1 a2 b1 b2 : Int) (a3 b3 : ByteArray) (w : World) : (binOp .neq 26 (.agg #[.int .i64 a1, .int .i64 a2, .string a3]) (.agg #[.int .i64 b1, .int .i64 b2, .string b3])).run Try.prog w = .ok (.bool (!eqE ⟨a1, a2, a3⟩ ⟨b1, b2, b3⟩)) w := by
  unfold eqE
  simp [go_sem]
  by_cases h1 : a1 = b1 <;> by_cases h2 : a2 = b2 <;> by_cases h3 : a3.toList = b3.toList <;> simp [h1, h2, h3, go_sem]
theorem neq41 (a1 a2 b1 b2 : Int) (a3 b3 : ByteArray) (w : World) : (binOp .neq 41 (.agg #[.int .i64 a1, .int .i64 a2, .string a3]) (.agg #[.int .i64 b1, .int .i64 b2, .string b3])).run Try.prog w = .ok (.bool (!eqE ⟨a1, a2, a3⟩ ⟨b1, b2, b3⟩)) w := by
  unfold eqE
  simp [go_sem]
  by_cases h1 : a1 = b1 <;> by_cases h2 : a2 = b2 <;> by_cases h3 : a3.toList = b3.toList <;> simp [h1, h2, h3, go_sem]
/-- The fields without the entries. -/
def sameF (m n : MsgV) : Bool := m.kind == n.kind && m.frm == n.frm && m.dst == n.dst && m.term == n.term && eqS (m.pi, m.pt) (n.pi, n.pt) && m.commit == n.commit && m.ok == n.ok && m.mtch == n.mtch && eqE ⟨m.si, m.st, m.text⟩ ⟨n.si, n.st, n.text⟩ && ((m.en : Int) == (n.en : Int))
def sameE : List EntV → List EntV → Bool
  | a :: l, b :: k => eqE a b && sameE l k
  | [], [] => true
  | _, _ => false
theorem sameE_drop (l k : List EntV) (t : Nat) (h1 : t < l.length) (h2 : t < k.length) : sameE (l.drop t) (k.drop t) = (eqE l[t] k[t] && sameE (l.drop (t + 1)) (k.drop (t + 1))) := by
  rw [List.drop_eq_getElem_cons h1, List.drop_eq_getElem_cons h2]
  rfl
set_option maxHeartbeats 8000000 in
set_option maxRecDepth 100000 in
theorem same_all (m n : MsgV) (l k : List EntV) (w : World) (hl : EntsAt w m.ea l) (hk : EntsAt w n.ea k) (hml : m.en = l.length) (hnk : n.en = k.length) (hmx : l.length ≤ 9223372036854775807) (hs : sameF m n = true) :
    Calls Try.prog 12 #[.agg (msgC m), .agg (msgC n)] w fun e w' => e = .returned (.bool (sameE l k)) ∧ Below w.heap.size w w' := by
  obtain ⟨kind, frm, dst, term, pi, pt, ea, en, ec, commit, ok, mtch, si, st, text⟩ := m
  obtain ⟨kind2, frm2, dst2, term2, pi2, pt2, ea2, en2, ec2, commit2, ok2, mtch2, si2, st2, text2⟩ := n
  simp only at hl hk hml hnk
  subst hml hnk
  simp only [sameF, Bool.and_eq_true] at hs
  obtain ⟨⟨⟨⟨⟨⟨⟨⟨⟨h1, h2⟩, h3⟩, h4⟩, h5⟩, h6⟩, h7⟩, h8⟩, h9⟩, h10⟩ := hs
  rw [beq_iff_eq] at h1 h2 h3 h4 h6 h7 h8
  subst h1 h2 h3 h4 h6 h7 h8
  have n1 := neq23
  have n2 := neq26
  have n3 := neq41
  have HL := hideIt hl
  have HK := hideIt hk
  have hlk : l.length = k.length := by rw [beq_iff_eq] at h10; omega
  have HLK := hideIt hlk
  have h10b : ((l.length : Int) != (k.length : Int)) = false := by rw [bne, h10]; rfl
  have hX6 : ((w.alloc (.cells #[.int .i64 kind, .int .i64 frm, .int .i64 dst, .int .i64 term, .int .i64 pi, .int .i64 pt, .slice ea l.length ec, .int .i64 commit, .bool ok, .int .i64 mtch, .int .i64 si, .int .i64 st, .string text] 28)).alloc (.cells #[.int .i64 kind, .int .i64 frm, .int .i64 dst, .int .i64 term, .int .i64 pi2, .int .i64 pt2, .slice ea2 k.length ec2, .int .i64 commit, .bool ok, .int .i64 mtch, .int .i64 si2, .int .i64 st2, .string text2] 28)).heap[w.heap.size]? = some (.cells #[.int .i64 kind, .int .i64 frm, .int .i64 dst, .int .i64 term, .int .i64 pi, .int .i64 pt, .slice ea l.length ec, .int .i64 commit, .bool ok, .int .i64 mtch, .int .i64 si, .int .i64 st, .string text] 28 (0, 0)) := by
    rw [heap_alloc_old _ _ (by simp)]
    exact heap_alloc_new w _
  have hX7 : ((w.alloc (.cells #[.int .i64 kind, .int .i64 frm, .int .i64 dst, .int .i64 term, .int .i64 pi, .int .i64 pt, .slice ea l.length ec, .int .i64 commit, .bool ok, .int .i64 mtch, .int .i64 si, .int .i64 st, .string text] 28)).alloc (.cells #[.int .i64 kind, .int .i64 frm, .int .i64 dst, .int .i64 term, .int .i64 pi2, .int .i64 pt2, .slice ea2 k.length ec2, .int .i64 commit, .bool ok, .int .i64 mtch, .int .i64 si2, .int .i64 st2, .string text2] 28)).heap[w.heap.size + 1]? = some (.cells #[.int .i64 kind, .int .i64 frm, .int .i64 dst, .int .i64 term, .int .i64 pi2, .int .i64 pt2, .slice ea2 k.length ec2, .int .i64 commit, .bool ok, .int .i64 mtch, .int .i64 si2, .int .i64 st2, .string text2] 28 (0, 0)) := by
    have e : w.heap.size + 1 = (w.alloc (.cells #[.int .i64 kind, .int .i64 frm, .int .i64 dst, .int .i64 term, .int .i64 pi, .int .i64 pt, .slice ea l.length ec, .int .i64 commit, .bool ok, .int .i64 mtch, .int .i64 si, .int .i64 st, .string text] 28)).heap.size := by simp
    rw [e]
    exact heap_alloc_new _ _
  have hXB : Below w.heap.size w ((w.alloc (.cells #[.int .i64 kind, .int .i64 frm, .int .i64 dst, .int .i64 term, .int .i64 pi, .int .i64 pt, .slice ea l.length ec, .int .i64 commit, .bool ok, .int .i64 mtch, .int .i64 si, .int .i64 st, .string text] 28)).alloc (.cells #[.int .i64 kind, .int .i64 frm, .int .i64 dst, .int .i64 term, .int .i64 pi2, .int .i64 pt2, .slice ea2 k.length ec2, .int .i64 commit, .bool ok, .int .i64 mtch, .int .i64 si2, .int .i64 st2, .string text2] 28)) := ((Below.refl _ _).alloc (Nat.le_refl _) _).alloc (by simp) _
  have hXs : w.heap.size + 2 = ((w.alloc (.cells #[.int .i64 kind, .int .i64 frm, .int .i64 dst, .int .i64 term, .int .i64 pi, .int .i64 pt, .slice ea l.length ec, .int .i64 commit, .bool ok, .int .i64 mtch, .int .i64 si, .int .i64 st, .string text] 28)).alloc (.cells #[.int .i64 kind, .int .i64 frm, .int .i64 dst, .int .i64 term, .int .i64 pi2, .int .i64 pt2, .slice ea2 k.length ec2, .int .i64 commit, .bool ok, .int .i64 mtch, .int .i64 si2, .int .i64 st2, .string text2] 28)).heap.size := by simp
  have HX := hideIt (And.intro hX6 (And.intro hX7 (And.intro hXB hXs)))
  simp only [msgC]
  clear hl hk hlk hX6 hX7 hXB hXs
  go_enter Try.func12, Try.ntmps12
  go_wp2_with fail
  generalize (w.alloc (.cells #[.int .i64 kind, .int .i64 frm, .int .i64 dst, .int .i64 term, .int .i64 pi, .int .i64 pt, .slice ea l.length ec, .int .i64 commit, .bool ok, .int .i64 mtch, .int .i64 si, .int .i64 st, .string text] 28)).alloc (.cells #[.int .i64 kind, .int .i64 frm, .int .i64 dst, .int .i64 term, .int .i64 pi2, .int .i64 pt2, .slice ea2 k.length ec2, .int .i64 commit, .bool ok, .int .i64 mtch, .int .i64 si2, .int .i64 st2, .string text2] 28) = X at *
  clear n1 n2 h10 h9 h5
  go_loopw [5] (fun v wr => ∃ t : Nat, v = .int .i64 t ∧ t ≤ l.length ∧ Hid (sameE l k = sameE (l.drop t) (k.drop t) ∧ Below X.heap.size X wr)) (fun v _ => l.length - (intOf v).toNat)
  case atStart => exact ⟨0, rfl, Nat.zero_le _, hideIt ⟨rfl, Below.refl _ _⟩⟩
  case round =>
    obtain ⟨t, rfl, ht, HR⟩ := hrel
    obtain ⟨x6, x7, xB, xs⟩ := HX.out
    have hB := HR.out.2
    have d6 : wr.cell? ⟨w.heap.size, 6, none⟩ = some (.slice ea l.length ec) := by rw [cell_at ((hB.block w.heap.size (by omega)).trans x6)]; rfl
    have d7 : wr.cell? ⟨w.heap.size + 1, 6, none⟩ = some (.slice ea2 k.length ec2) := by rw [cell_at ((hB.block (w.heap.size + 1) (by omega)).trans x7)]; rfl
    have hBw : Below w.heap.size w wr := xB.trans (hB.mono (by omega))
    by_cases hlt : t < l.length
    · have hlt2 : t < k.length := by have := HLK.out; omega
      have hltI : (t : Int) < (l.length : Int) := by omega
      have ht63 : (t : Int) + 1 ≤ 9223372036854775807 := by omega
      have hltI2 : (t : Int) < (k.length : Int) := by omega
      have ht0 : (0 : Int) ≤ (t : Int) := by omega
      obtain ⟨b, off, rfl, hbl, q0, q1, q2⟩ := HL.out t hlt
      obtain ⟨b2, off2, rfl, hbl2, p0, p1, p2⟩ := HK.out t hlt2
      have c0 := (hBw.cell (p := ⟨b, off + t * 3, none⟩) hbl).trans q0
      have c1 := (hBw.cell (p := ⟨b, off + t * 3 + 1, none⟩) hbl).trans q1
      have c2 := (hBw.cell (p := ⟨b, off + t * 3 + 2, none⟩) hbl).trans q2
      have g0 := (hBw.cell (p := ⟨b2, off2 + t * 3, none⟩) hbl2).trans p0
      have g1 := (hBw.cell (p := ⟨b2, off2 + t * 3 + 1, none⟩) hbl2).trans p1
      have g2 := (hBw.cell (p := ⟨b2, off2 + t * 3 + 2, none⟩) hbl2).trans p2
      have hst := sameE_drop l k t hlt hlt2
      obtain ⟨et, ek, ex, hE⟩ : ∃ et ek ex, l[t] = ⟨et, ek, ex⟩ := ⟨_, _, _, rfl⟩
      obtain ⟨et2, ek2, ex2, hE2⟩ : ∃ et ek ex, k[t] = ⟨et, ek, ex⟩ := ⟨_, _, _, rfl⟩
      rw [hE] at c0 c1 c2 hst
      rw [hE2] at g0 g1 g2 hst
      have Hst := hideIt hst
      have HBw := hideIt hBw
      clear hE hE2 q0 q1 q2 p0 p1 p2 hst x6 x7 xB xs hBw
      cases heq : eqE ⟨et, ek, ex⟩ ⟨et2, ek2, ex2⟩
      · rw [heq, Bool.false_and] at Hst
        go_wp2
        go_quiet (fail)
        go_wp2
        go_ret
        exact ⟨by rw [HR.out.1, Hst.out]; rfl, below_drewN HBw.out _⟩
      · rw [heq, Bool.true_and] at Hst
        go_wp2
        go_quiet (fail)
        go_wp2
        go_roundw
        case rel => exact ⟨t + 1, by go_num, hlt, hideIt ⟨by rw [HR.out.1, Hst.out], below_drewN hB _⟩⟩
        case measure => simp [intOf]; omega
    · have hltI : ¬ (t : Int) < (l.length : Int) := by omega
      have HBw := hideIt hBw
      clear x6 x7 xB xs hBw
      go_wp2
      go_ret
      refine ⟨?_, HBw.out⟩
      have e1 : l.drop t = [] := List.drop_eq_nil_of_le (by omega)
      have e2 : k.drop t = [] := List.drop_eq_nil_of_le (by have := HLK.out; omega)
      rw [HR.out.1, e1, e2]
      rfl
end Go.Proofs.Ytagfolckodpioaa
