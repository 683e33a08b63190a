/- Whether a message may be: the program's answer, whole. -/
import Derived.Test.YtagfolckodpioaaMay
namespace Go.Proofs.Ytagfolckodpioaa
open Go.RowKit

theorem cell_alloc {w : World} {o : Obj} {p j : Nat} (h : p < w.heap.size) : (w.alloc o).cell? ⟨p, j, none⟩ = w.cell? ⟨p, j, none⟩ := by
  unfold World.cell?
  simp only
  rw [heap_alloc_old w o h]
def headB (m : MsgV) : Bool := wiB m.frm 1 7 && wiB m.dst 1 7 && !(m.frm == m.dst) && wiB m.term 1 1000000
def fOf (m : MsgV) : FldV := ⟨m.pi, m.pt, (m.en : Int), m.commit, m.ok, m.mtch, m.si, m.st, m.text⟩
def bodyB (m : MsgV) (ents : Bool) : Bool :=
  if m.kind = 1 then eqF (fOf m) ⟨m.pi, m.pt, 0, 0, false, 0, 0, 0, ⟨#[]⟩⟩ && mkB m.pi m.pt
  else if m.kind = 2 then eqF (fOf m) ⟨0, 0, 0, 0, m.ok, 0, 0, 0, ⟨#[]⟩⟩
  else if m.kind = 3 then eqF (fOf m) ⟨m.pi, m.pt, (m.en : Int), m.commit, false, 0, 0, 0, ⟨#[]⟩⟩ && mkB m.pi m.pt && ents && wiB m.commit 0 1000000
  else if m.kind = 4 then eqF (fOf m) ⟨0, 0, 0, 0, m.ok, m.mtch, 0, 0, ⟨#[]⟩⟩ && wiB m.mtch 0 1000000
  else if m.kind = 5 then eqF (fOf m) ⟨0, 0, 0, 0, false, 0, m.si, m.st, m.text⟩ && snB m.si m.st m.text.size
  else false
def mayB (m : MsgV) (l : List EntV) : Bool := headB m && bodyB m (entsB l)
set_option maxHeartbeats 4000000 in
set_option maxRecDepth 100000 in
theorem mayBe_head (m : MsgV) (w : World) (h : headB m = false) : Calls Try.prog 33 #[.agg (msgC m)] w fun e w' => e = .returned (.bool false) ∧ Below w.heap.size w w' := by
  obtain ⟨kind, frm, dst, term, pi, pt, ea, en, ec, commit, ok, mtch, si, st, text⟩ := m
  simp only [headB] at h
  have HB := hideIt ((Below.refl w.heap.size w).alloc (Nat.le_refl _) (.cells (msgC ⟨kind, frm, dst, term, pi, pt, ea, en, ec, commit, ok, mtch, si, st, text⟩) 28))
  simp only [msgC] at HB ⊢
  have N1 := hideIt (fun W => isNode_is frm W)
  have N2 := hideIt (fun W => isNode_is dst W)
  have N3 := hideIt (fun W => within_is term 1 1000000 W)
  cases h1 : wiB frm 1 7
  · rw [h1] at N1
    clear h
    go_enter Try.func33, Try.ntmps33
    go_wp2_with fail
    refine (N1.out _).mono ?_
    rintro e w1 ⟨rfl, rfl⟩
    dsimp only
    go_wp2
    go_ret
    exact ⟨rfl, HB.out⟩
  · rw [h1] at N1 h
    cases h2 : wiB dst 1 7
    · rw [h2] at N2
      clear h
      go_enter Try.func33, Try.ntmps33
      go_wp2_with fail
      refine (N1.out _).mono ?_
      rintro e w1 ⟨rfl, rfl⟩
      dsimp only
      go_wp2_with fail
      refine (N2.out _).mono ?_
      rintro e w1 ⟨rfl, rfl⟩
      dsimp only
      go_wp2
      go_ret
      exact ⟨rfl, HB.out⟩
    · rw [h2] at N2 h
      by_cases h3 : frm = dst
      · subst h3
        clear h
        go_enter Try.func33, Try.ntmps33
        go_wp2_with fail
        refine (N1.out _).mono ?_
        rintro e w1 ⟨rfl, rfl⟩
        dsimp only
        go_wp2_with fail
        refine (N2.out _).mono ?_
        rintro e w1 ⟨rfl, rfl⟩
        dsimp only
        go_wp2
        go_ret
        exact ⟨rfl, HB.out⟩
      · have h3b : (frm == dst) = false := beq_eq_false_iff_ne.2 h3
        rw [h3b] at h
        have h4 : wiB term 1 1000000 = false := by simpa using h
        rw [h4] at N3
        clear h h3
        go_enter Try.func33, Try.ntmps33
        go_wp2_with fail
        refine (N1.out _).mono ?_
        rintro e w1 ⟨rfl, rfl⟩
        dsimp only
        go_wp2_with fail
        refine (N2.out _).mono ?_
        rintro e w1 ⟨rfl, rfl⟩
        dsimp only
        go_wp2_with fail
        refine (N3.out _).mono ?_
        rintro e w1 ⟨rfl, rfl⟩
        dsimp only
        go_wp2
        go_ret
        exact ⟨rfl, HB.out⟩
set_option maxHeartbeats 8000000 in
set_option maxRecDepth 100000 in
theorem mayBe_body (m : MsgV) (l : List EntV) (w : World) (h : headB m = true) (hl : EntsAt w m.ea l) (hn : m.en = l.length) : Calls Try.prog 33 #[.agg (msgC m)] w fun e w' => e = .returned (.bool (bodyB m (entsB l))) ∧ Below w.heap.size w w' := by
  obtain ⟨kind, frm, dst, term, pi, pt, ea, en, ec, commit, ok, mtch, si, st, text⟩ := m
  simp only [headB, Bool.and_eq_true, Bool.not_eq_true'] at h
  obtain ⟨⟨⟨h1, h2⟩, h3b⟩, h4⟩ := h
  simp only at hl hn
  subst hn
  have HB := hideIt ((Below.refl w.heap.size w).alloc (Nat.le_refl _) (.cells (msgC ⟨kind, frm, dst, term, pi, pt, ea, l.length, ec, commit, ok, mtch, si, st, text⟩) 28))
  have HF := hideIt (fun W => fieldsOf_is ⟨kind, frm, dst, term, pi, pt, ea, l.length, ec, commit, ok, mtch, si, st, text⟩ W)
  simp only [msgC, fldC, bodyB, fOf] at HB HF ⊢
  have N1 := hideIt (fun W => isNode_is frm W)
  have N2 := hideIt (fun W => isNode_is dst W)
  have N3 := hideIt (fun W => within_is term 1 1000000 W)
  rw [h1] at N1
  rw [h2] at N2
  rw [h4] at N3
  have HE := hideIt (fun W (hb : Below w.heap.size w W) => areEntries_is ea ec l W (hl.below hb (Nat.le_refl _)))
  have NM := hideIt (fun W => isMark_is pi pt W)
  have NS := hideIt (fun W => isSnap_is si st text W)
  have NC := hideIt (fun W => within_is commit 0 1000000 W)
  have NT := hideIt (fun W => within_is mtch 0 1000000 W)
  clear h1 h2 h4 hl
  have hE := eq104
  obtain ⟨R, hR⟩ : ∃ R, R = (if kind = 1 then eqF ⟨pi, pt, (l.length : Int), commit, ok, mtch, si, st, text⟩ ⟨pi, pt, 0, 0, false, 0, 0, 0, ⟨#[]⟩⟩ && mkB pi pt
  else if kind = 2 then eqF ⟨pi, pt, (l.length : Int), commit, ok, mtch, si, st, text⟩ ⟨0, 0, 0, 0, ok, 0, 0, 0, ⟨#[]⟩⟩
  else if kind = 3 then eqF ⟨pi, pt, (l.length : Int), commit, ok, mtch, si, st, text⟩ ⟨pi, pt, (l.length : Int), commit, false, 0, 0, 0, ⟨#[]⟩⟩ && mkB pi pt && entsB l && wiB commit 0 1000000
  else if kind = 4 then eqF ⟨pi, pt, (l.length : Int), commit, ok, mtch, si, st, text⟩ ⟨0, 0, 0, 0, ok, mtch, 0, 0, ⟨#[]⟩⟩ && wiB mtch 0 1000000
  else if kind = 5 then eqF ⟨pi, pt, (l.length : Int), commit, ok, mtch, si, st, text⟩ ⟨0, 0, 0, 0, false, 0, si, st, text⟩ && snB si st text.size
  else false) := ⟨_, rfl⟩
  rw [← hR]
  have HR := hideIt hR
  clear hR
  go_enter Try.func33, Try.ntmps33
  go_wp2_with fail
  refine (N1.out _).mono ?_
  rintro e w1 ⟨rfl, rfl⟩
  dsimp only
  go_wp2_with fail
  refine (N2.out _).mono ?_
  rintro e w1 ⟨rfl, rfl⟩
  dsimp only
  go_wp2_with fail
  refine (N3.out _).mono ?_
  rintro e w1 ⟨rfl, rfl⟩
  dsimp only
  go_wp2_with fail
  refine (HF.out _).mono ?_
  rintro e w2 ⟨rfl, hb⟩
  dsimp only
  have hz : w.heap.size < w2.heap.size := by have := hb.size; simp at this; omega
  have d0 : w2.cell? ⟨w.heap.size, 0, none⟩ = some (.int .i64 kind) := (hb.cell (p := ⟨w.heap.size, 0, none⟩) (by simp)).trans (by simp)
  have d6 : w2.cell? ⟨w.heap.size, 6, none⟩ = some (.slice ea l.length ec) := (hb.cell (p := ⟨w.heap.size, 6, none⟩) (by simp)).trans (by simp)
  have hB2 : Below w.heap.size w w2 := HB.out.trans (hb.mono (by simp))
  have HB3 := hideIt (hB2.alloc (by omega) (.cells #[.int .i64 pi, .int .i64 pt, .int .i64 (l.length : Int), .int .i64 commit, .bool ok, .int .i64 mtch, .int .i64 si, .int .i64 st, .string text] 104))
  have HB2 := hideIt hB2
  clear hb hB2 HB HF N1 N2 N3
  by_cases hk1 : kind = 1
  · subst hk1
    have hR := HR.out
    rw [if_pos rfl] at hR
    cases g1 : eqF ⟨pi, pt, (l.length : Int), commit, ok, mtch, si, st, text⟩ ⟨pi, pt, 0, 0, false, 0, 0, 0, ⟨#[]⟩⟩
    · rw [g1] at hR
      have HR2 := hideIt hR
      clear hR
      go_wp2
      go_ret
      exact ⟨by rw [HR2.out]; rfl, HB3.out⟩
    · rw [g1] at hR
      have HR2 := hideIt hR
      clear hR
      go_wp2_with fail
      refine (NM.out _).mono ?_
      rintro e w3 ⟨rfl, hb3⟩
      dsimp only
      have HB4 := hideIt (HB3.out.trans (hb3.mono (by simp; omega)))
      clear hb3
      go_wp2
      go_ret
      exact ⟨by rw [HR2.out]; simp, HB4.out⟩
  have hk1b : (kind == 1) = false := beq_eq_false_iff_ne.2 hk1
  by_cases hk2 : kind = 2
  · subst hk2
    have hR := HR.out
    rw [if_neg (by decide), if_pos rfl] at hR
    have HR2 := hideIt hR
    clear hR
    go_wp2
    go_ret
    exact ⟨by rw [HR2.out]; rfl, HB3.out⟩
  have hk2b : (kind == 2) = false := beq_eq_false_iff_ne.2 hk2
  by_cases hk3 : kind = 3
  · subst hk3
    have hR := HR.out
    rw [if_neg (by decide), if_neg (by decide), if_pos rfl] at hR
    have HB5 := hideIt (HB3.out.alloc (by simp; omega) (.cells #[.int .i64 pi, .int .i64 pt, .int .i64 (l.length : Int), .int .i64 commit, .bool false, .int .i64 0, .int .i64 0, .int .i64 0, .string ⟨#[]⟩] 104))
    cases g1 : eqF ⟨pi, pt, (l.length : Int), commit, ok, mtch, si, st, text⟩ ⟨pi, pt, (l.length : Int), commit, false, 0, 0, 0, ⟨#[]⟩⟩
    · rw [g1] at hR
      have HR2 := hideIt hR
      clear hR
      go_wp2
      go_ret
      exact ⟨by rw [HR2.out]; rfl, HB5.out⟩
    · rw [g1] at hR
      cases g2 : mkB pi pt
      · rw [g2] at hR NM
        have HR2 := hideIt hR
        clear hR
        go_wp2_with fail
        refine (NM.out _).mono ?_
        rintro e w3 ⟨rfl, hb3⟩
        dsimp only
        have HB4 := hideIt (HB5.out.trans (hb3.mono (by simp; omega)))
        clear hb3
        go_wp2
        go_ret
        exact ⟨by rw [HR2.out]; rfl, HB4.out⟩
      · rw [g2] at hR NM
        cases g3 : entsB l
        · rw [g3] at hR HE
          have HR2 := hideIt hR
          clear hR
          go_wp2_with fail
          refine (NM.out _).mono ?_
          rintro e w3 ⟨rfl, hb3⟩
          dsimp only
          have HB4 := hideIt (HB5.out.trans (hb3.mono (by simp; omega)))
          have e6 : w3.cell? ⟨w.heap.size, 6, none⟩ = some (.slice ea l.length ec) := (hb3.cell (p := ⟨w.heap.size, 6, none⟩) (by show w.heap.size < _; simp; omega)).trans ((cell_alloc (by simp; omega)).trans ((cell_alloc hz).trans d6))
          have e3 : w3.cell? ⟨w2.heap.size, 3, none⟩ = some (.int .i64 commit) := (hb3.cell (p := ⟨w2.heap.size, 3, none⟩) (by show w2.heap.size < _; simp; omega)).trans ((cell_alloc (by simp)).trans (by rw [cell_at (heap_alloc_new w2 _)]; rfl))
          have hs3 := hb3.size
          simp at hs3
          clear hb3
          go_wp2_with fail
          refine (HE.out _ HB4.out).mono ?_
          rintro e w4 ⟨rfl, hb4⟩
          dsimp only
          have HB6 := hideIt (HB4.out.trans (hb4.mono HB4.out.size))
          have f3 : w4.cell? ⟨w2.heap.size, 3, none⟩ = some (.int .i64 commit) := (hb4.cell (p := ⟨w2.heap.size, 3, none⟩) (by show w2.heap.size < w3.heap.size; omega)).trans e3
          clear hb4
          go_wp2
          go_ret
          exact ⟨by rw [HR2.out]; rfl, HB6.out⟩
        · rw [g3] at hR HE
          have HR2 := hideIt hR
          clear hR
          go_wp2_with fail
          refine (NM.out _).mono ?_
          rintro e w3 ⟨rfl, hb3⟩
          dsimp only
          have HB4 := hideIt (HB5.out.trans (hb3.mono (by simp; omega)))
          have e6 : w3.cell? ⟨w.heap.size, 6, none⟩ = some (.slice ea l.length ec) := (hb3.cell (p := ⟨w.heap.size, 6, none⟩) (by show w.heap.size < _; simp; omega)).trans ((cell_alloc (by simp; omega)).trans ((cell_alloc hz).trans d6))
          have e3 : w3.cell? ⟨w2.heap.size, 3, none⟩ = some (.int .i64 commit) := (hb3.cell (p := ⟨w2.heap.size, 3, none⟩) (by show w2.heap.size < _; simp; omega)).trans ((cell_alloc (by simp)).trans (by rw [cell_at (heap_alloc_new w2 _)]; rfl))
          have hs3 := hb3.size
          simp at hs3
          clear hb3
          go_wp2_with fail
          refine (HE.out _ HB4.out).mono ?_
          rintro e w4 ⟨rfl, hb4⟩
          dsimp only
          have HB6 := hideIt (HB4.out.trans (hb4.mono HB4.out.size))
          have f3 : w4.cell? ⟨w2.heap.size, 3, none⟩ = some (.int .i64 commit) := (hb4.cell (p := ⟨w2.heap.size, 3, none⟩) (by show w2.heap.size < w3.heap.size; omega)).trans e3
          clear hb4
          go_wp2_with fail
          refine (NC.out _).mono ?_
          rintro e w5 ⟨rfl, rfl⟩
          dsimp only
          go_wp2
          go_ret
          exact ⟨by rw [HR2.out]; simp, HB6.out⟩
  have hk3b : (kind == 3) = false := beq_eq_false_iff_ne.2 hk3
  by_cases hk4 : kind = 4
  · subst hk4
    have hR := HR.out
    rw [if_neg (by decide), if_neg (by decide), if_neg (by decide), if_pos rfl] at hR
    cases g1 : eqF ⟨pi, pt, (l.length : Int), commit, ok, mtch, si, st, text⟩ ⟨0, 0, 0, 0, ok, mtch, 0, 0, ⟨#[]⟩⟩
    · rw [g1] at hR
      have HR2 := hideIt hR
      clear hR
      go_wp2
      go_ret
      exact ⟨by rw [HR2.out]; rfl, HB3.out⟩
    · rw [g1] at hR
      have HR2 := hideIt hR
      clear hR
      go_wp2_with fail
      refine (NT.out _).mono ?_
      rintro e w3 ⟨rfl, rfl⟩
      dsimp only
      go_wp2
      go_ret
      exact ⟨by rw [HR2.out]; simp, HB3.out⟩
  have hk4b : (kind == 4) = false := beq_eq_false_iff_ne.2 hk4
  by_cases hk5 : kind = 5
  · subst hk5
    have hR := HR.out
    rw [if_neg (by decide), if_neg (by decide), if_neg (by decide), if_neg (by decide), if_pos rfl] at hR
    cases g1 : eqF ⟨pi, pt, (l.length : Int), commit, ok, mtch, si, st, text⟩ ⟨0, 0, 0, 0, false, 0, si, st, text⟩
    · rw [g1] at hR
      have HR2 := hideIt hR
      clear hR
      go_wp2
      go_ret
      exact ⟨by rw [HR2.out]; rfl, HB3.out⟩
    · rw [g1] at hR
      have HR2 := hideIt hR
      clear hR
      go_wp2_with fail
      refine (NS.out _).mono ?_
      rintro e w3 ⟨rfl, hb3⟩
      dsimp only
      have HB4 := hideIt (HB3.out.trans (hb3.mono (by simp; omega)))
      clear hb3
      go_wp2
      go_ret
      exact ⟨by rw [HR2.out]; simp, HB4.out⟩
  have hk5b : (kind == 5) = false := beq_eq_false_iff_ne.2 hk5
  have hR := HR.out
  rw [if_neg hk1, if_neg hk2, if_neg hk3, if_neg hk4, if_neg hk5] at hR
  have HR2 := hideIt hR
  clear hR hk1 hk2 hk3 hk4 hk5
  go_wp2
  go_ret
  exact ⟨by rw [HR2.out]; rfl, HB3.out⟩
theorem mayBe_is (m : MsgV) (l : List EntV) (w : World) (hl : EntsAt w m.ea l) (hn : m.en = l.length) : Calls Try.prog 33 #[.agg (msgC m)] w fun e w' => e = .returned (.bool (mayB m l)) ∧ Below w.heap.size w w' := by
  unfold mayB
  cases h : headB m
  · exact mayBe_head m w h
  · exact mayBe_body m l w h hl hn
end Go.Proofs.Ytagfolckodpioaa
