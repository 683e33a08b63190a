/- The statement that the term never falls and the vote never turns, walked. -/
import Derived.Test.YtkoecdcbopkkbaaEnt
import Derived.Test.YtkoecdcbopkkbaaArgs2
namespace Go.Proofs.Ytkoecdcbopkkbaa
open Go.RowKit
structure StepV where
  kind : Int
  af : Int
  at1 : Int
  an : Int
  ok : Bool
  qf : Int
  qt : Int
  qi : Int
  qm : Int
  li : Int
  lm : Int
def StepAt (w : World) (b off : Nat) (s : StepV) : Prop :=
  w.cell? ⟨b, off, none⟩ = some (.int .i64 s.kind) ∧ w.cell? ⟨b, off + 1, none⟩ = some (.int .i64 s.af) ∧ w.cell? ⟨b, off + 2, none⟩ = some (.int .i64 s.at1) ∧ w.cell? ⟨b, off + 3, none⟩ = some (.int .i64 s.an) ∧ w.cell? ⟨b, off + 4, none⟩ = some (.bool s.ok) ∧ w.cell? ⟨b, off + 5, none⟩ = some (.int .i64 s.qf) ∧ w.cell? ⟨b, off + 6, none⟩ = some (.int .i64 s.qt) ∧ w.cell? ⟨b, off + 7, none⟩ = some (.int .i64 s.qi) ∧ w.cell? ⟨b, off + 8, none⟩ = some (.int .i64 s.qm) ∧ w.cell? ⟨b, off + 9, none⟩ = some (.int .i64 s.li) ∧ w.cell? ⟨b, off + 10, none⟩ = some (.int .i64 s.lm)
def StepsAt (w : World) (a : Option Addr) (l : List StepV) : Prop :=
  ∀ i (h : i < l.length), ∃ b off, a = some ⟨b, off, none⟩ ∧ b < w.heap.size ∧ StepAt w b (off + i * 11) l[i]
theorem StepAt.keep {w w' : World} {b off : Nat} {s : StepV} (h : StepAt w b off s) (hlt : b < w.heap.size) (hb : Below w.heap.size w w') : StepAt w' b off s := by
  obtain ⟨h0, h1, h2, h3, h4, h5, h6, h7, h8, h9, h10⟩ := h
  exact ⟨(hb.cell hlt).trans h0, (hb.cell hlt).trans h1, (hb.cell hlt).trans h2, (hb.cell hlt).trans h3, (hb.cell hlt).trans h4, (hb.cell hlt).trans h5, (hb.cell hlt).trans h6, (hb.cell hlt).trans h7, (hb.cell hlt).trans h8, (hb.cell hlt).trans h9, (hb.cell hlt).trans h10⟩
/-- The term has not fallen; in one term the vote has not turned. -/
def firmP (b c : Bal) : Prop := b.t ≤ c.t ∧ (c.t = b.t → b.v ≠ 0 → c.v = b.v)
theorem hear_firm (b : Bal) (x : Int) : firmP b (hearL b x) := by
  unfold hearL firmP
  split
  · simp only
    omega
  · omega
theorem begin_firm (b : Bal) (me n : Int) (h : (beginL b me n).2 = 0) : firmP b (beginL b me n).1 := by
  revert h
  unfold beginL
  split
  · intro h; simp at h
  · split
    · intro h; simp at h
    · split
      · intro h; simp at h
      · intro _
        simp only [voteL, firmP]
        omega
theorem hear2_firm (b : Bal) (x : Int) (h : (hear2L b x).2 = 0) : firmP b (hear2L b x).1 := by
  revert h
  unfold hear2L
  split
  · intro h; simp at h
  · split
    · intro h; simp at h
    · intro _
      exact hear_firm b x
theorem grant_firm (b : Bal) (qf qt qi qm li lm : Int) (h : (grantL b qf qt qi qm li lm).2.2 = 0) : firmP b (grantL b qf qt qi qm li lm).1 := by
  revert h
  unfold grantL
  split
  · intro h; simp at h
  · split
    · intro h; simp at h
    · split
      · rename_i hg
        intro _
        have hf := hear_firm b qt
        simp only [grantC, freeB, Bool.and_eq_true, Bool.or_eq_true, beq_iff_eq] at hg
        simp only [firmP] at hf ⊢
        refine ⟨hf.1, fun e h0 => ?_⟩
        have := hf.2 e h0
        rcases hg.1.2 with h1 | h1
        · omega
        · omega
      · intro _
        exact hear_firm b qt
theorem count_firm (b : Bal) (x y : Int) (ok : Bool) (n : Int) (h : (countL b x y ok n).2 = 0) : firmP b (countL b x y ok n).1 := by
  revert h
  unfold countL
  split
  · intro h; simp at h
  · split
    · intro h; simp at h
    · split
      · intro h; simp at h
      · split
        · intro _
          exact hear_firm b y
        · intro _
          exact hear_firm b y
/-- Behind the switch: the ballot that was, the one that came, its list, the word. -/
structure Mid (w wr : World) (b : Bal) (g : Value) (C : Bal) (gc : Value) (e : Int) (wx : World) : Prop where
  bb : wx.heap[w.heap.size]? = some (.cells #[.int .i64 b.t, .int .i64 b.v, .int .i64 b.r, g] 26 (0, 0))
  cb : wx.heap[wr.heap.size]? = some (.cells #[.int .i64 C.t, .int .i64 C.v, .int .i64 C.r, gc] 26 (0, 0))
  own : wx.ownsRow (wr.heap.size + 2) 3 1 gc C.l.length (C.l.map iv)
  bel : Below wr.heap.size wr wx
  len : C.l.length * 8 ≤ 140737488355328
  firm : e = 0 → firmP b C
theorem Mid.make {w wr X wx : World} {b C : Bal} {g gc : Value} {e : Int} (hE : Ent wr w.heap.size b g) (hX : X.heap[wr.heap.size]? = some (.cells #[.int .i64 b.t, .int .i64 b.v, .int .i64 b.r, g] 26 (0, 0))) (hbX : Below wr.heap.size wr X) (hs : X.heap.size = wr.heap.size + 2)
    (ho : wx.ownsRow X.heap.size 3 1 gc C.l.length (C.l.map iv)) (hb : Below X.heap.size X wx) (hl : C.l.length * 8 ≤ 140737488355328) (hf : e = 0 → firmP b C) :
    Mid w wr b g C gc e ((((wx.setCell ⟨wr.heap.size, 0, none⟩ (.int .i64 C.t)).setCell ⟨wr.heap.size, 1, none⟩ (.int .i64 C.v)).setCell ⟨wr.heap.size, 2, none⟩ (.int .i64 C.r)).setCell ⟨wr.heap.size, 3, none⟩ gc) := by
  rw [hs] at ho
  have hlt := hE.lt
  have hb2 : Below wr.heap.size wr wx := hbX.trans ⟨hb.os, hb.tape, hb.output, hb.size, fun i hi => hb.block i (by omega)⟩
  have hcb : wx.heap[wr.heap.size]? = some (.cells #[.int .i64 b.t, .int .i64 b.v, .int .i64 b.r, g] 26 (0, 0)) := (hb.block _ (by omega)).trans hX
  have hbb : wx.heap[w.heap.size]? = some (.cells #[.int .i64 b.t, .int .i64 b.v, .int .i64 b.r, g] 26 (0, 0)) := (hb2.block _ hlt).trans hE.box
  have hne : w.heap.size ≠ wr.heap.size := by omega
  exact ⟨setOther _ (setOther _ (setOther _ (setOther _ hbb hne) hne) hne) hne, put4 _ _ 26 _ _ _ _ hcb, ownSet _ (ownSet _ (ownSet _ (ownSet _ ho (by omega)) (by omega)) (by omega)) (by omega), belowSet _ (belowSet _ (belowSet _ (belowSet _ hb2 (by omega)) (by omega)) (by omega)) (by omega), hl, hf⟩
set_option maxHeartbeats 16000000 in
set_option maxRecDepth 100000 in
theorem firm_walk (me : Int) (a : Option Addr) (cap : Nat) (l : List StepV) (w : World) (hO : StepsAt w a l) (hcap : l.length ≤ maxLen) : Calls Try.prog 6 #[.int .i64 me, .slice a l.length cap] w fun e w' => e = .returned (.bool true) ∧ Below w.heap.size w w' := by
  have HO := hideIt hO
  have HL := hideIt (fun W => live_is W)
  have hl9 : l.length ≤ 9223372036854775807 := hcap
  clear hO hcap
  go_enter Try.func6, Try.ntmps6
  go_wp2
  go_loopw [6] (fun v wr => ∃ (i : Nat) (b : Bal) (g : Value), v = .int .i64 i ∧ i ≤ 60 ∧ Hid (Ent wr w.heap.size b g ∧ Below w.heap.size w wr)) (fun v _ => 60 - (intOf v).toNat)
  case atStart => exact ⟨0, ⟨0, 0, 1, []⟩, .slice none 0 0, rfl, Nat.zero_le _, hideIt ⟨⟨heap_alloc_new w _, GotAt.nil _ _ _⟩, below1 w _⟩⟩
  case round =>
    obtain ⟨i, b, g, rfl, hi, HP⟩ := hrel
    by_cases hA : i < l.length
    · have hA0 : (0 : Int) ≤ (i : Int) := by omega
      have hA1 : (i : Int) < (l.length : Int) := by omega
      by_cases hB : i < 60
      · have hB1 : (i : Int) < 60 := by omega
        obtain ⟨sb, so, rfl, hbl, hst⟩ := HO.out i hA
        obtain ⟨c0, c1, c2, c3, c4, c5, c6, c7, c8, c9, c10⟩ := hst.keep hbl HP.out.2
        clear hst
        generalize l[i] = s at *
        obtain ⟨kind, af, at1, an, ok, qf, qt, qi, qm, li, lm⟩ := s
        simp only at c0 c1 c2 c3 c4 c5 c6 c7 c8 c9 c10
        have HE := hideIt HP.out.1
        have HW := hideIt HP.out.2
        obtain ⟨ga, gc, rfl, _⟩ := HE.out.got.open
        have lbs : Hid (w.heap.size < wr.heap.size) := HE.out.lt
        have hsbl : sb < wr.heap.size := Nat.lt_of_lt_of_le hbl HP.out.2.size
        clear HP hbl
        have bc0 : wr.cell? ⟨w.heap.size, 0, none⟩ = some (.int .i64 b.t) := by rw [cell_at HE.out.box]; rfl
        have bc1 : wr.cell? ⟨w.heap.size, 1, none⟩ = some (.int .i64 b.v) := by rw [cell_at HE.out.box]; rfl
        have bc2 : wr.cell? ⟨w.heap.size, 2, none⟩ = some (.int .i64 b.r) := by rw [cell_at HE.out.box]; rfl
        have bc3 : wr.cell? ⟨w.heap.size, 3, none⟩ = some (.slice ga b.l.length gc) := by rw [cell_at HE.out.box]; rfl
        have bf : ∀ j, wr.frozen? ⟨w.heap.size, j, none⟩ = false := fun j => free_at HE.out.box j
        have HT := hideIt (two_heap wr (.cells #[.int .i64 b.t, .int .i64 b.v, .int .i64 b.r, .slice ga b.l.length gc] 26) (.cells #[.int .i64 kind, .int .i64 af, .int .i64 at1, .int .i64 an, .bool ok, .int .i64 qf, .int .i64 qt, .int .i64 qi, .int .i64 qm, .int .i64 li, .int .i64 lm] 50))
        have HXB := hideIt (below2 wr (.cells #[.int .i64 b.t, .int .i64 b.v, .int .i64 b.r, .slice ga b.l.length gc] 26) (.cells #[.int .i64 kind, .int .i64 af, .int .i64 at1, .int .i64 an, .bool ok, .int .i64 qf, .int .i64 qt, .int .i64 qi, .int .i64 qm, .int .i64 li, .int .i64 lm] 50))
        go_upto_block 2 with fail
        have HXE := hideIt (HE.out.keep HXB.out)
        have HXC := hideIt HT.out.1
        have HXD := hideIt HT.out.2.1
        have HXS := hideIt HT.out.2.2
        clear HT bc0 bc1 bc2 bc3 bf c0 c1 c2 c3 c4 c5 c6 c7 c8 c9 c10
        generalize hX : ((wr.alloc (.cells #[.int .i64 b.t, .int .i64 b.v, .int .i64 b.r, .slice ga b.l.length gc] 26)).alloc (.cells #[.int .i64 kind, .int .i64 af, .int .i64 at1, .int .i64 an, .bool ok, .int .i64 qf, .int .i64 qt, .int .i64 qi, .int .i64 qm, .int .i64 li, .int .i64 lm] 50)) = X at *
        clear hX
        have bc0 : X.cell? ⟨w.heap.size, 0, none⟩ = some (.int .i64 b.t) := by rw [cell_at HXE.out.box]; rfl
        have bc1 : X.cell? ⟨w.heap.size, 1, none⟩ = some (.int .i64 b.v) := by rw [cell_at HXE.out.box]; rfl
        have bc2 : X.cell? ⟨w.heap.size, 2, none⟩ = some (.int .i64 b.r) := by rw [cell_at HXE.out.box]; rfl
        have bc3 : X.cell? ⟨w.heap.size, 3, none⟩ = some (.slice ga b.l.length gc) := by rw [cell_at HXE.out.box]; rfl
        have bf : ∀ j, X.frozen? ⟨w.heap.size, j, none⟩ = false := fun j => free_at HXE.out.box j
        have s0 : X.cell? ⟨wr.heap.size + 1, 0, none⟩ = some (.int .i64 kind) := by rw [cell_at HXD.out]; rfl
        have s1 : X.cell? ⟨wr.heap.size + 1, 1, none⟩ = some (.int .i64 af) := by rw [cell_at HXD.out]; rfl
        have s2 : X.cell? ⟨wr.heap.size + 1, 2, none⟩ = some (.int .i64 at1) := by rw [cell_at HXD.out]; rfl
        have s3 : X.cell? ⟨wr.heap.size + 1, 3, none⟩ = some (.int .i64 an) := by rw [cell_at HXD.out]; rfl
        have s4 : X.cell? ⟨wr.heap.size + 1, 4, none⟩ = some (.bool ok) := by rw [cell_at HXD.out]; rfl
        have s5 : X.cell? ⟨wr.heap.size + 1, 5, none⟩ = some (.int .i64 qf) := by rw [cell_at HXD.out]; rfl
        have s6 : X.cell? ⟨wr.heap.size + 1, 6, none⟩ = some (.int .i64 qt) := by rw [cell_at HXD.out]; rfl
        have s7 : X.cell? ⟨wr.heap.size + 1, 7, none⟩ = some (.int .i64 qi) := by rw [cell_at HXD.out]; rfl
        have s8 : X.cell? ⟨wr.heap.size + 1, 8, none⟩ = some (.int .i64 qm) := by rw [cell_at HXD.out]; rfl
        have s9 : X.cell? ⟨wr.heap.size + 1, 9, none⟩ = some (.int .i64 li) := by rw [cell_at HXD.out]; rfl
        have s10 : X.cell? ⟨wr.heap.size + 1, 10, none⟩ = some (.int .i64 lm) := by rw [cell_at HXD.out]; rfl
        clear HXD
        go_cut [8] from 28 to 71 (fun x wx => ∃ (C : Bal) (gx : Value) (e : Int), x = .int .i64 e ∧ Hid (Mid w wr b (.slice ga b.l.length gc) C gx e wx))
        case first =>
          by_cases k0 : kind = 0
          · subst k0
            have H1 := hideIt (begin_is b _ me 7 _ HXE.out.got)
            have LX := hideIt (begin_len b me 7)
            have HFI := hideIt (begin_firm b me 7)
            obtain ⟨⟨X0, ex⟩, eX⟩ : ∃ X0, beginL b me 7 = X0 := ⟨_, rfl⟩
            rw [eX] at H1 LX HFI
            simp only at H1 LX HFI
            clear eX
            unfold balV at H1
            go_wp2_with fail
            refine H1.out.mono ?_
            rintro e w2 ⟨gx, rfl, h1, h2⟩
            dsimp only
            clear H1
            obtain ⟨xa, xc, rfl⟩ := own_len h1
            unfold balV
            have HMI := hideIt (Mid.make HE.out HXC.out HXB.out HXS.out h1 h2 LX.out HFI.out)
            have hcb := (h2.block _ (by have := HXS.out; omega)).trans HXC.out
            have cc0 : w2.cell? ⟨wr.heap.size, 0, none⟩ = some (.int .i64 b.t) := by rw [cell_at hcb]; rfl
            have cc1 : w2.cell? ⟨wr.heap.size, 1, none⟩ = some (.int .i64 b.v) := by rw [cell_at hcb]; rfl
            have cc2 : w2.cell? ⟨wr.heap.size, 2, none⟩ = some (.int .i64 b.r) := by rw [cell_at hcb]; rfl
            have cc3 : w2.cell? ⟨wr.heap.size, 3, none⟩ = some (.slice ga b.l.length gc) := by rw [cell_at hcb]; rfl
            have cf : ∀ j, w2.frozen? ⟨wr.heap.size, j, none⟩ = false := fun j => free_at hcb j
            clear h1 h2 hcb
            go_wp2_with fail
            go_meet
            exact ⟨X0, _, ex, rfl, HMI⟩
          · have k0b : (kind == 0) = false := beq_eq_false_iff_ne.2 k0
            by_cases k1 : kind = 1
            · subst k1
              have H1 := hideIt (hear_is b _ at1 _ HXE.out.got)
              have LX := hideIt (hear_len b at1)
              have HFI := hideIt (hear2_firm b at1)
              obtain ⟨⟨X0, ex⟩, eX⟩ : ∃ X0, hear2L b at1 = X0 := ⟨_, rfl⟩
              rw [eX] at H1 LX HFI
              simp only at H1 LX HFI
              clear eX k0 k0b
              unfold balV at H1
              go_wp2_with fail
              refine H1.out.mono ?_
              rintro e w2 ⟨gx, rfl, h1, h2⟩
              dsimp only
              clear H1
              obtain ⟨xa, xc, rfl⟩ := own_len h1
              unfold balV
              have HMI := hideIt (Mid.make HE.out HXC.out HXB.out HXS.out h1 h2 LX.out HFI.out)
              have hcb := (h2.block _ (by have := HXS.out; omega)).trans HXC.out
              have cc0 : w2.cell? ⟨wr.heap.size, 0, none⟩ = some (.int .i64 b.t) := by rw [cell_at hcb]; rfl
              have cc1 : w2.cell? ⟨wr.heap.size, 1, none⟩ = some (.int .i64 b.v) := by rw [cell_at hcb]; rfl
              have cc2 : w2.cell? ⟨wr.heap.size, 2, none⟩ = some (.int .i64 b.r) := by rw [cell_at hcb]; rfl
              have cc3 : w2.cell? ⟨wr.heap.size, 3, none⟩ = some (.slice ga b.l.length gc) := by rw [cell_at hcb]; rfl
              have cf : ∀ j, w2.frozen? ⟨wr.heap.size, j, none⟩ = false := fun j => free_at hcb j
              clear h1 h2 hcb
              go_wp2_with fail
              go_meet
              exact ⟨X0, _, ex, rfl, HMI⟩
            · have k1b : (kind == 1) = false := beq_eq_false_iff_ne.2 k1
              by_cases k2 : kind = 2
              · subst k2
                have H1 := hideIt (grant_is b _ qf qt qi qm li lm _ HXE.out.got)
                have LX := hideIt (grant_len b qf qt qi qm li lm)
                have HFI := hideIt (grant_firm b qf qt qi qm li lm)
                obtain ⟨⟨X0, okx, ex⟩, eX⟩ : ∃ X0, grantL b qf qt qi qm li lm = X0 := ⟨_, rfl⟩
                rw [eX] at H1 LX HFI
                simp only at LX HFI
                clear eX k0 k0b k1 k1b
                unfold balV at H1
                go_wp2_with fail
                refine H1.out.mono ?_
                rintro e w2 ⟨gx, rfl, h1, h2⟩
                dsimp only
                clear H1
                simp only at h1 ⊢
                obtain ⟨xa, xc, rfl⟩ := own_len h1
                unfold balV
                have HMI := hideIt (Mid.make HE.out HXC.out HXB.out HXS.out h1 h2 LX.out HFI.out)
                have hcb := (h2.block _ (by have := HXS.out; omega)).trans HXC.out
                have cc0 : w2.cell? ⟨wr.heap.size, 0, none⟩ = some (.int .i64 b.t) := by rw [cell_at hcb]; rfl
                have cc1 : w2.cell? ⟨wr.heap.size, 1, none⟩ = some (.int .i64 b.v) := by rw [cell_at hcb]; rfl
                have cc2 : w2.cell? ⟨wr.heap.size, 2, none⟩ = some (.int .i64 b.r) := by rw [cell_at hcb]; rfl
                have cc3 : w2.cell? ⟨wr.heap.size, 3, none⟩ = some (.slice ga b.l.length gc) := by rw [cell_at hcb]; rfl
                have cf : ∀ j, w2.frozen? ⟨wr.heap.size, j, none⟩ = false := fun j => free_at hcb j
                clear h1 h2 hcb
                go_wp2_with fail
                go_meet
                exact ⟨X0, _, ex, rfl, HMI⟩
              · have k2b : (kind == 2) = false := beq_eq_false_iff_ne.2 k2
                have H1 := hideIt (count_is b _ af at1 ok 7 _ HXE.out.got)
                have LX := hideIt (count_len b af at1 ok 7)
                have HFI := hideIt (count_firm b af at1 ok 7)
                obtain ⟨⟨X0, ex⟩, eX⟩ : ∃ X0, countL b af at1 ok 7 = X0 := ⟨_, rfl⟩
                rw [eX] at H1 LX HFI
                simp only at H1 LX HFI
                clear eX k0 k1 k2
                unfold balV at H1
                go_wp2_with fail
                refine H1.out.mono ?_
                rintro e w2 ⟨gx, rfl, h1, h2⟩
                dsimp only
                clear H1
                obtain ⟨xa, xc, rfl⟩ := own_len h1
                unfold balV
                have HMI := hideIt (Mid.make HE.out HXC.out HXB.out HXS.out h1 h2 LX.out HFI.out)
                have hcb := (h2.block _ (by have := HXS.out; omega)).trans HXC.out
                have cc0 : w2.cell? ⟨wr.heap.size, 0, none⟩ = some (.int .i64 b.t) := by rw [cell_at hcb]; rfl
                have cc1 : w2.cell? ⟨wr.heap.size, 1, none⟩ = some (.int .i64 b.v) := by rw [cell_at hcb]; rfl
                have cc2 : w2.cell? ⟨wr.heap.size, 2, none⟩ = some (.int .i64 b.r) := by rw [cell_at hcb]; rfl
                have cc3 : w2.cell? ⟨wr.heap.size, 3, none⟩ = some (.slice ga b.l.length gc) := by rw [cell_at hcb]; rfl
                have cf : ∀ j, w2.frozen? ⟨wr.heap.size, j, none⟩ = false := fun j => free_at hcb j
                clear h1 h2 hcb
                go_wp2_with fail
                go_meet
                exact ⟨X0, _, ex, rfl, HMI⟩
        case rest =>
        obtain ⟨C, gx, ex, rfl, HM⟩ := hcut
        clear bc0 bc1 bc2 bc3 bf s0 s1 s2 s3 s4 s5 s6 s7 s8 s9 s10 HXE HXC HXS HXB hsbl
        obtain ⟨xa, xc, rfl⟩ := own_len HM.out.own
        have HBW := hideIt (below_via HW.out HM.out.bel)
        by_cases he : ex = 0
        · subst he
          have hf := HM.out.firm rfl
          have bc0 : wc.cell? ⟨w.heap.size, 0, none⟩ = some (.int .i64 b.t) := by rw [cell_at HM.out.bb]; rfl
          have bc1 : wc.cell? ⟨w.heap.size, 1, none⟩ = some (.int .i64 b.v) := by rw [cell_at HM.out.bb]; rfl
          have bc2 : wc.cell? ⟨w.heap.size, 2, none⟩ = some (.int .i64 b.r) := by rw [cell_at HM.out.bb]; rfl
          have bc3 : wc.cell? ⟨w.heap.size, 3, none⟩ = some (.slice ga b.l.length gc) := by rw [cell_at HM.out.bb]; rfl
          have bf : ∀ j, wc.frozen? ⟨w.heap.size, j, none⟩ = false := fun j => free_at HM.out.bb j
          have cc0 : wc.cell? ⟨wr.heap.size, 0, none⟩ = some (.int .i64 C.t) := by rw [cell_at HM.out.cb]; rfl
          have cc1 : wc.cell? ⟨wr.heap.size, 1, none⟩ = some (.int .i64 C.v) := by rw [cell_at HM.out.cb]; rfl
          have cc2 : wc.cell? ⟨wr.heap.size, 2, none⟩ = some (.int .i64 C.r) := by rw [cell_at HM.out.cb]; rfl
          have cc3 : wc.cell? ⟨wr.heap.size, 3, none⟩ = some (.slice xa C.l.length xc) := by rw [cell_at HM.out.cb]; rfl
          have cf : ∀ j, wc.frozen? ⟨wr.heap.size, j, none⟩ = false := fun j => free_at HM.out.cb j
          have hlt : ¬ (C.t < b.t) := by have := hf.1; omega
          have HNX : Hid (Ent ((((wc.setCell ⟨w.heap.size, 0, none⟩ (.int .i64 C.t)).setCell ⟨w.heap.size, 1, none⟩ (.int .i64 C.v)).setCell ⟨w.heap.size, 2, none⟩ (.int .i64 C.r)).setCell ⟨w.heap.size, 3, none⟩ (.slice xa C.l.length xc)) w.heap.size C (.slice xa C.l.length xc) ∧ Below w.heap.size w ((((wc.setCell ⟨w.heap.size, 0, none⟩ (.int .i64 C.t)).setCell ⟨w.heap.size, 1, none⟩ (.int .i64 C.v)).setCell ⟨w.heap.size, 2, none⟩ (.int .i64 C.r)).setCell ⟨w.heap.size, 3, none⟩ (.slice xa C.l.length xc))) := by
            have hl := lbs.out
            exact ⟨⟨put4 _ _ 26 _ _ _ _ HM.out.bb, own_got (ownSet _ (ownSet _ (ownSet _ (ownSet _ HM.out.own (by omega)) (by omega)) (by omega)) (by omega)) HM.out.len⟩, belowSet _ (belowSet _ (belowSet _ (belowSet _ HBW.out (Nat.le_refl _)) (Nat.le_refl _)) (Nat.le_refl _)) (Nat.le_refl _)⟩
          clear HM HBW
          by_cases ht : C.t = b.t
          · have htb : (C.t == b.t) = true := by simp [ht]
            by_cases hv : b.v = 0
            · have hvb : (b.v != 0) = false := by simp [hv]
              clear hf ht hv
              go_wp2
              go_roundw
              case rel => exact ⟨i + 1, C, _, by go_num, by omega, HNX⟩
              case measure => simp [intOf]; omega
            · have hvb : (b.v != 0) = true := by simp [hv]
              have hcv : (C.v != b.v) = false := by simp [hf.2 ht hv]
              clear hf ht hv
              go_wp2
              go_roundw
              case rel => exact ⟨i + 1, C, _, by go_num, by omega, HNX⟩
              case measure => simp [intOf]; omega
          · have htb : (C.t == b.t) = false := by simp [ht]
            clear hf ht
            go_wp2
            go_roundw
            case rel => exact ⟨i + 1, C, _, by go_num, by omega, HNX⟩
            case measure => simp [intOf]; omega
        · have heb : (ex != 0) = true := by simp [he]
          have HNX := hideIt (And.intro (HE.out.keep HM.out.bel) HBW.out)
          clear HM HBW
          go_wp2
          go_roundw
          case rel => exact ⟨i + 1, b, _, by go_num, by omega, HNX⟩
          case measure => simp [intOf]; omega
      · have e60 : i = 60 := by omega
        subst e60
        have HB := hideIt HP.out.2
        clear HP
        go_wp2_with fail
        refine (HL.out _).mono ?_
        rintro e w2 ⟨rfl, hb⟩
        dsimp only
        have HB2 := hideIt (below_via HB.out hb)
        clear hb
        go_wp2
        go_ret
        exact ⟨rfl, HB2.out⟩
    · have hA1 : ¬ ((i : Int) < (l.length : Int)) := by omega
      have HB := hideIt HP.out.2
      clear HP
      go_wp2_with fail
      refine (HL.out _).mono ?_
      rintro e w2 ⟨rfl, hb⟩
      dsimp only
      have HB2 := hideIt (below_via HB.out hb)
      clear hb
      go_wp2
      go_ret
      exact ⟨rfl, HB2.out⟩
end Go.Proofs.Ytkoecdcbopkkbaa
