/- The document's owed: may these be what is owed? -/
import Derived.Test.YtgnmghcdfihmgaaROr
import Derived.Test.YtgnmghcdfihmgaaRCo
namespace Go.Proofs.Ytgnmghcdfihmgaa
open Go.RowKit
set_option linter.all false
def gB {α : Type} (p : α → Bool) (r : α → α → Bool) (l : List α) (t : Nat) : Bool := !((l.take t).any p) && srtB r (l.take t)
theorem gB_next {α : Type} {p : α → Bool} {r : α → α → Bool} {l : List α} {t : Nat} (h : t + 1 < l.length) : gB p r l (t + 2) = (gB p r l (t + 1) && (!(p l[t + 1]) && r l[t] l[t + 1])) := by
  unfold gB
  have e2 : l.take (t + 2) = l.take t ++ [l[t], l[t + 1]] := by
    rw [List.take_succ_eq_append_getElem h, List.take_succ_eq_append_getElem (show t < l.length by omega), List.append_assoc]
    rfl
  have e1 : l.take (t + 1) = l.take t ++ [l[t]] := by
    rw [List.take_succ_eq_append_getElem (show t < l.length by omega)]
  rw [e2, srt_snoc, ← e1, e1]
  simp only [List.any_append, List.any_cons, List.any_nil, Bool.or_false, Bool.not_or]
  cases (l.take t).any p <;> cases p l[t] <;> cases p l[t + 1] <;> simp
theorem gB_one {α : Type} {p : α → Bool} {r : α → α → Bool} {l : List α} (h : 0 < l.length) : gB p r l 1 = !(p l[0]) := by
  unfold gB
  cases l with
  | nil => simp at h
  | cons x l => simp [srtB]
theorem gB_str {α : Type} {p : α → Bool} {r : α → α → Bool} {l : List α} {t : Nat} (h : t < l.length) (hs : p l[t] = true) : gB p r l (t + 1) = false := by
  unfold gB
  rw [List.take_succ_eq_append_getElem h, List.any_append]
  simp only [List.any_cons, hs, Bool.true_or, Bool.or_true, Bool.not_true, Bool.false_and]
theorem gB_out {α : Type} {p : α → Bool} {r : α → α → Bool} {l : List α} {t : Nat} (h : gB p r l t = false) : gB p r l l.length = false := by
  unfold gB at *
  rw [List.take_of_length_le (Nat.le_refl _)]
  rw [Bool.and_eq_false_iff] at h ⊢
  rcases h with h | h
  · left
    simp only [Bool.not_eq_false', List.any_eq_true] at h ⊢
    obtain ⟨x, hx, he⟩ := h
    exact ⟨x, List.mem_of_mem_take hx, he⟩
  · right
    have hp : ∀ {l : List α} (t : Nat), srtB r l = true → srtB r (l.take t) = true := by
      intro l
      induction l with
      | nil => intro t _; simp [srtB]
      | cons x l ih =>
        intro t h
        cases t with
        | zero => rfl
        | succ t =>
          cases l with
          | nil => simp [srtB]
          | cons y l =>
            cases t with
            | zero => rfl
            | succ t =>
              have h2 : r x y = true ∧ srtB r (y :: l) = true := by simpa [srtB] using h
              have := ih (t + 1) h2.2
              simp only [List.take_succ_cons] at this ⊢
              unfold srtB
              rw [h2.1, this]
              rfl
    cases hl : srtB r l
    · rfl
    · rw [hp t hl] at h
      exact absurd h (by simp)
theorem owedB_all (l : List OweV) : owedB l = gB stoB owB l l.length := by
  unfold owedB gB
  rw [List.take_of_length_le (Nat.le_refl _)]
theorem three66 {w : World} {p : Nat} {a b c : Value} (h : w.heap[p]? = some (.cells #[a, b, c] 48 (0, 0))) : w.cell? ⟨p, 0, none⟩ = some a ∧ w.cell? ⟨p, 1, none⟩ = some b ∧ w.cell? ⟨p, 2, none⟩ = some c ∧ p < w.heap.size :=
  ⟨by rw [cell_at h]; rfl, by rw [cell_at h]; rfl, by rw [cell_at h]; rfl, (Array.getElem?_eq_some_iff.1 h).1⟩
set_option maxHeartbeats 8000000 in
set_option maxRecDepth 100000 in
theorem rOwed_is (v : Value) (l : List OweV) (w : World) (h : Owes w v l) : Calls Try.prog 67 #[v] w fun e w' => e = .returned (.bool (owedB l)) ∧ Below w.heap.size w w' := by
  have HW := hideIt (fun x lo hi W => rWithin_is x lo hi W)
  have HAL := hideIt (owedB_all l)
  obtain ⟨ad, c, rfl, h8, hr⟩ := h.owes
  have HH := hideIt hr
  clear hr h
  go_enter Try.func67, Try.ntmps67
  go_upto_region 2 with fail
  go_loopw [3] (fun v wr => ∃ t : Nat, v = .int .i64 t ∧ t ≤ l.length ∧ Hid (gB stoB owB l t = true ∧ Below w.heap.size w wr)) (fun v _ => l.length - (intOf v).toNat)
  case atStart => exact ⟨0, rfl, Nat.zero_le _, hideIt ⟨rfl, Below.refl _ _⟩⟩
  case round =>
    obtain ⟨t, rfl, ht, HR⟩ := hrel
    by_cases hlt : t < l.length
    · have hltI : (t : Int) < (l.length : Int) := by omega
      have ht0 : (0 : Int) ≤ (t : Int) := by omega
      have hw : IntKind.i64.wrap ((t : Int) + 1) = ((t + 1 : Nat) : Int) := by rw [IntKind.wrap_i64]; omega
      obtain ⟨bb, off, rfl, hbl, q0, q1, q2⟩ := HH.out t hlt
      have hBw := HR.out.2
      have hblr : bb < wr.heap.size := Nat.lt_of_lt_of_le hbl hBw.size
      have c0 := (hBw.cell (p := ⟨bb, off + t * 3, none⟩) hbl).trans q0
      have c1 := (hBw.cell (p := ⟨bb, off + t * 3 + 1, none⟩) hbl).trans q1
      have c2 := (hBw.cell (p := ⟨bb, off + t * 3 + 2, none⟩) hbl).trans q2
      have HOK := hideIt HR.out.1
      have HBD := hideIt hBw
      clear q0 q1 q2 hBw HR
      generalize hem : l[t] = em at *
      have HEM := hideIt hem
      clear hem
      obtain ⟨ea, es, en⟩ := em
      dsimp only at c0 c1 c2
      have hb4 := below1 wr (.cells #[.int .i64 ea, .int .i64 es, .int .i64 en] 48)
      have E4 := hideIt (heap_alloc_new wr (.cells #[.int .i64 ea, .int .i64 es, .int .i64 en] 48))
      have B4 := hideIt (below_via HBD.out hb4)
      clear hb4 HBD
      go_upto_region 5 with fail
      clear c0 c1 c2 hblr
      generalize wr.alloc (.cells #[.int .i64 ea, .int .i64 es, .int .i64 en] 48) = W4 at *
      generalize wr.heap.size = KE at *
      obtain ⟨d0, d1, d2, dl⟩ := three66 E4.out
      go_wp2_with fail
      refine (HW.out _ _ _ _).mono ?_
      rintro e wq ⟨rfl, hwq⟩
      replace hwq := hwq.symm
      subst hwq
      dsimp only
      cases h1 : wiB ea 1 8
      · have HST : Hid (stoB l[t] = true) := by
          show _ = _
          unfold stoB
          rw [HEM.out]
          simp only
          rw [h1]
          rfl
        clear h1
        have HNO : Hid (gB stoB owB l l.length = false) := gB_out (gB_str hlt HST.out)
        go_wp2
        go_ret
        exact ⟨by rw [HAL.out, HNO.out]; rfl, B4.out⟩
      go_wp2_with fail
      refine (HW.out _ _ _ _).mono ?_
      rintro e wq ⟨rfl, hwq⟩
      replace hwq := hwq.symm
      subst hwq
      dsimp only
      cases h2 : wiB es 0 1
      · have HST : Hid (stoB l[t] = true) := by
          show _ = _
          unfold stoB
          rw [HEM.out]
          simp only
          rw [h1, h2]
          rfl
        clear h1 h2
        have HNO : Hid (gB stoB owB l l.length = false) := gB_out (gB_str hlt HST.out)
        go_wp2
        go_ret
        exact ⟨by rw [HAL.out, HNO.out]; rfl, B4.out⟩
      go_wp2_with fail
      refine (HW.out _ _ _ _).mono ?_
      rintro e wq ⟨rfl, hwq⟩
      replace hwq := hwq.symm
      subst hwq
      dsimp only
      cases h3 : wiB en 1 9007199254740992
      · have HST : Hid (stoB l[t] = true) := by
          show _ = _
          unfold stoB
          rw [HEM.out]
          simp only
          rw [h1, h2, h3]
          rfl
        clear h1 h2 h3
        have HNO : Hid (gB stoB owB l l.length = false) := gB_out (gB_str hlt HST.out)
        go_wp2
        go_ret
        exact ⟨by rw [HAL.out, HNO.out]; rfl, B4.out⟩
      have HST : Hid (stoB l[t] = false) := by
        show _ = _
        unfold stoB
        rw [HEM.out]
        simp only
        rw [h1, h2, h3]
        rfl
      clear h1 h2 h3
      rcases Nat.eq_zero_or_pos t with h0 | h0
      · subst h0
        have HNX : Hid (gB stoB owB l 1 = true) := by
          show _ = _
          rw [gB_one hlt, HST.out]
          rfl
        go_upto_region 7 with fail
        go_quiet (fail)
        go_wp2
        go_roundw
        case rel => exact ⟨1, by go_num, by omega, hideIt ⟨HNX.out, below_drewN B4.out _⟩⟩
        case measure => simp [intOf]; omega
      · obtain ⟨u, hu⟩ : ∃ u, t = u + 1 := ⟨t - 1, by omega⟩
        have hu0 : (0 : Int) ≤ (u : Int) := by omega
        have hu1 : (u : Int) < (l.length : Int) := by omega
        have hul : u < l.length := by omega
        have hw3 : IntKind.i64.wrap ((t : Int) - 1) = (u : Int) := by rw [IntKind.wrap_i64]; omega
        have hg : decide (0 < t) = true := decide_eq_true h0
        have hg2 : (0 : Int) < (t : Int) := by omega
        obtain ⟨b', off', e, -, p0, p1, p2⟩ := HH.out u hul
        simp only [Option.some.injEq, Addr.mk.injEq, and_true] at e
        obtain ⟨rfl, rfl⟩ := e
        have hblr : bb < W4.heap.size := Nat.lt_of_lt_of_le hbl B4.out.size
        have HNX : Hid (gB stoB owB l (t + 1) = owB (l[u]'hul) l[t]) := by
          show _ = _
          subst hu
          rw [gB_next hlt, HOK.out, HST.out]
          simp
        have HU := hideIt hu
        clear hu
        rw [HEM.out] at HNX
        have c0 := (B4.out.cell (p := ⟨bb, off + u * 3, none⟩) hbl).trans p0
        have c1 := (B4.out.cell (p := ⟨bb, off + u * 3 + 1, none⟩) hbl).trans p1
        generalize l[u]'hul = eu at *
        obtain ⟨pa, ps, pn⟩ := eu
        dsimp only at c0 c1
        clear p0 p1 p2 HH HEM HST HOK
        by_cases a1 : ea < pa
        · rw [show owB ⟨pa, ps, pn⟩ ⟨ea, es, en⟩ = false by unfold owB; simp only [Bool.or_eq_false_iff, Bool.and_eq_false_iff, decide_eq_false_iff_not]; omega] at HNX
          have HNO := hideIt (gB_out HNX.out)
          clear HNX
          go_upto_region 7 with fail
          go_quiet (fail)
          go_wp2
          go_ret
          exact ⟨by rw [HAL.out, HNO.out]; rfl, below_drewN B4.out _⟩
        by_cases a2 : pa = ea
        · subst a2
          by_cases a3 : es ≤ ps
          · rw [show owB ⟨pa, ps, pn⟩ ⟨pa, es, en⟩ = false by unfold owB; simp only [Bool.or_eq_false_iff, Bool.and_eq_false_iff, decide_eq_false_iff_not]; omega] at HNX
            have HNO := hideIt (gB_out HNX.out)
            clear HNX
            go_upto_region 7 with fail
            go_quiet (fail)
            go_wp2
            go_ret
            exact ⟨by rw [HAL.out, HNO.out]; rfl, below_drewN B4.out _⟩
          · rw [show owB ⟨pa, ps, pn⟩ ⟨pa, es, en⟩ = true by unfold owB; simp; omega] at HNX
            go_upto_region 7 with fail
            go_quiet (fail)
            go_wp2
            go_roundw
            case rel => exact ⟨t + 1, by go_num, by omega, hideIt ⟨HNX.out, below_drewN B4.out _⟩⟩
            case measure => simp [intOf]; omega
        · rw [show owB ⟨pa, ps, pn⟩ ⟨ea, es, en⟩ = true by unfold owB; simp; omega] at HNX
          go_upto_region 7 with fail
          go_quiet (fail)
          go_wp2
          go_roundw
          case rel => exact ⟨t + 1, by go_num, by omega, hideIt ⟨HNX.out, below_drewN B4.out _⟩⟩
          case measure => simp [intOf]; omega
    · have hltI : ¬ (t : Int) < (l.length : Int) := by omega
      have het : t = l.length := by omega
      have HF : Hid (owedB l = true) := by
        show _ = _
        rw [HAL.out, ← het, HR.out.1]
      have HB := hideIt HR.out.2
      clear HR HH het
      go_wp2
      go_ret
      exact ⟨by rw [HF.out]; rfl, HB.out⟩
end Go.Proofs.Ytgnmghcdfihmgaa
