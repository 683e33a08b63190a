/- The document's orders: may these be a side? -/
import Derived.Test.YtgnmghcdfihmgaaRAh
import Derived.Test.YtgnmghcdfihmgaaChk
import Derived.Test.YtgnmghcdfihmgaaCheck
import Derived.BigQuiet
namespace Go.Proofs.Ytgnmghcdfihmgaa
open Go.RowKit
set_option linter.all false
/-- The first of them, one by one. -/
def ordB (s nx : Int) (l : List OrdV) (t : Nat) : Bool := !((l.take t).any (strB nx)) && srtB (ahB s) (l.take t)
theorem srt_snoc {α : Type} (r : α → α → Bool) : ∀ (l : List α) (x y : α), srtB r (l ++ [x, y]) = (srtB r (l ++ [x]) && r x y)
  | [], x, y => by simp [srtB]
  | [z], x, y => by simp [srtB]
  | z :: u :: l, x, y => by
    have ih := srt_snoc r (u :: l) x y
    simp only [List.cons_append] at ih ⊢
    unfold srtB
    rw [ih, Bool.and_assoc]
theorem ordB_next {s nx : Int} {l : List OrdV} {t : Nat} (h : t + 1 < l.length) : ordB s nx l (t + 2) = (ordB s nx l (t + 1) && (!(strB nx l[t + 1]) && ahB s l[t] l[t + 1])) := by
  unfold ordB
  have e2 : l.take (t + 2) = l.take t ++ [l[t], l[t + 1]] := by
    rw [List.take_succ_eq_append_getElem h, List.take_succ_eq_append_getElem (show t < l.length by omega), List.append_assoc]
    rfl
  have e1 : l.take (t + 1) = l.take t ++ [l[t]] := by
    rw [List.take_succ_eq_append_getElem (show t < l.length by omega)]
  rw [e2, srt_snoc, ← e1, e1]
  simp only [List.any_append, List.any_cons, List.any_nil, Bool.or_false, Bool.not_or]
  cases (l.take t).any (strB nx) <;> cases strB nx l[t] <;> cases strB nx l[t + 1] <;> simp
theorem ordB_one {s nx : Int} {l : List OrdV} (h : 0 < l.length) : ordB s nx l 1 = !(strB nx l[0]) := by
  unfold ordB
  cases l with
  | nil => simp at h
  | cons x l => simp [srtB]
theorem ordB_str {s nx : Int} {l : List OrdV} {t : Nat} (h : t < l.length) (hs : strB nx l[t] = true) : ordB s nx l (t + 1) = false := by
  unfold ordB
  rw [List.take_succ_eq_append_getElem h, List.any_append]
  simp only [List.any_cons, hs, Bool.true_or, Bool.or_true, Bool.not_true, Bool.false_and]
theorem ordB_out {s nx : Int} {l : List OrdV} {t : Nat} (h : ordB s nx l t = false) : ordB s nx l l.length = false := by
  unfold ordB at *
  rw [List.take_of_length_le (Nat.le_refl _)]
  rw [Bool.and_eq_false_iff] at h ⊢
  rcases h with h | h
  · left
    simp only [Bool.not_eq_false', List.any_eq_true] at h ⊢
    obtain ⟨x, hx, he⟩ := h
    exact ⟨x, List.mem_of_mem_take hx, he⟩
  · right
    have hp : ∀ {l : List OrdV} (t : Nat), srtB (ahB s) l = true → srtB (ahB s) (l.take t) = true := by
      intro l
      induction l with
      | nil => intro t _; simp [srtB]
      | cons x l ih =>
        intro t h
        cases t with
        | zero => rfl
        | succ t =>
          cases l with
          | nil => simp [srtB]
          | cons y l =>
            cases t with
            | zero => rfl
            | succ t =>
              have h2 : ahB s x y = true ∧ srtB (ahB s) (y :: l) = true := by simpa [srtB] using h
              have := ih (t + 1) h2.2
              simp only [List.take_succ_cons] at this ⊢
              unfold srtB
              rw [h2.1, this]
              rfl
    cases hl : srtB (ahB s) l
    · rfl
    · rw [hp t hl] at h
      exact absurd h (by simp)
theorem ordB_all {s nx : Int} {l : List OrdV} (h : l.length ≤ 40) : sideB s nx l = ordB s nx l l.length := by
  unfold sideB ordB
  rw [List.take_of_length_le (Nat.le_refl _), decide_eq_true h]
  rfl
theorem four49 {w : World} {p : Nat} {a b c d : Value} (h : w.heap[p]? = some (.cells #[a, b, c, d] 38 (0, 0))) : w.cell? ⟨p, 0, none⟩ = some a ∧ w.cell? ⟨p, 1, none⟩ = some b ∧ w.cell? ⟨p, 2, none⟩ = some c ∧ w.cell? ⟨p, 3, none⟩ = some d ∧ p < w.heap.size :=
  ⟨by rw [cell_at h]; rfl, by rw [cell_at h]; rfl, by rw [cell_at h]; rfl, by rw [cell_at h]; rfl, (Array.getElem?_eq_some_iff.1 h).1⟩
theorem blkK {w w' : World} {k : Nat} {x : Obj} (h : w.heap[k]? = some x) (hb : Below w.heap.size w w') : w'.heap[k]? = some x := (hb.block _ (Array.getElem?_eq_some_iff.1 h).1).trans h
set_option maxHeartbeats 8000000 in
set_option maxRecDepth 100000 in
theorem rOrders_is (L : LaneV) (b a o : Value) (s : Int) (v : Value) (l : List OrdV) (w : World) (h : Ords w v l) (hn : 1 ≤ L.next ∧ L.next ≤ 1000001) : Calls Try.prog 65 #[laneV L b a o, .int .i64 s, v] w fun e w' => e = .returned (.bool (sideB s L.next l)) ∧ Below w.heap.size w w' := by
  have HW := hideIt (fun x lo hi W => rWithin_is x lo hi W)
  have HA := hideIt (fun x y W => rAhead_is s x y W)
  have HB1 := hideIt (below1 w (.cells (laneA L b a o) 25))
  have HX1 := hideIt (heap_alloc_new w (.cells (laneA L b a o) 25))
  obtain ⟨ad, c, rfl, h8, hr⟩ := h.ords
  have HH := hideIt hr
  clear hr h
  unfold laneV
  unfold laneA at *
  by_cases hl : 40 < l.length
  · have hlI : (40 : Int) < (l.length : Int) := by omega
    go_enter Try.func65, Try.ntmps65
    go_wp2
    go_ret
    exact ⟨by unfold sideB; rw [decide_eq_false (by omega)]; rfl, HB1.out⟩
  have hlI : ¬ (40 : Int) < (l.length : Int) := by omega
  have HAL := hideIt (ordB_all (s := s) (nx := L.next) (l := l) (by omega))
  have hwn : IntKind.i64.wrap (L.next - 1) = L.next - 1 := by rw [IntKind.wrap_i64]; omega
  go_enter Try.func65, Try.ntmps65
  go_upto_region 4 with fail
  generalize w.alloc (.cells #[.bool L.call, .int .i64 L.next, b, a, o] 25) = W1 at *
  go_loopw [7] (fun v wr => ∃ t : Nat, v = .int .i64 t ∧ t ≤ l.length ∧ Hid (ordB s L.next l t = true ∧ Below W1.heap.size W1 wr)) (fun v _ => l.length - (intOf v).toNat)
  case atStart => exact ⟨0, rfl, Nat.zero_le _, hideIt ⟨rfl, Below.refl _ _⟩⟩
  case round =>
    obtain ⟨t, rfl, ht, HR⟩ := hrel
    by_cases hlt : t < l.length
    · have hltI : (t : Int) < (l.length : Int) := by omega
      have ht0 : (0 : Int) ≤ (t : Int) := by omega
      have hw : IntKind.i64.wrap ((t : Int) + 1) = ((t + 1 : Nat) : Int) := by rw [IntKind.wrap_i64]; omega
      obtain ⟨bb, off, rfl, hbl, q0, q1, q2, q3⟩ := HH.out t hlt
      have hBw := below_via HB1.out HR.out.2
      have hblr : bb < wr.heap.size := Nat.lt_of_lt_of_le hbl hBw.size
      have c0 := (hBw.cell (p := ⟨bb, off + t * 4, none⟩) hbl).trans q0
      have c1 := (hBw.cell (p := ⟨bb, off + t * 4 + 1, none⟩) hbl).trans q1
      have c2 := (hBw.cell (p := ⟨bb, off + t * 4 + 2, none⟩) hbl).trans q2
      have c3 := (hBw.cell (p := ⟨bb, off + t * 4 + 3, none⟩) hbl).trans q3
      have HOK := hideIt HR.out.1
      have HBD := hideIt hBw
      have HX := hideIt (blkK HX1.out HR.out.2)
      have HB2 := hideIt HR.out.2
      clear q0 q1 q2 q3 hBw HR
      generalize hem : l[t] = em at *
      have HEM := hideIt hem
      clear hem
      have hb4 := below1 wr (.cells #[.int .i64 em.id, .int .i64 em.acc, .int .i64 em.price, .int .i64 em.left] 38)
      have E4 := hideIt (heap_alloc_new wr (.cells #[.int .i64 em.id, .int .i64 em.acc, .int .i64 em.price, .int .i64 em.left] 38))
      have X4 := hideIt (blkK HX.out hb4)
      have B4 := hideIt (below_via HBD.out hb4)
      have B14 := hideIt (below_via HB2.out hb4)
      clear hb4 HX HBD HB2
      go_upto_region 7 with fail
      clear c0 c1 c2 c3 hblr
      generalize wr.alloc (.cells #[.int .i64 em.id, .int .i64 em.acc, .int .i64 em.price, .int .i64 em.left] 38) = W4 at *
      generalize wr.heap.size = KE at *
      obtain ⟨d0, d1, d2, d3, dl⟩ := four49 E4.out
      have x1 : W4.cell? ⟨w.heap.size, 1, none⟩ = some (.int .i64 L.next) := by rw [cell_at X4.out]; rfl
      go_wp2_with fail
      refine (HW.out _ _ _ _).mono ?_
      rintro e wq ⟨rfl, hwq⟩
      replace hwq := hwq.symm
      subst hwq
      dsimp only
      cases h1 : wiB em.acc 1 8
      · have HST : Hid (strB L.next l[t] = true) := by
          show _ = _
          unfold strB
          rw [HEM.out, h1]
          rfl
        clear h1
        have HNO : Hid (ordB s L.next l l.length = false) := ordB_out (ordB_str hlt HST.out)
        go_wp2
        go_ret
        exact ⟨by rw [HAL.out, HNO.out]; rfl, B4.out⟩
      go_wp2_with fail
      refine (HW.out _ _ _ _).mono ?_
      rintro e wq ⟨rfl, hwq⟩
      replace hwq := hwq.symm
      subst hwq
      dsimp only
      cases h2 : wiB em.price 1 1000000
      · have HST : Hid (strB L.next l[t] = true) := by
          show _ = _
          unfold strB
          rw [HEM.out, h1, h2]
          rfl
        clear h1 h2
        have HNO : Hid (ordB s L.next l l.length = false) := ordB_out (ordB_str hlt HST.out)
        go_wp2
        go_ret
        exact ⟨by rw [HAL.out, HNO.out]; rfl, B4.out⟩
      go_wp2_with fail
      refine (HW.out _ _ _ _).mono ?_
      rintro e wq ⟨rfl, hwq⟩
      replace hwq := hwq.symm
      subst hwq
      dsimp only
      cases h3 : wiB em.left 1 1000000
      · have HST : Hid (strB L.next l[t] = true) := by
          show _ = _
          unfold strB
          rw [HEM.out, h1, h2, h3]
          rfl
        clear h1 h2 h3
        have HNO : Hid (ordB s L.next l l.length = false) := ordB_out (ordB_str hlt HST.out)
        go_wp2
        go_ret
        exact ⟨by rw [HAL.out, HNO.out]; rfl, B4.out⟩
      go_wp2_with fail
      refine (HW.out _ _ _ _).mono ?_
      rintro e wq ⟨rfl, hwq⟩
      replace hwq := hwq.symm
      subst hwq
      dsimp only
      cases h4 : wiB em.id 1 (L.next - 1)
      · have HST : Hid (strB L.next l[t] = true) := by
          show _ = _
          unfold strB
          rw [HEM.out, h1, h2, h3, h4]
          rfl
        clear h1 h2 h3 h4
        have HNO : Hid (ordB s L.next l l.length = false) := ordB_out (ordB_str hlt HST.out)
        go_wp2
        go_ret
        exact ⟨by rw [HAL.out, HNO.out]; rfl, B4.out⟩
      have HST : Hid (strB L.next l[t] = false) := by
        show _ = _
        unfold strB
        rw [HEM.out, h1, h2, h3, h4]
        rfl
      clear h1 h2 h3 h4 x1
      rcases Nat.eq_zero_or_pos t with h0 | h0
      · subst h0
        have HNX : Hid (ordB s L.next l 1 = true) := by
          show _ = _
          rw [ordB_one hlt, HST.out]
          rfl
        go_wp2
        go_roundw
        case rel => exact ⟨1, by go_num, by omega, hideIt ⟨HNX.out, B14.out⟩⟩
        case measure => simp [intOf]; omega
      · obtain ⟨u, hu⟩ : ∃ u, t = u + 1 := ⟨t - 1, by omega⟩
        have hu0 : (0 : Int) ≤ (u : Int) := by omega
        have hu1 : (u : Int) < (l.length : Int) := by omega
        have hul : u < l.length := by omega
        have hw3 : IntKind.i64.wrap ((t : Int) - 1) = (u : Int) := by rw [IntKind.wrap_i64]; omega
        have hg : decide (0 < t) = true := decide_eq_true h0
        have hg2 : (0 : Int) < (t : Int) := by omega
        obtain ⟨b', off', e, -, p0, p1, p2, p3⟩ := HH.out u hul
        simp only [Option.some.injEq, Addr.mk.injEq, and_true] at e
        obtain ⟨rfl, rfl⟩ := e
        have hblr : bb < W4.heap.size := Nat.lt_of_lt_of_le hbl B4.out.size
        have HNX : Hid (ordB s L.next l (t + 1) = ahB s (l[u]'hul) l[t]) := by
          show _ = _
          subst hu
          rw [ordB_next hlt, HOK.out, HST.out]
          simp
        have HU := hideIt hu
        clear hu
        rw [HEM.out] at HNX
        generalize l[u]'hul = en at *
        have HK : Hid (∀ W, Below W4.heap.size W4 W → W.cell? ⟨KE, 0, none⟩ = some (.int .i64 em.id) ∧ W.cell? ⟨KE, 1, none⟩ = some (.int .i64 em.acc) ∧ W.cell? ⟨KE, 2, none⟩ = some (.int .i64 em.price) ∧ W.cell? ⟨KE, 3, none⟩ = some (.int .i64 em.left) ∧ W.cell? ⟨bb, off + u * 4, none⟩ = some (.int .i64 en.id) ∧ W.cell? ⟨bb, off + u * 4 + 1, none⟩ = some (.int .i64 en.acc) ∧ W.cell? ⟨bb, off + u * 4 + 2, none⟩ = some (.int .i64 en.price) ∧ W.cell? ⟨bb, off + u * 4 + 3, none⟩ = some (.int .i64 en.left)) := fun W hW => ⟨(hW.cell (p := ⟨KE, 0, none⟩) dl).trans d0, (hW.cell (p := ⟨KE, 1, none⟩) dl).trans d1, (hW.cell (p := ⟨KE, 2, none⟩) dl).trans d2, (hW.cell (p := ⟨KE, 3, none⟩) dl).trans d3, ((below_via B4.out hW).cell (p := ⟨bb, off + u * 4, none⟩) hbl).trans p0, ((below_via B4.out hW).cell (p := ⟨bb, off + u * 4 + 1, none⟩) hbl).trans p1, ((below_via B4.out hW).cell (p := ⟨bb, off + u * 4 + 2, none⟩) hbl).trans p2, ((below_via B4.out hW).cell (p := ⟨bb, off + u * 4 + 3, none⟩) hbl).trans p3⟩
        have HC : Hid (∀ W, Below W4.heap.size W4 W → Calls Try.prog 77 #[.int .i64 s, .agg (ordE en).toArray, .agg (ordE em).toArray] W fun e w' => e = .returned (.bool (ahB s en em)) ∧ Below W4.heap.size W4 w' ∧ ((fun W => W.cell? ⟨KE, 0, none⟩ = some (.int .i64 em.id) ∧ W.cell? ⟨KE, 1, none⟩ = some (.int .i64 em.acc) ∧ W.cell? ⟨KE, 2, none⟩ = some (.int .i64 em.price) ∧ W.cell? ⟨KE, 3, none⟩ = some (.int .i64 em.left) ∧ W.cell? ⟨bb, off + u * 4, none⟩ = some (.int .i64 en.id) ∧ W.cell? ⟨bb, off + u * 4 + 1, none⟩ = some (.int .i64 en.acc) ∧ W.cell? ⟨bb, off + u * 4 + 2, none⟩ = some (.int .i64 en.price) ∧ W.cell? ⟨bb, off + u * 4 + 3, none⟩ = some (.int .i64 en.left)) w')) := fun W hW => (HA.out en em W).mono (fun e w' hx => ⟨hx.1, below_via hW hx.2, HK.out w' (below_via hW hx.2)⟩)
        unfold ordE at HC
        (try dsimp only at HC)
        have c9 := HK.out W4 (Below.refl _ _)
        have HBW := hideIt (Below.refl W4.heap.size W4)
        clear p0 p1 p2 p3 HA HK d0 d1 d2 d3 HH HEM
        go_upto_region 10 with fail
        go_cut [9] from 50 to 57 (fun v wx => v = .bool (ahB s en em) ∧ Below W4.heap.size W4 wx)
        case first =>
          obtain ⟨c0, c1, c2, c3, c4, c5, c6, c7⟩ := c9
          go_region_held3 (fun W => W.cell? ⟨KE, 0, none⟩ = some (.int .i64 em.id) ∧ W.cell? ⟨KE, 1, none⟩ = some (.int .i64 em.acc) ∧ W.cell? ⟨KE, 2, none⟩ = some (.int .i64 em.price) ∧ W.cell? ⟨KE, 3, none⟩ = some (.int .i64 em.left) ∧ W.cell? ⟨bb, off + u * 4, none⟩ = some (.int .i64 en.id) ∧ W.cell? ⟨bb, off + u * 4 + 1, none⟩ = some (.int .i64 en.acc) ∧ W.cell? ⟨bb, off + u * 4 + 2, none⟩ = some (.int .i64 en.price) ∧ W.cell? ⟨bb, off + u * 4 + 3, none⟩ = some (.int .i64 en.left)) (go_keep) (first | (go_at_call 77; refine (HC.out _ (by first | exact HBW.out | exact HBW.out.drew)).mono ?_; clear HC HBW; rintro e w5 ⟨rfl, hst, j0, j1, j2, j3, j4, j5, j6, j7⟩))
          all_goals go_wp2_with fail
          all_goals go_meet
          all_goals exact ⟨rfl, hst⟩
        case rest =>
        obtain ⟨rfl, hb⟩ := hcut
        have BX := hideIt (below_via B4.out hb)
        have BX1 := hideIt (below_via B14.out hb)
        clear c9 hb HC HBW
        cases hq : ahB s en em
        · rw [hq] at HNX
          have HNO := hideIt (ordB_out HNX.out)
          go_wp2
          go_ret
          exact ⟨by rw [HAL.out, HNO.out]; rfl, BX.out⟩
        · rw [hq] at HNX
          go_wp2
          go_roundw
          case rel => exact ⟨t + 1, by go_num, by omega, hideIt ⟨HNX.out, BX1.out⟩⟩
          case measure => simp [intOf]; omega
    · have hltI : ¬ (t : Int) < (l.length : Int) := by omega
      have het : t = l.length := by omega
      have HF : Hid (sideB s L.next l = true) := by
        show _ = _
        rw [HAL.out, ← het, HR.out.1]
      have HB := hideIt (below_via HB1.out HR.out.2)
      clear HR HH het
      go_wp2
      go_ret
      exact ⟨by rw [HF.out]; rfl, HB.out⟩
end Go.Proofs.Ytgnmghcdfihmgaa
