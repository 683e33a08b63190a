/- Sessions: last. -/
import Derived.Test.YtilinemcmgjiiaaDoorChs
namespace Go.Proofs.YtilinemcmgjiiaaDoor
open Go.RowKit
set_option linter.all false
/-- A client's session. -/
def lastX (l : List SesX) (c : Int) : SesX := match l.find? (fun s => s.c == c) with | some s => s | none => ⟨c, 0, true, zAnsX⟩
theorem last_hit {l : List SesX} {t : Nat} {c : Int} (h : t < l.length) (hp : (l[t].c == c) = true) : lastX (l.drop t) c = l[t] := by
  unfold lastX
  rw [List.drop_eq_getElem_cons h, List.find?_cons_of_pos (p := fun s : SesX => s.c == c) hp]
theorem last_miss {l : List SesX} {t : Nat} {c : Int} (h : t < l.length) (hp : (l[t].c == c) = false) : lastX (l.drop t) c = lastX (l.drop (t + 1)) c := by
  unfold lastX
  rw [List.drop_eq_getElem_cons h, List.find?_cons_of_neg (p := fun s : SesX => s.c == c) (by simp [hp])]
theorem last_at {l : List SesX} {w : World} (h : ∀ s ∈ l, AnsAt w s.x) (c : Int) : AnsAt w (lastX l c).x := by
  unfold lastX
  cases hf : l.find? (fun s => s.c == c) with
  | none => exact zAt w
  | some s => exact h s (List.mem_of_find?_eq_some hf)
set_option maxHeartbeats 8000000 in
set_option maxRecDepth 100000 in
theorem last_is (v : Value) (l : List SesX) (c : Int) (w : World) (h : Sess w v l) : Calls Tryd.prog 64 #[v, .int .i64 c] w fun e w' => e = .returned (.agg (sesE (lastX l c)).toArray) ∧ Below w.heap.size w w' := by
  obtain ⟨a, cc, rfl, h8, hr⟩ := h.seven
  have HH := hideIt hr
  have HX0 := hideIt (And.intro (heap_alloc_new w (.cells #[.int .i64 0, .int .i64 0, .bool false, .int .i64 0, .int .i64 0, .slice none 0 0, .slice none 0 0] 133)) (below1 w (.cells #[.int .i64 0, .int .i64 0, .bool false, .int .i64 0, .int .i64 0, .slice none 0 0, .slice none 0 0] 133)))
  have HE : Hid (lastX l c = lastX (l.drop 0) c) := by
    show _ = _
    rw [List.drop_zero]
  clear hr h
  generalize lastX l c = R at *
  go_enter Tryd.func64, Tryd.ntmps64
  go_wp2
  go_loopw [9] (fun x wr => ∃ t : Nat, x = .int .i64 t ∧ t ≤ l.length ∧ Hid (R = lastX (l.drop t) c ∧ wr.heap[w.heap.size]? = some (.cells #[.int .i64 0, .int .i64 0, .bool false, .int .i64 0, .int .i64 0, .slice none 0 0, .slice none 0 0] 133 (0, 0)) ∧ Below w.heap.size w wr)) (fun x _ => l.length - (intOf x).toNat)
  case atStart => exact ⟨0, rfl, Nat.zero_le _, hideIt ⟨HE.out, HX0.out.1, HX0.out.2⟩⟩
  case round =>
    clear HE HX0
    obtain ⟨t, rfl, ht, HR⟩ := hrel
    by_cases hlt : t < l.length
    · have hltI : (t : Int) < (l.length : Int) := by omega
      have ht0 : (0 : Int) ≤ (t : Int) := by omega
      have hB := HR.out.2.2
      obtain ⟨b, off, rfl, hbl, q0, q1, q2, q3, q4, q5, q6⟩ := HH.out t hlt
      have c0 := (hB.cell (p := ⟨b, off + t * 7, none⟩) hbl).trans q0
      have c1 := (hB.cell (p := ⟨b, off + t * 7 + 1, none⟩) hbl).trans q1
      have c2 := (hB.cell (p := ⟨b, off + t * 7 + 2, none⟩) hbl).trans q2
      have c3 := (hB.cell (p := ⟨b, off + t * 7 + 3, none⟩) hbl).trans q3
      have c4 := (hB.cell (p := ⟨b, off + t * 7 + 4, none⟩) hbl).trans q4
      have c5 := (hB.cell (p := ⟨b, off + t * 7 + 5, none⟩) hbl).trans q5
      have c6 := (hB.cell (p := ⟨b, off + t * 7 + 6, none⟩) hbl).trans q6
      have hblr : b < wr.heap.size := Nat.lt_of_lt_of_le hbl hB.size
      clear q0 q1 q2 q3 q4 q5 q6 hbl
      have hmiss := fun hp => HR.out.1.trans (last_miss (c := c) hlt hp)
      have hhit := fun hp => HR.out.1.trans (last_hit (c := c) hlt hp)
      have HM := hideIt hmiss
      have HI := hideIt hhit
      clear hmiss hhit HH hB
      generalize l[t] = s at *
      obtain ⟨sc, sq, sd, ⟨⟨code, num, am, fl⟩, aa, ac, fa, fc⟩⟩ := s
      simp only [AnsX.am, AnsX.fl] at c0 c1 c2 c3 c4 c5 c6
      dsimp only at HM HI
      have hb1 := below1 wr (.cells #[.int .i64 sc, .int .i64 sq, .bool sd, .int .i64 code, .int .i64 num, .slice aa am.length ac, .slice fa fl.length fc] 133)
      have p0 := (hb1.block _ (Array.getElem?_eq_some_iff.1 HR.out.2.1).1).trans HR.out.2.1
      have HB1 := hideIt (And.intro p0 (below_via HR.out.2.2 hb1))
      have hsz := (Array.getElem?_eq_some_iff.1 HR.out.2.1).1
      clear hb1 p0 HR
      cases hq : (sc == c)
      · have hqI : ¬ sc = c := by simpa using hq
        have HN := hideIt (HM.out hq)
        clear HM HI hq
        generalize am.length = n at *
        generalize fl.length = m at *
        go_wp2
        go_roundw
        case rel => exact ⟨t + 1, by go_num, by omega, hideIt ⟨HN.out, HB1.out.1, HB1.out.2⟩⟩
        case measure => simp [intOf]; omega
      · have hqI : sc = c := by simpa using hq
        have HN := hideIt (HI.out hq)
        clear HM HI hq
        subst hqI
        have p2 := heap_alloc_new wr (.cells #[.int .i64 sc, .int .i64 sq, .bool sd, .int .i64 code, .int .i64 num, .slice aa am.length ac, .slice fa fl.length fc] 133)
        have nP : wr.heap.size ≠ w.heap.size := by omega
        go_upto_region 5 with fail
        generalize wr.alloc (.cells #[.int .i64 sc, .int .i64 sq, .bool sd, .int .i64 code, .int .i64 num, .slice aa am.length ac, .slice fa fl.length fc] 133) = W at *
        generalize wr.heap.size = K at *
        have K2 := hideIt (put7 W w.heap.size 133 (.int .i64 sc) (.int .i64 sq) (.bool sd) (.int .i64 code) (.int .i64 num) (.slice aa am.length ac) (.slice fa fl.length fc) HB1.out.1)
        obtain ⟨⟨z0, z1, z2, z3, z4, z5, z6⟩, ⟨y0, y1, y2, y3, y4, y5, y6⟩, yz⟩ := seven_at HB1.out.1
        obtain ⟨⟨g0, g1, g2, g3, g4, g5, g6⟩, -, gz⟩ := seven_at p2
        clear p2 c0 c1 c2 c3 c4 c5 c6 hblr hsz
        go_wp2
        have k7 := seven_at K2.out
        have e7 : (sesE R).toArray = #[.int .i64 sc, .int .i64 sq, .bool sd, .int .i64 code, .int .i64 num, .slice aa am.length ac, .slice fa fl.length fc] := by
          rw [HN.out]
          rfl
        exact bodyPost_ret (v := .agg #[.int .i64 sc, .int .i64 sq, .bool sd, .int .i64 code, .int .i64 num, .slice aa am.length ac, .slice fa fl.length fc]) (by simp [results, Tryd.results64, go_sem, k7.1.1, k7.1.2.1, k7.1.2.2.1, k7.1.2.2.2.1, k7.1.2.2.2.2.1, k7.1.2.2.2.2.2.1, k7.1.2.2.2.2.2.2]) rfl
          ⟨by rw [e7], belowSet _ (belowSet _ (belowSet _ (belowSet _ (belowSet _ (belowSet _ (belowSet _ HB1.out.2 (by omega)) (by omega)) (by omega)) (by omega)) (by omega)) (by omega)) (by omega)⟩
    · have hltI : ¬ (t : Int) < (l.length : Int) := by omega
      have HG := hideIt HR.out
      rw [List.drop_eq_nil_of_le (by omega)] at HG
      clear HR HH
      have K2 := hideIt (put7 wr w.heap.size 133 (.int .i64 c) (.int .i64 0) (.bool true) (.int .i64 0) (.int .i64 0) (.slice none 0 0) (.slice none 0 0) HG.out.2.1)
      obtain ⟨⟨z0, z1, z2, z3, z4, z5, z6⟩, ⟨y0, y1, y2, y3, y4, y5, y6⟩, yz⟩ := seven_at HG.out.2.1
      go_wp2
      have k7 := seven_at K2.out
      have e7 : (sesE R).toArray = #[.int .i64 c, .int .i64 0, .bool true, .int .i64 0, .int .i64 0, .slice none 0 0, .slice none 0 0] := by
        rw [HG.out.1]
        rfl
      exact bodyPost_ret (v := .agg #[.int .i64 c, .int .i64 0, .bool true, .int .i64 0, .int .i64 0, .slice none 0 0, .slice none 0 0]) (by simp [results, Tryd.results64, go_sem, k7.1.1, k7.1.2.1, k7.1.2.2.1, k7.1.2.2.2.1, k7.1.2.2.2.2.1, k7.1.2.2.2.2.2.1, k7.1.2.2.2.2.2.2]) rfl
        ⟨by rw [e7], belowSet _ (belowSet _ (belowSet _ (belowSet _ (belowSet _ (belowSet _ (belowSet _ HG.out.2.2 (by omega)) (by omega)) (by omega)) (by omega)) (by omega)) (by omega)) (by omega)⟩
end Go.Proofs.YtilinemcmgjiiaaDoor
