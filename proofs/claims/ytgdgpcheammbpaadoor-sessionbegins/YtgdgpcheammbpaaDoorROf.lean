/- The document's of and put. -/
import Derived.Test.YtgdgpcheammbpaaDoorSam
import Derived.Test.YtgdgpcheammbpaaDoorLas
import Derived.Test.YtgdgpcheammbpaaDoorBegP
namespace Go.Proofs.YtgdgpcheammbpaaDoor
open Go.RowKit
set_option linter.all false
/-- A client's session, as the document has it. -/
def ofX (l : List SesX) (c : Int) : SesX × Bool := match l.find? (fun s => s.c == c) with | some s => (s, true) | none => (⟨0, 0, true, zAnsX⟩, false)
theorem of_hit {l : List SesX} {t : Nat} {c : Int} (h : t < l.length) (hp : (l[t].c == c) = true) : ofX (l.drop t) c = (l[t], true) := by
  unfold ofX
  rw [List.drop_eq_getElem_cons h, List.find?_cons_of_pos (p := fun s : SesX => s.c == c) hp]
theorem of_miss {l : List SesX} {t : Nat} {c : Int} (h : t < l.length) (hp : (l[t].c == c) = false) : ofX (l.drop t) c = ofX (l.drop (t + 1)) c := by
  unfold ofX
  rw [List.drop_eq_getElem_cons h, List.find?_cons_of_neg (p := fun s : SesX => s.c == c) (by simp [hp])]
theorem of_last (l : List SesX) (c : Int) : (ofX l c).1.q = (lastX l c).q ∧ (ofX l c).1.d = (lastX l c).d ∧ (ofX l c).1.x = (lastX l c).x ∧ ((ofX l c).2 = false → (lastX l c).d = true) := by
  unfold ofX lastX
  cases l.find? (fun s => s.c == c) with
  | none => exact ⟨rfl, rfl, rfl, fun _ => rfl⟩
  | some s => exact ⟨rfl, rfl, rfl, fun h => by cases h⟩
set_option maxHeartbeats 8000000 in
set_option maxRecDepth 100000 in
theorem of_is (v : Value) (l : List SesX) (c : Int) (w : World) (h : Sess w v l) : Calls Tryd.prog 40 #[v, .int .i64 c] w fun e w' => e = .returned (.tuple #[.agg (sesE (ofX l c).1).toArray, .bool (ofX l c).2]) ∧ Below w.heap.size w w' := by
  obtain ⟨a, cc, rfl, h8, hr⟩ := h.seven
  have HH := hideIt hr
  have HX0 := hideIt (And.intro (heap_alloc_new w (.cells #[.int .i64 0, .int .i64 0, .bool false, .int .i64 0, .int .i64 0, .slice none 0 0, .slice none 0 0] 69)) (below1 w (.cells #[.int .i64 0, .int .i64 0, .bool false, .int .i64 0, .int .i64 0, .slice none 0 0, .slice none 0 0] 69)))
  have HE : Hid (ofX l c = ofX (l.drop 0) c) := by
    show _ = _
    rw [List.drop_zero]
  clear hr h
  generalize ofX l c = R at *
  go_enter Tryd.func40, Tryd.ntmps40
  go_wp2
  go_loopw [6] (fun x wr => ∃ t : Nat, x = .int .i64 t ∧ t ≤ l.length ∧ Hid (R = ofX (l.drop t) c ∧ wr.heap[w.heap.size]? = some (.cells #[.int .i64 0, .int .i64 0, .bool false, .int .i64 0, .int .i64 0, .slice none 0 0, .slice none 0 0] 69 (0, 0)) ∧ Below w.heap.size w wr)) (fun x _ => l.length - (intOf x).toNat)
  case atStart => exact ⟨0, rfl, Nat.zero_le _, hideIt ⟨HE.out, HX0.out.1, HX0.out.2⟩⟩
  case round =>
    clear HE HX0
    obtain ⟨t, rfl, ht, HR⟩ := hrel
    by_cases hlt : t < l.length
    · have hltI : (t : Int) < (l.length : Int) := by omega
      have ht0 : (0 : Int) ≤ (t : Int) := by omega
      have hB := HR.out.2.2
      obtain ⟨b, off, rfl, hbl, q0, q1, q2, q3, q4, q5, q6⟩ := HH.out t hlt
      have c0 := (hB.cell (p := ⟨b, off + t * 7, none⟩) hbl).trans q0
      have c1 := (hB.cell (p := ⟨b, off + t * 7 + 1, none⟩) hbl).trans q1
      have c2 := (hB.cell (p := ⟨b, off + t * 7 + 2, none⟩) hbl).trans q2
      have c3 := (hB.cell (p := ⟨b, off + t * 7 + 3, none⟩) hbl).trans q3
      have c4 := (hB.cell (p := ⟨b, off + t * 7 + 4, none⟩) hbl).trans q4
      have c5 := (hB.cell (p := ⟨b, off + t * 7 + 5, none⟩) hbl).trans q5
      have c6 := (hB.cell (p := ⟨b, off + t * 7 + 6, none⟩) hbl).trans q6
      have hblr : b < wr.heap.size := Nat.lt_of_lt_of_le hbl hB.size
      clear q0 q1 q2 q3 q4 q5 q6
      have hmiss := fun hp => HR.out.1.trans (of_miss (c := c) hlt hp)
      have hhit := fun hp => HR.out.1.trans (of_hit (c := c) hlt hp)
      have HM := hideIt hmiss
      have HI := hideIt hhit
      clear hmiss hhit HH hB
      generalize l[t] = s at *
      obtain ⟨sc, sq, sd, ⟨⟨code, num, am, fl⟩, aa, ac, fa, fc⟩⟩ := s
      simp only [AnsX.am, AnsX.fl] at c0 c1 c2 c3 c4 c5 c6
      dsimp only at HM HI
      have HB1 := hideIt (And.intro HR.out.2.1 HR.out.2.2)
      have hsz := (Array.getElem?_eq_some_iff.1 HR.out.2.1).1
      clear HR
      cases hq : (sc == c)
      · have hqI : ¬ sc = c := by simpa using hq
        have HN := hideIt (HM.out hq)
        clear HM HI hq
        generalize am.length = n at *
        generalize fl.length = m at *
        go_wp2
        go_roundw
        case rel => exact ⟨t + 1, by go_num, by omega, hideIt ⟨HN.out, HB1.out.1, HB1.out.2⟩⟩
        case measure => simp [intOf]; omega
      · have hqI : sc = c := by simpa using hq
        have HN := hideIt (HI.out hq)
        clear HM HI hq
        subst hqI
        have nP : b ≠ w.heap.size := by omega
        have K2 := hideIt (put7 wr w.heap.size 69 (.int .i64 sc) (.int .i64 sq) (.bool sd) (.int .i64 code) (.int .i64 num) (.slice aa am.length ac) (.slice fa fl.length fc) HB1.out.1)
        obtain ⟨⟨z0, z1, z2, z3, z4, z5, z6⟩, ⟨y0, y1, y2, y3, y4, y5, y6⟩, yz⟩ := seven_at HB1.out.1
        go_wp2
        have k7 := seven_at K2.out
        have e8 : R.2 = true := by rw [HN.out]
        have e7 : (sesE R.1).toArray = #[.int .i64 sc, .int .i64 sq, .bool sd, .int .i64 code, .int .i64 num, .slice aa am.length ac, .slice fa fl.length fc] := by
          rw [HN.out]
          rfl
        exact bodyPost_ret (v := .tuple #[.agg #[.int .i64 sc, .int .i64 sq, .bool sd, .int .i64 code, .int .i64 num, .slice aa am.length ac, .slice fa fl.length fc], .bool true]) (by simp [results, Tryd.results40, go_sem, k7.1.1, k7.1.2.1, k7.1.2.2.1, k7.1.2.2.2.1, k7.1.2.2.2.2.1, k7.1.2.2.2.2.2.1, k7.1.2.2.2.2.2.2]) rfl
          ⟨by rw [e7, e8], belowSet _ (belowSet _ (belowSet _ (belowSet _ (belowSet _ (belowSet _ (belowSet _ HB1.out.2 (by omega)) (by omega)) (by omega)) (by omega)) (by omega)) (by omega)) (by omega)⟩
    · have hltI : ¬ (t : Int) < (l.length : Int) := by omega
      have HG := hideIt HR.out
      rw [List.drop_eq_nil_of_le (by omega)] at HG
      clear HR HH
      have K2 := hideIt (put7 wr w.heap.size 69 (.int .i64 0) (.int .i64 0) (.bool true) (.int .i64 0) (.int .i64 0) (.slice none 0 0) (.slice none 0 0) HG.out.2.1)
      obtain ⟨⟨z0, z1, z2, z3, z4, z5, z6⟩, ⟨y0, y1, y2, y3, y4, y5, y6⟩, yz⟩ := seven_at HG.out.2.1
      go_wp2
      have k7 := seven_at K2.out
      have e8 : R.2 = false := by rw [HG.out.1]; rfl
      have e7 : (sesE R.1).toArray = #[.int .i64 0, .int .i64 0, .bool true, .int .i64 0, .int .i64 0, .slice none 0 0, .slice none 0 0] := by
        rw [HG.out.1]
        rfl
      exact bodyPost_ret (v := .tuple #[.agg #[.int .i64 0, .int .i64 0, .bool true, .int .i64 0, .int .i64 0, .slice none 0 0, .slice none 0 0], .bool false]) (by simp [results, Tryd.results40, go_sem, k7.1.1, k7.1.2.1, k7.1.2.2.1, k7.1.2.2.2.1, k7.1.2.2.2.2.1, k7.1.2.2.2.2.2.1, k7.1.2.2.2.2.2.2]) rfl
        ⟨by rw [e7, e8], belowSet _ (belowSet _ (belowSet _ (belowSet _ (belowSet _ (belowSet _ (belowSet _ HG.out.2.2 (by omega)) (by omega)) (by omega)) (by omega)) (by omega)) (by omega)) (by omega)⟩
end Go.Proofs.YtgdgpcheammbpaaDoor
