/- fresh.List at sessions; slices.Grow and slices.Concat at sessions. -/
import Derived.Test.YtilinemcmgjiiaaDoorAnw
namespace Go.Proofs.YtilinemcmgjiiaaDoor
open Go.RowKit
set_option linter.all false
/-- Sessions of the call's own come back. -/
def SesLBack (vs : List SesV) (w : World) (e : Ending) (w' : World) : Prop := ∃ a c ys, e = .returned (.slice a vs.length c) ∧ ys.map SesX.v = vs ∧ SesOwn w.heap.size w' (.slice a vs.length c) ys ∧ Below w.heap.size w w'
theorem SesOwn.app {B : Nat} {W w' : World} {u v' : Value} {ys : List SesX} {y : SesX} (h : SesOwn B W u ys) (hy : AnsOwn B W y.x) (how : w'.ownsRow B 133 7 v' (ys ++ [y]).length (celC sesE (ys ++ [y]))) (hgr : W.grownBy w' u.ownBlock) (hs : (ys.length + 1) * 88 ≤ 140737488355328) : SesOwn B w' v' (ys ++ [y]) := by
  refine ⟨how, fun s hs => ?_, by simpa using hs⟩
  rw [List.mem_append, List.mem_singleton] at hs
  rcases hs with hs | rfl
  · exact (h.ans s hs).kept hgr h.row (by decide) (by decide)
  · exact hy.kept hgr h.row (by decide) (by decide)
set_option maxHeartbeats 8000000 in
set_option maxRecDepth 100000 in
theorem list_is (v : Value) (l : List SesX) (w : World) (h : Sess w v l) : Calls Tryd.prog 66 #[v, .func (.func 67) #[] #[]] w (SesLBack (l.map SesX.v) w) := by
  have HA := hideIt (fun (t : Nat) (ht : t < l.length) W (hW : Below w.heap.size w W) => anew_is l[t] W ((h.ans l[t] (List.getElem_mem ht)).keep hW))
  obtain ⟨a, c, rfl, h8, hr⟩ := h.seven
  have HH := hideIt hr
  clear hr h
  go_enter Tryd.func66, Tryd.ntmps66
  go_wp2
  go_loopw [5, 10] (fun u x wr => ∃ t : Nat, x = .int .i64 t ∧ t ≤ l.length ∧ ∃ ys : List SesX, Hid (ys.map SesX.v = (l.take t).map SesX.v ∧ SesOwn w.heap.size wr u ys ∧ Below w.heap.size w wr)) (fun _ x _ => l.length - (intOf x).toNat)
  case atStart => exact ⟨0, rfl, Nat.zero_le _, [], hideIt ⟨rfl, SesOwn.nil _ _, Below.refl _ _⟩⟩
  case round =>
    obtain ⟨t, rfl, ht, ys, HR⟩ := hrel
    by_cases hlt : t < l.length
    · have hltI : (t : Int) < (l.length : Int) := by omega
      have ht0 : (0 : Int) ≤ (t : Int) := by omega
      have hyl : ys.length = t := by
        have := congrArg List.length HR.out.1
        simp at this
        omega
      obtain ⟨b, off, rfl, hbl, q0, q1, q2, q3, q4, q5, q6⟩ := HH.out t hlt
      have hB := HR.out.2.2
      have c0 := (hB.cell (p := ⟨b, off + t * 7, none⟩) hbl).trans q0
      have c1 := (hB.cell (p := ⟨b, off + t * 7 + 1, none⟩) hbl).trans q1
      have c2 := (hB.cell (p := ⟨b, off + t * 7 + 2, none⟩) hbl).trans q2
      have c3 := (hB.cell (p := ⟨b, off + t * 7 + 3, none⟩) hbl).trans q3
      have c4 := (hB.cell (p := ⟨b, off + t * 7 + 4, none⟩) hbl).trans q4
      have c5 := (hB.cell (p := ⟨b, off + t * 7 + 5, none⟩) hbl).trans q5
      have c6 := (hB.cell (p := ⟨b, off + t * 7 + 6, none⟩) hbl).trans q6
      have hblr : b < wr.heap.size := Nat.lt_of_lt_of_le hbl hB.size
      have HT : Hid ((l.take (t + 1)).map SesX.v = (l.take t).map SesX.v ++ [l[t].v]) := by
        show _ = _
        rw [List.take_succ_eq_append_getElem hlt, List.map_append]
        rfl
      have HC := hideIt (HA.out t hlt)
      clear q0 q1 q2 q3 q4 q5 q6 HH HA hB hbl
      generalize l[t] = s at *
      obtain ⟨sc, sq, sd, ⟨⟨code, num, am, fl⟩, aa, ac, fa, fc⟩⟩ := s
      simp only [AnsX.am, AnsX.fl, sesE, SesX.v] at c0 c1 c2 c3 c4 c5 c6 HC HT
      have hb1 := below1 wr (.cells #[.int .i64 sc, .int .i64 sq, .bool sd, .int .i64 code, .int .i64 num, .slice aa am.length ac, .slice fa fl.length fc] 133)
      have HB1 := hideIt (And.intro hb1 (below_via HR.out.2.2 hb1))
      clear hb1
      have HC2 : Hid (∀ W, Below w.heap.size w W → Calls Tryd.prog 67 #[.agg #[.int .i64 sc, .int .i64 sq, .bool sd, .int .i64 code, .int .i64 num, .slice aa am.length ac, .slice fa fl.length fc]] W fun e w' => ∃ a1 c1 a2 c2, e = .returned (.agg #[.int .i64 sc, .int .i64 sq, .bool sd, .int .i64 code, .int .i64 num, .slice a1 am.length c1, .slice a2 fl.length c2]) ∧ Hid (AnsOwn W.heap.size w' ⟨⟨code, num, am, fl⟩, a1, c1, a2, c2⟩ ∧ Below W.heap.size W w')) := by
        intro W hW
        refine (HC.out W hW).mono ?_
        rintro e w' ⟨⟨yc, yq, yd, ⟨yv, b1, d1, b2, d2⟩⟩, rfl, hv, ho, hb⟩
        simp only [SesX.v, SesV.mk.injEq] at hv
        obtain ⟨rfl, rfl, rfl, rfl⟩ := hv
        exact ⟨b1, d1, b2, d2, rfl, ho, hb⟩
      clear HC
      go_wp2_with fail
      refine (HC2.out _ HB1.out.2).mono ?_
      rintro e w1 ⟨a1, d1, a2, d2, rfl, ho⟩
      dsimp only
      have hb2 := below_via HB1.out.2 ho.out.2
      have k2 := below_via HB1.out.1 ho.out.2
      have hs2 := hb2.size
      have hb3 := below1 w1 (.cells #[.int .i64 sc, .int .i64 sq, .bool sd, .int .i64 code, .int .i64 num, .slice a1 am.length d1, .slice a2 fl.length d2] 133)
      have hw2 : w.heap.size ≤ (wr.alloc (.cells #[.int .i64 sc, .int .i64 sq, .bool sd, .int .i64 code, .int .i64 num, .slice aa am.length ac, .slice fa fl.length fc] 133)).heap.size := HB1.out.2.size
      have hO := (HR.out.2.1.keep k2).keep hb3
      have hY := (ho.out.1.base hw2).keep hb3
      obtain ⟨v', w', hrun, how, hgr⟩ := app1 (enc := sesE) (t := 109) sesK ses1 Tryd.underlying109 info69 rfl (by omega) (w1.alloc (.cells #[.int .i64 sc, .int .i64 sq, .bool sd, .int .i64 code, .int .i64 num, .slice a1 am.length d1, .slice a2 fl.length d2] 133)) w.heap.size u5 ys ⟨sc, sq, sd, ⟨⟨code, num, am, fl⟩, a1, d1, a2, d2⟩⟩ w1.heap.size 1 (Nat.le_trans hs2 hb3.size) hO.row (heap_alloc_new w1 _) (by omega) (by unfold maxLen; omega)
      have hN := hO.app hY how hgr (by omega)
      have HN : Hid ((ys ++ [SesX.mk sc sq sd (AnsX.mk (AnsV.mk code num am fl) a1 d1 a2 d2)]).map SesX.v = (l.take (t + 1)).map SesX.v ∧ SesOwn w.heap.size w' v' (ys ++ [SesX.mk sc sq sd (AnsX.mk (AnsV.mk code num am fl) a1 d1 a2 d2)]) ∧ Below w.heap.size w w') := ⟨by rw [List.map_append, HR.out.1, HT.out]; rfl, hN, grown_own hgr hO.row (Nat.le_refl _) (below_via hb2 hb3)⟩
      have HRUN := hideIt hrun
      clear hrun how hgr hN hO hY hw2 hb3 k2 hs2 hb2 ho HC2 HB1 HT HR c0 c1 c2 c3 c4 c5 c6
      generalize am.length = n at *
      generalize fl.length = m at *
      go_wp2_with (at_builtin; refine Lib.wpList_append_run _ rfl _ _ _ _ rfl _ _ rfl rfl _ _ HRUN.out ?_)
      clear HRUN
      go_wp2
      go_roundw
      case rel => exact ⟨t + 1, by go_num, by omega, _, HN⟩
      case measure => simp [intOf]; omega
    · have hltI : ¬ (t : Int) < (l.length : Int) := by omega
      have hE : l.take t = l := List.take_of_length_le (by omega)
      have HG := hideIt HR.out
      rw [hE] at HG
      obtain ⟨va, vc, hv⟩ := own_len HG.out.2.1.row
      have hyl : ys.length = (l.map SesX.v).length := by rw [← HG.out.1, List.length_map]
      clear HR HH hE HA
      rw [hv] at HG ⊢
      rw [hyl] at HG ⊢
      clear hv hyl
      go_wp2
      go_ret
      exact ⟨va, vc, ys, by simp, HG.out.1, HG.out.2.1, HG.out.2.2⟩
end Go.Proofs.YtilinemcmgjiiaaDoor
