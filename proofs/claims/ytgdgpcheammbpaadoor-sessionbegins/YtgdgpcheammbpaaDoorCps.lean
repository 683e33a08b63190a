/- The document's copies. -/
import Derived.Test.YtgdgpcheammbpaaDoorSam
namespace Go.Proofs.YtgdgpcheammbpaaDoor
open Go.RowKit
set_option linter.all false
/-- An append to nothing. -/
theorem app0 {α : Type} {k bytes : Nat} {enc : α → List Value} {t e : TypeId} {z : Value} (hk : ∀ x, (enc x).length = k) (h1 : ∀ x, ∀ u ∈ enc x, u.oneCell' = true) (ht : Tryd.prog.underlying t = some (.slice e))
    (hi : (Tryd.prog.info? e).map (fun i => (i.zero, i.size, i.bytes)) = some (some z, k, bytes)) (hz : z.cells.size = k) (hk0 : 0 < k) (hb0 : 8 ≤ bytes) (W : World) (g : Value) (l : List α) (hg : SGot k bytes enc W g l) :
    ∃ a' c' w', (Builtin.append_ #[t, t] t #[.slice none 0 0, g]).run Tryd.prog W = .ok (.slice a' l.length c') w' ∧ w'.ownsRow W.heap.size e k (.slice a' l.length c') l.length (celC enc l) ∧ Below W.heap.size W w' := by
  obtain ⟨v', w', hrun, how, hgr⟩ := appG (xs := []) hk h1 ht hi hz hk0 hb0 W W.heap.size (.slice none 0 0) g l (Nat.le_refl _) (own_nil _ _) hg (by have := hg.1; simpa using this)
  rw [List.nil_append] at how
  obtain ⟨a', c', rfl⟩ := own_len how
  exact ⟨a', c', w', hrun, how, grown_none hgr⟩
set_option maxHeartbeats 8000000 in
set_option maxRecDepth 100000 in
theorem copyAns_is (x : AnsX) (w : World) (h : AnsAt w x) : Calls Tryd.prog 24 #[.agg x.cs] w (AnsBack x.v w) := by
  have sa := h.a.1
  have sf := h.f.1
  have HH := hideIt h
  obtain ⟨⟨code, num, am, fl⟩, aa, ac, fa, fc⟩ := x
  simp only [AnsX.cs, AnsX.am, AnsX.fl] at sa sf ⊢
  have X0 := three_heap w (.cells #[.int .i64 code, .int .i64 num, .slice aa am.length ac, .slice fa fl.length fc] 44) (.cells #[.int .i64 0, .int .i64 0, .slice none 0 0, .slice none 0 0] 44) (.cells #[.int .i64 code, .int .i64 num, .slice none 0 0, .slice none 0 0] 44)
  have B0 := below3 w (.cells #[.int .i64 code, .int .i64 num, .slice aa am.length ac, .slice fa fl.length fc] 44) (.cells #[.int .i64 0, .int .i64 0, .slice none 0 0, .slice none 0 0] 44) (.cells #[.int .i64 code, .int .i64 num, .slice none 0 0, .slice none 0 0] 44)
  have HS := hideIt (And.intro sa sf)
  clear sa sf h
  go_enter Tryd.func24, Tryd.ntmps24
  go_upto_region 2 with fail
  generalize ((w.alloc (.cells #[.int .i64 code, .int .i64 num, .slice aa am.length ac, .slice fa fl.length fc] 44)).alloc (.cells #[.int .i64 0, .int .i64 0, .slice none 0 0, .slice none 0 0] 44)).alloc (.cells #[.int .i64 code, .int .i64 num, .slice none 0 0, .slice none 0 0] 44) = W0 at *
  obtain ⟨x0, x1, x2, xs⟩ := X0
  have hA := (HH.out.keep B0).a
  simp only [AnsX.am] at hA
  obtain ⟨a1, c1, w1, hrun, how, hb⟩ := app0 (enc := amE) (t := 41) amK am1 Tryd.underlying41 info55 rfl (by omega) (by omega) W0 _ am hA
  have HRUN := hideIt hrun
  have p0 := (hb.block w.heap.size (by omega)).trans x0
  have p1 := (hb.block (w.heap.size + 1) (by omega)).trans x1
  have p2 := (hb.block (w.heap.size + 1 + 1) (by omega)).trans x2
  have hb1 := below_via B0 hb
  have e2 := set1 (j := 2) (v := .slice a1 am.length c1) (cs' := #[.int .i64 code, .int .i64 num, .slice a1 am.length c1, .slice none 0 0]) p2 rfl
  have K1 := hideIt (And.intro (setOther (b := w.heap.size + 1 + 1) (j := 2) (.slice a1 am.length c1) p0 (by omega)) (And.intro (setOther (b := w.heap.size + 1 + 1) (j := 2) (.slice a1 am.length c1) p1 (by omega)) (And.intro e2 (And.intro (belowSet (j := 2) (.slice a1 am.length c1) hb1 (by omega : w.heap.size ≤ w.heap.size + 1 + 1)) (own_base (own_cell (j := 2) (u := .slice a1 am.length c1) how p2 (by decide)) (B' := w.heap.size) (by omega))))))
  obtain ⟨-, -, y2, -, -, -, -, -, yz⟩ := four_at x0
  obtain ⟨-, -, z2, -, -, -, -, -, zz⟩ := four_at x2
  obtain ⟨-, -, k2, -, -, -, f2, -, kz⟩ := four_at p2
  clear hrun how hb p0 p1 p2 hb1 e2 hA x0 x1 x2 xs B0
  have nP : w.heap.size + 1 + 1 ≠ w.heap.size := by omega
  have nP2 : w.heap.size ≠ w.heap.size + 1 + 1 := by omega
  go_upto_region 3 with (at_builtin; refine Lib.wpList_append_run _ rfl _ _ _ _ rfl _ _ rfl rfl _ _ HRUN.out ?_)
  clear HRUN y2 yz z2 zz k2 f2 kz
  generalize w1.setCell ⟨w.heap.size + 1 + 1, 2, none⟩ (.slice a1 am.length c1) = W1 at *
  have hF := (HH.out.keep K1.out.2.2.2.1).f
  simp only [AnsX.fl] at hF
  obtain ⟨a2, c2, w2, hrun, how, hb⟩ := app0 (enc := filE) (t := 42) filK fil1 Tryd.underlying42 info81 rfl (by omega) (by omega) W1 _ fl hF
  have HRUN := hideIt hrun
  have x0 := K1.out.1
  have x1 := K1.out.2.1
  have x2 := K1.out.2.2.1
  have p1 := (hb.block (w.heap.size + 1) (Array.getElem?_eq_some_iff.1 x1).1).trans x1
  have p2 := (hb.block (w.heap.size + 1 + 1) (Array.getElem?_eq_some_iff.1 x2).1).trans x2
  have hb1 := below_via K1.out.2.2.2.1 hb
  have e2 := set1 (j := 3) (v := .slice a2 fl.length c2) (cs' := #[.int .i64 code, .int .i64 num, .slice a1 am.length c1, .slice a2 fl.length c2]) p2 rfl
  have K2 := hideIt (And.intro (setOther (b := w.heap.size + 1 + 1) (j := 3) (.slice a2 fl.length c2) p1 (by omega)) (And.intro e2 (And.intro (belowSet (j := 3) (.slice a2 fl.length c2) hb1 (by omega : w.heap.size ≤ w.heap.size + 1 + 1)) (And.intro (own_cell (j := 3) (u := .slice a2 fl.length c2) (own_keep K1.out.2.2.2.2 hb) p2 (by decide)) (own_base (own_cell (j := 3) (u := .slice a2 fl.length c2) how p2 (by decide)) (B' := w.heap.size) K1.out.2.2.2.1.size)))))
  obtain ⟨-, -, -, y3, -, -, -, -, yz⟩ := four_at x0
  obtain ⟨-, -, -, z3, -, -, -, -, zz⟩ := four_at x2
  obtain ⟨-, -, -, k3, -, -, -, f3, kz⟩ := four_at p2
  clear hrun how hb p1 p2 hb1 e2 hF x0 x1 x2 K1
  go_upto_region 4 with (at_builtin; refine Lib.wpList_append_run _ rfl _ _ _ _ rfl _ _ rfl rfl _ _ HRUN.out ?_)
  clear HRUN y3 yz z3 zz k3 f3 kz
  generalize w2.setCell ⟨w.heap.size + 1 + 1, 3, none⟩ (.slice a2 fl.length c2) = W2 at *
  have KP := hideIt (put4 W2 (w.heap.size + 1) 44 (.int .i64 code) (.int .i64 num) (.slice a1 am.length c1) (.slice a2 fl.length c2) K2.out.1)
  obtain ⟨y0, y1, y2, y3, -, -, -, -, yz⟩ := four_at K2.out.2.1
  obtain ⟨z0, z1, z2, z3, f0, f1, f2, f3, zz⟩ := four_at K2.out.1
  have nQ : w.heap.size + 1 ≠ w.heap.size + 1 + 1 := by omega
  go_wp2
  have k4 := four_at KP.out
  exact bodyPost_ret (v := .agg #[.int .i64 code, .int .i64 num, .slice a1 am.length c1, .slice a2 fl.length c2]) (by simp [results, Tryd.results24, go_sem, k4.1, k4.2.1, k4.2.2.1, k4.2.2.2.1]) rfl
    ⟨⟨⟨code, num, am, fl⟩, a1, c1, a2, c2⟩, rfl, rfl, ⟨own_put4 _ _ _ _ K2.out.2.2.2.1 K2.out.1 (by decide), own_put4 _ _ _ _ K2.out.2.2.2.2 K2.out.1 (by decide), HS.out.1, HS.out.2⟩, belowSet _ (belowSet _ (belowSet _ (belowSet _ K2.out.2.2.1 (by omega)) (by omega)) (by omega)) (by omega)⟩
set_option maxHeartbeats 8000000 in
set_option maxRecDepth 100000 in
theorem copyS_is (v : Value) (l : List SesX) (w : World) (h : Sess w v l) : Calls Tryd.prog 18 #[v] w (SesLBack (l.map SesX.v) w) := by
  have HA := hideIt (fun (t : Nat) (ht : t < l.length) W (hW : Below w.heap.size w W) => copyAns_is l[t].x W ((h.ans l[t] (List.getElem_mem ht)).keep hW))
  obtain ⟨a, c, rfl, h8, hr⟩ := h.seven
  have HH := hideIt hr
  clear hr h
  go_enter Tryd.func18, Tryd.ntmps18
  go_wp2
  go_loopw [3, 4] (fun u x wr => ∃ t : Nat, x = .int .i64 t ∧ t ≤ l.length ∧ ∃ ys : List SesX, Hid (ys.map SesX.v = (l.take t).map SesX.v ∧ SesOwn w.heap.size wr u ys ∧ Below w.heap.size w wr)) (fun _ x _ => l.length - (intOf x).toNat)
  case atStart => exact ⟨0, rfl, Nat.zero_le _, [], hideIt ⟨rfl, SesOwn.nil _ _, Below.refl _ _⟩⟩
  case round =>
    obtain ⟨t, rfl, ht, ys, HR⟩ := hrel
    by_cases hlt : t < l.length
    · have hltI : (t : Int) < (l.length : Int) := by omega
      have ht0 : (0 : Int) ≤ (t : Int) := by omega
      have hyl : ys.length = t := by
        have := congrArg List.length HR.out.1
        simp at this
        omega
      obtain ⟨b, off, rfl, hbl, q0, q1, q2, q3, q4, q5, q6⟩ := HH.out t hlt
      have hB := HR.out.2.2
      have c0 := (hB.cell (p := ⟨b, off + t * 7, none⟩) hbl).trans q0
      have c1 := (hB.cell (p := ⟨b, off + t * 7 + 1, none⟩) hbl).trans q1
      have c2 := (hB.cell (p := ⟨b, off + t * 7 + 2, none⟩) hbl).trans q2
      have c3 := (hB.cell (p := ⟨b, off + t * 7 + 3, none⟩) hbl).trans q3
      have c4 := (hB.cell (p := ⟨b, off + t * 7 + 4, none⟩) hbl).trans q4
      have c5 := (hB.cell (p := ⟨b, off + t * 7 + 5, none⟩) hbl).trans q5
      have c6 := (hB.cell (p := ⟨b, off + t * 7 + 6, none⟩) hbl).trans q6
      have hblr : b < wr.heap.size := Nat.lt_of_lt_of_le hbl hB.size
      have HT : Hid ((l.take (t + 1)).map SesX.v = (l.take t).map SesX.v ++ [l[t].v]) := by
        show _ = _
        rw [List.take_succ_eq_append_getElem hlt, List.map_append]
        rfl
      have HC := hideIt (HA.out t hlt)
      clear q0 q1 q2 q3 q4 q5 q6 HH HA hB hbl
      generalize l[t] = s at *
      obtain ⟨sc, sq, sd, ⟨⟨code, num, am, fl⟩, aa, ac, fa, fc⟩⟩ := s
      simp only [AnsX.am, AnsX.fl, AnsX.cs, SesX.v] at c0 c1 c2 c3 c4 c5 c6 HC HT
      have hb1 := below1 wr (.cells #[.int .i64 sc, .int .i64 sq, .bool sd, .int .i64 code, .int .i64 num, .slice aa am.length ac, .slice fa fl.length fc] 69)
      have HB1 := hideIt (And.intro hb1 (below_via HR.out.2.2 hb1))
      clear hb1
      have HC2 : Hid (∀ W, Below w.heap.size w W → Calls Tryd.prog 24 #[.agg #[.int .i64 code, .int .i64 num, .slice aa am.length ac, .slice fa fl.length fc]] W fun e w' => ∃ a1 c1 a2 c2, e = .returned (.agg #[.int .i64 code, .int .i64 num, .slice a1 am.length c1, .slice a2 fl.length c2]) ∧ Hid (AnsOwn W.heap.size w' ⟨⟨code, num, am, fl⟩, a1, c1, a2, c2⟩ ∧ Below W.heap.size W w')) := by
        intro W hW
        refine (HC.out W hW).mono ?_
        rintro e w' ⟨⟨yv, b1, d1, b2, d2⟩, rfl, hv, ho, hb⟩
        dsimp only at hv
        subst hv
        exact ⟨b1, d1, b2, d2, rfl, ho, hb⟩
      clear HC
      have HKb := hideIt (heap_alloc_new wr (.cells #[.int .i64 sc, .int .i64 sq, .bool sd, .int .i64 code, .int .i64 num, .slice aa am.length ac, .slice fa fl.length fc] 69))
      have e0' := (HB1.out.1.cell (p := ⟨b, off + t * 7 + 3, none⟩) hblr).trans c3
      have e1' := (HB1.out.1.cell (p := ⟨b, off + t * 7 + 4, none⟩) hblr).trans c4
      have e2' := (HB1.out.1.cell (p := ⟨b, off + t * 7 + 5, none⟩) hblr).trans c5
      have e3' := (HB1.out.1.cell (p := ⟨b, off + t * 7 + 6, none⟩) hblr).trans c6
      have hblr2 : b < (wr.alloc (.cells #[.int .i64 sc, .int .i64 sq, .bool sd, .int .i64 code, .int .i64 num, .slice aa am.length ac, .slice fa fl.length fc] 69)).heap.size := Nat.lt_of_lt_of_le hblr HB1.out.1.size
      go_upto_region 6 with fail
      have HRW := hideIt HB1.out.2
      have HWR := hideIt HB1.out.1
      clear c0 c1 c2 c3 c4 c5 c6 HB1
      generalize wr.alloc (.cells #[.int .i64 sc, .int .i64 sq, .bool sd, .int .i64 code, .int .i64 num, .slice aa am.length ac, .slice fa fl.length fc] 69) = W at *
      go_wp2_with fail
      refine (HC2.out _ HRW.out).mono ?_
      rintro e w1 ⟨a1, d1, a2, d2, rfl, ho⟩
      dsimp only
      have hbo := ho.out.2
      have p0 := (hbo.block wr.heap.size (Array.getElem?_eq_some_iff.1 HKb.out).1).trans HKb.out
      have s3 := set1 (j := 3) (v := .int .i64 code) (cs' := #[.int .i64 sc, .int .i64 sq, .bool sd, .int .i64 code, .int .i64 num, .slice aa am.length ac, .slice fa fl.length fc]) p0 rfl
      have s4 := set1 (j := 4) (v := .int .i64 num) (cs' := #[.int .i64 sc, .int .i64 sq, .bool sd, .int .i64 code, .int .i64 num, .slice aa am.length ac, .slice fa fl.length fc]) s3 rfl
      have s5 := set1 (j := 5) (v := .slice a1 am.length d1) (cs' := #[.int .i64 sc, .int .i64 sq, .bool sd, .int .i64 code, .int .i64 num, .slice a1 am.length d1, .slice fa fl.length fc]) s4 rfl
      have s6 := set1 (j := 6) (v := .slice a2 fl.length d2) (cs' := #[.int .i64 sc, .int .i64 sq, .bool sd, .int .i64 code, .int .i64 num, .slice a1 am.length d1, .slice a2 fl.length d2]) s5 rfl
      have yO := ho.out.1.base (B' := w.heap.size) HRW.out.size
      have hB4 := belowSet (j := 6) (.slice a2 fl.length d2) (belowSet (j := 5) (.slice a1 am.length d1) (belowSet (j := 4) (.int .i64 num) (belowSet (j := 3) (.int .i64 code) (below_via HWR.out hbo) (Nat.le_refl _)) (Nat.le_refl _)) (Nat.le_refl _)) (Nat.le_refl _)
      have yO4 := (((yO.set (j := 3) (u := .int .i64 code) p0 (by decide) (by decide)).set (j := 4) (u := .int .i64 num) s3 (by decide) (by decide)).set (j := 5) (u := .slice a1 am.length d1) s4 (by decide) (by decide)).set (j := 6) (u := .slice a2 fl.length d2) s5 (by decide) (by decide)
      have HB4 := hideIt hB4
      have HY4 := hideIt yO4
      have HS6 := hideIt s6
      obtain ⟨⟨g0, g1, g2, g3, g4, g5, g6⟩, ⟨-, -, -, f3, f4, f5, f6⟩, kz⟩ := seven_at p0
      clear p0 s3 s4 s5 s6 yO hB4 yO4 hbo ho HKb
      go_upto_region 7 with fail
      clear g0 g1 g2 g3 g4 g5 g6 f3 f4 f5 f6 kz e0' e1' e2' e3' hblr2 HC2 HRW HWR
      generalize (((w1.setCell ⟨wr.heap.size, 3, none⟩ (.int .i64 code)).setCell ⟨wr.heap.size, 4, none⟩ (.int .i64 num)).setCell ⟨wr.heap.size, 5, none⟩ (.slice a1 am.length d1)).setCell ⟨wr.heap.size, 6, none⟩ (.slice a2 fl.length d2) = W4 at *
      obtain ⟨⟨g0, g1, g2, g3, g4, g5, g6⟩, -, kz⟩ := seven_at HS6.out
      have hb3 := below1 W4 (.cells #[.int .i64 sc, .int .i64 sq, .bool sd, .int .i64 code, .int .i64 num, .slice a1 am.length d1, .slice a2 fl.length d2] 69)
      have hO := (HR.out.2.1.keep HB4.out).keep hb3
      have hY := HY4.out.keep hb3
      have hbw := below_via HR.out.2.2 HB4.out
      obtain ⟨v', w', hrun, how, hgr⟩ := app1 (enc := sesE) (t := 32) sesK ses1 Tryd.underlying32 info69 rfl (by omega) (W4.alloc (.cells #[.int .i64 sc, .int .i64 sq, .bool sd, .int .i64 code, .int .i64 num, .slice a1 am.length d1, .slice a2 fl.length d2] 69)) w.heap.size u3 ys ⟨sc, sq, sd, ⟨⟨code, num, am, fl⟩, a1, d1, a2, d2⟩⟩ W4.heap.size 1 (Nat.le_trans hbw.size hb3.size) hO.row (heap_alloc_new W4 _) (by omega) (by unfold maxLen; omega)
      have hN := hO.app hY how hgr (by omega)
      have HN : Hid ((ys ++ [SesX.mk sc sq sd (AnsX.mk (AnsV.mk code num am fl) a1 d1 a2 d2)]).map SesX.v = (l.take (t + 1)).map SesX.v ∧ SesOwn w.heap.size w' v' (ys ++ [SesX.mk sc sq sd (AnsX.mk (AnsV.mk code num am fl) a1 d1 a2 d2)]) ∧ Below w.heap.size w w') := ⟨by rw [List.map_append, HR.out.1, HT.out]; rfl, hN, grown_own hgr hO.row (Nat.le_refl _) (below_via hbw hb3)⟩
      have HRUN := hideIt hrun
      clear hrun how hgr hN hO hY hb3 hbw HT HR HB4 HY4 HS6
      go_wp2_with (at_builtin; refine Lib.wpList_append_run _ rfl _ _ _ _ rfl _ _ rfl rfl _ _ HRUN.out ?_)
      clear HRUN
      go_wp2
      go_roundw
      case rel => exact ⟨t + 1, by go_num, by omega, _, HN⟩
      case measure => simp [intOf]; omega
    · have hltI : ¬ (t : Int) < (l.length : Int) := by omega
      have hE : l.take t = l := List.take_of_length_le (by omega)
      have HG := hideIt HR.out
      rw [hE] at HG
      obtain ⟨va, vc, hv⟩ := own_len HG.out.2.1.row
      have hyl : ys.length = (l.map SesX.v).length := by rw [← HG.out.1, List.length_map]
      clear HR HH hE HA
      rw [hv] at HG ⊢
      rw [hyl] at HG ⊢
      clear hv hyl
      go_wp2
      go_ret
      exact ⟨va, vc, ys, by simp, HG.out.1, HG.out.2.1, HG.out.2.2⟩
end Go.Proofs.YtgdgpcheammbpaaDoor
