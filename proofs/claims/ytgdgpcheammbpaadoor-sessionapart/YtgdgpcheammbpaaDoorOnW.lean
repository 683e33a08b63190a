/- SessionOnce, walked. -/
import Derived.Test.YtgdgpcheammbpaaDoorOnP
namespace Go.Proofs.YtgdgpcheammbpaaDoor
open Go.RowKit
set_option linter.all false
abbrev StepV := Int × Int × Bool × Int
def stpE (s : StepV) : List Value := [.int .i64 s.1, .int .i64 s.2.1, .bool s.2.2.1, .int .i64 s.2.2.2]
theorem stpK (s : StepV) : (stpE s).length = 4 := rfl
abbrev Stps (w : World) (v : Value) (l : List StepV) : Prop := SGot 4 32 stpE w v l
theorem SGot.stps {w : World} {v : Value} {l : List StepV} (h : Stps w v l) : ∃ a c, v = .slice a l.length c ∧ l.length * 32 ≤ 140737488355328 ∧ ∀ i (h : i < l.length), ∃ b off, a = some ⟨b, off, none⟩ ∧ b < w.heap.size ∧ w.cell? ⟨b, off + i * 4, none⟩ = some (.int .i64 (l[i]).1) ∧ w.cell? ⟨b, off + i * 4 + 1, none⟩ = some (.int .i64 (l[i]).2.1) ∧ w.cell? ⟨b, off + i * 4 + 2, none⟩ = some (.bool (l[i]).2.2.1) ∧ w.cell? ⟨b, off + i * 4 + 3, none⟩ = some (.int .i64 (l[i]).2.2.2) := by
  obtain ⟨h8, a, c, rfl, _, hr⟩ := h
  refine ⟨a, c, rfl, h8, fun i hi => ?_⟩
  obtain ⟨b, off, rfl, hlt, hc⟩ := hr (by omega)
  have g := celC_get stpK l i hi
  exact ⟨b, off, rfl, hlt, (hc (i * 4) (by omega)).trans (g 0 (by omega)), (hc (i * 4 + 1) (by omega)).trans (g 1 (by omega)), (hc (i * 4 + 2) (by omega)).trans (g 2 (by omega)), (hc (i * 4 + 3) (by omega)).trans (g 3 (by omega))⟩
theorem SesOwn.cell {B D j : Nat} {w : World} {v u : Value} {ys : List SesX} {cs : Array Value} (h : SesOwn B w v ys) (hd : w.heap[D]? = some (.cells cs 33 (0, 0))) : SesOwn B (w.setCell ⟨D, j, none⟩ u) v ys :=
  ⟨own_cell h.row hd (by decide), fun s hs => (h.ans s hs).set hd (by decide) (by decide), h.siz⟩
/-- The arrays and the sessions in memory. -/
structure ON (w : World) (v : Value) (vs : List SesV) (fr tl : Int → Int) (W : World) : Prop where
  a0 : W.heap[w.heap.size]? = some (.cells (A7 fr) 33 (0, 0))
  a1 : W.heap[w.heap.size + 1]? = some (.cells (A7 tl) 33 (0, 0))
  bel : Below w.heap.size w W
  ses : ∃ xs, xs.map SesX.v = vs ∧ Sess W v xs
  inv : OnI vs fr tl
theorem ON.keep {w W W' : World} {v : Value} {vs : List SesV} {fr tl : Int → Int} (h : ON w v vs fr tl W) (hb : Below W.heap.size W W') : ON w v vs fr tl W' :=
  ⟨(hb.block _ (Array.getElem?_eq_some_iff.1 h.a0).1).trans h.a0, (hb.block _ (Array.getElem?_eq_some_iff.1 h.a1).1).trans h.a1, below_via h.bel hb, by
    obtain ⟨xs, hx, hs⟩ := h.ses
    exact ⟨xs, hx, hs.keep hb⟩, h.inv⟩
theorem ON.slice {w W : World} {v : Value} {vs : List SesV} {fr tl : Int → Int} (h : ON w v vs fr tl W) : ∃ a n c, v = .slice a n c := by
  obtain ⟨xs, _, hs⟩ := h.ses
  obtain ⟨a, c, e⟩ := hs.row.slice
  exact ⟨a, _, c, e⟩
/-- End, at the sessions in memory. -/
theorem ON.fin {w W : World} {v : Value} {vs : List SesV} {fr tl : Int → Int} (h : ON w v vs fr tl W) (c q n : Int) : Calls Tryd.prog 15 #[v, .agg #[.int .i64 c, .int .i64 q], .agg #[.int .i64 0, .int .i64 n, .slice none 0 0, .slice none 0 0]] W fun e w' => ∃ a N cap, e = .returned (.tuple #[.slice a N cap, .int .i64 (endV vs (c, q) ⟨0, n, [], []⟩).2]) ∧ Hid (Below W.heap.size W w' ∧ ∃ ys, ys.map SesX.v = (endV vs (c, q) ⟨0, n, [], []⟩).1 ∧ SesOwn W.heap.size w' (.slice a N cap) ys) := by
  obtain ⟨xs, rfl, hs⟩ := h.ses
  refine (end_is v xs c q ⟨⟨0, n, [], []⟩, none, 0, none, 0⟩ W hs ⟨SGot.nil _ _ _ _ _ _ (Nat.zero_le _), SGot.nil _ _ _ _ _ _ (Nat.zero_le _)⟩).mono ?_
  rintro e w' ⟨a, cap, ys, rfl, hy, ho, hb⟩
  exact ⟨a, _, cap, rfl, hb, ys, hy, ho⟩
theorem ON.beg {w W : World} {v : Value} {vs : List SesV} {fr tl : Int → Int} (h : ON w v vs fr tl W) (c q : Int) : Calls Tryd.prog 16 #[v, .agg #[.int .i64 c, .int .i64 q]] W fun e w' => ∃ a N cap x0 a1 n1 c1 a2 n2 c2, e = .returned (.tuple #[.slice a N cap, .int .i64 (begV vs (c, q)).2.1, .agg #[.int .i64 x0, .int .i64 (begV vs (c, q)).2.2.1.num, .slice a1 n1 c1, .slice a2 n2 c2], .int .i64 (begV vs (c, q)).2.2.2]) ∧ Hid (Below W.heap.size W w' ∧ ∃ ys, ys.map SesX.v = (begV vs (c, q)).1 ∧ SesOwn W.heap.size w' (.slice a N cap) ys) := by
  obtain ⟨xs, rfl, hs⟩ := h.ses
  refine (begin_is v xs c q W hs).mono ?_
  rintro e w' ⟨a, cap, ys, ⟨xv, a1, c1, a2, c2⟩, rfl, hy, ho, hx, _, hb⟩
  dsimp only at hx
  rw [← hx]
  exact ⟨a, _, cap, _, a1, _, c1, a2, _, c2, rfl, hb, ys, hy, ho⟩
set_option maxHeartbeats 16000000 in
set_option maxRecDepth 100000 in
theorem once_walk (v : Value) (l : List StepV) (w : World) (h : Stps w v l) (hF : Forms w) : Calls Tryd.prog 5 #[v] w fun e w' => e = .returned (.bool true) ∧ Below w.heap.size w w' := by
  have HL := hideIt (fun W (hW : Below w.heap.size w W) => live_is W (hF.keep hW))
  obtain ⟨sa, sc, rfl, h8, hr⟩ := h.stps
  have HH := hideIt hr
  have HI : Hid (ON w (.slice none 0 0) [] (fun _ => 0) (fun _ => 0) ((w.alloc (.cells #[.int .i64 0, .int .i64 0, .int .i64 0, .int .i64 0, .int .i64 0, .int .i64 0, .int .i64 0] 33)).alloc (.cells #[.int .i64 0, .int .i64 0, .int .i64 0, .int .i64 0, .int .i64 0, .int .i64 0, .int .i64 0] 33))) := ⟨(two_heap w _ _).1, (two_heap w _ _).2.1, below2 w _ _, ⟨[], rfl, Sess.nil _⟩, OnI.start⟩
  clear hr h hF
  go_enter Tryd.func5, Tryd.ntmps5
  go_wp2
  go_loopw [3, 6] (fun u x wr => ∃ t : Nat, ∃ a n c, ∃ vs fr tl, u = .slice a n c ∧ x = .int .i64 t ∧ t ≤ l.length ∧ Hid (ON w (.slice a n c) vs fr tl wr)) (fun _ x _ => l.length - (intOf x).toNat)
  case atStart => exact ⟨0, none, 0, 0, [], _, _, rfl, rfl, Nat.zero_le _, HI⟩
  case round =>
    clear HI
    obtain ⟨t, a, n, c, vs, fr, tl, rfl, rfl, ht, HO⟩ := hrel
    by_cases hlt : t < l.length ∧ t < 80
    · obtain ⟨hlt1, hlt8⟩ := hlt
      have hltI : (t : Int) < (l.length : Int) := by omega
      have hl8I : (t : Int) < 80 := by omega
      have ht0 : (0 : Int) ≤ (t : Int) := by omega
      obtain ⟨b, off, rfl, hbl, q0, q1, q2, q3⟩ := HH.out t hlt1
      have hB := HO.out.bel
      have c0 := (hB.cell (p := ⟨b, off + t * 4, none⟩) hbl).trans q0
      have c1 := (hB.cell (p := ⟨b, off + t * 4 + 1, none⟩) hbl).trans q1
      have c2 := (hB.cell (p := ⟨b, off + t * 4 + 2, none⟩) hbl).trans q2
      have c3 := (hB.cell (p := ⟨b, off + t * 4 + 3, none⟩) hbl).trans q3
      have hblr : b < wr.heap.size := Nat.lt_of_lt_of_le hbl hB.size
      clear q0 q1 q2 q3 HH hB hbl
      generalize l[t] = s at *
      obtain ⟨sc', sq, se, sn⟩ := s
      dsimp only at c0 c1 c2 c3
      have hb1 := below1 wr (.cells #[.int .i64 sc', .int .i64 sq, .bool se, .int .i64 sn] 37)
      have HO1 := hideIt (HO.out.keep hb1)
      have HK := hideIt (heap_alloc_new wr (.cells #[.int .i64 sc', .int .i64 sq, .bool se, .int .i64 sn] 37))
      have nP : wr.heap.size ≠ w.heap.size := by have := (Array.getElem?_eq_some_iff.1 HO.out.a0).1; omega
      have nP1 : wr.heap.size ≠ w.heap.size + 1 := by have := (Array.getElem?_eq_some_iff.1 HO.out.a1).1; omega
      clear hb1 HO
      go_upto_region 8 with fail
      generalize wr.alloc (.cells #[.int .i64 sc', .int .i64 sq, .bool se, .int .i64 sn] 37) = W at *
      generalize wr.heap.size = K at *
      clear c0 c1 c2 c3 hblr
      obtain ⟨g0, g1, g2, g3, -, -, -, -, gz⟩ := four_at HK.out
      cases se
      · have HE := hideIt (HO1.out.beg sc' sq)
        have hI := HO1.out.inv.beg (sc', sq)
        generalize hR : begV vs (sc', sq) = R at *
        obtain ⟨rs, k, ⟨xc, xn, xa, xf⟩, m⟩ := R
        clear hR
        dsimp only at HE hI
        go_wp2_with fail
        refine HE.out.mono ?_
        rintro e w1 ⟨a', N, cap, x0, a1, n1, c1, a2, n2, c2, rfl, HQ⟩
        dsimp only
        have hb1 := below1 w1 (.cells #[.int .i64 x0, .int .i64 xn, .slice a1 n1 c1, .slice a2 n2 c2] 44)
        have HO2 := hideIt ((HO1.out.keep HQ.out.1).keep hb1)
        have HK2 := hideIt ((hb1.block _ (Array.getElem?_eq_some_iff.1 ((HQ.out.1.block _ gz).trans HK.out)).1).trans ((HQ.out.1.block _ gz).trans HK.out))
        have HQ2 : Hid (∃ ys, ys.map SesX.v = rs ∧ SesOwn W.heap.size (w1.alloc (.cells #[.int .i64 x0, .int .i64 xn, .slice a1 n1 c1, .slice a2 n2 c2] 44)) (.slice a' N cap) ys) := by
          obtain ⟨_, ys, hy, ho⟩ := HQ.out
          exact ⟨ys, hy, ho.keep hb1⟩
        have HKa := hideIt (heap_alloc_new w1 (.cells #[.int .i64 x0, .int .i64 xn, .slice a1 n1 c1, .slice a2 n2 c2] 44))
        clear HE g0 g1 g2 g3 gz HK HO1 HQ hb1
        go_upto_region 14 with fail
        generalize w1.alloc (.cells #[.int .i64 x0, .int .i64 xn, .slice a1 n1 c1, .slice a2 n2 c2] 44) = W2 at *
        generalize w1.heap.size = K2 at *
        obtain ⟨g0, g1, g2, g3, -, -, -, -, gz⟩ := four_at HK2.out
        obtain ⟨e0, e1, e2, e3, -, -, -, -, ez⟩ := four_at HKa.out
        by_cases hm : m = 0
        · obtain ⟨⟨h1, h6⟩, ⟨hq1, hq2⟩, hI'⟩ := hI hm
          subst hm
          clear hI
          have h0I : (0 : Int) ≤ sc' := by omega
          have h7I : sc' < 7 := by omega
          have d0 := A7_at HO2.out.a0 h0I (by omega : sc' ≤ 6)
          have d1 := free_at HO2.out.a0 sc'.toNat
          have dz := (Array.getElem?_eq_some_iff.1 HO2.out.a0).1
          have f0 := A7_at HO2.out.a1 h0I (by omega : sc' ≤ 6)
          rcases hI' with ⟨rfl, hq, hI2⟩ | ⟨rfl, hnum, hq, hI2⟩ | ⟨rfl, hq, hI2⟩
          · have hq' : fr sc' + 1 = sq := hq.symm
            have HN : Hid (∀ Wd : World, Wd.heap = W2.heap → Wd.os = W2.os → Wd.tape = W2.tape → Wd.output = W2.output → ON w (.slice a' N cap) rs (upd fr sc' sq) tl (Wd.setCell ⟨w.heap.size, sc'.toNat, none⟩ (.int .i64 sq))) := by
              intro Wd e1 e2 e3 e4
              have hbd : Below W2.heap.size W2 Wd := ⟨e2, e3, e4, by rw [e1]; exact Nat.le_refl _, fun k _ => by rw [e1]⟩
              obtain ⟨ys, hy, ho⟩ := HQ2.out
              have hO := HO2.out.keep hbd
              exact ⟨set1 hO.a0 (A7_set fr h0I (by omega) sq), setOther _ hO.a1 (by omega), belowSet _ hO.bel (Nat.le_refl _), ⟨ys, hy, ((ho.keep hbd).cell hO.a0).at_⟩, hI2⟩
            clear hI2 HQ2 HO2 HK2 HKa hq f0
            have hfr : ∃ f, fr sc' = f := ⟨_, rfl⟩
            obtain ⟨f, hf⟩ := hfr
            rw [hf] at d0 hq'
            have hw : IntKind.i64.wrap (f + 1) = f + 1 := by rw [IntKind.wrap_i64]; omega
            clear hf
            subst hq'
            go_upto_region 19 with fail
            go_quiet (fail)
            have HN2 := hideIt (HN.out (W2.drewN nq) rfl rfl rfl rfl)
            have d0' : (W2.drewN nq).cell? ⟨w.heap.size, sc'.toNat, none⟩ = some (.int .i64 f) := d0
            have d1' : (W2.drewN nq).frozen? ⟨w.heap.size, sc'.toNat, none⟩ = false := d1
            have dz' : w.heap.size < (W2.drewN nq).heap.size := dz
            have g0' : (W2.drewN nq).cell? ⟨K, 0, none⟩ = some (.int .i64 sc') := g0
            have g1' : (W2.drewN nq).cell? ⟨K, 1, none⟩ = some (.int .i64 (f + 1)) := g1
            have gz' : K < (W2.drewN nq).heap.size := gz
            clear d0 d1 dz g0 g1 g2 g3 gz e0 e1 e2 e3 ez HN
            generalize W2.drewN nq = wx at *
            go_wp2
            go_roundw
            case rel => exact ⟨t + 1, a', N, cap, rs, _, tl, rfl, by go_num, by omega, HN2⟩
            case measure => simp [intOf]; omega
          · have HN : Hid (∀ m, ON w (.slice a' N cap) rs fr tl (W2.drewN m)) := by
              intro m
              obtain ⟨ys, hy, ho⟩ := HQ2.out
              have hO := HO2.out.keep (below_drewN (Below.refl _ W2) m)
              exact ⟨hO.a0, hO.a1, hO.bel, ⟨ys, hy, (ho.keep (below_drewN (Below.refl _ W2) m)).at_⟩, hI2⟩
            have hfr : ∃ f, fr sc' = f := ⟨_, rfl⟩
            obtain ⟨f, hf⟩ := hfr
            have htl : ∃ f, tl sc' = f := ⟨_, rfl⟩
            obtain ⟨g, hg⟩ := htl
            rw [hf] at d0 hq
            rw [hg] at f0 hnum
            clear hI2 HQ2 HO2 HK2 HKa hf hg
            subst hq hnum
            go_upto_region 23 with fail
            go_quiet (fail)
            have HN2 := hideIt (HN.out nq)
            clear HN
            generalize W2.drewN nq = wx at *
            go_wp2
            go_roundw
            case rel => exact ⟨t + 1, a', N, cap, rs, fr, tl, rfl, by go_num, by omega, HN2⟩
            case measure => simp [intOf]; omega
          · have HN : Hid (∀ m, ON w (.slice a' N cap) rs fr tl (W2.drewN m)) := by
              intro m
              obtain ⟨ys, hy, ho⟩ := HQ2.out
              have hO := HO2.out.keep (below_drewN (Below.refl _ W2) m)
              exact ⟨hO.a0, hO.a1, hO.bel, ⟨ys, hy, (ho.keep (below_drewN (Below.refl _ W2) m)).at_⟩, hI2⟩
            have hfr : ∃ f, fr sc' = f := ⟨_, rfl⟩
            obtain ⟨f, hf⟩ := hfr
            rw [hf] at d0 hq
            clear hI2 HQ2 HO2 HK2 HKa hf f0
            subst hq
            go_upto_region 26 with fail
            go_quiet (fail)
            have HN2 := hideIt (HN.out nq)
            clear HN
            generalize W2.drewN nq = wx at *
            go_wp2
            go_roundw
            case rel => exact ⟨t + 1, a', N, cap, rs, fr, tl, rfl, by go_num, by omega, HN2⟩
            case measure => simp [intOf]; omega
        · clear hI HQ2 HK2 HKa
          go_wp2
          go_roundw
          case rel => exact ⟨t + 1, a, n, c, vs, fr, tl, rfl, by go_num, by omega, HO2⟩
          case measure => simp [intOf]; omega
      · have HE := hideIt (HO1.out.fin sc' sq sn)
        have hI := HO1.out.inv.fin (sc', sq) sn
        generalize hR : endV vs (sc', sq) ⟨0, sn, [], []⟩ = R at *
        obtain ⟨rs, E⟩ := R
        clear hR
        dsimp only at HE hI
        go_wp2_with fail
        refine HE.out.mono ?_
        rintro e w1 ⟨a', N, cap, rfl, HQ⟩
        dsimp only
        have HO2 := hideIt (HO1.out.keep HQ.out.1)
        have HK2 := hideIt ((HQ.out.1.block _ gz).trans HK.out)
        clear HE g0 g1 g2 g3 gz HK HO1
        obtain ⟨g0, g1, g2, g3, -, -, -, -, gz⟩ := four_at HK2.out
        by_cases hE0 : E = 0
        · obtain ⟨⟨h1, h6⟩, hI'⟩ := hI hE0
          have HI2 := hideIt hI'
          subst hE0
          clear hI hI'
          have h0I : (0 : Int) ≤ sc' := by omega
          have h7I : sc' < 7 := by omega
          have d0 := A7_at HO2.out.a1 h0I (by omega : sc' ≤ 6)
          have d1 := free_at HO2.out.a1 sc'.toNat
          have dz := (Array.getElem?_eq_some_iff.1 HO2.out.a1).1
          have HN : Hid (ON w (.slice a' N cap) rs fr (upd tl sc' sn) (w1.setCell ⟨w.heap.size + 1, sc'.toNat, none⟩ (.int .i64 sn))) := by
            obtain ⟨hb, ys, hy, ho⟩ := HQ.out
            refine ⟨setOther _ HO2.out.a0 (by omega), ?_, belowSet _ HO2.out.bel (by omega), ⟨ys, hy, (ho.cell HO2.out.a1).at_⟩, HI2.out⟩
            exact set1 HO2.out.a1 (A7_set tl h0I (by omega) sn)
          clear HI2 HQ HO2 HK2
          go_wp2
          go_roundw
          case rel => exact ⟨t + 1, a', N, cap, rs, fr, _, rfl, by go_num, by omega, HN⟩
          case measure => simp [intOf]; omega
        · clear hI HQ HK2
          go_wp2
          go_roundw
          case rel => exact ⟨t + 1, a, n, c, vs, fr, tl, rfl, by go_num, by omega, HO2⟩
          case measure => simp [intOf]; omega
    · by_cases hlt1 : t < l.length
      · have hltI : (t : Int) < (l.length : Int) := by omega
        have hl8I : ¬ (t : Int) < 80 := by omega
        clear HH hlt
        go_wp2_with fail
        refine (HL.out _ HO.out.bel).mono ?_
        rintro e w9 ⟨rfl, hb⟩
        dsimp only
        have HB := hideIt (below_via HO.out.bel hb)
        clear hb HO HL
        go_wp2
        go_ret
        exact ⟨rfl, HB.out⟩
      · have hltI : ¬ (t : Int) < (l.length : Int) := by omega
        clear HH hlt
        go_wp2_with fail
        refine (HL.out _ HO.out.bel).mono ?_
        rintro e w9 ⟨rfl, hb⟩
        dsimp only
        have HB := hideIt (below_via HO.out.bel hb)
        clear hb HO HL
        go_wp2
        go_ret
        exact ⟨rfl, HB.out⟩
end Go.Proofs.YtgdgpcheammbpaaDoor
