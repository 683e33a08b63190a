/- The document's Same, of two that are the same. -/
import Derived.Test.YtgdgpcheammbpaaDoorWit
namespace Go.Proofs.YtgdgpcheammbpaaDoor
open Go.RowKit
set_option linter.all false
theorem SGot.ams {w : World} {v : Value} {l : List AmV} (h : Ams w v l) : ∃ a c, v = .slice a l.length c ∧ l.length * 16 ≤ 140737488355328 ∧ ∀ i (h : i < l.length), ∃ b off, a = some ⟨b, off, none⟩ ∧ b < w.heap.size ∧ w.cell? ⟨b, off + i * 2, none⟩ = some (.int .i64 (l[i]).1) ∧ w.cell? ⟨b, off + i * 2 + 1, none⟩ = some (.int .i64 (l[i]).2) := by
  obtain ⟨h8, a, c, rfl, _, hr⟩ := h
  refine ⟨a, c, rfl, h8, fun i hi => ?_⟩
  obtain ⟨b, off, rfl, hlt, hc⟩ := hr (by omega)
  have g := celC_get amK l i hi
  exact ⟨b, off, rfl, hlt, (hc (i * 2) (by omega)).trans (g 0 (by omega)), (hc (i * 2 + 1) (by omega)).trans (g 1 (by omega))⟩
theorem SGot.fls {w : World} {v : Value} {l : List FilV} (h : Fls w v l) : ∃ a c, v = .slice a l.length c ∧ l.length * 32 ≤ 140737488355328 ∧ ∀ i (h : i < l.length), ∃ b off, a = some ⟨b, off, none⟩ ∧ b < w.heap.size ∧ w.cell? ⟨b, off + i * 4, none⟩ = some (.int .i64 (l[i]).1) ∧ w.cell? ⟨b, off + i * 4 + 1, none⟩ = some (.int .i64 (l[i]).2.1) ∧ w.cell? ⟨b, off + i * 4 + 2, none⟩ = some (.int .i64 (l[i]).2.2.1) ∧ w.cell? ⟨b, off + i * 4 + 3, none⟩ = some (.int .i64 (l[i]).2.2.2) := by
  obtain ⟨h8, a, c, rfl, _, hr⟩ := h
  refine ⟨a, c, rfl, h8, fun i hi => ?_⟩
  obtain ⟨b, off, rfl, hlt, hc⟩ := hr (by omega)
  have g := celC_get filK l i hi
  exact ⟨b, off, rfl, hlt, (hc (i * 4) (by omega)).trans (g 0 (by omega)), (hc (i * 4 + 1) (by omega)).trans (g 1 (by omega)), (hc (i * 4 + 2) (by omega)).trans (g 2 (by omega)), (hc (i * 4 + 3) (by omega)).trans (g 3 (by omega))⟩
theorem neq55 (a b : Int) (w : World) : (binOp .neq 55 (.agg #[.int .i64 a, .int .i64 b]) (.agg #[.int .i64 a, .int .i64 b])).run Tryd.prog w = .ok (.bool false) w := by
  simp [go_sem]
theorem neq81 (a b c d : Int) (w : World) : (binOp .neq 81 (.agg #[.int .i64 a, .int .i64 b, .int .i64 c, .int .i64 d]) (.agg #[.int .i64 a, .int .i64 b, .int .i64 c, .int .i64 d])).run Tryd.prog w = .ok (.bool false) w := by
  simp [go_sem]
set_option maxHeartbeats 4000000 in
set_option maxRecDepth 100000 in
theorem sameA_is (v v' : Value) (l : List AmV) (w : World) (h : Ams w v l) (h' : Ams w v' l) : Calls Tryd.prog 44 #[v, v'] w fun e w' => e = .returned (.bool true) ∧ Below w.heap.size w w' := by
  obtain ⟨a, c, rfl, h8, hr⟩ := h.ams
  obtain ⟨a', c', rfl, -, hr'⟩ := h'.ams
  have HH := hideIt hr
  have HH' := hideIt hr'
  have q1 := neq55
  clear hr hr' h h'
  go_enter Tryd.func44, Tryd.ntmps44
  go_wp2
  go_loopw [5] (fun x wr => ∃ t : Nat, x = .int .i64 t ∧ t ≤ l.length ∧ Hid (Below w.heap.size w wr)) (fun x _ => l.length - (intOf x).toNat)
  case atStart => exact ⟨0, rfl, Nat.zero_le _, Below.refl _ _⟩
  case round =>
    obtain ⟨t, rfl, ht, HW⟩ := hrel
    by_cases hlt : t < l.length
    · have hltI : (t : Int) < (l.length : Int) := by omega
      have ht0 : (0 : Int) ≤ (t : Int) := by omega
      obtain ⟨b, off, rfl, hbl, q0, q1⟩ := HH.out t hlt
      obtain ⟨b2, off2, rfl, hbl2, p0, p1⟩ := HH'.out t hlt
      have c0 := (HW.out.cell (p := ⟨b, off + t * 2, none⟩) hbl).trans q0
      have c1 := (HW.out.cell (p := ⟨b, off + t * 2 + 1, none⟩) hbl).trans q1
      have d0 := (HW.out.cell (p := ⟨b2, off2 + t * 2, none⟩) hbl2).trans p0
      have d1 := (HW.out.cell (p := ⟨b2, off2 + t * 2 + 1, none⟩) hbl2).trans p1
      have hblr : b < wr.heap.size := Nat.lt_of_lt_of_le hbl HW.out.size
      have hblr2 : b2 < wr.heap.size := Nat.lt_of_lt_of_le hbl2 HW.out.size
      clear q0 q1 p0 p1 HH HH'
      generalize l[t] = en at *
      go_upto_region 6 with fail
      go_quiet (fail)
      have HW2 := hideIt (below_drewN HW.out nq)
      clear HW
      generalize wr.drewN nq = wx at *
      go_wp2
      go_roundw
      case rel => exact ⟨t + 1, by go_num, by omega, HW2⟩
      case measure => simp [intOf]; omega
    · have hltI : ¬ (t : Int) < (l.length : Int) := by omega
      go_wp2
      go_ret
      exact ⟨rfl, HW.out⟩
set_option maxHeartbeats 4000000 in
set_option maxRecDepth 100000 in
theorem sameF_is (v v' : Value) (l : List FilV) (w : World) (h : Fls w v l) (h' : Fls w v' l) : Calls Tryd.prog 45 #[v, v'] w fun e w' => e = .returned (.bool true) ∧ Below w.heap.size w w' := by
  obtain ⟨a, c, rfl, h8, hr⟩ := h.fls
  obtain ⟨a', c', rfl, -, hr'⟩ := h'.fls
  have HH := hideIt hr
  have HH' := hideIt hr'
  have q1 := neq81
  clear hr hr' h h'
  go_enter Tryd.func45, Tryd.ntmps45
  go_wp2
  go_loopw [5] (fun x wr => ∃ t : Nat, x = .int .i64 t ∧ t ≤ l.length ∧ Hid (Below w.heap.size w wr)) (fun x _ => l.length - (intOf x).toNat)
  case atStart => exact ⟨0, rfl, Nat.zero_le _, Below.refl _ _⟩
  case round =>
    obtain ⟨t, rfl, ht, HW⟩ := hrel
    by_cases hlt : t < l.length
    · have hltI : (t : Int) < (l.length : Int) := by omega
      have ht0 : (0 : Int) ≤ (t : Int) := by omega
      obtain ⟨b, off, rfl, hbl, q0, q1, q2, q3⟩ := HH.out t hlt
      obtain ⟨b2, off2, rfl, hbl2, p0, p1, p2, p3⟩ := HH'.out t hlt
      have c0 := (HW.out.cell (p := ⟨b, off + t * 4, none⟩) hbl).trans q0
      have c1 := (HW.out.cell (p := ⟨b, off + t * 4 + 1, none⟩) hbl).trans q1
      have c2 := (HW.out.cell (p := ⟨b, off + t * 4 + 2, none⟩) hbl).trans q2
      have c3 := (HW.out.cell (p := ⟨b, off + t * 4 + 3, none⟩) hbl).trans q3
      have d0 := (HW.out.cell (p := ⟨b2, off2 + t * 4, none⟩) hbl2).trans p0
      have d1 := (HW.out.cell (p := ⟨b2, off2 + t * 4 + 1, none⟩) hbl2).trans p1
      have d2 := (HW.out.cell (p := ⟨b2, off2 + t * 4 + 2, none⟩) hbl2).trans p2
      have d3 := (HW.out.cell (p := ⟨b2, off2 + t * 4 + 3, none⟩) hbl2).trans p3
      have hblr : b < wr.heap.size := Nat.lt_of_lt_of_le hbl HW.out.size
      have hblr2 : b2 < wr.heap.size := Nat.lt_of_lt_of_le hbl2 HW.out.size
      clear q0 q1 q2 q3 p0 p1 p2 p3 HH HH'
      generalize l[t] = en at *
      go_upto_region 6 with fail
      go_quiet (fail)
      have HW2 := hideIt (below_drewN HW.out nq)
      clear HW
      generalize wr.drewN nq = wx at *
      go_wp2
      go_roundw
      case rel => exact ⟨t + 1, by go_num, by omega, HW2⟩
      case measure => simp [intOf]; omega
    · have hltI : ¬ (t : Int) < (l.length : Int) := by omega
      go_wp2
      go_ret
      exact ⟨rfl, HW.out⟩
set_option maxHeartbeats 4000000 in
set_option maxRecDepth 100000 in
theorem sameAns_is (x y : AnsX) (w : World) (hx : AnsAt w x) (hy : AnsAt w y) (he : x.v = y.v) : Calls Tryd.prog 22 #[.agg x.cs, .agg y.cs] w fun e w' => e = .returned (.bool true) ∧ Below w.heap.size w w' := by
  obtain ⟨xv, aa, ac, fa, fc⟩ := x
  obtain ⟨yv, ba, bc, ga, gc⟩ := y
  dsimp only at he
  subst he
  obtain ⟨code, num, am, fl⟩ := xv
  have H1 := hideIt (fun W (hW : Below w.heap.size w W) => sameA_is _ _ _ W (hx.a.keep hW) (hy.a.keep hW))
  have H2 := hideIt (fun W (hW : Below w.heap.size w W) => sameF_is _ _ _ W (hx.f.keep hW) (hy.f.keep hW))
  clear hx hy
  simp only [AnsX.cs, AnsX.am, AnsX.fl] at *
  have X0 := hideIt (two_heap w (.cells #[.int .i64 code, .int .i64 num, .slice aa am.length ac, .slice fa fl.length fc] 44) (.cells #[.int .i64 code, .int .i64 num, .slice ba am.length bc, .slice ga fl.length gc] 44))
  have B0 := hideIt (below2 w (.cells #[.int .i64 code, .int .i64 num, .slice aa am.length ac, .slice fa fl.length fc] 44) (.cells #[.int .i64 code, .int .i64 num, .slice ba am.length bc, .slice ga fl.length gc] 44))
  go_enter Tryd.func22, Tryd.ntmps22
  go_wp2_with fail
  refine (H1.out _ B0.out).mono ?_
  rintro e w1 ⟨rfl, hb⟩
  dsimp only
  obtain ⟨-, -, -, k3, -, -, -, -, kz⟩ := four_at ((hb.block w.heap.size (by rw [X0.out.2.2]; omega)).trans X0.out.1)
  obtain ⟨-, -, -, j3, -, -, -, -, jz⟩ := four_at ((hb.block (w.heap.size + 1) (by rw [X0.out.2.2]; omega)).trans X0.out.2.1)
  have HB := hideIt (below_via B0.out hb)
  clear hb H1 B0 X0
  go_wp2_with fail
  refine (H2.out _ HB.out).mono ?_
  rintro e w2 ⟨rfl, hb⟩
  dsimp only
  have HB2 := hideIt (below_via HB.out hb)
  clear hb H2 HB
  go_wp2
  go_ret
  exact ⟨rfl, HB2.out⟩
set_option maxHeartbeats 8000000 in
set_option maxRecDepth 100000 in
theorem sameS_is (v v' : Value) (l k : List SesX) (w : World) (h : Sess w v l) (h' : Sess w v' k) (he : l.map SesX.v = k.map SesX.v) : Calls Tryd.prog 17 #[v, v'] w fun e w' => e = .returned (.bool true) ∧ Below w.heap.size w w' := by
  have hlen : k.length = l.length := by simpa using (congrArg List.length he).symm
  have HV : Hid (∀ t (ht : t < l.length) (hk : t < k.length), l[t].v = k[t].v) := by
    intro t ht hk
    have := List.getElem_of_eq he (i := t) (by simpa using ht)
    simpa using this
  have HA := hideIt (fun (t : Nat) (ht : t < l.length) (hk : t < k.length) W (hW : Below w.heap.size w W) => sameAns_is l[t].x k[t].x W ((h.ans l[t] (List.getElem_mem ht)).keep hW) ((h'.ans k[t] (List.getElem_mem hk)).keep hW))
  obtain ⟨a, c, rfl, h8, hr⟩ := h.seven
  obtain ⟨a', c', rfl, -, hr'⟩ := h'.seven
  have HH := hideIt hr
  have HH' := hideIt hr'
  have HL := hideIt hlen
  rw [hlen]
  clear hr hr' h h' he hlen
  go_enter Tryd.func17, Tryd.ntmps17
  go_wp2
  go_loopw [5] (fun x wr => ∃ t : Nat, x = .int .i64 t ∧ t ≤ l.length ∧ Hid (Below w.heap.size w wr)) (fun x _ => l.length - (intOf x).toNat)
  case atStart => exact ⟨0, rfl, Nat.zero_le _, Below.refl _ _⟩
  case round =>
    obtain ⟨t, rfl, ht, HW⟩ := hrel
    by_cases hlt : t < l.length
    · have hltI : (t : Int) < (l.length : Int) := by omega
      have ht0 : (0 : Int) ≤ (t : Int) := by omega
      have hkt : t < k.length := by rw [HL.out]; exact hlt
      obtain ⟨b, off, rfl, hbl, q0, q1, q2, q3, q4, q5, q6⟩ := HH.out t hlt
      obtain ⟨b2, off2, rfl, hbl2, p0, p1, p2, p3, p4, p5, p6⟩ := HH'.out t hkt
      have hv := HV.out t hlt hkt
      have HC := hideIt (HA.out t hlt hkt)
      clear HH HH' HA HV HL
      generalize l[t] = s at *
      generalize k[t] = s2 at *
      obtain ⟨sc, sq, sd, ⟨⟨code, num, am, fl⟩, aa, ac, fa, fc⟩⟩ := s
      obtain ⟨sc2, sq2, sd2, ⟨⟨code2, num2, am2, fl2⟩, ba, bc, ga, gc⟩⟩ := s2
      simp only [SesX.v, SesV.mk.injEq, AnsV.mk.injEq] at hv
      obtain ⟨rfl, rfl, rfl, rfl, rfl, rfl, rfl⟩ := hv
      simp only [AnsX.am, AnsX.fl, AnsX.cs] at q5 q6 p5 p6 HC
      replace HC := hideIt (fun W hW => HC.out W hW trivial)
      have C1 : ∀ W, Below w.heap.size w W → W.cell? ⟨b, off + t * 7, none⟩ = some (.int .i64 sc) ∧ W.cell? ⟨b, off + t * 7 + 1, none⟩ = some (.int .i64 sq) ∧ W.cell? ⟨b, off + t * 7 + 2, none⟩ = some (.bool sd) ∧ W.cell? ⟨b, off + t * 7 + 3, none⟩ = some (.int .i64 code) ∧ W.cell? ⟨b, off + t * 7 + 4, none⟩ = some (.int .i64 num) ∧ W.cell? ⟨b, off + t * 7 + 5, none⟩ = some (.slice aa am.length ac) ∧ W.cell? ⟨b, off + t * 7 + 6, none⟩ = some (.slice fa fl.length fc) := fun W hW => ⟨(hW.cell (p := ⟨b, off + t * 7, none⟩) hbl).trans q0, (hW.cell (p := ⟨b, off + t * 7 + 1, none⟩) hbl).trans q1, (hW.cell (p := ⟨b, off + t * 7 + 2, none⟩) hbl).trans q2, (hW.cell (p := ⟨b, off + t * 7 + 3, none⟩) hbl).trans q3, (hW.cell (p := ⟨b, off + t * 7 + 4, none⟩) hbl).trans q4, (hW.cell (p := ⟨b, off + t * 7 + 5, none⟩) hbl).trans q5, (hW.cell (p := ⟨b, off + t * 7 + 6, none⟩) hbl).trans q6⟩
      have C2 : ∀ W, Below w.heap.size w W → W.cell? ⟨b2, off2 + t * 7, none⟩ = some (.int .i64 sc) ∧ W.cell? ⟨b2, off2 + t * 7 + 1, none⟩ = some (.int .i64 sq) ∧ W.cell? ⟨b2, off2 + t * 7 + 2, none⟩ = some (.bool sd) ∧ W.cell? ⟨b2, off2 + t * 7 + 3, none⟩ = some (.int .i64 code) ∧ W.cell? ⟨b2, off2 + t * 7 + 4, none⟩ = some (.int .i64 num) ∧ W.cell? ⟨b2, off2 + t * 7 + 5, none⟩ = some (.slice ba am.length bc) ∧ W.cell? ⟨b2, off2 + t * 7 + 6, none⟩ = some (.slice ga fl.length gc) := fun W hW => ⟨(hW.cell (p := ⟨b2, off2 + t * 7, none⟩) hbl2).trans p0, (hW.cell (p := ⟨b2, off2 + t * 7 + 1, none⟩) hbl2).trans p1, (hW.cell (p := ⟨b2, off2 + t * 7 + 2, none⟩) hbl2).trans p2, (hW.cell (p := ⟨b2, off2 + t * 7 + 3, none⟩) hbl2).trans p3, (hW.cell (p := ⟨b2, off2 + t * 7 + 4, none⟩) hbl2).trans p4, (hW.cell (p := ⟨b2, off2 + t * 7 + 5, none⟩) hbl2).trans p5, (hW.cell (p := ⟨b2, off2 + t * 7 + 6, none⟩) hbl2).trans p6⟩
      have hblr : b < wr.heap.size := Nat.lt_of_lt_of_le hbl HW.out.size
      have hblr2 : b2 < wr.heap.size := Nat.lt_of_lt_of_le hbl2 HW.out.size
      have HC1 := hideIt C1
      have HC2 := hideIt C2
      obtain ⟨c0, c1, c2, c3, c4, c5, c6⟩ := C1 wr HW.out
      obtain ⟨d0, d1, d2, d3, d4, d5, d6⟩ := C2 wr HW.out
      clear q0 q1 q2 q3 q4 q5 q6 p0 p1 p2 p3 p4 p5 p6 C1 C2
      go_upto_region 6 with fail
      go_region_held3 (fun W => (W.cell? ⟨b, off + t * 7, none⟩ = some (.int .i64 sc) ∧ W.cell? ⟨b, off + t * 7 + 1, none⟩ = some (.int .i64 sq) ∧ W.cell? ⟨b, off + t * 7 + 2, none⟩ = some (.bool sd) ∧ W.cell? ⟨b, off + t * 7 + 3, none⟩ = some (.int .i64 code) ∧ W.cell? ⟨b, off + t * 7 + 4, none⟩ = some (.int .i64 num) ∧ W.cell? ⟨b, off + t * 7 + 5, none⟩ = some (.slice aa am.length ac) ∧ W.cell? ⟨b, off + t * 7 + 6, none⟩ = some (.slice fa fl.length fc)) ∧ (W.cell? ⟨b2, off2 + t * 7, none⟩ = some (.int .i64 sc) ∧ W.cell? ⟨b2, off2 + t * 7 + 1, none⟩ = some (.int .i64 sq) ∧ W.cell? ⟨b2, off2 + t * 7 + 2, none⟩ = some (.bool sd) ∧ W.cell? ⟨b2, off2 + t * 7 + 3, none⟩ = some (.int .i64 code) ∧ W.cell? ⟨b2, off2 + t * 7 + 4, none⟩ = some (.int .i64 num) ∧ W.cell? ⟨b2, off2 + t * 7 + 5, none⟩ = some (.slice ba am.length bc) ∧ W.cell? ⟨b2, off2 + t * 7 + 6, none⟩ = some (.slice ga fl.length gc))) (go_keep) (first | (go_at_call 22; refine (HC.out _ (by first | exact HW.out | exact HW.out.drew)).mono ?_; rintro e w1 ⟨rfl, hb⟩; have HB1 := hideIt (below_via (by first | exact HW.out | exact HW.out.drew) hb); obtain ⟨i0, i1, i2, i3, i4, i5, i6⟩ := HC1.out _ HB1.out; obtain ⟨j0, j1, j2, j3, j4, j5, j6⟩ := HC2.out _ HB1.out; clear HC hb))
      go_wp2
      go_roundw
      case rel => exact ⟨t + 1, by go_num, by omega, HB1⟩
      case measure => simp [intOf]; omega
    · have hltI : ¬ (t : Int) < (l.length : Int) := by omega
      go_wp2
      go_ret
      exact ⟨rfl, HW.out⟩
end Go.Proofs.YtgdgpcheammbpaaDoor
