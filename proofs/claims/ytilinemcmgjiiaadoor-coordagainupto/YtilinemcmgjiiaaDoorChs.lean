/- Sessions: isZero, Check, refused, last. -/
import Derived.Test.YtilinemcmgjiiaaDoorReq
import Derived.Test.YtilinemcmgjiiaaDoorAnw
namespace Go.Proofs.YtilinemcmgjiiaaDoor
open Go.RowKit
set_option linter.all false
def zAb (v : AnsV) : Bool := decide (v.code = 0) && (decide (v.num = 0) && (decide (v.am.length = 0) && decide (v.fl.length = 0)))
set_option maxHeartbeats 4000000 in
theorem isZero_is (x : AnsX) (w : World) : Calls Tryd.prog 83 #[.agg x.cs] w fun e w' => e = .returned (.bool (zAb x.v)) ∧ Below w.heap.size w w' := by
  obtain ⟨⟨code, num, am, fl⟩, aa, ac, fa, fc⟩ := x
  simp only [AnsX.cs, AnsX.am, AnsX.fl, zAb]
  generalize am.length = n
  generalize fl.length = m
  have X0 := hideIt (below1 w (.cells #[.int .i64 code, .int .i64 num, .slice aa n ac, .slice fa m fc] 44))
  by_cases h0 : code = 0
  · subst h0
    by_cases h1 : num = 0
    · subst h1
      by_cases h2 : n = 0
      · subst h2
        by_cases h3 : m = 0
        · subst h3
          go_enter Tryd.func83, Tryd.ntmps83
          go_wp2
          go_ret
          exact ⟨by simp, X0.out⟩
        · have h3I : ¬ (m : Int) = 0 := by omega
          go_enter Tryd.func83, Tryd.ntmps83
          go_wp2
          go_ret
          exact ⟨by simp [h3], X0.out⟩
      · have h2I : ¬ (n : Int) = 0 := by omega
        go_enter Tryd.func83, Tryd.ntmps83
        go_wp2
        go_ret
        exact ⟨by simp [h2], X0.out⟩
    · go_enter Tryd.func83, Tryd.ntmps83
      go_wp2
      go_ret
      exact ⟨by simp [h1], X0.out⟩
  · go_enter Tryd.func83, Tryd.ntmps83
    go_wp2
    go_ret
    exact ⟨by simp [h0], X0.out⟩
def ltB (a b : Int) : Bool := decide (a < b)
/-- May sessions be? -/
def okS (ahead : Int) (s : SesV) : Bool := ltB ahead s.c && (namB (s.c, s.q) && (s.d || zAb s.a))
def chkS : Int → List SesV → Bool
  | _, [] => true
  | a, s :: l => okS a s && chkS s.c l
def bE (b : Bool) : Int := if b = true then 0 else 170
def chkE (l : List SesV) : Int := bE (chkS 0 l)
theorem chk_drop {l : List SesX} {t : Nat} (h : t < l.length) (a : Int) : chkS a ((l.drop t).map SesX.v) = (okS a l[t].v && chkS l[t].c ((l.drop (t + 1)).map SesX.v)) := by
  rw [List.drop_eq_getElem_cons h, List.map_cons, chkS]
  rfl
set_option maxHeartbeats 8000000 in
set_option maxRecDepth 100000 in
theorem checkS_is (v : Value) (l : List SesX) (w : World) (h : Sess w v l) : Calls Tryd.prog 74 #[v] w fun e w' => e = .returned (.int .i64 (chkE (l.map SesX.v))) ∧ Below w.heap.size w w' := by
  obtain ⟨a, c, rfl, h8, hr⟩ := h.seven
  have HH := hideIt hr
  have HN := hideIt (fun c q W => nameS_is c q W)
  have HZ := hideIt (fun x W => isZero_is x W)
  have HE : Hid (chkE (l.map SesX.v) = bE (chkS 0 ((l.drop 0).map SesX.v))) := by
    show _ = _
    rw [List.drop_zero, chkE]
  clear hr h
  generalize chkE (l.map SesX.v) = R at *
  go_enter Tryd.func74, Tryd.ntmps74
  go_wp2
  go_loopw [3, 8] (fun u x wr => ∃ t : Nat, ∃ ah : Int, u = .int .i64 ah ∧ x = .int .i64 t ∧ t ≤ l.length ∧ Hid (R = bE (chkS ah ((l.drop t).map SesX.v)) ∧ Below w.heap.size w wr)) (fun _ x _ => l.length - (intOf x).toNat)
  case atStart => exact ⟨0, 0, rfl, rfl, Nat.zero_le _, hideIt ⟨HE.out, Below.refl _ _⟩⟩
  case round =>
    clear HE
    obtain ⟨t, ah, rfl, rfl, ht, HR⟩ := hrel
    by_cases hlt : t < l.length
    · have hltI : (t : Int) < (l.length : Int) := by omega
      have ht0 : (0 : Int) ≤ (t : Int) := by omega
      have hB := HR.out.2
      obtain ⟨b, off, rfl, hbl, q0, q1, q2, q3, q4, q5, q6⟩ := HH.out t hlt
      have c0 := (hB.cell (p := ⟨b, off + t * 7, none⟩) hbl).trans q0
      have c1 := (hB.cell (p := ⟨b, off + t * 7 + 1, none⟩) hbl).trans q1
      have c2 := (hB.cell (p := ⟨b, off + t * 7 + 2, none⟩) hbl).trans q2
      have c3 := (hB.cell (p := ⟨b, off + t * 7 + 3, none⟩) hbl).trans q3
      have c4 := (hB.cell (p := ⟨b, off + t * 7 + 4, none⟩) hbl).trans q4
      have c5 := (hB.cell (p := ⟨b, off + t * 7 + 5, none⟩) hbl).trans q5
      have c6 := (hB.cell (p := ⟨b, off + t * 7 + 6, none⟩) hbl).trans q6
      have hblr : b < wr.heap.size := Nat.lt_of_lt_of_le hbl hB.size
      clear q0 q1 q2 q3 q4 q5 q6 hbl
      have HS : Hid (R = bE (okS ah l[t].v && chkS l[t].c ((l.drop (t + 1)).map SesX.v))) := by
        show _ = _
        rw [HR.out.1, chk_drop hlt]
      have HZ2 := hideIt (fun W => HZ.out l[t].x W)
      clear HH hB
      have HB := hideIt HR.out.2
      clear HR HZ
      generalize l[t] = s at *
      obtain ⟨sc, sq, sd, ⟨⟨code, num, am, fl⟩, aa, ac, fa, fc⟩⟩ := s
      simp only [AnsX.am, AnsX.fl, AnsX.cs, SesX.v, okS] at c0 c1 c2 c3 c4 c5 c6 HZ2 HS
      have HN2 := hideIt (fun W => HN.out sc sq W)
      clear HN
      generalize am.length = n at *
      generalize fl.length = m at *
      generalize namB (sc, sq) = bn at *
      generalize zAb ⟨code, num, am, fl⟩ = bz at *
      have hb1 := below1 wr (.cells #[.int .i64 sc, .int .i64 sq, .bool sd, .int .i64 code, .int .i64 num, .slice aa n ac, .slice fa m fc] 133)
      have HX := hideIt (And.intro (heap_alloc_new wr (.cells #[.int .i64 sc, .int .i64 sq, .bool sd, .int .i64 code, .int .i64 num, .slice aa n ac, .slice fa m fc] 133)) (below_via HB.out hb1))
      clear hb1 HB
      by_cases hc : ah < sc
      · have hcI : ¬ sc ≤ ah := by omega
        go_wp2_with fail
        refine (HN2.out _).mono ?_
        rintro e w1 ⟨rfl, hb⟩
        dsimp only
        have p0 := (hb.block _ (Array.getElem?_eq_some_iff.1 HX.out.1).1).trans HX.out.1
        obtain ⟨⟨g0, g1, g2, g3, g4, g5, g6⟩, -, kz⟩ := seven_at p0
        have HB := hideIt (below_via HX.out.2 hb)
        clear p0 hb HX HN2 c0 c1 c2 c3 c4 c5 c6
        cases bn
        · go_wp2
          all_goals go_ret
          all_goals exact ⟨by rw [HS.out]; simp [bE], HB.out⟩
        · cases sd
          · go_wp2_with fail
            refine (HZ2.out _).mono ?_
            rintro e w2 ⟨rfl, hb⟩
            dsimp only
            have k0 := (hb.cell kz).trans g0
            have HB2 := hideIt (below_via HB.out hb)
            clear HZ2 hb HB
            cases bz
            · go_wp2
              go_ret
              exact ⟨by rw [HS.out]; simp [bE], HB2.out⟩
            · have HS2 : Hid (R = bE (chkS sc ((l.drop (t + 1)).map SesX.v))) := by
                show _ = _
                rw [HS.out, show ltB ah sc = true from decide_eq_true hc]
                rfl
              clear HS hc
              go_wp2
              go_roundw
              case rel => exact ⟨t + 1, sc, rfl, by go_num, by omega, hideIt ⟨HS2.out, HB2.out⟩⟩
              case measure => simp [intOf]; omega
          · have HS2 : Hid (R = bE (chkS sc ((l.drop (t + 1)).map SesX.v))) := by
              show _ = _
              rw [HS.out, show ltB ah sc = true from decide_eq_true hc]
              rfl
            clear HS hc
            go_wp2
            go_roundw
            case rel => exact ⟨t + 1, sc, rfl, by go_num, by omega, hideIt ⟨HS2.out, HB.out⟩⟩
            case measure => simp [intOf]; omega
      · have hcI : sc ≤ ah := by omega
        have HL : Hid (ltB ah sc = false) := decide_eq_false hc
        clear hc
        go_wp2
        all_goals go_ret
        all_goals exact ⟨by rw [HS.out, HL.out]; rfl, HX.out.2⟩
    · have hltI : ¬ (t : Int) < (l.length : Int) := by omega
      have HG := hideIt HR.out
      rw [List.drop_eq_nil_of_le (by omega)] at HG
      clear HR HH
      go_wp2
      go_ret
      exact ⟨by rw [HG.out.1]; rfl, HG.out.2⟩
/-- What may be neither begun nor ended. -/
def rfsE (l : List SesV) (t : TxnV) : Int := if chkE l = 0 then (if namB t = true then 0 else 1) else chkE l
set_option maxHeartbeats 4000000 in
theorem refusedS_is (v : Value) (l : List SesX) (c q : Int) (w : World) (h : Sess w v l) : Calls Tryd.prog 63 #[v, .agg #[.int .i64 c, .int .i64 q]] w fun e w' => e = .returned (.int .i64 (rfsE (l.map SesX.v) (c, q))) ∧ Below w.heap.size w w' := by
  have H1 := hideIt (fun W (hW : Below w.heap.size w W) => checkS_is v l W (h.keep hW))
  have H2 := hideIt (fun W => nameS_is c q W)
  have X0 := hideIt (And.intro (heap_alloc_new w (.cells #[.int .i64 c, .int .i64 q] 35)) (below1 w (.cells #[.int .i64 c, .int .i64 q] 35)))
  clear h
  unfold rfsE
  generalize chkE (l.map SesX.v) = E at *
  by_cases hE : E = 0
  · subst hE
    rw [if_pos rfl]
    generalize namB (c, q) = bn at *
    go_enter Tryd.func63, Tryd.ntmps63
    go_wp2_with fail
    refine (H1.out _ X0.out.2).mono ?_
    rintro e w1 ⟨rfl, hb⟩
    dsimp only
    obtain ⟨g0, g1, -⟩ := two_at ((hb.block _ (Array.getElem?_eq_some_iff.1 X0.out.1).1).trans X0.out.1)
    have HB := hideIt (below_via X0.out.2 hb)
    clear hb X0
    go_wp2_with fail
    refine (H2.out _).mono ?_
    rintro e w2 ⟨rfl, hb⟩
    dsimp only
    have HB2 := hideIt (below_via HB.out hb)
    clear hb HB
    cases bn
    · go_wp2
      go_ret
      exact ⟨rfl, HB2.out⟩
    · go_wp2
      go_ret
      exact ⟨rfl, HB2.out⟩
  · rw [if_neg hE]
    go_enter Tryd.func63, Tryd.ntmps63
    go_wp2_with fail
    refine (H1.out _ X0.out.2).mono ?_
    rintro e w1 ⟨rfl, hb⟩
    dsimp only
    have HB := hideIt (below_via X0.out.2 hb)
    clear hb X0
    go_wp2
    go_ret
    exact ⟨rfl, HB.out⟩
end Go.Proofs.YtilinemcmgjiiaaDoor
