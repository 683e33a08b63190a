/- The document's side, walked. -/
import Derived.Test.YtpfdmjphoeljiaaDcP
import Derived.Test.YtpfdmjphoeljiaaRWt
namespace Go.Proofs.Ytpfdmjphoeljiaa
open Go.RowKit
set_option linter.all false
def sidS (s : Int) (x : OrdV) (q : List OrdV × Bool) (o : OrdV) : List OrdV × Bool := if q.2 = false ∧ ahB s x o = true then (q.1 ++ [x] ++ [o], true) else (q.1 ++ [o], q.2)
theorem sid_on (s : Int) (x : OrdV) : ∀ (l pre : List OrdV), l.foldl (sidS s x) (pre, true) = (pre ++ l, true)
  | [], pre => by simp
  | o :: l, pre => by
    rw [List.foldl_cons, sidS, if_neg (by simp), sid_on s x l]
    simp
def sidL (s : Int) (x : OrdV) (l : List OrdV) : List OrdV := if (l.foldl (sidS s x) ([], false)).2 = true then (l.foldl (sidS s x) ([], false)).1 else (l.foldl (sidS s x) ([], false)).1 ++ [x]
theorem sid_all (s : Int) (x : OrdV) : ∀ (l pre : List OrdV), (∀ y ∈ l, ahB s x y = !(ahB s y x)) → (if (l.foldl (sidS s x) (pre, false)).2 = true then (l.foldl (sidS s x) (pre, false)).1 else (l.foldl (sidS s x) (pre, false)).1 ++ [x]) = pre ++ laidL (ahB s) x l
  | [], pre, _ => by simp [laidL]
  | o :: l, pre, h => by
    have ho := h o (by simp)
    rw [List.foldl_cons]
    cases hq : ahB s o x
    · rw [hq, Bool.not_false] at ho
      have e : sidS s x (pre, false) o = (pre ++ [x] ++ [o], true) := by
        unfold sidS
        rw [if_pos ⟨rfl, ho⟩]
      rw [e, sid_on]
      simp [laidL, hq]
    · rw [hq, Bool.not_true] at ho
      have e : sidS s x (pre, false) o = (pre ++ [o], false) := by
        unfold sidS
        rw [if_neg (by simp [ho])]
      rw [e, sid_all s x l (pre ++ [o]) (fun y hy => h y (by simp [hy]))]
      simp [laidL, hq]
theorem sid_is {s : Int} {x : OrdV} {l : List OrdV} (h : ∀ y ∈ l, ahB s x y = !(ahB s y x)) : sidL s x l = laidL (ahB s) x l := by
  have := sid_all s x l [] h
  rw [List.nil_append] at this
  exact this
theorem ah_tot {s : Int} {x y : OrdV} (h : x.id ≠ y.id) : ahB s x y = !(ahB s y x) := by
  unfold ahB
  by_cases hp : x.price = y.price
  · rw [if_pos hp, if_pos hp.symm]
    by_cases h1 : x.id < y.id
    · rw [decide_eq_true h1, decide_eq_false (by omega)]; rfl
    · rw [decide_eq_false h1, decide_eq_true (by omega)]; rfl
  · rw [if_neg hp, if_neg (fun e => hp e.symm)]
    by_cases h1 : x.price < y.price
    · rw [decide_eq_true h1, decide_eq_false (show ¬ y.price < x.price by omega)]
      cases decide (s = 1) <;> rfl
    · rw [decide_eq_false h1, decide_eq_true (show y.price < x.price by omega)]
      cases decide (s = 1) <;> rfl
theorem sid_len (s : Int) (x : OrdV) : ∀ (l : List OrdV) (q : List OrdV × Bool), (l.foldl (sidS s x) q).1.length ≤ q.1.length + 2 * l.length
  | [], q => by simp
  | o :: l, q => by
    rw [List.foldl_cons]
    refine Nat.le_trans (sid_len s x l _) ?_
    have : (sidS s x q o).1.length ≤ q.1.length + 2 := by
      unfold sidS
      split <;> simp
    rw [List.length_cons]
    omega
/-- The order in its box, and the new row. -/
structure SO (w : World) (x : OrdV) (pre : List OrdV) (u : Value) (W : World) : Prop where
  bx : W.heap[w.heap.size]? = some (.cells (ordE x).toArray 49 (0, 0))
  row : W.ownsRow (w.heap.size + 1) 49 4 u pre.length (celC ordE pre)
  bel : Below w.heap.size w W
theorem SO.keep {w W W' : World} {x : OrdV} {pre : List OrdV} {u : Value} (h : SO w x pre u W) (hb : Below W.heap.size W W') : SO w x pre u W' := ⟨(hb.block _ (Array.getElem?_eq_some_iff.1 h.bx).1).trans h.bx, own_keep h.row hb, below_via h.bel hb⟩
theorem SO.app {w W : World} {pre : List OrdV} {x : OrdV} {u : Value} (h : SO w x pre u W) (y : OrdV) (hl : pre.length ≤ 3000) : ∃ a' c' w', (Builtin.append_ #[22, 22] 22 #[u, .slice (some ⟨W.heap.size, 0, none⟩) 1 1]).run Try.prog (W.alloc (.cells (ordE y).toArray 49)) = .ok (.slice a' (pre.length + 1) c') w' ∧ SO w x (pre ++ [y]) (.slice a' (pre.length + 1) c') w' := by
  have hb := below1 W (.cells (ordE y).toArray 49)
  have hz := (Array.getElem?_eq_some_iff.1 h.bx).1
  have hO := own_keep h.row hb
  obtain ⟨v', w', hrun, how, hgr⟩ := app1 (enc := ordE) (t := 22) ordK ord1 Try.underlying22 info36 rfl (by omega) (W.alloc (.cells (ordE y).toArray 49)) (w.heap.size + 1) u pre y W.heap.size 1 (Nat.le_trans (by omega) hb.size) hO (heap_alloc_new W _) (by omega) (by unfold maxLen; omega)
  obtain ⟨a', c', rfl⟩ := own_len how
  have hlen : (pre ++ [y]).length = pre.length + 1 := by simp
  rw [hlen] at hrun how
  refine ⟨a', c', w', hrun, ?_, by rw [hlen]; exact how, grown_own hgr hO (by omega) (below_via h.bel hb)⟩
  refine (hgr.block _ (Nat.lt_of_lt_of_le (by omega) hb.size) (fun e => ?_)).trans ((hb.block _ (by omega)).trans h.bx)
  have := (hO.lt _ e.symm).1
  omega
def SiBack (R : List OrdV) (w : World) (e : Ending) (w' : World) : Prop := ∃ a c, e = .returned (.slice a R.length c) ∧ Ords w' (.slice a R.length c) R ∧ Below w.heap.size w w'
set_option maxHeartbeats 16000000 in
set_option maxRecDepth 100000 in
theorem rSide_is (v : Value) (l : List OrdV) (s : Int) (x : OrdV) (w : World) (h : Ords w v l) (hl : l.length ≤ 1000) : Calls Try.prog 31 #[v, .int .i64 s, .agg (ordE x).toArray] w (SiBack (sidL s x l) w) := by
  obtain ⟨a, c, rfl, h8, hr⟩ := h.ords
  have HH := hideIt hr
  clear hr h
  have HA := hideIt (fun y W => rAhead_is s x y W)
  have HST := hideIt (fun t (ht : t < l.length) => show (l.take (t + 1)).foldl (sidS s x) ([], false) = sidS s x ((l.take t).foldl (sidS s x) ([], false)) l[t] by rw [List.take_succ_eq_append_getElem ht, List.foldl_append]; rfl)
  have HFL := hideIt (show (if ((l.take l.length).foldl (sidS s x) ([], false)).2 = true then ((l.take l.length).foldl (sidS s x) ([], false)).1 else ((l.take l.length).foldl (sidS s x) ([], false)).1 ++ [x]) = sidL s x l by rw [List.take_length]; rfl)
  have HI : Hid ((l.take 0).foldl (sidS s x) ([], false) = ([], false)) := by show _ = _; simp
  have HLN := hideIt (fun t => sid_len s x (l.take t) ([], false))
  have X0 : Hid (SO w x [] (.slice none 0 0) (w.alloc (.cells (ordE x).toArray 49))) := ⟨heap_alloc_new w _, own_nil _ _, below1 w _⟩
  generalize sidL s x l = R at *
  generalize hfu : (fun t : Nat => (l.take t).foldl (sidS s x) ([], false)) = FT at *
  have HT : Hid (∀ t, (l.take t).foldl (sidS s x) ([], false) = FT t) := fun t => congrFun hfu t
  simp only [HT.out] at HLN HST HFL HI
  clear hfu HT
  obtain ⟨xi, xa, xp, xl⟩ := x
  simp only [ordE] at *
  go_enter Try.func31, Try.ntmps31
  go_wp2
  generalize w.alloc (.cells #[.int .i64 xi, .int .i64 xa, .int .i64 xp, .int .i64 xl] 49) = W0 at *
  go_loopw [7, 8, 9] (fun u pv x wr => ∃ t : Nat, ∃ ua un uc, ∃ pt : Bool, ∃ pre, u = .slice ua un uc ∧ pv = .bool pt ∧ x = .int .i64 t ∧ t ≤ l.length ∧ un = pre.length ∧ Hid (FT t = (pre, pt)) ∧ Hid (SO w ⟨xi, xa, xp, xl⟩ pre (.slice ua un uc) wr)) (fun _ _ x _ => l.length - (intOf x).toNat)
  case atStart => exact ⟨0, none, 0, 0, false, [], rfl, rfl, rfl, Nat.zero_le _, rfl, HI, X0⟩
  case round =>
    clear HI X0
    obtain ⟨t, ua, un, uc, pt, pre, rfl, rfl, rfl, ht, hun, HFT, HP⟩ := hrel
    have hpl := HLN.out t
    rw [HFT.out] at hpl
    simp only [List.length_take, List.length_nil] at hpl
    subst hun
    by_cases hlt : t < l.length
    · have hltI : (t : Int) < (l.length : Int) := by omega
      have ht0 : (0 : Int) ≤ (t : Int) := by omega
      have hwt : IntKind.i64.wrap ((t : Int) + 1) = ((t + 1 : Nat) : Int) := by rw [IntKind.wrap_i64]; omega
      obtain ⟨b, off, rfl, hbl, q0, q1, q2, q3⟩ := HH.out t hlt
      have hS := HST.out t hlt
      rw [HFT.out] at hS
      have HN := hideIt hS
      have HAY := hideIt (fun W => HA.out l[t] W)
      clear hS HST HFT HH HFL HLN HA
      generalize l[t] = y at *
      obtain ⟨yi, ya, yp, yl⟩ := y
      dsimp only at q0 q1 q2 q3 HAY
      cases pt
      · have HK : Hid (∀ W, Below wr.heap.size wr W → W.cell? ⟨w.heap.size, 0, none⟩ = some (.int .i64 xi) ∧ W.cell? ⟨w.heap.size, 1, none⟩ = some (.int .i64 xa) ∧ W.cell? ⟨w.heap.size, 2, none⟩ = some (.int .i64 xp) ∧ W.cell? ⟨w.heap.size, 3, none⟩ = some (.int .i64 xl) ∧ W.cell? ⟨b, off + t * 4, none⟩ = some (.int .i64 yi) ∧ W.cell? ⟨b, off + t * 4 + 1, none⟩ = some (.int .i64 ya) ∧ W.cell? ⟨b, off + t * 4 + 2, none⟩ = some (.int .i64 yp) ∧ W.cell? ⟨b, off + t * 4 + 3, none⟩ = some (.int .i64 yl)) := fun W hW => by
          have hp := HP.out.keep hW
          obtain ⟨⟨g0, g1, g2, g3⟩, -, gz⟩ := four5_at hp.bx
          exact ⟨g0, g1, g2, g3, (hp.bel.cell (p := ⟨b, off + t * 4, none⟩) hbl).trans q0, (hp.bel.cell (p := ⟨b, off + t * 4 + 1, none⟩) hbl).trans q1, (hp.bel.cell (p := ⟨b, off + t * 4 + 2, none⟩) hbl).trans q2, (hp.bel.cell (p := ⟨b, off + t * 4 + 3, none⟩) hbl).trans q3⟩
        have HC : Hid (∀ W, Below wr.heap.size wr W → Calls Try.prog 62 #[.int .i64 s, .agg #[.int .i64 xi, .int .i64 xa, .int .i64 xp, .int .i64 xl], .agg #[.int .i64 yi, .int .i64 ya, .int .i64 yp, .int .i64 yl]] W fun e w' => e = .returned (.bool (ahB s ⟨xi, xa, xp, xl⟩ ⟨yi, ya, yp, yl⟩)) ∧ Below wr.heap.size wr w' ∧ ((fun W => W.cell? ⟨w.heap.size, 0, none⟩ = some (.int .i64 xi) ∧ W.cell? ⟨w.heap.size, 1, none⟩ = some (.int .i64 xa) ∧ W.cell? ⟨w.heap.size, 2, none⟩ = some (.int .i64 xp) ∧ W.cell? ⟨w.heap.size, 3, none⟩ = some (.int .i64 xl) ∧ W.cell? ⟨b, off + t * 4, none⟩ = some (.int .i64 yi) ∧ W.cell? ⟨b, off + t * 4 + 1, none⟩ = some (.int .i64 ya) ∧ W.cell? ⟨b, off + t * 4 + 2, none⟩ = some (.int .i64 yp) ∧ W.cell? ⟨b, off + t * 4 + 3, none⟩ = some (.int .i64 yl)) w')) := fun W hW => (HAY.out W).mono (fun e w' hx => ⟨hx.1, below_via hW hx.2, HK.out w' (below_via hW hx.2)⟩)
        have c9 := HK.out wr (Below.refl _ _)
        have hblr : b < wr.heap.size := Nat.lt_of_lt_of_le hbl HP.out.bel.size
        have gz : w.heap.size < wr.heap.size := (Array.getElem?_eq_some_iff.1 HP.out.bx).1
        have HBW := hideIt (Below.refl wr.heap.size wr)
        clear HK HAY
        go_upto_region 7 with fail
        go_cut [10] from 19 to 25 (fun v wx => v = .bool (ahB s ⟨xi, xa, xp, xl⟩ ⟨yi, ya, yp, yl⟩) ∧ Below wr.heap.size wr wx)
        case first =>
          obtain ⟨c0, c1, c2, c3, c4, c5, c6, c7⟩ := c9
          go_region_held3 (fun W => W.cell? ⟨w.heap.size, 0, none⟩ = some (.int .i64 xi) ∧ W.cell? ⟨w.heap.size, 1, none⟩ = some (.int .i64 xa) ∧ W.cell? ⟨w.heap.size, 2, none⟩ = some (.int .i64 xp) ∧ W.cell? ⟨w.heap.size, 3, none⟩ = some (.int .i64 xl) ∧ W.cell? ⟨b, off + t * 4, none⟩ = some (.int .i64 yi) ∧ W.cell? ⟨b, off + t * 4 + 1, none⟩ = some (.int .i64 ya) ∧ W.cell? ⟨b, off + t * 4 + 2, none⟩ = some (.int .i64 yp) ∧ W.cell? ⟨b, off + t * 4 + 3, none⟩ = some (.int .i64 yl)) (go_keep) (first | (go_at_call 62; refine (HC.out _ (by first | exact HBW.out | exact HBW.out.drew)).mono ?_; clear HC HBW; rintro e w5 ⟨rfl, hst, j0, j1, j2, j3, j4, j5, j6, j7⟩))
          all_goals go_wp2_with fail
          all_goals go_meet
          all_goals exact ⟨rfl, hst⟩
        case rest =>
        obtain ⟨rfl, hb⟩ := hcut
        have HP1 := hideIt (HP.out.keep hb)
        clear c9 hb HC HBW HP hblr gz
        generalize hq : ahB s ⟨xi, xa, xp, xl⟩ ⟨yi, ya, yp, yl⟩ = qb at *
        cases qb
        · have HN2 : Hid (FT (t + 1) = (pre ++ [⟨yi, ya, yp, yl⟩], false)) := by
            show _ = _
            rw [HN.out]
            unfold sidS
            rw [if_neg (by simp [hq])]
          clear HN hq
          obtain ⟨a', c', w', hrun, hO'⟩ := HP1.out.app (OrdV.mk yi ya yp yl) (by first | omega | (simp; omega))
          (try simp only [List.length_append, List.length_cons, List.length_nil, Nat.zero_add] at hrun hO')
          simp only [ordE] at hrun
          have HRUN := hideIt hrun
          have Z3 := hideIt hO'
          clear hrun hO'
          have c0 := (HP1.out.bel.cell (p := ⟨b, off + t * 4, none⟩) hbl).trans q0
          have c1 := (HP1.out.bel.cell (p := ⟨b, off + t * 4 + 1, none⟩) hbl).trans q1
          have c2 := (HP1.out.bel.cell (p := ⟨b, off + t * 4 + 2, none⟩) hbl).trans q2
          have c3 := (HP1.out.bel.cell (p := ⟨b, off + t * 4 + 3, none⟩) hbl).trans q3
          have hblr : b < wc.heap.size := Nat.lt_of_lt_of_le hbl HP1.out.bel.size
          obtain ⟨⟨g0, g1, g2, g3⟩, -, gz⟩ := four5_at HP1.out.bx
          clear HP1
          go_wp2_with (at_builtin; refine Lib.wpList_append_run _ rfl _ _ _ _ rfl _ _ rfl rfl _ _ HRUN.out ?_)
          clear HRUN
          go_wp2
          go_roundw
          case rel => first | exact ⟨t + 1, a', _, c', false, _, rfl, rfl, by go_num, by omega, by simp, HN2, Z3⟩ | ((repeat apply Exists.intro); exact ⟨⟨t + 1, a', _, c', false, _, rfl, rfl, by go_num, by omega, by simp, HN2, Z3⟩, rfl⟩)
          case measure => simp [intOf]; omega
        · have HN2 : Hid (FT (t + 1) = (pre ++ [⟨xi, xa, xp, xl⟩] ++ [⟨yi, ya, yp, yl⟩], true)) := by
            show _ = _
            rw [HN.out]
            unfold sidS
            rw [if_pos ⟨rfl, hq⟩]
          clear HN hq
          obtain ⟨a3, c3, W3, hrun, hO'⟩ := HP1.out.app (OrdV.mk xi xa xp xl) (by first | omega | (simp; omega))
          (try simp only [List.length_append, List.length_cons, List.length_nil, Nat.zero_add] at hrun hO')
          simp only [ordE] at hrun
          have HRUN := hideIt hrun
          have Z3 := hideIt hO'
          clear hrun hO'
          have c0 := (HP1.out.bel.cell (p := ⟨b, off + t * 4, none⟩) hbl).trans q0
          have c1 := (HP1.out.bel.cell (p := ⟨b, off + t * 4 + 1, none⟩) hbl).trans q1
          have c2 := (HP1.out.bel.cell (p := ⟨b, off + t * 4 + 2, none⟩) hbl).trans q2
          have c3 := (HP1.out.bel.cell (p := ⟨b, off + t * 4 + 3, none⟩) hbl).trans q3
          have hblr : b < wc.heap.size := Nat.lt_of_lt_of_le hbl HP1.out.bel.size
          obtain ⟨⟨g0, g1, g2, g3⟩, -, gz⟩ := four5_at HP1.out.bx
          clear HP1
          go_upto_region 11 with (at_builtin; refine Lib.wpList_append_run _ rfl _ _ _ _ rfl _ _ rfl rfl _ _ HRUN.out ?_)
          clear HRUN
          clear c0 c1 c2 c3 hblr g0 g1 g2 g3 gz
          obtain ⟨a', c', w', hrun, hO'⟩ := Z3.out.app (OrdV.mk yi ya yp yl) (by first | omega | (simp; omega))
          (try simp only [List.length_append, List.length_cons, List.length_nil, Nat.zero_add] at hrun hO')
          simp only [ordE] at hrun
          have HRUN := hideIt hrun
          have Z5 := hideIt hO'
          clear hrun hO'
          have c0 := (Z3.out.bel.cell (p := ⟨b, off + t * 4, none⟩) hbl).trans q0
          have c1 := (Z3.out.bel.cell (p := ⟨b, off + t * 4 + 1, none⟩) hbl).trans q1
          have c2 := (Z3.out.bel.cell (p := ⟨b, off + t * 4 + 2, none⟩) hbl).trans q2
          have c3 := (Z3.out.bel.cell (p := ⟨b, off + t * 4 + 3, none⟩) hbl).trans q3
          have hblr : b < W3.heap.size := Nat.lt_of_lt_of_le hbl Z3.out.bel.size
          obtain ⟨⟨g0, g1, g2, g3⟩, -, gz⟩ := four5_at Z3.out.bx
          clear Z3
          go_wp2_with (at_builtin; refine Lib.wpList_append_run _ rfl _ _ _ _ rfl _ _ rfl rfl _ _ HRUN.out ?_)
          clear HRUN
          go_wp2
          go_roundw
          case rel => first | exact ⟨t + 1, a', _, c', true, _, rfl, rfl, by go_num, by omega, by simp, HN2, Z5⟩ | ((repeat apply Exists.intro); exact ⟨⟨t + 1, a', _, c', true, _, rfl, rfl, by go_num, by omega, by simp, HN2, Z5⟩, rfl⟩)
          case measure => simp [intOf]; omega
      · have HN2 : Hid (FT (t + 1) = (pre ++ [⟨yi, ya, yp, yl⟩], true)) := by
          show _ = _
          rw [HN.out]
          unfold sidS
          rw [if_neg (by simp)]
        clear HN HAY
        obtain ⟨a', c', w', hrun, hO'⟩ := HP.out.app (OrdV.mk yi ya yp yl) (by first | omega | (simp; omega))
        (try simp only [List.length_append, List.length_cons, List.length_nil, Nat.zero_add] at hrun hO')
        simp only [ordE] at hrun
        have HRUN := hideIt hrun
        have Z3 := hideIt hO'
        clear hrun hO'
        have c0 := (HP.out.bel.cell (p := ⟨b, off + t * 4, none⟩) hbl).trans q0
        have c1 := (HP.out.bel.cell (p := ⟨b, off + t * 4 + 1, none⟩) hbl).trans q1
        have c2 := (HP.out.bel.cell (p := ⟨b, off + t * 4 + 2, none⟩) hbl).trans q2
        have c3 := (HP.out.bel.cell (p := ⟨b, off + t * 4 + 3, none⟩) hbl).trans q3
        have hblr : b < wr.heap.size := Nat.lt_of_lt_of_le hbl HP.out.bel.size
        obtain ⟨⟨g0, g1, g2, g3⟩, -, gz⟩ := four5_at HP.out.bx
        clear HP
        go_wp2_with (at_builtin; refine Lib.wpList_append_run _ rfl _ _ _ _ rfl _ _ rfl rfl _ _ HRUN.out ?_)
        clear HRUN
        go_wp2
        go_roundw
        case rel => first | exact ⟨t + 1, a', _, c', true, _, rfl, rfl, by go_num, by omega, by simp, HN2, Z3⟩ | ((repeat apply Exists.intro); exact ⟨⟨t + 1, a', _, c', true, _, rfl, rfl, by go_num, by omega, by simp, HN2, Z3⟩, rfl⟩)
        case measure => simp [intOf]; omega
    · have hltI : ¬ (t : Int) < (l.length : Int) := by omega
      have het : t = l.length := by omega
      subst het
      have hF := HFL.out
      rw [HFT.out] at hF
      clear HFL HFT HST HH HLN HA
      cases pt
      · simp only [Bool.false_eq_true, if_false] at hF
        have HE := hideIt hF
        clear hF
        obtain ⟨a', c', w', hrun, hO'⟩ := HP.out.app (OrdV.mk xi xa xp xl) (by first | omega | (simp; omega))
        (try simp only [List.length_append, List.length_cons, List.length_nil, Nat.zero_add] at hrun hO')
        simp only [ordE] at hrun
        have HRUN := hideIt hrun
        have Z3 := hideIt hO'
        clear hrun hO'
        obtain ⟨⟨g0, g1, g2, g3⟩, -, gz⟩ := four5_at HP.out.bx
        clear HP
        go_wp2_with (at_builtin; refine Lib.wpList_append_run _ rfl _ _ _ _ rfl _ _ rfl rfl _ _ HRUN.out ?_)
        clear HRUN
        go_wp2
        go_ret
        unfold SiBack
        rw [← HE.out]
        exact ⟨a', c', by simp, own_sgot (bytes := 32) (by simpa using Z3.out.row) (by simp; omega), Z3.out.bel⟩
      · simp only [if_true] at hF
        have HE := hideIt hF
        clear hF
        go_wp2
        go_ret
        unfold SiBack
        rw [← HE.out]
        exact ⟨_, _, rfl, own_sgot (bytes := 32) HP.out.row (by omega), HP.out.bel⟩
end Go.Proofs.Ytpfdmjphoeljiaa
