/- Proved here: for every book and every order, rialtolaw13.BookPlaces answers true at the landed code, and its arguments read as before (P13.2: the trades, what is left and what is owed are just what the document says; what came out is the caller own); no condition. -/
import Derived.Test.YtpfdmjphoeljiaaPlT
import Derived.Test.YtpfdmjphoeljiaaPlX
import Derived.Test.YtpfdmjphoeljiaaRCo
import Derived.Deep.QuietTactic
import Derived.BigQuiet
import Derived.Test.YtpfdmjphoeljiaaCop
import Derived.Test.YtpfdmjphoeljiaaRPl
import Derived.Test.YtpfdmjphoeljiaaRPs
import Derived.Test.YtpfdmjphoeljiaaRPx
import Derived.Test.YtpfdmjphoeljiaaRCa
import Derived.Test.YtpfdmjphoeljiaaChecked
import Derived.ProofKit
import Derived.OpenShut
import Derived.Below
import Derived.ChangeOld
import Derived.SizedLaws
import Derived.Test.YtpfdmjphoeljiaaRows
namespace Go.Proofs.Ytpfdmjphoeljiaa
open Go.RowKit
set_option linter.all false
theorem sort_nil : sortL [] = [] := by simp [sortL]
theorem sort_one (x : Int) : sortL [x] = [x] := by simp [sortL]
def lane0 : LaneV := ⟨false, 1, [], [], []⟩
def lane1 : LaneV := ⟨false, 2, [], [⟨1, 1, 10, 5⟩], []⟩
def lane2 : LaneV := ⟨false, 3, [], [⟨1, 1, 10, 2⟩], [⟨1, 0, 30⟩, ⟨2, 0, 6⟩, ⟨2, 1, 3⟩]⟩
theorem chk0 : chkB lane0 = true := by
  unfold chkB unlB
  rw [show idsL lane0.bids ++ idsL lane0.asks = [] from rfl, sort_nil]
  rfl
theorem chk1 : chkB lane1 = true := by
  unfold chkB unlB
  rw [show idsL lane1.bids ++ idsL lane1.asks = [1] from rfl, sort_one]
  rfl
theorem place0 : placeL lane0 1 2 10 5 false = (lane1, [], 1, 0) := by
  unfold placeL refE
  rw [chk0]
  rfl
theorem place1 : placeL lane1 2 1 12 3 false = (lane2, [⟨2, 1, 10, 3⟩], 2, 0) := by
  unfold placeL refE
  rw [chk1]
  rfl
end Go.Proofs.Ytpfdmjphoeljiaa
namespace Go.Proofs.Ytpfdmjphoeljiaa
open Go.RowKit
set_option linter.all false
set_option maxHeartbeats 4000000 in
theorem new_is (w : World) : Calls Try.prog 18 #[] w fun e w' => e = .returned (.agg #[.bool false, .int .i64 1, .slice none 0 0, .slice none 0 0, .slice none 0 0]) ∧ Below w.heap.size w w' := by
  have HB := hideIt (below1 w (.cells #[.bool false, .int .i64 1, .slice none 0 0, .slice none 0 0, .slice none 0 0] 25))
  have H2 := hideIt (heap_alloc_new w (.cells #[.bool false, .int .i64 1, .slice none 0 0, .slice none 0 0, .slice none 0 0] 25))
  go_enter Try.func18, Try.ntmps18
  go_wp2
  exact bodyPost_ret (v := .agg #[.bool false, .int .i64 1, .slice none 0 0, .slice none 0 0, .slice none 0 0]) (by simp [results, Try.results18, go_sem, cell_at H2.out]) rfl ⟨rfl, HB.out⟩
theorem own_some {w : World} {B n : Nat} {e : TypeId} {z : Nat} {v : Value} {xs : List Value} (h : w.ownsRow B e z v n xs) (hn : 0 < n) : ∃ g c, v = .slice (some ⟨g, 0, none⟩) n c ∧ g < w.heap.size ∧ ∀ j u, xs[j]? = some u → w.cell? ⟨g, j, none⟩ = some u := by
  have hc := fun g hg => h.cells (g := g) hg
  obtain ⟨h1, ⟨rfl, h0⟩ | ⟨g, cap, cur, rfl, hB, hg, r⟩⟩ := h
  · omega
  · refine ⟨g, cap, rfl, (Array.getElem?_eq_some_iff.1 hg).1, fun j u hu => ?_⟩
    have := hc g rfl j u hu
    rwa [addN, Nat.zero_add] at this
theorem eqF (W : World) : (binOp .eql 68 (.agg #[.int .i64 2, .int .i64 1, .int .i64 10, .int .i64 3]) (.agg #[.int .i64 2, .int .i64 1, .int .i64 10, .int .i64 3])).run Try.prog W = .ok (.bool true) W := by
  simp [go_sem]
set_option maxHeartbeats 8000000 in
set_option maxRecDepth 100000 in
theorem live_is (w : World) : Calls Try.prog 11 #[] w fun e w' => e = .returned (.bool true) ∧ Below w.heap.size w w' := by
  have HN := hideIt (fun W => new_is W)
  have HP0 := hideIt (fun W => place_is lane0 (.slice none 0 0) (.slice none 0 0) (.slice none 0 0) 1 2 10 5 false W ⟨SGot.nil 4 32 ordE W none 0 (Nat.zero_le _), SGot.nil 4 32 ordE W none 0 (Nat.zero_le _), SGot.nil 3 24 oweE W none 0 (Nat.zero_le _)⟩)
  rw [place0] at HP0
  have HP1 := hideIt (fun W b a o (h : Lan W lane1 b a o) => place_is lane1 b a o 2 1 12 3 false W h)
  rw [place1] at HP1
  unfold PlBack at HP0 HP1
  unfold laneV laneA lane0 at HP0
  simp only [lane1, List.length_nil] at HP0
  go_enter Try.func11, Try.ntmps11
  go_wp2_with fail
  refine (HN.out _).mono ?_
  rintro e w1 ⟨rfl, hb⟩
  dsimp only
  have B1 := hideIt hb
  clear hb HN
  go_wp2_with fail
  refine (HP0.out _).mono ?_
  rintro e w2 ⟨b, a, o, f, rfl, hob, hoa, hoo, hfl, hb⟩
  dsimp only
  obtain ⟨ba, bc, rfl⟩ := own_len hob
  obtain ⟨aa, ac, rfl⟩ := own_len hoa
  obtain ⟨oa, oc, rfl⟩ := own_len hoo
  obtain ⟨fa, fc, rfl⟩ := own_len hfl
  have C2 := hideIt (below_via hb (below1 w2 (.cells #[.bool false, .int .i64 2, .slice ba 0 bc, .slice aa 1 ac, .slice oa 0 oc] 25)))
  have N2 := hideIt (heap_alloc_new w2 (.cells #[.bool false, .int .i64 2, .slice ba 0 bc, .slice aa 1 ac, .slice oa 0 oc] 25))
  have HL : Hid (Lan (w2.alloc (.cells #[.bool false, .int .i64 2, .slice ba 0 bc, .slice aa 1 ac, .slice oa 0 oc] 25)) lane1 (.slice ba 0 bc) (.slice aa 1 ac) (.slice oa 0 oc)) := ⟨own_sgot (l := lane1.bids) (own_keep hob (below1 w2 _)) (by decide), own_sgot (l := lane1.asks) (own_keep hoa (below1 w2 _)) (by decide), own_sgot (l := lane1.owed) (own_keep hoo (below1 w2 _)) (by decide)⟩
  have B2 := hideIt (below_via B1.out C2.out)
  clear hob hoa hoo hfl hb C2 B1 HP0
  go_upto_region 2 with fail
  generalize w2.alloc (.cells #[.bool false, .int .i64 2, .slice ba 0 bc, .slice aa 1 ac, .slice oa 0 oc] 25) = w3 at *
  generalize w2.heap.size = k2 at *
  have c0 : w3.cell? ⟨k2, 0, none⟩ = some (.bool false) := by rw [cell_at N2.out]; rfl
  have c1 : w3.cell? ⟨k2, 1, none⟩ = some (.int .i64 2) := by rw [cell_at N2.out]; rfl
  have c2 : w3.cell? ⟨k2, 2, none⟩ = some (.slice ba 0 bc) := by rw [cell_at N2.out]; rfl
  have c3 : w3.cell? ⟨k2, 3, none⟩ = some (.slice aa 1 ac) := by rw [cell_at N2.out]; rfl
  have c4 : w3.cell? ⟨k2, 4, none⟩ = some (.slice oa 0 oc) := by rw [cell_at N2.out]; rfl
  replace HP1 := hideIt (HP1.out _ _ _ _ HL.out)
  unfold laneV laneA lane1 lane2 at HP1
  simp only [List.length_nil, List.length_cons] at HP1
  clear HL
  go_wp2_with fail
  refine HP1.out.mono ?_
  rintro e w4 ⟨b, a, o, f, rfl, hob, hoa, hoo, hfl, hb⟩
  dsimp only
  obtain ⟨qa, ca, rfl, la, ra⟩ := own_some hoa (by decide)
  obtain ⟨qo, co, rfl, lo, ro⟩ := own_some hoo (by decide)
  obtain ⟨qf, cf, rfl, lf, rf⟩ := own_some hfl (by decide)
  obtain ⟨xa, xc, rfl⟩ := own_len hob
  have HB := hideIt (below_via B2.out (below_via hb (below1 w4 (.cells #[.bool false, .int .i64 3, .slice xa 0 xc, .slice (some ⟨qa, 0, none⟩) 1 ca, .slice (some ⟨qo, 0, none⟩) 3 co] 25))))
  have f0 := rf 0 _ rfl
  have f1 := rf 1 _ rfl
  have f2 := rf 2 _ rfl
  have f3 := rf 3 _ rfl
  have a3 := ra 3 _ rfl
  have o5 := ro 5 _ rfl
  have na : qa ≠ w4.heap.size := by omega
  have no : qo ≠ w4.heap.size := by omega
  have nf : qf ≠ w4.heap.size := by omega
  clear hob hoa hoo hfl hb ra ro rf HP1 B2 N2 c0 c1 c2 c3 c4
  simp only at f0 f1 f2 f3 a3 o5
  have heq := eqF
  go_wp2
  go_ret
  exact ⟨rfl, HB.out⟩
end Go.Proofs.Ytpfdmjphoeljiaa
namespace Go.Proofs.Ytpfdmjphoeljiaa
open Go.RowKit
set_option linter.all false
theorem neq36 (a b c d : Int) (w : World) : (binOp .neq 49 (.agg #[.int .i64 a, .int .i64 b, .int .i64 c, .int .i64 d]) (.agg #[.int .i64 a, .int .i64 b, .int .i64 c, .int .i64 d])).run Try.prog w = .ok (.bool false) w := by
  simp [go_sem]
theorem neq63 (a b c : Int) (w : World) : (binOp .neq 66 (.agg #[.int .i64 a, .int .i64 b, .int .i64 c]) (.agg #[.int .i64 a, .int .i64 b, .int .i64 c])).run Try.prog w = .ok (.bool false) w := by
  simp [go_sem]
set_option maxHeartbeats 4000000 in
set_option maxRecDepth 100000 in
theorem sameO_is (v v' : Value) (l : List OrdV) (w : World) (h : Ords w v l) (h' : Ords w v' l) : Calls Try.prog 32 #[v, v'] w fun e w' => e = .returned (.bool true) ∧ Below w.heap.size w w' := by
  obtain ⟨a, c, rfl, h8, hr⟩ := h.ords
  obtain ⟨a', c', rfl, h8', hr'⟩ := h'.ords
  have HH := hideIt hr
  have HM := hideIt hr'
  clear hr hr' h h'
  go_enter Try.func32, Try.ntmps32
  go_wp2
  go_loopw [5] (fun v wr => ∃ t : Nat, v = .int .i64 t ∧ t ≤ l.length ∧ Hid (Below w.heap.size w wr)) (fun v _ => l.length - (intOf v).toNat)
  case atStart => exact ⟨0, rfl, Nat.zero_le _, hideIt (Below.refl _ _)⟩
  case round =>
    obtain ⟨t, rfl, ht, HR⟩ := hrel
    by_cases hlt : t < l.length
    · have hltI : (t : Int) < (l.length : Int) := by omega
      have ht0 : (0 : Int) ≤ (t : Int) := by omega
      have hw : IntKind.i64.wrap ((t : Int) + 1) = ((t + 1 : Nat) : Int) := by rw [IntKind.wrap_i64]; omega
      have hB := HR.out
      obtain ⟨b, off, rfl, hbl, q0, q1, q2, q3⟩ := HH.out t hlt
      have hblr : b < wr.heap.size := Nat.lt_of_lt_of_le hbl hB.size
      have c0 := (hB.cell (p := ⟨b, off + t * 4, none⟩) hbl).trans q0
      have c1 := (hB.cell (p := ⟨b, off + t * 4 + 1, none⟩) hbl).trans q1
      have c2 := (hB.cell (p := ⟨b, off + t * 4 + 2, none⟩) hbl).trans q2
      have c3 := (hB.cell (p := ⟨b, off + t * 4 + 3, none⟩) hbl).trans q3
      clear q0 q1 q2 q3
      obtain ⟨b', off', rfl, hbl', q0, q1, q2, q3⟩ := HM.out t hlt
      have hblr' : b' < wr.heap.size := Nat.lt_of_lt_of_le hbl' hB.size
      have d0 := (hB.cell (p := ⟨b', off' + t * 4, none⟩) hbl').trans q0
      have d1 := (hB.cell (p := ⟨b', off' + t * 4 + 1, none⟩) hbl').trans q1
      have d2 := (hB.cell (p := ⟨b', off' + t * 4 + 2, none⟩) hbl').trans q2
      have d3 := (hB.cell (p := ⟨b', off' + t * 4 + 3, none⟩) hbl').trans q3
      clear q0 q1 q2 q3 hB HH HM
      generalize l[t] = en at *
      obtain ⟨x, y, z, u⟩ := en
      dsimp only at c0 c1 c2 c3 d0 d1 d2 d3
      have q1 := fun W => neq36 x y z u W
      go_wp2_with fail
      go_quiet (fail)
      go_wp2
      go_roundw
      case rel => exact ⟨t + 1, by go_num, by omega, hideIt (below_drewN HR.out _)⟩
      case measure => simp [intOf]; omega
    · have hltI : ¬ (t : Int) < (l.length : Int) := by omega
      clear HH HM
      go_wp2
      go_ret
      exact ⟨rfl, HR.out⟩
/-- Two books in their boxes. -/
structure B2 (w : World) (L : LaneV) (b a o b' a' o' : Value) (W : World) : Prop where
  b0 : W.heap[w.heap.size]? = some (.cells #[.bool L.call, .int .i64 L.next, b, a, o] 25 (0, 0))
  b1 : W.heap[w.heap.size + 1]? = some (.cells #[.bool L.call, .int .i64 L.next, b', a', o'] 25 (0, 0))
  bel : Below w.heap.size w W
theorem B2.keep {w W W' : World} {L : LaneV} {b a o b' a' o' : Value} (h : B2 w L b a o b' a' o' W) (hb : Below W.heap.size W W') : B2 w L b a o b' a' o' W' :=
  ⟨(hb.block _ (Array.getElem?_eq_some_iff.1 h.b0).1).trans h.b0, (hb.block _ (Array.getElem?_eq_some_iff.1 h.b1).1).trans h.b1, below_via h.bel hb⟩
theorem B2.first (w : World) (L : LaneV) (b a o b' a' o' : Value) : B2 w L b a o b' a' o' ((w.alloc (.cells #[.bool L.call, .int .i64 L.next, b, a, o] 25)).alloc (.cells #[.bool L.call, .int .i64 L.next, b', a', o'] 25)) :=
  ⟨(two_heap w _ _).1, (two_heap w _ _).2.1, below2 w _ _⟩
set_option maxHeartbeats 8000000 in
set_option maxRecDepth 100000 in
theorem sameL_is (L : LaneV) (b a o b' a' o' : Value) (w : World) (h : Lan w L b a o) (h' : Lan w L b' a' o') : Calls Try.prog 8 #[laneV L b a o, laneV L b' a' o'] w fun e w' => e = .returned (.bool true) ∧ Below w.heap.size w w' := by
  have X0 := hideIt (B2.first w L b a o b' a' o')
  have H1 := hideIt (fun W (hW : Below w.heap.size w W) => sameO_is b b' L.bids W (h.keep hW).bids (h'.keep hW).bids)
  have H2 := hideIt (fun W (hW : Below w.heap.size w W) => sameO_is a a' L.asks W (h.keep hW).asks (h'.keep hW).asks)
  obtain ⟨ba, bc, rfl⟩ := h.bids.slice
  obtain ⟨aa, ac, rfl⟩ := h.asks.slice
  obtain ⟨oa, oc, rfl, h8, hr⟩ := h.owed.owes
  obtain ⟨ba', bc', rfl⟩ := h'.bids.slice
  obtain ⟨aa', ac', rfl⟩ := h'.asks.slice
  obtain ⟨oa', oc', rfl, h8', hr'⟩ := h'.owed.owes
  have HH := hideIt hr
  have HM := hideIt hr'
  clear h h' hr hr'
  unfold laneV laneA
  obtain ⟨cl, nx, bids, asks, owed⟩ := L
  simp only at *
  have qb : ∀ W, (binOp .neq 4 (.bool cl) (.bool cl)).run Try.prog W = .ok (.bool false) W := fun W => by cases cl <;> simp [go_sem]
  go_enter Try.func8, Try.ntmps8
  go_upto_region 1 with fail
  generalize (w.alloc (.cells #[.bool cl, .int .i64 nx, .slice ba bids.length bc, .slice aa asks.length ac, .slice oa owed.length oc] 25)).alloc (.cells #[.bool cl, .int .i64 nx, .slice ba' bids.length bc', .slice aa' asks.length ac', .slice oa' owed.length oc'] 25) = W0 at *
  obtain ⟨⟨x0, x1, x2, x3, x4⟩, -, xl⟩ := five_at X0.out.b0
  obtain ⟨⟨y0, y1, y2, y3, y4⟩, -, yl⟩ := five_at X0.out.b1
  dsimp only at x0 x1 y0 y1
  go_wp2_with fail
  refine (H1.out _ X0.out.bel).mono ?_
  rintro e w1 ⟨rfl, hb⟩
  dsimp only
  have X1 := hideIt (X0.out.keep hb)
  clear x0 x1 x2 x3 x4 xl y0 y1 y2 y3 y4 yl
  clear hb X0 H1
  obtain ⟨⟨x0, x1, x2, x3, x4⟩, -, xl⟩ := five_at X1.out.b0
  obtain ⟨⟨y0, y1, y2, y3, y4⟩, -, yl⟩ := five_at X1.out.b1
  go_wp2_with fail
  refine (H2.out _ X1.out.bel).mono ?_
  rintro e w2 ⟨rfl, hb⟩
  dsimp only
  have X2 := hideIt (X1.out.keep hb)
  clear x0 x1 x2 x3 x4 xl y0 y1 y2 y3 y4 yl
  clear hb X1 H2
  obtain ⟨⟨x0, x1, x2, x3, x4⟩, -, xl⟩ := five_at X2.out.b0
  obtain ⟨⟨y0, y1, y2, y3, y4⟩, -, yl⟩ := five_at X2.out.b1
  go_upto_region 4 with fail
  clear x0 x1 x2 x3 x4 xl y0 y1 y2 y3 y4 yl
  go_loopw [5] (fun v wr => ∃ t : Nat, v = .int .i64 t ∧ t ≤ owed.length ∧ Hid (B2 w ⟨cl, nx, bids, asks, owed⟩ (.slice ba bids.length bc) (.slice aa asks.length ac) (.slice oa owed.length oc) (.slice ba' bids.length bc') (.slice aa' asks.length ac') (.slice oa' owed.length oc') wr)) (fun v _ => owed.length - (intOf v).toNat)
  case atStart => exact ⟨0, rfl, Nat.zero_le _, X2⟩
  case round =>
    clear X2
    obtain ⟨t, rfl, ht, HR⟩ := hrel
    obtain ⟨⟨x0, x1, x2, x3, x4⟩, -, xl⟩ := five_at HR.out.b0
    obtain ⟨⟨y0, y1, y2, y3, y4⟩, -, yl⟩ := five_at HR.out.b1
    by_cases hlt : t < owed.length
    · have hltI : (t : Int) < (owed.length : Int) := by omega
      have ht0 : (0 : Int) ≤ (t : Int) := by omega
      have hw : IntKind.i64.wrap ((t : Int) + 1) = ((t + 1 : Nat) : Int) := by rw [IntKind.wrap_i64]; omega
      have hB := HR.out.bel
      obtain ⟨b, off, rfl, hbl, q0, q1, q2⟩ := HH.out t hlt
      have hblr : b < wr.heap.size := Nat.lt_of_lt_of_le hbl hB.size
      have c0 := (hB.cell (p := ⟨b, off + t * 3, none⟩) hbl).trans q0
      have c1 := (hB.cell (p := ⟨b, off + t * 3 + 1, none⟩) hbl).trans q1
      have c2 := (hB.cell (p := ⟨b, off + t * 3 + 2, none⟩) hbl).trans q2
      clear q0 q1 q2
      obtain ⟨b', off', rfl, hbl', q0, q1, q2⟩ := HM.out t hlt
      have hblr' : b' < wr.heap.size := Nat.lt_of_lt_of_le hbl' hB.size
      have d0 := (hB.cell (p := ⟨b', off' + t * 3, none⟩) hbl').trans q0
      have d1 := (hB.cell (p := ⟨b', off' + t * 3 + 1, none⟩) hbl').trans q1
      have d2 := (hB.cell (p := ⟨b', off' + t * 3 + 2, none⟩) hbl').trans q2
      clear q0 q1 q2 hB HH HM
      generalize owed[t] = en at *
      obtain ⟨x, y, z⟩ := en
      dsimp only at c0 c1 c2 d0 d1 d2
      have q1 := fun W => neq63 x y z W
      go_wp2_with fail
      go_quiet (fail)
      go_wp2
      go_roundw
      case rel => exact ⟨t + 1, by go_num, by omega, hideIt (HR.out.keep (below_drewN (Below.refl _ _) _))⟩
      case measure => simp [intOf]; omega
    · have hltI : ¬ (t : Int) < (owed.length : Int) := by omega
      clear HH HM
      go_wp2
      go_ret
      exact ⟨rfl, HR.out.bel⟩
end Go.Proofs.Ytpfdmjphoeljiaa
namespace Go.Proofs.Ytpfdmjphoeljiaa
open Go.RowKit
set_option linter.all false
theorem neq68 (a b c d : Int) (w : World) : (binOp .neq 68 (.agg #[.int .i64 a, .int .i64 b, .int .i64 c, .int .i64 d]) (.agg #[.int .i64 a, .int .i64 b, .int .i64 c, .int .i64 d])).run Try.prog w = .ok (.bool false) w := by
  simp [go_sem]
set_option maxHeartbeats 4000000 in
set_option maxRecDepth 100000 in
theorem sameF_is (v v' : Value) (l : List FillV) (w : World) (h : Fils w v l) (h' : Fils w v' l) : Calls Try.prog 9 #[v, v'] w fun e w' => e = .returned (.bool true) ∧ Below w.heap.size w w' := by
  obtain ⟨a, c, rfl, h8, hr⟩ := h.fils
  obtain ⟨a', c', rfl, h8', hr'⟩ := h'.fils
  have HH := hideIt hr
  have HM := hideIt hr'
  clear hr hr' h h'
  go_enter Try.func9, Try.ntmps9
  go_wp2
  go_loopw [5] (fun v wr => ∃ t : Nat, v = .int .i64 t ∧ t ≤ l.length ∧ Hid (Below w.heap.size w wr)) (fun v _ => l.length - (intOf v).toNat)
  case atStart => exact ⟨0, rfl, Nat.zero_le _, hideIt (Below.refl _ _)⟩
  case round =>
    obtain ⟨t, rfl, ht, HR⟩ := hrel
    by_cases hlt : t < l.length
    · have hltI : (t : Int) < (l.length : Int) := by omega
      have ht0 : (0 : Int) ≤ (t : Int) := by omega
      have hw : IntKind.i64.wrap ((t : Int) + 1) = ((t + 1 : Nat) : Int) := by rw [IntKind.wrap_i64]; omega
      have hB := HR.out
      obtain ⟨b, off, rfl, hbl, q0, q1, q2, q3⟩ := HH.out t hlt
      have hblr : b < wr.heap.size := Nat.lt_of_lt_of_le hbl hB.size
      have c0 := (hB.cell (p := ⟨b, off + t * 4, none⟩) hbl).trans q0
      have c1 := (hB.cell (p := ⟨b, off + t * 4 + 1, none⟩) hbl).trans q1
      have c2 := (hB.cell (p := ⟨b, off + t * 4 + 2, none⟩) hbl).trans q2
      have c3 := (hB.cell (p := ⟨b, off + t * 4 + 3, none⟩) hbl).trans q3
      clear q0 q1 q2 q3
      obtain ⟨b', off', rfl, hbl', q0, q1, q2, q3⟩ := HM.out t hlt
      have hblr' : b' < wr.heap.size := Nat.lt_of_lt_of_le hbl' hB.size
      have d0 := (hB.cell (p := ⟨b', off' + t * 4, none⟩) hbl').trans q0
      have d1 := (hB.cell (p := ⟨b', off' + t * 4 + 1, none⟩) hbl').trans q1
      have d2 := (hB.cell (p := ⟨b', off' + t * 4 + 2, none⟩) hbl').trans q2
      have d3 := (hB.cell (p := ⟨b', off' + t * 4 + 3, none⟩) hbl').trans q3
      clear q0 q1 q2 q3 hB HH HM
      generalize l[t] = en at *
      obtain ⟨x, y, z, u⟩ := en
      dsimp only at c0 c1 c2 c3 d0 d1 d2 d3
      have q1 := fun W => neq68 x y z u W
      go_wp2_with fail
      go_quiet (fail)
      go_wp2
      go_roundw
      case rel => exact ⟨t + 1, by go_num, by omega, hideIt (below_drewN HR.out _)⟩
      case measure => simp [intOf]; omega
    · have hltI : ¬ (t : Int) < (l.length : Int) := by omega
      clear HH HM
      go_wp2
      go_ret
      exact ⟨rfl, HR.out⟩
end Go.Proofs.Ytpfdmjphoeljiaa
namespace Go.Proofs.Ytpfdmjphoeljiaa
open Go.RowKit
set_option linter.all false
theorem row_setG {w : World} {B n g j z : Nat} {e : TypeId} {v u : Value} {xs : List Value} {cur : Array Value} (ho : w.ownsRow B e z v n xs) (hg : w.heap[g]? = some (.cells cur e (0, 0))) : ∃ ys, (w.setCell ⟨g, j, none⟩ u).ownsRow B e z v n ys := by
  obtain ⟨h1, hn | ⟨g', cap, cur', hv, hb, hg', hnc, hcm, hs, ht⟩⟩ := ho
  · exact ⟨xs, h1, .inl hn⟩
  · by_cases e1 : g' = g
    · subst e1
      refine ⟨(cur'.setIfInBounds j u).toList.take (n * z), ?_, .inr ⟨g', cap, cur'.setIfInBounds j u, hv, hb, heap_set hg' j u, hnc, hcm, by simp [hs], rfl⟩⟩
      rw [List.length_take]
      simp [hs]
      rw [Nat.min_eq_left hnc]
    · exact ⟨xs, h1, .inr ⟨g', cap, cur', hv, hb, (heap_set_other _ _ _ _ _ e1).trans hg', hnc, hcm, hs, ht⟩⟩
theorem row_atG {w : World} {B n z : Nat} {e : TypeId} {v : Value} {xs : List Value} (ho : w.ownsRow B e z v n xs) (q : Nat) (hq : q < z) : ∃ a c, v = .slice a n c ∧ ∀ i, i < n → ∃ g off cur u, a = some ⟨g, off, none⟩ ∧ B ≤ g ∧ w.heap[g]? = some (.cells cur e (0, 0)) ∧ g < w.heap.size ∧ w.cell? ⟨g, off + i * z + q, none⟩ = some u ∧ w.frozen? ⟨g, off + i * z + q, none⟩ = false := by
  obtain ⟨h1, ⟨rfl, rfl⟩ | ⟨g, cap, cur, rfl, hb, hg, hnc, hcm, hs, ht⟩⟩ := ho
  · exact ⟨_, _, rfl, fun i hi => by omega⟩
  · refine ⟨_, _, rfl, fun i hi => ?_⟩
    have hlt : 0 + i * z + q < cur.size := by
      rw [hs]
      have : (i + 1) * z ≤ cap * z := Nat.mul_le_mul_right _ (by omega)
      rw [Nat.add_mul, Nat.one_mul] at this
      omega
    exact ⟨g, 0, cur, cur[0 + i * z + q], rfl, hb, hg, (Array.getElem?_eq_some_iff.1 hg).1, by rw [cell_at hg, Array.getElem?_eq_getElem hlt], free_at hg _⟩
theorem ty_set {W : World} {b j k : Nat} {u : Value} {cs cur : Array Value} {t e : TypeId} (h : W.heap[b]? = some (.cells cs t (0, 0))) (hg : W.heap[k]? = some (.cells cur e (0, 0))) (hne : t ≠ e) : (W.setCell ⟨k, j, none⟩ u).heap[b]? = some (.cells cs t (0, 0)) :=
  setOther _ h (fun e1 => by rw [e1, hg] at h; simp at h; exact hne h.2.symm)
/-- A book while it is spoiled. -/
structure SP (w : World) (B K : Nat) (cs : Array Value) (b a o : Value) (nb na no : Nat) (W : World) : Prop where
  bx : W.heap[K]? = some (.cells cs 25 (0, 0))
  ob : ∃ xs, W.ownsRow B 49 4 b nb xs
  oa : ∃ xs, W.ownsRow B 49 4 a na xs
  oo : ∃ xs, W.ownsRow B 66 3 o no xs
  bel : Below B w W
theorem SP.s49 {w W : World} {B K : Nat} {cs : Array Value} {b a o u : Value} {nb na no g j : Nat} {cur : Array Value} (h : SP w B K cs b a o nb na no W) (hg : W.heap[g]? = some (.cells cur 49 (0, 0))) (hB : B ≤ g) : SP w B K cs b a o nb na no (W.setCell ⟨g, j, none⟩ u) := by
  obtain ⟨xb, hb⟩ := h.ob
  obtain ⟨xa, ha⟩ := h.oa
  obtain ⟨xo, ho⟩ := h.oo
  exact ⟨ty_set h.bx hg (by decide), row_setG hb hg, row_setG ha hg, ⟨xo, own_cell ho hg (by decide)⟩, belowSet _ h.bel hB⟩
theorem SP.s66 {w W : World} {B K : Nat} {cs : Array Value} {b a o u : Value} {nb na no g j : Nat} {cur : Array Value} (h : SP w B K cs b a o nb na no W) (hg : W.heap[g]? = some (.cells cur 66 (0, 0))) (hB : B ≤ g) : SP w B K cs b a o nb na no (W.setCell ⟨g, j, none⟩ u) := by
  obtain ⟨xb, hb⟩ := h.ob
  obtain ⟨xa, ha⟩ := h.oa
  obtain ⟨xo, ho⟩ := h.oo
  exact ⟨ty_set h.bx hg (by decide), ⟨xb, own_cell hb hg (by decide)⟩, ⟨xa, own_cell ha hg (by decide)⟩, row_setG ho hg, belowSet _ h.bel hB⟩
set_option maxHeartbeats 16000000 in
set_option maxRecDepth 100000 in
theorem spoil_is (L : LaneV) (b a o : Value) (w : World) (B : Nat) (hB : B ≤ w.heap.size) (hlb : L.bids.length ≤ 140737488355328) (hla : L.asks.length ≤ 140737488355328) (hlo : L.owed.length ≤ 140737488355328) (ob : ∃ xs, w.ownsRow B 49 4 b L.bids.length xs) (oa : ∃ xs, w.ownsRow B 49 4 a L.asks.length xs) (oo : ∃ xs, w.ownsRow B 66 3 o L.owed.length xs) : Calls Try.prog 10 #[laneV L b a o] w fun e w' => e = .returned (.tuple #[]) ∧ Below B w w' := by
  have hb1 := below1 w (.cells (laneA L b a o) 25)
  have X0 : Hid (SP w B w.heap.size (laneA L b a o) b a o L.bids.length L.asks.length L.owed.length (w.alloc (.cells (laneA L b a o) 25))) := by
    obtain ⟨xb, hb⟩ := ob
    obtain ⟨xa, ha⟩ := oa
    obtain ⟨xo, ho⟩ := oo
    exact ⟨heap_alloc_new w _, ⟨xb, own_keep hb hb1⟩, ⟨xa, own_keep ha hb1⟩, ⟨xo, own_keep ho hb1⟩, hb1.mono hB⟩
  clear hb1
  obtain ⟨ba, bc, rfl⟩ : ∃ x c, b = .slice x L.bids.length c := by obtain ⟨_, h⟩ := ob; exact own_len h
  obtain ⟨aa, ac, rfl⟩ : ∃ x c, a = .slice x L.asks.length c := by obtain ⟨_, h⟩ := oa; exact own_len h
  obtain ⟨oa', oc, rfl⟩ : ∃ x c, o = .slice x L.owed.length c := by obtain ⟨_, h⟩ := oo; exact own_len h
  clear ob oa oo
  unfold laneV
  unfold laneA at *
  generalize L.bids.length = nb at *
  generalize L.asks.length = na at *
  generalize L.owed.length = no at *
  go_enter Try.func10, Try.ntmps10
  go_upto_region 2 with fail
  generalize w.alloc (.cells #[.bool L.call, .int .i64 L.next, .slice ba nb bc, .slice aa na ac, .slice oa' no oc] 25) = W0 at *
  generalize w.heap.size = K at *
  go_loopw [2] (fun x wr => ∃ t : Nat, x = .int .i64 t ∧ t ≤ nb ∧ Hid (SP w B K #[.bool L.call, .int .i64 L.next, .slice ba nb bc, .slice aa na ac, .slice oa' no oc] (.slice ba nb bc) (.slice aa na ac) (.slice oa' no oc) nb na no wr)) (fun x _ => nb - (intOf x).toNat)
  case atStart => exact ⟨0, rfl, Nat.zero_le _, X0⟩
  case round =>
    clear X0
    obtain ⟨t, rfl, ht, HW⟩ := hrel
    obtain ⟨⟨c0, c1, c2, c3, c4⟩, -, cl0⟩ := five_at HW.out.bx
    by_cases hlt : t < nb
    · have hltI : (t : Int) < (nb : Int) := by omega
      have ht0 : (0 : Int) ≤ (t : Int) := by omega
      have hwt : IntKind.i64.wrap ((t : Int) + 1) = ((t + 1 : Nat) : Int) := by rw [IntKind.wrap_i64]; omega
      obtain ⟨xs, hx⟩ := HW.out.ob
      obtain ⟨a', c', e, hr⟩ := row_atG hx 0 (by omega)
      simp only [Value.slice.injEq, true_and] at e
      obtain ⟨rfl, rfl⟩ := e
      obtain ⟨g, off, cu, u, rfl, hBb, hgb, hbl, hcu, hf⟩ := hr t hlt
      have Z := hideIt (HW.out.s49 (j := off + t * 4) (u := .int .i64 (-1)) hgb hBb)
      simp only [Nat.add_zero] at hcu hf
      clear hr hx hgb HW
      go_wp2
      go_roundw
      case rel => exact ⟨t + 1, by go_num, by omega, Z⟩
      case measure => simp [intOf]; omega
    · have hltI : ¬ (t : Int) < (nb : Int) := by omega
      go_upto_region 6 with fail
      clear c0 c1 c2 c3 c4 cl0 ht hlt hltI
      go_loopw [3] (fun x wr => ∃ t : Nat, x = .int .i64 t ∧ t ≤ na ∧ Hid (SP w B K #[.bool L.call, .int .i64 L.next, .slice ba nb bc, .slice aa na ac, .slice oa' no oc] (.slice ba nb bc) (.slice aa na ac) (.slice oa' no oc) nb na no wr)) (fun x _ => na - (intOf x).toNat)
      case atStart => exact ⟨0, rfl, Nat.zero_le _, HW⟩
      case round =>
        clear HW
        obtain ⟨t, rfl, ht, HW⟩ := hrel
        obtain ⟨⟨c0, c1, c2, c3, c4⟩, -, cl0⟩ := five_at HW.out.bx
        by_cases hlt : t < na
        · have hltI : (t : Int) < (na : Int) := by omega
          have ht0 : (0 : Int) ≤ (t : Int) := by omega
          have hwt : IntKind.i64.wrap ((t : Int) + 1) = ((t + 1 : Nat) : Int) := by rw [IntKind.wrap_i64]; omega
          obtain ⟨xs, hx⟩ := HW.out.oa
          obtain ⟨a', c', e, hr⟩ := row_atG hx 0 (by omega)
          simp only [Value.slice.injEq, true_and] at e
          obtain ⟨rfl, rfl⟩ := e
          obtain ⟨g, off, cu, u, rfl, hBb, hgb, hbl, hcu, hf⟩ := hr t hlt
          have Z := hideIt (HW.out.s49 (j := off + t * 4) (u := .int .i64 (-2)) hgb hBb)
          simp only [Nat.add_zero] at hcu hf
          clear hr hx hgb HW
          go_wp2
          go_roundw
          case rel => exact ⟨t + 1, by go_num, by omega, Z⟩
          case measure => simp [intOf]; omega
        · have hltI : ¬ (t : Int) < (na : Int) := by omega
          go_upto_region 10 with fail
          clear c0 c1 c2 c3 c4 cl0 ht hlt hltI
          go_loopw [4] (fun x wr => ∃ t : Nat, x = .int .i64 t ∧ t ≤ no ∧ Hid (SP w B K #[.bool L.call, .int .i64 L.next, .slice ba nb bc, .slice aa na ac, .slice oa' no oc] (.slice ba nb bc) (.slice aa na ac) (.slice oa' no oc) nb na no wr)) (fun x _ => no - (intOf x).toNat)
          case atStart => exact ⟨0, rfl, Nat.zero_le _, HW⟩
          case round =>
            clear HW
            obtain ⟨t, rfl, ht, HW⟩ := hrel
            obtain ⟨⟨c0, c1, c2, c3, c4⟩, -, cl0⟩ := five_at HW.out.bx
            by_cases hlt : t < no
            · have hltI : (t : Int) < (no : Int) := by omega
              have ht0 : (0 : Int) ≤ (t : Int) := by omega
              have hwt : IntKind.i64.wrap ((t : Int) + 1) = ((t + 1 : Nat) : Int) := by rw [IntKind.wrap_i64]; omega
              obtain ⟨xs, hx⟩ := HW.out.oo
              obtain ⟨a', c', e, hr⟩ := row_atG hx 2 (by omega)
              simp only [Value.slice.injEq, true_and] at e
              obtain ⟨rfl, rfl⟩ := e
              obtain ⟨g, off, cu, u, rfl, hBb, hgb, hbl, hcu, hf⟩ := hr t hlt
              have Z := hideIt (HW.out.s66 (j := off + t * 3 + 2) (u := .int .i64 (-3)) hgb hBb)
              clear hr hx hgb HW
              go_wp2
              go_roundw
              case rel => exact ⟨t + 1, by go_num, by omega, Z⟩
              case measure => simp [intOf]; omega
            · have hltI : ¬ (t : Int) < (no : Int) := by omega
              go_wp2
              exact bodyPost_end (results_none rfl _ _ _) rfl ⟨rfl, HW.out.bel⟩
end Go.Proofs.Ytpfdmjphoeljiaa
namespace Go.Proofs.Ytpfdmjphoeljiaa
open Go.RowKit
set_option linter.all false
theorem rPlace_is (L : LaneV) (b a o : Value) (acc s price n : Int) (now : Bool) (w : World) (h : Lan w L b a o) : Calls Try.prog 7 #[laneV L b a o, .int .i64 acc, .int .i64 s, .int .i64 price, .int .i64 n, .bool now] w (DpBack (placeL L acc s price n now) w) := by
  by_cases hr : refE L acc s price n now = 0
  · obtain ⟨-, ha, -⟩ := ref_ok hr
    obtain ⟨-, hs, -⟩ := arg_ok ha
    rcases hs with rfl | rfl
    · exact rPlace1_is L b a o acc price n now w h hr
    · exact rPlace2_is L b a o acc price n now w h hr
  · exact rPlaceX_is L b a o acc s price n now w h hr
theorem own_lanP {w : World} {B : Nat} {L : LaneV} {b a o : Value} (hb : w.ownsRow B 49 4 b L.bids.length (celC ordE L.bids)) (ha : w.ownsRow B 49 4 a L.asks.length (celC ordE L.asks)) (ho : w.ownsRow B 66 3 o L.owed.length (celC oweE L.owed)) (lb : L.bids.length * 32 ≤ 140737488355328) (la : L.asks.length * 32 ≤ 140737488355328) (lo : L.owed.length * 24 ≤ 140737488355328) : Lan w L b a o := ⟨own_sgot hb lb, own_sgot ha la, own_sgot ho lo⟩
set_option maxHeartbeats 32000000 in
set_option maxRecDepth 100000 in
theorem places_walk (L : LaneV) (b a o : Value) (acc s price n : Int) (now : Bool) (w : World) (h : Lan w L b a o) : Calls Try.prog 3 #[laneV L b a o, .agg #[.int .i64 acc, .int .i64 s, .int .i64 price, .int .i64 n, .bool now]] w fun e w' => e = .returned (.bool true) ∧ Below w.heap.size w w' := by
  have HL := hideIt (fun W (hW : Below w.heap.size w W) => h.keep hW)
  have lb := h.bids.1
  have la := h.asks.1
  have lo := h.owed.1
  have HB0 := hideIt (below2 w (.cells (laneA L b a o) 25) (.cells #[.int .i64 acc, .int .i64 s, .int .i64 price, .int .i64 n, .bool now] 27))
  have hth := two_heap w (.cells (laneA L b a o) 25) (.cells #[.int .i64 acc, .int .i64 s, .int .i64 price, .int .i64 n, .bool now] 27)
  have HX0 := hideIt hth.1
  have HU0 := hideIt hth.2.1
  clear hth
  have HCP := hideIt (rCopy_is L b a o _ (HL.out _ HB0.out))
  have HPL := hideIt (fun b' a' o' W (hW : Lan W L b' a' o') => place_is L b' a' o' acc s price n now W hW)
  have HPD := hideIt (fun W (hW : Below w.heap.size w W) => rPlace_is L b a o acc s price n now W (HL.out W hW))
  have HSM := hideIt (fun b' a' o' W (hW : Lan W L b' a' o') (hV : Below w.heap.size w W) => sameL_is L b' a' o' b a o W hW (HL.out W hV))
  have HSR := hideIt (fun b' a' o' b'' a'' o'' W (hW : Lan W (placeL L acc s price n now).1 b' a' o') (hV : Lan W (placeL L acc s price n now).1 b'' a'' o'') => sameL_is (placeL L acc s price n now).1 b' a' o' b'' a'' o'' W hW hV)
  have HSF := hideIt (fun v v' W (hW : Fils W v (placeL L acc s price n now).2.1) (hV : Fils W v' (placeL L acc s price n now).2.1) => sameF_is v v' (placeL L acc s price n now).2.1 W hW hV)
  have HSP := hideIt (fun b' a' o' W B => spoil_is (placeL L acc s price n now).1 b' a' o' W B)
  unfold LaneBack at HCP
  unfold PlBack at HPL
  unfold DpBack at HPD
  generalize placeL L acc s price n now = CR at *
  obtain ⟨ba, bc, rfl⟩ := h.bids.slice
  obtain ⟨aa, ac, rfl⟩ := h.asks.slice
  obtain ⟨oa, oc, rfl⟩ := h.owed.slice
  clear h
  unfold laneV at *
  unfold laneA at *
  obtain ⟨cl, nx, bids, asks, owed⟩ := L
  obtain ⟨⟨xc, xn, xb, xa, xo⟩, xf, xi, xe⟩ := CR
  simp only at *
  obtain ⟨⟨c0, c1, c2, c3, c4⟩, -, cz⟩ := five5_at HX0.out
  obtain ⟨⟨p0, p1, p2, p3, p4⟩, -, pz⟩ := five5_at HU0.out
  go_enter Try.func3, Try.ntmps3
  go_wp2_with fail
  refine HCP.out.mono ?_
  rintro e w1 ⟨b1v, a1v, o1v, rfl, ob, oa1, oo, -, hb⟩
  dsimp only
  obtain ⟨b1, bk1, rfl⟩ := own_len ob
  obtain ⟨a1, ak1, rfl⟩ := own_len oa1
  obtain ⟨o1, ok1, rfl⟩ := own_len oo
  have hb1 := below1 w1 (.cells #[.bool cl, .int .i64 nx, .slice b1 bids.length bk1, .slice a1 asks.length ak1, .slice o1 owed.length ok1] 25)
  have HB1 := hideIt (below_via HB0.out (below_via hb hb1))
  have HX1 := hideIt (blkK HX0.out (below_via hb hb1))
  have HU1 := hideIt (blkK HU0.out (below_via hb hb1))
  have HO1 : Hid (Lan (w1.alloc (.cells #[.bool cl, .int .i64 nx, .slice b1 bids.length bk1, .slice a1 asks.length ak1, .slice o1 owed.length ok1] 25)) ⟨cl, nx, bids, asks, owed⟩ (.slice b1 bids.length bk1) (.slice a1 asks.length ak1) (.slice o1 owed.length ok1)) := own_lanP (own_keep ob hb1) (own_keep oa1 hb1) (own_keep oo hb1) lb la lo
  have HK1 := hideIt (heap_alloc_new w1 (.cells #[.bool cl, .int .i64 nx, .slice b1 bids.length bk1, .slice a1 asks.length ak1, .slice o1 owed.length ok1] 25))
  clear hb hb1 ob oa1 oo HCP HX0 HB0 HU0 c0 c1 c2 c3 c4 cz p0 p1 p2 p3 p4 pz
  go_upto_region 2 with fail
  generalize w1.alloc (.cells #[.bool cl, .int .i64 nx, .slice b1 bids.length bk1, .slice a1 asks.length ak1, .slice o1 owed.length ok1] 25) = W1 at *
  generalize w1.heap.size = KO at *
  obtain ⟨⟨k0, k1, k2, k3, k4⟩, -, kz⟩ := five5_at HK1.out
  obtain ⟨⟨p0, p1, p2, p3, p4⟩, -, pz⟩ := five5_at HU1.out
  go_wp2_with fail
  refine (HPL.out _ _ _ _ HO1.out).mono ?_
  rintro e w2 ⟨b2v, a2v, o2v, f2v, rfl, ob, oa2, oo, of, hb⟩
  dsimp only
  obtain ⟨b2, bk2, rfl⟩ := own_len ob
  obtain ⟨a2, ak2, rfl⟩ := own_len oa2
  obtain ⟨o2, ok2, rfl⟩ := own_len oo
  obtain ⟨f2, fk2, rfl⟩ := own_len of
  have hb2 := below1 w2 (.cells #[.bool xc, .int .i64 xn, .slice b2 xb.length bk2, .slice a2 xa.length ak2, .slice o2 xo.length ok2] 25)
  have D2 := hideIt (below_via hb hb2)
  have OB2 := hideIt (own_keep ob hb2)
  have OA2 := hideIt (own_keep oa2 hb2)
  have OO2 := hideIt (own_keep oo hb2)
  have OF2 := hideIt (own_keep of hb2)
  have HA2 := hideIt (heap_alloc_new w2 (.cells #[.bool xc, .int .i64 xn, .slice b2 xb.length bk2, .slice a2 xa.length ak2, .slice o2 xo.length ok2] 25))
  clear hb hb2 ob oa2 oo of HPL k0 k1 k2 k3 k4 kz p0 p1 p2 p3 p4 pz
  go_upto_region 3 with fail
  generalize w2.alloc (.cells #[.bool xc, .int .i64 xn, .slice b2 xb.length bk2, .slice a2 xa.length ak2, .slice o2 xo.length ok2] 25) = W2 at *
  generalize w2.heap.size = KA at *
  obtain ⟨⟨c0, c1, c2, c3, c4⟩, -, cz⟩ := five5_at (blkK HX1.out D2.out)
  obtain ⟨⟨p0, p1, p2, p3, p4⟩, -, pz⟩ := five5_at (blkK HU1.out D2.out)
  go_wp2_with fail
  refine (HPD.out _ (below_via HB1.out D2.out)).mono ?_
  rintro e w3 ⟨b3v, a3v, o3v, f3v, rfl, hLn, hFn, hb⟩
  dsimp only
  obtain ⟨b3, bk3, rfl⟩ := hLn.bids.slice
  obtain ⟨a3, ak3, rfl⟩ := hLn.asks.slice
  obtain ⟨o3, ok3, rfl⟩ := hLn.owed.slice
  obtain ⟨f3, fk3, rfl⟩ := hFn.slice
  have xlb := hLn.bids.1
  have xla := hLn.asks.1
  have xlo := hLn.owed.1
  have xlf := hFn.1
  dsimp only at xlb xla xlo xlf
  have hb3 := below1 w3 (.cells #[.bool xc, .int .i64 xn, .slice b3 xb.length bk3, .slice a3 xa.length ak3, .slice o3 xo.length ok3] 25)
  have hbb := below_via hb hb3
  have D3 := hideIt (below_via D2.out hbb)
  have OB3 := hideIt (own_keep OB2.out hbb)
  have OA3 := hideIt (own_keep OA2.out hbb)
  have OO3 := hideIt (own_keep OO2.out hbb)
  have HF3 : Hid (Fils (w3.alloc (.cells #[.bool xc, .int .i64 xn, .slice b3 xb.length bk3, .slice a3 xa.length ak3, .slice o3 xo.length ok3] 25)) (.slice f2 xf.length fk2) xf) := own_sgot (own_keep OF2.out hbb) xlf
  have HG3 := hideIt (hFn.keep hb3)
  have HA3 := hideIt (blkK HA2.out hbb)
  have HB3 := hideIt (heap_alloc_new w3 (.cells #[.bool xc, .int .i64 xn, .slice b3 xb.length bk3, .slice a3 xa.length ak3, .slice o3 xo.length ok3] 25))
  have HN3 := hideIt (hLn.keep hb3)
  clear hb hb3 hbb hLn hFn HPD c0 c1 c2 c3 c4 cz p0 p1 p2 p3 p4 pz D2 OB2 OA2 OO2 OF2 HA2 HU1
  go_upto_region 4 with fail
  generalize w3.alloc (.cells #[.bool xc, .int .i64 xn, .slice b3 xb.length bk3, .slice a3 xa.length ak3, .slice o3 xo.length ok3] 25) = W3 at *
  generalize w3.heap.size = KB at *
  have HM3 : Hid (Lan W3 ⟨xc, xn, xb, xa, xo⟩ (.slice b2 xb.length bk2) (.slice a2 xa.length ak2) (.slice o2 xo.length ok2)) := own_lanP OB3.out OA3.out OO3.out xlb xla xlo
  obtain ⟨⟨r0, r1, r2, r3, r4⟩, -, rz⟩ := five5_at HA3.out
  obtain ⟨⟨s0, s1, s2, s3, s4⟩, -, sz⟩ := five5_at HB3.out
  go_wp2_with fail
  refine (HSR.out _ _ _ _ _ _ _ HM3.out HN3.out).mono ?_
  rintro e w4 ⟨rfl, hb4⟩
  dsimp only
  have R4 := hideIt hb4
  clear hb4 HSR HM3 HN3 HB3 r0 r1 r2 r3 r4 rz s0 s1 s2 s3 s4 sz
  go_wp2_with fail
  refine (HSF.out _ _ _ (HF3.out.keep R4.out) (HG3.out.keep R4.out)).mono ?_
  rintro e w5 ⟨rfl, hb5⟩
  dsimp only
  have R5 := hideIt (below_via R4.out hb5)
  have D5 := hideIt (below_via D3.out R5.out)
  clear hb5 HSF HF3 HG3 R4
  obtain ⟨⟨c0, c1, c2, c3, c4⟩, -, cz⟩ := five5_at (blkK HX1.out D5.out)
  obtain ⟨⟨k0, k1, k2, k3, k4⟩, -, kz⟩ := five5_at (blkK HK1.out D5.out)
  go_wp2_with fail
  refine (HSM.out _ _ _ _ (HO1.out.keep D5.out) (below_via HB1.out D5.out)).mono ?_
  rintro e w6 ⟨rfl, hb6⟩
  dsimp only
  have R6 := hideIt (below_via R5.out hb6)
  have D6 := hideIt (below_via D5.out hb6)
  clear hb6 R5 D5 c0 c1 c2 c3 c4 cz k0 k1 k2 k3 k4 kz
  have OB6 : Hid (∃ xs, w6.ownsRow W1.heap.size 49 4 (.slice b2 xb.length bk2) xb.length xs) := ⟨_, own_keep OB3.out R6.out⟩
  have OA6 : Hid (∃ xs, w6.ownsRow W1.heap.size 49 4 (.slice a2 xa.length ak2) xa.length xs) := ⟨_, own_keep OA3.out R6.out⟩
  have OO6 : Hid (∃ xs, w6.ownsRow W1.heap.size 66 3 (.slice o2 xo.length ok2) xo.length xs) := ⟨_, own_keep OO3.out R6.out⟩
  have HS6 := hideIt (HSP.out _ _ _ w6 W1.heap.size D6.out.size (by omega) (by omega) (by omega) OB6.out OA6.out OO6.out)
  obtain ⟨⟨r0, r1, r2, r3, r4⟩, -, rz⟩ := five5_at (blkK HA3.out R6.out)
  clear OB3 OA3 OO3 OB6 OA6 OO6 HSP HA3 R6
  go_wp2_with fail
  refine HS6.out.mono ?_
  rintro e w7 ⟨rfl, hb7⟩
  dsimp only
  have D7 := hideIt (D6.out.trans hb7)
  clear HS6 hb7 D6 r0 r1 r2 r3 r4 rz
  obtain ⟨⟨c0, c1, c2, c3, c4⟩, -, cz⟩ := five5_at (blkK HX1.out D7.out)
  obtain ⟨⟨k0, k1, k2, k3, k4⟩, -, kz⟩ := five5_at (blkK HK1.out D7.out)
  go_wp2_with fail
  refine (HSM.out _ _ _ _ (HO1.out.keep D7.out) (below_via HB1.out D7.out)).mono ?_
  rintro e w8 ⟨rfl, hb8⟩
  dsimp only
  have B8 := hideIt (below_via (below_via HB1.out D7.out) hb8)
  clear hb8 HSM c0 c1 c2 c3 c4 cz k0 k1 k2 k3 k4 kz D7 HO1 HK1 HX1 HB1
  have HLV := hideIt (fun W => live_is W)
  go_wp2_with fail
  refine (HLV.out _).mono ?_
  rintro e w12 ⟨rfl, hb12⟩
  dsimp only
  have B12 := hideIt (below_via B8.out hb12)
  clear hb12 B8
  go_wp2
  go_ret
  exact ⟨rfl, B12.out⟩
end Go.Proofs.Ytpfdmjphoeljiaa
namespace Go.Proofs.Ytpfdmjphoeljiaa
open Go.ChangeShapes Go.WideShapes Go.ChangeAt Go.RowKit
set_option linter.all false
structure PutV where
  acc : Int
  side : Int
  price : Int
  n : Int
  now : Bool
def putE (p : PutV) : List Value := [.int .i64 p.acc, .int .i64 p.side, .int .i64 p.price, .int .i64 p.n, .bool p.now]
theorem laidOut : laidOutB Try.prog = true := by kernel_rfl
theorem cells3 : Try.prog.cellsOf 3 = 1 := by kernel_rfl
theorem cells4 : Try.prog.cellsOf 4 = 1 := by kernel_rfl
theorem cells27 : Try.prog.cellsOf 27 = 5 := by kernel_rfl
theorem bytes27 : Try.prog.bytesOf 27 = 40 := by kernel_rfl
theorem five {α : Type} (l : List α) (h : l.length = 5) : ∃ a b c d e, l = [a, b, c, d, e] := by
  match l, h with
  | [a, b, c, d, e], _ => exact ⟨a, b, c, d, e, rfl⟩
/-- All that it holds is small enough for a machine. -/
def Light {H : Type} (t : TypeId) (d : DataW H) : Prop := ∀ n ∈ d.weights Try.prog t, n ≤ reachBytes
theorem light_each {H : Type} {ts : List TypeId} {ds : List (DataW H)} {j : Nat} {t : TypeId} {d : DataW H} (h : ∀ n ∈ DataW.weightsEach Try.prog ts ds, n ≤ reachBytes) (ht : ts[j]? = some t) (hd : ds[j]? = some d) : Light t d :=
  fun n hn => h n (DataW.weights_mem_each ht hd n hn)
theorem light_all {H : Type} {ts : List TypeId} {ds : List (DataW H)} {j : Nat} {t : TypeId} {d : DataW H} (hall : (DataW.weightsEach Try.prog ts ds).all (· ≤ reachBytes) = true) (ht : ts[j]? = some t) (hd : ds[j]? = some d) : Light t d :=
  light_each (fun n hn => by simpa using List.all_eq_true.1 hall n hn) ht hd
theorem reach_lt {n : Nat} (h : n ≤ reachBytes) : n ≤ 140737488355328 := by
  have hr : reachBytes < 2 ^ 47 := reachBytes_lt
  have e3 : (2 : Nat) ^ 47 = 140737488355328 := by decide
  omega
theorem put_cells {H : Type} {enc : TypeId × Value → H} {W : World} {n : Nat} {cs : List Value} {x : DataW H × List MemPlace} (hl : cs.length = 5)
    (h : DataW.trod enc Try.prog W 0 (fun _ => true) true n 27 cs = some x) : ∃ p : PutV, cs = putE p := by
  obtain ⟨xs, n', _, _, _, hxl, hfs⟩ := DataW.trod_struct Try.underlying27 h
  have f0 : DataW.trod enc Try.prog W 0 (fun _ => true) true n' 3 ((cs.drop 0).take (Try.prog.cellsOf 3)) = xs[0]? := hfs 0 _ rfl
  have f1 : DataW.trod enc Try.prog W 0 (fun _ => true) true n' 3 ((cs.drop 1).take (Try.prog.cellsOf 3)) = xs[1]? := hfs 1 _ rfl
  have f2 : DataW.trod enc Try.prog W 0 (fun _ => true) true n' 3 ((cs.drop 2).take (Try.prog.cellsOf 3)) = xs[2]? := hfs 2 _ rfl
  have f3 : DataW.trod enc Try.prog W 0 (fun _ => true) true n' 3 ((cs.drop 3).take (Try.prog.cellsOf 3)) = xs[3]? := hfs 3 _ rfl
  have f4 : DataW.trod enc Try.prog W 0 (fun _ => true) true n' 4 ((cs.drop 4).take (Try.prog.cellsOf 4)) = xs[4]? := hfs 4 _ rfl
  rw [cells3] at f0 f1 f2 f3
  rw [cells4] at f4
  obtain ⟨v0, v1, v2, v3, v4, rfl⟩ := five cs hl
  obtain ⟨y0, y1, y2, y3, y4, rfl⟩ := five xs hxl
  simp only [List.drop_zero, List.drop_succ_cons, List.take_succ_cons, List.take_zero, List.getElem?_cons_zero, List.getElem?_cons_succ] at f0 f1 f2 f3 f4
  obtain ⟨z0, e0, _, _⟩ := DataW.trod_int Try.underlying3 f0
  obtain ⟨z1, e1, _, _⟩ := DataW.trod_int Try.underlying3 f1
  obtain ⟨z2, e2, _, _⟩ := DataW.trod_int Try.underlying3 f2
  obtain ⟨z3, e3, _, _⟩ := DataW.trod_int Try.underlying3 f3
  obtain ⟨z4, e4, _⟩ := DataW.trod_bool Try.underlying4 f4
  simp only [List.cons.injEq, and_true] at e0 e1 e2 e3 e4
  subst e0 e1 e2 e3 e4
  exact ⟨⟨z0, z1, z2, z3, z4⟩, rfl⟩
theorem cells22 : Try.prog.cellsOf 22 = 1 := by kernel_rfl
theorem cells23 : Try.prog.cellsOf 23 = 1 := by kernel_rfl
theorem cells25 : Try.prog.cellsOf 25 = 5 := by kernel_rfl
theorem cells49 : Try.prog.cellsOf 49 = 4 := by kernel_rfl
theorem cells66 : Try.prog.cellsOf 66 = 3 := by kernel_rfl
theorem bytes49 : Try.prog.bytesOf 49 = 32 := by kernel_rfl
theorem bytes66 : Try.prog.bytesOf 66 = 24 := by kernel_rfl
theorem threeL {α : Type} (l : List α) (h : l.length = 3) : ∃ a b c, l = [a, b, c] := by
  match l, h with
  | [a, b, c], _ => exact ⟨a, b, c, rfl⟩
theorem fourL {α : Type} (l : List α) (h : l.length = 4) : ∃ a b c d, l = [a, b, c, d] := by
  match l, h with
  | [a, b, c, d], _ => exact ⟨a, b, c, d, rfl⟩
theorem ord_cells {H : Type} {enc : TypeId × Value → H} {W : World} {n : Nat} {cs : List Value} {x : DataW H × List MemPlace} (hl : cs.length = 4)
    (h : DataW.trod enc Try.prog W 0 (fun _ => true) true n 49 cs = some x) : ∃ p : OrdV, cs = ordE p := by
  obtain ⟨xs, n', _, _, _, hxl, hfs⟩ := DataW.trod_struct Try.underlying49 h
  have f0 : DataW.trod enc Try.prog W 0 (fun _ => true) true n' 3 ((cs.drop 0).take (Try.prog.cellsOf 3)) = xs[0]? := hfs 0 _ rfl
  have f1 : DataW.trod enc Try.prog W 0 (fun _ => true) true n' 3 ((cs.drop 1).take (Try.prog.cellsOf 3)) = xs[1]? := hfs 1 _ rfl
  have f2 : DataW.trod enc Try.prog W 0 (fun _ => true) true n' 3 ((cs.drop 2).take (Try.prog.cellsOf 3)) = xs[2]? := hfs 2 _ rfl
  have f3 : DataW.trod enc Try.prog W 0 (fun _ => true) true n' 3 ((cs.drop 3).take (Try.prog.cellsOf 3)) = xs[3]? := hfs 3 _ rfl
  rw [cells3] at f0 f1 f2 f3
  obtain ⟨v0, v1, v2, v3, rfl⟩ := fourL cs hl
  obtain ⟨y0, y1, y2, y3, rfl⟩ := fourL xs hxl
  simp only [List.drop_zero, List.drop_succ_cons, List.take_succ_cons, List.take_zero, List.getElem?_cons_zero, List.getElem?_cons_succ] at f0 f1 f2 f3
  obtain ⟨z0, e0, _, _⟩ := DataW.trod_int Try.underlying3 f0
  obtain ⟨z1, e1, _, _⟩ := DataW.trod_int Try.underlying3 f1
  obtain ⟨z2, e2, _, _⟩ := DataW.trod_int Try.underlying3 f2
  obtain ⟨z3, e3, _, _⟩ := DataW.trod_int Try.underlying3 f3
  simp only [List.cons.injEq, and_true] at e0 e1 e2 e3
  subst e0 e1 e2 e3
  exact ⟨⟨z0, z1, z2, z3⟩, rfl⟩
theorem owe_cells {H : Type} {enc : TypeId × Value → H} {W : World} {n : Nat} {cs : List Value} {x : DataW H × List MemPlace} (hl : cs.length = 3)
    (h : DataW.trod enc Try.prog W 0 (fun _ => true) true n 66 cs = some x) : ∃ p : OweV, cs = oweE p := by
  obtain ⟨xs, n', _, _, _, hxl, hfs⟩ := DataW.trod_struct Try.underlying66 h
  have f0 : DataW.trod enc Try.prog W 0 (fun _ => true) true n' 3 ((cs.drop 0).take (Try.prog.cellsOf 3)) = xs[0]? := hfs 0 _ rfl
  have f1 : DataW.trod enc Try.prog W 0 (fun _ => true) true n' 3 ((cs.drop 1).take (Try.prog.cellsOf 3)) = xs[1]? := hfs 1 _ rfl
  have f2 : DataW.trod enc Try.prog W 0 (fun _ => true) true n' 3 ((cs.drop 2).take (Try.prog.cellsOf 3)) = xs[2]? := hfs 2 _ rfl
  rw [cells3] at f0 f1 f2
  obtain ⟨v0, v1, v2, rfl⟩ := threeL cs hl
  obtain ⟨y0, y1, y2, rfl⟩ := threeL xs hxl
  simp only [List.drop_zero, List.drop_succ_cons, List.take_succ_cons, List.take_zero, List.getElem?_cons_zero, List.getElem?_cons_succ] at f0 f1 f2
  obtain ⟨z0, e0, _, _⟩ := DataW.trod_int Try.underlying3 f0
  obtain ⟨z1, e1, _, _⟩ := DataW.trod_int Try.underlying3 f1
  obtain ⟨z2, e2, _, _⟩ := DataW.trod_int Try.underlying3 f2
  simp only [List.cons.injEq, and_true] at e0 e1 e2
  subst e0 e1 e2
  exact ⟨⟨z0, z1, z2⟩, rfl⟩
set_option maxRecDepth 100000 in
theorem ords_cells {H : Type} {enc : TypeId × Value → H} {W : World} {n : Nat} {v : Value} {x : DataW H × List MemPlace}
    (h : DataW.trod enc Try.prog W 0 (fun _ => true) true n 22 [v] = some x) :
    ∃ a c, ∃ l : List OrdV, v = .slice a l.length c ∧ (l.length ≤ c ∧ c ≤ maxLen) ∧ (0 < l.length → ∃ b off, a = some ⟨b, off, none⟩ ∧ b < W.heap.size ∧ ∀ j, j < l.length * 4 → W.cell? ⟨b, off + j, none⟩ = (celC ordE l)[j]?) ∧
      (x.1 = .nil ∧ l = [] ∨ ∃ el sp, x.1 = .slice el sp ∧ l.length = el.length) := by
  rcases Deep.open_slice Try.underlying22 h with ⟨hcs, hx⟩ | ⟨x0, len, c, m, n0, D, Pl, hcs, _, hl, hm, hmm, hxe, hx⟩
  · have : v = .slice none 0 0 := by simpa using hcs
    subst this
    exact ⟨none, 0, [], rfl, ⟨Nat.le_refl _, Nat.zero_le _⟩, fun h => absurd h (by simp), .inl ⟨by rw [hx], rfl⟩⟩
  · have : v = .slice (some x0) len c := by simpa using hcs
    subst this
    simp only [if_true] at hmm
    rw [cells49] at hx
    obtain ⟨b, off, spot⟩ := x0
    have hspot0 : 0 < len → spot = none := by
      intro hpos
      obtain ⟨cs', h1, _⟩ := hx 0 (by omega)
      obtain ⟨_, hlen, hcell⟩ := World.cells?_some h1
      have h5 : 0 < cs'.length := by omega
      have g := World.cell?_spot ((hcell 0 (by omega)).trans (List.getElem?_eq_getElem h5))
      simpa [Addr.add] using g
    have key : ∀ i, i < len → ∃ o : OrdV, spot = none ∧ b < W.heap.size ∧ ∀ j, j < 4 → W.cell? ⟨b, off + i * 4 + j, none⟩ = (ordE o)[j]? := by
      intro i hi
      obtain ⟨cs', h1, h2⟩ := hx i (by omega)
      obtain ⟨_, hlen, hcell⟩ := World.cells?_some h1
      obtain ⟨o, rfl⟩ := ord_cells hlen h2
      have hspot : spot = none := hspot0 (by omega)
      subst hspot
      refine ⟨o, rfl, ?_, fun j hj => ?_⟩
      · have k0 := hcell 0 (by omega)
        rw [addN, addN] at k0
        rcases Nat.lt_or_ge b W.heap.size with h' | h'
        · exact h'
        · simp [World.cell?, Array.getElem?_eq_none h', ordE] at k0
      · have k0 := hcell j (by omega)
        rw [addN, addN] at k0
        rw [k0]
    obtain ⟨f, hfo⟩ := @Deep.choose_lt OrdV ⟨⟨0, 0, 0, 0⟩⟩ len (fun i o => spot = none ∧ b < W.heap.size ∧ ∀ j, j < 4 → W.cell? ⟨b, off + i * 4 + j, none⟩ = (ordE o)[j]?) key
    refine ⟨some ⟨b, off, spot⟩, c, (List.range len).map f, by simp, ⟨by simpa using hl, hm⟩, fun hp => ?_, .inr ⟨_, _, by rw [hxe], by simp⟩⟩
    have hp' : 0 < len := by simpa using hp
    have hsp := hspot0 hp'
    subst hsp
    refine ⟨b, off, rfl, (hfo 0 hp').2.1, fun j hj => ?_⟩
    have hj' : j < len * 4 := by simpa using hj
    have hi : j / 4 < len := by omega
    have q0 := (hfo (j / 4) hi).2.2 (j % 4) (by omega)
    have g0 := celC_get ordK ((List.range len).map f) (j / 4) (by simpa using hi) (j % 4) (by omega)
    simp only [List.getElem_map, List.getElem_range] at g0
    have e : off + j = off + j / 4 * 4 + j % 4 := by omega
    rw [e, q0, ← g0, show j / 4 * 4 + j % 4 = j by omega]
set_option maxRecDepth 100000 in
theorem owes_cells {H : Type} {enc : TypeId × Value → H} {W : World} {n : Nat} {v : Value} {x : DataW H × List MemPlace}
    (h : DataW.trod enc Try.prog W 0 (fun _ => true) true n 23 [v] = some x) :
    ∃ a c, ∃ l : List OweV, v = .slice a l.length c ∧ (l.length ≤ c ∧ c ≤ maxLen) ∧ (0 < l.length → ∃ b off, a = some ⟨b, off, none⟩ ∧ b < W.heap.size ∧ ∀ j, j < l.length * 3 → W.cell? ⟨b, off + j, none⟩ = (celC oweE l)[j]?) ∧
      (x.1 = .nil ∧ l = [] ∨ ∃ el sp, x.1 = .slice el sp ∧ l.length = el.length) := by
  rcases Deep.open_slice Try.underlying23 h with ⟨hcs, hx⟩ | ⟨x0, len, c, m, n0, D, Pl, hcs, _, hl, hm, hmm, hxe, hx⟩
  · have : v = .slice none 0 0 := by simpa using hcs
    subst this
    exact ⟨none, 0, [], rfl, ⟨Nat.le_refl _, Nat.zero_le _⟩, fun h => absurd h (by simp), .inl ⟨by rw [hx], rfl⟩⟩
  · have : v = .slice (some x0) len c := by simpa using hcs
    subst this
    simp only [if_true] at hmm
    rw [cells66] at hx
    obtain ⟨b, off, spot⟩ := x0
    have hspot0 : 0 < len → spot = none := by
      intro hpos
      obtain ⟨cs', h1, _⟩ := hx 0 (by omega)
      obtain ⟨_, hlen, hcell⟩ := World.cells?_some h1
      have h5 : 0 < cs'.length := by omega
      have g := World.cell?_spot ((hcell 0 (by omega)).trans (List.getElem?_eq_getElem h5))
      simpa [Addr.add] using g
    have key : ∀ i, i < len → ∃ o : OweV, spot = none ∧ b < W.heap.size ∧ ∀ j, j < 3 → W.cell? ⟨b, off + i * 3 + j, none⟩ = (oweE o)[j]? := by
      intro i hi
      obtain ⟨cs', h1, h2⟩ := hx i (by omega)
      obtain ⟨_, hlen, hcell⟩ := World.cells?_some h1
      obtain ⟨o, rfl⟩ := owe_cells hlen h2
      have hspot : spot = none := hspot0 (by omega)
      subst hspot
      refine ⟨o, rfl, ?_, fun j hj => ?_⟩
      · have k0 := hcell 0 (by omega)
        rw [addN, addN] at k0
        rcases Nat.lt_or_ge b W.heap.size with h' | h'
        · exact h'
        · simp [World.cell?, Array.getElem?_eq_none h', oweE] at k0
      · have k0 := hcell j (by omega)
        rw [addN, addN] at k0
        rw [k0]
    obtain ⟨f, hfo⟩ := @Deep.choose_lt OweV ⟨⟨0, 0, 0⟩⟩ len (fun i o => spot = none ∧ b < W.heap.size ∧ ∀ j, j < 3 → W.cell? ⟨b, off + i * 3 + j, none⟩ = (oweE o)[j]?) key
    refine ⟨some ⟨b, off, spot⟩, c, (List.range len).map f, by simp, ⟨by simpa using hl, hm⟩, fun hp => ?_, .inr ⟨_, _, by rw [hxe], by simp⟩⟩
    have hp' : 0 < len := by simpa using hp
    have hsp := hspot0 hp'
    subst hsp
    refine ⟨b, off, rfl, (hfo 0 hp').2.1, fun j hj => ?_⟩
    have hj' : j < len * 3 := by simpa using hj
    have hi : j / 3 < len := by omega
    have q0 := (hfo (j / 3) hi).2.2 (j % 3) (by omega)
    have g0 := celC_get oweK ((List.range len).map f) (j / 3) (by simpa using hi) (j % 3) (by omega)
    simp only [List.getElem_map, List.getElem_range] at g0
    have e : off + j = off + j / 3 * 3 + j % 3 := by omega
    rw [e, q0, ← g0, show j / 3 * 3 + j % 3 = j by omega]
set_option maxRecDepth 100000 in
/-- A book among the arguments. -/
theorem open_lane {H : Type} {enc : TypeId × Value → H} {W : World} {b0 : Nat} {v : Value} {d : DataW H} {p : List MemPlace}
    (hv : Value.okWide Try.prog W .any b0 25 v) (h : DataW.Trod enc Try.prog W 0 (fun _ => true) true 25 v d p) (hw : Light 25 d) :
    ∃ L b a o, v = laneV L b a o ∧ Lan W L b a o := by
  obtain ⟨cs, rfl, hsz⟩ := okWide_struct Try.underlying25 hv
  rw [cells25] at hsz
  obtain ⟨fuel, hf⟩ := h
  have hcl : (Value.agg cs).cells.toList = cs.toList := by simp [Value.cells]
  rw [hcl] at hf
  obtain ⟨xs, n', _, hd, _, hxl, hfs⟩ := DataW.trod_struct Try.underlying25 hf
  have f0 : DataW.trod enc Try.prog W 0 (fun _ => true) true n' 4 ((cs.toList.drop 0).take (Try.prog.cellsOf 4)) = xs[0]? := hfs 0 _ rfl
  have f1 : DataW.trod enc Try.prog W 0 (fun _ => true) true n' 3 ((cs.toList.drop 1).take (Try.prog.cellsOf 3)) = xs[1]? := hfs 1 _ rfl
  have f2 : DataW.trod enc Try.prog W 0 (fun _ => true) true n' 22 ((cs.toList.drop 2).take (Try.prog.cellsOf 22)) = xs[2]? := hfs 2 _ rfl
  have f3 : DataW.trod enc Try.prog W 0 (fun _ => true) true n' 22 ((cs.toList.drop 3).take (Try.prog.cellsOf 22)) = xs[3]? := hfs 3 _ rfl
  have f4 : DataW.trod enc Try.prog W 0 (fun _ => true) true n' 23 ((cs.toList.drop 4).take (Try.prog.cellsOf 23)) = xs[4]? := hfs 4 _ rfl
  rw [cells4] at f0
  rw [cells3] at f1
  rw [cells22] at f2 f3
  rw [cells23] at f4
  obtain ⟨v0, v1, v2, v3, v4, e⟩ := five cs.toList (by simpa using hsz)
  obtain ⟨y0, y1, y2, y3, y4, rfl⟩ := five xs hxl
  rw [e] at f0 f1 f2 f3 f4
  simp only [List.drop_zero, List.drop_succ_cons, List.take_succ_cons, List.take_zero, List.getElem?_cons_zero, List.getElem?_cons_succ] at f0 f1 f2 f3 f4
  obtain ⟨z0, e0, _⟩ := DataW.trod_bool Try.underlying4 f0
  obtain ⟨z1, e1, _, _⟩ := DataW.trod_int Try.underlying3 f1
  obtain ⟨ba, bc, bl, rfl, hcc, hg, hx⟩ := ords_cells f2
  obtain ⟨aa, ac, al, rfl, hcc', hg', hx'⟩ := ords_cells f3
  obtain ⟨oa, oc, ol, rfl, hcc2, hg2, hx2⟩ := owes_cells f4
  simp only [List.cons.injEq, and_true] at e0 e1
  subst e0 e1
  have ecs : cs = #[.bool z0, .int .i64 z1, .slice ba bl.length bc, .slice aa al.length ac, .slice oa ol.length oc] := by rw [← Array.toArray_toList (xs := cs), e]
  have hd' : d = .agg [y0.1, y1.1, y2.1, y3.1, y4.1] := by
    have h3 := hd
    simp at h3
    exact h3.1
  refine ⟨⟨z0, z1, bl, al, ol⟩, .slice ba bl.length bc, .slice aa al.length ac, .slice oa ol.length oc, by rw [ecs]; rfl, ⟨⟨?_, ba, bc, rfl, hcc, hg⟩, ⟨?_, aa, ac, rfl, hcc', hg'⟩, ⟨?_, oa, oc, rfl, hcc2, hg2⟩⟩⟩
  · rcases hx with ⟨_, hl⟩ | ⟨el, sp, hx, hle⟩
    · show bl.length * 32 ≤ _
      rw [hl]
      simp
    · rw [hx] at hd'
      have hw2 := hw ((el.length + sp.length) * Try.prog.bytesOf 49) (by rw [hd']; simp [DataW.weights, DataW.weightsEach, Try.underlying25, Try.underlying22, Try.underlying23, Try.underlying3, Try.underlying4])
      rw [bytes49] at hw2
      have := reach_lt hw2
      show bl.length * 32 ≤ _
      omega
  · rcases hx' with ⟨_, hl⟩ | ⟨el, sp, hx, hle⟩
    · show al.length * 32 ≤ _
      rw [hl]
      simp
    · rw [hx] at hd'
      have hw2 := hw ((el.length + sp.length) * Try.prog.bytesOf 49) (by rw [hd']; simp [DataW.weights, DataW.weightsEach, Try.underlying25, Try.underlying22, Try.underlying23, Try.underlying3, Try.underlying4])
      rw [bytes49] at hw2
      have := reach_lt hw2
      show al.length * 32 ≤ _
      omega
  · rcases hx2 with ⟨_, hl⟩ | ⟨el, sp, hx, hle⟩
    · show ol.length * 24 ≤ _
      rw [hl]
      simp
    · rw [hx] at hd'
      have hw2 := hw ((el.length + sp.length) * Try.prog.bytesOf 66) (by rw [hd']; simp [DataW.weights, DataW.weightsEach, Try.underlying25, Try.underlying22, Try.underlying23, Try.underlying3, Try.underlying4])
      rw [bytes66] at hw2
      have := reach_lt hw2
      show ol.length * 24 ≤ _
      omega
set_option maxRecDepth 100000 in
/-- An order to be placed. -/
theorem open_put {H : Type} {enc : TypeId × Value → H} {W : World} {b0 : Nat} {v : Value} {d : DataW H} {p : List MemPlace}
    (hv : Value.okWide Try.prog W .any b0 27 v) (h : DataW.Trod enc Try.prog W 0 (fun _ => true) true 27 v d p) : ∃ q : PutV, v = .agg #[.int .i64 q.acc, .int .i64 q.side, .int .i64 q.price, .int .i64 q.n, .bool q.now] := by
  obtain ⟨cs, rfl, hsz⟩ := okWide_struct Try.underlying27 hv
  rw [cells27] at hsz
  obtain ⟨fuel, hf⟩ := h
  obtain ⟨q, e⟩ := put_cells (cs := (Value.agg cs).cells.toList) (by simpa [Value.cells] using hsz) hf
  refine ⟨q, ?_⟩
  have e2 : cs.toList = putE q := by simpa [Value.cells] using e
  have : cs = (putE q).toArray := by rw [← Array.toArray_toList (xs := cs), e2]
  rw [this]
  rfl
end Go.Proofs.Ytpfdmjphoeljiaa
namespace Go.Proofs.Ytpfdmjphoeljiaa
open Go.ChangeShapes Go.WideShapes Go.ChangeAt Go.RowKit
set_option linter.all false
namespace bookPlaces
theorem own : ownKnob Try.prog.godebug = none := by kernel_rfl
set_option linter.unusedVariables false in
set_option maxRecDepth 100000 in
theorem lifted (os : Os) (started : os.Started) (H : Type) (enc : TypeId × Value → H) :
    ReturnsInHanded {} Try.checked os 3 .any (Rows.bookPlacesSpec.pre6 enc Try.prog Try.f3 Rows.bookPlacesRow.domain false) (Rows.bookPlacesSpec.post enc Try.prog Try.f3 false true false false) := by
  refine returnsInHanded_of_change_sized (C := Try.checked) own started (by kernel_rfl) Try.func3
    (ChangeSpec.witness6 (enc := enc) (C := Try.checked) false ⟨#[], #[.agg #[.bool false, .int .i64 1, .slice none 0 0, .slice none 0 0, .slice none 0 0], .agg #[.int .i64 0, .int .i64 0, .int .i64 0, .int .i64 0, .bool false]], []⟩ 8 (by kernel_rfl) (by kernel_rfl) (by kernel_rfl) (by kernel_rfl)) ?_
  intro W base args ds gs before hval0 hW hcnd hsz0 _
  have hval : ∀ (j : Nat) t v, Try.f3.params[j]? = some t → args[j]? = some v → Value.okWide Try.prog W .any base t v := hval0
  have hW' := hW
  obtain ⟨p, q, hA0, hV, rfl, hfz, hnd⟩ := hW
  have hA : DataW.TrodAll enc Try.prog W 0 (fun _ => true) true Try.f3.params.toList args.toList ds p := hA0
  have hsz : (DataW.weightsEach Try.prog (Try.f3.params.toList ++ Rows.bookPlacesSpec.plain.varTypes Try.prog) (ds ++ gs)).all (· ≤ reachBytes) = true := hsz0
  rw [Try.params3] at hA hval hsz
  obtain ⟨v0, vs0, d0, ds0, p0, q0, hargs, rfl, rfl, h0, r0⟩ := trodAll_cons hA
  obtain ⟨v1, vs1, d1, ds1, p1, q1, rfl, rfl, rfl, h1, r1⟩ := trodAll_cons r0
  obtain ⟨rfl, rfl, rfl⟩ := trodAll_nil r1
  obtain rfl : args = #[v0, v1] := by cases args; simp_all
  obtain ⟨rfl, rfl⟩ := trodVars_none hV
  have l0 : ∀ x ∈ p0, x.block < W.heap.size := by obtain ⟨m, hm⟩ := h0; exact DataW.trod_lt m _ _ _ hm
  have l1 : ∀ x ∈ p1, x.block < W.heap.size := by obtain ⟨m, hm⟩ := h1; exact DataW.trod_lt m _ _ _ hm
  obtain ⟨L0, b0, a0, o0, rfl, hL0⟩ := open_lane (hval 0 25 v0 rfl rfl) h0 (light_all (j := 0) hsz rfl rfl)
  obtain ⟨⟨acc1, s1, price1, n1, now1⟩, rfl⟩ := open_put (hval 1 27 v1 rfl rfl) h1
  clear hA0 hval0
  refine (places_walk L0 b0 a0 o0 acc1 s1 price1 n1 now1 W hL0).mono fun e W' ⟨he, bel⟩ => ?_
  subst he
  exact ⟨_, rfl, _, _, _, [], _, [], hW', trodAll_mk1 (shut_bool Try.underlying4 _), (trodAll_cons_mk (Below.trod laidOut (by kernel_rfl) (of_decide_eq_true (by kernel_rfl)) h0 bel l0) (trodAll_cons_mk (Below.trod laidOut (by kernel_rfl) (of_decide_eq_true (by kernel_rfl)) h1 bel l1) trodAll_mk0)), rfl, bel.frame _, fun h => by cases h⟩
theorem over : Rows.bookPlacesRow.holds Try.pinned (OpenSpec.ofChange Rows.bookPlacesSpec) :=
  OpenClaim.holds_of_wide 3 Try.f3 rfl rfl rfl rfl rfl rfl rfl ⟨rfl, rfl, rfl, rfl, rfl⟩ rfl rfl rfl rfl rfl (by kernel_rfl) Try.func3 (by kernel_rfl)
    (of_decide_eq_true (by kernel_rfl)) (by unfold Func.isWrapper; first | (rw [if_pos (by decide +kernel)]; kernel_rfl) | (rw [if_neg (by decide +kernel)]; exact ⟨rfl, rfl⟩))
    (fun os started H enc _ => lifted os started H enc)
end bookPlaces
theorem bookPlaces_holds : Rows.BookPlacesSaid := bookPlaces.over
#print axioms bookPlaces_holds
end Go.Proofs.Ytpfdmjphoeljiaa
