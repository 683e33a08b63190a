/- Two books that are the same. -/
import Derived.Test.YtgnmghcdfihmgaaRCo
import Derived.Deep.QuietTactic
import Derived.BigQuiet
namespace Go.Proofs.Ytgnmghcdfihmgaa
open Go.RowKit
set_option linter.all false
theorem neq36 (a b c d : Int) (w : World) : (binOp .neq 38 (.agg #[.int .i64 a, .int .i64 b, .int .i64 c, .int .i64 d]) (.agg #[.int .i64 a, .int .i64 b, .int .i64 c, .int .i64 d])).run Try.prog w = .ok (.bool false) w := by
  simp [go_sem]
theorem neq63 (a b c : Int) (w : World) : (binOp .neq 48 (.agg #[.int .i64 a, .int .i64 b, .int .i64 c]) (.agg #[.int .i64 a, .int .i64 b, .int .i64 c])).run Try.prog w = .ok (.bool false) w := by
  simp [go_sem]
set_option maxHeartbeats 4000000 in
set_option maxRecDepth 100000 in
theorem sameO_is (v v' : Value) (l : List OrdV) (w : World) (h : Ords w v l) (h' : Ords w v' l) : Calls Try.prog 32 #[v, v'] w fun e w' => e = .returned (.bool true) ∧ Below w.heap.size w w' := by
  obtain ⟨a, c, rfl, h8, hr⟩ := h.ords
  obtain ⟨a', c', rfl, h8', hr'⟩ := h'.ords
  have HH := hideIt hr
  have HM := hideIt hr'
  clear hr hr' h h'
  go_enter Try.func32, Try.ntmps32
  go_wp2
  go_loopw [5] (fun v wr => ∃ t : Nat, v = .int .i64 t ∧ t ≤ l.length ∧ Hid (Below w.heap.size w wr)) (fun v _ => l.length - (intOf v).toNat)
  case atStart => exact ⟨0, rfl, Nat.zero_le _, hideIt (Below.refl _ _)⟩
  case round =>
    obtain ⟨t, rfl, ht, HR⟩ := hrel
    by_cases hlt : t < l.length
    · have hltI : (t : Int) < (l.length : Int) := by omega
      have ht0 : (0 : Int) ≤ (t : Int) := by omega
      have hw : IntKind.i64.wrap ((t : Int) + 1) = ((t + 1 : Nat) : Int) := by rw [IntKind.wrap_i64]; omega
      have hB := HR.out
      obtain ⟨b, off, rfl, hbl, q0, q1, q2, q3⟩ := HH.out t hlt
      have hblr : b < wr.heap.size := Nat.lt_of_lt_of_le hbl hB.size
      have c0 := (hB.cell (p := ⟨b, off + t * 4, none⟩) hbl).trans q0
      have c1 := (hB.cell (p := ⟨b, off + t * 4 + 1, none⟩) hbl).trans q1
      have c2 := (hB.cell (p := ⟨b, off + t * 4 + 2, none⟩) hbl).trans q2
      have c3 := (hB.cell (p := ⟨b, off + t * 4 + 3, none⟩) hbl).trans q3
      clear q0 q1 q2 q3
      obtain ⟨b', off', rfl, hbl', q0, q1, q2, q3⟩ := HM.out t hlt
      have hblr' : b' < wr.heap.size := Nat.lt_of_lt_of_le hbl' hB.size
      have d0 := (hB.cell (p := ⟨b', off' + t * 4, none⟩) hbl').trans q0
      have d1 := (hB.cell (p := ⟨b', off' + t * 4 + 1, none⟩) hbl').trans q1
      have d2 := (hB.cell (p := ⟨b', off' + t * 4 + 2, none⟩) hbl').trans q2
      have d3 := (hB.cell (p := ⟨b', off' + t * 4 + 3, none⟩) hbl').trans q3
      clear q0 q1 q2 q3 hB HH HM
      generalize l[t] = en at *
      obtain ⟨x, y, z, u⟩ := en
      dsimp only at c0 c1 c2 c3 d0 d1 d2 d3
      have q1 := fun W => neq36 x y z u W
      go_wp2_with fail
      go_quiet (fail)
      go_wp2
      go_roundw
      case rel => exact ⟨t + 1, by go_num, by omega, hideIt (below_drewN HR.out _)⟩
      case measure => simp [intOf]; omega
    · have hltI : ¬ (t : Int) < (l.length : Int) := by omega
      clear HH HM
      go_wp2
      go_ret
      exact ⟨rfl, HR.out⟩
/-- Two books in their boxes. -/
structure B2 (w : World) (L : LaneV) (b a o b' a' o' : Value) (W : World) : Prop where
  b0 : W.heap[w.heap.size]? = some (.cells #[.bool L.call, .int .i64 L.next, b, a, o] 25 (0, 0))
  b1 : W.heap[w.heap.size + 1]? = some (.cells #[.bool L.call, .int .i64 L.next, b', a', o'] 25 (0, 0))
  bel : Below w.heap.size w W
theorem B2.keep {w W W' : World} {L : LaneV} {b a o b' a' o' : Value} (h : B2 w L b a o b' a' o' W) (hb : Below W.heap.size W W') : B2 w L b a o b' a' o' W' :=
  ⟨(hb.block _ (Array.getElem?_eq_some_iff.1 h.b0).1).trans h.b0, (hb.block _ (Array.getElem?_eq_some_iff.1 h.b1).1).trans h.b1, below_via h.bel hb⟩
theorem B2.first (w : World) (L : LaneV) (b a o b' a' o' : Value) : B2 w L b a o b' a' o' ((w.alloc (.cells #[.bool L.call, .int .i64 L.next, b, a, o] 25)).alloc (.cells #[.bool L.call, .int .i64 L.next, b', a', o'] 25)) :=
  ⟨(two_heap w _ _).1, (two_heap w _ _).2.1, below2 w _ _⟩
set_option maxHeartbeats 8000000 in
set_option maxRecDepth 100000 in
theorem sameL_is (L : LaneV) (b a o b' a' o' : Value) (w : World) (h : Lan w L b a o) (h' : Lan w L b' a' o') : Calls Try.prog 12 #[laneV L b a o, laneV L b' a' o'] w fun e w' => e = .returned (.bool true) ∧ Below w.heap.size w w' := by
  have X0 := hideIt (B2.first w L b a o b' a' o')
  have H1 := hideIt (fun W (hW : Below w.heap.size w W) => sameO_is b b' L.bids W (h.keep hW).bids (h'.keep hW).bids)
  have H2 := hideIt (fun W (hW : Below w.heap.size w W) => sameO_is a a' L.asks W (h.keep hW).asks (h'.keep hW).asks)
  obtain ⟨ba, bc, rfl⟩ := h.bids.slice
  obtain ⟨aa, ac, rfl⟩ := h.asks.slice
  obtain ⟨oa, oc, rfl, h8, hr⟩ := h.owed.owes
  obtain ⟨ba', bc', rfl⟩ := h'.bids.slice
  obtain ⟨aa', ac', rfl⟩ := h'.asks.slice
  obtain ⟨oa', oc', rfl, h8', hr'⟩ := h'.owed.owes
  have HH := hideIt hr
  have HM := hideIt hr'
  clear h h' hr hr'
  unfold laneV laneA
  obtain ⟨cl, nx, bids, asks, owed⟩ := L
  simp only at *
  have qb : ∀ W, (binOp .neq 4 (.bool cl) (.bool cl)).run Try.prog W = .ok (.bool false) W := fun W => by cases cl <;> simp [go_sem]
  go_enter Try.func12, Try.ntmps12
  go_upto_region 1 with fail
  generalize (w.alloc (.cells #[.bool cl, .int .i64 nx, .slice ba bids.length bc, .slice aa asks.length ac, .slice oa owed.length oc] 25)).alloc (.cells #[.bool cl, .int .i64 nx, .slice ba' bids.length bc', .slice aa' asks.length ac', .slice oa' owed.length oc'] 25) = W0 at *
  obtain ⟨⟨x0, x1, x2, x3, x4⟩, -, xl⟩ := five_at X0.out.b0
  obtain ⟨⟨y0, y1, y2, y3, y4⟩, -, yl⟩ := five_at X0.out.b1
  dsimp only at x0 x1 y0 y1
  go_wp2_with fail
  refine (H1.out _ X0.out.bel).mono ?_
  rintro e w1 ⟨rfl, hb⟩
  dsimp only
  have X1 := hideIt (X0.out.keep hb)
  clear x0 x1 x2 x3 x4 xl y0 y1 y2 y3 y4 yl
  clear hb X0 H1
  obtain ⟨⟨x0, x1, x2, x3, x4⟩, -, xl⟩ := five_at X1.out.b0
  obtain ⟨⟨y0, y1, y2, y3, y4⟩, -, yl⟩ := five_at X1.out.b1
  go_wp2_with fail
  refine (H2.out _ X1.out.bel).mono ?_
  rintro e w2 ⟨rfl, hb⟩
  dsimp only
  have X2 := hideIt (X1.out.keep hb)
  clear x0 x1 x2 x3 x4 xl y0 y1 y2 y3 y4 yl
  clear hb X1 H2
  obtain ⟨⟨x0, x1, x2, x3, x4⟩, -, xl⟩ := five_at X2.out.b0
  obtain ⟨⟨y0, y1, y2, y3, y4⟩, -, yl⟩ := five_at X2.out.b1
  go_upto_region 4 with fail
  clear x0 x1 x2 x3 x4 xl y0 y1 y2 y3 y4 yl
  go_loopw [5] (fun v wr => ∃ t : Nat, v = .int .i64 t ∧ t ≤ owed.length ∧ Hid (B2 w ⟨cl, nx, bids, asks, owed⟩ (.slice ba bids.length bc) (.slice aa asks.length ac) (.slice oa owed.length oc) (.slice ba' bids.length bc') (.slice aa' asks.length ac') (.slice oa' owed.length oc') wr)) (fun v _ => owed.length - (intOf v).toNat)
  case atStart => exact ⟨0, rfl, Nat.zero_le _, X2⟩
  case round =>
    clear X2
    obtain ⟨t, rfl, ht, HR⟩ := hrel
    obtain ⟨⟨x0, x1, x2, x3, x4⟩, -, xl⟩ := five_at HR.out.b0
    obtain ⟨⟨y0, y1, y2, y3, y4⟩, -, yl⟩ := five_at HR.out.b1
    by_cases hlt : t < owed.length
    · have hltI : (t : Int) < (owed.length : Int) := by omega
      have ht0 : (0 : Int) ≤ (t : Int) := by omega
      have hw : IntKind.i64.wrap ((t : Int) + 1) = ((t + 1 : Nat) : Int) := by rw [IntKind.wrap_i64]; omega
      have hB := HR.out.bel
      obtain ⟨b, off, rfl, hbl, q0, q1, q2⟩ := HH.out t hlt
      have hblr : b < wr.heap.size := Nat.lt_of_lt_of_le hbl hB.size
      have c0 := (hB.cell (p := ⟨b, off + t * 3, none⟩) hbl).trans q0
      have c1 := (hB.cell (p := ⟨b, off + t * 3 + 1, none⟩) hbl).trans q1
      have c2 := (hB.cell (p := ⟨b, off + t * 3 + 2, none⟩) hbl).trans q2
      clear q0 q1 q2
      obtain ⟨b', off', rfl, hbl', q0, q1, q2⟩ := HM.out t hlt
      have hblr' : b' < wr.heap.size := Nat.lt_of_lt_of_le hbl' hB.size
      have d0 := (hB.cell (p := ⟨b', off' + t * 3, none⟩) hbl').trans q0
      have d1 := (hB.cell (p := ⟨b', off' + t * 3 + 1, none⟩) hbl').trans q1
      have d2 := (hB.cell (p := ⟨b', off' + t * 3 + 2, none⟩) hbl').trans q2
      clear q0 q1 q2 hB HH HM
      generalize owed[t] = en at *
      obtain ⟨x, y, z⟩ := en
      dsimp only at c0 c1 c2 d0 d1 d2
      have q1 := fun W => neq63 x y z W
      go_wp2_with fail
      go_quiet (fail)
      go_wp2
      go_roundw
      case rel => exact ⟨t + 1, by go_num, by omega, hideIt (HR.out.keep (below_drewN (Below.refl _ _) _))⟩
      case measure => simp [intOf]; omega
    · have hltI : ¬ (t : Int) < (owed.length : Int) := by omega
      clear HH HM
      go_wp2
      go_ret
      exact ⟨rfl, HR.out.bel⟩
end Go.Proofs.Ytgnmghcdfihmgaa
