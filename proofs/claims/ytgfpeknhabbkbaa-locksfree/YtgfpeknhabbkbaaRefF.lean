/- The document's own: lists without one; letting go, in its words. -/
import Derived.Test.YtgfpeknhabbkbaaRefD
import Derived.Test.YtgfpeknhabbkbaaPlayP
import Derived.Test.YtgfpeknhabbkbaaFreeP
namespace Go.Proofs.Ytgfpeknhabbkbaa
open Go.RowKit
set_option linter.all false
set_option maxHeartbeats 8000000 in
set_option maxRecDepth 100000 in
theorem rWithout_is (v : Value) (l : List HoldV) (o0 o1 o2 o3 : Int) (w : World) (h : Hols w v l) : Calls Try.prog 36 #[v, .agg #[.int .i64 o0, .int .i64 o1, .int .i64 o2, .int .i64 o3]] w (HolsBack (wiL l ((o0, o1), (o2, o3))) w) := by
  obtain ⟨a, c, rfl, h8, hr⟩ := h.hols
  have HH := hideIt hr
  clear hr h
  have HB0 := hideIt (below1 w (.cells #[.int .i64 o0, .int .i64 o1, .int .i64 o2, .int .i64 o3] 44))
  have HX0 := hideIt (heap_alloc_new w (.cells #[.int .i64 o0, .int .i64 o1, .int .i64 o2, .int .i64 o3] 44))
  go_enter Try.func36, Try.ntmps36
  go_wp2
  go_loopw [5, 6] (fun v5 v wr => ∃ t : Nat, v = .int .i64 t ∧ t ≤ l.length ∧ Hid (Below w.heap.size w wr ∧ wr.heap[w.heap.size]? = some (.cells #[.int .i64 o0, .int .i64 o1, .int .i64 o2, .int .i64 o3] 44 (0, 0)) ∧ wr.ownsRow (w.heap.size + 1) 44 4 v5 (wiL (l.take t) ((o0, o1), (o2, o3))).length (celC holE (wiL (l.take t) ((o0, o1), (o2, o3)))))) (fun _ v _ => l.length - (intOf v).toNat)
  case atStart => exact ⟨0, rfl, Nat.zero_le _, hideIt ⟨HB0.out, HX0.out, by simpa [wiL, celC] using own_nil _ _⟩⟩
  case round =>
    clear HB0 HX0
    obtain ⟨t, rfl, ht, HR⟩ := hrel
    by_cases hlt : t < l.length
    · have hltI : (t : Int) < (l.length : Int) := by omega
      have ht0 : (0 : Int) ≤ (t : Int) := by omega
      have hw : IntKind.i64.wrap ((t : Int) + 1) = ((t + 1 : Nat) : Int) := by rw [IntKind.wrap_i64]; omega
      have hB := HR.out.1
      have hsz : w.heap.size < wr.heap.size := (Array.getElem?_eq_some_iff.1 HR.out.2.1).1
      have x0 : wr.cell? ⟨w.heap.size, 0, none⟩ = some (.int .i64 o0) := by rw [cell_at HR.out.2.1]; rfl
      have x1 : wr.cell? ⟨w.heap.size, 1, none⟩ = some (.int .i64 o1) := by rw [cell_at HR.out.2.1]; rfl
      have x2 : wr.cell? ⟨w.heap.size, 2, none⟩ = some (.int .i64 o2) := by rw [cell_at HR.out.2.1]; rfl
      have x3 : wr.cell? ⟨w.heap.size, 3, none⟩ = some (.int .i64 o3) := by rw [cell_at HR.out.2.1]; rfl
      obtain ⟨b, off, rfl, hbl, q0, q1, q2, q3⟩ := HH.out t hlt
      have hblr : b < wr.heap.size := Nat.lt_of_lt_of_le hbl hB.size
      have c0 := (hB.cell (p := ⟨b, off + t * 4, none⟩) hbl).trans q0
      have c1 := (hB.cell (p := ⟨b, off + t * 4 + 1, none⟩) hbl).trans q1
      have c2 := (hB.cell (p := ⟨b, off + t * 4 + 2, none⟩) hbl).trans q2
      have c3 := (hB.cell (p := ⟨b, off + t * 4 + 3, none⟩) hbl).trans q3
      clear q0 q1 q2 q3
      obtain ⟨va, vc, hv⟩ := own_len HR.out.2.2
      cases hq : (l[t] == ((o0, o1), (o2, o3)))
      · have HQ := hideIt (wiL_hit hlt hq)
        have hlen : (wiL (l.take t) ((o0, o1), (o2, o3))).length ≤ t := by
          have := wiL_len (l.take t) ((o0, o1), (o2, o3))
          rw [List.length_take] at this
          omega
        generalize hen : l[t] = en at *
        obtain ⟨⟨x, y⟩, ⟨z, u⟩⟩ := en
        dsimp only at c0 c1 c2 c3
        have q1 : ∀ W, (binOp .neq 44 (.agg #[.int .i64 x, .int .i64 y, .int .i64 z, .int .i64 u]) (.agg #[.int .i64 o0, .int .i64 o1, .int .i64 o2, .int .i64 o3])).run Try.prog W = .ok (.bool true) W := fun W => by rw [neq44, hq]; rfl
        have hd := (Below.refl wr.heap.size wr).drew
        have hb2 := below_via hd (below1 wr.drew (.cells #[.int .i64 x, .int .i64 y, .int .i64 z, .int .i64 u] 44))
        obtain ⟨v', w', hrun, how, hgr⟩ := app1 (enc := holE) (t := 22) holK hol1 Try.underlying22 info44 rfl (by omega) _ (w.heap.size + 1) _ (wiL (l.take t) ((o0, o1), (o2, o3))) ((x, y), (z, u)) wr.heap.size 1 (by have := hb2.size; omega) (own_keep HR.out.2.2 hb2) (heap_alloc_new wr.drew (.cells #[.int .i64 x, .int .i64 y, .int .i64 z, .int .i64 u] 44)) (by omega) (by unfold maxLen; omega)
        have hB3 := grown_own (W := w) hgr (own_keep HR.out.2.2 hb2) (by omega) (below_via hB hb2)
        have hX3 : w'.heap[w.heap.size]? = some (.cells #[.int .i64 o0, .int .i64 o1, .int .i64 o2, .int .i64 o3] 44 (0, 0)) := (hgr.block _ (by have := hb2.size; omega) (fun e => by have := ((own_keep HR.out.2.2 hb2).lt _ e.symm).1; omega)).trans ((hb2.block _ hsz).trans HR.out.2.1)
        rw [← HQ.out] at how
        have HRUN := hideIt hrun
        have HG := hideIt (And.intro hB3 (And.intro hX3 how))
        clear hB3 hX3 how hrun hgr hb2 hd HR HH hen hq hB HQ hlen
        rw [hv] at HRUN ⊢
        clear hv
        go_wp2_with fail
        go_region
        go_wp2_with (at_builtin; refine Lib.wpList_append_run _ rfl _ _ _ _ rfl _ _ rfl rfl _ _ HRUN.out ?_)
        go_roundw
        case rel => exact ⟨t + 1, by go_num, by omega, HG⟩
        case measure => simp [intOf]; omega
      · have HQ := hideIt (wiL_miss hlt hq)
        generalize hen : l[t] = en at *
        obtain ⟨⟨x, y⟩, ⟨z, u⟩⟩ := en
        dsimp only at c0 c1 c2 c3
        have q1 : ∀ W, (binOp .neq 44 (.agg #[.int .i64 x, .int .i64 y, .int .i64 z, .int .i64 u]) (.agg #[.int .i64 o0, .int .i64 o1, .int .i64 o2, .int .i64 o3])).run Try.prog W = .ok (.bool false) W := fun W => by rw [neq44, hq]; rfl
        have hb1 := (Below.refl wr.heap.size wr).drew
        have how := own_keep HR.out.2.2 hb1
        rw [← HQ.out] at how
        have HG := hideIt (And.intro (below_via hB hb1) (And.intro ((hb1.block _ hsz).trans HR.out.2.1) how))
        clear how hb1 HR HH hen hq hB HQ
        rw [hv] at HG ⊢
        clear hv
        go_wp2_with fail
        go_region
        go_wp2
        go_roundw
        case rel => exact ⟨t + 1, by go_num, by omega, HG⟩
        case measure => simp [intOf]; omega
    · have hltI : ¬ (t : Int) < (l.length : Int) := by omega
      have hE : l.take t = l := List.take_of_length_le (by omega)
      have HG := hideIt HR.out
      rw [hE] at HG
      obtain ⟨va, vc, hv⟩ := own_len HG.out.2.2
      clear HR HH hE
      rw [hv] at HG ⊢
      clear hv
      go_wp2
      go_ret
      exact ⟨_, rfl, own_base HG.out.2.2 (by omega), HG.out.1⟩
/-- Letting go, in the document's words. -/
theorem free_doc {T : TabV} {k : KeyV} {t : TxnV} (hr : refE T k t = 0) : freeL T k t = if (heldB T.held k && (hdT T.held k == t)) = true then (if (oldL (qL T.wait k) == zT) = true then (⟨wiL T.held (k, t), T.wait⟩, zT, 0) else (⟨wiL T.held (k, t) ++ [(k, oldL (qL T.wait k))], wiL T.wait (k, oldL (qL T.wait k))⟩, oldL (qL T.wait k), 0)) else (⟨T.held, wiL T.wait (k, t)⟩, zT, 0) := by
  obtain ⟨hc, hk, ht⟩ := ref_ok hr
  have m := (chk_iff T).1 hc
  have hh := held_iff m.hh k
  have hz := nam_ne ht
  unfold freeL
  rw [if_pos hr]
  by_cases h1 : hdT T.held k = t
  · have hb : heldB T.held k = true := hh.2 (by rw [h1]; exact hz)
    have hn : (k, t) ∉ T.wait := fun hx => (m.mw _ hx).2.1 h1
    rw [hb, h1, wi_not hn]
    simp only [BEq.rfl, Bool.true_and, if_true, Bool.true_eq_false, false_or]
  · have e1 : (hdT T.held k == t) = false := beq_eq_false_iff_ne.2 h1
    have hn : (k, t) ∉ T.held := fun hx => h1 (find_key m.nd hx)
    rw [e1, wi_not hn]
    simp
theorem old_q {l : List HoldV} {i : Nat} {k : KeyV} (h : i < l.length) : oldL (qL (l.take (i + 1)) k) = if (l[i].1 == k) = true then oldF (oldL (qL (l.take i) k)) l[i].2 else oldL (qL (l.take i) k) := by
  by_cases hp : (l[i].1 == k) = true
  · rw [if_pos hp, qL_hit h hp]
    unfold oldL
    rw [List.foldl_append]
    rfl
  · rw [if_neg hp, qL_miss h (by simpa using hp)]
/-- What is held is others now. -/
theorem AQ.setH {w W wx : World} {os : List Obj} {K : Nat} {cs : Array Value} {t : TypeId} {T : TabV} {P : Nat} {h v h2 : Value} {hd2 : List HoldV} (a : AQ w os K cs t T P h v W) (c : CS W hd2 h2 wx) : AQ w os K cs t ⟨hd2, T.wait⟩ P h2 v (wx.setCell ⟨P, 0, none⟩ h2) := by
  have a2 := a.keep c.bel
  have lP := a.lP
  refine ⟨⟨fun i hi => (heap_set_other _ _ _ _ _ (by omega)).trans (a2.bx.at_ i hi), belowSet _ a2.bx.bel (by omega), by simpa using a2.bx.size⟩, setOther _ a2.hk a.ne, heap_set a2.box 0 h2, ⟨own_cell (own_base c.own a.bx.size) a2.box (by decide), own_cell a2.own.ov a2.box (by decide)⟩, ?_, lP, a.ne⟩
  rcases hq : h2.ownBlock with _ | b
  · exact .inl rfl
  · refine .inr (fun e => ?_)
    have h1 := (c.own.lt b hq).1
    have h3 := (a.own.ov.lt b e.symm).2
    omega
theorem AQ.setV {w W wx : World} {os : List Obj} {K : Nat} {cs : Array Value} {t : TypeId} {T : TabV} {P : Nat} {h v v2 : Value} {wt2 : List HoldV} (a : AQ w os K cs t T P h v W) (c : CS W wt2 v2 wx) : AQ w os K cs t ⟨T.held, wt2⟩ P h v2 (wx.setCell ⟨P, 1, none⟩ v2) := by
  have a2 := a.keep c.bel
  have lP := a.lP
  refine ⟨⟨fun i hi => (heap_set_other _ _ _ _ _ (by omega)).trans (a2.bx.at_ i hi), belowSet _ a2.bx.bel (by omega), by simpa using a2.bx.size⟩, setOther _ a2.hk a.ne, heap_set a2.box 1 v2, ⟨own_cell a2.own.oh a2.box (by decide), own_cell (own_base c.own a.bx.size) a2.box (by decide)⟩, ?_, lP, a.ne⟩
  rcases hq : h.ownBlock with _ | b
  · exact .inl rfl
  · refine .inr (fun e => ?_)
    have h1 := (a.own.oh.lt b hq).2
    have h3 := (c.own.lt b e.symm).1
    omega
/-- The next one's box beside. -/
structure FN (w : World) (os : List Obj) (K : Nat) (cs : Array Value) (T : TabV) (P : Nat) (h v : Value) (N : Nat) (f : TxnV) (wx : World) : Prop where
  aq : AQ w os K cs 44 T P h v wx
  nb : wx.heap[N]? = some (.cells #[.int .i64 f.1, .int .i64 f.2] 28 (0, 0))
  lN : w.heap.size + os.length ≤ N
theorem FN.keep {w wx wy : World} {os : List Obj} {K : Nat} {cs : Array Value} {T : TabV} {P N : Nat} {h v : Value} {f : TxnV} (a : FN w os K cs T P h v N f wx) (hb : Below wx.heap.size wx wy) : FN w os K cs T P h v N f wy :=
  ⟨a.aq.keep hb, (hb.block _ (Array.getElem?_eq_some_iff.1 a.nb).1).trans a.nb, a.lN⟩
theorem FN.neP {w wx : World} {os : List Obj} {K : Nat} {cs : Array Value} {T : TabV} {P N : Nat} {h v : Value} {f : TxnV} (a : FN w os K cs T P h v N f wx) : N ≠ P := fun e => by
  have := a.nb
  rw [e, a.aq.box] at this
  simp at this
theorem FN.neK {w wx : World} {os : List Obj} {K : Nat} {cs : Array Value} {T : TabV} {P N : Nat} {h v : Value} {f : TxnV} (a : FN w os K cs T P h v N f wx) : N ≠ K := fun e => by
  have := a.nb
  rw [e, a.aq.hk] at this
  simp at this
theorem FN.set {w wx : World} {os : List Obj} {K : Nat} {cs : Array Value} {T : TabV} {P N : Nat} {h v : Value} {f : TxnV} (a : FN w os K cs T P h v N f wx) (g : TxnV) : FN w os K cs T P h v N g ((wx.setCell ⟨N, 0, none⟩ (.int .i64 g.1)).setCell ⟨N, 1, none⟩ (.int .i64 g.2)) := by
  have lN := a.lN
  have b := a.aq
  exact ⟨⟨⟨fun i hi => (heap_set_other _ _ _ _ _ (by omega)).trans ((heap_set_other _ _ _ _ _ (by omega)).trans (b.bx.at_ i hi)), belowSet _ (belowSet _ b.bx.bel (by omega)) (by omega), by simpa using b.bx.size⟩, setOther _ (setOther _ b.hk a.neK.symm) a.neK.symm, setOther _ (setOther _ b.box a.neP.symm) a.neP.symm,
    ⟨own_cell (own_cell b.own.oh a.nb (by decide)) (heap_set a.nb 0 _) (by decide), own_cell (own_cell b.own.ov a.nb (by decide)) (heap_set a.nb 0 _) (by decide)⟩, b.sep, b.lP, b.ne⟩, put2 a.nb _ _, lN⟩
theorem FN.setV {w W wx : World} {os : List Obj} {K : Nat} {cs : Array Value} {T : TabV} {P N : Nat} {h v v2 : Value} {f : TxnV} {wt2 : List HoldV} (a : FN w os K cs T P h v N f W) (c : CS W wt2 v2 wx) : FN w os K cs ⟨T.held, wt2⟩ P h v2 N f (wx.setCell ⟨P, 1, none⟩ v2) :=
  ⟨a.aq.setV c, setOther _ ((a.keep c.bel).nb) a.neP, a.lN⟩
/-- One more behind what is held; the next one's box stays. -/
theorem FN.appH {w W : World} {os : List Obj} {K : Nat} {cs : Array Value} {T : TabV} {P N b c : Nat} {h v : Value} {f : TxnV} {x : HoldV} (a : FN w os K cs T P h v N f W) (hb : W.heap[b]? = some (.cells (holE x).toArray 44 (0, 0))) (hl : T.held.length ≤ 1000) :
    ∃ a' c' w', (Builtin.append_ #[22, 22] 22 #[h, .slice (some ⟨b, 0, none⟩) 1 c]).run Try.prog W = .ok (.slice a' (T.held.length + 1) c') w' ∧ AR w os ⟨T.held ++ [x], T.wait⟩ P (.slice a' (T.held.length + 1) c') v (w'.setCell ⟨P, 0, none⟩ (.slice a' (T.held.length + 1) c')) ∧ w'.cell? ⟨P, 0, none⟩ = some h ∧ w'.cell? ⟨P, 1, none⟩ = some v ∧ w'.frozen? ⟨P, 0, none⟩ = false ∧ P < w'.heap.size ∧ (w'.setCell ⟨P, 0, none⟩ (.slice a' (T.held.length + 1) c')).heap[N]? = some (.cells #[.int .i64 f.1, .int .i64 f.2] 28 (0, 0)) := by
  obtain ⟨v', w', hrun, how, hgr⟩ := app1 (enc := holE) (t := 22) holK hol1 Try.underlying22 info44 rfl (by omega) W (w.heap.size + os.length) h T.held x b c a.aq.bx.size a.aq.own.oh hb (by omega) (by unfold maxLen; omega)
  obtain ⟨a', c', w2, hrun2, h2, h3, h4, h5, h6⟩ := a.aq.appH (c := c) hb hl
  have e := hrun.symm.trans hrun2
  simp only [Result.ok.injEq] at e
  obtain ⟨rfl, rfl⟩ := e
  exact ⟨a', c', w', hrun2, h2, h3, h4, h5, h6, setOther _ (box_type hgr a.aq.own.oh a.nb (by decide)) a.neP⟩
end Go.Proofs.Ytgfpeknhabbkbaa
