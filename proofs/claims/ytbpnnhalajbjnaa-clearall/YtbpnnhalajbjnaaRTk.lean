/- The document's Take, walked. -/
import Derived.Test.YtbpnnhalajbjnaaTake
import Derived.Test.YtbpnnhalajbjnaaRCh
import Derived.Test.YtbpnnhalajbjnaaLive
import Derived.Deep.RegionLaw
import Derived.Deep.QuietTactic
namespace Go.Proofs.Ytbpnnhalajbjnaa
open Go.RowKit
set_option linter.all false
/-- The document's Take on its way: the book's box, the result's, the copy's; what is taken and what is left. -/
structure RT (w : World) (K : Nat) (L : LaneV) (b a o ub ua uo ut : Value) (A : List AmV) (R : List OweV) (W : World) : Prop where
  bx : W.heap[w.heap.size]? = some (.cells (laneA L b a o) 37 (0, 0))
  rs : W.heap[w.heap.size + 1]? = some (.cells #[.bool false, .int .i64 0, .slice none 0 0, .slice none 0 0, .slice none 0 0] 37 (0, 0))
  ox : W.heap[K]? = some (.cells #[.bool L.call, .int .i64 L.next, ub, ua, uo] 37 (0, 0))
  rb : W.ownsRow (w.heap.size + 2) 47 4 ub L.bids.length (celC ordE L.bids)
  ra : W.ownsRow (w.heap.size + 2) 47 4 ua L.asks.length (celC ordE L.asks)
  ro : W.ownsRow (w.heap.size + 2) 45 3 uo R.length (celC oweE R)
  rt : W.ownsRow (w.heap.size + 2) 52 2 ut A.length (celC amE A)
  bel : Below w.heap.size w W
  hK : w.heap.size + 2 ≤ K
  hs : w.heap.size + 2 ≤ W.heap.size
theorem RT.keep {w W W' : World} {K : Nat} {L : LaneV} {b a o ub ua uo ut : Value} {A : List AmV} {R : List OweV} (h : RT w K L b a o ub ua uo ut A R W) (hb : Below W.heap.size W W') : RT w K L b a o ub ua uo ut A R W' :=
  ⟨blkK h.bx hb, blkK h.rs hb, blkK h.ox hb, own_keep h.rb hb, own_keep h.ra hb, own_keep h.ro hb, own_keep h.rt hb, below_via h.bel hb, h.hK, Nat.le_trans h.hs hb.size⟩
theorem grown_size {w w' : World} {r : Option Nat} (h : w.grownBy w' r) : w.heap.size ≤ w'.heap.size := (Out.ofGrown (F := fun _ => True) h (fun _ _ => trivial)).size
theorem RT.appT {w W : World} {K : Nat} {L : LaneV} {b a o ub ua uo ut : Value} {A : List AmV} {R : List OweV} (h : RT w K L b a o ub ua uo ut A R W) (x : AmV) (hl : A.length * 16 + 16 ≤ 140737488355328) : ∃ a' c' w', (Builtin.append_ #[39, 39] 39 #[ut, .slice (some ⟨W.heap.size, 0, none⟩) 1 1]).run Try.prog (W.alloc (.cells (amE x).toArray 52)) = .ok (.slice a' (A.length + 1) c') w' ∧ RT w K L b a o ub ua uo (.slice a' (A.length + 1) c') (A ++ [x]) R w' := by
  have hb := below1 W (.cells (amE x).toArray 52)
  have h1 := h.keep hb
  obtain ⟨v', w', hrun, how, hgr⟩ := app1 (enc := amE) (t := 39) amK am1 Try.underlying39 info52 rfl (by omega) (W.alloc (.cells (amE x).toArray 52)) (w.heap.size + 2) ut A x W.heap.size 1 h1.hs h1.rt (heap_alloc_new W _) (by omega) (by unfold maxLen; omega)
  obtain ⟨a', c', rfl⟩ := own_len how
  have hlen : (A ++ [x]).length = A.length + 1 := by simp
  rw [hlen] at hrun how
  exact ⟨a', c', w', hrun, box_type hgr h1.rt h1.bx (by decide), box_type hgr h1.rt h1.rs (by decide), box_type hgr h1.rt h1.ox (by decide), own_type hgr h1.rt h1.rb (by decide), own_type hgr h1.rt h1.ra (by decide), own_type hgr h1.rt h1.ro (by decide), by rw [hlen]; exact how, grown_own hgr h1.rt (by omega) h1.bel, h1.hK, Nat.le_trans h1.hs (grown_size hgr)⟩
theorem RT.appR {w W : World} {K : Nat} {L : LaneV} {b a o ub ua uo ut : Value} {A : List AmV} {R : List OweV} (h : RT w K L b a o ub ua uo ut A R W) (x : OweV) (hl : R.length * 24 + 24 ≤ 140737488355328) : ∃ a' c' w', (Builtin.append_ #[35, 35] 35 #[uo, .slice (some ⟨W.heap.size, 0, none⟩) 1 1]).run Try.prog (W.alloc (.cells (oweE x).toArray 45)) = .ok (.slice a' (R.length + 1) c') w' ∧ RT w K L b a o ub ua (.slice a' (R.length + 1) c') ut A (R ++ [x]) (w'.setCell ⟨K, 4, none⟩ (.slice a' (R.length + 1) c')) ∧ w'.cell? ⟨K, 4, none⟩ = some uo ∧ w'.frozen? ⟨K, 4, none⟩ = false ∧ K < w'.heap.size := by
  have hb := below1 W (.cells (oweE x).toArray 45)
  have h1 := h.keep hb
  obtain ⟨v', w', hrun, how, hgr⟩ := app1 (enc := oweE) (t := 35) oweK owe1 Try.underlying35 info63 rfl (by omega) (W.alloc (.cells (oweE x).toArray 45)) (w.heap.size + 2) uo R x W.heap.size 1 h1.hs h1.ro (heap_alloc_new W _) (by omega) (by unfold maxLen; omega)
  obtain ⟨a', c', rfl⟩ := own_len how
  have hlen : (R ++ [x]).length = R.length + 1 := by simp
  rw [hlen] at hrun how
  have hox := box_type hgr h1.ro h1.ox (by decide)
  have n1 : w.heap.size ≠ K := by have := h.hK; omega
  have n2 : w.heap.size + 1 ≠ K := by have := h.hK; omega
  exact ⟨a', c', w', hrun, ⟨setOther _ (box_type hgr h1.ro h1.bx (by decide)) n1, setOther _ (box_type hgr h1.ro h1.rs (by decide)) n2, heap_set hox 4 _, own_cell (own_type hgr h1.ro h1.rb (by decide)) hox (by decide), own_cell (own_type hgr h1.ro h1.ra (by decide)) hox (by decide), own_cell (by rw [hlen]; exact how) hox (by decide), own_cell (own_type hgr h1.ro h1.rt (by decide)) hox (by decide), belowSet _ (grown_own hgr h1.ro (by omega) h1.bel) (by have := h.hK; omega), h.hK, by simpa using Nat.le_trans h1.hs (grown_size hgr)⟩, by rw [cell_at hox]; rfl, free_at hox _, (Array.getElem?_eq_some_iff.1 hox).1⟩
theorem RT.first {w w2 : World} {L : LaneV} {b a o ub ua : Value} (h : CB w L b a o w2) (hb : w2.ownsRow (w.heap.size + 2) 47 4 ub L.bids.length (celC ordE L.bids)) (ha : w2.ownsRow (w.heap.size + 2) 47 4 ua L.asks.length (celC ordE L.asks)) :
    RT w w2.heap.size L b a o ub ua (.slice none 0 0) (.slice none 0 0) [] [] (w2.alloc (.cells #[.bool L.call, .int .i64 L.next, ub, ua, .slice none 0 0] 37)) := by
  have hb1 := below1 w2 (.cells #[.bool L.call, .int .i64 L.next, ub, ua, .slice none 0 0] 37)
  have hn := heap_alloc_new w2 (.cells #[.bool L.call, .int .i64 L.next, ub, ua, .slice none 0 0] 37)
  have h1 := h.keep hb1
  have hs := h.size
  exact ⟨h1.box, h1.res, hn, own_keep hb hb1, own_keep ha hb1, own_nil _ _, own_nil _ _, h1.bel, by omega, h1.size⟩
theorem put5 (wc : World) (b : Nat) (ty : TypeId) (v0 v1 v2 v3 v4 : Value) {z0 z1 z2 z3 z4 : Value} (h : wc.heap[b]? = some (.cells #[z0, z1, z2, z3, z4] ty (0, 0))) :
    (((((wc.setCell ⟨b, 0, none⟩ v0).setCell ⟨b, 1, none⟩ v1).setCell ⟨b, 2, none⟩ v2).setCell ⟨b, 3, none⟩ v3).setCell ⟨b, 4, none⟩ v4).heap[b]? = some (.cells #[v0, v1, v2, v3, v4] ty (0, 0)) := by
  have h0 := heap_set h 0 v0
  have h1 := heap_set h0 1 v1
  have h2 := heap_set h1 2 v2
  have h3 := heap_set h2 3 v3
  exact heap_set h3 4 v4
set_option maxHeartbeats 16000000 in
set_option maxRecDepth 100000 in
theorem rTake_is (L : LaneV) (b a o : Value) (acc : Int) (w : World) (h : Lan w L b a o) : Calls Try.prog 16 #[laneV L b a o, .int .i64 acc] w (TkB (takR L acc) w) := by
  have X0 := hideIt (CB.first w L b a o)
  have HC := hideIt (rCheck_is L b a o _ (h.keep X0.out.bel))
  have HCO := hideIt (fun W (hW : Below w.heap.size w W) => rCopy_is L b a o W (h.keep hW))
  have HOW := hideIt h.owed
  obtain ⟨ba, bc, rfl⟩ := h.bids.slice
  obtain ⟨aa, ac, rfl⟩ := h.asks.slice
  obtain ⟨oa, oc, rfl⟩ := h.owed.slice
  clear h
  cases hk : chkB L
  · have HR : Hid (takR L acc = (zLn, [], 130)) := by show _ = _; unfold takR; rw [if_pos hk]
    rw [show chkI L = 130 by unfold chkI; rw [hk]; rfl] at HC
    generalize takR L acc = RX at *
    unfold laneV laneA at *
    obtain ⟨cl, nx, bids, asks, owed⟩ := L
    simp only at *
    clear hk HCO HOW
    obtain ⟨x0, x1, x2, x3, x4⟩ := X0.out.cells
    go_enter Try.func16, Try.ntmps16
    go_wp2_with fail
    refine HC.out.mono ?_
    rintro e w1 ⟨rfl, hb⟩
    dsimp only
    have X1 := hideIt (X0.out.keep hb)
    clear hb X0 HC
    obtain ⟨⟨r0, r1, r2, r3, r4⟩, rf, rl⟩ := five5_at X1.out.res
    have HP := hideIt (X1.out.put (.bool false) (.int .i64 0) (.slice none 0 0) (.slice none 0 0) (.slice none 0 0))
    go_wp2
    revert HP
    generalize (World.setCell _ ⟨w.heap.size + 1, 4, none⟩ _) = W
    intro HP
    exact bodyPost_ret (v := .tuple #[laneV zLn (.slice none 0 0) (.slice none 0 0) (.slice none 0 0), .slice none 0 0, .int .i64 130]) (by simp [results, Try.results16, go_sem, cell_at HP.out.1, laneV, laneA, zLn]) rfl (by unfold TkB; rw [HR.out]; exact ⟨_, _, _, _, rfl, own_nil _ _, own_nil _ _, own_nil _ _, own_nil _ _, HP.out.2⟩)
  · rw [show chkI L = 0 by unfold chkI; rw [hk]; rfl] at HC
    cases ha : wiB acc 1 8
    · have HR : Hid (takR L acc = (zLn, [], 1)) := by show _ = _; unfold takR; rw [if_neg (by simp [hk]), if_pos ha]
      have ha2 : acc < 1 ∨ 8 < acc := by
        unfold wiB at ha
        simp only [decide_eq_false_iff_not] at ha
        omega
      generalize takR L acc = RX at *
      unfold laneV laneA at *
      obtain ⟨cl, nx, bids, asks, owed⟩ := L
      simp only at *
      clear hk ha HCO HOW
      go_enter Try.func16, Try.ntmps16
      go_wp2_with fail
      refine HC.out.mono ?_
      rintro e w1 ⟨rfl, hb⟩
      dsimp only
      have X1 := hideIt (X0.out.keep hb)
      clear hb X0 HC
      by_cases h1 : acc < 1
      · clear ha2
        obtain ⟨⟨r0, r1, r2, r3, r4⟩, rf, rl⟩ := five5_at X1.out.res
        have HP := hideIt (X1.out.put (.bool false) (.int .i64 0) (.slice none 0 0) (.slice none 0 0) (.slice none 0 0))
        go_wp2
        revert HP
        generalize (World.setCell _ ⟨w.heap.size + 1, 4, none⟩ _) = W
        intro HP
        exact bodyPost_ret (v := .tuple #[laneV zLn (.slice none 0 0) (.slice none 0 0) (.slice none 0 0), .slice none 0 0, .int .i64 1]) (by simp [results, Try.results16, go_sem, cell_at HP.out.1, laneV, laneA, zLn]) rfl (by unfold TkB; rw [HR.out]; exact ⟨_, _, _, _, rfl, own_nil _ _, own_nil _ _, own_nil _ _, own_nil _ _, HP.out.2⟩)
      · have h2 : 8 < acc := by omega
        clear ha2
        obtain ⟨⟨r0, r1, r2, r3, r4⟩, rf, rl⟩ := five5_at X1.out.res
        have HP := hideIt (X1.out.put (.bool false) (.int .i64 0) (.slice none 0 0) (.slice none 0 0) (.slice none 0 0))
        go_wp2
        revert HP
        generalize (World.setCell _ ⟨w.heap.size + 1, 4, none⟩ _) = W
        intro HP
        exact bodyPost_ret (v := .tuple #[laneV zLn (.slice none 0 0) (.slice none 0 0) (.slice none 0 0), .slice none 0 0, .int .i64 1]) (by simp [results, Try.results16, go_sem, cell_at HP.out.1, laneV, laneA, zLn]) rfl (by unfold TkB; rw [HR.out]; exact ⟨_, _, _, _, rfl, own_nil _ _, own_nil _ _, own_nil _ _, own_nil _ _, HP.out.2⟩)
    · have HR : Hid (takR L acc = (⟨L.call, L.next, L.bids, L.asks, lefA acc L.owed⟩, takA acc L.owed, 0)) := by show _ = _; unfold takR; rw [if_neg (by simp [hk]), if_neg (by simp [ha])]
      have ha2 : 1 ≤ acc ∧ acc ≤ 8 := of_decide_eq_true ha
      generalize takR L acc = RX at *
      unfold laneV laneA at *
      obtain ⟨cl, nx, bids, asks, owed⟩ := L
      simp only at *
      have HS1 := hideIt (fun t (ht : t < owed.length) => show takA acc (owed.take (t + 1)) = takA acc (owed.take t) ++ (if owed[t].acc = acc then [⟨owed[t].asset, owed[t].n⟩] else []) by
        unfold takA
        rw [List.take_succ_eq_append_getElem ht, List.filter_append, List.map_append]
        congr 1
        by_cases e : owed[t].acc = acc <;> simp [e])
      have HS2 := hideIt (fun t (ht : t < owed.length) => show lefA acc (owed.take (t + 1)) = lefA acc (owed.take t) ++ (if owed[t].acc = acc then [] else [owed[t]]) by
        unfold lefA
        rw [List.take_succ_eq_append_getElem ht, List.filter_append]
        congr 1
        by_cases e : owed[t].acc = acc <;> simp [e])
      have HL1 := hideIt (fun t => Nat.le_trans (takA_len acc (owed.take t)) (List.length_take_le t owed))
      have HL2 := hideIt (fun t => Nat.le_trans (lefA_len acc (owed.take t)) (List.length_take_le t owed))
      have HF1 : Hid (takA acc (owed.take owed.length) = takA acc owed) := by show _ = _; rw [List.take_length]
      have HF2 : Hid (lefA acc (owed.take owed.length) = lefA acc owed) := by show _ = _; rw [List.take_length]
      have HI : Hid (takA acc (owed.take 0) = [] ∧ lefA acc (owed.take 0) = []) := by constructor <;> simp [takA, lefA]
      generalize takA acc owed = TA at *
      generalize lefA acc owed = TL1 at *
      generalize hfu : (fun t : Nat => takA acc (owed.take t)) = FA at *
      generalize hfv : (fun t : Nat => lefA acc (owed.take t)) = FL at *
      have HT1 : Hid (∀ t, takA acc (owed.take t) = FA t) := fun t => congrFun hfu t
      have HT2 : Hid (∀ t, lefA acc (owed.take t) = FL t) := fun t => congrFun hfv t
      simp only [HT1.out, HT2.out] at HS1 HS2 HL1 HL2 HF1 HF2 HI
      clear hfu hfv HT1 HT2 hk ha
      obtain ⟨ob', oc', e, h8, hr⟩ := HOW.out.owes
      simp only [Value.slice.injEq, true_and] at e
      obtain ⟨rfl, rfl⟩ := e
      have HH := hideIt hr
      clear hr HOW
      have ha3 : ¬ acc < 1 := by omega
      have ha4 : ¬ 8 < acc := by omega
      clear ha2
      go_enter Try.func16, Try.ntmps16
      go_wp2_with fail
      refine HC.out.mono ?_
      rintro e w1 ⟨rfl, hb⟩
      dsimp only
      have X1 := hideIt (X0.out.keep hb)
      clear hb X0 HC
      obtain ⟨x0, x1, x2, x3, x4⟩ := X1.out.cells
      have xz : w.heap.size < w1.heap.size := by have := X1.out.size; omega
      simp only at x0 x1 x2 x3 x4
      go_wp2_with fail
      refine (HCO.out _ X1.out.bel).mono ?_
      rintro e w2 ⟨ub, ua, uo, rfl, hob, hoa, hoo, -, hb⟩
      unfold laneV laneA
      dsimp only
      obtain ⟨uba, ubc, rfl⟩ := own_len hob
      obtain ⟨uaa, uac, rfl⟩ := own_len hoa
      obtain ⟨uoa, uoc, rfl⟩ := own_len hoo
      dsimp only at hob hoa
      have R0 := hideIt (RT.first (X1.out.keep hb) (own_base hob X1.out.size) (own_base hoa X1.out.size))
      unfold laneA at R0
      dsimp only at R0
      clear hob hoa hoo hb HCO X1 x0 x1 x2 x3 x4 xz
      go_upto_region 9 with fail
      generalize w2.alloc (.cells #[.bool cl, .int .i64 nx, .slice uba bids.length ubc, .slice uaa asks.length uac, .slice none 0 0] 37) = W0 at *
      generalize w2.heap.size = K at *
      go_loopw [8, 9] (fun u x wr => ∃ t : Nat, ∃ A R, ∃ ta tc va vc, u = .slice ta A.length tc ∧ x = .int .i64 t ∧ t ≤ owed.length ∧ Hid (FA t = A ∧ FL t = R) ∧ Hid (RT w K ⟨cl, nx, bids, asks, owed⟩ (.slice ba bids.length bc) (.slice aa asks.length ac) (.slice oa owed.length oc) (.slice uba bids.length ubc) (.slice uaa asks.length uac) (.slice va R.length vc) (.slice ta A.length tc) A R wr)) (fun _ x _ => owed.length - (intOf x).toNat)
      case atStart => exact ⟨0, [], [], none, 0, none, 0, rfl, rfl, Nat.zero_le _, HI, R0⟩
      case round =>
        obtain ⟨t, A, R, ta, tc, va, vc, rfl, rfl, ht, HAR, HX⟩ := hrel
        obtain ⟨⟨b0, b1, b2, b3, b4⟩, bf, bz⟩ := five5_at HX.out.bx
        obtain ⟨⟨k0, k1, k2, k3, k4⟩, kf, kz⟩ := five5_at HX.out.ox
        clear b0 b1 b2 b3
        by_cases hlt : t < owed.length
        · have hltI : (t : Int) < (owed.length : Int) := by omega
          have ht0 : (0 : Int) ≤ (t : Int) := by omega
          have hwt : IntKind.i64.wrap ((t : Int) + 1) = ((t + 1 : Nat) : Int) := by rw [IntKind.wrap_i64]; omega
          have HB := hideIt HX.out.bel
          obtain ⟨b, off, rfl, hbl, q0, q1, q2⟩ := HH.out t hlt
          have hblr : b < wr.heap.size := Nat.lt_of_lt_of_le hbl HB.out.size
          have c0 := (HB.out.cell (p := ⟨b, off + t * 3, none⟩) hbl).trans q0
          have c1 := (HB.out.cell (p := ⟨b, off + t * 3 + 1, none⟩) hbl).trans q1
          have c2 := (HB.out.cell (p := ⟨b, off + t * 3 + 2, none⟩) hbl).trans q2
          have HF3 := hideIt (HS1.out t hlt)
          have HF4 := hideIt (HS2.out t hlt)
          have hA := HL1.out t
          have hR := HL2.out t
          rw [HAR.out.1] at HF3 hA
          rw [HAR.out.2] at HF4 hR
          clear q0 q1 q2 HH HS1 HS2 HL1 HL2 HB HAR
          generalize owed[t] = y at *
          obtain ⟨ya, ys, yn⟩ := y
          dsimp only at c0 c1 c2 HF3 HF4
          by_cases e : ya = acc
          · rw [if_pos e] at HF3 HF4
            rw [List.append_nil] at HF4
            obtain ⟨a', c', w', hrun, hX'⟩ := (HX.out.keep (Below.refl _ wr).drew).appT ⟨ys, yn⟩ (by omega)
            rw [show wr.drew.heap.size = wr.heap.size from rfl] at hrun
            have HRUN := hideIt hrun
            have HX2 := hideIt hX'
            unfold amE at HRUN
            dsimp only at HRUN
            subst e
            have hlen : (A ++ [(⟨ys, yn⟩ : AmV)]).length = A.length + 1 := by simp
            have nB : w.heap.size ≠ wr.heap.size := by omega
            have nb : b ≠ wr.heap.size := by omega
            clear hrun hX' HX k0 k1 k2 k3 k4 kf kz hbl
            rw [← hlen] at HX2
            go_upto_region 12 with fail
            go_region_law (refine step_app_runK rfl _ _ 39 39 rfl _ _ rfl rfl HRUN.out ?_)
            all_goals clear HRUN
            all_goals go_wp2
            all_goals go_roundw
            all_goals first | exact ⟨t + 1, A ++ [⟨ys, yn⟩], R, a', c', va, vc, by rw [hlen], by go_num, by omega, hideIt ⟨HF3.out, HF4.out⟩, HX2⟩ | (simp [intOf]; omega)
          · rw [if_neg e] at HF3 HF4
            rw [List.append_nil] at HF3
            obtain ⟨a', c', w', hrun, hX', s4, sf, sz⟩ := (HX.out.keep (Below.refl _ wr).drew).appR ⟨ya, ys, yn⟩ (by omega)
            rw [show wr.drew.heap.size = wr.heap.size from rfl] at hrun
            have HRUN := hideIt hrun
            have HX2 := hideIt hX'
            unfold oweE at HRUN
            dsimp only at HRUN
            have hee : (ya == acc) = false := by simpa using e
            have hlen : (R ++ [(⟨ya, ys, yn⟩ : OweV)]).length = R.length + 1 := by simp
            have nB : w.heap.size ≠ wr.heap.size := by omega
            have nK : K ≠ wr.heap.size := by omega
            have nb : b ≠ wr.heap.size := by omega
            have HX3 : Hid (RT w K ⟨cl, nx, bids, asks, owed⟩ (.slice ba bids.length bc) (.slice aa asks.length ac) (.slice (some ⟨b, off, none⟩) owed.length oc) (.slice uba bids.length ubc) (.slice uaa asks.length uac) (.slice a' (R ++ [(⟨ya, ys, yn⟩ : OweV)]).length c') (.slice ta A.length tc) A (R ++ [(⟨ya, ys, yn⟩ : OweV)]) (w'.setCell ⟨K, 4, none⟩ (.slice a' (R.length + 1) c'))) := by rw [hlen]; exact HX2
            clear hrun hX' HX HX2 k0 k1 k2 k3 hbl
            go_upto_region 13 with fail
            go_region_law (refine step_app_runK rfl _ _ 35 35 rfl _ _ rfl rfl HRUN.out ?_)
            all_goals clear HRUN
            all_goals go_wp2
            all_goals go_roundw
            all_goals first | exact ⟨t + 1, A, R ++ [⟨ya, ys, yn⟩], ta, tc, a', c', rfl, by go_num, by omega, hideIt ⟨HF3.out, HF4.out⟩, HX3⟩ | (simp [intOf]; omega)
        · have hltI : ¬ (t : Int) < (owed.length : Int) := by omega
          have het : t = owed.length := by omega
          subst het
          have e1 : A = TA := HAR.out.1.symm.trans HF1.out
          have e2 : R = TL1 := HAR.out.2.symm.trans HF2.out
          subst e1 e2
          obtain ⟨⟨r0, r1, r2, r3, r4⟩, rf, rz⟩ := five5_at HX.out.rs
          have nK : K ≠ w.heap.size + 1 := by have := HX.out.hK; omega
          have nK2 : w.heap.size + 1 ≠ K := nK.symm
          have HPT := hideIt (put5 wr (w.heap.size + 1) 37 (.bool cl) (.int .i64 nx) (.slice uba bids.length ubc) (.slice uaa asks.length uac) (.slice va R.length vc) HX.out.rs)
          have HB5 := hideIt (belowSet (j := 4) (.slice va R.length vc) (belowSet (j := 3) (.slice uaa asks.length uac) (belowSet (j := 2) (.slice uba bids.length ubc) (belowSet (j := 1) (.int .i64 nx) (belowSet (j := 0) (.bool cl) HX.out.bel (Nat.le_succ _)) (Nat.le_succ _)) (Nat.le_succ _)) (Nat.le_succ _)) (Nat.le_succ _))
          have HRW := hideIt (And.intro (own_five HX.out.rb HX.out.rs (by decide) (.bool cl) (.int .i64 nx) (.slice uba bids.length ubc) (.slice uaa asks.length uac) (.slice va R.length vc)) (And.intro (own_five HX.out.ra HX.out.rs (by decide) (.bool cl) (.int .i64 nx) (.slice uba bids.length ubc) (.slice uaa asks.length uac) (.slice va R.length vc)) (And.intro (own_five HX.out.ro HX.out.rs (by decide) (.bool cl) (.int .i64 nx) (.slice uba bids.length ubc) (.slice uaa asks.length uac) (.slice va R.length vc)) (own_five HX.out.rt HX.out.rs (by decide) (.bool cl) (.int .i64 nx) (.slice uba bids.length ubc) (.slice uaa asks.length uac) (.slice va R.length vc)))))
          clear HX HAR HF1 HF2 HH HS1 HS2 HL1 HL2
          go_wp2
          revert HPT HRW HB5
          generalize (World.setCell _ ⟨w.heap.size + 1, 4, none⟩ _) = WF
          intro HPT HB5 HRW
          exact bodyPost_ret (v := .tuple #[.agg #[.bool cl, .int .i64 nx, .slice uba bids.length ubc, .slice uaa asks.length uac, .slice va R.length vc], .slice ta A.length tc, .int .i64 0]) (by simp [results, Try.results16, go_sem, cell_at HPT.out]) rfl (by unfold TkB; rw [HR.out]; exact ⟨_, _, _, _, rfl, own_base HRW.out.1 (by omega), own_base HRW.out.2.1 (by omega), own_base HRW.out.2.2.1 (by omega), own_base HRW.out.2.2.2 (by omega), HB5.out⟩)
theorem neq52 (a b : Int) (w : World) : (binOp .neq 52 (.agg #[.int .i64 a, .int .i64 b]) (.agg #[.int .i64 a, .int .i64 b])).run Try.prog w = .ok (.bool false) w := by
  simp [go_sem]
abbrev Ams (w : World) (v : Value) (l : List AmV) : Prop := SGot 2 16 amE w v l
theorem SGot.ams {w : World} {v : Value} {l : List AmV} (h : Ams w v l) : ∃ a c, v = .slice a l.length c ∧ l.length * 16 ≤ 140737488355328 ∧ ∀ i (h : i < l.length), ∃ b off, a = some ⟨b, off, none⟩ ∧ b < w.heap.size ∧ w.cell? ⟨b, off + i * 2, none⟩ = some (.int .i64 (l[i]).asset) ∧ w.cell? ⟨b, off + i * 2 + 1, none⟩ = some (.int .i64 (l[i]).n) := by
  obtain ⟨h8, a, c, rfl, _, hr⟩ := h
  refine ⟨a, c, rfl, h8, fun i hi => ?_⟩
  obtain ⟨b, off, ha, hb, hc⟩ := hr (by omega)
  have g := celC_get amK l i hi
  exact ⟨b, off, ha, hb, by have := g 0 (by omega); rw [Nat.add_zero] at this; rw [hc _ (by omega), this]; rfl, by rw [Nat.add_assoc, hc _ (by omega), g 1 (by omega)]; rfl⟩
set_option maxHeartbeats 4000000 in
set_option maxRecDepth 100000 in
theorem sameM_is (v v' : Value) (l : List AmV) (w : World) (h : Ams w v l) (h' : Ams w v' l) : Calls Try.prog 18 #[v, v'] w fun e w' => e = .returned (.bool true) ∧ Below w.heap.size w w' := by
  obtain ⟨a, c, rfl, h8, hr⟩ := h.ams
  obtain ⟨a', c', rfl, h8', hr'⟩ := h'.ams
  have HH := hideIt hr
  have HM := hideIt hr'
  clear hr hr' h h'
  go_enter Try.func18, Try.ntmps18
  go_wp2
  go_loopw [5] (fun v wr => ∃ t : Nat, v = .int .i64 t ∧ t ≤ l.length ∧ Hid (Below w.heap.size w wr)) (fun v _ => l.length - (RowKit.intOf v).toNat)
  case atStart => exact ⟨0, rfl, Nat.zero_le _, hideIt (Below.refl _ _)⟩
  case round =>
    obtain ⟨t, rfl, ht, HR⟩ := hrel
    by_cases hlt : t < l.length
    · have hltI : (t : Int) < (l.length : Int) := by omega
      have ht0 : (0 : Int) ≤ (t : Int) := by omega
      have hw : IntKind.i64.wrap ((t : Int) + 1) = ((t + 1 : Nat) : Int) := by rw [IntKind.wrap_i64]; omega
      have hB := HR.out
      obtain ⟨b, off, rfl, hbl, q0, q1⟩ := HH.out t hlt
      have hblr : b < wr.heap.size := Nat.lt_of_lt_of_le hbl hB.size
      have c0 := (hB.cell (p := ⟨b, off + t * 2, none⟩) hbl).trans q0
      have c1 := (hB.cell (p := ⟨b, off + t * 2 + 1, none⟩) hbl).trans q1
      clear q0 q1
      obtain ⟨b', off', rfl, hbl', q0, q1⟩ := HM.out t hlt
      have hblr' : b' < wr.heap.size := Nat.lt_of_lt_of_le hbl' hB.size
      have d0 := (hB.cell (p := ⟨b', off' + t * 2, none⟩) hbl').trans q0
      have d1 := (hB.cell (p := ⟨b', off' + t * 2 + 1, none⟩) hbl').trans q1
      clear q0 q1 hB HH HM
      generalize l[t] = en at *
      obtain ⟨x, y⟩ := en
      dsimp only at c0 c1 d0 d1
      have q1 := fun W => neq52 x y W
      go_wp2_with fail
      go_quiet (fail)
      go_wp2
      go_roundw
      case rel => exact ⟨t + 1, by go_num, by omega, hideIt (below_drewN HR.out _)⟩
      case measure => simp [RowKit.intOf]; omega
    · have hltI : ¬ (t : Int) < (l.length : Int) := by omega
      clear HH HM
      go_wp2
      go_ret
      exact ⟨rfl, HR.out⟩
end Go.Proofs.Ytbpnnhalajbjnaa
