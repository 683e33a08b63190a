/- Entries put behind a mark: the program. -/
import Derived.Test.YtonhoopmhkomcaaHas
import Derived.Test.YtonhoopmhkomcaaRef2
namespace Go.Proofs.Ytonhoopmhkomcaa
open Go.RowKit
/-- A log and a number come back. -/
def LogErr (X : LogV × Int) (w : World) (e : Ending) (w' : World) : Prop := ∃ g, e = .returned (.tuple #[logV X.1 g, .int .i64 X.2]) ∧ w'.ownsRow w.heap.size 40 3 g X.1.l.length (entC X.1.l) ∧ Below w.heap.size w w'
/-- A log's box, a mark's, and a block for the answer. -/
structure LMR (w : World) (L : LogV) (g : Value) (i t : Int) (wx : World) : Prop where
  box : wx.heap[w.heap.size]? = some (.cells (logA L g) 26 (0, 0))
  mrk : wx.heap[w.heap.size + 1]? = some (.cells #[.int .i64 i, .int .i64 t] 23 (0, 0))
  res : wx.heap[w.heap.size + 2]? = some (.cells #[.int .i64 0, .int .i64 0, .slice none 0 0, .int .i64 0] 26 (0, 0))
  bel : Below w.heap.size w wx
theorem LMR.first (w : World) (L : LogV) (g : Value) (i t : Int) : LMR w L g i t (((w.alloc (.cells (logA L g) 26)).alloc (.cells #[.int .i64 i, .int .i64 t] 23)).alloc (.cells #[.int .i64 0, .int .i64 0, .slice none 0 0, .int .i64 0] 26)) := by
  have ht := three_heap w (.cells (logA L g) 26) (.cells #[.int .i64 i, .int .i64 t] 23) (.cells #[.int .i64 0, .int .i64 0, .slice none 0 0, .int .i64 0] 26)
  exact ⟨ht.1, ht.2.1, ht.2.2.1, below3 w _ _ _⟩
theorem LMR.size {w wx : World} {L : LogV} {g : Value} {i t : Int} (h : LMR w L g i t wx) : w.heap.size + 3 ≤ wx.heap.size := (Array.getElem?_eq_some_iff.1 h.res).1
theorem LMR.keep {w wx wy : World} {L : LogV} {g : Value} {i t : Int} (h : LMR w L g i t wx) (hb : Below wx.heap.size wx wy) : LMR w L g i t wy := by
  have := h.size
  exact ⟨(hb.block _ (by omega)).trans h.box, (hb.block _ (by omega)).trans h.mrk, (hb.block _ (by omega)).trans h.res, below_via h.bel hb⟩
theorem LMR.drew {w wx : World} {L : LogV} {g : Value} {i t : Int} (h : LMR w L g i t wx) : LMR w L g i t wx.drew := h.keep (Below.refl _ wx).drew
theorem LMR.cells {w wx : World} {L : LogV} {g : Value} {i t : Int} (h : LMR w L g i t wx) : wx.cell? ⟨w.heap.size, 0, none⟩ = some (.int .i64 L.bi) ∧ wx.cell? ⟨w.heap.size, 1, none⟩ = some (.int .i64 L.bt) ∧ wx.cell? ⟨w.heap.size, 2, none⟩ = some g ∧ wx.cell? ⟨w.heap.size, 3, none⟩ = some (.int .i64 L.cm) ∧ wx.cell? ⟨w.heap.size + 1, 0, none⟩ = some (.int .i64 i) ∧ wx.cell? ⟨w.heap.size + 1, 1, none⟩ = some (.int .i64 t) :=
  ⟨by rw [cell_at h.box]; rfl, by rw [cell_at h.box]; rfl, by rw [cell_at h.box]; rfl, by rw [cell_at h.box]; rfl, by rw [cell_at h.mrk]; rfl, by rw [cell_at h.mrk]; rfl⟩
theorem LMR.four {w wx : World} {L : LogV} {g : Value} {i t : Int} (h : LMR w L g i t wx) : wx.cell? ⟨w.heap.size, 0, none⟩ = some (.int .i64 L.bi) ∧ wx.cell? ⟨w.heap.size, 1, none⟩ = some (.int .i64 L.bt) ∧ wx.cell? ⟨w.heap.size, 2, none⟩ = some g ∧ wx.cell? ⟨w.heap.size, 3, none⟩ = some (.int .i64 L.cm) := ⟨h.cells.1, h.cells.2.1, h.cells.2.2.1, h.cells.2.2.2.1⟩
theorem LMR.free {w wx : World} {L : LogV} {g : Value} {i t : Int} (h : LMR w L g i t wx) : ∀ j, wx.frozen? ⟨w.heap.size, j, none⟩ = false := fun j => free_at h.box j
theorem LMR.zero {w wx : World} {L : LogV} {g : Value} {i t : Int} (h : LMR w L g i t wx) : wx.cell? ⟨w.heap.size + 2, 0, none⟩ = some (.int .i64 0) ∧ wx.cell? ⟨w.heap.size + 2, 1, none⟩ = some (.int .i64 0) ∧ wx.cell? ⟨w.heap.size + 2, 2, none⟩ = some (.slice none 0 0) ∧ wx.cell? ⟨w.heap.size + 2, 3, none⟩ = some (.int .i64 0) ∧ ∀ j, wx.frozen? ⟨w.heap.size + 2, j, none⟩ = false :=
  ⟨by rw [cell_at h.res]; rfl, by rw [cell_at h.res]; rfl, by rw [cell_at h.res]; rfl, by rw [cell_at h.res]; rfl, fun j => free_at h.res j⟩
theorem LMR.put {w wx : World} {L : LogV} {g : Value} {i t : Int} (h : LMR w L g i t wx) (v0 v1 v2 v3 : Value) : Hid (((((wx.setCell ⟨w.heap.size + 2, 0, none⟩ v0).setCell ⟨w.heap.size + 2, 1, none⟩ v1).setCell ⟨w.heap.size + 2, 2, none⟩ v2).setCell ⟨w.heap.size + 2, 3, none⟩ v3).heap[w.heap.size + 2]? = some (.cells #[v0, v1, v2, v3] 26 (0, 0)) ∧ Below w.heap.size w ((((wx.setCell ⟨w.heap.size + 2, 0, none⟩ v0).setCell ⟨w.heap.size + 2, 1, none⟩ v1).setCell ⟨w.heap.size + 2, 2, none⟩ v2).setCell ⟨w.heap.size + 2, 3, none⟩ v3)) :=
  fin4 v0 v1 v2 v3 h.res (by omega) h.bel
/-- The log's list is another one now. -/
theorem LMR.setL {w wx : World} {L : LogV} {g : Value} {i t : Int} (h : LMR w L g i t wx) (l' : List EntV) (g' : Value) : LMR w ⟨L.bi, L.bt, l', L.cm⟩ g' i t (wx.setCell ⟨w.heap.size, 2, none⟩ g') :=
  ⟨heap_set h.box 2 g', setOther _ h.mrk (by omega), setOther _ h.res (by omega), belowSet _ h.bel (Nat.le_refl _)⟩
theorem LsGot.pair {w : World} {g k : Value} {l m : List EntV} (h : EGot w g l) (hk : EGot w k m) : LsGot (w.alloc (.cells #[g, k] 24)) (.slice (some ⟨w.heap.size, 0, none⟩) 2 2) [g, k] [l, m] := by
  refine ⟨rfl, _, 2, rfl, fun j h1 h2 => ?_⟩
  have hj : j < 2 := by simpa using h1
  rcases (by omega : j = 0 ∨ j = 1) with rfl | rfl
  · exact ⟨w.heap.size, 0, rfl, by simp, by rw [cell_at (heap_alloc_new w _)]; rfl, h.keep (below1 w _)⟩
  · exact ⟨w.heap.size, 0, rfl, by simp, by rw [cell_at (heap_alloc_new w _)]; rfl, hk.keep (below1 w _)⟩
theorem text_rows {l : List EntV} {x : Int} (h : rowsB l x = true) : ∀ e ∈ l, e.text.size ≤ 4000 := fun e he => entB_text (rowsB_all l x h e he)
theorem fld23 (a b : Int) (w : World) : (Instr.field 23 (.agg #[.int .i64 a, .int .i64 b]) 1).run Try.prog w = .ok (.int .i64 b) w := by
  simp [Instr.field, run_underlying Try.underlying23, go_sem, asAgg]
set_option maxHeartbeats 16000000 in
set_option maxRecDepth 100000 in
theorem put_is (L : LogV) (g k : Value) (pi pt : Int) (es : List EntV) (w : World) (h : EGot w g L.l) (hk : EGot w k es) (hm : mayB L = true) (hp : 0 ≤ pi ∧ pi ≤ 1000000) (hpl : pi ≤ lasI L) (her : rowsB es pt = true) : Calls Try.prog 44 #[logV L g, .agg #[.int .i64 pi, .int .i64 pt], k] w (LogErr (putL L pi es) w) := by
  have T0 := hideIt (LMR.first w L g pi pt)
  have hin := mayB_in hm
  have HPS := hideIt (passedOver_is L g k pi pt es _ (h.keep T0.out.bel) (hk.keep T0.out.bel) (near_may hm) hp)
  have hle := passR_le L es pi
  have HPI := hideIt (passR_in L es pi hpl)
  have HPB := hideIt (passR_base L es pi)
  have hE8 := hk.1
  unfold LogErr putL
  generalize passR L pi es = n at *
  by_cases hn : n = es.length
  · rw [if_pos hn]
    have HA := hideIt (fun wx (hx : Below w.heap.size w wx) => anew_is _ _ [L.l] L.l (by simp) _ (LsGot.one (h.keep hx)) (by omega) (by simp) (text_rows hin.2.2.2.1))
    obtain ⟨a, c, rfl⟩ := h.slice
    obtain ⟨ka, kc, rfl⟩ := hk.slice
    unfold logV logA at *
    obtain ⟨bi, bt, l, cm⟩ := L
    simp only at HPS T0 HA ⊢
    have hnI : ((n : Int) == (es.length : Int)) = true := by simp [hn]
    clear h hk hin HPI HPB hle hm her hpl
    have hnn := hideIt hn
    clear hn
    go_enter Try.func44, Try.ntmps44
    go_wp2_with fail
    refine HPS.out.mono ?_
    rintro e w1 ⟨rfl, hbl⟩
    dsimp only
    have T1 := hideIt (T0.out.keep hbl)
    obtain ⟨c0, c1, c2, c3, d0, d1⟩ := T1.out.cells
    simp only at c0 c1 c2 c3
    clear hbl T0 HPS
    go_wp2_with fail
    refine (HA.out _ T1.out.bel).mono ?_
    rintro e w2 ⟨r, rfl, ho, hbl⟩
    dsimp only
    have T2 := hideIt (T1.out.keep (below_via (below1 w1 _) hbl))
    obtain ⟨ra, rc, rfl⟩ := own_len ho
    have T3 := hideIt (T2.out.setL l (.slice ra l.length rc))
    have HO := hideIt (own_base ho (show w.heap.size + 3 ≤ _ from by have := T1.out.size; simp; omega))
    clear ho hbl T1 HA c0 c1 c2 c3 d0 d1
    obtain ⟨c0, c1, c2, c3, d0, d1⟩ := T2.out.cells
    have ff := T2.out.free
    simp only at c0 c1 c2 c3
    have HP := T3.out.put (.int .i64 bi) (.int .i64 bt) (.slice ra l.length rc) (.int .i64 cm)
    obtain ⟨z0, z1, z2, z3, zf⟩ := T3.out.zero
    obtain ⟨e1, e2⟩ := HP.out
    have e3 := (own4 (R := w.heap.size + 2) (.int .i64 bi) (.int .i64 bt) (.slice ra l.length rc) (.int .i64 cm) (ownSet (b := w.heap.size) (j := 2) (.slice ra l.length rc) HO.out (by omega)) (by omega) w.heap.size (by omega)).out
    clear HP HO
    go_wp2
    revert e1 e2 e3
    generalize (World.setCell _ ⟨w.heap.size + 2, 3, none⟩ _) = W
    intro e1 e2 e3
    exact bodyPost_ret (v := .tuple #[logV ⟨bi, bt, l, cm⟩ (.slice ra l.length rc), .int .i64 0]) (by simp [results, Try.results44, go_sem, cell_at e1, logV, logA]) rfl ⟨_, rfl, e3, e2⟩
  · rw [if_neg hn]
    have hnl : n < es.length := by omega
    have hbn := HPB.out hnl (by omega)
    have hln := HPI.out
    obtain ⟨q, hq⟩ : ∃ q : Nat, pi + n - L.bi = (q : Int) := Int.eq_ofNat_of_zero_le (by omega)
    have hql : q ≤ L.l.length := by unfold lasI at hln; omega
    have ecut : cutL L (pi + n) = ⟨L.bi, L.bt, L.l.take q, L.cm⟩ := by
      unfold cutL
      rw [hq, Int.toNat_natCast]
    rw [ecut]
    simp only
    have hlt : (L.l.take q).length = q := by rw [List.length_take]; omega
    have hnb : ((n : Int) == (es.length : Int)) = false := by simp; omega
    have hmm : es.length - n ≤ 4687500000000 := by omega
    obtain ⟨kb, koff, hkk, hkt⟩ : ∃ kb koff, (∃ kc, k = .slice (some ⟨kb, koff, none⟩) es.length kc ∧ es.length ≤ kc ∧ kc ≤ 9223372036854775807) ∧ ∀ wx, Below w.heap.size w wx → wx.cell? ⟨kb, koff + n * 3, none⟩ = some (.int .i64 (es.getD n noE).term) := by
      have hk2 := hk
      obtain ⟨ka, kc, e, _, hr⟩ := hk.open
      obtain ⟨b, off, e2, hbl, q0, _⟩ := hr n hnl
      subst e2
      refine ⟨b, off, ⟨kc, e, ?_⟩, fun wx hx => ?_⟩
      · subst e
        have := hk2.cap
        unfold maxLen at this
        exact this
      · rw [hx.cell hbl, q0]
        simp [List.getD, List.getElem?_eq_getElem hnl]
    obtain ⟨kc, rfl, hkc1, hkc2⟩ := hkk
    have HKT := hideIt hkt
    have HKP : Hid (∀ wx, Below w.heap.size w wx → EGot wx (.slice (some ⟨kb, koff + n * 3, none⟩) (es.length - n) (kc - n)) (es.drop n)) := fun wx hx => by
      have := (hk.keep hx).part n (es.length - n) (kc - n) (by omega) ⟨by omega, by unfold maxLen; omega⟩ (some ⟨kb, koff + n * 3, none⟩) (fun _ b off e => by simp only [Option.some.injEq, Addr.mk.injEq] at e; rw [e.1, e.2.1])
      rwa [List.take_of_length_le (by rw [List.length_drop]; omega)] at this
    have HQP : Hid (∀ a c, g = .slice a L.l.length c → ∀ wx, Below w.heap.size w wx → EGot wx (.slice a q c) (L.l.take q)) := fun a c e wx hx => by
      subst e
      have hcap := h.cap
      have := (h.keep hx).part 0 q c (by omega) ⟨by omega, hcap.2⟩ a (fun _ b off e => by rw [e, Nat.zero_mul, Nat.add_zero])
      rwa [List.drop_zero] at this
    have hcap : ∃ a c, g = .slice a L.l.length c ∧ L.l.length ≤ c ∧ c ≤ 9223372036854775807 ∧ (a = none → L.l.length = 0) := by
      obtain ⟨_, a, c, e, hcc, hr⟩ := h
      unfold maxLen at hcc
      refine ⟨a, c, e, hcc.1, hcc.2, fun ha => ?_⟩
      rcases Nat.eq_zero_or_pos L.l.length with h0 | h0
      · exact h0
      · obtain ⟨b, off, e2, _⟩ := hr h0
        rw [ha] at e2
        cases e2
    obtain ⟨a, c, rfl, hc1, hc2, hc3⟩ := hcap
    replace HQP := hideIt (HQP.out a c rfl)
    have HNR : Hid (Near ⟨L.bi, L.bt, L.l.take q, L.cm⟩) := ⟨by simp only; omega, by simp only; omega, by simp only; omega⟩
    have HLM := hideIt (fun wx (hx : Below w.heap.size w wx) => lastMark_is ⟨L.bi, L.bt, L.l.take q, L.cm⟩ (.slice a q c) wx (HQP.out wx hx) HNR.out)
    have HLI := hideIt (fun wx (hx : Below w.heap.size w wx) => lastIndex_is ⟨L.bi, L.bt, L.l.take q, L.cm⟩ (.slice a q c) wx (HQP.out wx hx) HNR.out)
    have HTX : Hid (∀ e ∈ L.l.take q ++ es.drop n, e.text.size ≤ 4000) := fun e he => by
      rcases List.mem_append.1 he with he | he
      · exact text_rows hin.2.2.2.1 e (List.mem_of_mem_take he)
      · exact text_rows her e (List.mem_of_mem_drop he)
    have HA := hideIt (fun (hlen : q + (es.length - n) ≤ 400) wx (hx : Below w.heap.size w wx) => anew_is _ _ [L.l.take q, es.drop n] (L.l.take q ++ es.drop n) (by simp) _ (LsGot.pair (HQP.out wx hx) (HKP.out wx hx)) (by rw [List.length_append, hlt, List.length_drop]; omega) (by simp) HTX.out)
    have HLL : Hid ((L.l.take q ++ es.drop n).length = q + (es.length - n)) := by
      show _ = _
      rw [List.length_append, hlt, List.length_drop]
    have eli : lasI ⟨L.bi, L.bt, L.l.take q, L.cm⟩ = L.bi + q := by
      unfold lasI
      rw [hlt]
    rw [eli] at HLI ⊢
    rw [hlt]
    generalize L.l.take q ++ es.drop n = D at *
    generalize lasM ⟨L.bi, L.bt, L.l.take q, L.cm⟩ = mk at *
    obtain ⟨mi, mt⟩ := mk
    generalize (es.getD n noE).term = et at *
    unfold logV logA at *
    obtain ⟨bi, bt, l, cm⟩ := L
    have hbb := hin.1
    have hcmb := hin.2.2.2.2.2.1
    have hl4 := hin.2.2.1
    simp only at HPS T0 hq hbb hcmb hl4 HLM HLI HA hc1 hc3 hql ⊢
    have n0 : (0 : Int) ≤ (n : Int) := by omega
    have n1 : (n : Int) ≤ (es.length : Int) := by omega
    have n2 : (es.length : Int) ≤ (kc : Int) := by omega
    have n3 : ¬ (kc = n) := by omega
    have hw1 : IntKind.i64.wrap (pi + n) = pi + n := by rw [IntKind.wrap_i64]; omega
    have hw2 : IntKind.i64.wrap (pi + n - bi) = q := by rw [IntKind.wrap_i64]; omega
    have q0 : (0 : Int) ≤ (q : Int) := by omega
    have q1 : (q : Int) ≤ (c : Int) := by omega
    clear h hk hin hm her hpl hkt hln hbn HPI HPB hle HNR HTX hlt ecut eli
    by_cases hc : pi + n < cm
    · rw [if_pos hc]
      clear HA HLM HLI HQP HKP HKT
      go_enter Try.func44, Try.ntmps44
      go_wp2_with fail
      refine HPS.out.mono ?_
      rintro e w1 ⟨rfl, hbl⟩
      dsimp only
      have T1 := hideIt (T0.out.keep hbl)
      obtain ⟨c0, c1, c2, c3, d0, d1⟩ := T1.out.cells
      obtain ⟨z0, z1, z2, z3, zf⟩ := T1.out.zero
      have HP := T1.out.put (.int .i64 0) (.int .i64 0) (.slice none 0 0) (.int .i64 0)
      simp only at c0 c1 c2 c3
      clear hbl T0 T1 HPS
      obtain ⟨e1, e2⟩ := HP.out
      clear HP
      go_wp2
      revert e1 e2
      generalize (World.setCell _ ⟨w.heap.size + 2, 3, none⟩ _) = W
      intro e1 e2
      exact bodyPost_ret (v := .tuple #[logV zL (.slice none 0 0), .int .i64 80]) (by simp [results, Try.results44, go_sem, cell_at e1, logV, logA, zL]) rfl ⟨_, rfl, own_nil _ _, e2⟩
    · rw [if_neg hc]
      have hcI : cm ≤ pi + n := by omega
      by_cases het : et < mt
      · rw [if_pos het]
        go_enter Try.func44, Try.ntmps44
        go_wp2_with fail
        refine HPS.out.mono ?_
        rintro e w1 ⟨rfl, hbl⟩
        dsimp only
        have T1 := hideIt (T0.out.keep hbl)
        obtain ⟨c0, c1, c2, c3, d0, d1⟩ := T1.out.cells
        have ff := T1.out.free
        have T2 := hideIt (T1.out.setL (l.take q) (.slice a q c)).drew
        simp only at c0 c1 c2 c3
        clear hbl T0 HPS
        go_upto_region 10 with fail
        have hzi : 0 < es.length - n := by omega
        have nf := fld23 mi mt
        have T2k := hideIt (HKT.out _ T2.out.bel)
        refine wp_region_held_drew (S := fun w' => w'.cell? ⟨w.heap.size, 0, none⟩ = some (.int .i64 bi) ∧ w'.cell? ⟨w.heap.size, 1, none⟩ = some (.int .i64 bt) ∧ w'.cell? ⟨w.heap.size, 2, none⟩ = some (.slice a q c) ∧ w'.cell? ⟨w.heap.size, 3, none⟩ = some (.int .i64 cm) ∧ w'.cell? ⟨kb, koff + n * 3, none⟩ = some (.int .i64 et)) (by kernel_rfl) ⟨T2.out.four.1, T2.out.four.2.1, T2.out.four.2.2.1, T2.out.four.2.2.2, T2k.out⟩ (fun hHeld => ?_)
        generalize (w1.setCell ⟨w.heap.size, 2, none⟩ (.slice a q c)).drew = w2 at *
        clear T1 c0 c1 c2 c3 d0 d1 ff
        refine wpAnyH_take (i := 0) (oi := ⟨some 45, _, _, _, _, _⟩) (v := ?_) rfl (by kernel_rfl) (by kernel_rfl) (by kernel_rfl) (fun _ _ _ h => h) (Or.inl ⟨by rfl, ?_⟩) (by assumption) ?_
        rotate_left
        · intro w5 hSw
          (try dsimp only at hSw)
          go_simp
          (try with_reducible rfl)
        try simp only [Act.put, List.setIfInBounds_toArray, List.set_cons_zero, List.set_cons_succ]
        refine wpAnyH_take (i := 1) (oi := ⟨some 46, _, _, _, _, _⟩) (v := ?_) rfl (by kernel_rfl) (by kernel_rfl) (by kernel_rfl) (fun _ _ _ h => h) (Or.inl ⟨by rfl, ?_⟩) (by assumption) ?_
        rotate_left
        · intro w5 hSw
          (try dsimp only at hSw)
          go_simp
          (try with_reducible rfl)
        try simp only [Act.put, List.setIfInBounds_toArray, List.set_cons_zero, List.set_cons_succ]
        refine wpAnyH_take (i := 2) (oi := ⟨some 47, _, _, _, _, _⟩) (v := ?_) rfl (by kernel_rfl) (by kernel_rfl) (by kernel_rfl) (fun _ _ _ h => h) (Or.inl ⟨by rfl, ?_⟩) (by assumption) ?_
        rotate_left
        · intro w5 hSw
          (try dsimp only at hSw)
          go_simp
          (try with_reducible rfl)
        try simp only [Act.put, List.setIfInBounds_toArray, List.set_cons_zero, List.set_cons_succ]
        refine wpAnyH_take (i := 3) (oi := ⟨some 48, _, _, _, _, _⟩) (v := ?_) rfl (by kernel_rfl) (by kernel_rfl) (by kernel_rfl) (fun _ _ _ h => h) (Or.inl ⟨by rfl, ?_⟩) (by assumption) ?_
        rotate_left
        · intro w5 hSw
          (try dsimp only at hSw)
          go_simp
          (try with_reducible rfl)
        try simp only [Act.put, List.setIfInBounds_toArray, List.set_cons_zero, List.set_cons_succ]
        refine wpAnyH_take (i := 4) (oi := ⟨some 49, _, _, _, _, _⟩) (v := ?_) rfl (by kernel_rfl) (by kernel_rfl) (by kernel_rfl) (fun _ _ _ h => h) (Or.inl ⟨by rfl, ?_⟩) (by assumption) ?_
        rotate_left
        · intro w5 hSw
          (try dsimp only at hSw)
          go_simp
          (try with_reducible rfl)
        try simp only [Act.put, List.setIfInBounds_toArray, List.set_cons_zero, List.set_cons_succ]
        refine wpAnyH_ready (rs := [5]) (by kernel_rfl) (by simp) ?_
        refine AllReadyH.cons (o := ⟨some 50, _, _, _, _, _⟩) rfl (fun K hK => ?_) AllReadyH.nil
        go_simp
        go_at_call 36
        refine (HLM.out _ T2.out.bel).mono ?_
        rintro e w3 ⟨rfl, hbl⟩
        have T3 := hideIt (T2.out.keep hbl)
        have T3k := hideIt (HKT.out _ T3.out.bel)
        refine hK.out _ _ ⟨T3.out.four.1, T3.out.four.2.1, T3.out.four.2.2.1, T3.out.four.2.2.2, T3k.out⟩ (fun hHeld => ?_)
        clear hK K hbl T2 T2k HLM
        try simp only [Act.put, List.setIfInBounds_toArray, List.set_cons_zero, List.set_cons_succ]
        refine wpAnyH_take (i := 6) (oi := ⟨some 51, _, _, _, _, _⟩) (v := ?_) rfl (by kernel_rfl) (by kernel_rfl) (by kernel_rfl) (fun _ _ _ h => h) (Or.inl ⟨by rfl, ?_⟩) (by assumption) ?_
        rotate_left
        · intro w5 hSw
          (try dsimp only at hSw)
          go_simp
          (try with_reducible rfl)
        try simp only [Act.put, List.setIfInBounds_toArray, List.set_cons_zero, List.set_cons_succ]
        refine wpAnyH_take (i := 7) (oi := ⟨some 52, _, _, _, _, _⟩) (v := ?_) rfl (by kernel_rfl) (by kernel_rfl) (by kernel_rfl) (fun _ _ _ h => h) (Or.inl ⟨by rfl, ?_⟩) (by assumption) ?_
        rotate_left
        · intro w5 hSw
          (try dsimp only at hSw)
          go_simp
          (try with_reducible rfl)
        try simp only [Act.put, List.setIfInBounds_toArray, List.set_cons_zero, List.set_cons_succ]
        refine wpAnyH_done (by kernel_rfl) ?_ _
        clear hHeld
        obtain ⟨c0, c1, c2, c3, d0, d1⟩ := T3.out.cells
        simp only at c0 c1 c2 c3
        obtain ⟨z0, z1, z2, z3, zf⟩ := T3.out.zero
        have HP := T3.out.put (.int .i64 0) (.int .i64 0) (.slice none 0 0) (.int .i64 0)
        clear T3 T3k HA HLI HQP HKP HKT nf
        obtain ⟨e1, e2⟩ := HP.out
        clear HP
        go_wp2
        revert e1 e2
        generalize (World.setCell _ ⟨w.heap.size + 2, 3, none⟩ _) = W
        intro e1 e2
        exact bodyPost_ret (v := .tuple #[logV zL (.slice none 0 0), .int .i64 80]) (by simp [results, Try.results44, go_sem, cell_at e1, logV, logA, zL]) rfl ⟨_, rfl, own_nil _ _, e2⟩
      · rw [if_neg het]
        have hetI : mt ≤ et := by omega
        have hb2 : bi ≤ 1000000 := by omega
        have hb3 : 0 ≤ bi := by omega
        clear het
        by_cases hl1 : 400 < q + (es.length - n)
        · rw [if_pos (.inl hl1)]
          have hl1I : (400 : Int) < (q : Int) + ((es.length - n : Nat) : Int) := by omega
          have hwl : IntKind.i64.wrap ((q : Int) + ((es.length - n : Nat) : Int)) = (q : Int) + ((es.length - n : Nat) : Int) := by rw [IntKind.wrap_i64]; omega
          go_enter Try.func44, Try.ntmps44
          go_wp2_with fail
          refine HPS.out.mono ?_
          rintro e w1 ⟨rfl, hbl⟩
          dsimp only
          have T1 := hideIt (T0.out.keep hbl)
          obtain ⟨c0, c1, c2, c3, d0, d1⟩ := T1.out.cells
          have ff := T1.out.free
          have T2 := hideIt (T1.out.setL (l.take q) (.slice a q c)).drew
          simp only at c0 c1 c2 c3
          clear hbl T0 HPS
          go_upto_region 10 with fail
          have hzi : 0 < es.length - n := by omega
          have nf := fld23 mi mt
          have T2k := hideIt (HKT.out _ T2.out.bel)
          refine wp_region_held_drew (S := fun w' => w'.cell? ⟨w.heap.size, 0, none⟩ = some (.int .i64 bi) ∧ w'.cell? ⟨w.heap.size, 1, none⟩ = some (.int .i64 bt) ∧ w'.cell? ⟨w.heap.size, 2, none⟩ = some (.slice a q c) ∧ w'.cell? ⟨w.heap.size, 3, none⟩ = some (.int .i64 cm) ∧ w'.cell? ⟨kb, koff + n * 3, none⟩ = some (.int .i64 et)) (by kernel_rfl) ⟨T2.out.four.1, T2.out.four.2.1, T2.out.four.2.2.1, T2.out.four.2.2.2, T2k.out⟩ (fun hHeld => ?_)
          generalize (w1.setCell ⟨w.heap.size, 2, none⟩ (.slice a q c)).drew = w2 at *
          clear T1 c0 c1 c2 c3 d0 d1 ff
          refine wpAnyH_take (i := 0) (oi := ⟨some 45, _, _, _, _, _⟩) (v := ?_) rfl (by kernel_rfl) (by kernel_rfl) (by kernel_rfl) (fun _ _ _ h => h) (Or.inl ⟨by rfl, ?_⟩) (by assumption) ?_
          rotate_left
          · intro w5 hSw
            (try dsimp only at hSw)
            go_simp
            (try with_reducible rfl)
          try simp only [Act.put, List.setIfInBounds_toArray, List.set_cons_zero, List.set_cons_succ]
          refine wpAnyH_take (i := 1) (oi := ⟨some 46, _, _, _, _, _⟩) (v := ?_) rfl (by kernel_rfl) (by kernel_rfl) (by kernel_rfl) (fun _ _ _ h => h) (Or.inl ⟨by rfl, ?_⟩) (by assumption) ?_
          rotate_left
          · intro w5 hSw
            (try dsimp only at hSw)
            go_simp
            (try with_reducible rfl)
          try simp only [Act.put, List.setIfInBounds_toArray, List.set_cons_zero, List.set_cons_succ]
          refine wpAnyH_take (i := 2) (oi := ⟨some 47, _, _, _, _, _⟩) (v := ?_) rfl (by kernel_rfl) (by kernel_rfl) (by kernel_rfl) (fun _ _ _ h => h) (Or.inl ⟨by rfl, ?_⟩) (by assumption) ?_
          rotate_left
          · intro w5 hSw
            (try dsimp only at hSw)
            go_simp
            (try with_reducible rfl)
          try simp only [Act.put, List.setIfInBounds_toArray, List.set_cons_zero, List.set_cons_succ]
          refine wpAnyH_take (i := 3) (oi := ⟨some 48, _, _, _, _, _⟩) (v := ?_) rfl (by kernel_rfl) (by kernel_rfl) (by kernel_rfl) (fun _ _ _ h => h) (Or.inl ⟨by rfl, ?_⟩) (by assumption) ?_
          rotate_left
          · intro w5 hSw
            (try dsimp only at hSw)
            go_simp
            (try with_reducible rfl)
          try simp only [Act.put, List.setIfInBounds_toArray, List.set_cons_zero, List.set_cons_succ]
          refine wpAnyH_take (i := 4) (oi := ⟨some 49, _, _, _, _, _⟩) (v := ?_) rfl (by kernel_rfl) (by kernel_rfl) (by kernel_rfl) (fun _ _ _ h => h) (Or.inl ⟨by rfl, ?_⟩) (by assumption) ?_
          rotate_left
          · intro w5 hSw
            (try dsimp only at hSw)
            go_simp
            (try with_reducible rfl)
          try simp only [Act.put, List.setIfInBounds_toArray, List.set_cons_zero, List.set_cons_succ]
          refine wpAnyH_ready (rs := [5]) (by kernel_rfl) (by simp) ?_
          refine AllReadyH.cons (o := ⟨some 50, _, _, _, _, _⟩) rfl (fun K hK => ?_) AllReadyH.nil
          go_simp
          go_at_call 36
          refine (HLM.out _ T2.out.bel).mono ?_
          rintro e w3 ⟨rfl, hbl⟩
          have T3 := hideIt (T2.out.keep hbl)
          have T3k := hideIt (HKT.out _ T3.out.bel)
          refine hK.out _ _ ⟨T3.out.four.1, T3.out.four.2.1, T3.out.four.2.2.1, T3.out.four.2.2.2, T3k.out⟩ (fun hHeld => ?_)
          clear hK K hbl T2 T2k HLM
          try simp only [Act.put, List.setIfInBounds_toArray, List.set_cons_zero, List.set_cons_succ]
          refine wpAnyH_take (i := 6) (oi := ⟨some 51, _, _, _, _, _⟩) (v := ?_) rfl (by kernel_rfl) (by kernel_rfl) (by kernel_rfl) (fun _ _ _ h => h) (Or.inl ⟨by rfl, ?_⟩) (by assumption) ?_
          rotate_left
          · intro w5 hSw
            (try dsimp only at hSw)
            go_simp
            (try with_reducible rfl)
          try simp only [Act.put, List.setIfInBounds_toArray, List.set_cons_zero, List.set_cons_succ]
          refine wpAnyH_take (i := 7) (oi := ⟨some 52, _, _, _, _, _⟩) (v := ?_) rfl (by kernel_rfl) (by kernel_rfl) (by kernel_rfl) (fun _ _ _ h => h) (Or.inl ⟨by rfl, ?_⟩) (by assumption) ?_
          rotate_left
          · intro w5 hSw
            (try dsimp only at hSw)
            go_simp
            (try with_reducible rfl)
          try simp only [Act.put, List.setIfInBounds_toArray, List.set_cons_zero, List.set_cons_succ]
          refine wpAnyH_done (by kernel_rfl) ?_ _
          clear hHeld
          obtain ⟨c0, c1, c2, c3, d0, d1⟩ := T3.out.cells
          simp only at c0 c1 c2 c3
          obtain ⟨z0, z1, z2, z3, zf⟩ := T3.out.zero
          have HP := T3.out.put (.int .i64 0) (.int .i64 0) (.slice none 0 0) (.int .i64 0)
          clear T3 T3k HA HLI HQP HKP HKT nf
          obtain ⟨e1, e2⟩ := HP.out
          clear HP
          go_wp2
          revert e1 e2
          generalize (World.setCell _ ⟨w.heap.size + 2, 3, none⟩ _) = W
          intro e1 e2
          exact bodyPost_ret (v := .tuple #[logV zL (.slice none 0 0), .int .i64 2]) (by simp [results, Try.results44, go_sem, cell_at e1, logV, logA, zL]) rfl ⟨_, rfl, own_nil _ _, e2⟩
        · have hl1I : (q : Int) + ((es.length - n : Nat) : Int) ≤ 400 := by omega
          have hwl : IntKind.i64.wrap ((q : Int) + ((es.length - n : Nat) : Int)) = (q : Int) + ((es.length - n : Nat) : Int) := by rw [IntKind.wrap_i64]; omega
          have hwm : IntKind.i64.wrap (bi + (q : Int) + ((es.length - n : Nat) : Int)) = bi + (q : Int) + ((es.length - n : Nat) : Int) := by rw [IntKind.wrap_i64]; omega
          by_cases hl2 : 1000000 < bi + q + ((es.length - n : Nat) : Int)
          · rw [if_pos (.inr hl2)]
            go_enter Try.func44, Try.ntmps44
            go_wp2_with fail
            refine HPS.out.mono ?_
            rintro e w1 ⟨rfl, hbl⟩
            dsimp only
            have T1 := hideIt (T0.out.keep hbl)
            obtain ⟨c0, c1, c2, c3, d0, d1⟩ := T1.out.cells
            have ff := T1.out.free
            have T2 := hideIt (T1.out.setL (l.take q) (.slice a q c)).drew
            simp only at c0 c1 c2 c3
            clear hbl T0 HPS
            go_upto_region 10 with fail
            have hzi : 0 < es.length - n := by omega
            have nf := fld23 mi mt
            have T2k := hideIt (HKT.out _ T2.out.bel)
            refine wp_region_held_drew (S := fun w' => w'.cell? ⟨w.heap.size, 0, none⟩ = some (.int .i64 bi) ∧ w'.cell? ⟨w.heap.size, 1, none⟩ = some (.int .i64 bt) ∧ w'.cell? ⟨w.heap.size, 2, none⟩ = some (.slice a q c) ∧ w'.cell? ⟨w.heap.size, 3, none⟩ = some (.int .i64 cm) ∧ w'.cell? ⟨kb, koff + n * 3, none⟩ = some (.int .i64 et)) (by kernel_rfl) ⟨T2.out.four.1, T2.out.four.2.1, T2.out.four.2.2.1, T2.out.four.2.2.2, T2k.out⟩ (fun hHeld => ?_)
            generalize (w1.setCell ⟨w.heap.size, 2, none⟩ (.slice a q c)).drew = w2 at *
            clear T1 c0 c1 c2 c3 d0 d1 ff
            refine wpAnyH_take (i := 0) (oi := ⟨some 45, _, _, _, _, _⟩) (v := ?_) rfl (by kernel_rfl) (by kernel_rfl) (by kernel_rfl) (fun _ _ _ h => h) (Or.inl ⟨by rfl, ?_⟩) (by assumption) ?_
            rotate_left
            · intro w5 hSw
              (try dsimp only at hSw)
              go_simp
              (try with_reducible rfl)
            try simp only [Act.put, List.setIfInBounds_toArray, List.set_cons_zero, List.set_cons_succ]
            refine wpAnyH_take (i := 1) (oi := ⟨some 46, _, _, _, _, _⟩) (v := ?_) rfl (by kernel_rfl) (by kernel_rfl) (by kernel_rfl) (fun _ _ _ h => h) (Or.inl ⟨by rfl, ?_⟩) (by assumption) ?_
            rotate_left
            · intro w5 hSw
              (try dsimp only at hSw)
              go_simp
              (try with_reducible rfl)
            try simp only [Act.put, List.setIfInBounds_toArray, List.set_cons_zero, List.set_cons_succ]
            refine wpAnyH_take (i := 2) (oi := ⟨some 47, _, _, _, _, _⟩) (v := ?_) rfl (by kernel_rfl) (by kernel_rfl) (by kernel_rfl) (fun _ _ _ h => h) (Or.inl ⟨by rfl, ?_⟩) (by assumption) ?_
            rotate_left
            · intro w5 hSw
              (try dsimp only at hSw)
              go_simp
              (try with_reducible rfl)
            try simp only [Act.put, List.setIfInBounds_toArray, List.set_cons_zero, List.set_cons_succ]
            refine wpAnyH_take (i := 3) (oi := ⟨some 48, _, _, _, _, _⟩) (v := ?_) rfl (by kernel_rfl) (by kernel_rfl) (by kernel_rfl) (fun _ _ _ h => h) (Or.inl ⟨by rfl, ?_⟩) (by assumption) ?_
            rotate_left
            · intro w5 hSw
              (try dsimp only at hSw)
              go_simp
              (try with_reducible rfl)
            try simp only [Act.put, List.setIfInBounds_toArray, List.set_cons_zero, List.set_cons_succ]
            refine wpAnyH_take (i := 4) (oi := ⟨some 49, _, _, _, _, _⟩) (v := ?_) rfl (by kernel_rfl) (by kernel_rfl) (by kernel_rfl) (fun _ _ _ h => h) (Or.inl ⟨by rfl, ?_⟩) (by assumption) ?_
            rotate_left
            · intro w5 hSw
              (try dsimp only at hSw)
              go_simp
              (try with_reducible rfl)
            try simp only [Act.put, List.setIfInBounds_toArray, List.set_cons_zero, List.set_cons_succ]
            refine wpAnyH_ready (rs := [5]) (by kernel_rfl) (by simp) ?_
            refine AllReadyH.cons (o := ⟨some 50, _, _, _, _, _⟩) rfl (fun K hK => ?_) AllReadyH.nil
            go_simp
            go_at_call 36
            refine (HLM.out _ T2.out.bel).mono ?_
            rintro e w3 ⟨rfl, hbl⟩
            have T3 := hideIt (T2.out.keep hbl)
            have T3k := hideIt (HKT.out _ T3.out.bel)
            refine hK.out _ _ ⟨T3.out.four.1, T3.out.four.2.1, T3.out.four.2.2.1, T3.out.four.2.2.2, T3k.out⟩ (fun hHeld => ?_)
            clear hK K hbl T2 T2k HLM
            try simp only [Act.put, List.setIfInBounds_toArray, List.set_cons_zero, List.set_cons_succ]
            refine wpAnyH_take (i := 6) (oi := ⟨some 51, _, _, _, _, _⟩) (v := ?_) rfl (by kernel_rfl) (by kernel_rfl) (by kernel_rfl) (fun _ _ _ h => h) (Or.inl ⟨by rfl, ?_⟩) (by assumption) ?_
            rotate_left
            · intro w5 hSw
              (try dsimp only at hSw)
              go_simp
              (try with_reducible rfl)
            try simp only [Act.put, List.setIfInBounds_toArray, List.set_cons_zero, List.set_cons_succ]
            refine wpAnyH_take (i := 7) (oi := ⟨some 52, _, _, _, _, _⟩) (v := ?_) rfl (by kernel_rfl) (by kernel_rfl) (by kernel_rfl) (fun _ _ _ h => h) (Or.inl ⟨by rfl, ?_⟩) (by assumption) ?_
            rotate_left
            · intro w5 hSw
              (try dsimp only at hSw)
              go_simp
              (try with_reducible rfl)
            try simp only [Act.put, List.setIfInBounds_toArray, List.set_cons_zero, List.set_cons_succ]
            refine wpAnyH_done (by kernel_rfl) ?_ _
            clear hHeld
            obtain ⟨c0, c1, c2, c3, d0, d1⟩ := T3.out.cells
            simp only at c0 c1 c2 c3
            clear HA HQP HKP HKT nf T3k
            go_wp2_with fail
            refine (HLI.out _ T3.out.bel).mono ?_
            rintro e w4 ⟨rfl, rfl⟩
            dsimp only
            have T4 := hideIt (T3.out.keep (below1 w3 (.cells #[.int .i64 bi, .int .i64 bt, .slice a q c, .int .i64 cm] 26)))
            clear c0 c1 c2 c3 d0 d1
            generalize w3.alloc (.cells #[.int .i64 bi, .int .i64 bt, .slice a q c, .int .i64 cm] 26) = w4 at *
            obtain ⟨z0, z1, z2, z3, zf⟩ := T4.out.zero
            have HP := T4.out.put (.int .i64 0) (.int .i64 0) (.slice none 0 0) (.int .i64 0)
            clear T3 T4 HLI
            obtain ⟨e1, e2⟩ := HP.out
            clear HP
            go_wp2
            revert e1 e2
            generalize (World.setCell _ ⟨w.heap.size + 2, 3, none⟩ _) = W
            intro e1 e2
            exact bodyPost_ret (v := .tuple #[logV zL (.slice none 0 0), .int .i64 2]) (by simp [results, Try.results44, go_sem, cell_at e1, logV, logA, zL]) rfl ⟨_, rfl, own_nil _ _, e2⟩
          · have hl2I : bi + q + ((es.length - n : Nat) : Int) ≤ 1000000 := by omega
            rw [if_neg (by omega)]
            replace HA := hideIt (HA.out (by omega))
            go_enter Try.func44, Try.ntmps44
            go_wp2_with fail
            refine HPS.out.mono ?_
            rintro e w1 ⟨rfl, hbl⟩
            dsimp only
            have T1 := hideIt (T0.out.keep hbl)
            obtain ⟨c0, c1, c2, c3, d0, d1⟩ := T1.out.cells
            have ff := T1.out.free
            have T2 := hideIt (T1.out.setL (l.take q) (.slice a q c)).drew
            simp only at c0 c1 c2 c3
            clear hbl T0 HPS
            go_upto_region 10 with fail
            have hzi : 0 < es.length - n := by omega
            have nf := fld23 mi mt
            have T2k := hideIt (HKT.out _ T2.out.bel)
            refine wp_region_held_drew (S := fun w' => w'.cell? ⟨w.heap.size, 0, none⟩ = some (.int .i64 bi) ∧ w'.cell? ⟨w.heap.size, 1, none⟩ = some (.int .i64 bt) ∧ w'.cell? ⟨w.heap.size, 2, none⟩ = some (.slice a q c) ∧ w'.cell? ⟨w.heap.size, 3, none⟩ = some (.int .i64 cm) ∧ w'.cell? ⟨kb, koff + n * 3, none⟩ = some (.int .i64 et)) (by kernel_rfl) ⟨T2.out.four.1, T2.out.four.2.1, T2.out.four.2.2.1, T2.out.four.2.2.2, T2k.out⟩ (fun hHeld => ?_)
            generalize (w1.setCell ⟨w.heap.size, 2, none⟩ (.slice a q c)).drew = w2 at *
            clear T1 c0 c1 c2 c3 d0 d1 ff
            refine wpAnyH_take (i := 0) (oi := ⟨some 45, _, _, _, _, _⟩) (v := ?_) rfl (by kernel_rfl) (by kernel_rfl) (by kernel_rfl) (fun _ _ _ h => h) (Or.inl ⟨by rfl, ?_⟩) (by assumption) ?_
            rotate_left
            · intro w5 hSw
              (try dsimp only at hSw)
              go_simp
              (try with_reducible rfl)
            try simp only [Act.put, List.setIfInBounds_toArray, List.set_cons_zero, List.set_cons_succ]
            refine wpAnyH_take (i := 1) (oi := ⟨some 46, _, _, _, _, _⟩) (v := ?_) rfl (by kernel_rfl) (by kernel_rfl) (by kernel_rfl) (fun _ _ _ h => h) (Or.inl ⟨by rfl, ?_⟩) (by assumption) ?_
            rotate_left
            · intro w5 hSw
              (try dsimp only at hSw)
              go_simp
              (try with_reducible rfl)
            try simp only [Act.put, List.setIfInBounds_toArray, List.set_cons_zero, List.set_cons_succ]
            refine wpAnyH_take (i := 2) (oi := ⟨some 47, _, _, _, _, _⟩) (v := ?_) rfl (by kernel_rfl) (by kernel_rfl) (by kernel_rfl) (fun _ _ _ h => h) (Or.inl ⟨by rfl, ?_⟩) (by assumption) ?_
            rotate_left
            · intro w5 hSw
              (try dsimp only at hSw)
              go_simp
              (try with_reducible rfl)
            try simp only [Act.put, List.setIfInBounds_toArray, List.set_cons_zero, List.set_cons_succ]
            refine wpAnyH_take (i := 3) (oi := ⟨some 48, _, _, _, _, _⟩) (v := ?_) rfl (by kernel_rfl) (by kernel_rfl) (by kernel_rfl) (fun _ _ _ h => h) (Or.inl ⟨by rfl, ?_⟩) (by assumption) ?_
            rotate_left
            · intro w5 hSw
              (try dsimp only at hSw)
              go_simp
              (try with_reducible rfl)
            try simp only [Act.put, List.setIfInBounds_toArray, List.set_cons_zero, List.set_cons_succ]
            refine wpAnyH_take (i := 4) (oi := ⟨some 49, _, _, _, _, _⟩) (v := ?_) rfl (by kernel_rfl) (by kernel_rfl) (by kernel_rfl) (fun _ _ _ h => h) (Or.inl ⟨by rfl, ?_⟩) (by assumption) ?_
            rotate_left
            · intro w5 hSw
              (try dsimp only at hSw)
              go_simp
              (try with_reducible rfl)
            try simp only [Act.put, List.setIfInBounds_toArray, List.set_cons_zero, List.set_cons_succ]
            refine wpAnyH_ready (rs := [5]) (by kernel_rfl) (by simp) ?_
            refine AllReadyH.cons (o := ⟨some 50, _, _, _, _, _⟩) rfl (fun K hK => ?_) AllReadyH.nil
            go_simp
            go_at_call 36
            refine (HLM.out _ T2.out.bel).mono ?_
            rintro e w3 ⟨rfl, hbl⟩
            have T3 := hideIt (T2.out.keep hbl)
            have T3k := hideIt (HKT.out _ T3.out.bel)
            refine hK.out _ _ ⟨T3.out.four.1, T3.out.four.2.1, T3.out.four.2.2.1, T3.out.four.2.2.2, T3k.out⟩ (fun hHeld => ?_)
            clear hK K hbl T2 T2k HLM
            try simp only [Act.put, List.setIfInBounds_toArray, List.set_cons_zero, List.set_cons_succ]
            refine wpAnyH_take (i := 6) (oi := ⟨some 51, _, _, _, _, _⟩) (v := ?_) rfl (by kernel_rfl) (by kernel_rfl) (by kernel_rfl) (fun _ _ _ h => h) (Or.inl ⟨by rfl, ?_⟩) (by assumption) ?_
            rotate_left
            · intro w5 hSw
              (try dsimp only at hSw)
              go_simp
              (try with_reducible rfl)
            try simp only [Act.put, List.setIfInBounds_toArray, List.set_cons_zero, List.set_cons_succ]
            refine wpAnyH_take (i := 7) (oi := ⟨some 52, _, _, _, _, _⟩) (v := ?_) rfl (by kernel_rfl) (by kernel_rfl) (by kernel_rfl) (fun _ _ _ h => h) (Or.inl ⟨by rfl, ?_⟩) (by assumption) ?_
            rotate_left
            · intro w5 hSw
              (try dsimp only at hSw)
              go_simp
              (try with_reducible rfl)
            try simp only [Act.put, List.setIfInBounds_toArray, List.set_cons_zero, List.set_cons_succ]
            refine wpAnyH_done (by kernel_rfl) ?_ _
            clear hHeld
            obtain ⟨c0, c1, c2, c3, d0, d1⟩ := T3.out.cells
            simp only at c0 c1 c2 c3
            clear HQP HKP HKT nf T3k
            go_wp2_with fail
            refine (HLI.out _ T3.out.bel).mono ?_
            rintro e w4 ⟨rfl, rfl⟩
            dsimp only
            have T4 := hideIt (T3.out.keep (below1 w3 (.cells #[.int .i64 bi, .int .i64 bt, .slice a q c, .int .i64 cm] 26)))
            clear c0 c1 c2 c3 d0 d1
            generalize w3.alloc (.cells #[.int .i64 bi, .int .i64 bt, .slice a q c, .int .i64 cm] 26) = w4 at *
            obtain ⟨c0, c1, c2, c3, d0, d1⟩ := T4.out.cells
            simp only at c0 c1 c2 c3
            clear T3 HLI
            go_wp2_with fail
            refine (HA.out _ T4.out.bel).mono ?_
            rintro e w5 ⟨r, rfl, ho, hbl⟩
            dsimp only
            have T5 := hideIt (T4.out.keep (below_via (below1 w4 _) hbl))
            obtain ⟨ra, rc, rfl⟩ := own_len ho
            have T6 := hideIt (T5.out.setL D (.slice ra D.length rc))
            have HO := hideIt (own_base ho (show w.heap.size + 3 ≤ _ from by have := T4.out.size; simp; omega))
            clear ho hbl T4 HA c0 c1 c2 c3 d0 d1
            obtain ⟨c0, c1, c2, c3, d0, d1⟩ := T5.out.cells
            have ff := T5.out.free
            simp only at c0 c1 c2 c3
            have HP := T6.out.put (.int .i64 bi) (.int .i64 bt) (.slice ra D.length rc) (.int .i64 cm)
            obtain ⟨z0, z1, z2, z3, zf⟩ := T6.out.zero
            obtain ⟨e1, e2⟩ := HP.out
            have e3 := (own4 (R := w.heap.size + 2) (.int .i64 bi) (.int .i64 bt) (.slice ra D.length rc) (.int .i64 cm) (ownSet (b := w.heap.size) (j := 2) (.slice ra D.length rc) HO.out (by omega)) (by omega) w.heap.size (by omega)).out
            clear HP HO
            go_wp2
            revert e1 e2 e3
            generalize (World.setCell _ ⟨w.heap.size + 2, 3, none⟩ _) = W
            intro e1 e2 e3
            exact bodyPost_ret (v := .tuple #[logV ⟨bi, bt, D, cm⟩ (.slice ra D.length rc), .int .i64 0]) (by simp [results, Try.results44, go_sem, cell_at e1, logV, logA]) rfl ⟨_, rfl, e3, e2⟩
end Go.Proofs.Ytonhoopmhkomcaa
