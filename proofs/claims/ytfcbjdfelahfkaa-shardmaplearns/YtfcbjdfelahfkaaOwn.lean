/- Owner, walked; the document's. -/
import Derived.Test.YtfcbjdfelahfkaaLrn
import Derived.Test.YtfcbjdfelahfkaaRCk
namespace Go.Proofs.Ytfcbjdfelahfkaa
open Go.RowKit
set_option linter.all false
def ownP (l : List PlaV) (k : KeyV) (g : Int) : PlaV := if knoB l k then l.getD (sekN l k) ((0, 0), (0, 0)) else (k, (homI k g, 0))
def owrE (l : List PlaV) (k : KeyV) (g : Int) : Int := if mayB l then homE k g else 200
def owrP (l : List PlaV) (k : KeyV) (g : Int) : PlaV := if mayB l && decide (homE k g = 0) then ownP l k g else ((0, 0), (0, 0))
theorem four_at {w : World} {p : Nat} {t : TypeId} {a b c d : Value} (h : w.heap[p]? = some (.cells #[a, b, c, d] t (0, 0))) : w.cell? ⟨p, 0, none⟩ = some a ∧ w.cell? ⟨p, 1, none⟩ = some b ∧ w.cell? ⟨p, 2, none⟩ = some c ∧ w.cell? ⟨p, 3, none⟩ = some d ∧ (∀ j, w.frozen? ⟨p, j, none⟩ = false) ∧ p < w.heap.size :=
  ⟨by rw [cell_at h]; rfl, by rw [cell_at h]; rfl, by rw [cell_at h]; rfl, by rw [cell_at h]; rfl, fun j => free_at h j, (Array.getElem?_eq_some_iff.1 h).1⟩
theorem two_at {w : World} {p : Nat} {t : TypeId} {a b : Value} (h : w.heap[p]? = some (.cells #[a, b] t (0, 0))) : w.cell? ⟨p, 0, none⟩ = some a ∧ w.cell? ⟨p, 1, none⟩ = some b ∧ p < w.heap.size :=
  ⟨by rw [cell_at h]; rfl, by rw [cell_at h]; rfl, (Array.getElem?_eq_some_iff.1 h).1⟩
/-- A key's box and the result's. -/
structure OB (w : World) (k n : Int) (W : World) : Prop where
  kb : W.heap[w.heap.size]? = some (.cells #[.int .i64 k, .int .i64 n] 24 (0, 0))
  rb : W.heap[w.heap.size + 1]? = some (.cells #[.int .i64 0, .int .i64 0, .int .i64 0, .int .i64 0] 26 (0, 0))
  bel : Below w.heap.size w W
theorem OB.first (w : World) (k n : Int) : OB w k n ((w.alloc (.cells #[.int .i64 k, .int .i64 n] 24)).alloc (.cells #[.int .i64 0, .int .i64 0, .int .i64 0, .int .i64 0] 26)) :=
  ⟨(two_heap w _ _).1, (two_heap w _ _).2.1, below2 w _ _⟩
theorem OB.keep {w W W' : World} {k n : Int} (h : OB w k n W) (hb : Below W.heap.size W W') : OB w k n W' :=
  ⟨(hb.block _ (Array.getElem?_eq_some_iff.1 h.kb).1).trans h.kb, (hb.block _ (Array.getElem?_eq_some_iff.1 h.rb).1).trans h.rb, below_via h.bel hb⟩
/-- What is stored into the result's box. -/
theorem OB.put {w W : World} {k n : Int} (h : OB w k n W) (a b c d : Value) : ((((W.setCell ⟨w.heap.size + 1, 0, none⟩ a).setCell ⟨w.heap.size + 1, 1, none⟩ b).setCell ⟨w.heap.size + 1, 2, none⟩ c).setCell ⟨w.heap.size + 1, 3, none⟩ d).heap[w.heap.size + 1]? = some (.cells #[a, b, c, d] 26 (0, 0)) ∧ Below w.heap.size w ((((W.setCell ⟨w.heap.size + 1, 0, none⟩ a).setCell ⟨w.heap.size + 1, 1, none⟩ b).setCell ⟨w.heap.size + 1, 2, none⟩ c).setCell ⟨w.heap.size + 1, 3, none⟩ d) :=
  ⟨put4 W _ 26 a b c d h.rb, belowSet _ (belowSet _ (belowSet _ (belowSet _ h.bel (by omega)) (by omega)) (by omega)) (by omega)⟩
/-- A place and an error come back. -/
def PlaBack (p : PlaV) (e0 : Int) (w : World) (e : Ending) (w' : World) : Prop := e = .returned (.tuple #[.agg #[.int .i64 p.1.1, .int .i64 p.1.2, .int .i64 p.2.1, .int .i64 p.2.2], .int .i64 e0]) ∧ Below w.heap.size w w'
theorem sek_hit {l : List PlaV} {k : KeyV} (hp : l.Pairwise (fun a b => ahdB a.1 b.1 = true)) (t : Nat) (h : t < l.length) (hk : l[t].1 = k) : sekN l k = t ∧ knoB l k = true := by
  have h1 := sek_at hp k t h
  rw [hk, ahd_irr] at h1
  have h2 : sekN l k ≤ t := of_decide_eq_true h1.symm
  have h3 : sekN l k = t := by
    rcases Nat.lt_or_ge (sekN l k) t with h4 | h4
    · have h5 := sek_at hp k (sekN l k) (by omega)
      have h6 := List.pairwise_iff_getElem.1 hp (sekN l k) t (by omega) h h4
      rw [hk] at h6
      rw [h6] at h5
      simp at h5
    · omega
  refine ⟨h3, ?_⟩
  unfold knoB
  rw [h3, List.getElem?_eq_getElem h]
  simp [hk]
theorem sek_miss {l : List PlaV} {k : KeyV} (h : ∀ i (h : i < l.length), l[i].1 ≠ k) : knoB l k = false := by
  unfold knoB
  rcases Nat.lt_or_ge (sekN l k) l.length with h1 | h1
  · rw [List.getElem?_eq_getElem h1]
    simpa using h _ h1
  · rw [List.getElem?_eq_none h1]
set_option maxHeartbeats 8000000 in
set_option maxRecDepth 100000 in
theorem owner_is (v : Value) (l : List PlaV) (k n g : Int) (w : World) (h : Plas w v l) : Calls Try.prog 11 #[v, .agg #[.int .i64 k, .int .i64 n], .int .i64 g] w (PlaBack (owrP l (k, n) g) (owrE l (k, n) g) w) := by
  have HX0 := hideIt (OB.first w k n)
  have HC1 := hideIt (mayBe_is v l _ (h.keep HX0.out.bel))
  have HC2 := hideIt (fun W => home_is k n g W)
  have HPL := hideIt h
  obtain ⟨a, c, rfl⟩ := h.slice
  have HS := hideIt (fun hm W (hW : Below w.heap.size w W) => seek_is _ l k n W (HPL.out.keep hW) hm)
  unfold owrP owrE
  cases hm1 : mayB l
  · rw [hm1] at HC1
    simp only [Bool.false_and, Bool.false_eq_true, if_false]
    clear h hm1 HS
    go_enter Try.func11, Try.ntmps11
    go_wp2_with fail
    refine HC1.out.mono ?_
    rintro e w1 ⟨rfl, hb⟩
    dsimp only
    have X1 := hideIt (HX0.out.keep hb)
    clear hb HC1 HX0
    have HP := hideIt (X1.out.put (.int .i64 0) (.int .i64 0) (.int .i64 0) (.int .i64 0))
    obtain ⟨-, -, -, -, zf, zl⟩ := four_at X1.out.rb
    obtain ⟨z0, z1, z2, z3, -⟩ := four_at X1.out.rb
    go_wp2
    revert HP
    generalize (World.setCell _ ⟨w.heap.size + 1, 3, none⟩ _) = WW
    intro HP
    exact bodyPost_ret (v := .tuple #[.agg #[.int .i64 0, .int .i64 0, .int .i64 0, .int .i64 0], .int .i64 200]) (by simp [results, Try.results11, go_sem, cell_at HP.out.1]) rfl ⟨rfl, HP.out.2⟩
  · rw [hm1] at HC1
    have HM := hideIt hm1
    simp only [Bool.true_and, if_true]
    by_cases he : homE (k, n) g = 0
    · simp only [he, decide_true, if_true]
      have HE := hideIt he
      rw [he] at HC2
      clear h hm1 he
      go_enter Try.func11, Try.ntmps11
      go_wp2_with fail
      refine HC1.out.mono ?_
      rintro e w1 ⟨rfl, hb⟩
      dsimp only
      have X1 := hideIt (HX0.out.keep hb)
      obtain ⟨k0, k1, kl⟩ := two_at X1.out.kb
      clear hb HC1 HX0
      go_wp2_with fail
      refine (HC2.out _).mono ?_
      rintro e w2 ⟨rfl, hb⟩
      dsimp only
      have X2 := hideIt (X1.out.keep hb)
      clear hb HC2 X1 k0 k1 kl
      obtain ⟨k0, k1, kl⟩ := two_at X2.out.kb
      go_wp2_with fail
      refine (HS.out HM.out _ X2.out.bel).mono ?_
      rintro e w3 ⟨rfl, hb⟩
      dsimp only
      have X3 := hideIt (X2.out.keep hb)
      clear hb HS X2 k0 k1 kl
      have HLT := hideIt (fun hk => kno_lt (l := l) (k := (k, n)) hk)
      have HO : Hid (ownP l (k, n) g = if knoB l (k, n) then l.getD (sekN l (k, n)) ((0, 0), (0, 0)) else ((k, n), (homI (k, n) g, 0))) := rfl
      have HPL3 := hideIt (HPL.out.keep X3.out.bel)
      clear HPL
      generalize ownP l (k, n) g = op at *
      generalize sekN l (k, n) = N at *
      generalize homI (k, n) g = hh at *
      cases hk : knoB l (k, n)
      · rw [hk] at HO
        obtain ⟨k0, k1, kl⟩ := two_at X3.out.kb
        obtain rfl : op = ((k, n), (hh, 0)) := HO.out
        clear HO HLT HPL3 hk
        have HP := hideIt (X3.out.put (.int .i64 k) (.int .i64 n) (.int .i64 hh) (.int .i64 0))
        obtain ⟨-, -, -, -, zf, zl⟩ := four_at X3.out.rb
        obtain ⟨z0, z1, z2, z3, -⟩ := four_at X3.out.rb
        go_wp2
        revert HP
        generalize (World.setCell _ ⟨w.heap.size + 1, 3, none⟩ _) = WW
        intro HP
        exact bodyPost_ret (v := .tuple #[.agg #[.int .i64 k, .int .i64 n, .int .i64 hh, .int .i64 0], .int .i64 0]) (by simp [results, Try.results11, go_sem, cell_at HP.out.1]) rfl ⟨rfl, HP.out.2⟩
      · have hlt := HLT.out hk
        have hltI : (N : Int) < (l.length : Int) := by omega
        have hN0 : (0 : Int) ≤ (N : Int) := by omega
        rw [hk] at HO
        obtain ⟨a', c', e', h8, hr⟩ := HPL3.out.plas
        simp only [Value.slice.injEq, true_and] at e'
        obtain ⟨rfl, rfl⟩ := e'
        obtain ⟨b, off, rfl, hbl, c0, c1, c2, c3⟩ := hr N hlt
        have HO2 : Hid (op = l[N]) := by
          show _ = _
          rw [HO.out]
          simp [List.getD_eq_getElem?_getD, List.getElem?_eq_getElem hlt]
        clear hr HO HLT HPL3 hk
        generalize l[N] = en at *
        obtain ⟨⟨x, y⟩, ⟨z, u⟩⟩ := en
        obtain rfl := HO2.out
        dsimp only at c0 c1 c2 c3
        clear HO2
        have HP := hideIt (X3.out.put (.int .i64 x) (.int .i64 y) (.int .i64 z) (.int .i64 u))
        obtain ⟨-, -, -, -, zf, zl⟩ := four_at X3.out.rb
        obtain ⟨z0, z1, z2, z3, -⟩ := four_at X3.out.rb
        go_wp2
        revert HP
        generalize (World.setCell _ ⟨w.heap.size + 1, 3, none⟩ _) = WW
        intro HP
        exact bodyPost_ret (v := .tuple #[.agg #[.int .i64 x, .int .i64 y, .int .i64 z, .int .i64 u], .int .i64 0]) (by simp [results, Try.results11, go_sem, cell_at HP.out.1]) rfl ⟨rfl, HP.out.2⟩
    · simp only [he, decide_false, Bool.false_eq_true, if_false]
      have hbI : (homE (k, n) g != 0) = true := by simpa using he
      generalize homE (k, n) g = ee at *
      generalize homI (k, n) g = hh at *
      clear h hm1 HS
      go_enter Try.func11, Try.ntmps11
      go_wp2_with fail
      refine HC1.out.mono ?_
      rintro e w1 ⟨rfl, hb⟩
      dsimp only
      have X1 := hideIt (HX0.out.keep hb)
      obtain ⟨k0, k1, kl⟩ := two_at X1.out.kb
      clear hb HC1 HX0
      go_wp2_with fail
      refine (HC2.out _).mono ?_
      rintro e w2 ⟨rfl, hb⟩
      dsimp only
      have X2 := hideIt (X1.out.keep hb)
      clear hb HC2 X1 k0 k1 kl
      have HP := hideIt (X2.out.put (.int .i64 0) (.int .i64 0) (.int .i64 0) (.int .i64 0))
      obtain ⟨-, -, -, -, zf, zl⟩ := four_at X2.out.rb
      obtain ⟨z0, z1, z2, z3, -⟩ := four_at X2.out.rb
      go_wp2
      revert HP
      generalize (World.setCell _ ⟨w.heap.size + 1, 3, none⟩ _) = WW
      intro HP
      exact bodyPost_ret (v := .tuple #[.agg #[.int .i64 0, .int .i64 0, .int .i64 0, .int .i64 0], .int .i64 ee]) (by simp [results, Try.results11, go_sem, cell_at HP.out.1]) rfl ⟨rfl, HP.out.2⟩
set_option maxHeartbeats 8000000 in
set_option maxRecDepth 100000 in
theorem rOwner_is (v : Value) (l : List PlaV) (k n g : Int) (w : World) (h : Plas w v l) : Calls Try.prog 16 #[v, .agg #[.int .i64 k, .int .i64 n], .int .i64 g] w (PlaBack (owrP l (k, n) g) (owrE l (k, n) g) w) := by
  have HX0 := hideIt (OB.first w k n)
  have HC1 := hideIt (rCheck_is v l _ (h.keep HX0.out.bel))
  have HC2 := hideIt (fun W => rHome_is k n g W)
  have HPL := hideIt h
  obtain ⟨a, c, rfl⟩ := h.slice
  have HS := hideIt (fun hm W (hW : Below w.heap.size w W) => seek_is _ l k n W (HPL.out.keep hW) hm)
  unfold owrP owrE
  cases hm1 : mayB l
  · rw [hm1] at HC1
    simp only [Bool.false_and, Bool.false_eq_true, if_false]
    clear h hm1 HS
    go_enter Try.func16, Try.ntmps16
    go_wp2_with fail
    refine HC1.out.mono ?_
    rintro e w1 ⟨rfl, hb⟩
    dsimp only
    have X1 := hideIt (HX0.out.keep hb)
    clear hb HC1 HX0
    have HP := hideIt (X1.out.put (.int .i64 0) (.int .i64 0) (.int .i64 0) (.int .i64 0))
    obtain ⟨-, -, -, -, zf, zl⟩ := four_at X1.out.rb
    obtain ⟨z0, z1, z2, z3, -⟩ := four_at X1.out.rb
    go_wp2
    revert HP
    generalize (World.setCell _ ⟨w.heap.size + 1, 3, none⟩ _) = WW
    intro HP
    exact bodyPost_ret (v := .tuple #[.agg #[.int .i64 0, .int .i64 0, .int .i64 0, .int .i64 0], .int .i64 200]) (by simp [results, Try.results16, go_sem, cell_at HP.out.1]) rfl ⟨rfl, HP.out.2⟩
  · rw [hm1] at HC1
    have HM := hideIt hm1
    simp only [Bool.true_and, if_true]
    by_cases he : homE (k, n) g = 0
    · simp only [he, decide_true, if_true]
      have HE := hideIt he
      rw [he] at HC2
      clear h hm1 he
      clear HS
      have HRI := hideIt ((mayB_iff l).1 HM.out).2
      have HKB : Hid (knoB l (k, n) = knoB l (k, n)) := rfl
      go_enter Try.func16, Try.ntmps16
      go_wp2_with fail
      refine HC1.out.mono ?_
      rintro e w1 ⟨rfl, hb⟩
      dsimp only
      have X1 := hideIt (HX0.out.keep hb)
      obtain ⟨k0, k1, kl⟩ := two_at X1.out.kb
      clear hb HC1 HX0
      go_wp2_with fail
      refine (HC2.out _).mono ?_
      rintro e w2 ⟨rfl, hb⟩
      dsimp only
      have X2 := hideIt (X1.out.keep hb)
      clear hb HC2 X1 k0 k1 kl
      have HOU : Hid (knoB l (k, n) = false → ownP l (k, n) g = ((k, n), (homI (k, n) g, 0))) := fun hk => by simp [ownP, hk]
      have HOK : Hid (∀ t (h : t < l.length), l[t].1 = (k, n) → ownP l (k, n) g = l[t]) := fun t h hk => by
        obtain ⟨e1, e2⟩ := sek_hit HRI.out t h hk
        simp [ownP, e1, e2, List.getD_eq_getElem?_getD, List.getElem?_eq_getElem h]
      generalize ownP l (k, n) g = op at *
      generalize homI (k, n) g = hh at *
      obtain ⟨a', c', e', h8, hr⟩ := HPL.out.plas
      simp only [Value.slice.injEq, true_and] at e'
      obtain ⟨rfl, rfl⟩ := e'
      have HH := hideIt hr
      clear hr HPL HE
      go_upto_region 7 with fail
      go_loopw [10] (fun v wr => ∃ t : Nat, v = .int .i64 t ∧ t ≤ l.length ∧ Hid (OB w k n wr ∧ ∀ i (h : i < l.length), i < t → l[i].1 ≠ (k, n))) (fun v _ => l.length - (intOf v).toNat)
      case atStart => exact ⟨0, rfl, Nat.zero_le _, hideIt ⟨X2.out, fun i _ h => absurd h (by omega)⟩⟩
      case round =>
        clear X2
        obtain ⟨t, rfl, ht, HR⟩ := hrel
        obtain ⟨k0, k1, kl⟩ := two_at HR.out.1.kb
        by_cases hlt : t < l.length
        · have hltI : (t : Int) < (l.length : Int) := by omega
          have ht0 : (0 : Int) ≤ (t : Int) := by omega
          have hw : IntKind.i64.wrap ((t : Int) + 1) = ((t + 1 : Nat) : Int) := by rw [IntKind.wrap_i64]; omega
          have hB := HR.out.1.bel
          obtain ⟨b, off, rfl, hbl, q0, q1, q2, q3⟩ := HH.out t hlt
          have hblr : b < wr.heap.size := Nat.lt_of_lt_of_le hbl hB.size
          have c0 := (hB.cell (p := ⟨b, off + t * 4, none⟩) hbl).trans q0
          have c1 := (hB.cell (p := ⟨b, off + t * 4 + 1, none⟩) hbl).trans q1
          have c2 := (hB.cell (p := ⟨b, off + t * 4 + 2, none⟩) hbl).trans q2
          have c3 := (hB.cell (p := ⟨b, off + t * 4 + 3, none⟩) hbl).trans q3
          clear q0 q1 q2 q3
          have HOT := hideIt (HOK.out t hlt)
          have HNE := hideIt HR.out.2
          have X3 := hideIt HR.out.1
          have HEQ : Hid (∃ e, e = l[t]) := ⟨_, rfl⟩
          clear HR HH hB HOK HOU HRI HM
          obtain ⟨en, hen⟩ := HEQ.out
          rw [← hen] at c0 c1 c2 c3 HOT
          have HEN := hideIt hen
          clear hen HEQ
          obtain ⟨⟨x, y⟩, ⟨z, u⟩⟩ := en
          dsimp only at c0 c1 c2 c3 HOT
          cases hq : ((x, y) == (k, n))
          · have q1 : ∀ W, (binOp .eql 24 (.agg #[.int .i64 x, .int .i64 y]) (.agg #[.int .i64 k, .int .i64 n])).run Try.prog W = .ok (.bool false) W := fun W => by rw [eq24, hq]
            have HN2 : Hid (∀ i (h : i < l.length), i < t + 1 → l[i].1 ≠ (k, n)) := fun i h hi => by
              rcases Nat.lt_or_ge i t with h' | h'
              · exact HNE.out i h h'
              · obtain rfl : i = t := by omega
                rw [← HEN.out]
                simpa using hq
            clear hq
            go_wp2_with fail
            go_quiet (fail)
            go_wp2
            go_roundw
            case rel => exact ⟨t + 1, by go_num, by omega, hideIt ⟨X3.out.keep (below_drewN (Below.refl _ _) _), HN2.out⟩⟩
            case measure => simp [intOf]; omega
          · have q1 : ∀ W, (binOp .eql 24 (.agg #[.int .i64 x, .int .i64 y]) (.agg #[.int .i64 k, .int .i64 n])).run Try.prog W = .ok (.bool true) W := fun W => by rw [eq24, hq]
            have HO2 := hideIt (HOT.out (by simpa using hq))
            clear hq HOT HNE HEN
            obtain rfl := HO2.out
            go_wp2_with fail
            go_quiet (fail)
            have X4 := hideIt (X3.out.keep (below_drewN (Below.refl _ _) nq))
            obtain ⟨g0, g1, g2, g3⟩ : (wr.drewN nq).cell? ⟨b, off + t * 4, none⟩ = some (.int .i64 x) ∧ (wr.drewN nq).cell? ⟨b, off + t * 4 + 1, none⟩ = some (.int .i64 y) ∧ (wr.drewN nq).cell? ⟨b, off + t * 4 + 2, none⟩ = some (.int .i64 z) ∧ (wr.drewN nq).cell? ⟨b, off + t * 4 + 3, none⟩ = some (.int .i64 u) := ⟨c0, c1, c2, c3⟩
            have hbq : b < (wr.drewN nq).heap.size := hblr
            clear c0 c1 c2 c3 hblr k0 k1 kl X3 HO2
            generalize wr.drewN nq = W at *
            have HP := hideIt (X4.out.put (.int .i64 x) (.int .i64 y) (.int .i64 z) (.int .i64 u))
            obtain ⟨-, -, -, -, zf, zl⟩ := four_at X4.out.rb
            obtain ⟨z0, z1, z2, z3, -⟩ := four_at X4.out.rb
            go_wp2
            revert HP
            generalize (World.setCell _ ⟨w.heap.size + 1, 3, none⟩ _) = WW
            intro HP
            exact bodyPost_ret (v := .tuple #[.agg #[.int .i64 x, .int .i64 y, .int .i64 z, .int .i64 u], .int .i64 0]) (by simp [results, Try.results16, go_sem, cell_at HP.out.1]) rfl ⟨rfl, HP.out.2⟩
        · have hltI : ¬ (t : Int) < (l.length : Int) := by omega
          have hk0 : knoB l (k, n) = false := sek_miss (fun i h => HR.out.2 i h (by omega))
          have HO2 := hideIt (HOU.out hk0)
          have X3 := hideIt HR.out.1
          clear HR HH hk0 HOU HOK HRI HM HKB
          obtain rfl := HO2.out
          have HP := hideIt (X3.out.put (.int .i64 k) (.int .i64 n) (.int .i64 hh) (.int .i64 0))
          obtain ⟨-, -, -, -, zf, zl⟩ := four_at X3.out.rb
          obtain ⟨z0, z1, z2, z3, -⟩ := four_at X3.out.rb
          go_wp2
          revert HP
          generalize (World.setCell _ ⟨w.heap.size + 1, 3, none⟩ _) = WW
          intro HP
          exact bodyPost_ret (v := .tuple #[.agg #[.int .i64 k, .int .i64 n, .int .i64 hh, .int .i64 0], .int .i64 0]) (by simp [results, Try.results16, go_sem, cell_at HP.out.1]) rfl ⟨rfl, HP.out.2⟩
    · simp only [he, decide_false, Bool.false_eq_true, if_false]
      have hbI : (homE (k, n) g != 0) = true := by simpa using he
      generalize homE (k, n) g = ee at *
      generalize homI (k, n) g = hh at *
      clear h hm1 HS
      go_enter Try.func16, Try.ntmps16
      go_wp2_with fail
      refine HC1.out.mono ?_
      rintro e w1 ⟨rfl, hb⟩
      dsimp only
      have X1 := hideIt (HX0.out.keep hb)
      obtain ⟨k0, k1, kl⟩ := two_at X1.out.kb
      clear hb HC1 HX0
      go_wp2_with fail
      refine (HC2.out _).mono ?_
      rintro e w2 ⟨rfl, hb⟩
      dsimp only
      have X2 := hideIt (X1.out.keep hb)
      clear hb HC2 X1 k0 k1 kl
      have HP := hideIt (X2.out.put (.int .i64 0) (.int .i64 0) (.int .i64 0) (.int .i64 0))
      obtain ⟨-, -, -, -, zf, zl⟩ := four_at X2.out.rb
      obtain ⟨z0, z1, z2, z3, -⟩ := four_at X2.out.rb
      go_wp2
      revert HP
      generalize (World.setCell _ ⟨w.heap.size + 1, 3, none⟩ _) = WW
      intro HP
      exact bodyPost_ret (v := .tuple #[.agg #[.int .i64 0, .int .i64 0, .int .i64 0, .int .i64 0], .int .i64 ee]) (by simp [results, Try.results16, go_sem, cell_at HP.out.1]) rfl ⟨rfl, HP.out.2⟩
end Go.Proofs.Ytfcbjdfelahfkaa
