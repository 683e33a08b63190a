/- ClearAll, walked. -/
import Derived.Test.YtbpnnhalajbjnaaAlP
import Derived.Test.YtbpnnhalajbjnaaTkW
namespace Go.Proofs.Ytbpnnhalajbjnaa
open Go.RowKit
set_option linter.all false
/-- The book that is on its way, in its box. -/
structure AX (w W1 : World) (K : Nat) (M : LaneV) (b a o : Value) (W : World) : Prop where
  bx : W.heap[K]? = some (.cells (laneA M b a o) 37 (0, 0))
  ob : W.ownsRow 0 47 4 b M.bids.length (celC ordE M.bids)
  oa : W.ownsRow 0 47 4 a M.asks.length (celC ordE M.asks)
  oo : W.ownsRow 0 45 3 o M.owed.length (celC oweE M.owed)
  bel : Below w.heap.size w W
  l0 : W.heap[w.heap.size]? = W1.heap[w.heap.size]?
  hK : w.heap.size < K
theorem AX.keep {w W1 W W' : World} {K : Nat} {M : LaneV} {b a o : Value} (h : AX w W1 K M b a o W) (hb : Below W.heap.size W W') : AX w W1 K M b a o W' := ⟨blkK h.bx hb, own_keep h.ob hb, own_keep h.oa hb, own_keep h.oo hb, below_via h.bel hb, (hb.block _ (by have := h.hK; have := (Array.getElem?_eq_some_iff.1 h.bx).1; omega)).trans h.l0, h.hK⟩
theorem AX.put {w W1 W : World} {K : Nat} {M : LaneV} {b a o b' a' o' : Value} (h : AX w W1 K M b a o W) (M2 : LaneV) (hb : W.ownsRow 0 47 4 b' M2.bids.length (celC ordE M2.bids)) (ha : W.ownsRow 0 47 4 a' M2.asks.length (celC ordE M2.asks)) (ho : W.ownsRow 0 45 3 o' M2.owed.length (celC oweE M2.owed)) : AX w W1 K M2 b' a' o' (((((W.setCell ⟨K, 0, none⟩ (.bool M2.call)).setCell ⟨K, 1, none⟩ (.int .i64 M2.next)).setCell ⟨K, 2, none⟩ b').setCell ⟨K, 3, none⟩ a').setCell ⟨K, 4, none⟩ o') := by
  have hn : w.heap.size ≠ K := by have := h.hK; omega
  have hle : w.heap.size ≤ K := Nat.le_of_lt h.hK
  exact ⟨put5 W K 37 _ _ _ _ _ h.bx, own_five hb h.bx (by decide) _ _ _ _ _, own_five ha h.bx (by decide) _ _ _ _ _, own_five ho h.bx (by decide) _ _ _ _ _, belowSet _ (belowSet _ (belowSet _ (belowSet _ (belowSet _ h.bel hle) hle) hle) hle) hle, setOther _ (setOther _ (setOther _ (setOther _ (setOther _ h.l0 hn) hn) hn) hn) hn, h.hK⟩
set_option maxHeartbeats 32000000 in
set_option maxRecDepth 100000 in
theorem all_walk (L : LaneV) (b a o : Value) (w : World) (h : Lan w L b a o) : Calls Try.prog 7 #[laneV L b a o] w fun e w' => e = .returned (.bool true) ∧ Below w.heap.size w w' := by
  have HL := hideIt (fun W (hW : Below w.heap.size w W) => h.keep hW)
  have lb := h.bids.1
  have la := h.asks.1
  have lo := h.owed.1
  have HX0 := hideIt (heap_alloc_new w (.cells (laneA L b a o) 37))
  have HB0 := hideIt (below1 w (.cells (laneA L b a o) 37))
  have HHO := hideIt (holds_is L b a o _ (HL.out _ HB0.out))
  have HLV := hideIt (fun W => live_is W)
  obtain ⟨ba, bc, rfl⟩ := h.bids.slice
  obtain ⟨aa, ac, rfl⟩ := h.asks.slice
  obtain ⟨oa, oc, rfl⟩ := h.owed.slice
  clear h
  cases hk : chkB L
  · rw [show holR L = (0, 0, 130) by unfold holR; rw [hk]; rfl] at HHO
    unfold laneV at *
    unfold laneA at *
    obtain ⟨cl, nx, bids, asks, owed⟩ := L
    simp only at *
    obtain ⟨⟨c0, c1, c2, c3, c4⟩, -, cz⟩ := five5_at HX0.out
    go_enter Try.func7, Try.ntmps7
    go_wp2_with fail
    refine HHO.out.mono ?_
    rintro e w1 ⟨rfl, hb⟩
    dsimp only
    have B1 := hideIt (below_via HB0.out hb)
    clear hb HB0 HX0 c0 c1 c2 c3 c4 cz HHO
    go_wp2_with fail
    refine (HLV.out _).mono ?_
    rintro e w2 ⟨rfl, hb⟩
    dsimp only
    have B2 := hideIt (below_via B1.out hb)
    clear hb B1
    go_wp2
    go_ret
    exact ⟨rfl, B2.out⟩
  · rw [show holR L = (holM L, holG L, 0) by unfold holR; rw [if_pos hk]] at HHO
    have HCP := hideIt (fun W (hW : Below w.heap.size w W) => rCopy_is L (.slice ba L.bids.length bc) (.slice aa L.asks.length ac) (.slice oa L.owed.length oc) W (HL.out W hW))
    have HTK := hideIt (fun (k : Int) (hkk : 1 ≤ k ∧ k ≤ 8) b' a' o' W (hW : Lan W (laU L k) b' a' o') => by
      have := take_is (laU L k) b' a' o' k W hW
      rw [la_take hk k hkk] at this
      exact this)
    have HH9 := hideIt (fun b' a' o' W (hW : Lan W (laU L 9) b' a' o') => by
      have := holds_is (laU L 9) b' a' o' W hW
      rw [show holR (laU L 9) = (holM (laU L 9), holG (laU L 9), 0) by unfold holR; rw [if_pos (chk_up hk 9)]] at this
      exact this)
    have HS9 := hideIt (fun b' a' o' b'' a'' o'' W (hW : Lan W (laU L 9) b' a' o') (hV : Lan W (laU L 9) b'' a'' o'') => sameL_is (laU L 9) b' a' o' b'' a'' o'' W hW hV)
    have HSUM := hideIt (fun k => la_sum L k)
    have HAS := hideIt (fun k => tak_as hk k)
    have HBD := hideIt (fun k => hol_bd (chk_up hk k))
    have HLN := hideIt (fun k => show (takA k (upA k L.owed)).length ≤ L.owed.length from Nat.le_trans (takA_len _ _) (List.length_filter_le _ _))
    have HUP := hideIt (fun k => show (upA k L.owed).length ≤ L.owed.length from List.length_filter_le _ _)
    have e1 := la_one hk
    have e9 := la_nine hk
    have HM1 : Hid (holM L = holM (laU L 1) ∧ holG L = holG (laU L 1)) := by rw [e1]; exact ⟨rfl, rfl⟩
    have HU1 : Hid (upA 1 L.owed = L.owed) := congrArg LaneV.owed e1
    have HU9 : Hid (upA 9 L.owed = []) := congrArg LaneV.owed e9
    clear e1 e9 hk
    generalize hfm : (fun k : Int => holM (laU L k)) = FM at *
    generalize hfg : (fun k : Int => holG (laU L k)) = FG at *
    generalize hft : (fun k : Int => takA k (upA k L.owed)) = FT at *
    generalize hfu : (fun k : Int => upA k L.owed) = FU at *
    have T1 : Hid (∀ k, holM (laU L k) = FM k) := fun k => congrFun hfm k
    have T2 : Hid (∀ k, holG (laU L k) = FG k) := fun k => congrFun hfg k
    have T3 : Hid (∀ k, takA k (upA k L.owed) = FT k) := fun k => congrFun hft k
    have T4 : Hid (∀ k, upA k L.owed = FU k) := fun k => congrFun hfu k
    unfold TkB at HTK
    simp only [T1.out, T2.out, T3.out] at HSUM HAS HBD HLN HM1 HH9 HTK
    clear hfm hfg hft hfu T1 T2 T3
    unfold laU at *
    simp only [T4.out] at HUP HU1 HU9 HTK HH9 HS9
    clear T4
    generalize holM L = xM at *
    generalize holG L = xG at *
    unfold LaneBack at HCP
    unfold laneV at *
    unfold laneA at *
    obtain ⟨cl, nx, bids, asks, owed⟩ := L
    simp only at *
    obtain ⟨⟨c0, c1, c2, c3, c4⟩, -, cz⟩ := five5_at HX0.out
    go_enter Try.func7, Try.ntmps7
    go_wp2_with fail
    refine HHO.out.mono ?_
    rintro e w1 ⟨rfl, hb⟩
    dsimp only
    have B1 := hideIt (below_via HB0.out hb)
    have X1 := hideIt (blkK HX0.out hb)
    clear hb HB0 HX0 c0 c1 c2 c3 c4 cz HHO
    obtain ⟨⟨c0, c1, c2, c3, c4⟩, -, cz⟩ := five5_at X1.out
    go_wp2_with fail
    refine (HCP.out _ B1.out).mono ?_
    rintro e w2 ⟨b1v, a1v, o1v, rfl, ob, oa1, oo, -, hb⟩
    dsimp only
    obtain ⟨b1, bk1, rfl⟩ := own_len ob
    obtain ⟨a1, ak1, rfl⟩ := own_len oa1
    obtain ⟨o1, ok1, rfl⟩ := own_len oo
    have hb1 := below1 w2 (.cells #[.bool cl, .int .i64 nx, .slice b1 bids.length bk1, .slice a1 asks.length ak1, .slice o1 owed.length ok1] 37)
    have B2 := hideIt (below_via B1.out (below_via hb hb1))
    have X2 := hideIt (blkK X1.out (below_via hb hb1))
    have Z2 : w.heap.size < w2.heap.size := Nat.lt_of_lt_of_le (Array.getElem?_eq_some_iff.1 X1.out).1 hb.size
    have O2 : Hid (AX w (w2.alloc (.cells #[.bool cl, .int .i64 nx, .slice b1 bids.length bk1, .slice a1 asks.length ak1, .slice o1 owed.length ok1] 37)) w2.heap.size ⟨cl, nx, bids, asks, FU (((0 : Nat) : Int) + 1)⟩ (.slice b1 bids.length bk1) (.slice a1 asks.length ak1) (.slice o1 (FU (((0 : Nat) : Int) + 1)).length ok1) (w2.alloc (.cells #[.bool cl, .int .i64 nx, .slice b1 bids.length bk1, .slice a1 asks.length ak1, .slice o1 owed.length ok1] 37))) := by
      show AX _ _ _ _ _ _ _ _
      rw [show ((0 : Nat) : Int) + 1 = 1 from rfl, HU1.out]
      exact ⟨heap_alloc_new w2 _, own_base (own_keep ob hb1) (Nat.zero_le _), own_base (own_keep oa1 hb1) (Nat.zero_le _), own_base (own_keep oo hb1) (Nat.zero_le _), B2.out, rfl, Z2⟩
    clear hb hb1 ob oa1 oo X1 B1 c0 c1 c2 c3 c4 cz HU1
    go_upto_region 6 with fail
    generalize w2.alloc (.cells #[.bool cl, .int .i64 nx, .slice b1 bids.length bk1, .slice a1 asks.length ak1, .slice o1 owed.length ok1] 37) = W2 at *
    generalize w2.heap.size = K at *
    go_loopw [3, 4, 7] (fun u v x wr => ∃ k : Nat, ∃ xa xc ya yc za zc, ∃ m g : Int, u = .int .i64 m ∧ v = .int .i64 g ∧ x = .int .i64 ((k : Int) + 1) ∧ k ≤ 8 ∧ Hid (m = FM ((k : Int) + 1) ∧ g = FG ((k : Int) + 1)) ∧ Hid (AX w W2 K ⟨cl, nx, bids, asks, FU ((k : Int) + 1)⟩ (.slice xa bids.length xc) (.slice ya asks.length yc) (.slice za (FU ((k : Int) + 1)).length zc) wr)) (fun _ _ x _ => 9 - (intOf x).toNat)
    case atStart => exact ⟨0, b1, bk1, a1, ak1, o1, ok1, _, _, rfl, rfl, rfl, Nat.zero_le _, HM1, O2⟩
    case round =>
      clear HM1 O2
      obtain ⟨k, xa, xc, ya, yc, za, zc, m, g, rfl, rfl, rfl, hk8, HMG, HX⟩ := hrel
      obtain ⟨⟨c0, c1, c2, c3, c4⟩, -, cz⟩ := five5_at HX.out.bx
      by_cases hlt : k < 8
      · have hle : (k : Int) + 1 ≤ 8 := by omega
        have hwk : IntKind.i64.wrap ((k : Int) + 1 + 1) = ((k + 1 : Nat) : Int) + 1 := by rw [IntKind.wrap_i64]; omega
        have hz := (Array.getElem?_eq_some_iff.1 HX.out.bx).1
        have ea := HAS.out ((k : Int) + 1)
        have es := HSUM.out ((k : Int) + 1)
        have eb := HBD.out ((k : Int) + 1)
        have ec := HBD.out ((k : Int) + 1 + 1)
        have el := HLN.out ((k : Int) + 1)
        have eu := HUP.out ((k : Int) + 1 + 1)
        have hcast : ((k + 1 : Nat) : Int) + 1 = (k : Int) + 1 + 1 := by push_cast; rfl
        go_wp2_with fail
        refine (HTK.out ((k : Int) + 1) ⟨by omega, hle⟩ _ _ _ _ (own_lan HX.out.ob HX.out.oa HX.out.oo lb la (by dsimp only; have := HUP.out ((k : Int) + 1); omega))).mono ?_
        rintro e w3 ⟨b2v, a2v, o2v, u2v, rfl, ob, oa2, oo, ou, hb⟩
        dsimp only
        try dsimp only at ob oa2 oo ou
        obtain ⟨b2, bk2, rfl⟩ := own_len ob
        obtain ⟨a2, ak2, rfl⟩ := own_len oa2
        obtain ⟨o2, ok2, rfl⟩ := own_len oo
        obtain ⟨u2, uk2, rfl⟩ := own_len ou
        have hb2 := below1 w3 (.cells #[.bool cl, .int .i64 nx, .slice b2 bids.length bk2, .slice a2 asks.length ak2, .slice o2 (FU ((k : Int) + 1 + 1)).length ok2] 37)
        have hbb := below_via hb hb2
        have X3 := hideIt (HX.out.keep hbb)
        have U3 : Hid (Ams (w3.alloc (.cells #[.bool cl, .int .i64 nx, .slice b2 bids.length bk2, .slice a2 asks.length ak2, .slice o2 (FU ((k : Int) + 1 + 1)).length ok2] 37)) (.slice u2 (FT ((k : Int) + 1)).length uk2) (FT ((k : Int) + 1))) := own_sgot (own_keep ou hb2) (by omega)
        have N3 := hideIt (And.intro (own_base (own_keep ob hb2) (Nat.zero_le _)) (And.intro (own_base (own_keep oa2 hb2) (Nat.zero_le _)) (own_base (own_keep oo hb2) (Nat.zero_le _))))
        have J3 := hideIt (heap_alloc_new w3 (.cells #[.bool cl, .int .i64 nx, .slice b2 bids.length bk2, .slice a2 asks.length ak2, .slice o2 (FU ((k : Int) + 1 + 1)).length ok2] 37))
        have Q3 : Hid (K < w3.heap.size ∧ w.heap.size < w3.heap.size) := ⟨Nat.lt_of_lt_of_le hz hb.size, Nat.lt_of_lt_of_le (by have := HX.out.hK; omega) hb.size⟩
        clear hb hb2 hbb ob oa2 oo ou HX HTK HAS HSUM HBD HLN HUP c0 c1 c2 c3 c4 cz hz
        go_upto_region 12 with fail
        generalize w3.alloc (.cells #[.bool cl, .int .i64 nx, .slice b2 bids.length bk2, .slice a2 asks.length ak2, .slice o2 (FU ((k : Int) + 1 + 1)).length ok2] 37) = W3 at *
        generalize w3.heap.size = KN at *
        have hmono0 := hideIt (fun t => sumT_mono (a := 0) (fun y hy => (ea y hy).2) t)
        have hmono1 := hideIt (fun t => sumT_mono (a := 1) (fun y hy => (ea y hy).2) t)
        have HT0 := hideIt (fun t (ht : t < (FT ((k : Int) + 1)).length) => sumT_take (a := 0) ht)
        have HT1 := hideIt (fun t (ht : t < (FT ((k : Int) + 1)).length) => sumT_take (a := 1) ht)
        have HEA := hideIt ea
        generalize FT ((k : Int) + 1) = A at *
        obtain ⟨M2, HM2⟩ : ∃ M2, Hid (M2 = FM ((k : Int) + 1 + 1)) := ⟨_, hideIt rfl⟩
        obtain ⟨G2, HG2⟩ : ∃ G2, Hid (G2 = FG ((k : Int) + 1 + 1)) := ⟨_, hideIt rfl⟩
        rw [← HM2.out, ← HG2.out] at es ec
        rw [← HMG.out.1, ← HMG.out.2] at es
        rw [← HMG.out.1, ← HMG.out.2] at eb
        have ES := hideIt es
        obtain ⟨pa, pc, e, -, hr⟩ := U3.out.ams
        simp only [Value.slice.injEq, true_and] at e
        obtain ⟨rfl, rfl⟩ := e
        have HH := hideIt hr
        clear hr U3 ea HMG es
        go_loopw [3, 4, 11] (fun u v x wr => ∃ t : Nat, ∃ p q : Int, u = .int .i64 p ∧ v = .int .i64 q ∧ x = .int .i64 t ∧ t ≤ A.length ∧ wr = W3 ∧ Hid (p = m - sumT 0 (A.take t) ∧ q = g - sumT 1 (A.take t))) (fun _ _ x _ => A.length - (intOf x).toNat)
        case atStart => exact ⟨0, m, g, rfl, rfl, rfl, Nat.zero_le _, rfl, hideIt ⟨by simp [sumT], by simp [sumT]⟩⟩
        case round =>
          obtain ⟨t, p, q, rfl, rfl, rfl, ht, hwr, HP⟩ := hrel
          subst hwr
          by_cases htl : t < A.length
          · have hltI : (t : Int) < (A.length : Int) := by omega
            have ht0 : (0 : Int) ≤ (t : Int) := by omega
            have hwt : IntKind.i64.wrap ((t : Int) + 1) = ((t + 1 : Nat) : Int) := by rw [IntKind.wrap_i64]; omega
            obtain ⟨b, off, rfl, hbl, q0, q1⟩ := HH.out t htl
            have s0 := HT0.out t htl
            have s1 := HT1.out t htl
            have m0 := hmono0.out t
            have m1 := hmono1.out t
            have n0 := hmono0.out (t + 1)
            have n1 := hmono1.out (t + 1)
            have p0 := HP.out.1
            have p1 := HP.out.2
            have hpe := HEA.out A[t] (List.getElem_mem htl)
            have HS : Hid (sumT 0 (A.take (t + 1)) = sumT 0 (A.take t) + (if A[t].asset = 0 then A[t].n else 0) ∧ sumT 1 (A.take (t + 1)) = sumT 1 (A.take t) + (if A[t].asset = 1 then A[t].n else 0)) := ⟨s0, s1⟩
            rw [s0] at n0
            rw [s1] at n1
            clear HH HT0 HT1 hmono0 hmono1 s0 s1 HEA
            generalize A[t] = y at *
            obtain ⟨yas, yn⟩ := y
            dsimp only at q0 q1 hpe HS n0 n1
            rcases hpe.1 with rfl | rfl
            · rw [if_pos rfl, if_neg (by decide)] at HS
              rw [if_pos rfl] at n0
              have hwv : IntKind.i64.wrap (p - yn) = p - yn := by have es := ES.out; rw [IntKind.wrap_i64]; omega
              have HP2 : Hid (p - yn = m - sumT 0 (A.take (t + 1)) ∧ q = g - sumT 1 (A.take (t + 1))) := ⟨by rw [HS.out.1]; omega, by rw [HS.out.2]; omega⟩
              clear HS HP n0 n1 m0 m1 p0 p1 hpe
              go_wp2
              go_roundw
              case rel => exact ⟨t + 1, _, _, rfl, rfl, by go_num, by omega, by first | rfl | trivial, HP2⟩
              case measure => simp [intOf]; omega
            · rw [if_pos rfl, if_neg (by decide)] at HS
              rw [if_pos rfl] at n1
              have hwv : IntKind.i64.wrap (q - yn) = q - yn := by have es := ES.out; rw [IntKind.wrap_i64]; omega
              have HP2 : Hid (p = m - sumT 0 (A.take (t + 1)) ∧ q - yn = g - sumT 1 (A.take (t + 1))) := ⟨by rw [HS.out.1]; omega, by rw [HS.out.2]; omega⟩
              clear HS HP n0 n1 m0 m1 p0 p1 hpe
              go_wp2
              go_roundw
              case rel => exact ⟨t + 1, _, _, rfl, rfl, by go_num, by omega, by first | rfl | trivial, HP2⟩
              case measure => simp [intOf]; omega
          · have hltI : ¬ (t : Int) < (A.length : Int) := by omega
            have het : A.take t = A := List.take_of_length_le (by omega)
            have hp := HP.out.1
            have hq := HP.out.2
            rw [het] at hp hq
            have es := ES.out
            have hp2 : p = M2 := by omega
            have hq2 : q = G2 := by omega
            obtain ⟨⟨j0, j1, j2, j3, j4⟩, -, jz⟩ := five5_at J3.out
            obtain ⟨⟨c0, c1, c2, c3, c4⟩, cf, cz⟩ := five5_at X3.out.bx
            have hKN : KN ≠ K := by have := Q3.out.1; omega
            have hNK : K ≠ KN := by have := Q3.out.1; omega
            have XF := hideIt (X3.out.put ⟨cl, nx, bids, asks, FU ((k : Int) + 1 + 1)⟩ N3.out.1 N3.out.2.1 N3.out.2.2)
            dsimp only at XF
            have HQ3 : Hid (p = FM (((k + 1 : Nat) : Int) + 1) ∧ q = FG (((k + 1 : Nat) : Int) + 1)) := by show _ ∧ _; rw [hcast]; exact ⟨hp2.trans HM2.out, hq2.trans HG2.out⟩
            clear HP HH HT0 HT1 hmono0 hmono1 HEA X3 N3 J3 het hp hq es ES eb ec hp2 hq2 HM2 HG2
            go_wp2
            revert XF
            generalize (World.setCell _ ⟨K, 4, none⟩ _) = WF
            intro XF
            go_roundw
            case rel => exact ⟨k + 1, b2, bk2, a2, ak2, o2, ok2, p, q, rfl, rfl, by first | exact congrArg (Value.int IntKind.i64) hcast.symm | go_num, by omega, HQ3, by rw [hcast]; exact XF⟩
            case measure => simp [intOf]; omega
      · have hle : ¬ (k : Int) + 1 ≤ 8 := by omega
        have hk : k = 8 := by omega
        subst hk
        have e9 : ((8 : Nat) : Int) + 1 = 9 := rfl
        rw [e9] at HX HMG
        rw [HU9.out] at HX HH9 HS9
        rw [e9, HU9.out] at c4
        simp only [List.length_nil] at HX c4
        have XB := hideIt HX.out.bel
        have L9 := hideIt (fun W (hW : Below wr.heap.size wr W) => show Lan W ⟨cl, nx, bids, asks, []⟩ (.slice xa bids.length xc) (.slice ya asks.length yc) (.slice za 0 zc) from own_lan (own_keep HX.out.ob hW) (own_keep HX.out.oa hW) (own_keep HX.out.oo hW) lb la (by simp))
        have BX := hideIt HX.out.bx
        have LX := hideIt (HX.out.l0.trans X2.out)
        clear HX HTK HAS HSUM HBD HLN HUP
        go_wp2_with fail
        refine (HH9.out _ _ _ _ (L9.out _ (Below.refl _ _))).mono ?_
        rintro e w3 ⟨rfl, hb⟩
        dsimp only
        have hE1 := HMG.out.1
        have hE2 := HMG.out.2
        generalize FM 9 = u9 at *
        generalize FG 9 = v9 at *
        clear HMG
        subst hE1 hE2
        have E3 := hideIt hb
        clear hb c0 c1 c2 c3 c4 cz HH9
        obtain ⟨⟨d0, d1, d2, d3, d4⟩, -, dz⟩ := five5_at (blkK LX.out E3.out)
        go_wp2_with fail
        refine (HCP.out _ (below_via XB.out E3.out)).mono ?_
        rintro e w4 ⟨b3v, a3v, o3v, rfl, ob, oa3, oo, -, hb⟩
        dsimp only
        obtain ⟨b3, bk3, rfl⟩ := own_len ob
        obtain ⟨a3, ak3, rfl⟩ := own_len oa3
        obtain ⟨o3, ok3, rfl⟩ := own_len oo
        have hb4 := below1 w4 (.cells #[.bool cl, .int .i64 nx, .slice b3 bids.length bk3, .slice a3 asks.length ak3, .slice none 0 0] 37)
        have E4 := hideIt (below_via E3.out (below_via hb hb4))
        have W4L : Hid (Lan (w4.alloc (.cells #[.bool cl, .int .i64 nx, .slice b3 bids.length bk3, .slice a3 asks.length ak3, .slice none 0 0] 37)) ⟨cl, nx, bids, asks, []⟩ (.slice b3 bids.length bk3) (.slice a3 asks.length ak3) (.slice none 0 0)) := own_lan (own_keep ob hb4) (own_keep oa3 hb4) (own_nil _ _) lb la (by simp)
        have N4 := hideIt (heap_alloc_new w4 (.cells #[.bool cl, .int .i64 nx, .slice b3 bids.length bk3, .slice a3 asks.length ak3, .slice none 0 0] 37))
        clear hb hb4 ob oa3 oo d0 d1 d2 d3 d4 dz HCP E3
        go_upto_region 21 with fail
        generalize w4.alloc (.cells #[.bool cl, .int .i64 nx, .slice b3 bids.length bk3, .slice a3 asks.length ak3, .slice none 0 0] 37) = W4 at *
        generalize w4.heap.size = KW at *
        obtain ⟨⟨d0, d1, d2, d3, d4⟩, -, dz⟩ := five5_at N4.out
        obtain ⟨⟨c0, c1, c2, c3, c4⟩, -, cz⟩ := five5_at (blkK BX.out E4.out)
        go_wp2_with fail
        refine (HS9.out _ _ _ _ _ _ _ (L9.out _ E4.out) W4L.out).mono ?_
        rintro e w5 ⟨rfl, hb⟩
        dsimp only
        have B5 := hideIt (below_via XB.out (below_via E4.out hb))
        clear hb d0 d1 d2 d3 d4 dz c0 c1 c2 c3 c4 cz HS9
        go_wp2_with fail
        refine (HLV.out _).mono ?_
        rintro e w6 ⟨rfl, hb⟩
        dsimp only
        have B6 := hideIt (below_via B5.out hb)
        clear hb B5
        go_wp2
        go_ret
        exact ⟨rfl, B6.out⟩
end Go.Proofs.Ytbpnnhalajbjnaa
