/- ClearGross, walked. -/
import Derived.Test.YtbpnnhalajbjnaaGrM
import Derived.BigQuiet
namespace Go.Proofs.Ytbpnnhalajbjnaa
open Go.RowKit
set_option linter.all false
set_option maxHeartbeats 32000000 in
set_option maxRecDepth 100000 in
theorem gross_walk0 (a : Option Addr) (c : Nat) (l : List PutV) (w : World) (h : Puts w (.slice a l.length c) l) (hl : l.length ≤ 30) : Calls Try.prog 8 #[.slice a l.length c] w fun e w' => e = .returned (.bool true) ∧ Below w.heap.size w w' := by
  have HNW := hideIt (new_is w)
  have HPL := hideIt (fun L b a o acc s price n now W (hW : Lan W L b a o) => place_is L b a o acc s price n now W hW)
  have HCN := hideIt (fun L b a o acc id W (hW : Lan W L b a o) => cancel_is L b a o acc id W hW)
  have HNT := hideIt (fun u F W (hu : Fils W u F) => net_is u F W hu)
  have HTK := hideIt (fun L b a o acc W (hW : Lan W L b a o) => take_is L b a o acc W hW)
  have HOF := hideIt (fun u P x W (hu : Poss W u P) => of_is u P x W hu)
  have HLV := hideIt (fun W => live_is W)
  have hI : ¬ (30 : Int) < (l.length : Int) := by omega
  go_enter Try.func8, Try.ntmps8
  go_wp2_with fail
  refine HNW.out.mono ?_
  rintro e w1 ⟨rfl, hb⟩
  dsimp only
  have G0 := hideIt (GW.first hb)
  clear hb HNW
  unfold laneV at *
  go_upto_region 7 with fail
  generalize (w1.alloc (.cells #[.bool false, .int .i64 1, .slice none 0 0, .slice none 0 0, .slice none 0 0] 37)).alloc (.cells #[.int .i64 0, .int .i64 0, .int .i64 0, .int .i64 0, .int .i64 0, .int .i64 0, .int .i64 0, .int .i64 0, .int .i64 0, .int .i64 0, .int .i64 0, .int .i64 0, .int .i64 0, .int .i64 0, .int .i64 0, .int .i64 0, .int .i64 0, .int .i64 0] 57) = W0 at *
  have hKA : ∃ KA, KA = w1.heap.size + 1 := ⟨_, rfl⟩
  obtain ⟨KA, hKA⟩ := hKA
  rw [← hKA] at G0 ⊢
  clear hKA
  generalize w1.heap.size = KL at *
  have HS0 := hideIt GS.first
  obtain ⟨pa, pc, e, h8, hr⟩ := h.puts
  simp only [Value.slice.injEq, true_and] at e
  obtain ⟨rfl, rfl⟩ := e
  have HH := hideIt hr
  clear hr h
  go_loopw [4, 6] (fun u x wr => ∃ i : Nat, ∃ L F f, ∃ ba bc aa ac oa oc ua uc, u = .slice ua F.length uc ∧ x = .int .i64 i ∧ i ≤ l.length ∧ Hid (GS i L F f) ∧ Hid (GW w KL KA L (.slice ba L.bids.length bc) (.slice aa L.asks.length ac) (.slice oa L.owed.length oc) F (.slice ua F.length uc) f wr)) (fun _ x _ => l.length - (intOf x).toNat)
  case atStart => exact ⟨0, newL, [], fun _ => 0, none, 0, none, 0, none, 0, none, 0, rfl, rfl, Nat.zero_le _, HS0, G0⟩
  case round =>
    clear G0 HS0
    obtain ⟨i, L, F, f, ba, bc, aa, ac, oa, oc, ua, uc, rfl, rfl, hi, HS, HG⟩ := hrel
    by_cases hlt : i < l.length
    · have hltI : (i : Int) < (l.length : Int) := by omega
      have hi0 : (0 : Int) ≤ (i : Int) := by omega
      have hwi : IntKind.i64.wrap ((i : Int) + 1) = ((i + 1 : Nat) : Int) := by rw [IntKind.wrap_i64]; omega
      have HB := hideIt HG.out.bel
      obtain ⟨b, off, rfl, hbl, q0, q1, q2, q3, q4⟩ := HH.out i hlt
      have hblr : b < wr.heap.size := Nat.lt_of_lt_of_le hbl HB.out.size
      have c0 := (HB.out.cell (p := ⟨b, off + i * 5, none⟩) hbl).trans q0
      have c1 := (HB.out.cell (p := ⟨b, off + i * 5 + 1, none⟩) hbl).trans q1
      have c2 := (HB.out.cell (p := ⟨b, off + i * 5 + 2, none⟩) hbl).trans q2
      have c3 := (HB.out.cell (p := ⟨b, off + i * 5 + 3, none⟩) hbl).trans q3
      have c4 := (HB.out.cell (p := ⟨b, off + i * 5 + 4, none⟩) hbl).trans q4
      clear q0 q1 q2 q3 q4 HH HCN HNT HTK HOF HLV
      generalize l[i] = y at *
      obtain ⟨yacc, ys, yp, yn, ynow⟩ := y
      dsimp only at c0 c1 c2 c3 c4
      have hb1 := below1 wr (.cells #[.int .i64 yacc, .int .i64 ys, .int .i64 yp, .int .i64 yn, .bool ynow] 59)
      have G1 := hideIt (HG.out.keep hb1)
      have P1 := hideIt (heap_alloc_new wr (.cells #[.int .i64 yacc, .int .i64 ys, .int .i64 yp, .int .i64 yn, .bool ynow] 59))
      clear hb1 HG HB
      go_upto_region 10 with fail
      generalize wr.alloc (.cells #[.int .i64 yacc, .int .i64 ys, .int .i64 yp, .int .i64 yn, .bool ynow] 59) = W1 at *
      generalize wr.heap.size = KP at *
      clear c0 c1 c2 c3 c4 hblr hbl
      obtain ⟨⟨p0, p1, p2, p3, p4⟩, -, pz⟩ := five5_at P1.out
      obtain ⟨⟨k0, k1, k2, k3, k4⟩, -, kz⟩ := five5_at G1.out.bx
      have HPX := hideIt (HPL.out L _ _ _ yacc ys yp yn ynow W1 (G1.out.lan HS.out.chk))
      have HGP := hideIt (fun hz => HS.out.place (acc := yacc) (s := ys) (price := yp) (n := yn) (now := ynow) hz)
      have hF := HS.out.fl
      unfold PlBack at HPX
      unfold laneV laneA at HPX
      clear HPL
      obtain ⟨cl, nx, bids, asks, owed⟩ := L
      generalize placeL ⟨cl, nx, bids, asks, owed⟩ yacc ys yp yn ynow = X at *
      obtain ⟨⟨mc, mn, mb, ma, mo⟩, G, id, er⟩ := X
      dsimp only at *
      go_wp2_with fail
      refine HPX.out.mono ?_
      rintro e w2 ⟨b2v, a2v, o2v, f2v, rfl, ob, oa2, oo, of2, hb⟩
      dsimp only
      try dsimp only at ob oa2 oo of2
      obtain ⟨b2, bk2, rfl⟩ := own_len ob
      obtain ⟨a2, ak2, rfl⟩ := own_len oa2
      obtain ⟨o2, ok2, rfl⟩ := own_len oo
      obtain ⟨f2, fk2, rfl⟩ := own_len of2
      have hb3 := below1 w2 (.cells #[.bool mc, .int .i64 mn, .slice b2 mb.length bk2, .slice a2 ma.length ak2, .slice o2 mo.length ok2] 37)
      have hbb := below_via hb hb3
      have G3 := hideIt (G1.out.keep hbb)
      have P3 := hideIt (blkK P1.out hbb)
      have M3 := hideIt (heap_alloc_new w2 (.cells #[.bool mc, .int .i64 mn, .slice b2 mb.length bk2, .slice a2 ma.length ak2, .slice o2 mo.length ok2] 37))
      have OB3 := hideIt (own_base (own_keep ob hb3) G1.out.bel.size)
      have OA3 := hideIt (own_base (own_keep oa2 hb3) G1.out.bel.size)
      have OO3 := hideIt (own_base (own_keep oo hb3) G1.out.bel.size)
      have OF3 := hideIt (own_keep of2 hb3)
      have hKN : KL < w2.heap.size ∧ KP < w2.heap.size := ⟨Nat.lt_of_lt_of_le kz hb.size, Nat.lt_of_lt_of_le pz hb.size⟩
      clear hb hb3 hbb ob oa2 oo of2 HPX G1 P1 p0 p1 p2 p3 p4 pz k0 k1 k2 k3 k4 kz
      go_upto_region 11 with fail
      generalize w2.alloc (.cells #[.bool mc, .int .i64 mn, .slice b2 mb.length bk2, .slice a2 ma.length ak2, .slice o2 mo.length ok2] 37) = W3 at *
      generalize w2.heap.size = KM at *
      by_cases her : er = 0
      · subst her
        obtain ⟨hGS, hacc, hs, hpr, hn, hG40⟩ := HGP.out rfl
        have HGS := hideIt hGS
        have HBF := hideIt HS.out.bd
        clear hGS HGP HS
        obtain ⟨⟨m0, m1, m2, m3, m4⟩, -, mz⟩ := five5_at M3.out
        obtain ⟨⟨k0, k1, k2, k3, k4⟩, kf, kz⟩ := five5_at G3.out.bx
        have nKM : KL ≠ KM := by omega
        have nMK : KM ≠ KL := by omega
        have G4 := hideIt (G3.out.put ⟨mc, mn, mb, ma, mo⟩ OB3.out OA3.out OO3.out)
        have nPL : KP ≠ KL := ty_neK P3.out G3.out.bx (by decide)
        have nPA : KP ≠ KA := ty_neK P3.out G3.out.ar (by decide)
        have P4 := hideIt (setOther (j := 4) (.slice o2 mo.length ok2) (setOther (j := 3) (.slice a2 ma.length ak2) (setOther (j := 2) (.slice b2 mb.length bk2) (setOther (j := 1) (.int .i64 mn) (setOther (j := 0) (.bool mc) P3.out nPL) nPL) nPL) nPL) nPL)
        have F4 := hideIt (own_five OF3.out G3.out.bx (by decide) (.bool mc) (.int .i64 mn) (.slice b2 mb.length bk2) (.slice a2 ma.length ak2) (.slice o2 mo.length ok2))
        clear G3 P3 OB3 OA3 OO3 OF3 M3
        dsimp only at G4
        go_upto_region 13 with fail
        clear m0 m1 m2 m3 m4 mz k0 k1 k2 k3 k4 kf kz nKM nMK
        generalize (World.setCell _ ⟨KL, 4, none⟩ _) = W4 at *
        obtain ⟨a5, c5, W5, hrun, hG5, hbox⟩ := G4.out.app G _ (own_sgot F4.out (by omega)) (by omega)
        have HRUN := hideIt hrun
        have G5 := hideIt hG5
        have P5 := hideIt (hbox _ _ _ (by decide) P4.out)
        have A5 := hideIt (hG5.ar)
        clear hrun hG5 hbox G4 P4 F4
        go_upto_region 14 with (at_builtin; refine Lib.wpList_append_run _ rfl _ _ _ _ rfl _ _ rfl rfl _ _ HRUN.out ?_)
        clear HRUN
        obtain ⟨⟨p0, p1, p2, p3, p4⟩, pf, pz⟩ := five5_at P5.out
        obtain ⟨ac2, hac2⟩ : ∃ ac2 : Nat, yacc = (ac2 : Int) := ⟨yacc.toNat, by omega⟩
        subst hac2
        have hj0 : ac2 * 2 < 18 := by omega
        have hj1 : ac2 * 2 + 1 < 18 := by omega
        have r0 : W5.cell? ⟨KA, ac2 * 2, none⟩ = some (.int .i64 (f (ac2 * 2))) := by rw [cell_at A5.out, arr_at f _ hj0]
        have r1 : W5.cell? ⟨KA, ac2 * 2 + 1, none⟩ = some (.int .i64 (f (ac2 * 2 + 1))) := by rw [cell_at A5.out, arr_at f _ hj1]
        have rf := fun j => free_at A5.out j
        have rz : KA < W5.heap.size := (Array.getElem?_eq_some_iff.1 A5.out).1
        have ha9 : (ac2 : Int) < 9 := by omega
        have ha0 : (0 : Int) ≤ (ac2 : Int) := by omega
        have hmul := mul_bd2 hpr hn
        have bd0 := HBF.out (ac2 * 2)
        have bd1 := HBF.out (ac2 * 2 + 1)
        have hi30 : (i : Int) ≤ 30 := by omega
        clear HBF A5
        rcases hs with rfl | rfl
        · have hw1 : IntKind.i64.wrap (yp * yn) = yp * yn := by rw [IntKind.wrap_i64]; omega
          have hw2 : IntKind.i64.wrap (f (ac2 * 2) + yp * yn) = f (ac2 * 2) + yp * yn := by rw [IntKind.wrap_i64]; omega
          have G6 : Hid (GW w KL KA ⟨mc, mn, mb, ma, mo⟩ (.slice b2 mb.length bk2) (.slice a2 ma.length ak2) (.slice o2 mo.length ok2) (F ++ G) (.slice a5 (F ++ G).length c5) (layF f (ac2 : Int) 1 yp yn) (W5.drew.setCell ⟨KA, ac2 * 2, none⟩ (.int .i64 (f (ac2 * 2) + yp * yn)))) := by
            have := (G5.out.keep (Below.refl _ W5).drew).lay (ac2 * 2) (f (ac2 * 2) + yp * yn)
            show GW _ _ _ _ _ _ _ _ _ _ _
            rw [lay_one]
            exact this
          clear G5 hmul bd0 bd1 r1 hj1
          go_upto_region 15 with fail
          go_region
          all_goals go_wp2
          all_goals go_roundw
          all_goals first | exact ⟨i + 1, ⟨mc, mn, mb, ma, mo⟩, F ++ G, _, b2, bk2, a2, ak2, o2, ok2, a5, c5, by rw [List.length_append], by go_num, by omega, HGS, G6⟩ | (simp [intOf]; omega)
        · have hw2 : IntKind.i64.wrap (f (ac2 * 2 + 1) + yn) = f (ac2 * 2 + 1) + yn := by rw [IntKind.wrap_i64]; omega
          have G6 : Hid (GW w KL KA ⟨mc, mn, mb, ma, mo⟩ (.slice b2 mb.length bk2) (.slice a2 ma.length ak2) (.slice o2 mo.length ok2) (F ++ G) (.slice a5 (F ++ G).length c5) (layF f (ac2 : Int) 2 yp yn) (W5.drew.setCell ⟨KA, ac2 * 2 + 1, none⟩ (.int .i64 (f (ac2 * 2 + 1) + yn)))) := by
            have := (G5.out.keep (Below.refl _ W5).drew).lay (ac2 * 2 + 1) (f (ac2 * 2 + 1) + yn)
            show GW _ _ _ _ _ _ _ _ _ _ _
            rw [lay_two]
            exact this
          clear G5 hmul bd0 bd1 r0 hj0
          go_upto_region 16 with fail
          go_region
          all_goals go_wp2
          all_goals go_roundw
          all_goals first | exact ⟨i + 1, ⟨mc, mn, mb, ma, mo⟩, F ++ G, _, b2, bk2, a2, ak2, o2, ok2, a5, c5, by rw [List.length_append], by go_num, by omega, HGS, G6⟩ | (simp [intOf]; omega)
      · have HS2 := hideIt HS.out.skip
        have her2 : (er == 0) = false := by simpa using her
        clear HGP HS M3 P3 OB3 OA3 OO3 OF3
        go_wp2
        go_roundw
        case rel => exact ⟨i + 1, _, F, f, ba, bc, aa, ac, oa, oc, ua, uc, rfl, by go_num, by omega, HS2, G3⟩
        case measure => simp [intOf]; omega
    · have hltI : ¬ (i : Int) < (l.length : Int) := by omega
      have hi30 : i ≤ 30 := by omega
      clear HH HPL
      have hlen0 := HS.out.len
      have hF := HS.out.fl
      go_upto_region 18 with fail
      generalize i = I at *
      clear hlt hltI hi
      go_loopw [12] (fun x wr => ∃ k : Nat, ∃ cl nx bids asks owed, ∃ ba bc aa ac oa oc, x = .int .i64 k ∧ k + (bids.length + asks.length) ≤ 30 ∧ Hid (GS I ⟨cl, nx, bids, asks, owed⟩ F f) ∧ Hid (GW w KL KA ⟨cl, nx, bids, asks, owed⟩ (.slice ba bids.length bc) (.slice aa asks.length ac) (.slice oa owed.length oc) F (.slice ua F.length uc) f wr)) (fun x _ => 100 - (intOf x).toNat)
      case atStart => exact ⟨0, L.call, L.next, L.bids, L.asks, L.owed, ba, bc, aa, ac, oa, oc, rfl, by omega, HS, HG⟩
      case round =>
        clear HS HG hlen0
        obtain ⟨k, cl, nx, bids, asks, owed, xa, xc, ya, yc, za, zc, rfl, hk, HS, HG⟩ := hrel
        have hk80 : (k : Int) < 80 := by omega
        have hwk : IntKind.i64.wrap ((k : Int) + 1) = ((k + 1 : Nat) : Int) := by rw [IntKind.wrap_i64]; omega
        have hsum : IntKind.i64.wrap ((bids.length : Int) + (asks.length : Int)) = (bids.length : Int) + (asks.length : Int) := by rw [IntKind.wrap_i64]; omega
        obtain ⟨⟨k0, k1, k2, k3, k4⟩, kf, kz⟩ := five5_at HG.out.bx
        cases bids with
        | cons o rest =>
          obtain ⟨hcr, hgs⟩ := HS.out.canB hi30
          have HCX := hideIt (fun W (hW : Below wr.heap.size wr W) => HCN.out _ _ _ _ o.acc o.id W ((HG.out.lan HS.out.chk).keep hW))
          rw [hcr] at HCX
          unfold CnBack at HCX
          have HGS := hideIt hgs
          have hob := HG.out.ob
          obtain ⟨g, gc, e, hgl, hcc⟩ := own_cells3 hob (by simp)
          simp only [Value.slice.injEq] at e
          obtain ⟨rfl, -, rfl⟩ := e
          have o0 := hcc 0 (.int .i64 o.id) rfl
          have o1 := hcc 1 (.int .i64 o.acc) rfl
          clear hob hcc hcr hgs HS HCN
          unfold laneV laneA at HCX
          dsimp only at HCX
          generalize oweL o.acc 0 (o.price * o.left) owed = OW at *
          have hnp : (0 : Int) < (((o :: rest).length : Nat) : Int) := by simp
          have hnr : (o :: rest).length = rest.length + 1 := rfl
          generalize hnb : (o :: rest).length = nb at *
          clear hnb
          have hgt : (0 : Int) < (nb : Int) + (asks.length : Int) := by omega
          have hnbI : (0 : Int) < (nb : Int) := by omega
          have HNR := hideIt hnr
          have hnN : 0 < nb := by omega
          have hnq : ((nb : Int) == 0) = false := by simp; omega
          clear hnr hnp
          have HFA : Hid (∀ w', Below wr.heap.size wr w' → (w'.cell? ⟨KL, 0, none⟩ = some (.bool cl) ∧ w'.cell? ⟨KL, 1, none⟩ = some (.int .i64 nx) ∧ w'.cell? ⟨KL, 2, none⟩ = some (.slice (some ⟨g, 0, none⟩) nb xc) ∧ w'.cell? ⟨KL, 3, none⟩ = some (.slice ya asks.length yc) ∧ w'.cell? ⟨KL, 4, none⟩ = some (.slice za owed.length zc) ∧ w'.cell? ⟨g, 0, none⟩ = some (.int .i64 o.id) ∧ w'.cell? ⟨g, 1, none⟩ = some (.int .i64 o.acc)) ∧ KL < w'.heap.size ∧ g < w'.heap.size) := by
            intro w' hB
            obtain ⟨⟨d0, d1, d2, d3, d4⟩, -, dz⟩ := five5_at (blkK HG.out.bx hB)
            exact ⟨⟨d0, d1, d2, d3, d4, (hB.cell (p := ⟨g, 0, none⟩) hgl).trans o0, (hB.cell (p := ⟨g, 1, none⟩) hgl).trans o1⟩, dz, Nat.lt_of_lt_of_le hgl hB.size⟩
          have HCY : Hid (∀ W, Below wr.heap.size wr W → Calls Try.prog 22 #[.agg #[.bool cl, .int .i64 nx, .slice (some ⟨g, 0, none⟩) nb xc, .slice ya asks.length yc, .slice za owed.length zc], .int .i64 o.acc, .int .i64 o.id] W fun e w' => ∃ b2 bk2 a2 ak2 o2 ok2, e = .returned (.tuple #[.agg #[.bool cl, .int .i64 nx, .slice b2 rest.length bk2, .slice a2 asks.length ak2, .slice o2 OW.length ok2], .int .i64 o.left, .int .i64 0]) ∧ Hid ((w'.ownsRow wr.heap.size 47 4 (.slice b2 rest.length bk2) rest.length (celC ordE rest) ∧ w'.ownsRow wr.heap.size 47 4 (.slice a2 asks.length ak2) asks.length (celC ordE asks) ∧ w'.ownsRow wr.heap.size 45 3 (.slice o2 OW.length ok2) OW.length (celC oweE OW)) ∧ Below wr.heap.size wr w' ∧ Below W.heap.size W w') ∧ (w'.cell? ⟨KL, 0, none⟩ = some (.bool cl) ∧ w'.cell? ⟨KL, 1, none⟩ = some (.int .i64 nx) ∧ w'.cell? ⟨KL, 2, none⟩ = some (.slice (some ⟨g, 0, none⟩) nb xc) ∧ w'.cell? ⟨KL, 3, none⟩ = some (.slice ya asks.length yc) ∧ w'.cell? ⟨KL, 4, none⟩ = some (.slice za owed.length zc) ∧ w'.cell? ⟨g, 0, none⟩ = some (.int .i64 o.id) ∧ w'.cell? ⟨g, 1, none⟩ = some (.int .i64 o.acc)) ∧ KL < w'.heap.size ∧ g < w'.heap.size) := by
            intro W hW
            refine (HCX.out W hW).mono ?_
            rintro e w' ⟨b2, a2, o2, rfl, hb2, ha2, ho2, hb⟩
            obtain ⟨b2, bk2, rfl⟩ := own_len hb2
            obtain ⟨a2, ak2, rfl⟩ := own_len ha2
            obtain ⟨o2, ok2, rfl⟩ := own_len ho2
            have hB := below_via hW hb
            exact ⟨b2, bk2, a2, ak2, o2, ok2, rfl, ⟨⟨own_base hb2 hW.size, own_base ha2 hW.size, own_base ho2 hW.size⟩, hB, hb⟩, HFA.out w' hB⟩
          have NA : ∀ x, (wr.alloc x).cell? ⟨KL, 0, none⟩ = some (.bool cl) ∧ (wr.alloc x).cell? ⟨KL, 1, none⟩ = some (.int .i64 nx) ∧ (wr.alloc x).cell? ⟨KL, 2, none⟩ = some (.slice (some ⟨g, 0, none⟩) nb xc) ∧ (wr.alloc x).cell? ⟨KL, 3, none⟩ = some (.slice ya asks.length yc) ∧ (wr.alloc x).cell? ⟨KL, 4, none⟩ = some (.slice za owed.length zc) ∧ (wr.alloc x).cell? ⟨g, 0, none⟩ = some (.int .i64 o.id) ∧ (wr.alloc x).cell? ⟨g, 1, none⟩ = some (.int .i64 o.acc) := fun x => (HFA.out _ (below1 wr x)).1
          have ZF : Hid (∀ w', Below (wr.alloc (.cells #[.bool false, .int .i64 0, .slice none 0 0, .slice none 0 0, .slice none 0 0] 37)).heap.size (wr.alloc (.cells #[.bool false, .int .i64 0, .slice none 0 0, .slice none 0 0, .slice none 0 0] 37)) w' → (w'.cell? ⟨wr.heap.size, 0, none⟩ = some (.bool false) ∧ w'.cell? ⟨wr.heap.size, 1, none⟩ = some (.int .i64 0) ∧ w'.cell? ⟨wr.heap.size, 2, none⟩ = some (.slice none 0 0) ∧ w'.cell? ⟨wr.heap.size, 3, none⟩ = some (.slice none 0 0) ∧ w'.cell? ⟨wr.heap.size, 4, none⟩ = some (.slice none 0 0)) ∧ (∀ j, w'.frozen? ⟨wr.heap.size, j, none⟩ = false) ∧ wr.heap.size < w'.heap.size) := by
            intro w' hb
            exact five5_at ((hb.block wr.heap.size (by simp)).trans (heap_alloc_new wr _))
          have y1 : wr.heap.size ≠ KL := by omega
          have y2 : wr.heap.size ≠ g := by omega
          have y3 : KL ≠ wr.heap.size := by omega
          have y4 : g ≠ wr.heap.size := by omega
          clear HCX
          go_upto_region 23 with fail
          go_cut [14, 15, 16] from 117 to 130 (fun x y z wx => ∃ km b2 bk2 a2 ak2 o2 ok2, x = .pointer (some ⟨km, 0, none⟩) ∧ y = .int .i64 o.left ∧ z = .int .i64 0 ∧ Hid (wx.heap[km]? = some (.cells #[.bool cl, .int .i64 nx, .slice b2 rest.length bk2, .slice a2 asks.length ak2, .slice o2 OW.length ok2] 37 (0, 0)) ∧ (wx.ownsRow wr.heap.size 47 4 (.slice b2 rest.length bk2) rest.length (celC ordE rest) ∧ wx.ownsRow wr.heap.size 47 4 (.slice a2 asks.length ak2) asks.length (celC ordE asks) ∧ wx.ownsRow wr.heap.size 45 3 (.slice o2 OW.length ok2) OW.length (celC oweE OW)) ∧ Below wr.heap.size wr wx ∧ wr.heap.size ≤ km))
          case first =>
            clear HFA HG HGS
            go_region_held3 (fun W => W.cell? ⟨KL, 0, none⟩ = some (.bool cl) ∧ W.cell? ⟨KL, 1, none⟩ = some (.int .i64 nx) ∧ W.cell? ⟨KL, 2, none⟩ = some (.slice (some ⟨g, 0, none⟩) nb xc) ∧ W.cell? ⟨KL, 3, none⟩ = some (.slice ya asks.length yc) ∧ W.cell? ⟨KL, 4, none⟩ = some (.slice za owed.length zc) ∧ W.cell? ⟨g, 0, none⟩ = some (.int .i64 o.id) ∧ W.cell? ⟨g, 1, none⟩ = some (.int .i64 o.acc)) (go_keep) (first | (go_at_call 22; refine (HCY.out (wr.alloc (.cells #[.bool false, .int .i64 0, .slice none 0 0, .slice none 0 0, .slice none 0 0] 37)).drew (below1 _ _).drew).mono ?_; rintro e w3 ⟨b2, bk2, a2, ak2, o2, ok2, rfl, HQ, ⟨i0, i1, i2, i3, i4, i5, i6⟩, iz, jz⟩; obtain ⟨⟨n0, n1, n2, n3, n4⟩, nf, nz⟩ := ZF.out w3 (below_via (Below.refl _ _).drew HQ.out.2.2)) | (go_at_call 22; refine (HCY.out wr.drew (Below.refl _ _).drew).mono ?_; rintro e w3 ⟨b2, bk2, a2, ak2, o2, ok2, rfl, HQ, ⟨i0, i1, i2, i3, i4, i5, i6⟩, iz, jz⟩))
            all_goals go_wp2_with fail
            all_goals go_meet
            · exact ⟨w3.heap.size, b2, bk2, a2, ak2, o2, ok2, rfl, rfl, rfl, hideIt ⟨heap_alloc_new w3 _, ⟨own_keep HQ.out.1.1 (below1 w3 _), own_keep HQ.out.1.2.1 (below1 w3 _), own_keep HQ.out.1.2.2 (below1 w3 _)⟩, below_via HQ.out.2.1 (below1 w3 _), HQ.out.2.1.size⟩⟩
            · have hz := (HQ.out.2.2.block wr.heap.size (show wr.heap.size < (wr.alloc (.cells #[.bool false, .int .i64 0, .slice none 0 0, .slice none 0 0, .slice none 0 0] 37)).heap.size by simp)).trans (heap_alloc_new wr _)
              exact ⟨wr.heap.size, b2, bk2, a2, ak2, o2, ok2, rfl, rfl, rfl, hideIt ⟨put5 w3 wr.heap.size 37 _ _ _ _ _ hz, ⟨own_five HQ.out.1.1 hz (by decide) _ _ _ _ _, own_five HQ.out.1.2.1 hz (by decide) _ _ _ _ _, own_five HQ.out.1.2.2 hz (by decide) _ _ _ _ _⟩, belowSet _ (belowSet _ (belowSet _ (belowSet _ (belowSet _ HQ.out.2.1 (Nat.le_refl _)) (Nat.le_refl _)) (Nat.le_refl _)) (Nat.le_refl _)) (Nat.le_refl _), Nat.le_refl _⟩⟩
          case rest =>
          obtain ⟨km, b2, bk2, a2, ak2, o2, ok2, rfl, rfl, rfl, HM⟩ := hcut
          have hws := HG.out.bel.size
          have G5 := hideIt (HG.out.keep HM.out.2.2.1)
          obtain ⟨⟨m0, m1, m2, m3, m4⟩, -, mz⟩ := five5_at HM.out.1
          obtain ⟨⟨d0, d1, d2, d3, d4⟩, df, dz⟩ := five5_at G5.out.bx
          have nKM : KL ≠ km := by have := HM.out.2.2.2; omega
          have nMK : km ≠ KL := nKM.symm
          have G6 := hideIt (G5.out.put ⟨cl, nx, rest, asks, OW⟩ (own_base HM.out.2.1.1 hws) (own_base HM.out.2.1.2.1 hws) (own_base HM.out.2.1.2.2 hws))
          dsimp only at G6
          clear HFA HCY NA ZF HG G5 HM y1 y2 y3 y4 o0 o1 hgl k0 k1 k2 k3 k4 kf kz
          go_wp2
          revert G6
          generalize (World.setCell _ ⟨KL, 4, none⟩ _) = WF
          intro G6
          go_roundw
          case rel => exact ⟨k + 1, cl, nx, rest, asks, OW, b2, bk2, a2, ak2, o2, ok2, by go_num, by have := HNR.out; (try simp only [List.length_nil] at *); omega, HGS, G6⟩
          case measure => simp [intOf]; omega
        | nil =>
          cases asks with
          | cons o rest =>
            obtain ⟨hcr, hgs⟩ := HS.out.canA hi30
            have HCX := hideIt (fun W (hW : Below wr.heap.size wr W) => HCN.out _ _ _ _ o.acc o.id W ((HG.out.lan HS.out.chk).keep hW))
            rw [hcr] at HCX
            unfold CnBack at HCX
            have HGS := hideIt hgs
            have hob := HG.out.oa
            obtain ⟨g, gc, e, hgl, hcc⟩ := own_cells3 hob (by simp)
            simp only [Value.slice.injEq] at e
            obtain ⟨rfl, -, rfl⟩ := e
            have o0 := hcc 0 (.int .i64 o.id) rfl
            have o1 := hcc 1 (.int .i64 o.acc) rfl
            clear hob hcc hcr hgs HS HCN
            unfold laneV laneA at HCX
            simp only [List.length_nil] at HCX HG k2 hsum hk
            generalize oweL o.acc 1 o.left owed = OW at *
            have hnr : (o :: rest).length = rest.length + 1 := rfl
            generalize hnb : (o :: rest).length = nb at *
            clear hnb
            have HE : Hid (([] : List OrdV) = []) := rfl
            obtain ⟨eb, heb⟩ : ∃ eb : List OrdV, eb = [] := ⟨_, rfl⟩
            have hgt : (0 : Int) < (0 : Int) + (nb : Int) := by omega
            have hgt2 : (0 : Int) < (nb : Int) := by omega
            have HNR := hideIt hnr
            have hnN : 0 < nb := by omega
            have hnq : ((nb : Int) == 0) = false := by simp; omega
            clear hnr HE heb eb
            have HFA : Hid (∀ w', Below wr.heap.size wr w' → (w'.cell? ⟨KL, 0, none⟩ = some (.bool cl) ∧ w'.cell? ⟨KL, 1, none⟩ = some (.int .i64 nx) ∧ w'.cell? ⟨KL, 2, none⟩ = some (.slice xa 0 xc) ∧ w'.cell? ⟨KL, 3, none⟩ = some (.slice (some ⟨g, 0, none⟩) nb yc) ∧ w'.cell? ⟨KL, 4, none⟩ = some (.slice za owed.length zc) ∧ w'.cell? ⟨g, 0, none⟩ = some (.int .i64 o.id) ∧ w'.cell? ⟨g, 1, none⟩ = some (.int .i64 o.acc)) ∧ KL < w'.heap.size ∧ g < w'.heap.size) := by
              intro w' hB
              obtain ⟨⟨d0, d1, d2, d3, d4⟩, -, dz⟩ := five5_at (blkK HG.out.bx hB)
              exact ⟨⟨d0, d1, d2, d3, d4, (hB.cell (p := ⟨g, 0, none⟩) hgl).trans o0, (hB.cell (p := ⟨g, 1, none⟩) hgl).trans o1⟩, dz, Nat.lt_of_lt_of_le hgl hB.size⟩
            have HCY : Hid (∀ W, Below wr.heap.size wr W → Calls Try.prog 22 #[.agg #[.bool cl, .int .i64 nx, .slice xa 0 xc, .slice (some ⟨g, 0, none⟩) nb yc, .slice za owed.length zc], .int .i64 o.acc, .int .i64 o.id] W fun e w' => ∃ b2 bk2 a2 ak2 o2 ok2, e = .returned (.tuple #[.agg #[.bool cl, .int .i64 nx, .slice b2 ([] : List OrdV).length bk2, .slice a2 rest.length ak2, .slice o2 OW.length ok2], .int .i64 o.left, .int .i64 0]) ∧ Hid ((w'.ownsRow wr.heap.size 47 4 (.slice b2 ([] : List OrdV).length bk2) ([] : List OrdV).length (celC ordE ([] : List OrdV)) ∧ w'.ownsRow wr.heap.size 47 4 (.slice a2 rest.length ak2) rest.length (celC ordE rest) ∧ w'.ownsRow wr.heap.size 45 3 (.slice o2 OW.length ok2) OW.length (celC oweE OW)) ∧ Below wr.heap.size wr w' ∧ Below W.heap.size W w') ∧ (w'.cell? ⟨KL, 0, none⟩ = some (.bool cl) ∧ w'.cell? ⟨KL, 1, none⟩ = some (.int .i64 nx) ∧ w'.cell? ⟨KL, 2, none⟩ = some (.slice xa 0 xc) ∧ w'.cell? ⟨KL, 3, none⟩ = some (.slice (some ⟨g, 0, none⟩) nb yc) ∧ w'.cell? ⟨KL, 4, none⟩ = some (.slice za owed.length zc) ∧ w'.cell? ⟨g, 0, none⟩ = some (.int .i64 o.id) ∧ w'.cell? ⟨g, 1, none⟩ = some (.int .i64 o.acc)) ∧ KL < w'.heap.size ∧ g < w'.heap.size) := by
              intro W hW
              refine (HCX.out W hW).mono ?_
              rintro e w' ⟨b2, a2, o2, rfl, hb2, ha2, ho2, hb⟩
              obtain ⟨b2, bk2, rfl⟩ := own_len hb2
              obtain ⟨a2, ak2, rfl⟩ := own_len ha2
              obtain ⟨o2, ok2, rfl⟩ := own_len ho2
              have hB := below_via hW hb
              exact ⟨b2, bk2, a2, ak2, o2, ok2, rfl, ⟨⟨own_base hb2 hW.size, own_base ha2 hW.size, own_base ho2 hW.size⟩, hB, hb⟩, HFA.out w' hB⟩
            have NA : ∀ x, (wr.alloc x).cell? ⟨KL, 0, none⟩ = some (.bool cl) ∧ (wr.alloc x).cell? ⟨KL, 1, none⟩ = some (.int .i64 nx) ∧ (wr.alloc x).cell? ⟨KL, 2, none⟩ = some (.slice xa 0 xc) ∧ (wr.alloc x).cell? ⟨KL, 3, none⟩ = some (.slice (some ⟨g, 0, none⟩) nb yc) ∧ (wr.alloc x).cell? ⟨KL, 4, none⟩ = some (.slice za owed.length zc) ∧ (wr.alloc x).cell? ⟨g, 0, none⟩ = some (.int .i64 o.id) ∧ (wr.alloc x).cell? ⟨g, 1, none⟩ = some (.int .i64 o.acc) := fun x => (HFA.out _ (below1 wr x)).1
            have ZF : Hid (∀ w', Below (wr.alloc (.cells #[.bool false, .int .i64 0, .slice none 0 0, .slice none 0 0, .slice none 0 0] 37)).heap.size (wr.alloc (.cells #[.bool false, .int .i64 0, .slice none 0 0, .slice none 0 0, .slice none 0 0] 37)) w' → (w'.cell? ⟨wr.heap.size, 0, none⟩ = some (.bool false) ∧ w'.cell? ⟨wr.heap.size, 1, none⟩ = some (.int .i64 0) ∧ w'.cell? ⟨wr.heap.size, 2, none⟩ = some (.slice none 0 0) ∧ w'.cell? ⟨wr.heap.size, 3, none⟩ = some (.slice none 0 0) ∧ w'.cell? ⟨wr.heap.size, 4, none⟩ = some (.slice none 0 0)) ∧ (∀ j, w'.frozen? ⟨wr.heap.size, j, none⟩ = false) ∧ wr.heap.size < w'.heap.size) := by
              intro w' hb
              exact five5_at ((hb.block wr.heap.size (by simp)).trans (heap_alloc_new wr _))
            have y1 : wr.heap.size ≠ KL := by omega
            have y2 : wr.heap.size ≠ g := by omega
            have y3 : KL ≠ wr.heap.size := by omega
            have y4 : g ≠ wr.heap.size := by omega
            clear HCX
            go_upto_region 23 with fail
            go_cut [14, 15, 16] from 117 to 130 (fun x y z wx => ∃ km b2 bk2 a2 ak2 o2 ok2, x = .pointer (some ⟨km, 0, none⟩) ∧ y = .int .i64 o.left ∧ z = .int .i64 0 ∧ Hid (wx.heap[km]? = some (.cells #[.bool cl, .int .i64 nx, .slice b2 ([] : List OrdV).length bk2, .slice a2 rest.length ak2, .slice o2 OW.length ok2] 37 (0, 0)) ∧ (wx.ownsRow wr.heap.size 47 4 (.slice b2 ([] : List OrdV).length bk2) ([] : List OrdV).length (celC ordE ([] : List OrdV)) ∧ wx.ownsRow wr.heap.size 47 4 (.slice a2 rest.length ak2) rest.length (celC ordE rest) ∧ wx.ownsRow wr.heap.size 45 3 (.slice o2 OW.length ok2) OW.length (celC oweE OW)) ∧ Below wr.heap.size wr wx ∧ wr.heap.size ≤ km))
            case first =>
              clear HFA HG HGS
              go_region_held3 (fun W => W.cell? ⟨KL, 0, none⟩ = some (.bool cl) ∧ W.cell? ⟨KL, 1, none⟩ = some (.int .i64 nx) ∧ W.cell? ⟨KL, 2, none⟩ = some (.slice xa 0 xc) ∧ W.cell? ⟨KL, 3, none⟩ = some (.slice (some ⟨g, 0, none⟩) nb yc) ∧ W.cell? ⟨KL, 4, none⟩ = some (.slice za owed.length zc) ∧ W.cell? ⟨g, 0, none⟩ = some (.int .i64 o.id) ∧ W.cell? ⟨g, 1, none⟩ = some (.int .i64 o.acc)) (go_keep) (first | (go_at_call 22; refine (HCY.out (wr.alloc (.cells #[.bool false, .int .i64 0, .slice none 0 0, .slice none 0 0, .slice none 0 0] 37)).drew (below1 _ _).drew).mono ?_; rintro e w3 ⟨b2, bk2, a2, ak2, o2, ok2, rfl, HQ, ⟨i0, i1, i2, i3, i4, i5, i6⟩, iz, jz⟩; obtain ⟨⟨n0, n1, n2, n3, n4⟩, nf, nz⟩ := ZF.out w3 (below_via (Below.refl _ _).drew HQ.out.2.2)) | (go_at_call 22; refine (HCY.out wr.drew (Below.refl _ _).drew).mono ?_; rintro e w3 ⟨b2, bk2, a2, ak2, o2, ok2, rfl, HQ, ⟨i0, i1, i2, i3, i4, i5, i6⟩, iz, jz⟩))
              all_goals go_wp2_with fail
              all_goals go_meet
              · exact ⟨w3.heap.size, b2, bk2, a2, ak2, o2, ok2, rfl, rfl, rfl, hideIt ⟨heap_alloc_new w3 _, ⟨own_keep HQ.out.1.1 (below1 w3 _), own_keep HQ.out.1.2.1 (below1 w3 _), own_keep HQ.out.1.2.2 (below1 w3 _)⟩, below_via HQ.out.2.1 (below1 w3 _), HQ.out.2.1.size⟩⟩
              · have hz := (HQ.out.2.2.block wr.heap.size (show wr.heap.size < (wr.alloc (.cells #[.bool false, .int .i64 0, .slice none 0 0, .slice none 0 0, .slice none 0 0] 37)).heap.size by simp)).trans (heap_alloc_new wr _)
                exact ⟨wr.heap.size, b2, bk2, a2, ak2, o2, ok2, rfl, rfl, rfl, hideIt ⟨put5 w3 wr.heap.size 37 _ _ _ _ _ hz, ⟨own_five HQ.out.1.1 hz (by decide) _ _ _ _ _, own_five HQ.out.1.2.1 hz (by decide) _ _ _ _ _, own_five HQ.out.1.2.2 hz (by decide) _ _ _ _ _⟩, belowSet _ (belowSet _ (belowSet _ (belowSet _ (belowSet _ HQ.out.2.1 (Nat.le_refl _)) (Nat.le_refl _)) (Nat.le_refl _)) (Nat.le_refl _)) (Nat.le_refl _), Nat.le_refl _⟩⟩
            case rest =>
            obtain ⟨km, b2, bk2, a2, ak2, o2, ok2, rfl, rfl, rfl, HM⟩ := hcut
            have hws := HG.out.bel.size
            have G5 := hideIt (HG.out.keep HM.out.2.2.1)
            obtain ⟨⟨m0, m1, m2, m3, m4⟩, -, mz⟩ := five5_at HM.out.1
            obtain ⟨⟨d0, d1, d2, d3, d4⟩, df, dz⟩ := five5_at G5.out.bx
            have nKM : KL ≠ km := by have := HM.out.2.2.2; omega
            have nMK : km ≠ KL := nKM.symm
            have G6 := hideIt (G5.out.put ⟨cl, nx, ([] : List OrdV), rest, OW⟩ (own_base HM.out.2.1.1 hws) (own_base HM.out.2.1.2.1 hws) (own_base HM.out.2.1.2.2 hws))
            dsimp only at G6
            clear HFA HCY NA ZF HG G5 HM y1 y2 y3 y4 o0 o1 hgl k0 k1 k2 k3 k4 kf kz
            go_wp2
            revert G6
            generalize (World.setCell _ ⟨KL, 4, none⟩ _) = WF
            intro G6
            go_roundw
            case rel => exact ⟨k + 1, cl, nx, ([] : List OrdV), rest, OW, b2, bk2, a2, ak2, o2, ok2, by go_num, by have := HNR.out; (try simp only [List.length_nil] at *); omega, HGS, G6⟩
            case measure => simp [intOf]; omega
          | nil =>
            clear HCN
            simp only [List.length_nil] at HG k2 k3 hsum hk
            have hng : ¬ (0 : Int) < (0 : Int) + (0 : Int) := by omega
            have HFIN := hideIt (fun x hx => HS.out.fin x hx)
            have HBF := hideIt HS.out.bd
            have HLN := hideIt (HG.out.lan HS.out.chk)
            have hF3 : F.length * 32 ≤ 140737488355328 := by omega
            have HNF := hideIt (HNT.out _ F wr (own_sgot HG.out.ou hF3))
            by_cases hF1 : F.length ≤ 1000
            · rw [HS.out.net hF1] at HNF
              have HSM := hideIt (small_fold F 0 (fun _ => none) ⟨fun x p h => by cases h⟩ HS.out.fine)
              have HOP := hideIt (fun x (hx : 1 ≤ x ∧ x ≤ 8) => of_pos (netS F) (x := x) hx)
              have hPl := posT_len (netS F) 8
              unfold NetB at HNF
              generalize hPP : posT (netS F) 8 = P at *
              clear hPP
              dsimp only at HNF
              clear HS HNT hsum
              go_upto_region 27 with fail
              clear k0 k1 k2 k3 k4 kf kz
              go_wp2_with fail
              refine HNF.out.mono ?_
              rintro e w7 ⟨na, nc, rfl, ho, hb⟩
              dsimp only
              have P7 : Hid (Poss w7 (.slice na P.length nc) P) := own_sgot ho (by omega)
              have G7 := hideIt (HG.out.keep hb)
              have L7 := hideIt (HLN.out.keep hb)
              clear ho hb HNF HG HLN
              go_upto_region 31 with fail
              go_loopw [19] (fun v wr => ∃ q : Nat, v = .int .i64 ((q : Int) + 1) ∧ q ≤ 8 ∧ Hid (Below w7.heap.size w7 wr)) (fun v _ => 10 - (intOf v).toNat)
              case atStart => exact ⟨0, rfl, Nat.zero_le _, hideIt (Below.refl _ _)⟩
              case round =>
                obtain ⟨q, rfl, hq, HR⟩ := hrel
                by_cases hlt : q < 8
                · have hle : (q : Int) + 1 ≤ 8 := by omega
                  have hwq : IntKind.i64.wrap ((q : Int) + 1 + 1) = ((q + 1 : Nat) : Int) + 1 := by rw [IntKind.wrap_i64]; omega
                  have hx : 1 ≤ (q : Int) + 1 ∧ (q : Int) + 1 ≤ 8 := by omega
                  have ef := HFIN.out ((q : Int) + 1) hx
                  have eo := HOP.out ((q : Int) + 1) hx
                  have es := g_small HSM.out ((q : Int) + 1)
                  have ej : ((q : Int) + 1).toNat = q + 1 := by omega
                  rw [ej] at ef
                  have b0 := HBF.out ((q + 1) * 2)
                  have b1 := HBF.out ((q + 1) * 2 + 1)
                  have HTX := hideIt (fun W (hW : Below w7.heap.size w7 W) => HTK.out _ _ _ _ ((q : Int) + 1) W (L7.out.keep hW))
                  rw [ef.1] at HTX
                  unfold TkB at HTX
                  unfold laneV laneA at HTX
                  dsimp only at HTX
                  have ef2 := ef.2
                  have hTl : (takA ((q : Int) + 1) owed).length ≤ owed.length := takA_len _ _
                  have hOl := L7.out.owed.1
                  dsimp only at hOl
                  generalize takA ((q : Int) + 1) owed = A at *
                  generalize lefA ((q : Int) + 1) owed = LF at *
                  go_wp2_with fail
                  refine (HOF.out _ P ((q : Int) + 1) wr (P7.out.keep HR.out)).mono ?_
                  rintro e w8 ⟨rfl, hb⟩
                  dsimp only
                  rw [eo.1, eo.2]
                  generalize (ofP P ((q : Int) + 1)).acc = xacc at *
                  have e1 : gM (List.foldl netS1 (fun _ => none) F) ((q : Int) + 1) = gM (netS F) ((q : Int) + 1) := rfl
                  have e2 : gG (List.foldl netS1 (fun _ => none) F) ((q : Int) + 1) = gG (netS F) ((q : Int) + 1) := rfl
                  rw [e1, e2] at es
                  clear e1 e2
                  generalize gM (netS F) ((q : Int) + 1) = xm at *
                  generalize gG (netS F) ((q : Int) + 1) = xg at *
                  have hb1 := below1 w8 (.cells #[.int .i64 xacc, .int .i64 xm, .int .i64 xg] 31)
                  have R8 := hideIt (below_via HR.out (below_via hb hb1))
                  have K8 := hideIt (heap_alloc_new w8 (.cells #[.int .i64 xacc, .int .i64 xm, .int .i64 xg] 31))
                  have EF2 := hideIt ef2
                  clear hb hb1 HR ef ef2 eo HTK HOF HFIN HOP HBF HSM
                  go_upto_region 34 with fail
                  generalize w8.alloc (.cells #[.int .i64 xacc, .int .i64 xm, .int .i64 xg] 31) = W8 at *
                  generalize w8.heap.size = k8 at *
                  obtain ⟨⟨l0, l1, l2, l3, l4⟩, -, lz⟩ := five5_at (blkK G7.out.bx R8.out)
                  go_wp2_with fail
                  refine (HTX.out _ R8.out).mono ?_
                  rintro e w9 ⟨tb, ta, tw, tu, rfl, hob, hoa, hoo, hou, hb⟩
                  dsimp only
                  try dsimp only at hob hoa hoo hou
                  obtain ⟨tb, tbc, rfl⟩ := own_len hob
                  obtain ⟨ta, tac, rfl⟩ := own_len hoa
                  obtain ⟨tw, twc, rfl⟩ := own_len hoo
                  obtain ⟨tu, tuc, rfl⟩ := own_len hou
                  simp only [List.length_nil]
                  have hb1 := below1 w9 (.cells #[.bool cl, .int .i64 nx, .slice tb 0 tbc, .slice ta 0 tac, .slice tw LF.length twc] 37)
                  have R9 := hideIt (below_via R8.out (below_via hb hb1))
                  have K9 := hideIt (blkK K8.out (below_via hb hb1))
                  have U9 : Hid (Ams (w9.alloc (.cells #[.bool cl, .int .i64 nx, .slice tb 0 tbc, .slice ta 0 tac, .slice tw LF.length twc] 37)) (.slice tu A.length tuc) A) := own_sgot (own_keep hou hb1) (by omega)
                  clear hb hb1 hob hoa hoo hou HTX R8 K8 l0 l1 l2 l3 l4 lz
                  go_upto_region 40 with fail
                  generalize w9.alloc (.cells #[.bool cl, .int .i64 nx, .slice tb 0 tbc, .slice ta 0 tac, .slice tw LF.length twc] 37) = W9 at *
                  obtain ⟨ma, mc, e, -, hr⟩ := U9.out.ams
                  simp only [Value.slice.injEq, true_and] at e
                  obtain ⟨rfl, rfl⟩ := e
                  have HH := hideIt hr
                  clear hr U9
                  go_loopw [24, 25, 26] (fun u v x wr => ∃ t : Nat, ∃ m g : Int, u = .int .i64 m ∧ v = .int .i64 g ∧ x = .int .i64 t ∧ t ≤ A.length ∧ wr = W9 ∧ Hid ((m, g) = lstA (A.take t))) (fun _ _ x _ => A.length - (intOf x).toNat)
                  case atStart => exact ⟨0, 0, 0, rfl, rfl, rfl, Nat.zero_le _, rfl, hideIt (by simp [lstA])⟩
                  case round =>
                    obtain ⟨t, m, g, rfl, rfl, rfl, ht, hwr, HM⟩ := hrel
                    subst hwr
                    by_cases htl : t < A.length
                    · have hltI : (t : Int) < (A.length : Int) := by omega
                      have ht0 : (0 : Int) ≤ (t : Int) := by omega
                      have hwt : IntKind.i64.wrap ((t : Int) + 1) = ((t + 1 : Nat) : Int) := by rw [IntKind.wrap_i64]; omega
                      obtain ⟨b, off, rfl, hbl, q0, q1⟩ := HH.out t htl
                      have hst := lst_take htl
                      rw [← HM.out] at hst
                      have HST := hideIt hst
                      clear hst HH HM
                      generalize A[t] = y at *
                      obtain ⟨yas, yn⟩ := y
                      dsimp only at q0 q1 HST
                      by_cases e : yas = 0
                      · rw [if_pos e] at HST
                        subst e
                        have HS2 : Hid ((yn, g) = lstA (A.take (t + 1))) := HST.out.symm
                        clear HST
                        go_wp2
                        go_roundw
                        case rel => exact ⟨t + 1, _, _, rfl, rfl, by go_num, by omega, by first | rfl | trivial, HS2⟩
                        case measure => simp [intOf]; omega
                      · rw [if_neg e] at HST
                        have HS2 : Hid ((m, yn) = lstA (A.take (t + 1))) := HST.out.symm
                        have hee : (yas == 0) = false := by simpa using e
                        clear HST
                        go_wp2
                        go_roundw
                        case rel => exact ⟨t + 1, _, _, rfl, rfl, by go_num, by omega, by first | rfl | trivial, HS2⟩
                        case measure => simp [intOf]; omega
                    · have hltI : ¬ (t : Int) < (A.length : Int) := by omega
                      have het : A.take t = A := List.take_of_length_le (by omega)
                      have hmm := HM.out
                      rw [het, EF2.out] at hmm
                      simp only [Prod.mk.injEq] at hmm
                      obtain ⟨hm1, hm2⟩ := hmm
                      have ar9 := blkK G7.out.ar R9.out
                      have r0 : wr.cell? ⟨KA, (q + 1) * 2, none⟩ = some (.int .i64 (f ((q + 1) * 2))) := by rw [cell_at ar9, arr_at f _ (by omega)]
                      have r1 : wr.cell? ⟨KA, (q + 1) * 2 + 1, none⟩ = some (.int .i64 (f ((q + 1) * 2 + 1))) := by rw [cell_at ar9, arr_at f _ (by omega)]
                      have rz : KA < wr.heap.size := (Array.getElem?_eq_some_iff.1 ar9).1
                      obtain ⟨⟨x0, x1, x2⟩, -, xz⟩ := three_at K9.out
                      have hwA : IntKind.i64.wrap (f ((q + 1) * 2) + xm) = m := by rw [← hm1, IntKind.wrap_i64]; omega
                      have hwB : IntKind.i64.wrap (f ((q + 1) * 2 + 1) + xg) = g := by rw [← hm2, IntKind.wrap_i64]; omega
                      have hq9 : (q : Int) + 1 < 9 := by omega
                      have hq0 : (0 : Int) ≤ (q : Int) + 1 := by omega
                      have hqt : ((q : Int) + 1).toNat = q + 1 := by omega
                      clear HM HH het hm1 hm2 ar9 es b0 b1 K9 EF2
                      go_upto_region 45 with fail
                      go_quiet (fail)
                      have R10 := hideIt (below_drewN R9.out nq)
                      clear R9 r0 r1 rz x0 x1 x2 xz
                      generalize wr.drewN nq = W10 at *
                      go_wp2
                      go_roundw
                      case rel => exact ⟨q + 1, by first | go_num | (simp; omega), by omega, R10⟩
                      case measure => simp [intOf]; omega
                · have hle : ¬ (q : Int) + 1 ≤ 8 := by omega
                  have B8 := hideIt (below_via G7.out.bel HR.out)
                  clear HR G7 L7 P7 HTK HOF HFIN HOP HBF HSM
                  go_wp2_with fail
                  refine (HLV.out _).mono ?_
                  rintro e w8 ⟨rfl, hb⟩
                  dsimp only
                  have B9 := hideIt (below_via B8.out hb)
                  clear hb B8
                  go_wp2
                  go_ret
                  exact ⟨rfl, B9.out⟩
            · rw [show netL F = ([], 150) by unfold netL; rw [if_pos (by simp; exact .inl (by omega))]] at HNF
              unfold NetB at HNF
              dsimp only at HNF
              clear HS HNT hsum HFIN HBF HLN HTK HOF
              have hF2 : (1000 : Int) < (F.length : Int) := by omega
              go_upto_region 27 with fail
              clear k0 k1 k2 k3 k4 kf kz
              go_wp2_with fail
              refine HNF.out.mono ?_
              rintro e w7 ⟨na, nc, rfl, ho, hb⟩
              dsimp only
              have B7 := hideIt (below_via HG.out.bel hb)
              clear ho hb HNF HG
              go_wp2_with fail
              refine (HLV.out _).mono ?_
              rintro e w8 ⟨rfl, hb⟩
              dsimp only
              have B9 := hideIt (below_via B7.out hb)
              clear hb B7
              go_wp2
              go_ret
              exact ⟨rfl, B9.out⟩
end Go.Proofs.Ytbpnnhalajbjnaa
