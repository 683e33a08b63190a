/- ShardmapNewer's body, walked. -/
import Derived.Test.YtfcbjdfelahfkaaAgW
namespace Go.Proofs.Ytfcbjdfelahfkaa
open Go.RowKit
set_option linter.all false
/-- What is known so far. -/
structure NS (w : World) (k n g ver : Int) (v : Value) (m : List PlaV) (W : World) : Prop where
  may : mayB m = true
  got : Plas W v m
  box : W.heap[w.heap.size]? = some (.cells #[.int .i64 k, .int .i64 n] 24 (0, 0))
  bel : Below w.heap.size w W
  old : ver ≤ (ownP m (k, n) g).2.2
theorem NS.keep {w W W' : World} {k n g ver : Int} {v : Value} {m : List PlaV} (h : NS w k n g ver v m W) (hb : Below W.heap.size W W') : NS w k n g ver v m W' :=
  ⟨h.may, h.got.keep hb, (hb.block _ (Array.getElem?_eq_some_iff.1 h.box).1).trans h.box, below_via h.bel hb, h.old⟩
theorem own_kn (m : List PlaV) (hm : mayB m = true) (k n g : Int) (hh : homE (k, n) g = 0) : owrP m (k, n) g = ownP m (k, n) g ∧ owrE m (k, n) g = 0 := by
  simp [owrP, owrE, hm, hh]
set_option maxHeartbeats 8000000 in
set_option maxRecDepth 100000 in
theorem newer_walk (v : Value) (l : List PlaV) (k n g : Int) (w : World) (h : Plas w v l) : Calls Try.prog 4 #[v, .agg #[.int .i64 k, .int .i64 n], .int .i64 g] w fun e w' => e = .returned (.bool true) ∧ Below w.heap.size w w' := by
  have HB0 := hideIt (below1 w (.cells #[.int .i64 k, .int .i64 n] 24))
  have HX0 := hideIt (heap_alloc_new w (.cells #[.int .i64 k, .int .i64 n] 24))
  have HL := hideIt (fun W => live_is W)
  have HLE := hideIt (fun v m x y z u W (hW : Plas W v m) => learn_is v m x y z u W hW)
  have HOW := hideIt (fun v m W (hW : Plas W v m) => owner_is v m k n g W hW)
  obtain ⟨a, c, rfl, h8, hr⟩ := h.plas
  have HH := hideIt hr
  clear hr h
  have hE : homE (k, n) g = 0 ∨ homE (k, n) g = 1 := by
    unfold homE
    split
    · exact .inl rfl
    · exact .inr rfl
  have HEE := hideIt hE
  clear hE
  go_enter Try.func4, Try.ntmps4
  go_upto_region 4 with fail
  go_loopw [7, 8, 9] (fun v7 v8 v9 wr => ∃ (t : Nat) (m : List PlaV) (ver : Int), v9 = .int .i64 t ∧ v8 = .int .i64 ver ∧ t ≤ l.length ∧ Hid (NS w k n g ver v7 m wr)) (fun _ _ v9 _ => l.length - (intOf v9).toNat)
  case atStart => exact ⟨0, [], 0, rfl, rfl, Nat.zero_le _, hideIt ⟨rfl, SGot.nil _ _ _ _ _ _ (Nat.zero_le _), HX0.out, HB0.out, by simp [ownP, knoB, sekN]⟩⟩
  case round =>
    clear HB0 HX0
    obtain ⟨t, m, ver, rfl, rfl, ht, HR⟩ := hrel
    by_cases hc : t < l.length ∧ t < 60
    · obtain ⟨hlt, h60⟩ := hc
      have hltI : (t : Int) < (l.length : Int) := by omega
      have ht0 : (0 : Int) ≤ (t : Int) := by omega
      have hw : IntKind.i64.wrap ((t : Int) + 1) = ((t + 1 : Nat) : Int) := by rw [IntKind.wrap_i64]; omega
      have h60I : (t : Int) < 60 := by omega
      have hB := HR.out.bel
      obtain ⟨b, off, rfl, hbl, q0, q1, q2, q3⟩ := HH.out t hlt
      have hblr : b < wr.heap.size := Nat.lt_of_lt_of_le hbl hB.size
      have c0 := (hB.cell (p := ⟨b, off + t * 4, none⟩) hbl).trans q0
      have c1 := (hB.cell (p := ⟨b, off + t * 4 + 1, none⟩) hbl).trans q1
      have c2 := (hB.cell (p := ⟨b, off + t * 4 + 2, none⟩) hbl).trans q2
      have c3 := (hB.cell (p := ⟨b, off + t * 4 + 3, none⟩) hbl).trans q3
      clear q0 q1 q2 q3
      have HLR := hideIt (fun x y z u => HLE.out u7 m x y z u wr HR.out.got)
      clear HH hB HLE
      generalize l[t] = en at *
      obtain ⟨⟨x, y⟩, ⟨z, u⟩⟩ := en
      dsimp only at c0 c1 c2 c3
      have H1 := hideIt (HLR.out x y z u)
      clear HLR
      cases hm : lrnB m ((x, y), (z, u))
      · rw [(lrn_no hm).1, (lrn_no hm).2] at H1
        clear hm
        go_wp2_with fail
        refine H1.out.mono ?_
        rintro e w1 ⟨a2, c2', rfl, ho, hb⟩
        dsimp only
        have R1 := hideIt (HR.out.keep hb)
        clear hb ho HR
        go_wp2
        go_roundw
        case rel => exact ⟨t + 1, m, ver, by go_num, rfl, by omega, R1⟩
        case measure => simp [intOf]; omega
      · have hmay := lrn_may hm
        have hpar := lrn_parts hm
        rw [(lrn_yes hm).1, (lrn_yes hm).2] at H1
        obtain ⟨hn1, hn2, -⟩ := own_newer (p := ((x, y), (z, u))) ((mayB_iff _).1 hpar.1).2 (one_ok hpar.2) (k, n) g
        have hn3 := Int.le_trans HR.out.old hn1
        have HLA := hideIt (may_len hmay)
        have HMY := hideIt hmay
        have HV := hideIt hn3
        have HKK := hideIt hn2
        clear hm hmay hpar hn1 hn3 hn2
        generalize insR ((x, y), (z, u)) m = m' at *
        have H2 := hideIt (fun v W hW => HOW.out v m' W hW)
        go_wp2_with fail
        refine H1.out.mono ?_
        rintro e w1 ⟨a2, c2', rfl, ho, hb⟩
        dsimp only
        have G1 := hideIt (own_sgot (bytes := 32) ho (small HLA.out))
        have R1 := hideIt (HR.out.keep hb)
        obtain ⟨k0, k1, kl⟩ := two_at R1.out.box
        clear hb ho HR H1 HOW c0 c1 c2 c3 hblr
        rcases HEE.out with he | he
        · rw [(own_kn m' HMY.out k n g he).1, (own_kn m' HMY.out k n g he).2] at H2
          unfold PlaBack at H2
          have HOP : Hid (∃ op, op = ownP m' (k, n) g) := ⟨_, rfl⟩
          obtain ⟨op, hop⟩ := HOP.out
          rw [← hop] at H2 HV HKK
          have HQ := hideIt hop
          clear hop he HOP
          obtain ⟨⟨o0, o1⟩, ⟨o2, o3⟩⟩ := op
          dsimp only at H2 HV HKK
          go_wp2_with fail
          refine (H2.out _ _ G1.out).mono ?_
          rintro e w2 ⟨rfl, hb⟩
          dsimp only
          have hb2 := below_via hb (below1 w2 (.cells #[.int .i64 o0, .int .i64 o1, .int .i64 o2, .int .i64 o3] 26))
          have N2 : Hid (NS w k n g o3 (.slice a2 m'.length c2') m' (w2.alloc (.cells #[.int .i64 o0, .int .i64 o1, .int .i64 o2, .int .i64 o3] 26))) := ⟨HMY.out, G1.out.keep hb2, (hb2.block _ kl).trans R1.out.box, below_via R1.out.bel hb2, by rw [← HQ.out]; exact Int.le_refl _⟩
          obtain ⟨y0, y1, y2, y3, yf, yl⟩ := four_at (heap_alloc_new w2 (.cells #[.int .i64 o0, .int .i64 o1, .int .i64 o2, .int .i64 o3] 26))
          clear k0 k1 kl
          obtain ⟨k0, k1, kl⟩ := two_at N2.out.box
          have hvI : ¬ o3 < ver := by have := HV.out; omega
          have hkk : (o0, o1) = (k, n) := HKK.out
          obtain ⟨rfl, rfl⟩ := Prod.mk.inj hkk
          have q1 : ∀ W, (binOp .neq 24 (.agg #[.int .i64 o0, .int .i64 o1]) (.agg #[.int .i64 o0, .int .i64 o1])).run Try.prog W = .ok (.bool false) W := fun W => by rw [neq24]; simp
          clear hb hb2 H2 G1 R1 HV HKK HQ hkk
          go_wp2
          go_roundw
          case rel => exact ⟨t + 1, m', o3, by go_num, rfl, by omega, N2⟩
          case measure => simp [intOf]; omega
        · have e1 : owrE m' (k, n) g = 1 := by simp [owrE, HMY.out, he]
          rw [e1] at H2
          unfold PlaBack at H2
          clear he e1
          generalize owrP m' (k, n) g = op at *
          obtain ⟨⟨o0, o1⟩, ⟨o2, o3⟩⟩ := op
          dsimp only at H2
          go_wp2_with fail
          refine (H2.out _ _ G1.out).mono ?_
          rintro e w2 ⟨rfl, hb⟩
          dsimp only
          have hb2 := below_via R1.out.bel (below_via hb (below1 w2 (.cells #[.int .i64 o0, .int .i64 o1, .int .i64 o2, .int .i64 o3] 26)))
          have HB2 := hideIt hb2
          clear hb hb2 H2 G1 R1 k0 k1 kl
          go_wp2_with fail
          refine (HL.out _).mono ?_
          rintro e w3 ⟨rfl, hb⟩
          dsimp only
          have HB3 := hideIt (below_via HB2.out hb)
          clear hb
          go_wp2
          go_ret
          exact ⟨rfl, HB3.out⟩
    · have HB := hideIt HR.out.bel
      clear HR HH
      by_cases hlt : t < l.length
      · have hltI : (t : Int) < (l.length : Int) := by omega
        have h60I : ¬ (t : Int) < 60 := by omega
        clear hc
        go_wp2_with fail
        refine (HL.out _).mono ?_
        rintro e w3 ⟨rfl, hb⟩
        dsimp only
        have HB3 := hideIt (below_via HB.out hb)
        clear hb
        go_wp2
        go_ret
        exact ⟨rfl, HB3.out⟩
      · have hltI : ¬ (t : Int) < (l.length : Int) := by omega
        clear hc
        go_wp2_with fail
        refine (HL.out _).mono ?_
        rintro e w3 ⟨rfl, hb⟩
        dsimp only
        have HB3 := hideIt (below_via HB.out hb)
        clear hb
        go_wp2
        go_ret
        exact ⟨rfl, HB3.out⟩
end Go.Proofs.Ytfcbjdfelahfkaa
