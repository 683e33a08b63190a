/- The body of rialtolaw06.TimerOrder, walked. -/
import Derived.Test.YtebinckkghmkhaaOrderP
import Derived.Deep.CutBlock
import Derived.StillTailTactics
namespace Go.Proofs.Ytebinckkghmkhaa
open Go.RowKit

theorem mixed : Try.prog.follows .mixedOrders = true := by kernel_rfl
theorem NumsAt.take {w : World} {a : Option Addr} {l : List Int} (h : NumsAt w a l) (n : Nat) : NumsAt w a (l.take n) := by
  intro j hj
  have hj2 : j < l.length := by rw [List.length_take] at hj; omega
  obtain ⟨b, off, e, hl, h0, r⟩ := h j hj2
  refine ⟨b, off, e, hl, ?_, ?_⟩ <;> simpa using by assumption
theorem two_start {w w1 w2 w3 : World} {pv pw : Nat} (h1 : WheelAt w1 (fun k => k = pv) pv ⟨100, 0, fun _ => 0⟩) (b1 : Below w.heap.size w w1) (p1 : w.heap.size ≤ pv)
    (h2 : WheelAt w2 (fun k => k = pw) pw ⟨100, 0, fun _ => 0⟩) (b2 : Below w1.heap.size w1 w2) (p2 : w1.heap.size ≤ pw) (b3 : Below w2.heap.size w2 w3) :
    Two w pv pw ⟨100, 0, fun _ => 0⟩ ⟨100, 0, fun _ => 0⟩ [] none w3 := by
  have s1 := b1.size
  have s2 := b2.size
  have hpv := h1.small pv rfl
  refine ⟨_, _, (h1.below b2).below b3, h2.below b3, fun k hk => ⟨?_, fun e => ?_⟩, fun k hk => ?_, rfl, fun g c e => (by cases e), (b1.trans (b2.mono s1)).trans (b3.mono (by omega))⟩
  · subst hk; exact p1
  · have : k = pv := hk
    have : k = pw := e
    omega
  · have : k = pw := hk
    omega
theorem SVi_zero (l : List Int) : SVi l 0 = ⟨100, 0, fun _ => 0⟩ := by simp [SVi]
theorem SWo_nil (l : List Int) : SWo l [] = ⟨100, 0, fun _ => 0⟩ := by simp [SWo]
theorem pk_of (l : List Int) (k : Nat) (x : Int) (h : l[k]? = some x) : ((pk l k : Nat) : Int) = 1 + (pickN x 1000 : Int) := by
  unfold pk
  rw [h]
  simp only [Option.getD_some]
  omega
theorem dueL_len (S : Wh) : (dueL S).length ≤ S.keys := dueT_len S S.keys
theorem two_swap {w : World} {pv pw : Nat} {Sv Sw : Wh} {o : List Nat} {g co : Nat} {wr : World} (h : Two w pv pw Sv Sw o (some (g, co)) wr) (A B X Y : Nat) (gA : o[A]? = some X) (gB : o[B]? = some Y) :
    Two w pv pw Sv Sw (sw o A B X Y) (some (g, co)) ((wr.setCell ⟨g, A, none⟩ (.int .i64 (Y : Int))).setCell ⟨g, B, none⟩ (.int .i64 (X : Int))).drew := by
  have hA := (List.getElem?_eq_some_iff.1 gA).1
  have hB := (List.getElem?_eq_some_iff.1 gB).1
  have hr : IRow wr g co o := h.row
  have hr2 : IRow ((wr.setCell ⟨g, A, none⟩ (.int .i64 (Y : Int))).setCell ⟨g, B, none⟩ (.int .i64 (X : Int))) g co (sw o A B X Y) := (hr.set A Y hA).set B X (by simpa using hB)
  refine h.turn ?_ (hr2.keep rfl) (fun g' c e => by cases e; exact .inl ⟨co, rfl⟩)
  exact ((Out.ofSet (F := fun i => ∃ c, some (g, co) = some (i, c)) wr ⟨g, A, none⟩ _ ⟨co, rfl⟩).trans (Out.ofSet (F := fun i => ∃ c, some (g, co) = some (i, c)) _ ⟨g, B, none⟩ _ ⟨co, rfl⟩) (fun _ _ h => h)).trans (Out.ofDrew (F := fun i => ∃ c, some (g, co) = some (i, c)) _) (fun _ _ h => h)
set_option maxHeartbeats 8000000 in
set_option maxRecDepth 100000 in
theorem order_walk (w : World) (a : Option Addr) (cap : Nat) (l : List Int) (hL : NumsAt w a l) (hlc : l.length ≤ cap) (hcm : cap ≤ maxLen) (b : Option Addr) (capb : Nat) (h : List Int) (hH : NumsAt w b h) (hhm : h.length ≤ maxLen) :
    Calls Try.prog 5 #[.slice a l.length cap, .slice b h.length capb] w fun e w' => e = .returned (.bool true) ∧ Below w.heap.size w w' := by
  have hcm : cap ≤ 9223372036854775807 := hcm
  have hhm : h.length ≤ 9223372036854775807 := hhm
  have HN := hideIt (fun W => new_good 100 W (by decide) (by decide))
  obtain ⟨L, hLd⟩ : ∃ L, L = l.take 100 := ⟨_, rfl⟩
  have hLn : NumsAt w a L := by rw [hLd]; exact hL.take 100
  have hLlen : L.length = min 100 l.length := by rw [hLd]; simp
  have HL := hideIt hLn
  have HH := hideIt hH
  have ha : l.length ≠ 0 → ∃ q off, a = some ⟨q, off, none⟩ := fun hne => by
    obtain ⟨q, off, e, _⟩ := hL 0 (by omega)
    exact ⟨q, off, e⟩
  have HA := hideIt ha
  clear hL hH hLn hLd ha
  go_enter Try.func5, Try.ntmps5
  go_wp2_with fail
  refine (HN.out _).mono ?_
  rintro e w1 ⟨pv, rfl, hw1, hb1, hp1⟩
  dsimp only
  have HX1 := hideIt (And.intro hw1 (And.intro hb1 hp1))
  clear hw1 hb1
  go_wp2_with fail
  refine (HN.out _).mono ?_
  rintro e w2 ⟨pw, rfl, hw2, hb2, hp2⟩
  dsimp only
  have HX2 := hideIt (And.intro hw2 (And.intro hb2 hp2))
  clear hw2 hb2
  go_wp2_with fail
  refine (begun_is _).mono ?_
  rintro e w3 ⟨rfl, hb3⟩
  dsimp only
  have HT := hideIt (two_start HX1.out.1 HX1.out.2.1 HX1.out.2.2 HX2.out.1 HX2.out.2.1 HX2.out.2.2 hb3)
  clear HX1 HX2 hb3 hp1 hp2
  go_upto_if 44 with fail
  go_cut [0] from 42 (fun v0 wx => v0 = .slice a L.length cap ∧ wx = w3)
  case first =>
    by_cases hbig : 100 < l.length
    · obtain ⟨q, off, rfl⟩ := HA.out (by omega)
      have e : L.length = 100 := by omega
      have hbI : (100 : Int) < (l.length : Int) := by omega
      have hcI : (100 : Int) ≤ (cap : Int) := by omega
      have HE := hideIt e
      clear e hLlen
      go_wp2_with fail
      go_meet
      exact ⟨by rw [HE.out], rfl⟩
    · have e : L.length = l.length := by omega
      have hbI : ¬ (100 : Int) < (l.length : Int) := by omega
      have HE := hideIt e
      clear e hLlen
      go_wp2_with fail
      go_meet
      exact ⟨by rw [HE.out], rfl⟩
  case rest =>
  obtain ⟨rfl, rfl⟩ := hcut
  have hLL : L.length ≤ 100 := by omega
  clear hLlen HA hlc hcm HN
  go_wp2
  go_loopw [9, 10] (fun v9 v10 wr => ∃ (i : Nat) (r : Option (Nat × Nat)), v10 = .int .i64 i ∧ i ≤ L.length ∧ v9 = sval (List.range i) r ∧ Hid (Two w pv pw ⟨100, 0, fun _ => 0⟩ ⟨100, 0, fun _ => 0⟩ (List.range i) r wr)) (fun _ v10 _ => L.length - (intOf v10).toNat)
  case atStart => exact ⟨0, none, rfl, Nat.zero_le _, rfl, HT⟩
  case round =>
    clear HT
    obtain ⟨i, r, rfl, hi, rfl, HT⟩ := hrel
    by_cases hlt : i < L.length
    · have hltI : (i : Int) < (L.length : Int) := by omega
      obtain ⟨W4, hW4⟩ : ∃ W4, W4 = wr.alloc (.cells #[.int .i64 (i : Int)] 3) := ⟨_, rfl⟩
      have hrow := HT.out.row
      have r4 : SRow W4 (List.range i) r := hrow.keep (fun g c e => by
        subst e
        rw [hW4]
        exact Lib.alloc_old wr _ g (IRow.lt hrow))
      have b4 : W4.cell? ⟨wr.heap.size, 0, none⟩ = some (iv i) := by rw [hW4]; exact cell_at (heap_alloc_new wr _) 0
      obtain ⟨g', cap', W5, hrun, hrow5, ho5, hg5⟩ := run_append_S W4 36 r (List.range i) r4 wr.heap.size 1 i b4 (by simp; omega)
      have o45 : Out (fun j => ∃ c, r = some (j, c)) wr W5 := by
        refine Out.trans ?_ ho5 (fun _ _ h => h)
        rw [hW4]
        exact Out.ofAlloc _ _
      have hT5 := HT.out.turn (lo' := List.range i ++ [i]) (r' := some (g', cap')) o45 hrow5 (fun g c e => by
        cases e
        rcases hg5 with h | h
        · exact .inl h
        · exact .inr (by rw [hW4] at h; simp at h; omega))
      rw [← List.range_succ] at hT5 hrun
      rw [hW4] at hrun
      have HT5 := hideIt hT5
      have HRUN := hideIt hrun
      clear hrow r4 b4 hrun hrow5 ho5 hg5 o45 hT5 hW4
      generalize sval (List.range i) r = v0 at *
      generalize hv1 : sval (List.range (i + 1)) (some (g', cap')) = v1 at *
      have HV := hideIt hv1
      clear hv1
      go_wp2_with (at_builtin; refine wpList_append_run _ rfl _ _ rfl rfl rfl rfl HRUN.out ?_)
      go_roundw
      case rel => exact ⟨i + 1, some (g', cap'), by go_num, by omega, HV.out.symm, HT5⟩
      case measure => simp [intOf]; omega
    · have e : i = L.length := by omega
      subst e
      have hT6 := HT.out
      have hmem : ∀ k, k ∈ List.range L.length ↔ k < L.length := fun k => List.mem_range
      have hlen : (List.range L.length).length = L.length := List.length_range
      obtain ⟨o0, ho0⟩ : ∃ o0, List.range L.length = o0 := ⟨_, rfl⟩
      rw [ho0] at hT6 hmem hlen ⊢
      obtain ⟨ao, co, hvo, hshape⟩ : ∃ ao co, sval o0 r = .slice ao L.length co ∧ ∀ o : List Nat, o.length = L.length → 0 < L.length → ∀ wz, SRow wz o r → ∃ g, ao = some ⟨g, 0, none⟩ ∧ r = some (g, co) := by
        cases r with
        | none =>
          refine ⟨none, 0, ?_, fun o ho hp wz hz => ?_⟩
          · have hr := hT6.row
            have : o0 = [] := hr
            rw [this] at hlen
            rw [← hlen]; rfl
          · have : o = [] := hz
            rw [this] at ho
            simp at ho
            omega
        | some gc => exact ⟨some ⟨gc.1, 0, none⟩, gc.2, by rw [← hlen]; rfl, fun _ _ _ _ _ => ⟨gc.1, rfl, rfl⟩⟩
      rw [hvo]
      have HSH := hideIt hshape
      have HO := hideIt (And.intro hlen (And.intro hmem hT6))
      clear hshape hT6 hmem hlen HT hvo ho0
      obtain ⟨n, hn⟩ : ∃ n, L.length = n := ⟨_, rfl⟩
      rw [hn] at HO HSH hLL hlt hi ⊢
      have HNN := hideIt hn
      clear hn hlt hi
      go_upto_block 2 with fail
      go_cut [11, 12, 13] from 57 (fun _ _ _ wx => ∃ o : List Nat, Hid (o.length = n ∧ (∀ k, k ∈ o ↔ k < n) ∧ Two w pv pw ⟨100, 0, fun _ => 0⟩ ⟨100, 0, fun _ => 0⟩ o r wx))
      case first =>
       go_wp2_with fail
       go_loopw [11, 12, 13] (fun v11 _ _ wr => ∃ (i : Nat) (o : List Nat), v11 = .int .i64 i ∧ i ≤ h.length ∧ Hid (o.length = n ∧ (∀ k, k ∈ o ↔ k < n) ∧ Two w pv pw ⟨100, 0, fun _ => 0⟩ ⟨100, 0, fun _ => 0⟩ o r wr)) (fun v11 _ _ _ => h.length - (intOf v11).toNat)
       case atStart => exact ⟨0, o0, rfl, Nat.zero_le _, HO⟩
       case round =>
         clear HO
         obtain ⟨i, o, rfl, hi, HO⟩ := hrel
         by_cases hgo : i < h.length ∧ 0 < n
         · obtain ⟨hlt, hn0⟩ := hgo
           obtain ⟨holen, homem, hT⟩ := HO.out
           obtain ⟨g, rfl, hr⟩ := HSH.out o holen hn0 wr hT.row
           have hrow : IRow wr g co o := by have := hT.row; rw [hr] at this; exact this
           obtain ⟨bq, boff, rfl, hbl, hbc, hbb⟩ := HH.out i hlt
           have cH := (hT.base.cell (p := ⟨bq, boff + i, none⟩) hbl).trans hbc
           obtain ⟨x, hx⟩ : ∃ x, h[i] = x := ⟨_, rfl⟩
           rw [hx] at cH hbb
           obtain ⟨A, hA⟩ : ∃ A, i % n = A := ⟨_, rfl⟩
           obtain ⟨B, hB⟩ : ∃ B, pickN x n = B := ⟨_, rfl⟩
           have hAn : A < n := by rw [← hA]; exact Nat.mod_lt _ hn0
           have hBn : B < n := by rw [← hB]; exact pickN_lt _ _ hn0
           have hAI : (i : Int) % (n : Int) = (A : Int) := by rw [← hA]; simp
           have HP := hideIt (fun W => pick_is x n W hbb.1 hbb.2 hn0 (by omega))
           rw [hB] at HP
           have cA := hrow.cell A (by omega)
           have cB := hrow.cell B (by omega)
           have fA := hrow.free A
           have fB := hrow.free B
           have gA : o[A]? = some o[A] := List.getElem?_eq_getElem (by omega)
           have gB : o[B]? = some o[B] := List.getElem?_eq_getElem (by omega)
           generalize o[A] = X at *
           generalize o[B] = Y at *
           have HGA := hideIt gA
           have HGB := hideIt gB
           have HR := hideIt hr
           have HROW := hideIt hrow
           have hltI : (i : Int) < (h.length : Int) := by omega
           have hi0 : (0 : Int) ≤ (i : Int) := by omega
           have hnI : (0 : Int) < (n : Int) := by omega
           have hA0 : (0 : Int) ≤ (A : Int) := by omega
           have hB0 : (0 : Int) ≤ (B : Int) := by omega
           have hA1 : (A : Int) < (n : Int) := by omega
           have hB1 : (B : Int) < (n : Int) := by omega
           clear hA hB hx hbc hr gA gB hrow hT homem
           obtain ⟨holen2, homem2, hT2⟩ := HO.out
           have hT3 : Two w pv pw ⟨100, 0, fun _ => 0⟩ ⟨100, 0, fun _ => 0⟩ o (some (g, co)) wr := by rw [← HR.out]; exact hT2
           have HS := hideIt (two_swap hT3 A B X Y HGA.out HGB.out)
           have HS2 : Hid (o.length = n ∧ ∀ k, k ∈ o ↔ k < n) := ⟨holen2, homem2⟩
           clear hT3 hT2 homem2 holen2 holen
           by_cases hAB : A = B
           · subst hAB
             have hXY : X = Y := by have h1 := HGA.out; rw [HGB.out] at h1; cases h1; rfl
             subst hXY
             go_wp2_with fail
             refine (HP.out _).mono ?_
             rintro e w7 ⟨rfl, rfl⟩
             dsimp only
             go_wp2
             go_region
             go_wp2
             go_roundw
             case rel => exact ⟨i + 1, sw o A A X X, by go_num, by omega, hideIt ⟨by rw [sw_len]; exact HS2.out.1, fun k => by rw [sw_mem o A A X X HGA.out HGB.out k]; exact HS2.out.2 k, by rw [HR.out]; exact HS.out⟩⟩
             case measure => simp [intOf]; omega
           · have hAB2 : ¬ B = A := fun e => hAB e.symm
             go_wp2_with fail
             refine (HP.out _).mono ?_
             rintro e w7 ⟨rfl, rfl⟩
             dsimp only
             go_wp2
             go_region
             go_wp2
             go_roundw
             case rel => exact ⟨i + 1, sw o A B X Y, by go_num, by omega, hideIt ⟨by rw [sw_len]; exact HS2.out.1, fun k => by rw [sw_mem o A B X Y HGA.out HGB.out k]; exact HS2.out.2 k, by rw [HR.out]; exact HS.out⟩⟩
             case measure => simp [intOf]; omega
         · by_cases hlt : i < h.length
           · have hn0 : n = 0 := by omega
             subst hn0
             have hltI : (i : Int) < (h.length : Int) := by omega
             clear hgo
             go_wp2_with fail
             go_meet
             exact ⟨o, HO⟩
           · clear hgo
             have hltI : ¬ (i : Int) < (h.length : Int) := by omega
             go_wp2_with fail
             go_meet
             exact ⟨o, HO⟩
      case rest =>
      clear HO
      obtain ⟨o, HO⟩ := hcut
      obtain ⟨holen, homem, hT0⟩ := HO.out
      have HT0 : Hid (Two w pv pw (SVi L 0) (SWo L (o.take 0)) o r wc) := by
        rw [SVi_zero, List.take_zero, SWo_nil]
        exact hideIt hT0
      have HLEN := hideIt holen
      have HMEM := hideIt homem
      clear hT0 HO holen homem
      go_wp2
      go_loopw [14] (fun v14 wr => ∃ i : Nat, v14 = .int .i64 i ∧ i ≤ n ∧ Hid (Two w pv pw (SVi L i) (SWo L (o.take i)) o r wr)) (fun v14 _ => n - (intOf v14).toNat)
      case atStart => exact ⟨0, rfl, Nat.zero_le _, HT0⟩
      case round =>
        clear HT0
        obtain ⟨i, rfl, hi, HT⟩ := hrel
        by_cases hlt : i < n
        · have hltI : (i : Int) < (n : Int) := by omega
          have hi0 : (0 : Int) ≤ (i : Int) := by omega
          have hiL : i < L.length := by rw [HNN.out]; exact hlt
          have hT := HT.out
          obtain ⟨q, off, rfl, hql, hqc, hqb⟩ := HL.out i hiL
          have cL := (hT.base.cell (p := ⟨q, off + i, none⟩) hql).trans hqc
          have hLi : L[i]? = some L[i] := List.getElem?_eq_getElem hiL
          generalize L[i] = x at *
          have hpk := pk_of L i x hLi
          obtain ⟨p0, hp0⟩ : ∃ p0, pickN x 1000 = p0 := ⟨_, rfl⟩
          have hp0b : p0 < 1000 := by rw [← hp0]; exact pickN_lt _ _ (by decide)
          have HP := hideIt (fun W => pick_is x 1000 W hqb.1 hqb.2 (by decide) (by decide))
          rw [hp0] at HP hpk
          have hSV := hT.setV (show 0 < 1000000000 by decide) (i : Int) ((pk L i : Nat) : Int)
          rw [SVi_set L i (by omega), hpk] at hSV
          have HSV := hideIt hSV
          obtain ⟨g, rfl, hr⟩ := HSH.out o HLEN.out (by omega) wr hT.row
          have hio : i < o.length := by rw [HLEN.out]; exact hlt
          have hKi : o[i]? = some o[i] := List.getElem?_eq_getElem hio
          have HTK := hideIt (List.take_succ_eq_append_getElem hio)
          generalize hKK : o[i] = K at *
          have hKn : K < n := (HMEM.out K).1 (List.mem_of_getElem? hKi)
          have hKL : K < L.length := by rw [HNN.out]; exact hKn
          have hLK : L[K]? = some L[K] := List.getElem?_eq_getElem hKL
          obtain ⟨q2, off2, hqe, hql2, hqc2, hqb2⟩ := HL.out K hKL
          cases hqe
          generalize L[K] = z at *
          have hpk2 := pk_of L K z hLK
          obtain ⟨p1, hp1⟩ : ∃ p1, pickN z 1000 = p1 := ⟨_, rfl⟩
          have hp1b : p1 < 1000 := by rw [← hp1]; exact pickN_lt _ _ (by decide)
          have HP2 := hideIt (fun W => pick_is z 1000 W hqb2.1 hqb2.2 (by decide) (by decide))
          rw [hp1] at HP2 hpk2
          have hK0 : (0 : Int) ≤ (K : Int) := by omega
          have hK1 : (K : Int) < (n : Int) := by omega
          have HF : Hid (∀ W, Two w pv pw (SVi L (i + 1)) (SWo L (o.take i)) o r W → W.cell? ⟨g, i, none⟩ = some (.int .i64 (K : Int)) ∧ W.cell? ⟨q, off + K, none⟩ = some (.int .i64 z) ∧
              Calls Try.prog 9 #[.pointer (some ⟨pw, 0, none⟩), .int .i64 (K : Int), .int .i64 (1 + (p1 : Int))] W.drew fun e w' => (∃ v, e = .returned v) ∧ Two w pv pw (SVi L (i + 1)) (SWo L (o.take (i + 1))) o r w') := by
            intro W hW
            refine ⟨?_, (hW.base.cell (p := ⟨q, off + K, none⟩) hql2).trans hqc2, ?_⟩
            · have hrw : IRow W g co o := by have := hW.row; rw [hr] at this; exact this
              have := hrw.cell i hio
              rw [hKK] at this
              exact this
            · have := (hW.below (below_drewN (Below.refl _ _) 1)).setW' (show 0 < 1000000000 by decide) (K : Int) ((pk L K : Nat) : Int)
              rw [SWo_set L _ K (by omega), hpk2, ← HTK.out] at this
              exact this
          clear hT hSV hqc hqc2 hpk hpk2 hp0 hp1 hLi hLK hKi hr HT
          go_wp2_with fail
          refine (HP.out _).mono ?_
          rintro e w7 ⟨rfl, rfl⟩
          dsimp only
          go_wp2_with fail
          refine HSV.out.mono ?_
          rintro e w8 ⟨⟨v8, rfl⟩, hT8⟩
          dsimp only
          obtain ⟨d0, d1, hcall⟩ := HF.out w8 hT8
          have HCALL := hideIt hcall
          clear hcall hT8 HSV HF cL
          go_upto_region 22 with fail
          refine wp_region_still_tail 14 mixed (by kernel_rfl) ?_
          simp only [List.take_succ_cons, List.take_zero, List.drop_succ_cons, List.drop_zero]
          iterate 12 still_step
          still_call (HP2.out _)
          still_step
          refine wpStill_nil ?_
          go_wp2_with fail
          refine HCALL.out.mono ?_
          rintro e w9 ⟨⟨v9, rfl⟩, hT9⟩
          dsimp only
          have HT9 := hideIt hT9
          clear hT9 HCALL d0 d1
          go_wp2
          go_roundw
          case rel => exact ⟨i + 1, by go_num, by omega, HT9⟩
          case measure => simp [intOf]; omega
        · have e : i = n := by omega
          subst e
          obtain ⟨S, hS⟩ : ∃ S, SVi L i = S := ⟨_, rfl⟩
          have HT4 : Hid (Two w pv pw (TK S 0) (TK S 0) o r wr) := by
            have h1 := HT.out
            rw [List.take_of_length_le (by rw [HLEN.out]; exact Nat.le_refl _), SWo_end L o i HMEM.out, hS] at h1
            exact hideIt h1
          have HE : Hid (cnt (TK S 1001).left (TK S 1001).keys = 0) := by rw [← hS]; exact hideIt (TK_end L i)
          have HK : Hid (S.keys = 100 ∧ S.now = 0) := by rw [← hS]; exact hideIt ⟨rfl, rfl⟩
          clear HT hS
          go_wp2
          go_loopw [15] (fun v15 wr => ∃ (t : Nat) (lo : List Nat) (rr : Option (Nat × Nat)), v15 = .int .i64 t ∧ t ≤ 1001 ∧ Hid (Two w pv pw (TK S t) (TK S t) lo rr wr)) (fun v15 _ => 1001 - (intOf v15).toNat)
          case atStart => exact ⟨0, o, r, rfl, Nat.zero_le _, HT4⟩
          case round =>
            clear HT4
            obtain ⟨t, lo, rr, rfl, ht, HT⟩ := hrel
            by_cases htl : t < 1001
            · have htI : (t : Int) < 1001 := by omega
              have hnow : (TK S t).now < 1000000000 := by show S.now + t < _; have := HK.out.2; omega
              have HV := hideIt (HT.out.tickV hnow)
              clear HT
              go_wp2_with fail
              refine HV.out.mono ?_
              rintro e w7 ⟨r1, rfl, hT7⟩
              dsimp only
              have HW := hideIt (hT7.tickW hnow)
              clear hT7 HV
              go_wp2_with fail
              refine HW.out.mono ?_
              rintro e w8 ⟨r2, rfl, hrow2, hT8⟩
              dsimp only
              have hdl : (dueL (TK S t)).length ≤ 1000000 := by have := dueL_len (TK S t); have h2 : (TK S t).keys = 100 := HK.out.1; omega
              have HSM := hideIt (same_is hT8.row hrow2 hdl)
              rw [decide_eq_true rfl] at HSM
              rw [TK_succ] at hT8
              have HT8 := hideIt hT8
              clear hT8 hrow2 HW hdl hnow
              generalize sval (dueL (TK S t)) r1 = v1 at *
              generalize sval (dueL (TK S t)) r2 = v2 at *
              go_wp2_with fail
              refine HSM.out.mono ?_
              rintro e w9 ⟨rfl, hb9⟩
              dsimp only
              have HT9 := hideIt (HT8.out.below hb9)
              clear hb9 HSM HT8
              go_wp2
              go_roundw
              case rel => exact ⟨t + 1, _, _, by go_num, by omega, HT9⟩
              case measure => simp [intOf]; omega
            · have e : t = 1001 := by omega
              subst e
              have HV := hideIt (HT.out.lenV)
              have HW := hideIt (HT.out.lenW)
              rw [HE.out, show ((0 : Nat) : Int) = 0 from rfl] at HV HW
              go_wp2_with fail
              refine HV.out.mono ?_
              rintro e w7 ⟨rfl, rfl⟩
              dsimp only
              go_wp2_with fail
              refine HW.out.mono ?_
              rintro e w8 ⟨rfl, rfl⟩
              dsimp only
              go_wp2
              go_ret
              exact ⟨rfl, HT.out.base⟩
end Go.Proofs.Ytebinckkghmkhaa
