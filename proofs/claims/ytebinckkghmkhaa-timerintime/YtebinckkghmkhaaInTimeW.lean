/- The body of rialtolaw06.TimerInTime, walked. -/
import Derived.Test.YtebinckkghmkhaaOps
import Derived.Deep.CutBlock
namespace Go.Proofs.Ytebinckkghmkhaa
open Go.RowKit

/-- The wheel of the statement: the key's timer is m ticks nearer than it was. -/
def Inv (w : World) (p key n : Nat) (wr : World) (m : Nat) : Prop :=
  ∃ F S, WheelAt wr F p S ∧ (∀ k, F k → w.heap.size ≤ k) ∧ Below w.heap.size w wr ∧ S.keys = 100 ∧ S.now = m ∧ S.left key = n - m
theorem Inv.below {w : World} {p key n : Nat} {wr wr' : World} {m : Nat} (h : Inv w p key n wr m) (hb : Below wr.heap.size wr wr') : Inv w p key n wr' m := by
  obtain ⟨F, S, hw, hF, hB, r⟩ := h
  exact ⟨F, S, hw.below hb, hF, hB.trans (hb.mono hB.size), r⟩
theorem setW_other (S : Wh) (k n : Int) (key : Nat) (h : k ≠ (key : Int)) : (setW S k n).keys = S.keys ∧ (setW S k n).now = S.now ∧ (setW S k n).left key = S.left key := by
  unfold setW
  split
  · rename_i hk
    refine ⟨rfl, rfl, ?_⟩
    show put S.left k.toNat n.toNat key = S.left key
    unfold put
    rw [if_neg]
    have := hk.1.1
    omega
  · exact ⟨rfl, rfl, rfl⟩
theorem stopW_other (S : Wh) (k : Int) (key : Nat) (h : k ≠ (key : Int)) : (stopW S k).keys = S.keys ∧ (stopW S k).now = S.now ∧ (stopW S k).left key = S.left key := by
  unfold stopW
  split
  · rename_i hk
    refine ⟨rfl, rfl, ?_⟩
    show put S.left k.toNat 0 key = S.left key
    unfold put
    rw [if_neg]
    have := hk.1
    omega
  · exact ⟨rfl, rfl, rfl⟩
theorem Inv.set {w : World} {p key n : Nat} {wr : World} {m : Nat} (h : Inv w p key n wr m) (hm : m < 1000000000) (k x : Int) (hk : k ≠ (key : Int)) :
    Calls Try.prog 9 #[.pointer (some ⟨p, 0, none⟩), .int .i64 k, .int .i64 x] wr fun e w' => (∃ v, e = .returned v) ∧ Inv w p key n w' m := by
  obtain ⟨F, S, hw, hF, hB, h1, h2, h3⟩ := h
  refine (set_is hw k x (by omega)).mono ?_
  rintro e w' ⟨rfl, ⟨F', hw', hf'⟩, ho⟩
  obtain ⟨e1, e2, e3⟩ := setW_other S k x key hk
  have hs := hB.size
  refine ⟨⟨_, rfl⟩, F', _, hw', fun i hi => ?_, hB.trans (ho.below hs hF), by rw [e1]; exact h1, by rw [e2]; exact h2, by rw [e3]; exact h3⟩
  rcases hf' i hi with h | h
  · exact hF i h
  · omega
/-- A Set beside a block that was made behind the wheel. -/
theorem Inv.setBeside {w : World} {p key n : Nat} {wr : World} {m : Nat} (h : Inv w p key n wr m) (hm : m < 1000000000) (o : Obj) (k x : Int) (hk : k ≠ (key : Int)) :
    Calls Try.prog 9 #[.pointer (some ⟨p, 0, none⟩), .int .i64 k, .int .i64 x] (wr.alloc o) fun e w' => (∃ v, e = .returned v) ∧ Inv w p key n w' m ∧ w'.heap[wr.heap.size]? = some o := by
  obtain ⟨F, S, hw, hF, hB, h1, h2, h3⟩ := h
  have hbl : Below wr.heap.size wr (wr.alloc o) := (Below.refl _ _).alloc (Nat.le_refl _) _
  have hsm := hw.small
  have hs := hB.size
  have hB2 : Below w.heap.size w (wr.alloc o) := hB.trans (hbl.mono hs)
  refine (set_is (hw.below hbl) k x (by omega)).mono ?_
  rintro e w' ⟨rfl, ⟨F', hw', hf'⟩, ho⟩
  obtain ⟨e1, e2, e3⟩ := setW_other S k x key hk
  refine ⟨⟨_, rfl⟩, ⟨F', _, hw', fun i hi => ?_, hB2.trans (ho.below hB2.size hF), by rw [e1]; exact h1, by rw [e2]; exact h2, by rw [e3]; exact h3⟩, ?_⟩
  · rcases hf' i hi with h | h
    · exact hF i h
    · have := hB2.size
      omega
  · rw [ho.block wr.heap.size (by simp) (fun e => by have := hsm _ e; omega)]
    exact heap_alloc_new wr _
theorem Inv.stop {w : World} {p key n : Nat} {wr : World} {m : Nat} (h : Inv w p key n wr m) (hm : m < 1000000000) (k : Int) (hk : k ≠ (key : Int)) :
    Calls Try.prog 11 #[.pointer (some ⟨p, 0, none⟩), .int .i64 k] wr fun e w' => (∃ v, e = .returned v) ∧ Inv w p key n w' m := by
  obtain ⟨F, S, hw, hF, hB, h1, h2, h3⟩ := h
  refine (stop_is hw k (by omega)).mono ?_
  rintro e w' ⟨rfl, hw', ho⟩
  obtain ⟨e1, e2, e3⟩ := stopW_other S k key hk
  exact ⟨⟨_, rfl⟩, F, _, hw', hF, hB.trans (ho.below hB.size hF), by rw [e1]; exact h1, by rw [e2]; exact h2, by rw [e3]; exact h3⟩
theorem Inv.left {w : World} {p key n : Nat} {wr : World} {m : Nat} (h : Inv w p key n wr m) (hm : m < 1000000000) (hk : key < 100) :
    Calls Try.prog 18 #[.pointer (some ⟨p, 0, none⟩), .int .i64 (key : Int)] wr fun e w' => e = .returned (.tuple #[.int .i64 ((n - m : Nat) : Int), .bool (decide (m < n))]) ∧ Inv w p key n w' m := by
  have h0 := h
  obtain ⟨F, S, hw, hF, hB, h1, h2, h3⟩ := h
  refine (left_is hw key (by omega)).mono ?_
  rintro e w' ⟨rfl, hb⟩
  have e1 : leftV S key = n - m := by
    unfold leftV
    rw [if_pos (by omega), Int.toNat_natCast, h3]
  rw [e1]
  refine ⟨?_, h0.below hb⟩
  have e2 : decide (n - m ≠ 0) = decide (m < n) := by rw [decide_eq_decide]; omega
  rw [e2]
/-- What Tick answers holds the key just if its timer was one tick ahead. -/
def TickInv (w : World) (p key n m : Nat) (e : Ending) (w' : World) : Prop :=
  ∃ l r, e = .returned (sval l r) ∧ SRow w' l r ∧ l.length ≤ 100 ∧ (key ∈ l ↔ n - m = 1) ∧ Inv w p key n w' (m + 1)
theorem Inv.tick {w : World} {p key n : Nat} {wr : World} {m : Nat} (h : Inv w p key n wr m) (hm : m < 1000000000) (hk : key < 100) :
    Calls Try.prog 14 #[.pointer (some ⟨p, 0, none⟩)] wr (TickInv w p key n m) := by
  obtain ⟨F, S, hw, hF, hB, h1, h2, h3⟩ := h
  refine (tick_is hw (by omega)).mono ?_
  rintro e w' ⟨r, rfl, hrow, hfr, hw', ho⟩
  refine ⟨dueL S, r, rfl, hrow, ?_, ?_, F, _, hw', hF, hB.trans (ho.below hB.size hF), h1, ?_, ?_⟩
  · have := dueT_len S S.keys
    have e : dueL S = dueT S S.keys := rfl
    rw [e]
    omega
  · unfold dueL
    simp only [List.mem_filter, List.mem_range, decide_eq_true_eq, h3]
    omega
  · show S.now + 1 = m + 1
    omega
  · show S.left key - 1 = n - (m + 1)
    omega
set_option maxHeartbeats 8000000 in
set_option maxRecDepth 100000 in
theorem inTime_walk (w : World) (a0 a1 : Int) (h0 : i64B a0) (h1 : i64B a1) (a : Option Addr) (cap : Nat) (l : List OpV) (hO : OpsAt w a l) :
    Calls Try.prog 4 #[.int .i64 a0, .int .i64 a1, .slice a l.length cap] w fun e w' => e = .returned (.bool true) ∧ Below w.heap.size w w' := by
  have HN := hideIt (new_good 100 w (by decide) (by decide))
  obtain ⟨key, hkey⟩ : ∃ key, pickN a0 100 = key := ⟨_, rfl⟩
  obtain ⟨n0, hn0⟩ : ∃ n0, pickN a1 1000 = n0 := ⟨_, rfl⟩
  have hk : key < 100 := by rw [← hkey]; exact pickN_lt _ _ (by decide)
  have hn : n0 < 1000 := by rw [← hn0]; exact pickN_lt _ _ (by decide)
  have HP0 := hideIt (fun W => pick_is a0 100 W h0.1 h0.2 (by decide) (by decide))
  have HP1 := hideIt (fun W => pick_is a1 1000 W h1.1 h1.2 (by decide) (by decide))
  rw [hkey] at HP0
  rw [hn0] at HP1
  clear hkey hn0 h0 h1
  have HO := hideIt hO
  clear hO
  go_enter Try.func4, Try.ntmps4
  go_wp2_with fail
  refine HN.out.mono ?_
  rintro e w1 ⟨p, rfl, hw1, hb1, hp1⟩
  dsimp only
  have HW1 := hideIt hw1
  have HB1 := hideIt hb1
  have s1 := hb1.size
  clear hw1 hb1 HN
  go_wp2_with fail
  refine (begun_is _).mono ?_
  rintro e w2 ⟨rfl, hb2⟩
  dsimp only
  have s2 := hb2.size
  have hw2 := HW1.out.below hb2
  have hb2' : Below w.heap.size w w2 := HB1.out.trans (hb2.mono s1)
  have HS := hideIt (set_is hw2 (key : Int) ((n0 + 1 : Nat) : Int) (by decide))
  have hE : setOk ⟨100, 0, fun _ => 0⟩ (key : Int) ((n0 + 1 : Nat) : Int) := by unfold setOk; simp only; omega
  have hE1 : setE ⟨100, 0, fun _ => 0⟩ (key : Int) ((n0 + 1 : Nat) : Int) = 0 := by unfold setE; rw [if_pos hE]
  rw [hE1, show ((0 : Nat) : Int) = 0 from rfl] at HS
  have HB2 := hideIt hb2'
  clear hw2 hb2 hb2' HW1 HB1 hE1
  go_wp2_with fail
  refine (HP0.out _).mono ?_
  rintro e w3 ⟨rfl, rfl⟩
  dsimp only
  go_wp2_with fail
  refine (HP1.out _).mono ?_
  rintro e w3 ⟨rfl, rfl⟩
  dsimp only
  go_wp2_with fail
  obtain ⟨n, hnn⟩ : ∃ n, n0 + 1 = n := ⟨_, rfl⟩
  have hnI : (1 : Int) + (n0 : Int) = (n : Int) := by omega
  have hn1 : n ≤ 1000 := by omega
  have hn2 : 1 ≤ n := by omega
  rw [hnI]
  rw [hnn] at HS hE
  clear hnI hn hnn HP0 HP1
  refine HS.out.mono ?_
  rintro e w4 ⟨rfl, ⟨F4, hw4, hf4⟩, o4⟩
  dsimp only
  have hI : Inv w p key n w4 0 := by
    have hs := HB2.out.size
    refine ⟨F4, _, hw4, fun i hi => ?_, HB2.out.trans (o4.below hs (fun k hk => by subst hk; exact hp1)), ?_, ?_, ?_⟩
    · rcases hf4 i hi with h | h
      · subst h; exact hp1
      · omega
    all_goals unfold setW; rw [if_pos hE]
    · rfl
    · rfl
    · show put _ (key : Int).toNat (n : Int).toNat key = n - 0
      simp [put]
  have HI := hideIt hI
  clear hI hw4 hf4 o4 HS hE HB2 s2 s1
  go_wp2
  go_loopw [9, 10] (fun v9 v10 wr => ∃ x T t : Nat, v9 = .int .i64 x ∧ v10 = .int .i64 (T : Int) ∧ T ≤ n + 3 ∧ x ≤ 200 + T ∧ Hid (t + 1 = T) ∧ Hid (Inv w p key n wr t)) (fun _ v10 _ => n + 3 - (intOf v10).toNat)
  case atStart => exact ⟨0, 1, 0, rfl, rfl, by omega, by omega, hideIt rfl, HI⟩
  case round =>
    obtain ⟨x, T, t, rfl, rfl, hT, hx, HT, HJ⟩ := hrel
    clear HI
    have ht1 : t < 1000000000 := by have := HT.out; omega
    by_cases htn : T ≤ n + 2
    · have htI : (T : Int) ≤ (n : Int) + 2 := by omega
      go_upto_block 2 with fail
      go_cut [9, 11] from 41 to 142 (fun v9 _ wx => ∃ y : Nat, v9 = .int .i64 y ∧ y ≤ 200 + T ∧ Hid (Inv w p key n wx t))
      case first =>
        go_wp2_with fail
        go_loopw [9] (fun v9 wr => ∃ x : Nat, v9 = .int .i64 x ∧ x ≤ 200 + T ∧ Hid (Inv w p key n wr t)) (fun v9 _ => 200 - (intOf v9).toNat)
        case atStart => exact ⟨x, rfl, hx, HJ⟩
        case round =>
          clear hx HJ
          obtain ⟨y, rfl, hy, HJ⟩ := hrel
          by_cases hA : y < l.length
          · have hA0 : (0 : Int) ≤ (y : Int) := by omega
            have hA1 : (y : Int) < (l.length : Int) := by omega
            obtain ⟨b, off, rfl, hbl, q0, q1, q2, b0, b1, b2⟩ := HO.out y hA
            obtain ⟨_, _, _, _, hB, _⟩ := HJ.out
            have hBS := hB.size
            have c0 := (hB.cell (p := ⟨b, off + y * 3, none⟩) hbl).trans q0
            have c1 := (hB.cell (p := ⟨b, off + y * 3 + 1, none⟩) hbl).trans q1
            have c2 := (hB.cell (p := ⟨b, off + y * 3 + 2, none⟩) hbl).trans q2
            have hblr : b < wr.heap.size := by omega
            generalize (l[y]).dO = dO at *
            generalize (l[y]).key = ky at *
            generalize (l[y]).n = nn at *
            clear q0 q1 q2 hB
            by_cases hB2 : y < 200
            · by_cases hC : dO < 2
              · have hBL : Below wr.heap.size wr (wr.alloc (.cells #[.int .i64 dO, .int .i64 ky, .int .i64 nn] 32)) := (Below.refl _ _).alloc (Nat.le_refl _) _
                have hJ2 := HJ.out.below hBL
                have HJ2 := hideIt hJ2
                clear hBL
                by_cases hK : ky = (key : Int)
                · have hKb : (ky != (key : Int)) = false := by simp [hK]
                  clear hK hJ2
                  go_wp2
                  go_roundw
                  case rel => exact ⟨y + 1, by go_num, by omega, HJ2⟩
                  case measure => simp [intOf]; omega
                · have hKb : (ky != (key : Int)) = true := by simp [hK]
                  by_cases hD0 : dO = 0
                  · subst hD0
                    have HC := hideIt (HJ.out.setBeside ht1 (.cells #[.int .i64 0, .int .i64 ky, .int .i64 nn] 32) ky nn hK)
                    clear hK hJ2
                    go_wp2_with fail
                    refine HC.out.mono ?_
                    rintro e w6 ⟨⟨v6, rfl⟩, hJ6, hc6⟩
                    dsimp only
                    have HJ6 := hideIt hJ6
                    have d1 : w6.cell? ⟨wr.heap.size, 1, none⟩ = some (.int .i64 ky) := by rw [cell_at hc6]; rfl
                    have d0 : w6.cell? ⟨wr.heap.size, 0, none⟩ = some (.int .i64 0) := by rw [cell_at hc6]; rfl
                    clear hJ6 hc6
                    go_wp2
                    go_roundw
                    case rel => exact ⟨y + 1, by go_num, by omega, HJ6⟩
                    case measure => simp [intOf]; omega
                  · by_cases hD1 : dO = 1
                    · subst hD1
                      have HC := hideIt (hJ2.stop ht1 ky hK)
                      clear hK hJ2
                      go_wp2_with fail
                      refine HC.out.mono ?_
                      rintro e w6 ⟨⟨v6, rfl⟩, hJ6⟩
                      dsimp only
                      have HJ6 := hideIt hJ6
                      clear hJ6
                      go_wp2
                      go_roundw
                      case rel => exact ⟨y + 1, by go_num, by omega, HJ6⟩
                      case measure => simp [intOf]; omega
                    · have hD0b : (dO == 0) = false := by simp [hD0]
                      have hD1b : (dO == 1) = false := by simp [hD1]
                      clear hK hJ2 hD0 hD1
                      go_wp2
                      go_roundw
                      case rel => exact ⟨y + 1, by go_num, by omega, HJ2⟩
                      case measure => simp [intOf]; omega
              · go_wp2_with fail
                go_meet
                exact ⟨y, rfl, hy, HJ⟩
            · go_wp2_with fail
              go_meet
              exact ⟨y, rfl, hy, HJ⟩
          · go_wp2_with fail
            go_meet
            exact ⟨y, rfl, hy, HJ⟩
      case rest =>
        obtain ⟨y, rfl, hy, HJ⟩ := hcut
        have HL := hideIt (HJ.out.left ht1 hk)
        go_wp2_with fail
        refine HL.out.mono ?_
        rintro e w5 ⟨rfl, hJ5⟩
        dsimp only
        have HTK := hideIt (hJ5.tick ht1 hk)
        clear hJ5 HL HJ
        have hTt := HT.out
        have hnT : (n - t = 1) ↔ T = n := by omega
        by_cases hTn : T ≤ n
        · have e1 : decide (t < n) = true := decide_eq_true (by omega)
          have e2 : ((n - t : Nat) : Int) = (n : Int) - (T : Int) + 1 := by omega
          have e3 : (T : Int) ≤ (n : Int) := by omega
          rw [e1, e2]
          clear e1 e2 hTt
          go_wp2_with fail
          refine HTK.out.mono ?_
          rintro e w6 ⟨l6, r6, rfl, hrow, hl6, hiff, hJ6⟩
          dsimp only
          obtain ⟨a6, c6, hv6, hc6⟩ := hrow.shape
          rw [hv6]
          rw [hnT] at hiff
          have HC6 := hideIt hc6
          have HF6 := hideIt hiff
          have HJ6 := hideIt hJ6
          clear hrow hc6 hiff hJ6 hv6 hnT HTK
          go_wp2
          go_loop [15, 16] (fun v15 v16 => ∃ i : Nat, v16 = .int .i64 i ∧ i ≤ l6.length ∧ v15 = .bool (decide (key ∈ l6.take i))) (fun _ v16 => l6.length - (intOf v16).toNat)
          case atStart => exact ⟨0, rfl, Nat.zero_le _, by simp⟩
          case round =>
            obtain ⟨i, rfl, hi, rfl⟩ := hrel
            by_cases hlt : i < l6.length
            · obtain ⟨g6, rfl, cc⟩ := HC6.out i hlt
              have hi0 : (0 : Int) ≤ (i : Int) := by omega
              have hi1 : (i : Int) < (l6.length : Int) := by omega
              have HTK2 := hideIt (List.take_succ_eq_append_getElem hlt)
              generalize l6[i] = z at *
              by_cases hm : key ∈ l6.take i
              · have HM := hideIt hm
                rw [decide_eq_true hm]
                clear hm
                go_wp2
                go_round
                case rel => exact ⟨i + 1, by go_num, by omega, by rw [HTK2.out]; simp [HM.out]⟩
                case measure => simp [intOf]; omega
              · have HM := hideIt hm
                rw [decide_eq_false hm]
                clear hm
                by_cases hz : z = key
                · subst hz
                  go_wp2
                  go_round
                  case rel => exact ⟨i + 1, by go_num, by omega, by rw [HTK2.out]; simp⟩
                  case measure => simp [intOf]; omega
                · have hzb : ((z : Int) == (key : Int)) = false := beq_eq_false_iff_ne.2 (by omega)
                  go_wp2
                  go_round
                  case rel => exact ⟨i + 1, by go_num, by omega, by rw [HTK2.out]; simp [HM.out, Ne.symm hz]⟩
                  case measure => simp [intOf]; omega
            · rw [List.take_of_length_le (by omega)]
              by_cases hTe : T = n
              · rw [decide_eq_true (HF6.out.2 hTe)]
                subst hTe
                go_wp2
                go_roundw
                case rel => exact ⟨y + 1, T + 1, t + 1, by go_num, by go_num, by omega, by omega, hideIt (by have := HT.out; omega), HJ6⟩
                case measure => simp [intOf]
              · rw [decide_eq_false (fun e => hTe (HF6.out.1 e))]
                have hTb : ((T : Int) == (n : Int)) = false := beq_eq_false_iff_ne.2 (by omega)
                go_wp2
                go_roundw
                case rel => exact ⟨y + 1, T + 1, t + 1, by go_num, by go_num, by omega, by omega, hideIt (by have := HT.out; omega), HJ6⟩
                case measure => simp [intOf]; omega
        · have e1 : decide (t < n) = false := decide_eq_false (by omega)
          have e2 : n - t = 0 := by omega
          have e3 : ¬ (T : Int) ≤ (n : Int) := by omega
          rw [e1, e2]
          clear e1 e2 hTt
          go_wp2_with fail
          refine HTK.out.mono ?_
          rintro e w6 ⟨l6, r6, rfl, hrow, hl6, hiff, hJ6⟩
          dsimp only
          obtain ⟨a6, c6, hv6, hc6⟩ := hrow.shape
          rw [hv6]
          rw [hnT] at hiff
          have HC6 := hideIt hc6
          have HF6 := hideIt hiff
          have HJ6 := hideIt hJ6
          clear hrow hc6 hiff hJ6 hv6 hnT HTK
          go_wp2
          go_loop [15, 16] (fun v15 v16 => ∃ i : Nat, v16 = .int .i64 i ∧ i ≤ l6.length ∧ v15 = .bool false) (fun _ v16 => l6.length - (intOf v16).toNat)
          case atStart => exact ⟨0, rfl, Nat.zero_le _, rfl⟩
          case round =>
            obtain ⟨i, rfl, hi, rfl⟩ := hrel
            by_cases hlt : i < l6.length
            · obtain ⟨g6, rfl, cc⟩ := HC6.out i hlt
              have hi0 : (0 : Int) ≤ (i : Int) := by omega
              have hi1 : (i : Int) < (l6.length : Int) := by omega
              have HTK2 := hideIt (List.getElem_mem hlt)
              generalize l6[i] = z at *
              have hz : z ≠ key := fun e => by
                have := HTK2.out
                rw [e] at this
                have := HF6.out.1 this
                omega
              have hzb : ((z : Int) == (key : Int)) = false := beq_eq_false_iff_ne.2 (by omega)
              go_wp2
              go_round
              case rel => exact ⟨i + 1, by go_num, by omega, rfl⟩
              case measure => simp [intOf]; omega
            · have hTb : ((T : Int) == (n : Int)) = false := beq_eq_false_iff_ne.2 (by omega)
              go_wp2
              go_roundw
              case rel => exact ⟨y + 1, T + 1, t + 1, by go_num, by go_num, by omega, by omega, hideIt (by have := HT.out; omega), HJ6⟩
              case measure => simp [intOf]; omega
    · go_wp2
      go_ret
      obtain ⟨_, _, _, _, hB, _⟩ := HJ.out
      exact ⟨rfl, hB⟩
end Go.Proofs.Ytebinckkghmkhaa
