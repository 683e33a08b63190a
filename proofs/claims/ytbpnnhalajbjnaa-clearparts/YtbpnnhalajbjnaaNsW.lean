/- ClearNets, walked. -/
import Derived.Test.YtbpnnhalajbjnaaRNt
import Derived.Test.YtbpnnhalajbjnaaZrW
import Derived.Deep.QuietTactic
namespace Go.Proofs.Ytbpnnhalajbjnaa
open Go.RowKit
set_option linter.all false
theorem neq31 (a b c : Int) (w : World) : (binOp .neq 31 (.agg #[.int .i64 a, .int .i64 b, .int .i64 c]) (.agg #[.int .i64 a, .int .i64 b, .int .i64 c])).run Try.prog w = .ok (.bool false) w := by
  simp [go_sem]
set_option maxHeartbeats 4000000 in
set_option maxRecDepth 100000 in
theorem sameP_is (v v' : Value) (l : List PosV) (w : World) (h : Poss w v l) (h' : Poss w v' l) : Calls Try.prog 11 #[v, v'] w fun e w' => e = .returned (.bool true) ∧ Below w.heap.size w w' := by
  obtain ⟨a, c, rfl, h8, hr⟩ := h.poss
  obtain ⟨a', c', rfl, h8', hr'⟩ := h'.poss
  have HH := hideIt hr
  have HM := hideIt hr'
  clear hr hr' h h'
  go_enter Try.func11, Try.ntmps11
  go_wp2
  go_loopw [5] (fun v wr => ∃ t : Nat, v = .int .i64 t ∧ t ≤ l.length ∧ Hid (Below w.heap.size w wr)) (fun v _ => l.length - (RowKit.intOf v).toNat)
  case atStart => exact ⟨0, rfl, Nat.zero_le _, hideIt (Below.refl _ _)⟩
  case round =>
    obtain ⟨t, rfl, ht, HR⟩ := hrel
    by_cases hlt : t < l.length
    · have hltI : (t : Int) < (l.length : Int) := by omega
      have ht0 : (0 : Int) ≤ (t : Int) := by omega
      have hw : IntKind.i64.wrap ((t : Int) + 1) = ((t + 1 : Nat) : Int) := by rw [IntKind.wrap_i64]; omega
      have hB := HR.out
      obtain ⟨b, off, rfl, hbl, q0, q1, q2⟩ := HH.out t hlt
      have hblr : b < wr.heap.size := Nat.lt_of_lt_of_le hbl hB.size
      have c0 := (hB.cell (p := ⟨b, off + t * 3, none⟩) hbl).trans q0
      have c1 := (hB.cell (p := ⟨b, off + t * 3 + 1, none⟩) hbl).trans q1
      have c2 := (hB.cell (p := ⟨b, off + t * 3 + 2, none⟩) hbl).trans q2
      clear q0 q1 q2
      obtain ⟨b', off', rfl, hbl', q0, q1, q2⟩ := HM.out t hlt
      have hblr' : b' < wr.heap.size := Nat.lt_of_lt_of_le hbl' hB.size
      have d0 := (hB.cell (p := ⟨b', off' + t * 3, none⟩) hbl').trans q0
      have d1 := (hB.cell (p := ⟨b', off' + t * 3 + 1, none⟩) hbl').trans q1
      have d2 := (hB.cell (p := ⟨b', off' + t * 3 + 2, none⟩) hbl').trans q2
      clear q0 q1 q2 hB HH HM
      generalize l[t] = en at *
      obtain ⟨x, y, z⟩ := en
      dsimp only at c0 c1 c2 d0 d1 d2
      have q1 := fun W => neq31 x y z W
      go_wp2_with fail
      go_quiet (fail)
      go_wp2
      go_roundw
      case rel => exact ⟨t + 1, by go_num, by omega, hideIt (below_drewN HR.out _)⟩
      case measure => simp [RowKit.intOf]; omega
    · have hltI : ¬ (t : Int) < (l.length : Int) := by omega
      clear HH HM
      go_wp2
      go_ret
      exact ⟨rfl, HR.out⟩
theorem netL_len (l : List FillV) : (netL l).1.length ≤ 8 := by
  unfold netL
  split
  · simp
  · exact posT_len _ 8
set_option maxHeartbeats 4000000 in
set_option maxRecDepth 100000 in
theorem nets_walk (v : Value) (l : List FillV) (w : World) (h : Fils w v l) : Calls Try.prog 3 #[v] w fun e w' => e = .returned (.bool true) ∧ Below w.heap.size w w' := by
  have HN := hideIt (net_is v l w h)
  have HR := hideIt (fun W (hW : Below w.heap.size w W) => rNet_is v l W (h.keep hW))
  have HLV := hideIt (fun W => live_is W)
  have HSM := hideIt (fun u u' W (hu : Poss W u (netL l).1) (hu' : Poss W u' (netL l).1) => sameP_is u u' (netL l).1 W hu hu')
  have hln := netL_len l
  obtain ⟨a, c, rfl⟩ := h.slice
  clear h
  unfold NetB at HN HR
  generalize netL l = NL at *
  obtain ⟨np, ne⟩ := NL
  dsimp only at HN HR HSM hln
  go_enter Try.func3, Try.ntmps3
  go_wp2_with fail
  refine HN.out.mono ?_
  rintro e w1 ⟨na, nc, rfl, ho, hb⟩
  dsimp only
  have O1 := hideIt ho
  have B1 := hideIt hb
  clear ho hb HN
  go_wp2_with fail
  refine (HR.out _ B1.out).mono ?_
  rintro e w2 ⟨ra, rc, rfl, ho, hb⟩
  dsimp only
  have P1 : Hid (Poss w2 (.slice na np.length nc) np) := own_sgot (own_keep O1.out hb) (by omega)
  have P2 : Hid (Poss w2 (.slice ra np.length rc) np) := own_sgot ho (by omega)
  have B2 := hideIt (below_via B1.out hb)
  clear ho hb HR O1 B1
  go_wp2_with fail
  refine (HSM.out _ _ _ P1.out P2.out).mono ?_
  rintro e w3 ⟨rfl, hb⟩
  dsimp only
  have B3 := hideIt (below_via B2.out hb)
  clear hb HSM P1 P2 B2
  go_wp2_with fail
  refine (HLV.out _).mono ?_
  rintro e w4 ⟨rfl, hb⟩
  dsimp only
  have B4 := hideIt (below_via B3.out hb)
  clear hb B3
  go_wp2
  go_ret
  exact ⟨rfl, B4.out⟩
end Go.Proofs.Ytbpnnhalajbjnaa
