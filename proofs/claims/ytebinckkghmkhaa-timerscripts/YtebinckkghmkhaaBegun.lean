/- The statements' own small functions: pick, same, begun. -/
import Derived.Test.YtebinckkghmkhaaTick
namespace Go.Proofs.Ytebinckkghmkhaa
open Go.RowKit

def pickN (c : Int) (n : Nat) : Nat := (if c < 0 then -(c + 1) else c).toNat % n
theorem pickN_lt (c : Int) (n : Nat) (h : 0 < n) : pickN c n < n := Nat.mod_lt _ h
set_option maxHeartbeats 1000000 in
theorem pick_is (c : Int) (n : Nat) (w : World) (h0 : -9223372036854775808 ≤ c) (h1 : c ≤ 9223372036854775807) (hn : 0 < n) (hn2 : n < 4611686018427387904) :
    Calls Try.prog 13 #[.int .i64 c, .int .i64 (n : Int)] w fun e w' => e = .returned (.int .i64 (pickN c n : Int)) ∧ w' = w := by
  unfold pickN
  by_cases hc : c < 0
  · rw [if_pos hc]
    obtain ⟨d, hd⟩ : ∃ d : Nat, -(c + 1) = (d : Int) := Int.eq_ofNat_of_zero_le (by omega)
    rw [hd, Int.toNat_natCast]
    have hcd : c + 1 = -(d : Int) := by omega
    have hdb : d < 9223372036854775808 := by omega
    have hw : c = -(d : Int) - 1 := by omega
    subst hw
    clear hd hcd
    go_enter Try.func13, Try.ntmps13
    go_wp2
    go_ret
    exact ⟨rfl, rfl⟩
  · rw [if_neg hc]
    obtain ⟨d, rfl⟩ : ∃ d : Nat, c = (d : Int) := Int.eq_ofNat_of_zero_le (by omega)
    rw [Int.toNat_natCast]
    go_enter Try.func13, Try.ntmps13
    go_wp2
    go_ret
    exact ⟨rfl, rfl⟩
theorem SRow.shape {w : World} {l : List Nat} {r : Option (Nat × Nat)} (h : SRow w l r) : ∃ a cap, sval l r = .slice a l.length cap ∧ ∀ j (hj : j < l.length), ∃ g, a = some ⟨g, 0, none⟩ ∧ w.cell? ⟨g, j, none⟩ = some (.int .i64 (l[j] : Int)) := by
  cases r with
  | none => have : l = [] := h; subst this; exact ⟨none, 0, rfl, fun j hj => by cases hj⟩
  | some gc => exact ⟨_, _, rfl, fun j hj => ⟨gc.1, rfl, IRow.cell h j hj⟩⟩
set_option maxHeartbeats 1000000 in
theorem same_is {w : World} {la lb : List Nat} {ra rb : Option (Nat × Nat)} (ha : SRow w la ra) (hb : SRow w lb rb) (hl : la.length ≤ 1000000) :
    Calls Try.prog 15 #[sval la ra, sval lb rb] w fun e w' => e = .returned (.bool (decide (la = lb))) ∧ Below w.heap.size w w' := by
  obtain ⟨a, ca, ea, fa⟩ := ha.shape
  obtain ⟨b, cb, eb, fb⟩ := hb.shape
  rw [ea, eb]
  have FA := hideIt fa
  have FB := hideIt fb
  clear ea eb fa fb ha hb
  by_cases hlen : la.length = lb.length
  · have HL := hideIt hlen
    rw [hlen] at hl ⊢
    have HLL := hideIt hlen
    clear hlen
    go_enter Try.func15, Try.ntmps15
    go_wp2
    go_loopw [5] (fun i wr => ∃ t n : Nat, t ≤ lb.length ∧ i = .int .i64 t ∧ wr = w.drewN n ∧ Hid (la.take t = lb.take t)) (fun i _ => lb.length - (intOf i).toNat)
    case atStart => exact ⟨0, 0, Nat.zero_le _, rfl, rfl, hideIt rfl⟩
    case round =>
      obtain ⟨t, n, ht, rfl, rfl, HE⟩ := hrel
      by_cases hlt : t < lb.length
      · have hlt2 : t < la.length := by rw [HLL.out]; exact hlt
        obtain ⟨g, rfl, cA⟩ := FA.out t hlt2
        obtain ⟨g2, rfl, cB⟩ := FB.out t hlt
        have HTA := hideIt (List.take_succ_eq_append_getElem hlt2)
        have HTB := hideIt (List.take_succ_eq_append_getElem hlt)
        have HX := hideIt (List.getElem?_eq_getElem hlt2)
        have HY := hideIt (List.getElem?_eq_getElem hlt)
        generalize la[t] = x at *
        generalize lb[t] = y at *
        have ht0 : (0 : Int) ≤ (t : Int) := by omega
        have ht1 : (t : Int) < (lb.length : Int) := by omega
        have hcA : (w.drewN n).cell? ⟨g, t, none⟩ = some (.int .i64 (x : Int)) := by simpa using cA
        have hcB : (w.drewN n).cell? ⟨g2, t, none⟩ = some (.int .i64 (y : Int)) := by simpa using cB
        generalize hW : w.drewN n = W at *
        have HW := hideIt hW
        clear cA cB hW
        by_cases hxy : x = y
        · subst hxy
          go_wp2
          go_quiet (fail)
          go_wp2
          go_roundw
          case rel =>
            rename_i nq
            exact ⟨t + 1, n + nq, by omega, by go_num, by rw [← HW.out]; exact World.drewN_drewN _ _ _, hideIt (by rw [HTA.out, HTB.out, HE.out])⟩
          case measure => simp [intOf]; omega
        · have hne : ((x : Int) != (y : Int)) = true := by simp; omega
          go_wp2
          go_quiet (fail)
          go_wp2
          go_ret
          rename_i nq
          refine ⟨?_, ?_⟩
          · rw [decide_eq_false]
            · rfl
            · intro e
              have h1 := HX.out
              rw [e, HY.out] at h1
              cases h1
              exact hxy rfl
          · rw [← HW.out]
            exact below_drewN (below_drewN (Below.refl _ _) _) _
      · go_wp2
        go_ret
        have e : la = lb := by
          have h1 := HE.out
          rwa [List.take_of_length_le (by rw [HLL.out]; omega), List.take_of_length_le (by omega)] at h1
        rw [decide_eq_true e]
        exact ⟨rfl, below_drewN (Below.refl _ _) _⟩
  · have hne : (((la.length : Nat) : Int) != ((lb.length : Nat) : Int)) = true := by simp; omega
    rw [decide_eq_false (fun e => hlen (by rw [e]))]
    go_enter Try.func15, Try.ntmps15
    go_wp2
    go_ret
    exact ⟨rfl, Below.refl _ _⟩
/-- The wheel of the document's example. -/
def S0 : Wh := ⟨3, 0, fun _ => 0⟩
def S3 : Wh := setW (setW (setW S0 2 1) 0 2) 1 1
theorem row2 (w : World) : SRow (w.alloc (.cells #[.int .i64 1, .int .i64 2] 3)) [1, 2] (some (w.heap.size, 2)) :=
  ⟨#[.int .i64 1, .int .i64 2], heap_alloc_new w _, by simp, by decide, rfl, rfl⟩
set_option maxHeartbeats 4000000 in
set_option maxRecDepth 100000 in
theorem begun_is (w : World) : Calls Try.prog 8 #[] w fun e w' => e = .returned (.bool true) ∧ Below w.heap.size w w' := by
  have HN := hideIt (new_good 3 w (by decide) (by decide))
  go_enter Try.func8, Try.ntmps8
  go_wp2_with fail
  refine HN.out.mono ?_
  rintro e w1 ⟨p, rfl, hw1, hb1, hp1⟩
  dsimp only
  have H1 := hideIt (set_is hw1 2 1 (by decide))
  rw [show setE ⟨3, 0, fun _ => 0⟩ 2 1 = 0 from rfl] at H1
  have s1 := hb1.size
  clear hw1
  go_wp2_with fail
  refine H1.out.mono ?_
  rintro e w2 ⟨rfl, ⟨F2, hw2, hf2⟩, o2⟩
  dsimp only
  have hb2 : Below w.heap.size w w2 := hb1.trans (o2.below s1 (fun k hk => by subst hk; exact hp1))
  have hF2 : ∀ k, F2 k → w.heap.size ≤ k := fun k hk => by
    rcases hf2 k hk with h | h
    · subst h; exact hp1
    · omega
  have H2 := hideIt (set_is hw2 0 2 (by decide))
  rw [show setE (setW ⟨3, 0, fun _ => 0⟩ 2 1) 0 2 = 0 from rfl] at H2
  have s2 := hb2.size
  clear hw2 hf2 o2 H1
  go_wp2_with fail
  refine H2.out.mono ?_
  rintro e w3 ⟨rfl, ⟨F3, hw3, hf3⟩, o3⟩
  dsimp only
  have hb3 : Below w.heap.size w w3 := hb2.trans (o3.below s2 hF2)
  have hF3 : ∀ k, F3 k → w.heap.size ≤ k := fun k hk => by
    rcases hf3 k hk with h | h
    · exact hF2 k h
    · omega
  have H3 := hideIt (set_is hw3 1 1 (by decide))
  rw [show setE (setW (setW ⟨3, 0, fun _ => 0⟩ 2 1) 0 2) 1 1 = 0 from rfl] at H3
  have s3 := hb3.size
  clear hw3 hf3 o3 H2
  go_wp2_with fail
  refine H3.out.mono ?_
  rintro e w4 ⟨rfl, ⟨F4, hw4, hf4⟩, o4⟩
  dsimp only
  have hb4 : Below w.heap.size w w4 := hb3.trans (o4.below s3 hF3)
  have hF4 : ∀ k, F4 k → w.heap.size ≤ k := fun k hk => by
    rcases hf4 k hk with h | h
    · exact hF3 k h
    · omega
  have H4 := hideIt (tick_is (S := S3) hw4 (by decide))
  have s4 := hb4.size
  clear hw4 hf4 o4 H3
  go_wp2_with fail
  refine H4.out.mono ?_
  rintro e w5 ⟨r, rfl, hrow, hfr, hw5, o5⟩
  dsimp only
  have hb5 : Below w.heap.size w w5 := hb4.trans (o5.below s4 hF4)
  have s5 := hb5.size
  have hdl : dueL S3 = [1, 2] := by decide
  rw [hdl] at hrow ⊢
  have H5 := hideIt (left_is hw5 0 (by decide))
  rw [show leftV (tickS S3) 0 = 1 from rfl, show decide ((1 : Nat) ≠ 0) = true from rfl] at H5
  have HW5 := hideIt hw5
  have HROW := hideIt hrow
  generalize hv : sval [1, 2] r = vr at *
  have HV := hideIt hv
  clear hw5 hrow o5 H4 hdl hv
  go_wp2_with fail
  refine H5.out.mono ?_
  rintro e w6 ⟨rfl, hb6⟩
  dsimp only
  have hb6' : Below w.heap.size w w6 := hb5.trans (hb6.mono s5)
  have s6 := hb6.size
  have hw6 := HW5.out.below hb6
  have hrow6 : SRow w6 [1, 2] r := HROW.out.keep (fun g c e => hb6.block g (by
    have := HROW.out
    subst e
    exact IRow.lt this))
  have hw7 : WheelAt (w6.alloc (.cells #[.int .i64 1, .int .i64 2] 3)) F4 p (tickS S3) := hw6.keep (by simp) (fun i _ hi => heap_alloc_old w6 _ hi)
  have hrow7 : SRow (w6.alloc (.cells #[.int .i64 1, .int .i64 2] 3)) [1, 2] r := hrow6.keep (fun g c e => Lib.alloc_old w6 _ g (by subst e; exact IRow.lt hrow6))
  have H6 := hideIt (same_is hrow7 (row2 w6) (by decide))
  rw [HV.out, show decide (([1, 2] : List Nat) = [1, 2]) = true from by decide] at H6
  have hb7 : Below w.heap.size w (w6.alloc (.cells #[.int .i64 1, .int .i64 2] 3)) := hb6'.alloc (by omega) _
  have HW7 := hideIt hw7
  have s7 : w6.heap.size + 1 = (w6.alloc (.cells #[.int .i64 1, .int .i64 2] 3)).heap.size := by simp
  have HS : sval [1, 2] (some (w6.heap.size, 2)) = .slice (some ⟨w6.heap.size, 0, none⟩) 2 2 := rfl
  rw [HS] at H6
  have HB7 := hideIt hb7
  clear hw6 hrow6 hw7 hrow7 H5 HW5 HROW HS hb7
  go_wp2_with fail
  refine H6.out.mono ?_
  rintro e w8 ⟨rfl, hb8⟩
  dsimp only
  have hw8 := HW7.out.below hb8
  have hb8' : Below w.heap.size w w8 := HB7.out.trans (hb8.mono (by simp; omega))
  have H7 := hideIt (len_is hw8)
  have H8 := hideIt (now_is hw8)
  rw [show cnt (tickS S3).left (tickS S3).keys = 1 from rfl] at H7
  rw [show (tickS S3).now = 1 from rfl] at H8
  clear hw8 H6
  go_wp2_with fail
  refine H7.out.mono ?_
  rintro e w9 ⟨rfl, rfl⟩
  dsimp only
  go_wp2_with fail
  refine H8.out.mono ?_
  rintro e w9 ⟨rfl, rfl⟩
  dsimp only
  go_wp2
  go_ret
  exact ⟨rfl, hb8'⟩
end Go.Proofs.Ytebinckkghmkhaa
