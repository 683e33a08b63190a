/- What the document's TakeInt, TakeText and TakeList answer: the same as package pack's. -/
import Derived.Test.YtfbdhihhimfaaaaRefTake
namespace Go.Proofs.Ytfbdhihhimfaaaa
open Go.RowKit

theorem tkU_zero (l : List UInt8) (a : Int) (h : (tkU l a).2.2 ≠ 0) : (tkU l a).1 = 0 ∧ (tkU l a).2.1 = 0 := by
  unfold tkU at h ⊢
  by_cases ha : a < 0 ∨ (l.length : Int) < a
  · rw [if_pos ha]; simp
  · rw [if_neg ha] at h ⊢
    unfold fin at h ⊢
    by_cases hz : (rd 10 0 0 (l.drop a.toNat)).2.2 = 0
    · rw [if_pos hz] at h; simp at h
    · rw [if_neg hz]; simp
set_option maxHeartbeats 1000000 in
theorem refTakeInt_any (s : ByteArray) (a : Int) (w : World) (hs : s.size ≤ maxLen) :
    Calls Try.prog 21 #[.string s, .int .i64 a] w fun e w' => e = tupI (tkI s.data.toList a) ∧ w' = w := by
  obtain ⟨n, nx, er, hr⟩ := tup_split s.data.toList a
  have hn := tkU_lt s.data.toList a
  have hz := tkU_zero s.data.toList a
  rw [hr] at hn hz
  have ht := refTake_any s a w hs
  rw [hr] at ht
  unfold tup at ht
  have Ht := hideIt ht
  have He : Hid (tupI (tkI s.data.toList a) = tupI (unfoldN n, nx, er)) := by show _ = _; unfold tkI; rw [hr]
  clear ht hr
  simp only at hn hz
  by_cases her : er = 0
  · subst her
    clear hz
    by_cases hev : n % 2 = 0
    · have hu : Hid (unfoldN n = ((n / 2 : Nat) : Int)) := by show _ = _; unfold unfoldN; rw [if_pos hev]
      have hev' : ((n : Int) % 2 == 0) = true := by simp; omega
      go_enter Try.func21, Try.ntmps21
      go_wp2_with fail
      refine Ht.out.mono ?_
      rintro e w' ⟨rfl, rfl⟩
      go_wp2
      go_ret3
      rw [He.out, hu.out]
      exact ⟨by simp [tupI], rfl⟩
    · have hu : Hid (unfoldN n = -((n / 2 : Nat) : Int) - 1) := by show _ = _; unfold unfoldN; rw [if_neg hev]
      have hev' : ((n : Int) % 2 == 0) = false := by simp; omega
      go_enter Try.func21, Try.ntmps21
      go_wp2_with fail
      refine Ht.out.mono ?_
      rintro e w' ⟨rfl, rfl⟩
      go_wp2
      go_ret3
      rw [He.out, hu.out]
      exact ⟨by simp [tupI], rfl⟩
  · obtain ⟨rfl, rfl⟩ := hz her
    have her' : ((er : Int) != 0) = true := by simp; omega
    have hu : Hid (unfoldN 0 = 0) := by show _ = _; decide
    clear hz
    go_enter Try.func21, Try.ntmps21
    go_wp2_with fail
    refine Ht.out.mono ?_
    rintro e w' ⟨rfl, rfl⟩
    go_wp2
    go_ret3
    rw [He.out, hu.out]
    exact ⟨by simp [tupI], rfl⟩
set_option maxHeartbeats 1000000 in
theorem refTakeText_any (s : ByteArray) (a : Int) (w : World) (hs : s.size ≤ maxLen) :
    Calls Try.prog 23 #[.string s, .int .i64 a] w fun e w' => e = tupT (tkT s.data.toList a) ∧ w' = w := by
  obtain ⟨n, nx, er, hr⟩ := tup_split s.data.toList a
  have hn := tkU_lt s.data.toList a
  rw [hr] at hn
  have ht := refTake_any s a w hs
  rw [hr] at ht
  unfold tup at ht
  have Ht := hideIt ht
  clear ht
  have hsl : s.data.toList.length = s.size := by simp
  have hs2 := hs
  unfold maxLen at hs2
  simp only at hn
  by_cases her : er = 0
  · have hnx := (tkU_next s.data.toList a (by rw [hr]; exact her)).2.2
    rw [hr, hsl] at hnx
    simp only at hnx
    subst her
    by_cases hlong : 60000 < n
    · have He := hideIt (tkT_long _ _ hr hlong)
      have hlong' : (60000 : Int) < n := by omega
      clear hr
      go_enter Try.func23, Try.ntmps23
      go_wp2_with fail
      refine Ht.out.mono ?_
      rintro e w' ⟨rfl, rfl⟩
      go_wp2
      go_ret3
      rw [He.out]
      exact ⟨rfl, rfl⟩
    · have hlong' : ¬ (60000 : Int) < n := by omega
      by_cases hcut : s.size < nx + n
      · have He := hideIt (tkT_cut _ _ hr hlong (by omega))
        have hcut' : (s.size : Int) - nx < n := by omega
        clear hr
        go_enter Try.func23, Try.ntmps23
        go_wp2_with fail
        refine Ht.out.mono ?_
        rintro e w' ⟨rfl, rfl⟩
        go_wp2
        go_ret3
        rw [He.out]
        exact ⟨rfl, rfl⟩
      · have He := hideIt (tkT_yes _ _ hr hlong (by omega))
        have hcut' : ¬ (s.size : Int) - nx < n := by omega
        have hcut2 : (nx : Int) + n ≤ s.size := by omega
        clear hr
        go_enter Try.func23, Try.ntmps23
        go_wp2_with fail
        refine Ht.out.mono ?_
        rintro e w' ⟨rfl, rfl⟩
        go_wp2
        go_ret3
        rw [He.out, extract_eq]
        exact ⟨by simp [tupT], rfl⟩
  · have He := hideIt (tkT_err _ _ hr her)
    have her' : ((er : Int) != 0) = true := by simp; omega
    clear hr
    go_enter Try.func23, Try.ntmps23
    go_wp2_with fail
    refine Ht.out.mono ?_
    rintro e w' ⟨rfl, rfl⟩
    go_wp2
    go_ret3
    rw [He.out]
    exact ⟨rfl, rfl⟩
theorem own_stepS {w wr w1 : World} {v v' : Value} {acc : List ByteArray} {x : ByteArray} {o : Obj}
    (hown : wr.ownsRow w.heap.size 9 1 v acc.length (acc.map Value.string)) (hnx : Below w.heap.size w wr)
    (hown' : w1.ownsRow w.heap.size 9 1 v' (acc.length + 1) (acc.map Value.string ++ [Value.string x])) (hgrow : (wr.alloc o).grownBy w1 v.ownBlock) :
    w1.ownsRow w.heap.size 9 1 v' (acc ++ [x]).length ((acc ++ [x]).map Value.string) ∧ Below w.heap.size w w1 := by
  refine ⟨by simpa using hown', (hnx.alloc hnx.size o).grown hgrow (by have := hnx.size; simp; omega) (fun j hj => (hown.lt j hj).1)⟩
theorem sizes_snoc {acc : List ByteArray} {x : ByteArray} (h : sizesOk acc) (hx : x.size ≤ 60000) : sizesOk (acc ++ [x]) := by
  intro t ht
  rcases List.mem_append.1 ht with h1 | h1
  · exact h t h1
  · simp at h1; subst h1; exact hx
set_option maxHeartbeats 2000000 in
set_option maxRecDepth 100000 in
theorem refTakeList_any (s : ByteArray) (a : Int) (w : World) (hs : s.size ≤ maxLen) :
    Calls Try.prog 24 #[.string s, .int .i64 a] w (Taken (tkL s.data.toList a) w) := by
  obtain ⟨n, nx, er, hr⟩ := tup_split s.data.toList a
  have hn := tkU_lt s.data.toList a
  rw [hr] at hn
  have ht := refTake_any s a w hs
  rw [hr] at ht
  unfold tup at ht
  have Ht := hideIt ht
  clear ht
  have hsl : s.data.toList.length = s.size := by simp
  have hs2 := hs
  unfold maxLen at hs2
  simp only at hn
  by_cases her : er = 0
  · have hnx := (tkU_next s.data.toList a (by rw [hr]; exact her)).2.2
    rw [hr, hsl] at hnx
    simp only at hnx
    subst her
    by_cases hlong : 4000 < n
    · have He := hideIt (tkL_long _ _ hr hlong)
      have hlong' : (4000 : Int) < n := by omega
      clear hr
      go_enter Try.func24, Try.ntmps24
      go_wp2_with fail
      refine Ht.out.mono ?_
      rintro e w' ⟨rfl, rfl⟩
      go_wp2
      go_ret3
      rw [He.out]
      exact ⟨none, [], 0, rfl, World.ownsRow_nil _ _ _ _, rfl, fun t ht => by simp at ht, by simp, Below.refl _ _⟩
    · have hlong' : ¬ (4000 : Int) < n := by omega
      rw [tkL_yes _ _ hr hlong]
      clear hr
      obtain ⟨i0, hi, hz0, hz1, hz2⟩ := info_parts info9
      go_enter Try.func24, Try.ntmps24
      go_wp2_with fail
      refine Ht.out.mono ?_
      rintro e w' ⟨rfl, rfl⟩
      clear Ht
      go_wp2
      go_loopw [8, 10, 11] (fun p v c wr => ∃ (k q : Nat) (acc : List ByteArray), k ≤ n ∧ q ≤ s.size ∧ p = .int .i64 (q : Int) ∧ c = .int .i64 (k : Int) ∧ Hid (acc.length = k) ∧ wr.ownsRow w'.heap.size 9 1 v acc.length (acc.map Value.string) ∧ Below w'.heap.size w' wr ∧ Hid (sizesOk acc) ∧ Hid (rdA s.data.toList n [] nx = rdA s.data.toList (n - k) (byt acc) q)) (fun _ _ c _ => n - (intOf c).toNat)
      case atStart => exact ⟨0, nx, [], by omega, hnx, rfl, rfl, rfl, World.ownsRow_nil _ _ _ _, Below.refl _ _, fun t ht => by simp at ht, rfl⟩
      case round =>
        obtain ⟨k, q, acc, hk, hq, rfl, rfl, Hal, hown, hb, Hok, Hr⟩ := hrel
        have hal : acc.length ≤ 4000 := by rw [Hal.out]; omega
        have hsz := hb.size
        by_cases hlt : k < n
        · have hlt' : (k : Int) < n := by omega
          have hfa := tkT_facts s.data.toList (q : Int)
          obtain ⟨tx, nq, er, hT⟩ : ∃ tx nq er, tkT s.data.toList (q : Int) = (tx, nq, er) := ⟨_, _, _, rfl⟩
          have hct := refTakeText_any s (q : Int) wr hs
          rw [hT] at hct hfa
          unfold tupT at hct
          have Hc := hideIt hct
          clear hct
          simp only at hfa
          rw [hsl] at hfa
          obtain ⟨hfa1, hfa2⟩ := hfa
          by_cases her : er = 0
          · subst her
            have Hr2 : Hid (rdA s.data.toList n [] nx = rdA s.data.toList (n - (k + 1)) (byt (acc ++ [⟨tx.toArray⟩])) nq) := by
              show _ = _
              rw [Hr.out, show n - k = (n - (k + 1)) + 1 by omega, rdA_yes _ _ _ _ (by rw [hT]), hT]
              simp [byt]
            clear hT Hr
            go_wp2_with fail
            refine Hc.out.mono ?_
            rintro e w1 ⟨rfl, rfl⟩
            clear Hc
            go_wp2_with (at_builtin; refine wpList_append_own _ rfl _ _ 23 rfl w'.heap.size 9 i0 (.string ⟨#[]⟩) 1 16 Try.underlying23 hi hz0 hz1 hz2 rfl (by decide) _ _ _ rfl (hown.alloc _) ⟨w1.heap.size, 0, none⟩ 1 1 [.string ⟨tx.toArray⟩] rfl rfl (cell_one_new _ _ _) (oneS _) (s3 _ (by omega)) (s4 _ (by omega)) (q5 hsz _) ?_)
            intro v' w2 hown' hgrow _
            obtain ⟨r1, r2⟩ := own_stepS hown hb hown' hgrow
            clear hown hown' hgrow
            go_wp2
            go_roundw
            case rel => exact ⟨k + 1, nq, acc ++ [⟨tx.toArray⟩], by omega, by omega, rfl, by go_num, by show _ = _; rw [List.length_append, Hal.out]; rfl, r1, r2, sizes_snoc Hok.out (by rw [sizeL]; omega), Hr2⟩
            case measure => simp [intOf]; omega
          · have He : Hid (rdA s.data.toList n [] nx = ([], 0, er)) := by
              show _ = _
              rw [Hr.out, show n - k = (n - (k + 1)) + 1 by omega, rdA_no _ _ _ _ (by rw [hT]; exact her), hT]
            have her' : ((er : Int) != 0) = true := by simp; omega
            clear hT Hr hown
            go_wp2_with fail
            refine Hc.out.mono ?_
            rintro e w1 ⟨rfl, rfl⟩
            go_wp2
            go_ret3
            rw [He.out]
            exact ⟨none, [], 0, rfl, World.ownsRow_nil _ _ _ _, rfl, fun t ht => by simp at ht, by simp, hb⟩
        · have hlt' : ¬ (k : Int) < n := by omega
          have He : Hid (rdA s.data.toList n [] nx = (byt acc, q, 0)) := by
            show _ = _
            rw [Hr.out, show n - k = 0 by omega, rdA_zero]
          clear Hr
          obtain ⟨ao, cap, hv⟩ : ∃ ao cap, u10 = .slice ao acc.length cap := by
            rcases hown.2 with ⟨hv, h0⟩ | ⟨g, cap, cur, hv, _⟩
            · exact ⟨none, 0, by rw [hv, h0]⟩
            · exact ⟨_, _, hv⟩
          subst hv
          go_wp2
          go_ret3
          rw [He.out]
          exact ⟨ao, acc, cap, rfl, hown, rfl, Hok.out, hal, hb⟩
  · have He := hideIt (tkL_err _ _ hr her)
    have her' : ((er : Int) != 0) = true := by simp; omega
    clear hr
    go_enter Try.func24, Try.ntmps24
    go_wp2_with fail
    refine Ht.out.mono ?_
    rintro e w' ⟨rfl, rfl⟩
    go_wp2
    go_ret3
    rw [He.out]
    exact ⟨none, [], 0, rfl, World.ownsRow_nil _ _ _ _, rfl, fun t ht => by simp at ht, by simp, Below.refl _ _⟩
end Go.Proofs.Ytfbdhihhimfaaaa
