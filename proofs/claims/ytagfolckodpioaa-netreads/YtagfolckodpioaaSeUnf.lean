/- What seal.Unframe answers, whole. -/
import Derived.Test.YtagfolckodpioaaSeUn
namespace Go.Proofs.Ytagfolckodpioaa
open Go.RowKit

/-- The frame that begins at place a: its text, the place behind it, and the error. -/
def unf (l : List UInt8) (a : Nat) : List UInt8 × Nat × Nat :=
  if l.length < a + 8 then ([], 0, 20)
  else if 70000 < numL ((l.drop a).take 4) then ([], 0, 22)
  else if l.length < a + 8 + numL ((l.drop a).take 4) then ([], 0, 20)
  else if numL (((l.drop a).drop 4).take 4) ≠ sumN ((l.drop a).take 4 ++ ((l.drop (a + 8)).take (numL ((l.drop a).take 4)))) then ([], 0, 21)
  else (((l.drop (a + 8)).take (numL ((l.drop a).take 4))), a + 8 + numL ((l.drop a).take 4), 0)
theorem numL_lt (l : List UInt8) (h : l.length = 4) : numL l < 4294967296 := by
  match l, h with
  | [a, b, c, d], _ =>
    have := UInt8.toNat_lt a; have := UInt8.toNat_lt b; have := UInt8.toNat_lt c; have := UInt8.toNat_lt d
    simp only [numL, List.foldl_cons, List.foldl_nil]
    omega
theorem ext_list (s : ByteArray) (k n : Nat) : (s.extract k (k + n)).data.toList = (s.data.toList.drop k).take n := by rw [extract_eq]
theorem ext_head (s : ByteArray) (a : Nat) : ((s.extract a (a + 8)).extract 0 4).data.toList = (s.data.toList.drop a).take 4 := by
  have := ext_list (s.extract a (a + 8)) 0 4
  rw [Nat.zero_add] at this
  rw [this, ext_list, List.drop_zero, List.take_take]; rfl
theorem ext_tail (s : ByteArray) (a : Nat) : ((s.extract a (a + 8)).extract 4 8).data.toList = ((s.data.toList.drop a).drop 4).take 4 := by
  have := ext_list (s.extract a (a + 8)) 4 4
  rw [this, ext_list, List.drop_take, List.take_take]; rfl
set_option maxHeartbeats 4000000 in
set_option maxRecDepth 100000 in
theorem unframe_any (s : ByteArray) (a : Nat) (w : World) (hs : s.size ≤ maxLen) (ha : a ≤ s.size) :
    Calls Try.prog 45 #[.string s, .int .i64 (a : Int)] w fun e w' => e = tupT (unf s.data.toList a) ∧ Below w.heap.size w w' := by
  unfold maxLen at hs
  have ha0 : ¬ ((a : Int) < 0) := by omega
  have ha1 : ¬ ((s.size : Int) < a) := by omega
  have hsl : s.data.toList.length = s.size := by simp
  obtain ⟨hd, hhd⟩ : ∃ hd, hd = s.extract a (a + 8) := ⟨_, rfl⟩
  obtain ⟨sz, hsz⟩ : ∃ sz, sz = numL ((s.data.toList.drop a).take 4) := ⟨_, rfl⟩
  obtain ⟨x, hx⟩ : ∃ x, x = numL (((s.data.toList.drop a).drop 4).take 4) := ⟨_, rfl⟩
  obtain ⟨y, hy⟩ : ∃ y, y = sumN ((s.data.toList.drop a).take 4 ++ (s.data.toList.drop (a + 8)).take sz) := ⟨_, rfl⟩
  have Hy := hideIt hy
  clear hy
  go_enter Try.func45, Try.ntmps45
  go_wp2_with fail
  refine (pieces_new s a _).mono ?_
  rintro e w1 ⟨rfl, hB1⟩
  dsimp only
  go_wp2_with fail
  by_cases h8 : s.size < a + 8
  · refine (piece_no s 8 a _ _ _ (by omega) ha (by omega) hB1.c0 hB1.c1 h8).mono ?_
    rintro e w2 ⟨rfl, rfl⟩
    dsimp only
    go_wp2
    go_ret3
    refine ⟨?_, hB1.below⟩
    unfold unf
    rw [if_pos (by omega)]; rfl
  · have h8' : a + 8 ≤ s.size := by omega
    have Hu := hideIt (show unf s.data.toList a = _ by unfold unf; rw [if_neg (by omega), ← hsz, ← hx, ← Hy.out])
    have hdl : hd.size = 8 := by rw [hhd, ByteArray.size_extract]; omega
    have Hd := hideIt hhd
    have hp := piece_on s 8 a _ _ w w1 (by omega) (by omega) hB1 h8'
    rw [← hhd] at hp
    have hN : ∀ wx, Calls Try.prog 77 #[.string (hd.extract 0 4)] wx fun e w' => e = .returned (.int .u32 (sz : Nat)) ∧ w' = wx := by
      intro wx
      have := number_any (hd.extract 0 4) wx (by rw [ByteArray.size_extract]; omega)
      rwa [hhd, ext_head, ← hsz, ← hhd] at this
    have hM : ∀ wx, Calls Try.prog 77 #[.string (hd.extract 4 8)] wx fun e w' => e = .returned (.int .u32 (x : Nat)) ∧ w' = wx := by
      intro wx
      have := number_any (hd.extract 4 8) wx (by rw [ByteArray.size_extract]; omega)
      rwa [hhd, ext_tail s a, ← hx, ← hhd] at this
    have hszl : sz < 4294967296 := by rw [hsz]; exact numL_lt _ (by simp; omega)
    have HN := hideIt hN
    have HM := hideIt hM
    clear hhd hsz hN hM h8 hx
    refine hp.mono ?_
    clear hp hB1
    rintro e w2 ⟨rfl, hB2⟩
    dsimp only
    go_wp2
    go_quiet (fail)
    go_wp2_with fail
    refine (HN.out _).mono ?_
    rintro e w3 ⟨rfl, rfl⟩
    dsimp only
    have hB3 : ∀ n, Boxes w (w2.drewN n) _ _ s (a + 8) := fun n => hB2.keep (below_drewN (Below.refl _ _) n)
    by_cases hlong : 70000 < sz
    · have hlong' : (70000 : Int) < sz := by omega
      go_wp2
      go_ret3
      refine ⟨?_, (hB3 _).below⟩
      rw [Hu.out, if_pos hlong]; rfl
    · have hlong' : ¬ (70000 : Int) < sz := by omega
      go_wp2_with fail
      by_cases hcut : s.size < a + 8 + sz
      · refine (piece_no s sz (a + 8) _ _ _ (by omega) h8' (by omega) (hB3 _).c0 (hB3 _).c1 hcut).mono ?_
        rintro e w4 ⟨rfl, rfl⟩
        dsimp only
        go_wp2
        go_ret3
        refine ⟨?_, (hB3 _).below⟩
        rw [Hu.out, if_neg hlong, if_pos (by omega)]; rfl
      · obtain ⟨tx, htx⟩ : ∃ tx, tx = s.extract (a + 8) (a + 8 + sz) := ⟨_, rfl⟩
        have hp := fun n => piece_on s sz (a + 8) _ _ w _ (by omega) (by omega) (hB3 n) (by omega)
        simp only [← htx] at hp
        refine (hp _).mono ?_
        clear hp
        rintro e w4 ⟨rfl, hB4⟩
        dsimp only
        have htl : tx.size = sz := by rw [htx, ByteArray.size_extract]; omega
        have Htl := hideIt htl
        have htb : tx.size ≤ 70000 := by omega
        have hfit : (a : Int) + 8 + tx.size ≤ 9223372036854775807 := by omega
        have Htx := hideIt htx
        clear htl htx
        go_wp2_with fail
        refine (HM.out _).mono ?_
        rintro e w5 ⟨rfl, rfl⟩
        dsimp only
        go_wp2_with fail
        have h2 := sum2_any w5.heap.size (hd.extract 0 4) tx (w5.alloc (Obj.cells #[.string (hd.extract 0 4), .string tx] 9)) (by rw [ByteArray.size_extract]; omega) (by omega) (by simp) (by simp)
        rw [show (hd.extract 0 4).data.toList ++ tx.data.toList = (s.data.toList.drop a).take 4 ++ (s.data.toList.drop (a + 8)).take sz by rw [Htx.out, ext_list, Hd.out, ext_head], ← Hy.out] at h2
        refine h2.mono ?_
        clear h2
        rintro e w6 ⟨rfl, rfl⟩
        dsimp only
        have hB5 : ∀ (vs : Array Value) (t : TypeId), Below w.heap.size w (w5.alloc (Obj.cells vs t)) := fun _ _ => hB4.below.alloc hB4.below.size _
        by_cases hsum : x = y
        · have Hsum := hideIt hsum
          have hne : ((x : Int) != (y : Int)) = false := by rw [hsum]; simp
          clear hsum
          go_wp2_with fail
          refine (clone_long tx _ htb).mono ?_
          rintro e w7 ⟨rfl, hb7⟩
          dsimp only
          go_wp2
          go_ret3
          refine ⟨?_, (hB5 _ _).trans (hb7.mono (hB5 _ _).size)⟩
          rw [Hu.out, if_neg hlong, if_neg (by omega), if_neg (fun h => h Hsum.out)]
          show Ending.returned (.tuple #[.string tx, .int .i64 ((a : Int) + 8 + tx.size), .int .i64 0]) = _
          rw [Htl.out, Htx.out, extract_eq]
          simp [tupT]
        · have hne : ((x : Int) != (y : Int)) = true := bne_iff_ne.2 (by omega)
          have Hsum := hideIt hsum
          clear hsum
          go_wp2
          go_ret3
          refine ⟨?_, hB5 _ _⟩
          rw [Hu.out, if_neg hlong, if_neg (by omega), if_pos Hsum.out]; rfl
end Go.Proofs.Ytagfolckodpioaa
