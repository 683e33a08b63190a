/- The statements' own beginning: a disk does what it must. -/
import Derived.Test.YtpgimffghaelhaaCrash
namespace Go.Proofs.Ytpgimffghaelhaa
open Go.RowKit Go.Maps

/-- A disk whose blocks lie from B on. -/
def DiskB (w : World) (B : Nat) (p : Nat) (S : St) (N : Nat) : Prop := DiskAt w (fun k => B ≤ k ∧ k < w.heap.size) p S N
theorem DiskB.keep {w w' : World} {B p : Nat} {S : St} {N : Nat} (h : DiskB w B p S N) (hb : Below w.heap.size w w') : DiskB w' B p S N :=
  (DiskAt.below h hb).wide (fun k hk _ => ⟨hk.1, by have := hb.size; omega⟩)
theorem appendB {w : World} {B p : Nat} {S : St} {N : Nat} (h : DiskB w B p S N) (hB : B ≤ w.heap.size) (i : Int) (s : ByteArray) (hN : N + 1 < 1099511627776) :
    Calls Try.prog 17 #[.pointer (some ⟨p, 0, none⟩), .int .i64 i, .string s] w fun e w' => e = .returned (.int .i64 (appendE S i s.data.toList : Int)) ∧ DiskB w' B p (appendS S i s.data.toList) (N + 1) ∧ Below B w w' := by
  refine (append_is h i s hN).mono ?_
  rintro e w' ⟨rfl, hd, ho⟩
  refine ⟨rfl, hd.wide ?_, ho.below hB (fun k hk => hk.1)⟩
  rintro k (hk | hk) hl
  · exact ⟨hk.1, hl⟩
  · exact ⟨by omega, hl⟩
theorem syncB {w : World} {B p : Nat} {S : St} {N : Nat} (h : DiskB w B p S N) (hB : B ≤ w.heap.size) (hN : N + 1 < 1099511627776) :
    Calls Try.prog 18 #[.pointer (some ⟨p, 0, none⟩)] w fun e w' => e = .returned (.int .i64 (syncE S : Int)) ∧ DiskB w' B p (syncS S) (N + 1) ∧ Below B w w' := by
  refine (sync_is h hN (fun k hk => hk.2)).mono ?_
  rintro e w' ⟨rfl, hd, ho⟩
  exact ⟨rfl, hd.wide (fun k hk hl => ⟨hk.1, hl⟩), ho.below hB (fun k hk => hk.1)⟩
theorem fields_is {w : World} {F : Nat → Prop} {p : Nat} {S : St} {N : Nat} (h : DiskAt w F p S N) :
    Calls Try.prog 29 #[.pointer (some ⟨p, 0, none⟩)] w (fun e w' => e = .returned (.int .i64 (S.room : Int)) ∧ Below w.heap.size w w') ∧
    Calls Try.prog 25 #[.pointer (some ⟨p, 0, none⟩)] w (fun e w' => e = .returned (.int .i64 (tot S.seg 1000 : Int)) ∧ Below w.heap.size w w') ∧
    Calls Try.prog 30 #[.pointer (some ⟨p, 0, none⟩)] w (fun e w' => e = .returned (.int .i64 (S.age : Int)) ∧ Below w.heap.size w w') := by
  obtain ⟨mb, ch, fs, ff, fm, rb, cp, D, hc, r⟩ := h
  exact ⟨field_any w p _ hc.cells _ 29 0 rfl (.inl ⟨rfl, rfl⟩), field_any w p _ hc.cells _ 25 1 rfl (.inr (.inl ⟨rfl, rfl⟩)), field_any w p _ hc.cells _ 30 7 rfl (.inr (.inr ⟨rfl, rfl⟩))⟩
def b1 : St := appendS (newS 256) 3 [97, 98, 99, 100]
def b2 : St := syncS b1
def b3 : St := appendS b2 3 [101, 102, 103, 104]
def b4 : St := crashS b3 [2]
theorem b1E : appendE (newS 256) 3 [97, 98, 99, 100] = 0 := by decide +kernel
theorem b2E : syncE b1 = 0 := by decide +kernel
theorem b3E : appendE b2 3 [101, 102, 103, 104] = 0 := by decide +kernel
theorem b4E : crashN b3 = 1 := by decide +kernel
theorem b5E : readE b4 3 = 0 := by decide +kernel
theorem b5V : readV b4 3 = [97, 98, 99, 100, 101, 102] := by decide +kernel
theorem b6E : tot b4.seg 1000 = 6 := by decide +kernel
theorem b7E : b4.room = 256 := by decide +kernel
theorem b8E : b4.age = 1 := by decide +kernel
set_option maxHeartbeats 2000000 in
set_option maxRecDepth 100000 in
theorem begun_any (w : World) : Calls Try.prog 9 #[] w fun e w' => e = .returned (.bool true) ∧ Below w.heap.size w w' := by
  have Hnew := hideIt (new_good 256 w (by omega) (by omega))
  go_enter Try.func9, Try.ntmps9
  go_wp2_with fail
  refine Hnew.out.mono ?_
  rintro e w1 ⟨p, rfl, hd1, hb1⟩
  dsimp only
  have Hb1 := hideIt hb1
  have s1 := hb1.size
  have H1 := hideIt (appendB (B := w.heap.size) (show DiskB w1 w.heap.size p (newS 256) 0 from hd1) s1 3 ⟨#[97, 98, 99, 100]⟩ (by omega))
  have e1 : appendE (newS 256) 3 (⟨#[97, 98, 99, 100]⟩ : ByteArray).data.toList = 0 := b1E
  rw [e1] at H1
  clear hd1 Hnew hb1 e1
  go_wp2_with fail
  refine H1.out.mono ?_
  rintro e w2 ⟨rfl, hd2, hb2⟩
  dsimp only
  have s2 : w.heap.size ≤ w2.heap.size := Nat.le_trans s1 hb2.size
  have Hb2 := hideIt (Hb1.out.trans hb2)
  have H2 := hideIt (syncB (show DiskB w2 w.heap.size p b1 1 from hd2) s2 (by omega))
  rw [b2E] at H2
  clear hd2 H1 Hb1 hb2
  go_wp2_with fail
  refine H2.out.mono ?_
  rintro e w3 ⟨rfl, hd3, hb3⟩
  dsimp only
  have s3 : w.heap.size ≤ w3.heap.size := Nat.le_trans s2 hb3.size
  have Hb3 := hideIt (Hb2.out.trans hb3)
  have H3 := hideIt (appendB (B := w.heap.size) (show DiskB w3 w.heap.size p b2 2 from hd3) s3 3 ⟨#[101, 102, 103, 104]⟩ (by omega))
  have e3 : appendE b2 3 (⟨#[101, 102, 103, 104]⟩ : ByteArray).data.toList = 0 := b3E
  rw [e3] at H3
  clear hd3 H2 Hb2 hb3 e3
  go_wp2_with fail
  refine H3.out.mono ?_
  rintro e w4 ⟨rfl, hd4, hb4⟩
  dsimp only
  have s4 : w.heap.size ≤ w4.heap.size := Nat.le_trans s3 hb4.size
  have Hb4 := hideIt (Hb3.out.trans hb4)
  have Hd4 := hideIt hd4
  clear hd4 H3 Hb3 hb4
  have hK : Keep (w4.alloc (Obj.cells #[Value.int IntKind.i64 2] 3)) (fun k => w.heap.size ≤ k ∧ k < w4.heap.size) (some ⟨w4.heap.size, 0, none⟩) [2] := by
    refine ⟨w4.heap.size, 0, fun j hj => ?_⟩
    obtain rfl : j = 0 := by simpa using hj
    exact ⟨rfl, by simp, fun h => by omega, by simp, by simp, by simp⟩
  have hd4 : DiskAt (w4.alloc (Obj.cells #[Value.int IntKind.i64 2] 3)) (fun k => w.heap.size ≤ k ∧ k < w4.heap.size) p b3 3 := Hd4.out.below ((Below.refl _ w4).alloc (Nat.le_refl _) _)
  have H4 := hideIt (crash_is hd4 (by omega) (fun k hk => by simp; omega) _ [2] 1 hK)
  rw [b4E] at H4
  have hs5 : w4.heap.size ≤ (w4.alloc (Obj.cells #[Value.int IntKind.i64 2] 3)).heap.size := by simp
  have ha4 : Below w.heap.size w (w4.alloc (Obj.cells #[Value.int IntKind.i64 2] 3)) := Hb4.out.alloc s4 _
  have Ha4 := hideIt ha4
  clear hK hd4 Hd4 Hb4 ha4
  go_wp2_with fail
  refine H4.out.mono ?_
  rintro e w5 ⟨rfl, hd5, ho5⟩
  dsimp only
  have hb5 : Below w.heap.size w w5 := Ha4.out.trans (ho5.below (by omega) (fun k hk => hk.1))
  have hd5' : DiskB w5 w.heap.size p b4 4 := DiskAt.wide (show DiskAt w5 _ p b4 4 from hd5) (fun k hk hl => ⟨hk.1, hl⟩)
  have H5 := hideIt (read_is hd5' 3 (by decide))
  rw [b5E, b5V] at H5
  have Hb5 := hideIt hb5
  have Hd5 := hideIt hd5'
  clear hd5 ho5 hb5 hd5' H4 Ha4 hs5
  go_wp2_with fail
  refine H5.out.mono ?_
  rintro e w6 ⟨rfl, hb6⟩
  dsimp only
  have hd6 := Hd5.out.keep hb6
  have Hb6 := hideIt (Hb5.out.trans (hb6.mono Hb5.out.size))
  obtain ⟨hr, hu, ha⟩ := fields_is hd6
  have Hu := hideIt hu
  rw [b6E] at Hu
  have Hd6 := hideIt hd6
  clear H5 Hb5 Hd5 hb6 hr hu ha hd6
  go_wp2_with fail
  refine Hu.out.mono ?_
  rintro e w7 ⟨rfl, hb7⟩
  dsimp only
  have hd7 := Hd6.out.keep hb7
  have Hb7 := hideIt (Hb6.out.trans (hb7.mono Hb6.out.size))
  obtain ⟨hr, hu, ha⟩ := fields_is hd7
  have Hr := hideIt hr
  rw [b7E] at Hr
  have Hd7 := hideIt hd7
  clear Hu Hb6 Hd6 hb7 hr hu ha hd7
  go_wp2_with fail
  refine Hr.out.mono ?_
  rintro e w8 ⟨rfl, hb8⟩
  dsimp only
  have hd8 := Hd7.out.keep hb8
  have Hb8 := hideIt (Hb7.out.trans (hb8.mono Hb7.out.size))
  obtain ⟨hr, hu, ha⟩ := fields_is hd8
  have Hg := hideIt ha
  rw [b8E] at Hg
  clear Hr Hb7 Hd7 hb8 hr hu ha hd8
  go_wp2_with fail
  refine Hg.out.mono ?_
  rintro e w9 ⟨rfl, hb9⟩
  dsimp only
  go_wp2
  go_ret
  exact ⟨rfl, Hb8.out.trans (hb9.mono Hb8.out.size)⟩
end Go.Proofs.Ytpgimffghaelhaa
