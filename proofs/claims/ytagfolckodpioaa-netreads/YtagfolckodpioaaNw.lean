/- A net in a world, and what New, full and has answer; packets as keys of a map. -/
import Derived.Test.YtagfolckodpioaaMay
import Derived.DeepKeys5
import Derived.Maps.Keyed
import Derived.Maps.OwnOps
namespace Go.Proofs.Ytagfolckodpioaa
open Go.RowKit Go.Maps

theorem pk_law : WideMaps.KeyLaw Try.prog 56 := deep_law (m := 2) (by omega) (by kernel_rfl) (by kernel_rfl) (by kernel_rfl)
theorem pk_keyed : Keyed Try.prog 56 := Keyed.of_law pk_law
/-- A packet. -/
structure PkV where
  frm : Int
  dst : Int
  text : ByteArray
def pkV (p : PkV) : Value := .agg #[.int .i64 p.frm, .int .i64 p.dst, .string p.text]
def pkK (p : PkV) : Lit := .string (keyBytes [.int .i64 p.frm, .int .i64 p.dst, .string p.text.data.toList])
def PkOk (p : PkV) : Prop := (Lit.int .i64 p.frm).wf = true ∧ (Lit.int .i64 p.dst).wf = true ∧ p.text.size ≤ maxLen
theorem pk_formed (p : PkV) : (pkV p).formed Try.prog 56 = true := by kernel_rfl
theorem pk_type : Try.prog.keyType 56 = true := by kernel_rfl
theorem u3 : Try.prog.underlying 3 = some (.int .i64) := by kernel_rfl
theorem u9 : Try.prog.underlying 9 = some .string := by kernel_rfl
theorem c56 : Try.prog.cellsOf 56 = 3 := by kernel_rfl
theorem c3 : Try.prog.cellsOf 3 = 1 := by kernel_rfl
theorem c9 : Try.prog.cellsOf 9 = 1 := by kernel_rfl
theorem big_types : Try.prog.types.size + 1 = (Try.prog.types.size - 1) + 1 + 1 := by
  have : 0 < Try.prog.types.size := by
    have h : decide (0 < Try.prog.types.size) = true := by kernel_rfl
    exact of_decide_eq_true h
  omega
theorem pk_key (p : PkV) (h : PkOk p) : keyOf Try.prog 56 (pkV p) = some (pkK p) := by
  obtain ⟨h1, h2, h3⟩ := h
  have hf := pk_formed p
  unfold keyOf
  rw [Try.underlying56]
  simp only [pk_type, hf, Bool.and_self, if_true]
  have e3 : ∀ d x, (Lit.int .i64 x).wf = true → Try.prog.keyLits (d + 1) 3 [.int .i64 x] = some [.int .i64 x] := by
    intro d x hx
    unfold Program.keyLits
    rw [u3]
    simp only
    rw [if_pos ⟨trivial, hx⟩]
  have e9 : ∀ d, Try.prog.keyLits (d + 1) 9 [.string p.text] = some [.string p.text.data.toList] := by
    intro d
    unfold Program.keyLits
    rw [u9]
    simp only
    rw [if_pos h3]
  obtain ⟨d, hd⟩ : ∃ d, Try.prog.types.size + 1 = d + 1 + 1 := ⟨_, big_types⟩
  rw [hd]
  have e : Try.prog.keyLits (d + 1 + 1) 56 (pkV p).cells.toList = some [.int .i64 p.frm, .int .i64 p.dst, .string p.text.data.toList] := by
    have hc : (pkV p).cells.toList = [.int .i64 p.frm, .int .i64 p.dst, .string p.text] := rfl
    rw [hc]
    unfold Program.keyLits
    rw [Try.underlying56]
    simp only
    rw [c56, if_pos ⟨rfl, by kernel_rfl⟩]
    simp only [List.mapM_cons, List.mapM_nil, c3, c9, List.drop_zero, List.drop_succ_cons, List.take_succ_cons, List.take_zero, e3 d _ h1, e3 d _ h2, e9 d]
    rfl
  rw [e]
  rfl
/-- The net's own block. -/
def netC (room : Int) (row : Value) (mb : Nat) (sent taken : Int) : Array Value := #[.int .i64 room, row, .map (some mb), .int .i64 sent, .int .i64 taken]
set_option maxHeartbeats 1000000 in
theorem newNet_yes (r : Int) (w : World) (h : wiB r 1 3000 = true) :
    Calls Try.prog 17 #[.int .i64 r] w fun e w' => e = .returned (.tuple #[.pointer (some ⟨w.heap.size + 1, 0, none⟩), .int .i64 0]) ∧ w' = (w.alloc (.map #[] 0)).alloc (.cells (netC r (.slice none 0 0) w.heap.size 0 0) 94) := by
  have N := within_is r 1 3000
  rw [h] at N
  have HN := hideIt N
  clear N
  have hmm := @run_makeMap Try.prog
  go_enter Try.func17, Try.ntmps17
  go_wp2_with fail
  refine (HN.out _).mono ?_
  rintro e w1 ⟨rfl, rfl⟩
  dsimp only
  go_wp2
  go_ret2
  exact ⟨rfl, rfl⟩
set_option maxHeartbeats 1000000 in
theorem newNet_no (r : Int) (w : World) (h : wiB r 1 3000 = false) :
    Calls Try.prog 17 #[.int .i64 r] w fun e w' => e = .returned (.tuple #[.pointer none, .int .i64 1]) ∧ w' = w := by
  have N := within_is r 1 3000
  rw [h] at N
  have HN := hideIt N
  clear N
  go_enter Try.func17, Try.ntmps17
  go_wp2_with fail
  refine (HN.out _).mono ?_
  rintro e w1 ⟨rfl, rfl⟩
  dsimp only
  go_wp2
  go_ret2
  exact ⟨rfl, rfl⟩
set_option maxHeartbeats 1000000 in
theorem full_any (n : Nat) (room sent taken : Int) (a : Option Addr) (len c mb : Nat) (w : World) (h : w.heap[n]? = some (.cells (netC room (.slice a len c) mb sent taken) 94 (0, 0))) :
    Calls Try.prog 50 #[.pointer (some ⟨n, 0, none⟩)] w fun e w' => e = .returned (.bool (decide (room ≤ (len : Int)))) ∧ Below w.heap.size w w' := by
  have k0 : w.cell? ⟨n, 0, none⟩ = some (.int .i64 room) := by rw [cell_at h]; rfl
  have k1 : w.cell? ⟨n, 1, none⟩ = some (.slice a len c) := by rw [cell_at h]; rfl
  clear h
  go_enter Try.func50, Try.ntmps50
  go_wp2
  go_quiet (fail)
  go_wp2
  go_ret
  exact ⟨rfl, below_drewN (Below.refl _ _) _⟩
set_option maxHeartbeats 1000000 in
theorem has_any (n : Nat) (i room sent taken : Int) (a : Option Addr) (len c mb : Nat) (w : World) (hl : len ≤ 9223372036854775807) (h : w.heap[n]? = some (.cells (netC room (.slice a len c) mb sent taken) 94 (0, 0))) :
    Calls Try.prog 54 #[.pointer (some ⟨n, 0, none⟩), .int .i64 i] w fun e w' => e = .returned (.bool (wiB i 0 ((len : Int) - 1))) ∧ w' = w := by
  have k1 : w.cell? ⟨n, 1, none⟩ = some (.slice a len c) := by rw [cell_at h]; rfl
  have HN := hideIt (fun W => within_is i 0 ((len : Int) - 1) W)
  have hr1 : (-9223372036854775808 : Int) ≤ (len : Int) - 1 := by omega
  have hr2 : (len : Int) - 1 ≤ 9223372036854775807 := by omega
  clear h
  go_enter Try.func54, Try.ntmps54
  go_wp2_with fail
  refine (HN.out _).mono ?_
  rintro e w1 ⟨rfl, rfl⟩
  dsimp only
  go_wp2
  go_ret
  exact ⟨rfl, rfl⟩
end Go.Proofs.Ytagfolckodpioaa
