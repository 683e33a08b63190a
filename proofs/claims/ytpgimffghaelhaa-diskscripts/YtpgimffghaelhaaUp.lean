/- The small calls of a disk: whether it is up, its fields, a new one, what is missing. -/
import Derived.Test.YtpgimffghaelhaaKit
import Derived.Deep.QuietTactic
import Derived.BigQuiet
namespace Go.Proofs.Ytpgimffghaelhaa
open Go.RowKit Go.Maps

theorem wf64 (x : Int) (h1 : -9223372036854775808 ≤ x) (h2 : x ≤ 9223372036854775807) : (Lit.int .i64 x).wf = true := by
  have e1 : IntKind.i64.min = -9223372036854775808 := by decide
  have e2 : IntKind.i64.max = 9223372036854775807 := by decide
  simp [Lit.wf, e1, e2]; omega
theorem load_any (a : Addr) (c : Int) (w : World) (hc : w.cell? a = some (.int .i64 c)) :
    Calls Try.prog 47 #[.pointer (some a)] w fun e w' => e = .returned (.int .i64 c) ∧ w' = w := by
  obtain ⟨b, off, s⟩ := a
  have hl := run_call_load (P := Try.prog) Try.func59 (by kernel_rfl) (by kernel_rfl) (by kernel_rfl) .i64 (by kernel_rfl) hc
  go_enter Try.func47, Try.ntmps47
  go_wp2
  go_ret
  exact ⟨rfl, rfl⟩
theorem add_any (p off : Nat) (c : Int) (w : World) (hc : w.cell? ⟨p, off, none⟩ = some (.int .i64 c)) (hf : w.frozen? ⟨p, off, none⟩ = false) (h0 : 0 ≤ c) (h1 : c < 4611686018427387904) :
    Calls Try.prog 49 #[.pointer (some ⟨p, off, none⟩), .int .i64 1] w fun e w' => (∃ v, e = .returned v) ∧ w' = w.setCell ⟨p, off, none⟩ (.int .i64 (c + 1)) := by
  have hs : (Op.intArith .add .i64 c 1).run Try.prog w = .ok (.int .i64 (c + 1)) w := by
    simp [Op.intArith]
    exact IntWalk.i64_in _ (by omega)
  have hl := run_call_add (P := Try.prog) Try.func60 (by kernel_rfl) (by kernel_rfl) (by kernel_rfl) .i64 (by kernel_rfl) (s := c + 1) hc hf hs
  go_enter Try.func49, Try.ntmps49
  go_wp2
  go_ret
  exact ⟨⟨_, rfl⟩, rfl⟩
theorem cell_at {w : World} {p : Nat} {cs : Array Value} {t : TypeId} (h : w.heap[p]? = some (.cells cs t (0, 0))) (i : Nat) : w.cell? ⟨p, i, none⟩ = cs[i]? := by
  simp [World.cell?, h]
theorem free_at {w : World} {p : Nat} {cs : Array Value} {t : TypeId} (h : w.heap[p]? = some (.cells cs t (0, 0))) (i : Nat) : w.frozen? ⟨p, i, none⟩ = false := by
  simp [World.frozen?, h]
set_option maxHeartbeats 1000000 in
theorem up_any (p room used mb age : Nat) (ch : Int) (fs : Bool) (ff fm : Int) (w : World) (hc : w.heap[p]? = some (.cells (fields room used mb ch fs ff fm age) 64 (0, 0)))
    (h1 : 0 ≤ ch) (h2 : 0 ≤ ff) (h3 : ff ≤ ch) (h4 : ch < 4611686018427387904) :
    Calls Try.prog 27 #[.pointer (some ⟨p, 0, none⟩)] w fun e w' => e = .returned (.bool (!fs || decide (ch - ff < fm))) ∧ Below w.heap.size w w' := by
  have c3 : w.cell? ⟨p, 3, none⟩ = some (.int .i64 ch) := by rw [cell_at hc]; rfl
  have c4 : w.cell? ⟨p, 4, none⟩ = some (.bool fs) := by rw [cell_at hc]; rfl
  have c5 : w.cell? ⟨p, 5, none⟩ = some (.int .i64 ff) := by rw [cell_at hc]; rfl
  have c6 : w.cell? ⟨p, 6, none⟩ = some (.int .i64 fm) := by rw [cell_at hc]; rfl
  clear hc
  cases fs
  · go_enter Try.func27, Try.ntmps27
    go_wp2
    go_quiet (fail)
    go_wp2
    go_ret
    exact ⟨rfl, below_drewN (Below.refl _ _) _⟩
  · go_enter Try.func27, Try.ntmps27
    go_wp2
    go_quiet (first | (go_at_call 47; exact Calls.quiet_of_same (load_any _ ch _ c3)))
    go_wp2
    go_ret
    exact ⟨rfl, below_drewN (Below.refl _ _) _⟩

/-- How the fuse lies in the fields. -/
def FuseIs (S : St) (ch : Int) (fs : Bool) (ff fm : Int) (N : Nat) : Prop :=
  0 ≤ ch ∧ ch ≤ (N : Int) ∧ N < 1099511627776 ∧ 0 ≤ ff ∧ ff ≤ ch ∧ ((fs = false ∧ S.fuse = -1) ∨ (fs = true ∧ 0 ≤ S.fuse ∧ S.fuse = fm - (ch - ff) ∧ fm ≤ 9223372036854775807))
def DiskAt (w : World) (F : Nat → Prop) (p : Nat) (S : St) (N : Nat) : Prop :=
  ∃ mb ch fs ff fm rb cp D, Core w F p mb (fields S.room (tot S.seg 1000) mb ch fs ff fm S.age) S.seg rb cp D ∧ FuseIs S ch fs ff fm N ∧ good S ∧ S.age ≤ N
theorem DiskAt.keep {w w' : World} {F : Nat → Prop} {p : Nat} {S : St} {N : Nat} (h : DiskAt w F p S N) (hb : ∀ k, F k → k < w.heap.size → w'.heap[k]? = w.heap[k]?) : DiskAt w' F p S N := by
  obtain ⟨mb, ch, fs, ff, fm, rb, cp, D, hc, r⟩ := h
  exact ⟨mb, ch, fs, ff, fm, rb, cp, D, hc.keep hb, r⟩
theorem DiskAt.below {w w' : World} {F : Nat → Prop} {p : Nat} {S : St} {N : Nat} (h : DiskAt w F p S N) (hb : Below w.heap.size w w') : DiskAt w' F p S N := h.keep (fun k _ hk => hb.block k hk)
theorem FuseIs.up {S : St} {ch : Int} {fs : Bool} {ff fm : Int} {N : Nat} (h : FuseIs S ch fs ff fm N) : (!fs || decide (ch - ff < fm)) = decide (S.fuse ≠ 0) := by
  obtain ⟨_, _, _, _, _, ⟨rfl, h⟩ | ⟨rfl, h1, h2, h3⟩⟩ := h
  · simp [h]
  · simp only [Bool.not_true, Bool.false_or, decide_eq_decide]
    omega
theorem up_is {w : World} {F : Nat → Prop} {p : Nat} {S : St} {N : Nat} (h : DiskAt w F p S N) :
    Calls Try.prog 27 #[.pointer (some ⟨p, 0, none⟩)] w fun e w' => e = .returned (.bool (decide (S.fuse ≠ 0))) ∧ Below w.heap.size w w' := by
  obtain ⟨mb, ch, fs, ff, fm, rb, cp, D, hc, hf, r⟩ := h
  have hu := hf.up
  obtain ⟨h1, h2, h3, h4, h5, _⟩ := hf
  rw [← hu]
  exact up_any p _ _ mb _ ch fs ff fm w hc.cells h1 h4 h5 (by omega)
theorem zero72 (w : World) : (zeroValue 72).run Try.prog w = .ok zeroSeg w := by
  kernel_rfl
theorem look_hit {w : World} {F : Nat → Prop} {p mb : Nat} {cs : Array Value} {f : Nat → Seg} {rb cp : Nat → Nat} {D : DataW Value} (h : Core w F p mb cs f rb cp D) (k : Nat) (hk : k < 1000) (hne : (f k).bytes ≠ []) (W : World) (hW : W.heap[mb]? = w.heap[mb]?) :
    (Instr.lookup 55 (.map (some mb)) (.int .i64 (k : Int)) false).run Try.prog W = .ok (segV f rb cp k) W := by
  have hown := ownsMap_block h.map hW
  obtain ⟨v, ps, hrun, hv⟩ := hown.lookup (int_keyed Try.underlying3) Try.underlying55 (zero72 W) (zd := .held zeroSeg) (zp := []) rfl (key := .int .i64 (k : Int)) (kl := keyL k) (keyOf_int_mk Try.underlying3 (wf64 _ (by omega) (by omega)))
  rw [h.hit k hk hne] at hv
  simp [heldR] at hv
  rw [hrun, hv.1]
theorem look_hit_ok {w : World} {F : Nat → Prop} {p mb : Nat} {cs : Array Value} {f : Nat → Seg} {rb cp : Nat → Nat} {D : DataW Value} (h : Core w F p mb cs f rb cp D) (k : Nat) (hk : k < 1000) (hne : (f k).bytes ≠ []) (W : World) (hW : W.heap[mb]? = w.heap[mb]?) :
    (Instr.lookup 55 (.map (some mb)) (.int .i64 (k : Int)) true).run Try.prog W = .ok (.tuple #[segV f rb cp k, .bool true]) W := by
  have hown := ownsMap_block h.map hW
  obtain ⟨v, ps, hrun, hv⟩ := hown.look_ok (int_keyed Try.underlying3) Try.underlying55 (zero72 W) (zd := .held zeroSeg) (zp := []) rfl (key := .int .i64 (k : Int)) (kl := keyL k) (keyOf_int_mk Try.underlying3 (wf64 _ (by omega) (by omega)))
  rw [h.hit k hk hne] at hv
  simp [heldR] at hv
  rw [hrun, hv.1, has_true_of_atKey (h.hit k hk hne)]
theorem look_miss {w : World} {F : Nat → Prop} {p mb : Nat} {cs : Array Value} {f : Nat → Seg} {rb cp : Nat → Nat} {D : DataW Value} (h : Core w F p mb cs f rb cp D) (x : Int) (hx : (Lit.int .i64 x).wf = true) (hne : ∀ k : Nat, k < 1000 → x = (k : Int) → (f k).bytes = []) (W : World) (hW : W.heap[mb]? = w.heap[mb]?) :
    (Instr.lookup 55 (.map (some mb)) (.int .i64 x) false).run Try.prog W = .ok zeroSeg W := by
  have hown := ownsMap_block h.map hW
  obtain ⟨v, ps, hrun, hv⟩ := hown.lookup (int_keyed Try.underlying3) Try.underlying55 (zero72 W) (zd := .held zeroSeg) (zp := []) rfl (key := .int .i64 x) (kl := keyL x) (keyOf_int_mk Try.underlying3 hx)
  rw [h.miss x hne] at hv
  simp [heldR] at hv
  rw [hrun, hv.1]
theorem look_miss_ok {w : World} {F : Nat → Prop} {p mb : Nat} {cs : Array Value} {f : Nat → Seg} {rb cp : Nat → Nat} {D : DataW Value} (h : Core w F p mb cs f rb cp D) (x : Int) (hx : (Lit.int .i64 x).wf = true) (hne : ∀ k : Nat, k < 1000 → x = (k : Int) → (f k).bytes = []) (W : World) (hW : W.heap[mb]? = w.heap[mb]?) :
    (Instr.lookup 55 (.map (some mb)) (.int .i64 x) true).run Try.prog W = .ok (.tuple #[zeroSeg, .bool false]) W := by
  have hown := ownsMap_block h.map hW
  obtain ⟨v, ps, hrun, hv⟩ := hown.look_ok (int_keyed Try.underlying3) Try.underlying55 (zero72 W) (zd := .held zeroSeg) (zp := []) rfl (key := .int .i64 x) (kl := keyL x) (keyOf_int_mk Try.underlying3 hx)
  rw [h.miss x hne] at hv
  simp [heldR] at hv
  rw [hrun, hv.1, has_false_of_atKey (h.miss x hne)]
end Go.Proofs.Ytpgimffghaelhaa
