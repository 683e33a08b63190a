/- Proved here: for every number n, rialtolaw01.PackSmall answers true at the landed code (P1.3: a number's form has as many bytes as its binary digits need, seven in each); no condition. -/
import Derived.Test.YtfbdhihhimfaaaaRows
import Derived.Test.YtfbdhihhimfaaaaLive
import Derived.WalkKit
import Derived.ProofKit
import Derived.OpenShut
import Derived.Below
namespace Go.Proofs.Ytfbdhihhimfaaaa
open Go.ChangeShapes Go.WideShapes Go.ChangeAt Go.RowKit

namespace packSmall
def groups (c m : Nat) : Nat := if m = 0 then 0 else (uform (9 - c) m).length
theorem room_ten (k m : Nat) (h : room k m) (hm : 0 < m) : k < 10 := by
  unfold room at h
  refine Nat.lt_of_not_le fun hk => ?_
  have h1 : 128 ^ 10 ≤ 128 ^ k := Nat.pow_le_pow_right (by decide) hk
  have h2 : 1 * 128 ^ 10 ≤ m * 128 ^ k := Nat.mul_le_mul hm h1
  have h3 : (1 : Nat) * 128 ^ 10 = 1180591620717411303424 := by decide
  omega
theorem step (c m : Nat) (h : room c m) (hm : 0 < m) : groups c m = 1 + groups (c + 1) (m / 128) := by
  unfold groups
  rw [if_neg (by omega)]
  by_cases h1 : m < 128
  · rw [uform_small _ _ h1, if_pos (by omega)]; rfl
  · have h9 := room_nine c m h (by omega)
    rw [if_neg (by omega), show 9 - c = (9 - (c + 1)) + 1 by omega, uform_big _ _ (by omega)]
    simp; omega
theorem start (n : Nat) (h : n < 18446744073709551616) : (uintL n).length = 1 + groups 1 (n / 128) := by
  by_cases h0 : n = 0
  · subst h0; rfl
  · have := step 0 n (room_zero n h) (by omega)
    rw [← this]
    unfold groups
    rw [if_neg h0]; rfl
set_option maxHeartbeats 1000000 in
theorem walk (n : Nat) (h1 : n < 18446744073709551616) (w : World) :
    Calls Try.prog 7 #[.int .u64 (n : Int)] w fun e w' => e = .returned (.bool true) ∧ Below w.heap.size w w' := by
  go_enter Try.func7, Try.ntmps7
  go_wp2
  go_loop [3, 4] (fun b k => ∃ (c m : Nat), c ≤ 10 ∧ m < 18446744073709551616 ∧ b = .int .i64 (c : Int) ∧ k = .int .u64 (m : Int) ∧ Hid (room c m) ∧ Hid ((uintL n).length = c + groups c m)) (fun _ k => (intOf k).toNat)
  case atStart => exact ⟨1, n / 128, by omega, by omega, rfl, by go_num, room_step 0 n (room_zero n h1), start n h1⟩
  case round =>
    obtain ⟨c, m, hc, hm, rfl, rfl, Hr, Hq⟩ := hrel
    by_cases h0 : 0 < m
    · have h0' : (0 : Int) < m := by omega
      have h10 := room_ten c m Hr.out h0
      go_wp2
      go_round
      case rel => exact ⟨c + 1, m / 128, by omega, by omega, by go_num, by go_num, room_step c m Hr.out, by show _ = _; rw [Hq.out, step c m Hr.out h0]; omega⟩
      case measure => simp [intOf]; omega
    · have h0' : ¬ (0 : Int) < m := by omega
      have Hl : Hid ((uintL n).length = c) := by
        show _ = _
        rw [Hq.out]; unfold groups; rw [if_pos (by omega)]; rfl
      clear Hq
      go_wp2_with fail
      refine (live_any _).mono ?_
      rintro e w1 ⟨rfl, hb1⟩
      go_wp2_with fail
      refine (uint_any n _ h1).mono ?_
      rintro e w2 ⟨rfl, hb2⟩
      have hlen : (⟨(uintL n).toArray⟩ : ByteArray).size = c := by show (uintL n).toArray.size = c; rw [List.size_toArray]; exact Hl.out
      go_wp2
      go_ret
      exact ⟨rfl, hb1.trans (hb2.mono hb1.size)⟩
theorem own : ownKnob Try.prog.godebug = none := by kernel_rfl
set_option linter.unusedVariables false in
set_option maxRecDepth 100000 in
theorem lifted (os : Os) (started : os.Started) (H : Type) (enc : TypeId × Value → H) :
    ReturnsInHanded {} Try.checked os 7 .any (Rows.packSmallSpec.pre6 enc Try.prog Try.f7 Rows.packSmallRow.domain false) (Rows.packSmallSpec.post enc Try.prog Try.f7 false true false false) := by
  refine returnsInHanded_of_change (C := Try.checked) own started (by kernel_rfl) Try.func7
    (ChangeSpec.witness6 (enc := enc) (C := Try.checked) false ⟨#[], #[.int .u64 0], []⟩ 8 (by kernel_rfl) (by kernel_rfl) (by kernel_rfl) (by kernel_rfl)) ?_
  intro W base args ds gs before hval0 hW hcnd _
  have hval : ∀ (j : Nat) t v, Try.f7.params[j]? = some t → args[j]? = some v → Value.okWide Try.prog W .any base t v := hval0
  have hW' := hW
  obtain ⟨p, q, hA0, hV, rfl, hfz, hnd⟩ := hW
  have hA : DataW.TrodAll enc Try.prog W 0 (fun _ => true) true Try.f7.params.toList args.toList ds p := hA0
  rw [Try.params7] at hA hval
  obtain ⟨v0, vs0, d0, ds0, p0, q0, hargs, rfl, rfl, h0, r0⟩ := trodAll_cons hA
  obtain ⟨rfl, rfl, rfl⟩ := trodAll_nil r0
  obtain rfl : args = #[v0] := by cases args; simp_all
  obtain ⟨rfl, rfl⟩ := trodVars_none hV
  obtain ⟨a0, rfl, rfl, rfl, w0⟩ := open_int Try.underlying22 (hval 0 22 v0 rfl rfl) h0
  clear hA0 hval0
  have hb := bounds_u64 w0
  obtain ⟨n, rfl⟩ := Int.eq_ofNat_of_zero_le hb.1
  refine (walk n (by omega) W).mono fun e W' ⟨he, bel⟩ => ?_
  subst he
  exact ⟨_, rfl, _, _, _, [], _, [], hW', trodAll_mk1 (shut_bool Try.underlying4 _), (trodAll_cons_mk (shut_int Try.underlying22 w0) trodAll_mk0), rfl, bel.frame _, fun h => by cases h⟩
theorem over : Rows.packSmallRow.holds Try.pinned (OpenSpec.ofChange Rows.packSmallSpec) :=
  OpenClaim.holds_of_wide 7 Try.f7 rfl rfl rfl rfl rfl rfl rfl ⟨rfl, rfl, rfl, rfl, rfl⟩ rfl rfl rfl rfl rfl (by kernel_rfl) Try.func7 (by kernel_rfl)
    (of_decide_eq_true (by kernel_rfl)) (by unfold Func.isWrapper; first | (rw [if_pos (by decide +kernel)]; kernel_rfl) | (rw [if_neg (by decide +kernel)]; exact ⟨rfl, rfl⟩))
    (fun os started H enc _ => lifted os started H enc)
end packSmall
theorem packSmall_holds : Rows.PackSmallSaid := packSmall.over
#print axioms packSmall_holds
end Go.Proofs.Ytfbdhihhimfaaaa
