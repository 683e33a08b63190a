/- Proved here: for every number room, rialtolaw03.DiskMakes answers true at the landed code (D1: a disk is made with room for 256 to 1048576 bytes, and for no other number); no condition. -/
import Derived.Test.YtpgimffghaelhaaRows
import Derived.Test.YtpgimffghaelhaaLooks
import Derived.ProofKit
import Derived.OpenShut
import Derived.Below
namespace Go.Proofs.Ytpgimffghaelhaa
open Go.ChangeShapes Go.WideShapes Go.ChangeAt Go.RowKit Go.Maps
namespace diskMakes
set_option maxHeartbeats 2000000 in
set_option maxRecDepth 100000 in
theorem walk (x : Int) (w : World) : Calls Try.prog 3 #[.int .i64 x] w fun e w' => e = .returned (.bool true) ∧ Below w.heap.size w w' := by
  by_cases hx : x < 256 ∨ 1048576 < x
  · have H1 := hideIt (fun W => new_bad x W hx)
    have H2 := hideIt (fun W => refNew_bad x W hx)
    clear hx
    go_enter Try.func3, Try.ntmps3
    go_wp2_with fail
    refine (H1.out _).mono ?_
    rintro e w1 ⟨rfl, hb1⟩
    dsimp only
    go_wp2_with fail
    refine (H2.out _).mono ?_
    rintro e w2 ⟨rfl, hb2⟩
    dsimp only
    go_wp2_with fail
    refine (begun_any _).mono ?_
    rintro e w3 ⟨rfl, hb3⟩
    dsimp only
    go_wp2
    go_ret
    have h12 := hb1.trans (hb2.mono hb1.size)
    exact ⟨rfl, h12.trans (hb3.mono h12.size)⟩
  · obtain ⟨room, rfl⟩ : ∃ room : Nat, x = (room : Int) := ⟨x.toNat, by omega⟩
    have H1 := hideIt (fun W => new_good room W (by omega) (by omega))
    have H2 := hideIt (fun W => refNew_good room W (by omega) (by omega))
    clear hx
    go_enter Try.func3, Try.ntmps3
    go_wp2_with fail
    refine (H1.out _).mono ?_
    rintro e w1 ⟨p, rfl, hd1, hb1⟩
    dsimp only
    have HD1 := hideIt hd1
    clear hd1
    go_wp2_with fail
    refine (H2.out _).mono ?_
    rintro e w2 ⟨q, rfl, hr2, hb2⟩
    dsimp only
    have HR2 := hideIt hr2
    have h12 := hb1.trans (hb2.mono hb1.size)
    have s12 := hb2.size
    clear hr2
    go_wp2_with fail
    refine (begun_any _).mono ?_
    rintro e w3 ⟨rfl, hb3⟩
    dsimp only
    have s23 := hb3.size
    have h13 := h12.trans (hb3.mono h12.size)
    have hd3 := (HD1.out.below hb2).keep (w' := w3) (fun k _ hk => hb3.block k hk)
    have hr3 := HR2.out.below hb3
    have HL := hideIt (looks_is hd3 hr3 (fun k hk => by omega) (fun k hk => by omega) 0 (by decide))
    clear hd3 hr3 HD1 HR2
    go_wp2_with fail
    refine HL.out.mono ?_
    rintro e w4 ⟨rfl, hb4⟩
    dsimp only
    go_wp2
    go_ret
    exact ⟨rfl, h13.trans (hb4.mono h13.size)⟩
theorem own : ownKnob Try.prog.godebug = none := by kernel_rfl
set_option linter.unusedVariables false in
set_option maxRecDepth 100000 in
theorem lifted (os : Os) (started : os.Started) (H : Type) (enc : TypeId × Value → H) :
    ReturnsInHanded {} Try.checked os 3 .any (Rows.diskMakesSpec.pre6 enc Try.prog Try.f3 Rows.diskMakesRow.domain false) (Rows.diskMakesSpec.post enc Try.prog Try.f3 false true false false) := by
  refine returnsInHanded_of_change (C := Try.checked) own started (by kernel_rfl) Try.func3
    (ChangeSpec.witness6 (enc := enc) (C := Try.checked) false ⟨#[], #[.int .i64 0], []⟩ 8 (by kernel_rfl) (by kernel_rfl) (by kernel_rfl) (by kernel_rfl)) ?_
  intro W base args ds gs before hval0 hW hcnd _
  have hval : ∀ (j : Nat) t v, Try.f3.params[j]? = some t → args[j]? = some v → Value.okWide Try.prog W .any base t v := hval0
  have hW' := hW
  obtain ⟨p, q, hA0, hV, rfl, hfz, hnd⟩ := hW
  have hA : DataW.TrodAll enc Try.prog W 0 (fun _ => true) true Try.f3.params.toList args.toList ds p := hA0
  rw [Try.params3] at hA hval
  obtain ⟨v0, vs0, d0, ds0, p0, q0, hargs, rfl, rfl, h0, r0⟩ := trodAll_cons hA
  obtain ⟨rfl, rfl, rfl⟩ := trodAll_nil r0
  obtain rfl : args = #[v0] := by cases args; simp_all
  obtain ⟨rfl, rfl⟩ := trodVars_none hV
  obtain ⟨a0, rfl, rfl, rfl, w0⟩ := open_int Try.underlying3 (hval 0 3 v0 rfl rfl) h0
  clear hA0 hval0
  refine (walk a0 W).mono fun e W' ⟨he, bel⟩ => ?_
  subst he
  exact ⟨_, rfl, _, _, _, [], _, [], hW', trodAll_mk1 (shut_bool Try.underlying4 _), (trodAll_cons_mk (shut_int Try.underlying3 w0) trodAll_mk0), rfl, bel.frame _, fun h => by cases h⟩
theorem over : Rows.diskMakesRow.holds Try.pinned (OpenSpec.ofChange Rows.diskMakesSpec) :=
  OpenClaim.holds_of_wide 3 Try.f3 rfl rfl rfl rfl rfl rfl rfl ⟨rfl, rfl, rfl, rfl, rfl⟩ rfl rfl rfl rfl rfl (by kernel_rfl) Try.func3 (by kernel_rfl)
    (of_decide_eq_true (by kernel_rfl)) (by unfold Func.isWrapper; first | (rw [if_pos (by decide +kernel)]; kernel_rfl) | (rw [if_neg (by decide +kernel)]; exact ⟨rfl, rfl⟩))
    (fun os started H enc _ => lifted os started H enc)
end diskMakes
theorem diskMakes_holds : Rows.DiskMakesSaid := diskMakes.over
#print axioms diskMakes_holds
end Go.Proofs.Ytpgimffghaelhaa
