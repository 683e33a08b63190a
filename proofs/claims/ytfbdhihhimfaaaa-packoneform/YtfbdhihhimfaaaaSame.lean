/- What the statements' 'same' answers of two slices that hold the same texts: true. -/
import Derived.Test.YtfbdhihhimfaaaaRefList
import Derived.Deep.QuietTactic
import Derived.BigQuiet
namespace Go.Proofs.Ytfbdhihhimfaaaa
open Go.RowKit

set_option maxHeartbeats 2000000 in
set_option maxRecDepth 100000 in
theorem same_any (a b : Option Addr) (ca cb : Nat) (ss : List ByteArray) (w : World) (h : Strs w a ss) (g : Strs w b ss) :
    Calls Try.prog 17 #[.slice a ss.length ca, .slice b ss.length cb] w fun e w' => e = .returned (.bool true) ∧ Below w.heap.size w w' := by
  have hl := h.1
  have hne : (((ss.length : Nat) : Int) != ss.length) = false := by simp
  go_enter Try.func17, Try.ntmps17
  go_wp2
  go_loopw [5] (fun c wr => ∃ k : Nat, k ≤ ss.length ∧ c = .int .i64 (k : Int) ∧ Below w.heap.size w wr) (fun c _ => ss.length - (intOf c).toNat)
  case atStart => exact ⟨0, by omega, rfl, Below.refl _ _⟩
  case round =>
    obtain ⟨k, hk, rfl, hb⟩ := hrel
    by_cases hlt : k < ss.length
    · have hlt' : (k : Int) < ss.length := by omega
      obtain ⟨b1, o1, rfl, hb1, hc1⟩ := h.2.2 k hlt
      obtain ⟨b2, o2, rfl, hb2, hc2⟩ := g.2.2 k hlt
      have hd1 : wr.cell? ⟨b1, o1 + k, none⟩ = some (.string ss[k]) := (hb.cell hb1).trans hc1
      have hd2 : wr.cell? ⟨b2, o2 + k, none⟩ = some (.string ss[k]) := (hb.cell hb2).trans hc2
      clear h g hc1 hc2
      go_wp2
      go_quiet (fail)
      go_wp2
      go_roundw
      case rel => exact ⟨k + 1, by omega, by go_num, below_drewN hb _⟩
      case measure => simp [intOf]; omega
    · have hlt' : ¬ (k : Int) < ss.length := by omega
      go_wp2
      go_ret
      exact ⟨rfl, hb⟩
end Go.Proofs.Ytfbdhihhimfaaaa
