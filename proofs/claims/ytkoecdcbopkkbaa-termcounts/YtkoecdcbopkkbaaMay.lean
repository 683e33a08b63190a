/- A ballot as plain data; whether it may be: the program and the document. -/
import Derived.Test.YtkoecdcbopkkbaaSmall
namespace Go.Proofs.Ytkoecdcbopkkbaa
open Go.RowKit
/-- A ballot: its term, its vote, its role, who voted for it. -/
structure Bal where
  t : Int
  v : Int
  r : Int
  l : List Int
def nodesB : Int → List Int → Bool
  | _, [] => true
  | p, x :: r => wiB x 1 7 && decide (p < x) && nodesB x r
def roleB (v r : Int) (l : List Int) : Bool := if r = 1 then l.isEmpty else if r = 2 ∨ r = 3 then nodesB 0 l && l.contains v else false
def mayB (b : Bal) : Bool := wiB b.t 0 1000000 && wiB b.v 0 7 && !(b.t == 0 && b.v != 0) && roleB b.v b.r b.l
theorem drop_cons (l : List Int) (k : Nat) (h : k < l.length) : l.drop k = l.getD k 0 :: l.drop (k + 1) := by
  rw [List.drop_eq_getElem_cons h, List.getD_eq_getElem?_getD, List.getElem?_eq_getElem h]
  rfl
def GotC (w : World) (a : Option Addr) (l : List Int) : Prop := ∀ j, j < l.length → ∃ b off, a = some ⟨b, off, none⟩ ∧ b < w.heap.size ∧ w.cell? ⟨b, off + j, none⟩ = some (.int .i64 (l.getD j 0))
theorem GotAt.open {w : World} {v : Value} {l : List Int} (h : GotAt w v l) : ∃ a c, v = .slice a l.length c ∧ l.length * 8 ≤ 140737488355328 ∧ GotC w a l := by
  obtain ⟨h8, a, c, rfl, hr⟩ := h
  refine ⟨a, c, rfl, h8, fun j hj => ?_⟩
  obtain ⟨b, off, rfl, hlt, hc⟩ := hr (by omega)
  exact ⟨b, off, rfl, hlt, hc j hj⟩
theorem GotC.keep {w w' : World} {a : Option Addr} {l : List Int} (h : GotC w a l) (hb : Below w.heap.size w w') : GotC w' a l := by
  intro j hj
  obtain ⟨b, off, rfl, hlt, hc⟩ := h j hj
  exact ⟨b, off, rfl, Nat.lt_of_lt_of_le hlt hb.size, (hb.cell hlt).trans hc⟩
set_option maxHeartbeats 2000000 in
set_option maxRecDepth 100000 in
theorem gotNodes_is (t v r : Int) (g : Value) (l : List Int) (w : World) (h : GotAt w g l) : Calls Try.prog 39 #[.agg #[.int .i64 t, .int .i64 v, .int .i64 r, g]] w fun e w' => e = .returned (.bool (nodesB 0 l)) ∧ Below w.heap.size w w' := by
  obtain ⟨a, c, rfl, h8, hg⟩ := h.open
  have HB := hideIt (below1 w (.cells #[.int .i64 t, .int .i64 v, .int .i64 r, .slice a l.length c] 60))
  have HG := hideIt (hg.keep HB.out)
  have HN := hideIt (fun x W => isNode_is x W)
  clear hg h
  go_enter Try.func39, Try.ntmps39
  go_wp2
  go_loop [3, 9] (fun p i => ∃ (k : Nat) (q : Int), k ≤ l.length ∧ i = .int .i64 k ∧ p = .int .i64 q ∧ Hid (nodesB 0 l = nodesB q (l.drop k))) (fun _ i => l.length - (intOf i).toNat)
  case atStart => exact ⟨0, 0, Nat.zero_le _, rfl, rfl, hideIt (by rw [List.drop_zero])⟩
  case round =>
    obtain ⟨k, q, hk, rfl, rfl, HR⟩ := hrel
    by_cases hlt : k < l.length
    · obtain ⟨b, off, rfl, _, hc⟩ := HG.out k hlt
      have HD := hideIt (HR.out.trans (congrArg (nodesB q) (drop_cons l k hlt)))
      clear HR
      generalize l.getD k 0 = x at *
      have H1 := hideIt (HN.out x)
      cases h1 : wiB x 1 7
      · rw [h1] at H1
        go_wp2_with fail
        refine (H1.out _).mono ?_
        rintro e w1 ⟨rfl, rfl⟩
        dsimp only
        go_wp2
        go_ret
        exact ⟨by rw [HD.out, nodesB, h1]; rfl, HB.out⟩
      · rw [h1] at H1
        by_cases h2 : x ≤ q
        · go_wp2_with fail
          refine (H1.out _).mono ?_
          rintro e w1 ⟨rfl, rfl⟩
          dsimp only
          go_wp2
          go_ret
          exact ⟨by rw [HD.out, nodesB, decide_eq_false (show ¬ q < x by omega)]; simp, HB.out⟩
        · go_wp2_with fail
          refine (H1.out _).mono ?_
          rintro e w1 ⟨rfl, rfl⟩
          dsimp only
          go_wp2
          go_round
          case rel => exact ⟨k + 1, x, by omega, by go_num, rfl, hideIt (by rw [HD.out, nodesB, h1, decide_eq_true (show q < x by omega)]; rfl)⟩
          case measure => simp [intOf]; omega
    · go_wp2
      go_ret
      exact ⟨by rw [HR.out, List.drop_eq_nil_of_le (by omega)]; rfl, HB.out⟩
theorem has_is (t v r : Int) (g : Value) (l : List Int) (x : Int) (w : World) (h : GotAt w g l) : Calls Try.prog 40 #[.agg #[.int .i64 t, .int .i64 v, .int .i64 r, g], .int .i64 x] w fun e w' => e = .returned (.bool (l.contains x)) ∧ Below w.heap.size w w' := by
  have HB := hideIt (below1 w (.cells #[.int .i64 t, .int .i64 v, .int .i64 r, g] 60))
  have H := hideIt (contains_any g l x _ (h.keep HB.out))
  clear h
  generalize l.contains x = b at *
  go_enter Try.func40, Try.ntmps40
  go_wp2_with fail
  refine H.out.mono ?_
  rintro e w1 ⟨rfl, rfl⟩
  dsimp only
  go_wp2
  go_ret
  exact ⟨rfl, HB.out⟩
set_option maxHeartbeats 2000000 in
set_option maxRecDepth 100000 in
theorem rhas_is (g : Value) (l : List Int) (x : Int) (w : World) (h : GotAt w g l) : Calls Try.prog 44 #[g, .int .i64 x] w fun e w' => e = .returned (.bool (l.contains x)) ∧ w' = w := by
  obtain ⟨a, c, rfl, h8, hg⟩ := h.open
  have HG := hideIt hg
  obtain ⟨B, hB⟩ : ∃ B, B = l.contains x := ⟨_, rfl⟩
  rw [← hB]
  have HB := hideIt hB
  clear hg h hB
  go_enter Try.func44, Try.ntmps44
  go_wp2
  go_loop [5] (fun i => ∃ (k : Nat), k ≤ l.length ∧ i = .int .i64 k ∧ Hid (B = (l.drop k).contains x)) (fun i => l.length - (intOf i).toNat)
  case atStart => exact ⟨0, Nat.zero_le _, rfl, hideIt (by rw [List.drop_zero]; exact HB.out)⟩
  case round =>
    obtain ⟨k, hk, rfl, HR⟩ := hrel
    by_cases hlt : k < l.length
    · obtain ⟨b, off, rfl, _, hc⟩ := HG.out k hlt
      have HD := hideIt (HR.out.trans (congrArg (fun z => List.contains z x) (drop_cons l k hlt)))
      clear HR
      generalize l.getD k 0 = y at *
      by_cases he : y = x
      · subst he
        go_wp2
        go_ret
        exact ⟨by rw [HD.out]; simp, rfl⟩
      · have he' : (y == x) = false := beq_eq_false_iff_ne.2 he
        go_wp2
        go_round
        case rel => exact ⟨k + 1, by omega, by go_num, hideIt (by rw [HD.out]; simp [Ne.symm he])⟩
        case measure => simp [intOf]; omega
    · go_wp2
      go_ret
      exact ⟨by rw [HR.out, List.drop_eq_nil_of_le (by omega)]; rfl, rfl⟩
end Go.Proofs.Ytkoecdcbopkkbaa
