/- The document's example is answered as the document says. -/
import Derived.Test.YtpfdmjphoeljiaaPlX
import Derived.Test.YtpfdmjphoeljiaaLvP
namespace Go.Proofs.Ytpfdmjphoeljiaa
open Go.RowKit
set_option linter.all false
set_option maxHeartbeats 4000000 in
theorem new_is (w : World) : Calls Try.prog 18 #[] w fun e w' => e = .returned (.agg #[.bool false, .int .i64 1, .slice none 0 0, .slice none 0 0, .slice none 0 0]) ∧ Below w.heap.size w w' := by
  have HB := hideIt (below1 w (.cells #[.bool false, .int .i64 1, .slice none 0 0, .slice none 0 0, .slice none 0 0] 25))
  have H2 := hideIt (heap_alloc_new w (.cells #[.bool false, .int .i64 1, .slice none 0 0, .slice none 0 0, .slice none 0 0] 25))
  go_enter Try.func18, Try.ntmps18
  go_wp2
  exact bodyPost_ret (v := .agg #[.bool false, .int .i64 1, .slice none 0 0, .slice none 0 0, .slice none 0 0]) (by simp [results, Try.results18, go_sem, cell_at H2.out]) rfl ⟨rfl, HB.out⟩
theorem own_some {w : World} {B n : Nat} {e : TypeId} {z : Nat} {v : Value} {xs : List Value} (h : w.ownsRow B e z v n xs) (hn : 0 < n) : ∃ g c, v = .slice (some ⟨g, 0, none⟩) n c ∧ g < w.heap.size ∧ ∀ j u, xs[j]? = some u → w.cell? ⟨g, j, none⟩ = some u := by
  have hc := fun g hg => h.cells (g := g) hg
  obtain ⟨h1, ⟨rfl, h0⟩ | ⟨g, cap, cur, rfl, hB, hg, r⟩⟩ := h
  · omega
  · refine ⟨g, cap, rfl, (Array.getElem?_eq_some_iff.1 hg).1, fun j u hu => ?_⟩
    have := hc g rfl j u hu
    rwa [addN, Nat.zero_add] at this
theorem eqF (W : World) : (binOp .eql 68 (.agg #[.int .i64 2, .int .i64 1, .int .i64 10, .int .i64 3]) (.agg #[.int .i64 2, .int .i64 1, .int .i64 10, .int .i64 3])).run Try.prog W = .ok (.bool true) W := by
  simp [go_sem]
set_option maxHeartbeats 8000000 in
set_option maxRecDepth 100000 in
theorem live_is (w : World) : Calls Try.prog 11 #[] w fun e w' => e = .returned (.bool true) ∧ Below w.heap.size w w' := by
  have HN := hideIt (fun W => new_is W)
  have HP0 := hideIt (fun W => place_is lane0 (.slice none 0 0) (.slice none 0 0) (.slice none 0 0) 1 2 10 5 false W ⟨SGot.nil 4 32 ordE W none 0 (Nat.zero_le _), SGot.nil 4 32 ordE W none 0 (Nat.zero_le _), SGot.nil 3 24 oweE W none 0 (Nat.zero_le _)⟩)
  rw [place0] at HP0
  have HP1 := hideIt (fun W b a o (h : Lan W lane1 b a o) => place_is lane1 b a o 2 1 12 3 false W h)
  rw [place1] at HP1
  unfold PlBack at HP0 HP1
  unfold laneV laneA lane0 at HP0
  simp only [lane1, List.length_nil] at HP0
  go_enter Try.func11, Try.ntmps11
  go_wp2_with fail
  refine (HN.out _).mono ?_
  rintro e w1 ⟨rfl, hb⟩
  dsimp only
  have B1 := hideIt hb
  clear hb HN
  go_wp2_with fail
  refine (HP0.out _).mono ?_
  rintro e w2 ⟨b, a, o, f, rfl, hob, hoa, hoo, hfl, hb⟩
  dsimp only
  obtain ⟨ba, bc, rfl⟩ := own_len hob
  obtain ⟨aa, ac, rfl⟩ := own_len hoa
  obtain ⟨oa, oc, rfl⟩ := own_len hoo
  obtain ⟨fa, fc, rfl⟩ := own_len hfl
  have C2 := hideIt (below_via hb (below1 w2 (.cells #[.bool false, .int .i64 2, .slice ba 0 bc, .slice aa 1 ac, .slice oa 0 oc] 25)))
  have N2 := hideIt (heap_alloc_new w2 (.cells #[.bool false, .int .i64 2, .slice ba 0 bc, .slice aa 1 ac, .slice oa 0 oc] 25))
  have HL : Hid (Lan (w2.alloc (.cells #[.bool false, .int .i64 2, .slice ba 0 bc, .slice aa 1 ac, .slice oa 0 oc] 25)) lane1 (.slice ba 0 bc) (.slice aa 1 ac) (.slice oa 0 oc)) := ⟨own_sgot (l := lane1.bids) (own_keep hob (below1 w2 _)) (by decide), own_sgot (l := lane1.asks) (own_keep hoa (below1 w2 _)) (by decide), own_sgot (l := lane1.owed) (own_keep hoo (below1 w2 _)) (by decide)⟩
  have B2 := hideIt (below_via B1.out C2.out)
  clear hob hoa hoo hfl hb C2 B1 HP0
  go_upto_region 2 with fail
  generalize w2.alloc (.cells #[.bool false, .int .i64 2, .slice ba 0 bc, .slice aa 1 ac, .slice oa 0 oc] 25) = w3 at *
  generalize w2.heap.size = k2 at *
  have c0 : w3.cell? ⟨k2, 0, none⟩ = some (.bool false) := by rw [cell_at N2.out]; rfl
  have c1 : w3.cell? ⟨k2, 1, none⟩ = some (.int .i64 2) := by rw [cell_at N2.out]; rfl
  have c2 : w3.cell? ⟨k2, 2, none⟩ = some (.slice ba 0 bc) := by rw [cell_at N2.out]; rfl
  have c3 : w3.cell? ⟨k2, 3, none⟩ = some (.slice aa 1 ac) := by rw [cell_at N2.out]; rfl
  have c4 : w3.cell? ⟨k2, 4, none⟩ = some (.slice oa 0 oc) := by rw [cell_at N2.out]; rfl
  replace HP1 := hideIt (HP1.out _ _ _ _ HL.out)
  unfold laneV laneA lane1 lane2 at HP1
  simp only [List.length_nil, List.length_cons] at HP1
  clear HL
  go_wp2_with fail
  refine HP1.out.mono ?_
  rintro e w4 ⟨b, a, o, f, rfl, hob, hoa, hoo, hfl, hb⟩
  dsimp only
  obtain ⟨qa, ca, rfl, la, ra⟩ := own_some hoa (by decide)
  obtain ⟨qo, co, rfl, lo, ro⟩ := own_some hoo (by decide)
  obtain ⟨qf, cf, rfl, lf, rf⟩ := own_some hfl (by decide)
  obtain ⟨xa, xc, rfl⟩ := own_len hob
  have HB := hideIt (below_via B2.out (below_via hb (below1 w4 (.cells #[.bool false, .int .i64 3, .slice xa 0 xc, .slice (some ⟨qa, 0, none⟩) 1 ca, .slice (some ⟨qo, 0, none⟩) 3 co] 25))))
  have f0 := rf 0 _ rfl
  have f1 := rf 1 _ rfl
  have f2 := rf 2 _ rfl
  have f3 := rf 3 _ rfl
  have a3 := ra 3 _ rfl
  have o5 := ro 5 _ rfl
  have na : qa ≠ w4.heap.size := by omega
  have no : qo ≠ w4.heap.size := by omega
  have nf : qf ≠ w4.heap.size := by omega
  clear hob hoa hoo hfl hb ra ro rf HP1 B2 N2 c0 c1 c2 c3 c4
  simp only at f0 f1 f2 f3 a3 o5
  have heq := eqF
  go_wp2
  go_ret
  exact ⟨rfl, HB.out⟩
end Go.Proofs.Ytpfdmjphoeljiaa
