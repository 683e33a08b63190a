/- live of layer 15, walked. -/
import Derived.Test.YtbpnnhalajbjnaaNetW
import Derived.Test.YtbpnnhalajbjnaaTake
namespace Go.Proofs.Ytbpnnhalajbjnaa
open Go.RowKit Go.Maps
set_option linter.all false
def fl2 : List FillV := [⟨2, 1, 10, 3⟩, ⟨1, 2, 11, 3⟩]
def ow2 : List OweV := [⟨1, 0, 5⟩, ⟨2, 1, 6⟩]
def ln2 : LaneV := ⟨false, 1, [], [], ow2⟩
theorem sort0 : sortL [] = [] := by simp [sortL]
theorem net_two : netL fl2 = ([⟨1, -3, 0⟩, ⟨2, 3, 0⟩], 0) := by
  unfold netL
  rw [if_neg (by decide)]
  rfl
theorem chk_two : chkB ln2 = true := by
  unfold chkB unlB
  rw [show idsL ln2.bids ++ idsL ln2.asks = [] from rfl, sort0]
  rfl
theorem take_two : takR ln2 1 = (⟨false, 1, [], [], [⟨2, 1, 6⟩]⟩, [⟨0, 5⟩], 0) := by
  unfold takR
  rw [if_neg (by simp [chk_two]), if_neg (by decide)]
  rfl
theorem own_cells3 {w : World} {B n : Nat} {e : TypeId} {z : Nat} {v : Value} {xs : List Value} (h : w.ownsRow B e z v n xs) (hn : 0 < n) : ∃ g c, v = .slice (some ⟨g, 0, none⟩) n c ∧ g < w.heap.size ∧ ∀ j u, xs[j]? = some u → w.cell? ⟨g, j, none⟩ = some u := by
  have hc := fun g hg => h.cells (g := g) hg
  obtain ⟨h1, ⟨rfl, h0⟩ | ⟨g, cap, cur, rfl, hB, hg, r⟩⟩ := h
  · omega
  · refine ⟨g, cap, rfl, (Array.getElem?_eq_some_iff.1 hg).1, fun j u hu => ?_⟩
    have := hc g rfl j u hu
    rwa [addN, Nat.zero_add] at this
theorem eq31 (a b c : Int) (w : World) : (binOp .eql 31 (.agg #[.int .i64 a, .int .i64 b, .int .i64 c]) (.agg #[.int .i64 a, .int .i64 b, .int .i64 c])).run Try.prog w = .ok (.bool true) w := by
  simp [go_sem]
theorem fils_new (w : World) : Fils (w.alloc (.cells #[.int .i64 2, .int .i64 1, .int .i64 10, .int .i64 3, .int .i64 1, .int .i64 2, .int .i64 11, .int .i64 3] 67)) (.slice (some ⟨w.heap.size, 0, none⟩) 2 2) fl2 := by
  refine ⟨by simp [fl2], some ⟨w.heap.size, 0, none⟩, 2, rfl, ⟨by simp [fl2], by unfold maxLen; omega⟩, fun _ => ⟨w.heap.size, 0, rfl, by simp, fun j hj => ?_⟩⟩
  rw [Nat.zero_add, cell_at (heap_alloc_new w _)]
  have : j < 8 := by simpa [fl2] using hj
  match j, this with
  | 0, _ => rfl
  | 1, _ => rfl
  | 2, _ => rfl
  | 3, _ => rfl
  | 4, _ => rfl
  | 5, _ => rfl
  | 6, _ => rfl
  | 7, _ => rfl
theorem owes_new (w : World) : Owes (w.alloc (.cells #[.int .i64 1, .int .i64 0, .int .i64 5, .int .i64 2, .int .i64 1, .int .i64 6] 45)) (.slice (some ⟨w.heap.size, 0, none⟩) 2 2) ow2 := by
  refine ⟨by simp [ow2], some ⟨w.heap.size, 0, none⟩, 2, rfl, ⟨by simp [ow2], by unfold maxLen; omega⟩, fun _ => ⟨w.heap.size, 0, rfl, by simp, fun j hj => ?_⟩⟩
  rw [Nat.zero_add, cell_at (heap_alloc_new w _)]
  have : j < 6 := by simpa [ow2] using hj
  match j, this with
  | 0, _ => rfl
  | 1, _ => rfl
  | 2, _ => rfl
  | 3, _ => rfl
  | 4, _ => rfl
  | 5, _ => rfl
set_option maxHeartbeats 8000000 in
set_option maxRecDepth 100000 in
theorem live_is (w : World) : Calls Try.prog 12 #[] w fun e w' => e = .returned (.bool true) ∧ Below w.heap.size w w' := by
  have HB0 := hideIt (below1 w (.cells #[.int .i64 2, .int .i64 1, .int .i64 10, .int .i64 3, .int .i64 1, .int .i64 2, .int .i64 11, .int .i64 3] 67))
  have HN := hideIt (net_is _ fl2 _ (fils_new w))
  rw [net_two] at HN
  unfold NetB at HN
  have q1 := fun W => eq31 1 (-3) 0 W
  go_enter Try.func12, Try.ntmps12
  go_wp2_with fail
  refine HN.out.mono ?_
  rintro e w1 ⟨na, nc, rfl, ho, hb⟩
  dsimp only
  simp only [List.length_cons, List.length_nil, Nat.zero_add] at ho
  obtain ⟨g, c', e, hgl, hcc⟩ := own_cells3 ho (by omega)
  simp only [Value.slice.injEq] at e
  obtain ⟨rfl, -, rfl⟩ := e
  have HB1 := hideIt (below_via HB0.out hb)
  have d0 := hcc 0 _ rfl
  have d1 := hcc 1 _ rfl
  have d2 := hcc 2 _ rfl
  clear hb ho hcc HN HB0
  have hb1 := below1 w1 (.cells #[.int .i64 1, .int .i64 0, .int .i64 5, .int .i64 2, .int .i64 1, .int .i64 6] 45)
  have HT1 := hideIt (take_is ln2 (.slice none 0 0) (.slice none 0 0) (.slice (some ⟨w1.heap.size, 0, none⟩) 2 2) 1 _ ⟨own_sgot (own_nil (e := 47) _ 0) (by simp [ln2]), own_sgot (own_nil (e := 47) _ 0) (by simp [ln2]), owes_new w1⟩)
  rw [take_two] at HT1
  unfold TkB laneV laneA at HT1
  dsimp only [ln2] at HT1
  go_wp2_with fail
  refine HT1.out.mono ?_
  rintro e w2 ⟨tb, ta, tw, tu, rfl, hob, hoa, hoo, hou, hb⟩
  dsimp only
  simp only [List.length_cons, List.length_nil, Nat.zero_add] at hob hoa hoo hou
  obtain ⟨xb, xbc, rfl⟩ := own_len hob
  obtain ⟨xa, xac, rfl⟩ := own_len hoa
  obtain ⟨xo, xoc, rfl⟩ := own_len hoo
  obtain ⟨g2, c2, rfl, hgl2, hcc2⟩ := own_cells3 hou (by omega)
  have u1 := hcc2 1 _ rfl
  have hbb := below_via hb1 hb
  have HB2 := hideIt (below_via HB1.out hbb)
  have e0 := (hbb.cell (p := ⟨g, 0, none⟩) hgl).trans d0
  have e1 := (hbb.cell (p := ⟨g, 1, none⟩) hgl).trans d1
  have e2 := (hbb.cell (p := ⟨g, 2, none⟩) hgl).trans d2
  have gz : g < w2.heap.size := Nat.lt_of_lt_of_le hgl hbb.size
  have hb3 := below1 w2 (.cells #[.bool false, .int .i64 1, .slice xb 0 xbc, .slice xa 0 xac, .slice xo 1 xoc] 37)
  have f0 := (hb3.cell (p := ⟨g, 0, none⟩) gz).trans e0
  have f1 := (hb3.cell (p := ⟨g, 1, none⟩) gz).trans e1
  have f2 := (hb3.cell (p := ⟨g, 2, none⟩) gz).trans e2
  have v1 := (hb3.cell (p := ⟨g2, 1, none⟩) hgl2).trans u1
  have HB3 := hideIt (below_via HB2.out hb3)
  have K3 := hideIt (heap_alloc_new w2 (.cells #[.bool false, .int .i64 1, .slice xb 0 xbc, .slice xa 0 xac, .slice xo 1 xoc] 37))
  have gz3 : g < (w2.alloc (.cells #[.bool false, .int .i64 1, .slice xb 0 xbc, .slice xa 0 xac, .slice xo 1 xoc] 37)).heap.size := Nat.lt_of_lt_of_le gz hb3.size
  have gz4 : g2 < (w2.alloc (.cells #[.bool false, .int .i64 1, .slice xb 0 xbc, .slice xa 0 xac, .slice xo 1 xoc] 37)).heap.size := Nat.lt_of_lt_of_le hgl2 hb3.size
  clear hob hoa hoo hou hcc2 hb hb1 hbb hb3 HB1 HB2 HT1 d0 d1 d2 e0 e1 e2 u1 gz hgl hgl2
  go_upto_region 3 with fail
  generalize w2.alloc (.cells #[.bool false, .int .i64 1, .slice xb 0 xbc, .slice xa 0 xac, .slice xo 1 xoc] 37) = W3 at *
  generalize w2.heap.size = k3 at *
  have k4 : W3.cell? ⟨k3, 4, none⟩ = some (.slice xo 1 xoc) := by rw [cell_at K3.out]; rfl
  have kz : k3 < W3.heap.size := (Array.getElem?_eq_some_iff.1 K3.out).1
  clear K3
  go_wp2
  go_ret
  exact ⟨rfl, HB3.out⟩
end Go.Proofs.Ytbpnnhalajbjnaa
