/- One more number put into a list of the call's own: the library's contracts of its four roads, taken together. -/
import Derived.Test.YtkoecdcbopkkbaaKit
namespace Go.Proofs.Ytkoecdcbopkkbaa
open Go.RowKit

theorem insert_own (B : Nat) (v : Value) (l : List Int) (i : Nat) (x : Int) (w : World) (hB : B ≤ w.heap.size) (hi : i ≤ l.length) (h8 : l.length ≤ 1000) (h : w.ownsRow B 3 1 v l.length (l.map iv)) :
    Calls Try.prog 43 #[v, .int .i64 (i : Int), .slice (some ⟨w.heap.size, 0, none⟩) 1 1] (w.alloc (.cells #[.int .i64 x] 3)) (OwnBack B w (insL l i x)) := by
  have hal : Below B w (w.alloc (.cells #[.int .i64 x] 3)) := (Below.refl B w).alloc hB _
  have hnew : ∀ j u, [iv x][j]? = some u → (w.alloc (.cells #[.int .i64 x] 3)).cell? ⟨w.heap.size, 0 + j, none⟩ = some u := by
    intro j u hu
    rw [cell_at (heap_alloc_new w _), Nat.zero_add]
    cases j with
    | zero => simpa [iv] using hu
    | succ j => simp at hu
  have hone : ∀ u ∈ [iv x], u.oneCell' = true := by
    intro u hu
    simp at hu
    subst hu
    rfl
  have hcl : (l.map iv).length = l.length := List.length_map ..
  have e3 : laysNm221_ren.t 3 = 3 := rfl
  have hz3 : (Value.int IntKind.i64 0).cells.size = 1 := rfl
  have hsz : (w.alloc (.cells #[.int .i64 x] 3)).heap.size = w.heap.size + 1 := by simp
  obtain ⟨hl0, ⟨rfl, h0⟩ | ⟨g, cap, cur, rfl, hg, hcur, hn, hc, hs, ht⟩⟩ := h
  · have hl : l = [] := List.length_eq_zero_iff.1 h0
    subst hl
    obtain rfl : i = 0 := by simpa using hi
    refine (Any2.slices_Insert_int_end_grow laysNm221 none 0 0 w.heap.size 0 1 1 [] [iv x] _ (by omega) (by omega) (by omega) (by omega) rfl rfl (fun _ => rfl) (fun a h => by cases h) hnew hone).mono ?_
    rintro e w' ⟨rfl, rfl⟩
    have hge := grownCap_ge (w.alloc (.cells #[.int .i64 x] 3)) 1 0 3
    have hcm := grownCap_le_maxLen (w.alloc (.cells #[.int .i64 x] 3)) 1 0 3 (by decide)
    refine ⟨_, rfl, grow_own _ B 1 _ (by rw [hsz]; omega) _ [x] _ (heap_alloc_new (w.alloc (.cells #[.int .i64 x] 3)).drew _) rfl ?_ hge hcm ?_, hal.drew.alloc (by show B ≤ (w.alloc _).heap.size; rw [hsz]; omega) _⟩
    · simp only [Array.size_append, List.size_toArray, size_zeroCells, hz3, List.length_append, List.length_nil, List.length_cons]
      rw [e3]
      generalize grownCap (w.alloc (.cells #[.int .i64 x] 3)) _ _ _ = q at *
      omega
    · simp [iv]
  · rw [Nat.mul_one] at hs ht
    have hgl : g < w.heap.size := (Array.getElem?_eq_some_iff.1 hcur).1
    have hcurA : (w.alloc (.cells #[.int .i64 x] 3)).heap[g]? = some (.cells cur 3 (0, 0)) := (heap_alloc_old w _ hgl).trans hcur
    have hget : ∀ j, j < l.length → cur[j]? = (l.map iv)[j]? := by
      intro j hj
      rw [← ht, List.getElem?_take, if_pos hj]
      simp
    have hcs : ∀ j u, (l.map iv)[j]? = some u → (w.alloc (.cells #[.int .i64 x] 3)).cell? ⟨g, 0 + j, none⟩ = some u := by
      intro j u hu
      have hj : j < l.length := by
        have := (List.getElem?_eq_some_iff.1 hu).1
        omega
      rw [cell_at hcurA, Nat.zero_add, hget j hj, hu]
    by_cases hroom : l.length + 1 ≤ cap
    · by_cases he : i = l.length
      · subst he
        refine (Any2.slices_Insert_int_end_room laysNm221 g 0 l.length cap w.heap.size 0 1 1 [iv x] _ (by omega) hroom hc rfl ?_ ?_ hnew hone).mono ?_
        · intro j hj
          rw [cell_at hcurA]
          simp
          omega
        · intro j hj
          exact free_at hcurA _
        · rintro e w' ⟨rfl, rfl⟩
          have hput : ((w.alloc (.cells #[.int .i64 x] 3)).setCells g (0 + l.length) [iv x]).heap[g]? = _ := heap_setCells g 3 [iv x] _ _ _ hcurA
          refine ⟨_, rfl, ⟨by simp, .inr ⟨g, cap, _, by rw [insL_len], hg, hput, by rw [insL_len]; omega, hc, by rw [putL_size]; omega, ?_⟩⟩, below_setCells B g hg _ _ _ _ hal⟩
          rw [insL_len, insL_map, Nat.mul_one]
          have hb : 0 + l.length + [iv x].length ≤ cur.size := by simp; omega
          refine take_ins _ _ _ l.length l.length (by simp) (Nat.le_refl _) (by rw [putL_size]; omega) ?_ ?_ ?_
          · intro j hj
            rw [putL_get _ _ _ _ hb, if_neg (by omega), hget j hj]
          · rw [putL_get _ _ _ _ hb, if_pos (by simp), Nat.zero_add, Nat.sub_self]
            rfl
          · intro j h1 h2
            omega
      · have hi' : i < l.length := by omega
        refine (Any2.slices_Insert_int_shift laysNm221 g 0 l.length cap i w.heap.size 0 1 1 (l.map iv) [iv x] _ hi' (by omega) hroom hc (by omega) hcl rfl hcs ?_ ?_ hnew (iv_one l) hone 3 3 1 cur.size (shape_new w _ 3) (shape_at hcurA) (by omega) (free_at (heap_alloc_new w _) _) (free_at (heap_alloc_new w _) _)).mono ?_
        · intro j hj
          rw [cell_at hcurA]
          simp
          omega
        · intro j hj
          exact free_at hcurA _
        · rintro e w' ⟨rfl, rfl⟩
          have hput1 : ((w.alloc (.cells #[.int .i64 x] 3)).drew.setCells g (0 + (i + 1)) ((l.map iv).drop i)).heap[g]? = _ := heap_setCells g 3 ((l.map iv).drop i) _ (w.alloc (.cells #[.int .i64 x] 3)).drew cur hcurA
          have hput := heap_setCells g 3 [iv x] (0 + i) _ _ hput1
          refine ⟨_, rfl, ⟨by simp, .inr ⟨g, cap, _, by rw [insL_len], hg, hput, by rw [insL_len]; omega, hc, by rw [putL_size, putL_size]; omega, ?_⟩⟩, below_setCells B g hg _ _ _ _ (below_setCells B g hg _ _ _ _ hal.drew)⟩
          rw [insL_len, insL_map, Nat.mul_one]
          have hdl : ((l.map iv).drop i).length = l.length - i := by simp
          have hb1 : 0 + (i + 1) + ((l.map iv).drop i).length ≤ cur.size := by rw [hdl]; omega
          have hb : 0 + i + [iv x].length ≤ (putL cur (0 + (i + 1)) ((l.map iv).drop i)).size := by rw [putL_size]; simp; omega
          refine take_ins _ _ _ i l.length (by simp) hi (by rw [putL_size, putL_size]; omega) ?_ ?_ ?_
          · intro j hj
            rw [putL_get _ _ _ _ hb, if_neg (by omega), putL_get _ _ _ _ hb1, if_neg (by omega), hget j (by omega)]
          · rw [putL_get _ _ _ _ hb, if_pos (by simp), Nat.zero_add, Nat.sub_self]
            rfl
          · intro j h1 h2
            rw [putL_get _ _ _ _ hb, if_neg (by simp; omega), putL_get _ _ _ _ hb1, if_pos (by rw [hdl]; omega), List.getElem?_drop, show i + (j + 1 - (0 + (i + 1))) = j by omega]
    · have hcap : cap = l.length := by omega
      have hge := grownCap_ge (w.alloc (.cells #[.int .i64 x] 3)) (l.length + 1) cap 3
      have hcm := grownCap_le_maxLen (w.alloc (.cells #[.int .i64 x] 3)) (l.length + 1) cap 3 (by unfold maxLen; omega)
      by_cases he : i = l.length
      · subst he
        refine (Any2.slices_Insert_int_end_grow laysNm221 (some ⟨g, 0, none⟩) l.length cap w.heap.size 0 1 1 (l.map iv) [iv x] _ (by omega) (by omega) (by omega) (by omega) hcl rfl (fun h => by cases h) (fun a h => by cases h; intro j u hu; rw [Addr.add_lit]; exact hcs j u hu) hnew hone).mono ?_
        rintro e w' ⟨rfl, rfl⟩
        refine ⟨_, rfl, grow_own _ B (l.length + 1) _ (by rw [hsz]; omega) _ _ _ (heap_alloc_new (w.alloc (.cells #[.int .i64 x] 3)).drew _) (insL_len ..) ?_ hge hcm ?_, hal.drew.alloc (by show B ≤ (w.alloc _).heap.size; rw [hsz]; omega) _⟩
        · simp only [Array.size_append, List.size_toArray, size_zeroCells, hz3, List.length_append, List.length_nil, List.length_cons, List.length_map]
          rw [e3]
          generalize grownCap (w.alloc (.cells #[.int .i64 x] 3)) _ _ _ = q at *
          omega
        · have e1 : (l.map iv).take l.length = l.map iv := List.take_of_length_le (by simp)
          have e2 : (l.map iv).drop l.length = [] := List.drop_eq_nil_of_le (by simp)
          rw [insL_map, e1, e2, Array.toList_append]
          have : l.length + 1 = (l.map iv ++ [iv x]).length := by simp
          rw [this]
          exact List.take_left
      · have hi' : i < l.length := by omega
        refine (Any2.slices_Insert_int_grow laysNm221 g 0 l.length cap i w.heap.size 0 1 1 (l.map iv) [iv x] _ hi' (by omega) (by omega) (by omega) (by omega) hcl rfl hcs hnew (iv_one l) hone).mono ?_
        rintro e w' ⟨rfl, rfl⟩
        obtain ⟨A, hA⟩ : ∃ A, A = ((l.map iv).take i).toArray ++ Builtin.zeroCells (Value.int .i64 0).cells (l.length + 1 - i) ++ Builtin.zeroCells (Value.int .i64 0).cells (grownCap (w.alloc (.cells #[.int .i64 x] 3)) (l.length + 1) cap 3 - (l.length + 1)) := ⟨_, rfl⟩
        have hAs : A.size = grownCap (w.alloc (.cells #[.int .i64 x] 3)) (l.length + 1) cap 3 := by
          rw [hA]
          simp only [Array.size_append, List.size_toArray, size_zeroCells, hz3, List.length_take, List.length_map]
          omega
        have hA1 : ∀ j, j < i → A[j]? = (l.map iv)[j]? := by
          intro j hj
          rw [hA, Array.append_assoc, Array.getElem?_append_left (by simp; omega)]
          simp [hj]
        have hnewA := heap_alloc_new (w.alloc (.cells #[.int .i64 x] 3)) (.cells A 3)
        have hput1 := heap_setCells (w.alloc (.cells #[.int .i64 x] 3)).heap.size 3 [iv x] i ((w.alloc (.cells #[.int .i64 x] 3)).alloc (.cells A 3)).drew A hnewA
        have hput := heap_setCells (w.alloc (.cells #[.int .i64 x] 3)).heap.size 3 ((l.map iv).drop i) (i + 1) (((w.alloc (.cells #[.int .i64 x] 3)).alloc (.cells A 3)).drew.setCells (w.alloc (.cells #[.int .i64 x] 3)).heap.size i [iv x]).drew _ hput1
        have hBs : B ≤ (w.alloc (.cells #[.int .i64 x] 3)).heap.size := by rw [hsz]; omega
        rw [hA] at hput
        refine ⟨_, rfl, grow_own _ B (l.length + 1) _ hBs _ _ _ hput (insL_len ..) ?_ hge hcm ?_, below_setCells B _ hBs _ _ _ _ (below_setCells B _ hBs _ _ _ _ (hal.alloc hBs _).drew).drew⟩
        · rw [putL_size, putL_size, ← hA]
          exact hAs
        · rw [← hA, insL_map]
          have hdl : ((l.map iv).drop i).length = l.length - i := by simp
          have hge' : l.length + 1 ≤ A.size := by rw [hAs]; exact hge
          have hb1 : i + [iv x].length ≤ A.size := by simp; omega
          have hb : i + 1 + ((l.map iv).drop i).length ≤ (putL A i [iv x]).size := by rw [putL_size, hdl]; omega
          refine take_ins _ _ _ i l.length (by simp) hi (by rw [putL_size, putL_size]; omega) ?_ ?_ ?_
          · intro j hj
            rw [putL_get _ _ _ _ hb, if_neg (by omega), putL_get _ _ _ _ hb1, if_neg (by omega), hA1 j hj]
          · rw [putL_get _ _ _ _ hb, if_neg (by omega), putL_get _ _ _ _ hb1, if_pos (by simp), Nat.sub_self]
            rfl
          · intro j h1 h2
            rw [putL_get _ _ _ _ hb, if_pos (by rw [hdl]; omega), List.getElem?_drop, show i + (j + 1 - (i + 1)) = j by omega]
end Go.Proofs.Ytkoecdcbopkkbaa
