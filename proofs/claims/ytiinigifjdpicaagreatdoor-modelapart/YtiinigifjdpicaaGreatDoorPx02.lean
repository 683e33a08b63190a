/- Texts of my own, laid together. -/
import Derived.Test.YtiinigifjdpicaaGreatDoorPx01
namespace Go.Proofs.YtiinigifjdpicaaGreatDoor
open Go.RowKit
set_option linter.all false
set_option maxHeartbeats 8000000 in
set_option maxRecDepth 100000 in
theorem insO_shift (g c i vb : Nat) (cur : Array Value) (l : List OrdV) (x : OrdV) (w : World) (hg : w.heap[g]? = some (.cells cur 115 (0, 0))) (hs : cur.size = c * 4) (ht : cur.toList.take (l.length * 4) = celC ordE l) (hi : i < l.length) (hroom : l.length + 1 ≤ c) (hc : c ≤ maxLen)
  (hvb : w.heap[vb]? = some (.cells (ordE x).toArray 115 (0, 0))) (hne : vb ≠ g) :
  Calls Tryz.prog 143 #[.slice (some ⟨g, 0, none⟩) l.length c, .int .i64 i, .slice (some ⟨vb, 0, none⟩) 1 1] w fun e w' => e = .returned (.slice (some ⟨g, 0, none⟩) (l.length + 1) c) ∧ ∃ R : Array Value, w' = w.drew.setRow g R ∧ R.size = c * 4 ∧ R.toList.take ((l.length + 1) * 4) = celC ordE (l.take i ++ x :: l.drop i) := by
 unfold maxLen at hc;obtain ⟨i1, hi1⟩ : ∃ i1, i1 = i + 1 := ⟨_, rfl⟩;obtain ⟨n1, hn1⟩ : ∃ n1, n1 = l.length + 1 := ⟨_, rfl⟩;obtain ⟨n, hn⟩ : ∃ n, n = l.length := ⟨_, rfl⟩;have hsz : (Tryz.prog.info? 115).map (·.size) = some 4 := by kernel_rfl
 have hov : ∀ lb cb, (callFunc 174 #[.slice (some ⟨vb, 0, none⟩) 1 1, .slice (some ⟨g, i1 * 4, none⟩) lb cb]).run Tryz.prog w = .ok (.value (.bool false)) w := fun lb cb => by
  rw [run_callFunc_extern Tryz.func174 (by kernel_rfl) (by kernel_rfl) (by kernel_rfl) (e := Extern.SlicesOverlaps.overlaps #[56, 56] #[4]) (by kernel_rfl),
   Lib.run_overlaps_apart w 56 4 115 Tryz.underlying56 4 Tryz.sizeOf115 ⟨vb, 0, none⟩ ⟨g, i1 * 4, none⟩ 1 1 lb cb hne 115 115 (ordE x).toArray.size cur.size (shape_at hvb) (shape_at hg) (by omega) (free_at hvb 0) (free_at hvb _)]
  rfl
 have hA : (celC ordE (l.take i)).length = i * 4 := by rw [celC_len ordK, List.length_take, Nat.min_eq_left (by omega)]
 have hD : (celC ordE (l.drop i)).length = (l.length - i) * 4 := by rw [celC_len ordK, List.length_drop]
 obtain ⟨T, hT⟩ : ∃ T, cur.toList = celC ordE (l.take i) ++ celC ordE (l.drop i) ++ T := ⟨cur.toList.drop (l.length * 4), by rw [← celC_app, List.take_append_drop, ← ht, List.take_append_drop]⟩;have hTl : 4 ≤ T.length := by
  have := congrArg List.length hT;rw [List.length_append, List.length_append, hA, hD] at this;simp only [Array.length_toList, hs] at this;omega
 have hL := shift_list (celC ordE (l.take i)) (celC ordE (l.drop i)) T (ordE x) 4 (ordK x) hTl;have hsrcD : ∀ j v, (celC ordE (l.drop i))[j]? = some v → w.drew.cell? ((⟨g, i * 4, none⟩ : Addr).add j) = some v := fun j v hj => by
  have hjl := (List.getElem?_eq_some_iff.1 hj).1;rw [addN, cell_at (w := w.drew) hg, ← Array.getElem?_toList, hT, List.append_assoc, List.getElem?_append_right (by omega), hA, Nat.add_sub_cancel_left, List.getElem?_append_left hjl, hj]
 obtain ⟨R1, hR1⟩ : ∃ R1 : Array Value, R1 = (cur.toList.take (i1 * 4) ++ celC ordE (l.drop i) ++ cur.toList.drop (i1 * 4 + (celC ordE (l.drop i)).length)).toArray := ⟨_, rfl⟩;have hcp1 : ∀ ty dc sc, (Builtin.copy_ #[56, 56] ty #[.slice (some ⟨g, i1 * 4, none⟩) (n1 - i1) dc, .slice (some ⟨g, i * 4, none⟩) (n1 - i) sc]).run Tryz.prog w.drew = .ok (goInt (Nat.min (n1 - i) (n1 - i1))) (w.drew.setRow g R1) := fun ty dc sc => by
  rw [hR1];exact run_copyK w.drew 56 56 ty 115 4 g (i1 * 4) (n1 - i1) dc ⟨g, i * 4, none⟩ (n1 - i) sc cur 115 (celC ordE (l.drop i)) Tryz.underlying56 hsz hg (by rw [hD]; show _ = (min (n1 - i) (n1 - i1)) * 4; omega) hsrcD (by rw [hD, hs]; omega) (celC_one ord1 _)
 have hR1s : R1.size = c * 4 := by
  rw [hR1];simp only [List.size_toArray, List.length_append, List.length_take, List.length_drop, Array.length_toList, hD, hs];omega
 have hg1 : (w.drew.setRow g R1).heap[g]? = some (.cells R1 115 (0, 0)) := setRow_heap _ g cur _ 115 _ hg;obtain ⟨R2, hR2⟩ : ∃ R2 : Array Value, R2 = (R1.toList.take (i * 4) ++ ordE x ++ R1.toList.drop (i * 4 + (ordE x).length)).toArray := ⟨_, rfl⟩;have hcp2 : ∀ ty dc, (Builtin.copy_ #[56, 56] ty #[.slice (some ⟨g, i * 4, none⟩) (n1 - i) dc, .slice (some ⟨vb, 0, none⟩) 1 1]).run Tryz.prog (w.drew.setRow g R1) = .ok (goInt (Nat.min 1 (n1 - i))) (w.drew.setRow g R2) := fun ty dc => by
  have := run_copyK (w.drew.setRow g R1) 56 56 ty 115 4 g (i * 4) (n1 - i) dc ⟨vb, 0, none⟩ 1 1 R1 115 (ordE x) Tryz.underlying56 hsz hg1 (by rw [ordK]; show _ = (min 1 (n1 - i)) * 4; omega) (fun j v hj => by
   have hv2 : (w.drew.setRow g R1).heap[vb]? = some (.cells (ordE x).toArray 115 (0, 0)) := (setRow_other w.drew g vb _ hne).trans hvb;rw [addN, cell_at hv2, Nat.zero_add]
   simpa using hj) (by rw [ordK, hR1s]; omega) (ord1 x)
  rw [this, setRow_setRow, hR2]
 have hRES : ∃ R : Array Value, R = R2 ∧ R.size = c * 4 ∧ R.toList.take ((l.length + 1) * 4) = celC ordE (l.take i ++ x :: l.drop i) := by
  refine ⟨R2, rfl, ?_, ?_⟩
  ·rw [hR2];simp only [List.size_toArray, List.length_append, List.length_take, List.length_drop, Array.length_toList, ordK, hR1s];omega
  ·rw [celC_app, celC_cons, ← List.append_assoc, ← hL, hR2, hR1, hA, hD, hT];simp only [List.toList_toArray];rw [hi1, show i * 4 + 4 = (i + 1) * 4 by omega, show (i + 1) * 4 + (l.length - i) * 4 = (l.length + 1) * 4 by omega]
 have HRES := hideIt hRES;have hb1 : (0 : Int) ≤ (i : Int) := by omega
 have hb2 : (i : Int) ≤ (n : Int) := by omega
 have hb3 : ¬ ((i : Int) = (n : Int)) := by omega
 have hb4 : IntKind.i64.wrap ((n : Int) + 1) = (n1 : Int) := by rw [IntKind.wrap_i64]; omega
 have hb5 : ¬ ((c : Int) < (n1 : Int)) := by omega
 have hb6 : IntKind.i64.wrap ((i : Int) + 1) = (i1 : Int) := by rw [IntKind.wrap_i64]; omega
 have hb7 : (0 : Int) ≤ (i1 : Int) ∧ (i1 : Int) ≤ (n1 : Int) ∧ (n1 : Int) ≤ (c : Int) ∧ (0 : Int) ≤ (n1 : Int) := by omega
 obtain ⟨hb7, hb8, hb9, hb10⟩ := hb7;have hb11 : ¬ (c = i1) := by omega
 have hb12 : ¬ (c = i) := by omega
 have hb13 : (i : Int) ≤ (n1 : Int) := by omega
 have hb14 : (n : Int) ≤ (c : Int) := by omega
 rw [← hn1, ← hn];rw [← hn1] at HRES;clear hRES hR2 hR1 hR1s hg1 hL hTl hT hA hD hsrcD hsz ht hs hg hvb hne hi hroom hc hi1 hn1 hn;have mixed : Tryz.prog.follows Departure.mixedOrders = true := by kernel_rfl
 go_enter Tryz.func143, Tryz.ntmps143
 go_wp2_with (simp only [hov])
 go_region_law_o (refine step_copy_runK rfl _ _ 56 56 rfl (.slice (some ⟨g, i1 * 4, none⟩) (n1 - i1) (c - i1)) (.slice (some ⟨g, i * 4, none⟩) (n1 - i) (c - i)) (by simp [Act.eval, Act.put]) (by simp [Act.eval, Act.put]) (hcp1 _ _ _) ?_)
 go_wp2_with (at_builtin; refine wpList_copy_runK _ rfl _ _ 56 56 rfl _ _ rfl rfl (hcp2 _ _) ?_)
 go_ret;obtain ⟨R, rfl, h1, h2⟩ := HRES.out
 exact ⟨rfl, R, rfl, h1, h2⟩
set_option maxHeartbeats 8000000 in
set_option maxRecDepth 100000 in
theorem insO_grow (g c i vb : Nat) (cur : Array Value) (l : List OrdV) (x : OrdV) (w : World) (hg : w.heap[g]? = some (.cells cur 115 (0, 0))) (ht : cur.toList.take (l.length * 4) = celC ordE l) (hi : i < l.length) (hnc : l.length ≤ c) (hroom : c < l.length + 1) (hbig : (l.length + 1) * 32 ≤ 140737488355328)
  (hvb : w.heap[vb]? = some (.cells (ordE x).toArray 115 (0, 0))) :
  Calls Tryz.prog 143 #[.slice (some ⟨g, 0, none⟩) l.length c, .int .i64 i, .slice (some ⟨vb, 0, none⟩) 1 1] w fun e w' => ∃ v', e = .returned v' ∧ w'.ownsRow w.heap.size 115 4 v' (l.length + 1) (celC ordE (l.take i ++ x :: l.drop i)) ∧ Below w.heap.size w w' := by
 obtain ⟨i1, hi1⟩ : ∃ i1, i1 = i + 1 := ⟨_, rfl⟩;obtain ⟨n1, hn1⟩ : ∃ n1, n1 = l.length + 1 := ⟨_, rfl⟩;obtain ⟨n, hn⟩ : ∃ n, n = l.length := ⟨_, rfl⟩;have hsz : (Tryz.prog.info? 115).map (·.size) = some 4 := by kernel_rfl
 have hgl : g < w.heap.size := (Array.getElem?_eq_some_iff.1 hg).1;have hvl : vb < w.heap.size := (Array.getElem?_eq_some_iff.1 hvb).1;have hA : (celC ordE (l.take i)).length = i * 4 := by rw [celC_len ordK, List.length_take, Nat.min_eq_left (by omega)]
 have hD : (celC ordE (l.drop i)).length = (l.length - i) * 4 := by rw [celC_len ordK, List.length_drop]
 obtain ⟨T, hT⟩ : ∃ T, cur.toList = celC ordE (l.take i) ++ celC ordE (l.drop i) ++ T := ⟨cur.toList.drop (l.length * 4), by rw [← celC_app, List.take_append_drop, ← ht, List.take_append_drop]⟩;have hsrcA : ∀ j v, (celC ordE (l.take i))[j]? = some v → w.drew.cell? ((⟨g, 0, none⟩ : Addr).add j) = some v := fun j v hj => by
  have hjl := (List.getElem?_eq_some_iff.1 hj).1;rw [addN, cell_at (w := w.drew) hg, ← Array.getElem?_toList, hT, Nat.zero_add, List.append_assoc, List.getElem?_append_left hjl, hj]
 obtain ⟨i0, hi0, hz0, hz1, hz2⟩ := info_parts info36;have hold : (Builtin.firstCells i0.size i (.slice (some ⟨g, 0, none⟩) i c)).run Tryz.prog w.drew = .ok (celC ordE (l.take i)).toArray w.drew := by
  rw [hz1];exact run_firstCells_some w.drew 4 i ⟨g, 0, none⟩ i c (celC ordE (l.take i)) hA hsrcA
 obtain ⟨G, hG⟩ : ∃ G, G = grownCap w n1 c 115 := ⟨_, rfl⟩;have hGn : n1 ≤ G := by rw [hG]; exact grownCap_ge w _ _ _
 have hG63 : G ≤ maxLen := by rw [hG]; exact grownCap_le_maxLen w n1 c 115 (by unfold maxLen; omega)
 obtain ⟨Z, hZ⟩ : ∃ Z : Array Value, Z = Builtin.zeroCells (Value.agg #[.int .i64 0, .int .i64 0, .int .i64 0, .int .i64 0]).cells (n1 - i) ++ Builtin.zeroCells (Value.agg #[.int .i64 0, .int .i64 0, .int .i64 0, .int .i64 0]).cells (G - n1) := ⟨_, rfl⟩;have hZl : Z.size = (G - i) * 4 := by
  rw [hZ, Array.size_append, size_zeroCells, size_zeroCells]
  show (n1 - i) * 4 + (G - n1) * 4 = _
  omega
 obtain ⟨ROW, hROW⟩ : ∃ ROW : Array Value, ROW = (celC ordE (l.take i)).toArray ++ Z := ⟨_, rfl⟩;obtain ⟨W1, hW1⟩ : ∃ W1, W1 = w.drew.alloc (.cells ROW 115) := ⟨_, rfl⟩;have hrz : ∀ ty, (Builtin.append_ #[56, 3] ty #[.slice (some ⟨g, 0, none⟩) i c, .int .i64 ((n1 - i : Nat) : Int)]).run Tryz.prog w = .ok (.slice (some ⟨w.heap.size, 0, none⟩) n1 G) W1 := fun ty => by
  have h := Lib.run_append_grow_zeros w 56 3 ty 115 i0 _ .i64 .i64 Tryz.underlying56 Tryz.underlying3 hi0 hz0 (some ⟨g, 0, none⟩) i c (celC ordE (l.take i)) hold (n1 - i) (by omega) (by omega) (by omega) (by omega) (by rw [hz2]; omega) (by rw [hz2, show i + (n1 - i) = n1 by omega]; exact growslice_fits (by omega) (by rw [hn1]; exact hbig))
  rw [show i + (n1 - i) = n1 by omega, ← hG] at h;rw [hW1, hROW, hZ, ← Array.append_assoc];exact h
 have hg0 : W1.heap[w.heap.size]? = some (.cells ROW 115 (0, 0)) := by rw [hW1]; exact heap_alloc_new w.drew _
 have hRs : ROW.size = G * 4 := by
  rw [hROW, Array.size_append, List.size_toArray, hA, hZl];omega
 obtain ⟨R1, hR1⟩ : ∃ R1 : Array Value, R1 = (ROW.toList.take (i * 4) ++ ordE x ++ ROW.toList.drop (i * 4 + (ordE x).length)).toArray := ⟨_, rfl⟩;have hv1 : W1.heap[vb]? = some (.cells (ordE x).toArray 115 (0, 0)) := by rw [hW1]; exact (heap_alloc_old w.drew _ hvl).trans hvb
 have hgg : W1.heap[g]? = some (.cells cur 115 (0, 0)) := by rw [hW1]; exact (heap_alloc_old w.drew _ hgl).trans hg
 have hcp1 : ∀ ty dc, (Builtin.copy_ #[56, 56] ty #[.slice (some ⟨w.heap.size, i * 4, none⟩) (n1 - i) dc, .slice (some ⟨vb, 0, none⟩) 1 1]).run Tryz.prog W1 = .ok (goInt (Nat.min 1 (n1 - i))) (W1.setRow w.heap.size R1) := fun ty dc => by
  rw [hR1];exact run_copyK W1 56 56 ty 115 4 w.heap.size (i * 4) (n1 - i) dc ⟨vb, 0, none⟩ 1 1 ROW 115 (ordE x) Tryz.underlying56 hsz hg0 (by rw [ordK]; show _ = (min 1 (n1 - i)) * 4; omega) (fun j v hj => by
   rw [addN, cell_at hv1, Nat.zero_add]
   simpa using hj) (by rw [ordK, hRs]; omega) (ord1 x)
 have hR1s : R1.size = G * 4 := by
  rw [hR1];simp only [List.size_toArray, List.length_append, List.length_take, List.length_drop, Array.length_toList, ordK, hRs];omega
 obtain ⟨W2, hW2⟩ : ∃ W2, W2 = W1.setRow w.heap.size R1 := ⟨_, rfl⟩;have hg2 : W2.heap[w.heap.size]? = some (.cells R1 115 (0, 0)) := by rw [hW2]; exact setRow_heap _ _ ROW _ 115 _ hg0
 have hgg2 : W2.heap[g]? = some (.cells cur 115 (0, 0)) := by rw [hW2]; exact (setRow_other W1 _ g _ (by omega)).trans hgg
 obtain ⟨R2, hR2⟩ : ∃ R2 : Array Value, R2 = (R1.toList.take (i1 * 4) ++ celC ordE (l.drop i) ++ R1.toList.drop (i1 * 4 + (celC ordE (l.drop i)).length)).toArray := ⟨_, rfl⟩;have hcp2 : ∀ ty dc sc, (Builtin.copy_ #[56, 56] ty #[.slice (some ⟨w.heap.size, i1 * 4, none⟩) (n1 - i1) dc, .slice (some ⟨g, i * 4, none⟩) (n - i) sc]).run Tryz.prog W2.drew = .ok (goInt (Nat.min (n - i) (n1 - i1))) (W2.drew.setRow w.heap.size R2) := fun ty dc sc => by
  rw [hR2];exact run_copyK W2.drew 56 56 ty 115 4 w.heap.size (i1 * 4) (n1 - i1) dc ⟨g, i * 4, none⟩ (n - i) sc R1 115 (celC ordE (l.drop i)) Tryz.underlying56 hsz hg2 (by rw [hD]; show _ = (min (n - i) (n1 - i1)) * 4; omega) (fun j v hj => by
   have hjl := (List.getElem?_eq_some_iff.1 hj).1;rw [addN, cell_at (w := W2.drew) hgg2, ← Array.getElem?_toList, hT, List.append_assoc, List.getElem?_append_right (by omega), hA, Nat.add_sub_cancel_left, List.getElem?_append_left hjl, hj]) (by rw [hD, hR1s]; omega) (celC_one ord1 _)
 have HRES : Hid ((W2.drew.setRow w.heap.size R2).ownsRow w.heap.size 115 4 (.slice (some ⟨w.heap.size, 0, none⟩) n1 G) n1 (celC ordE (l.take i ++ x :: l.drop i)) ∧ Below w.heap.size w (W2.drew.setRow w.heap.size R2)) := by
  refine ⟨⟨?_, .inr ⟨w.heap.size, G, R2, rfl, Nat.le_refl _, setRow_heap _ _ R1 _ 115 _ hg2, hGn, hG63, ?_, ?_⟩⟩, ?_⟩
  ·rw [celC_len ordK, List.length_append, List.length_cons, List.length_take, List.length_drop, hn1]
   congr 1
   omega
  ·rw [hR2];simp only [List.size_toArray, List.length_append, List.length_take, List.length_drop, Array.length_toList, hD, hR1s];omega
  ·have hz9 : Z.toList.length = (G - i) * 4 := by rw [Array.length_toList (xs := Z)]; exact hZl
   have hL := grow_list (celC ordE (l.take i)) (celC ordE (l.drop i)) Z.toList (ordE x) 4 (ordK x) (by rw [hD, hz9]; omega)
   rw [celC_app, celC_cons, ← List.append_assoc, ← hL, hR2, hR1, hROW, hA, hD];simp only [List.toList_toArray, Array.toList_append];rw [hi1, hn1, show i * 4 + 4 = (i + 1) * 4 by omega, show (i + 1) * 4 + (l.length - i) * 4 = (l.length + 1) * 4 by omega]
  ·rw [hW2, hW1];refine ⟨rfl, rfl, rfl, ?_, fun k hk => ?_⟩
   ·simp [World.setRow]
   ·rw [setRow_other _ _ k _ (by omega)];exact (setRow_other _ _ k _ (by omega)).trans (heap_alloc_old w.drew _ hk)
 have hb1 : (0 : Int) ≤ (i : Int) := by omega
 have hb2 : (i : Int) ≤ (n : Int) := by omega
 have hb3 : ¬ ((i : Int) = (n : Int)) := by omega
 have hb4 : IntKind.i64.wrap ((n : Int) + 1) = (n1 : Int) := by rw [IntKind.wrap_i64]; omega
 have hb5 : ((c : Int) < (n1 : Int)) := by omega
 have hb6 : IntKind.i64.wrap ((i : Int) + 1) = (i1 : Int) := by rw [IntKind.wrap_i64]; omega
 unfold maxLen at hG63;have hb7 : (0 : Int) ≤ (i1 : Int) ∧ (i1 : Int) ≤ (n1 : Int) ∧ (n1 : Int) ≤ (G : Int) ∧ (0 : Int) ≤ (n1 : Int) := by omega
 obtain ⟨hb7, hb8, hb9, hb10⟩ := hb7;have hb11 : ¬ (G = i1) := by omega
 have hb12 : ¬ (G = i) := by omega
 have hb13 : (i : Int) ≤ (n1 : Int) := by omega
 have hb14 : (n : Int) ≤ (c : Int) := by omega
 have hb15 : ¬ (c = i) := by omega
 have hb16 : IntKind.i64.wrap ((n1 : Int) - (i : Int)) = ((n1 - i : Nat) : Int) := by rw [IntKind.wrap_i64]; omega
 have hb17 : (i : Int) ≤ (c : Int) := by omega
 rw [← hW2] at hcp1;rw [← hn1, ← hn];obtain ⟨m1, hm1⟩ : ∃ m1 : Nat, m1 = n1 - i := ⟨_, rfl⟩;rw [← hm1] at hb16 hrz;clear hT hA hD hsrcA hsz ht hg hvb hi hroom hnc hi1 hn1 hn hold hz0 hz1 hz2 hi0 hGn hG63 hG hZ hZl hROW hg0 hRs hR1 hR1s hv1 hgg hW1 hW2 hg2 hgg2 hR2 hgl hvl hbig hm1;have mixed : Tryz.prog.follows Departure.mixedOrders = true := by kernel_rfl
 go_enter Tryz.func143, Tryz.ntmps143
 go_wp2_with (first
  | (at_builtin; refine Lib.wpList_append_run _ rfl _ _ _ _ rfl _ _ rfl rfl _ _ (hrz _) ?_)
  | (at_builtin; refine wpList_copy_runK _ rfl _ _ 56 56 rfl _ _ rfl rfl (hcp1 _ _) ?_))
 go_region_law_o (refine step_copy_runK rfl _ _ 56 56 rfl (.slice (some ⟨w.heap.size, i1 * 4, none⟩) (n1 - i1) (G - i1)) (.slice (some ⟨g, i * 4, none⟩) (n - i) (c - i)) (by simp [Act.eval, Act.put]) (by simp [Act.eval, Act.put]) (hcp2 _ _ _) ?_)
 go_wp2;go_ret
 exact ⟨_, rfl, HRES.out⟩
set_option maxHeartbeats 8000000 in
set_option maxRecDepth 100000 in
theorem insO_end (B c vb : Nat) (a : Option Addr) (l : List OrdV) (x : OrdV) (w : World) (ho : w.ownsRow B 115 4 (.slice a l.length c) l.length (celC ordE l)) (hB : B ≤ w.heap.size) (hbig : (l.length + 1) * 32 ≤ 140737488355328)
  (hvb : w.heap[vb]? = some (.cells (ordE x).toArray 115 (0, 0))) :
  Calls Tryz.prog 143 #[.slice a l.length c, .int .i64 l.length, .slice (some ⟨vb, 0, none⟩) 1 1] w fun e w' => ∃ v', e = .returned v' ∧ w'.ownsRow B 115 4 v' (l.length + 1) (celC ordE (l ++ [x])) ∧ w.grownBy w' (Value.slice a l.length c).ownBlock := by
 obtain ⟨v', w', hrun, how, hgr⟩ := app1 (enc := ordE) (t := 56) ordK ord1 Tryz.underlying56 info36 rfl (by omega) w B (.slice a l.length c) l x vb 1 hB ho hvb hbig (by unfold maxLen; omega)
 rw [List.length_append, List.length_singleton] at how;have HRUN := hideIt hrun;have HO := hideIt (And.intro how hgr);have hcc : l.length ≤ c ∧ c ≤ maxLen := by
  rcases ho.2 with ⟨h1, h2⟩ | ⟨g, cap, cur, h1, _, _, h2, h3, _⟩
  ·simp only [Value.slice.injEq] at h1;omega
  ·simp only [Value.slice.injEq] at h1;rw [h1.2.2]
   exact ⟨h2, h3⟩
 have hsome : a = none ∨ ∃ g, a = some ⟨g, 0, none⟩ := by
  rcases ho.2 with ⟨h1, h2⟩ | ⟨g, cap, cur, h1, _⟩
  ·simp only [Value.slice.injEq] at h1;exact .inl h1.1
  ·simp only [Value.slice.injEq] at h1;exact .inr ⟨g, h1.1⟩
 have hnone : a = none → c = 0 ∧ l.length = 0 := by
  intro ha
  rcases ho.2 with ⟨h1, h2⟩ | ⟨g, cap, cur, h1, _⟩
  ·simp only [Value.slice.injEq] at h1
   exact ⟨h1.2.2, h2⟩
  ·simp only [Value.slice.injEq] at h1;rw [ha] at h1;exact absurd h1.1 (by simp)
 unfold maxLen at hcc;obtain ⟨hc1, hc2⟩ := hcc;have hb0 : (0 : Int) ≤ (l.length : Int) := by omega
 have hb1 : (l.length : Int) ≤ (c : Int) := by omega
 clear hrun how hgr ho hvb hbig hB
 rcases hsome with rfl | ⟨g, rfl⟩
 ·obtain ⟨rfl, h0⟩ := hnone rfl;clear hnone;rw [h0] at HRUN ⊢
  go_enter Tryz.func143, Tryz.ntmps143
  go_wp2_with (at_builtin; refine Lib.wpList_append_run _ rfl _ _ _ _ rfl _ _ rfl rfl _ _ HRUN.out ?_)
  go_ret
  exact ⟨_, rfl, by rw [h0] at HO; exact HO.out⟩
 ·clear hnone;generalize l.length = n at *
  go_enter Tryz.func143, Tryz.ntmps143
  go_wp2_with (at_builtin; refine Lib.wpList_append_run _ rfl _ _ _ _ rfl _ _ rfl rfl _ _ HRUN.out ?_)
  all_goals (go_ret; exact ⟨_, rfl, HO.out⟩)
theorem insertO_is (B i vb : Nat) (v : Value) (l : List OrdV) (x : OrdV) (w : World) (ho : w.ownsRow B 115 4 v l.length (celC ordE l)) (hB : B ≤ w.heap.size) (hi : i ≤ l.length) (hbig : (l.length + 1) * 32 ≤ 140737488355328)
  (hvb : w.heap[vb]? = some (.cells (ordE x).toArray 115 (0, 0))) (hne : v.ownBlock ≠ some vb) :
  Calls Tryz.prog 143 #[v, .int .i64 i, .slice (some ⟨vb, 0, none⟩) 1 1] w fun e w' => ∃ v', e = .returned v' ∧ w'.ownsRow B 115 4 v' (l.take i ++ x :: l.drop i).length (celC ordE (l.take i ++ x :: l.drop i)) ∧ w.grownBy w' v.ownBlock := by
 have hlen : (l.take i ++ x :: l.drop i).length = l.length + 1 := by
  rw [List.length_append, List.length_cons, List.length_take, List.length_drop];omega
 by_cases hin : i = l.length
 ·subst hin;rw [List.take_of_length_le (Nat.le_refl _), List.drop_of_length_le (Nat.le_refl _)];obtain ⟨a, c, rfl⟩ := own_len ho;rw [List.length_append, List.length_singleton];exact insO_end B c vb a l x w ho hB hbig hvb
 ·have hil : i < l.length := by omega
  rcases ho.2 with ⟨_, h2⟩ | ⟨g, cap, cur, rfl, hg0, hg, hn, hc, hs, ht⟩
  ·omega
  ·have hgne : vb ≠ g := fun e => hne (by rw [e]; rfl)
   by_cases hroom : l.length + 1 ≤ cap
   ·refine (insO_shift g cap i vb cur l x w hg hs ht hil hroom hc hvb hgne).mono ?_;rintro e w' ⟨rfl, R, rfl, hR1, hR2⟩;refine ⟨_, rfl, ?_, ?_⟩
    ·rw [hlen]
     exact ⟨by rw [celC_len ordK, hlen], .inr ⟨g, cap, R, rfl, hg0, setRow_heap _ g cur _ 115 _ hg, hroom, hc, hR1, hR2⟩⟩
    ·exact ⟨rfl, rfl, rfl, by simp [World.setRow], fun k _ hk => setRow_other _ g k _ (fun e => hk (by rw [e]; rfl))⟩
   ·refine (insO_grow g cap i vb cur l x w hg ht hil hn (by omega) hbig hvb).mono ?_;rintro e w' ⟨v', rfl, h1, h2⟩;refine ⟨v', rfl, ?_, ⟨h2.os, h2.tape, h2.output, h2.size, fun k hk _ => h2.block k hk⟩⟩;rw [hlen];exact own_base h1 hB
set_option maxHeartbeats 8000000 in
set_option maxRecDepth 100000 in
theorem insW_shift (g c i vb : Nat) (cur : Array Value) (l : List OweV) (x : OweV) (w : World) (hg : w.heap[g]? = some (.cells cur 61 (0, 0))) (hs : cur.size = c * 3) (ht : cur.toList.take (l.length * 3) = celC oweE l) (hi : i < l.length) (hroom : l.length + 1 ≤ c) (hc : c ≤ maxLen)
  (hvb : w.heap[vb]? = some (.cells (oweE x).toArray 61 (0, 0))) (hne : vb ≠ g) :
  Calls Tryz.prog 184 #[.slice (some ⟨g, 0, none⟩) l.length c, .int .i64 i, .slice (some ⟨vb, 0, none⟩) 1 1] w fun e w' => e = .returned (.slice (some ⟨g, 0, none⟩) (l.length + 1) c) ∧ ∃ R : Array Value, w' = w.drew.setRow g R ∧ R.size = c * 3 ∧ R.toList.take ((l.length + 1) * 3) = celC oweE (l.take i ++ x :: l.drop i) := by
 unfold maxLen at hc;obtain ⟨i1, hi1⟩ : ∃ i1, i1 = i + 1 := ⟨_, rfl⟩;obtain ⟨n1, hn1⟩ : ∃ n1, n1 = l.length + 1 := ⟨_, rfl⟩;obtain ⟨n, hn⟩ : ∃ n, n = l.length := ⟨_, rfl⟩;have hsz : (Tryz.prog.info? 61).map (·.size) = some 3 := by kernel_rfl
 have hov : ∀ lb cb, (callFunc 187 #[.slice (some ⟨vb, 0, none⟩) 1 1, .slice (some ⟨g, i1 * 3, none⟩) lb cb]).run Tryz.prog w = .ok (.value (.bool false)) w := fun lb cb => by
  rw [run_callFunc_extern Tryz.func187 (by kernel_rfl) (by kernel_rfl) (by kernel_rfl) (e := Extern.SlicesOverlaps.overlaps #[57, 57] #[4]) (by kernel_rfl),
   Lib.run_overlaps_apart w 57 4 61 Tryz.underlying57 3 Tryz.sizeOf61 ⟨vb, 0, none⟩ ⟨g, i1 * 3, none⟩ 1 1 lb cb hne 61 61 (oweE x).toArray.size cur.size (shape_at hvb) (shape_at hg) (by omega) (free_at hvb 0) (free_at hvb _)]
  rfl
 have hA : (celC oweE (l.take i)).length = i * 3 := by rw [celC_len oweK, List.length_take, Nat.min_eq_left (by omega)]
 have hD : (celC oweE (l.drop i)).length = (l.length - i) * 3 := by rw [celC_len oweK, List.length_drop]
 obtain ⟨T, hT⟩ : ∃ T, cur.toList = celC oweE (l.take i) ++ celC oweE (l.drop i) ++ T := ⟨cur.toList.drop (l.length * 3), by rw [← celC_app, List.take_append_drop, ← ht, List.take_append_drop]⟩;have hTl : 3 ≤ T.length := by
  have := congrArg List.length hT;rw [List.length_append, List.length_append, hA, hD] at this;simp only [Array.length_toList, hs] at this;omega
 have hL := shift_list (celC oweE (l.take i)) (celC oweE (l.drop i)) T (oweE x) 3 (oweK x) hTl;have hsrcD : ∀ j v, (celC oweE (l.drop i))[j]? = some v → w.drew.cell? ((⟨g, i * 3, none⟩ : Addr).add j) = some v := fun j v hj => by
  have hjl := (List.getElem?_eq_some_iff.1 hj).1;rw [addN, cell_at (w := w.drew) hg, ← Array.getElem?_toList, hT, List.append_assoc, List.getElem?_append_right (by omega), hA, Nat.add_sub_cancel_left, List.getElem?_append_left hjl, hj]
 obtain ⟨R1, hR1⟩ : ∃ R1 : Array Value, R1 = (cur.toList.take (i1 * 3) ++ celC oweE (l.drop i) ++ cur.toList.drop (i1 * 3 + (celC oweE (l.drop i)).length)).toArray := ⟨_, rfl⟩;have hcp1 : ∀ ty dc sc, (Builtin.copy_ #[57, 57] ty #[.slice (some ⟨g, i1 * 3, none⟩) (n1 - i1) dc, .slice (some ⟨g, i * 3, none⟩) (n1 - i) sc]).run Tryz.prog w.drew = .ok (goInt (Nat.min (n1 - i) (n1 - i1))) (w.drew.setRow g R1) := fun ty dc sc => by
  rw [hR1];exact run_copyK w.drew 57 57 ty 61 3 g (i1 * 3) (n1 - i1) dc ⟨g, i * 3, none⟩ (n1 - i) sc cur 61 (celC oweE (l.drop i)) Tryz.underlying57 hsz hg (by rw [hD]; show _ = (min (n1 - i) (n1 - i1)) * 3; omega) hsrcD (by rw [hD, hs]; omega) (celC_one owe1 _)
 have hR1s : R1.size = c * 3 := by
  rw [hR1];simp only [List.size_toArray, List.length_append, List.length_take, List.length_drop, Array.length_toList, hD, hs];omega
 have hg1 : (w.drew.setRow g R1).heap[g]? = some (.cells R1 61 (0, 0)) := setRow_heap _ g cur _ 61 _ hg;obtain ⟨R2, hR2⟩ : ∃ R2 : Array Value, R2 = (R1.toList.take (i * 3) ++ oweE x ++ R1.toList.drop (i * 3 + (oweE x).length)).toArray := ⟨_, rfl⟩;have hcp2 : ∀ ty dc, (Builtin.copy_ #[57, 57] ty #[.slice (some ⟨g, i * 3, none⟩) (n1 - i) dc, .slice (some ⟨vb, 0, none⟩) 1 1]).run Tryz.prog (w.drew.setRow g R1) = .ok (goInt (Nat.min 1 (n1 - i))) (w.drew.setRow g R2) := fun ty dc => by
  have := run_copyK (w.drew.setRow g R1) 57 57 ty 61 3 g (i * 3) (n1 - i) dc ⟨vb, 0, none⟩ 1 1 R1 61 (oweE x) Tryz.underlying57 hsz hg1 (by rw [oweK]; show _ = (min 1 (n1 - i)) * 3; omega) (fun j v hj => by
   have hv2 : (w.drew.setRow g R1).heap[vb]? = some (.cells (oweE x).toArray 61 (0, 0)) := (setRow_other w.drew g vb _ hne).trans hvb;rw [addN, cell_at hv2, Nat.zero_add]
   simpa using hj) (by rw [oweK, hR1s]; omega) (owe1 x)
  rw [this, setRow_setRow, hR2]
 have hRES : ∃ R : Array Value, R = R2 ∧ R.size = c * 3 ∧ R.toList.take ((l.length + 1) * 3) = celC oweE (l.take i ++ x :: l.drop i) := by
  refine ⟨R2, rfl, ?_, ?_⟩
  ·rw [hR2];simp only [List.size_toArray, List.length_append, List.length_take, List.length_drop, Array.length_toList, oweK, hR1s];omega
  ·rw [celC_app, celC_cons, ← List.append_assoc, ← hL, hR2, hR1, hA, hD, hT];simp only [List.toList_toArray];rw [hi1, show i * 3 + 3 = (i + 1) * 3 by omega, show (i + 1) * 3 + (l.length - i) * 3 = (l.length + 1) * 3 by omega]
 have HRES := hideIt hRES;have hb1 : (0 : Int) ≤ (i : Int) := by omega
 have hb2 : (i : Int) ≤ (n : Int) := by omega
 have hb3 : ¬ ((i : Int) = (n : Int)) := by omega
 have hb4 : IntKind.i64.wrap ((n : Int) + 1) = (n1 : Int) := by rw [IntKind.wrap_i64]; omega
 have hb5 : ¬ ((c : Int) < (n1 : Int)) := by omega
 have hb6 : IntKind.i64.wrap ((i : Int) + 1) = (i1 : Int) := by rw [IntKind.wrap_i64]; omega
 have hb7 : (0 : Int) ≤ (i1 : Int) ∧ (i1 : Int) ≤ (n1 : Int) ∧ (n1 : Int) ≤ (c : Int) ∧ (0 : Int) ≤ (n1 : Int) := by omega
 obtain ⟨hb7, hb8, hb9, hb10⟩ := hb7;have hb11 : ¬ (c = i1) := by omega
 have hb12 : ¬ (c = i) := by omega
 have hb13 : (i : Int) ≤ (n1 : Int) := by omega
 have hb14 : (n : Int) ≤ (c : Int) := by omega
 rw [← hn1, ← hn];rw [← hn1] at HRES;clear hRES hR2 hR1 hR1s hg1 hL hTl hT hA hD hsrcD hsz ht hs hg hvb hne hi hroom hc hi1 hn1 hn;have mixed : Tryz.prog.follows Departure.mixedOrders = true := by kernel_rfl
 go_enter Tryz.func184, Tryz.ntmps184
 go_wp2_with (simp only [hov])
 go_region_law_o (refine step_copy_runK rfl _ _ 57 57 rfl (.slice (some ⟨g, i1 * 3, none⟩) (n1 - i1) (c - i1)) (.slice (some ⟨g, i * 3, none⟩) (n1 - i) (c - i)) (by simp [Act.eval, Act.put]) (by simp [Act.eval, Act.put]) (hcp1 _ _ _) ?_)
 go_wp2_with (at_builtin; refine wpList_copy_runK _ rfl _ _ 57 57 rfl _ _ rfl rfl (hcp2 _ _) ?_)
 go_ret;obtain ⟨R, rfl, h1, h2⟩ := HRES.out
 exact ⟨rfl, R, rfl, h1, h2⟩
set_option maxHeartbeats 8000000 in
set_option maxRecDepth 100000 in
theorem insW_grow (g c i vb : Nat) (cur : Array Value) (l : List OweV) (x : OweV) (w : World) (hg : w.heap[g]? = some (.cells cur 61 (0, 0))) (ht : cur.toList.take (l.length * 3) = celC oweE l) (hi : i < l.length) (hnc : l.length ≤ c) (hroom : c < l.length + 1) (hbig : (l.length + 1) * 24 ≤ 140737488355328)
  (hvb : w.heap[vb]? = some (.cells (oweE x).toArray 61 (0, 0))) :
  Calls Tryz.prog 184 #[.slice (some ⟨g, 0, none⟩) l.length c, .int .i64 i, .slice (some ⟨vb, 0, none⟩) 1 1] w fun e w' => ∃ v', e = .returned v' ∧ w'.ownsRow w.heap.size 61 3 v' (l.length + 1) (celC oweE (l.take i ++ x :: l.drop i)) ∧ Below w.heap.size w w' := by
 obtain ⟨i1, hi1⟩ : ∃ i1, i1 = i + 1 := ⟨_, rfl⟩;obtain ⟨n1, hn1⟩ : ∃ n1, n1 = l.length + 1 := ⟨_, rfl⟩;obtain ⟨n, hn⟩ : ∃ n, n = l.length := ⟨_, rfl⟩;have hsz : (Tryz.prog.info? 61).map (·.size) = some 3 := by kernel_rfl
 have hgl : g < w.heap.size := (Array.getElem?_eq_some_iff.1 hg).1;have hvl : vb < w.heap.size := (Array.getElem?_eq_some_iff.1 hvb).1;have hA : (celC oweE (l.take i)).length = i * 3 := by rw [celC_len oweK, List.length_take, Nat.min_eq_left (by omega)]
 have hD : (celC oweE (l.drop i)).length = (l.length - i) * 3 := by rw [celC_len oweK, List.length_drop]
 obtain ⟨T, hT⟩ : ∃ T, cur.toList = celC oweE (l.take i) ++ celC oweE (l.drop i) ++ T := ⟨cur.toList.drop (l.length * 3), by rw [← celC_app, List.take_append_drop, ← ht, List.take_append_drop]⟩;have hsrcA : ∀ j v, (celC oweE (l.take i))[j]? = some v → w.drew.cell? ((⟨g, 0, none⟩ : Addr).add j) = some v := fun j v hj => by
  have hjl := (List.getElem?_eq_some_iff.1 hj).1;rw [addN, cell_at (w := w.drew) hg, ← Array.getElem?_toList, hT, Nat.zero_add, List.append_assoc, List.getElem?_append_left hjl, hj]
 obtain ⟨i0, hi0, hz0, hz1, hz2⟩ := info_parts info63;have hold : (Builtin.firstCells i0.size i (.slice (some ⟨g, 0, none⟩) i c)).run Tryz.prog w.drew = .ok (celC oweE (l.take i)).toArray w.drew := by
  rw [hz1];exact run_firstCells_some w.drew 3 i ⟨g, 0, none⟩ i c (celC oweE (l.take i)) hA hsrcA
 obtain ⟨G, hG⟩ : ∃ G, G = grownCap w n1 c 61 := ⟨_, rfl⟩;have hGn : n1 ≤ G := by rw [hG]; exact grownCap_ge w _ _ _
 have hG63 : G ≤ maxLen := by rw [hG]; exact grownCap_le_maxLen w n1 c 61 (by unfold maxLen; omega)
 obtain ⟨Z, hZ⟩ : ∃ Z : Array Value, Z = Builtin.zeroCells (Value.agg #[.int .i64 0, .int .i64 0, .int .i64 0]).cells (n1 - i) ++ Builtin.zeroCells (Value.agg #[.int .i64 0, .int .i64 0, .int .i64 0]).cells (G - n1) := ⟨_, rfl⟩;have hZl : Z.size = (G - i) * 3 := by
  rw [hZ, Array.size_append, size_zeroCells, size_zeroCells]
  show (n1 - i) * 3 + (G - n1) * 3 = _
  omega
 obtain ⟨ROW, hROW⟩ : ∃ ROW : Array Value, ROW = (celC oweE (l.take i)).toArray ++ Z := ⟨_, rfl⟩;obtain ⟨W1, hW1⟩ : ∃ W1, W1 = w.drew.alloc (.cells ROW 61) := ⟨_, rfl⟩;have hrz : ∀ ty, (Builtin.append_ #[57, 3] ty #[.slice (some ⟨g, 0, none⟩) i c, .int .i64 ((n1 - i : Nat) : Int)]).run Tryz.prog w = .ok (.slice (some ⟨w.heap.size, 0, none⟩) n1 G) W1 := fun ty => by
  have h := Lib.run_append_grow_zeros w 57 3 ty 61 i0 _ .i64 .i64 Tryz.underlying57 Tryz.underlying3 hi0 hz0 (some ⟨g, 0, none⟩) i c (celC oweE (l.take i)) hold (n1 - i) (by omega) (by omega) (by omega) (by omega) (by rw [hz2]; omega) (by rw [hz2, show i + (n1 - i) = n1 by omega]; exact growslice_fits (by omega) (by rw [hn1]; exact hbig))
  rw [show i + (n1 - i) = n1 by omega, ← hG] at h;rw [hW1, hROW, hZ, ← Array.append_assoc];exact h
 have hg0 : W1.heap[w.heap.size]? = some (.cells ROW 61 (0, 0)) := by rw [hW1]; exact heap_alloc_new w.drew _
 have hRs : ROW.size = G * 3 := by
  rw [hROW, Array.size_append, List.size_toArray, hA, hZl];omega
 obtain ⟨R1, hR1⟩ : ∃ R1 : Array Value, R1 = (ROW.toList.take (i * 3) ++ oweE x ++ ROW.toList.drop (i * 3 + (oweE x).length)).toArray := ⟨_, rfl⟩;have hv1 : W1.heap[vb]? = some (.cells (oweE x).toArray 61 (0, 0)) := by rw [hW1]; exact (heap_alloc_old w.drew _ hvl).trans hvb
 have hgg : W1.heap[g]? = some (.cells cur 61 (0, 0)) := by rw [hW1]; exact (heap_alloc_old w.drew _ hgl).trans hg
 have hcp1 : ∀ ty dc, (Builtin.copy_ #[57, 57] ty #[.slice (some ⟨w.heap.size, i * 3, none⟩) (n1 - i) dc, .slice (some ⟨vb, 0, none⟩) 1 1]).run Tryz.prog W1 = .ok (goInt (Nat.min 1 (n1 - i))) (W1.setRow w.heap.size R1) := fun ty dc => by
  rw [hR1];exact run_copyK W1 57 57 ty 61 3 w.heap.size (i * 3) (n1 - i) dc ⟨vb, 0, none⟩ 1 1 ROW 61 (oweE x) Tryz.underlying57 hsz hg0 (by rw [oweK]; show _ = (min 1 (n1 - i)) * 3; omega) (fun j v hj => by
   rw [addN, cell_at hv1, Nat.zero_add]
   simpa using hj) (by rw [oweK, hRs]; omega) (owe1 x)
 have hR1s : R1.size = G * 3 := by
  rw [hR1];simp only [List.size_toArray, List.length_append, List.length_take, List.length_drop, Array.length_toList, oweK, hRs];omega
 obtain ⟨W2, hW2⟩ : ∃ W2, W2 = W1.setRow w.heap.size R1 := ⟨_, rfl⟩;have hg2 : W2.heap[w.heap.size]? = some (.cells R1 61 (0, 0)) := by rw [hW2]; exact setRow_heap _ _ ROW _ 61 _ hg0
 have hgg2 : W2.heap[g]? = some (.cells cur 61 (0, 0)) := by rw [hW2]; exact (setRow_other W1 _ g _ (by omega)).trans hgg
 obtain ⟨R2, hR2⟩ : ∃ R2 : Array Value, R2 = (R1.toList.take (i1 * 3) ++ celC oweE (l.drop i) ++ R1.toList.drop (i1 * 3 + (celC oweE (l.drop i)).length)).toArray := ⟨_, rfl⟩;have hcp2 : ∀ ty dc sc, (Builtin.copy_ #[57, 57] ty #[.slice (some ⟨w.heap.size, i1 * 3, none⟩) (n1 - i1) dc, .slice (some ⟨g, i * 3, none⟩) (n - i) sc]).run Tryz.prog W2.drew = .ok (goInt (Nat.min (n - i) (n1 - i1))) (W2.drew.setRow w.heap.size R2) := fun ty dc sc => by
  rw [hR2];exact run_copyK W2.drew 57 57 ty 61 3 w.heap.size (i1 * 3) (n1 - i1) dc ⟨g, i * 3, none⟩ (n - i) sc R1 61 (celC oweE (l.drop i)) Tryz.underlying57 hsz hg2 (by rw [hD]; show _ = (min (n - i) (n1 - i1)) * 3; omega) (fun j v hj => by
   have hjl := (List.getElem?_eq_some_iff.1 hj).1;rw [addN, cell_at (w := W2.drew) hgg2, ← Array.getElem?_toList, hT, List.append_assoc, List.getElem?_append_right (by omega), hA, Nat.add_sub_cancel_left, List.getElem?_append_left hjl, hj]) (by rw [hD, hR1s]; omega) (celC_one owe1 _)
 have HRES : Hid ((W2.drew.setRow w.heap.size R2).ownsRow w.heap.size 61 3 (.slice (some ⟨w.heap.size, 0, none⟩) n1 G) n1 (celC oweE (l.take i ++ x :: l.drop i)) ∧ Below w.heap.size w (W2.drew.setRow w.heap.size R2)) := by
  refine ⟨⟨?_, .inr ⟨w.heap.size, G, R2, rfl, Nat.le_refl _, setRow_heap _ _ R1 _ 61 _ hg2, hGn, hG63, ?_, ?_⟩⟩, ?_⟩
  ·rw [celC_len oweK, List.length_append, List.length_cons, List.length_take, List.length_drop, hn1]
   congr 1
   omega
  ·rw [hR2];simp only [List.size_toArray, List.length_append, List.length_take, List.length_drop, Array.length_toList, hD, hR1s];omega
  ·have hz9 : Z.toList.length = (G - i) * 3 := by rw [Array.length_toList (xs := Z)]; exact hZl
   have hL := grow_list (celC oweE (l.take i)) (celC oweE (l.drop i)) Z.toList (oweE x) 3 (oweK x) (by rw [hD, hz9]; omega)
   rw [celC_app, celC_cons, ← List.append_assoc, ← hL, hR2, hR1, hROW, hA, hD];simp only [List.toList_toArray, Array.toList_append];rw [hi1, hn1, show i * 3 + 3 = (i + 1) * 3 by omega, show (i + 1) * 3 + (l.length - i) * 3 = (l.length + 1) * 3 by omega]
  ·rw [hW2, hW1];refine ⟨rfl, rfl, rfl, ?_, fun k hk => ?_⟩
   ·simp [World.setRow]
   ·rw [setRow_other _ _ k _ (by omega)];exact (setRow_other _ _ k _ (by omega)).trans (heap_alloc_old w.drew _ hk)
 have hb1 : (0 : Int) ≤ (i : Int) := by omega
 have hb2 : (i : Int) ≤ (n : Int) := by omega
 have hb3 : ¬ ((i : Int) = (n : Int)) := by omega
 have hb4 : IntKind.i64.wrap ((n : Int) + 1) = (n1 : Int) := by rw [IntKind.wrap_i64]; omega
 have hb5 : ((c : Int) < (n1 : Int)) := by omega
 have hb6 : IntKind.i64.wrap ((i : Int) + 1) = (i1 : Int) := by rw [IntKind.wrap_i64]; omega
 unfold maxLen at hG63;have hb7 : (0 : Int) ≤ (i1 : Int) ∧ (i1 : Int) ≤ (n1 : Int) ∧ (n1 : Int) ≤ (G : Int) ∧ (0 : Int) ≤ (n1 : Int) := by omega
 obtain ⟨hb7, hb8, hb9, hb10⟩ := hb7;have hb11 : ¬ (G = i1) := by omega
 have hb12 : ¬ (G = i) := by omega
 have hb13 : (i : Int) ≤ (n1 : Int) := by omega
 have hb14 : (n : Int) ≤ (c : Int) := by omega
 have hb15 : ¬ (c = i) := by omega
 have hb16 : IntKind.i64.wrap ((n1 : Int) - (i : Int)) = ((n1 - i : Nat) : Int) := by rw [IntKind.wrap_i64]; omega
 have hb17 : (i : Int) ≤ (c : Int) := by omega
 rw [← hW2] at hcp1;rw [← hn1, ← hn];obtain ⟨m1, hm1⟩ : ∃ m1 : Nat, m1 = n1 - i := ⟨_, rfl⟩;rw [← hm1] at hb16 hrz;clear hT hA hD hsrcA hsz ht hg hvb hi hroom hnc hi1 hn1 hn hold hz0 hz1 hz2 hi0 hGn hG63 hG hZ hZl hROW hg0 hRs hR1 hR1s hv1 hgg hW1 hW2 hg2 hgg2 hR2 hgl hvl hbig hm1;have mixed : Tryz.prog.follows Departure.mixedOrders = true := by kernel_rfl
 go_enter Tryz.func184, Tryz.ntmps184
 go_wp2_with (first
  | (at_builtin; refine Lib.wpList_append_run _ rfl _ _ _ _ rfl _ _ rfl rfl _ _ (hrz _) ?_)
  | (at_builtin; refine wpList_copy_runK _ rfl _ _ 57 57 rfl _ _ rfl rfl (hcp1 _ _) ?_))
 go_region_law_o (refine step_copy_runK rfl _ _ 57 57 rfl (.slice (some ⟨w.heap.size, i1 * 3, none⟩) (n1 - i1) (G - i1)) (.slice (some ⟨g, i * 3, none⟩) (n - i) (c - i)) (by simp [Act.eval, Act.put]) (by simp [Act.eval, Act.put]) (hcp2 _ _ _) ?_)
 go_wp2;go_ret
 exact ⟨_, rfl, HRES.out⟩
set_option maxHeartbeats 8000000 in
set_option maxRecDepth 100000 in
theorem insW_end (B c vb : Nat) (a : Option Addr) (l : List OweV) (x : OweV) (w : World) (ho : w.ownsRow B 61 3 (.slice a l.length c) l.length (celC oweE l)) (hB : B ≤ w.heap.size) (hbig : (l.length + 1) * 24 ≤ 140737488355328)
  (hvb : w.heap[vb]? = some (.cells (oweE x).toArray 61 (0, 0))) :
  Calls Tryz.prog 184 #[.slice a l.length c, .int .i64 l.length, .slice (some ⟨vb, 0, none⟩) 1 1] w fun e w' => ∃ v', e = .returned v' ∧ w'.ownsRow B 61 3 v' (l.length + 1) (celC oweE (l ++ [x])) ∧ w.grownBy w' (Value.slice a l.length c).ownBlock := by
 obtain ⟨v', w', hrun, how, hgr⟩ := app1 (enc := oweE) (t := 57) oweK owe1 Tryz.underlying57 info63 rfl (by omega) w B (.slice a l.length c) l x vb 1 hB ho hvb hbig (by unfold maxLen; omega)
 rw [List.length_append, List.length_singleton] at how;have HRUN := hideIt hrun;have HO := hideIt (And.intro how hgr);have hcc : l.length ≤ c ∧ c ≤ maxLen := by
  rcases ho.2 with ⟨h1, h2⟩ | ⟨g, cap, cur, h1, _, _, h2, h3, _⟩
  ·simp only [Value.slice.injEq] at h1;omega
  ·simp only [Value.slice.injEq] at h1;rw [h1.2.2]
   exact ⟨h2, h3⟩
 have hsome : a = none ∨ ∃ g, a = some ⟨g, 0, none⟩ := by
  rcases ho.2 with ⟨h1, h2⟩ | ⟨g, cap, cur, h1, _⟩
  ·simp only [Value.slice.injEq] at h1;exact .inl h1.1
  ·simp only [Value.slice.injEq] at h1;exact .inr ⟨g, h1.1⟩
 have hnone : a = none → c = 0 ∧ l.length = 0 := by
  intro ha
  rcases ho.2 with ⟨h1, h2⟩ | ⟨g, cap, cur, h1, _⟩
  ·simp only [Value.slice.injEq] at h1
   exact ⟨h1.2.2, h2⟩
  ·simp only [Value.slice.injEq] at h1;rw [ha] at h1;exact absurd h1.1 (by simp)
 unfold maxLen at hcc;obtain ⟨hc1, hc2⟩ := hcc;have hb0 : (0 : Int) ≤ (l.length : Int) := by omega
 have hb1 : (l.length : Int) ≤ (c : Int) := by omega
 clear hrun how hgr ho hvb hbig hB
 rcases hsome with rfl | ⟨g, rfl⟩
 ·obtain ⟨rfl, h0⟩ := hnone rfl;clear hnone;rw [h0] at HRUN ⊢
  go_enter Tryz.func184, Tryz.ntmps184
  go_wp2_with (at_builtin; refine Lib.wpList_append_run _ rfl _ _ _ _ rfl _ _ rfl rfl _ _ HRUN.out ?_)
  go_ret
  exact ⟨_, rfl, by rw [h0] at HO; exact HO.out⟩
 ·clear hnone;generalize l.length = n at *
  go_enter Tryz.func184, Tryz.ntmps184
  go_wp2_with (at_builtin; refine Lib.wpList_append_run _ rfl _ _ _ _ rfl _ _ rfl rfl _ _ HRUN.out ?_)
  all_goals (go_ret; exact ⟨_, rfl, HO.out⟩)
theorem insertW_is (B i vb : Nat) (v : Value) (l : List OweV) (x : OweV) (w : World) (ho : w.ownsRow B 61 3 v l.length (celC oweE l)) (hB : B ≤ w.heap.size) (hi : i ≤ l.length) (hbig : (l.length + 1) * 24 ≤ 140737488355328)
  (hvb : w.heap[vb]? = some (.cells (oweE x).toArray 61 (0, 0))) (hne : v.ownBlock ≠ some vb) :
  Calls Tryz.prog 184 #[v, .int .i64 i, .slice (some ⟨vb, 0, none⟩) 1 1] w fun e w' => ∃ v', e = .returned v' ∧ w'.ownsRow B 61 3 v' (l.take i ++ x :: l.drop i).length (celC oweE (l.take i ++ x :: l.drop i)) ∧ w.grownBy w' v.ownBlock := by
 have hlen : (l.take i ++ x :: l.drop i).length = l.length + 1 := by
  rw [List.length_append, List.length_cons, List.length_take, List.length_drop];omega
 by_cases hin : i = l.length
 ·subst hin;rw [List.take_of_length_le (Nat.le_refl _), List.drop_of_length_le (Nat.le_refl _)];obtain ⟨a, c, rfl⟩ := own_len ho;rw [List.length_append, List.length_singleton];exact insW_end B c vb a l x w ho hB hbig hvb
 ·have hil : i < l.length := by omega
  rcases ho.2 with ⟨_, h2⟩ | ⟨g, cap, cur, rfl, hg0, hg, hn, hc, hs, ht⟩
  ·omega
  ·have hgne : vb ≠ g := fun e => hne (by rw [e]; rfl)
   by_cases hroom : l.length + 1 ≤ cap
   ·refine (insW_shift g cap i vb cur l x w hg hs ht hil hroom hc hvb hgne).mono ?_;rintro e w' ⟨rfl, R, rfl, hR1, hR2⟩;refine ⟨_, rfl, ?_, ?_⟩
    ·rw [hlen]
     exact ⟨by rw [celC_len oweK, hlen], .inr ⟨g, cap, R, rfl, hg0, setRow_heap _ g cur _ 61 _ hg, hroom, hc, hR1, hR2⟩⟩
    ·exact ⟨rfl, rfl, rfl, by simp [World.setRow], fun k _ hk => setRow_other _ g k _ (fun e => hk (by rw [e]; rfl))⟩
   ·refine (insW_grow g cap i vb cur l x w hg ht hil hn (by omega) hbig hvb).mono ?_;rintro e w' ⟨v', rfl, h1, h2⟩;refine ⟨v', rfl, ?_, ⟨h2.os, h2.tape, h2.output, h2.size, fun k hk _ => h2.block k hk⟩⟩;rw [hlen];exact own_base h1 hB
theorem wpList_clear_runK (w : World) {ops : Array Oper} {rest : List Oper} {o : Oper} {a : Act} {Q : Exit → Act → World → Prop} (hgd : o.guard = none) (d : Operand) (t : TypeId)
  (ho : o.op = .call { callee := .builtin .clear, args := #[d], argTypes := #[t] }) (v : Value) (hd : a.eval d = v) {v' : Value} {w' : World}
  (hr : (Builtin.clear_ #[t] o.type #[v]).run Tryz.prog w = .ok v' w') (h : wpList Tryz.prog ops Q rest (a.put o.dst v') w') : wpList Tryz.prog ops Q (o :: rest) a w := by
 refine wpList_plain hgd fun K hK => ?_
 unfold Oper.wp execOp;simp only [ho, resolve, invoke, builtin, Sem.run_bind, Sem.run_pure, Result.andThen_ok, List.map_toArray, List.map_cons, List.map_nil, hd, hr];exact hK _ _ h
def z4 : List Value := [.int .i64 0, .int .i64 0, .int .i64 0, .int .i64 0]
theorem run_clear4 (w : World) (ty : TypeId) (g o cc n : Nat) (cur : Array Value) (hn : n = 1) (hg : w.heap[g]? = some (.cells cur 115 (0, 0))) (hfit : o + 4 ≤ cur.size) :
  (Builtin.clear_ #[56] ty #[.slice (some ⟨g, o, none⟩) n cc]).run Tryz.prog w = .ok (.tuple #[]) (w.setRow g (cur.toList.take o ++ z4 ++ cur.toList.drop (o + 4)).toArray) := by
 subst hn;have hst := run_storeCells_at Tryz.prog g o 115 z4 0 cur w hg (by simpa [z4] using hfit) (by intro v hv; simp only [z4, List.mem_cons, List.not_mem_nil, or_false] at hv; rcases hv with rfl | rfl | rfl | rfl <;> rfl)
 have hz : (Builtin.zeroCells (Value.agg #[.int .i64 0, .int .i64 0, .int .i64 0, .int .i64 0]).cells 1).toList = z4 := by simp [Builtin.zeroCells, Value.cells, z4, Array.range, List.range, List.range.loop]
 simp [Builtin.clear_, run_underlying Tryz.underlying56, Tryz.zeroValue115, hz, hst]
 rfl
set_option maxHeartbeats 8000000 in
set_option maxRecDepth 100000 in
theorem del_at (g c i i1 : Nat) (cur : Array Value) (l : List OrdV) (w : World) (hi1 : i1 = i + 1) (hg : w.heap[g]? = some (.cells cur 115 (0, 0))) (hs : cur.size = c * 4) (ht : cur.toList.take (l.length * 4) = celC ordE l) (hi : i < l.length) (hnc : l.length ≤ c) (hc : c ≤ maxLen) :
  Calls Tryz.prog 141 #[.slice (some ⟨g, 0, none⟩) l.length c, .int .i64 i, .int .i64 i1] w fun e w' => e = .returned (.slice (some ⟨g, 0, none⟩) (l.length - 1) c) ∧ ∃ R : Array Value, w' = w.drew.setRow g R ∧ R.size = c * 4 ∧ R.toList.take ((l.length - 1) * 4) = celC ordE (l.take i ++ l.drop i1) := by
 unfold maxLen at hc;obtain ⟨n, hn⟩ : ∃ n, n = l.length := ⟨_, rfl⟩;obtain ⟨m1, hm1⟩ : ∃ m1, m1 = i + (n - i1) := ⟨_, rfl⟩;have hsz : (Tryz.prog.info? 115).map (·.size) = some 4 := by kernel_rfl
 have hA : (celC ordE (l.take i)).length = i * 4 := by rw [celC_len ordK, List.length_take, Nat.min_eq_left (by omega)]
 have hD : (celC ordE (l.drop i1)).length = (l.length - i1) * 4 := by rw [celC_len ordK, List.length_drop]
 obtain ⟨T, hT⟩ : ∃ T, cur.toList = celC ordE (l.take i1) ++ celC ordE (l.drop i1) ++ T := ⟨cur.toList.drop (l.length * 4), by rw [← celC_app, List.take_append_drop, ← ht, List.take_append_drop]⟩;have hA1 : (celC ordE (l.take i1)).length = i1 * 4 := by rw [celC_len ordK, List.length_take, Nat.min_eq_left (by omega)]
 obtain ⟨i0, hi0, hz0, hz1, hz2⟩ := info_parts info36;obtain ⟨R1, hR1⟩ : ∃ R1 : Array Value, R1 = (cur.toList.take (i * 4) ++ celC ordE (l.drop i1) ++ cur.toList.drop (i * 4 + (celC ordE (l.drop i1)).length)).toArray := ⟨_, rfl⟩;have hR1s : R1.size = c * 4 := by
  rw [hR1];simp only [List.size_toArray, List.length_append, List.length_take, List.length_drop, Array.length_toList, hD, hs];omega
 have hg1 : (w.drew.setRow g R1).heap[g]? = some (.cells R1 115 (0, 0)) := setRow_heap _ g cur _ 115 _ hg;have happ : ∀ (ad : Addr) (cc : Nat) (hsrc : ∀ j v, (celC ordE (l.drop i1))[j]? = some v → w.drew.cell? (ad.add j) = some v) ty, (Builtin.append_ #[56, 56] ty #[.slice (some ⟨g, 0, none⟩) i c, .slice (some ad) (n - i1) cc]).run Tryz.prog w.drew = .ok (.slice (some ⟨g, 0, none⟩) m1 c) (w.drew.setRow g R1) := fun ad cc hsrc ty => by
  have := run_append_room (P := Tryz.prog) w.drew 56 ty 115 i0 Tryz.underlying56 hi0 g i c cur hg ad (n - i1) cc (celC ordE (l.drop i1)) (by rw [hz1, hD, hn]) hsrc (celC_one ord1 _) (by omega) (by rw [hz1, hD, hs]; omega)
  rw [hz1] at this;rw [this, hm1, hR1]
 obtain ⟨R2, hR2⟩ : ∃ R2 : Array Value, R2 = (R1.toList.take (m1 * 4) ++ z4 ++ R1.toList.drop (m1 * 4 + 4)).toArray := ⟨_, rfl⟩;have hcl : ∀ ty cc, (Builtin.clear_ #[56] ty #[.slice (some ⟨g, m1 * 4, none⟩) (n - m1) cc]).run Tryz.prog (w.drew.setRow g R1) = .ok (.tuple #[]) (w.drew.setRow g R2) := fun ty cc => by
  have := run_clear4 (w.drew.setRow g R1) ty g (m1 * 4) cc (n - m1) R1 (by omega) hg1 (by rw [hR1s]; omega)
  rw [this, setRow_setRow, hR2]
 have HRES : Hid (∃ R : Array Value, w.drew.setRow g R2 = w.drew.setRow g R ∧ R.size = c * 4 ∧ R.toList.take (m1 * 4) = celC ordE (l.take i ++ l.drop i1)) := by
  refine ⟨R2, rfl, ?_, ?_⟩
  ·rw [hR2];simp only [List.size_toArray, List.length_append, List.length_take, List.length_drop, Array.length_toList, hR1s, z4, List.length_cons, List.length_nil];omega
  ·have hl1 : (R1.toList.take (m1 * 4)).length = m1 * 4 := by rw [List.length_take, Array.length_toList, hR1s]; omega
   have hl2 : (celC ordE (l.take i) ++ celC ordE (l.drop i1)).length = m1 * 4 := by rw [List.length_append, hA, hD]; omega
   have hcA : cur.toList.take (i * 4) = celC ordE (l.take i) := by
    rw [← celC_take ordK l i, ← ht, List.take_take, Nat.min_eq_left (by omega)]
   rw [hR2];simp only [List.toList_toArray];rw [List.append_assoc, List.take_append_of_le_length (by omega), List.take_take, Nat.min_self, celC_app, hR1];simp only [List.toList_toArray];rw [hcA, List.take_left' hl2]
 have hb0 : (0 : Int) ≤ (i : Int) ∧ (i : Int) ≤ (i1 : Int) ∧ (i1 : Int) ≤ (n : Int) ∧ (n : Int) ≤ (c : Int) ∧ ¬ ((i : Int) = (i1 : Int)) := by omega
 obtain ⟨hb0, hb1, hb2, hb3, hb4⟩ := hb0;have hb5 : (0 : Int) ≤ (m1 : Int) ∧ (m1 : Int) ≤ (n : Int) ∧ (i : Int) ≤ (c : Int) ∧ (0 : Int) ≤ (i1 : Int) ∧ (0 : Int) ≤ (n : Int) := by omega
 obtain ⟨hb5, hb6, hb7, hb8, hb9⟩ := hb5;have hb10 : ¬ (n = i) := by omega
 have hb11 : ¬ (c = m1) := by omega
 have mixed : Tryz.prog.follows Departure.mixedOrders = true := by kernel_rfl
 rw [show l.length - 1 = m1 by omega, ← hn]
 by_cases hci : c = i1
 ·have hap := happ ⟨g, 0, none⟩ 0 (fun j v hj => by
   rw [List.drop_of_length_le (by omega)] at hj
   simp [celC] at hj)
  have hn0 : n - i1 = 0 := by omega
  rw [hn0] at hap;have hn0I : n = i1 := by omega
  clear happ hR2 hR1 hR1s hg1 hA hD hA1 hT hi0 hz0 hz1 hz2 hsz hs hg ht hi hnc hc hn hm1 hn0 hi1;subst hn0I;subst hci
  go_enter Tryz.func141, Tryz.ntmps141
  go_wp2_with fail
  go_region_law_o (refine step_app_runK rfl _ _ 56 56 rfl (.slice (some ⟨g, 0, none⟩) i c) (.slice (some ⟨g, 0, none⟩) 0 0) (by simp [Act.eval, Act.put]) (by simp [Act.eval, Act.put]) (hap _) ?_)
  go_wp2_with (at_builtin; refine wpList_clear_runK _ rfl _ 56 rfl _ rfl (hcl _ _) ?_)
  go_ret
  exact ⟨rfl, HRES.out⟩
 ·have hap := happ ⟨g, i1 * 4, none⟩ (c - i1) (fun j v hj => by
   have hjl := (List.getElem?_eq_some_iff.1 hj).1;rw [addN, cell_at (w := w.drew) hg, ← Array.getElem?_toList, hT, List.append_assoc, List.getElem?_append_right (by omega), hA1, Nat.add_sub_cancel_left, List.getElem?_append_left hjl, hj])
  clear happ hR2 hR1 hR1s hg1 hA hD hA1 hT hi0 hz0 hz1 hz2 hsz hs hg ht hi hnc hc hn hm1 hi1
  go_enter Tryz.func141, Tryz.ntmps141
  go_wp2_with fail
  go_region_law_o (refine step_app_runK rfl _ _ 56 56 rfl (.slice (some ⟨g, 0, none⟩) i c) (.slice (some ⟨g, i1 * 4, none⟩) (n - i1) (c - i1)) (by simp [Act.eval, Act.put]) (by simp [Act.eval, Act.put]) (hap _) ?_)
  go_wp2_with (at_builtin; refine wpList_clear_runK _ rfl _ 56 rfl _ rfl (hcl _ _) ?_)
  go_ret
  exact ⟨rfl, HRES.out⟩
theorem deleteO_is (B i i1 : Nat) (hi1 : i1 = i + 1) (v : Value) (l : List OrdV) (w : World) (ho : w.ownsRow B 115 4 v l.length (celC ordE l)) (hi : i < l.length) :
  Calls Tryz.prog 141 #[v, .int .i64 i, .int .i64 i1] w fun e w' => ∃ v', e = .returned v' ∧ w'.ownsRow B 115 4 v' (l.take i ++ l.drop i1).length (celC ordE (l.take i ++ l.drop i1)) ∧ w.grownBy w' v.ownBlock ∧ v'.ownBlock = v.ownBlock := by
 have hlen : (l.take i ++ l.drop i1).length = l.length - 1 := by
  rw [List.length_append, List.length_take, List.length_drop];omega
 rcases ho.2 with ⟨_, h2⟩ | ⟨g, cap, cur, rfl, hg0, hg, hn, hc, hs, ht⟩
 ·omega
 ·refine (del_at g cap i i1 cur l w hi1 hg hs ht hi hn hc).mono ?_;rintro e w' ⟨rfl, R, rfl, hR1, hR2⟩;refine ⟨_, rfl, ?_, ?_, rfl⟩
  ·rw [hlen]
   exact ⟨by rw [celC_len ordK, hlen], .inr ⟨g, cap, R, rfl, hg0, setRow_heap _ g cur _ 115 _ hg, by omega, hc, hR1, hR2⟩⟩
  ·exact ⟨rfl, rfl, rfl, by simp [World.setRow], fun k _ hk => setRow_other _ g k _ (fun e => hk (by rw [e]; rfl))⟩
end Go.Proofs.YtiinigifjdpicaaGreatDoor
