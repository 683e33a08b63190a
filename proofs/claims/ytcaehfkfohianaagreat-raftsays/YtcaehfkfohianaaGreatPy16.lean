/- Texts of my own, laid together. -/
import Derived.Test.YtcaehfkfohianaaGreatZq
import Derived.Test.YtcaehfkfohianaaGreatPy14
import Derived.Laws.CopyRow
import Derived.Laws.Externs
import Derived.Lib.AppendZerosOnto
import Derived.Lib.Overlaps
import Derived.Lib.SliceRun
import Derived.Shelf.RegionOpenPlain
import Derived.Deep.RegionLaw
import Derived.Deep.CutBlock
import Derived.Deep.CutRange
import Derived.Test.YtcaehfkfohianaaGreatPy00
import Derived.Deep.OwnRows
import Derived.Test.YtcaehfkfohianaaGreatPy15
set_option linter.all false
namespace Go.Proofs.YtcaehfkfohianaaGreat
open Go.RowKit
theorem run_copyK (w : World) (dT sT ty elem : TypeId) (k g o dLen dCap : Nat) (a : Addr) (sLen sCap : Nat) (cur : Array Value) (t : TypeId) (cs : List Value)
  (hu : Tryz.prog.underlying dT = some (.slice elem)) (hs : (Tryz.prog.info? elem).map (·.size) = some k)
  (hg : w.heap[g]? = some (.cells cur t (0, 0))) (hn : cs.length = Nat.min sLen dLen * k)
  (hsrc : ∀ j v, cs[j]? = some v → w.cell? (a.add j) = some v) (hfit : o + cs.length ≤ cur.size) (h1 : ∀ v ∈ cs, v.oneCell' = true) :
  (Builtin.copy_ #[dT, sT] ty #[.slice (some ⟨g, o, none⟩) dLen dCap, .slice (some a) sLen sCap]).run Tryz.prog w =
   .ok (goInt (Nat.min sLen dLen)) (w.setRow g (cur.toList.take o ++ cs ++ cur.toList.drop (o + cs.length)).toArray) := by
 have hst := run_storeCells_at Tryz.prog g o t cs 0 cur w hg (by simpa using hfit) h1;cases hq : Tryz.prog.info? elem with
 | none => simp [hq] at hs
 | some i =>
  have hi : i.size = k := by simpa [hq] using hs
  have hl := run_firstCells_some (P := Tryz.prog) w k (Nat.min sLen dLen) a sLen sCap cs hn hsrc
  simp [Builtin.copy_, run_underlying hu, Builtin.lenOf, sizeOf, typeInfo, hq, hi, hl, hst]
theorem wpList_copy_runK (w : World) {ops : Array Oper} {rest : List Oper} {o : Oper} {a : Act} {Q : Exit → Act → World → Prop} (hgd : o.guard = none) (d s : Operand) (t t' : TypeId)
  (ho : o.op = .call { callee := .builtin .copy, args := #[d, s], argTypes := #[t, t'] }) (v u : Value) (hd : a.eval d = v) (hs : a.eval s = u) {v' : Value} {w' : World}
  (hr : (Builtin.copy_ #[t, t'] o.type #[v, u]).run Tryz.prog w = .ok v' w') (h : wpList Tryz.prog ops Q rest (a.put o.dst v') w') : wpList Tryz.prog ops Q (o :: rest) a w := by
 refine wpList_plain hgd fun K hK => ?_
 unfold Oper.wp execOp;simp only [ho, resolve, invoke, builtin, Sem.run_bind, Sem.run_pure, Result.andThen_ok, List.map_toArray, List.map_cons, List.map_nil, hd, hs, hr];exact hK _ _ h
theorem step_copy_runK {ops : Array Oper} {o : Oper} {a : Act} {w : World} {K : Act → World → Prop} {Q : Exit → Act → World → Prop} {E : Prop}
  (hg : o.guard = none) (d x : Operand) (dT sT : TypeId) (hop : o.op = Op.call { callee := Callee.builtin Builtin.copy, args := #[d, x], argTypes := #[dT, sT] })
  (v u : Value) (hd : a.eval d = v) (hx : a.eval x = u) {v' : Value} {w' : World} (hr : (Builtin.copy_ #[dT, sT] o.type #[v, u]).run Tryz.prog w = .ok v' w') (hK : K (a.put o.dst v') w') :
  if Region.wanted o (yielded ops a.tmps) = true then Oper.wp Tryz.prog o a w K Q else E := by
 have hw : Region.wanted o (yielded ops a.tmps) = true := by simp [Region.wanted, hg]
 rw [if_pos hw];unfold Oper.wp
 simp [execOp, hop, resolve, invoke, builtin, hd, hx, hr, Result.andThen]
 exact hK
theorem shift_list (A D T X : List Value) (k : Nat) (hk : X.length = k) (hT : k ≤ T.length) :
  ((((A ++ D ++ T).take (A.length + k) ++ D ++ (A ++ D ++ T).drop (A.length + k + D.length)).take A.length ++ X ++ ((A ++ D ++ T).take (A.length + k) ++ D ++ (A ++ D ++ T).drop (A.length + k + D.length)).drop (A.length + X.length)).take (A.length + k + D.length)) = A ++ X ++ D := by
 have hl : ((A ++ D ++ T).take (A.length + k)).length = A.length + k := by
  rw [List.length_take, List.length_append, List.length_append];omega
 have e1 : ((A ++ D ++ T).take (A.length + k) ++ D ++ (A ++ D ++ T).drop (A.length + k + D.length)).take A.length = A := by
  rw [List.append_assoc, List.take_append_of_le_length (by omega), List.take_take, Nat.min_eq_left (by omega), List.append_assoc, List.take_left']
  rfl
 have e2 : ((A ++ D ++ T).take (A.length + k) ++ D ++ (A ++ D ++ T).drop (A.length + k + D.length)).drop (A.length + X.length) = D ++ (A ++ D ++ T).drop (A.length + k + D.length) := by
  rw [List.append_assoc, hk, List.drop_left' hl]
 rw [e1, e2, ← List.append_assoc, List.take_left'];rw [List.length_append, List.length_append, hk]
theorem grow_list (A D Z X : List Value) (k : Nat) (hk : X.length = k) (hZ : k + D.length ≤ Z.length) :
  ((((A ++ Z).take A.length ++ X ++ (A ++ Z).drop (A.length + X.length)).take (A.length + k) ++ D ++ ((A ++ Z).take A.length ++ X ++ (A ++ Z).drop (A.length + X.length)).drop (A.length + k + D.length)).take (A.length + k + D.length)) = A ++ X ++ D := by
 have e0 : (A ++ Z).take A.length = A := List.take_left' rfl;have e1 : ((A ++ Z).take A.length ++ X ++ (A ++ Z).drop (A.length + X.length)).take (A.length + k) = A ++ X := by
  rw [e0, List.take_left'];rw [List.length_append, hk]
 rw [e1, List.take_left'];rw [List.length_append, List.length_append, hk]
set_option maxHeartbeats 8000000 in
set_option maxRecDepth 100000 in
theorem insR_shift (g c i vb : Nat) (cur : Array Value) (l : List RecX) (x : RecX) (w : World) (hg : w.heap[g]? = some (.cells cur 63 (0, 0))) (hs : cur.size = c * 8) (ht : cur.toList.take (l.length * 8) = celC recE l) (hi : i < l.length) (hroom : l.length + 1 ≤ c) (hc : c ≤ maxLen)
  (hvb : w.heap[vb]? = some (.cells (recE x).toArray 63 (0, 0))) (hne : vb ≠ g) :
  Calls Tryz.prog 57 #[.slice (some ⟨g, 0, none⟩) l.length c, .int .i64 i, .slice (some ⟨vb, 0, none⟩) 1 1] w fun e w' => e = .returned (.slice (some ⟨g, 0, none⟩) (l.length + 1) c) ∧ ∃ R : Array Value, w' = w.drew.setRow g R ∧ R.size = c * 8 ∧ R.toList.take ((l.length + 1) * 8) = celC recE (l.take i ++ x :: l.drop i) := by
 unfold maxLen at hc;obtain ⟨i1, hi1⟩ : ∃ i1, i1 = i + 1 := ⟨_, rfl⟩;obtain ⟨n1, hn1⟩ : ∃ n1, n1 = l.length + 1 := ⟨_, rfl⟩;obtain ⟨n, hn⟩ : ∃ n, n = l.length := ⟨_, rfl⟩;have hsz : (Tryz.prog.info? 63).map (·.size) = some 8 := by kernel_rfl
 have hov : ∀ lb cb, (callFunc 101 #[.slice (some ⟨vb, 0, none⟩) 1 1, .slice (some ⟨g, i1 * 8, none⟩) lb cb]).run Tryz.prog w = .ok (.value (.bool false)) w := fun lb cb => by
  rw [run_callFunc_extern Tryz.func101 (by kernel_rfl) (by kernel_rfl) (by kernel_rfl) (e := Extern.SlicesOverlaps.overlaps #[43, 43] #[4]) (by kernel_rfl),
   Lib.run_overlaps_apart w 43 4 63 Tryz.underlying43 8 Tryz.sizeOf63 ⟨vb, 0, none⟩ ⟨g, i1 * 8, none⟩ 1 1 lb cb hne 63 63 (recE x).toArray.size cur.size (shape_at hvb) (shape_at hg) (by omega) (free_at hvb 0) (free_at hvb _)]
  rfl
 have hA : (celC recE (l.take i)).length = i * 8 := by rw [celC_len recK, List.length_take, Nat.min_eq_left (by omega)]
 have hD : (celC recE (l.drop i)).length = (l.length - i) * 8 := by rw [celC_len recK, List.length_drop]
 obtain ⟨T, hT⟩ : ∃ T, cur.toList = celC recE (l.take i) ++ celC recE (l.drop i) ++ T := ⟨cur.toList.drop (l.length * 8), by rw [← celC_app, List.take_append_drop, ← ht, List.take_append_drop]⟩;have hTl : 8 ≤ T.length := by
  have := congrArg List.length hT;rw [List.length_append, List.length_append, hA, hD] at this;simp only [Array.length_toList, hs] at this;omega
 have hL := shift_list (celC recE (l.take i)) (celC recE (l.drop i)) T (recE x) 8 (recK x) hTl;have hsrcD : ∀ j v, (celC recE (l.drop i))[j]? = some v → w.drew.cell? ((⟨g, i * 8, none⟩ : Addr).add j) = some v := fun j v hj => by
  have hjl := (List.getElem?_eq_some_iff.1 hj).1;rw [addN, cell_at (w := w.drew) hg, ← Array.getElem?_toList, hT, List.append_assoc, List.getElem?_append_right (by omega), hA, Nat.add_sub_cancel_left, List.getElem?_append_left hjl, hj]
 obtain ⟨R1, hR1⟩ : ∃ R1 : Array Value, R1 = (cur.toList.take (i1 * 8) ++ celC recE (l.drop i) ++ cur.toList.drop (i1 * 8 + (celC recE (l.drop i)).length)).toArray := ⟨_, rfl⟩;have hcp1 : ∀ ty dc sc, (Builtin.copy_ #[43, 43] ty #[.slice (some ⟨g, i1 * 8, none⟩) (n1 - i1) dc, .slice (some ⟨g, i * 8, none⟩) (n1 - i) sc]).run Tryz.prog w.drew = .ok (goInt (Nat.min (n1 - i) (n1 - i1))) (w.drew.setRow g R1) := fun ty dc sc => by
  rw [hR1];exact run_copyK w.drew 43 43 ty 63 8 g (i1 * 8) (n1 - i1) dc ⟨g, i * 8, none⟩ (n1 - i) sc cur 63 (celC recE (l.drop i)) Tryz.underlying43 hsz hg (by rw [hD]; show _ = (min (n1 - i) (n1 - i1)) * 8; omega) hsrcD (by rw [hD, hs]; omega) (celC_one rec1 _)
 have hR1s : R1.size = c * 8 := by
  rw [hR1];simp only [List.size_toArray, List.length_append, List.length_take, List.length_drop, Array.length_toList, hD, hs];omega
 have hg1 : (w.drew.setRow g R1).heap[g]? = some (.cells R1 63 (0, 0)) := setRow_heap _ g cur _ 63 _ hg;obtain ⟨R2, hR2⟩ : ∃ R2 : Array Value, R2 = (R1.toList.take (i * 8) ++ recE x ++ R1.toList.drop (i * 8 + (recE x).length)).toArray := ⟨_, rfl⟩;have hcp2 : ∀ ty dc, (Builtin.copy_ #[43, 43] ty #[.slice (some ⟨g, i * 8, none⟩) (n1 - i) dc, .slice (some ⟨vb, 0, none⟩) 1 1]).run Tryz.prog (w.drew.setRow g R1) = .ok (goInt (Nat.min 1 (n1 - i))) (w.drew.setRow g R2) := fun ty dc => by
  have := run_copyK (w.drew.setRow g R1) 43 43 ty 63 8 g (i * 8) (n1 - i) dc ⟨vb, 0, none⟩ 1 1 R1 63 (recE x) Tryz.underlying43 hsz hg1 (by rw [recK]; show _ = (min 1 (n1 - i)) * 8; omega) (fun j v hj => by
   have hv2 : (w.drew.setRow g R1).heap[vb]? = some (.cells (recE x).toArray 63 (0, 0)) := (setRow_other w.drew g vb _ hne).trans hvb;rw [addN, cell_at hv2, Nat.zero_add]
   simpa using hj) (by rw [recK, hR1s]; omega) (rec1 x)
  rw [this, setRow_setRow, hR2]
 have hRES : ∃ R : Array Value, R = R2 ∧ R.size = c * 8 ∧ R.toList.take ((l.length + 1) * 8) = celC recE (l.take i ++ x :: l.drop i) := by
  refine ⟨R2, rfl, ?_, ?_⟩
  ·rw [hR2];simp only [List.size_toArray, List.length_append, List.length_take, List.length_drop, Array.length_toList, recK, hR1s];omega
  ·rw [celC_app, celC_cons, ← List.append_assoc, ← hL, hR2, hR1, hA, hD, hT];simp only [List.toList_toArray];rw [hi1, show i * 8 + 8 = (i + 1) * 8 by omega, show (i + 1) * 8 + (l.length - i) * 8 = (l.length + 1) * 8 by omega]
 have HRES := hideIt hRES;have hb1 : (0 : Int) ≤ (i : Int) := by omega
 have hb2 : (i : Int) ≤ (n : Int) := by omega
 have hb3 : ¬ ((i : Int) = (n : Int)) := by omega
 have hb4 : IntKind.i64.wrap ((n : Int) + 1) = (n1 : Int) := by rw [IntKind.wrap_i64]; omega
 have hb5 : ¬ ((c : Int) < (n1 : Int)) := by omega
 have hb6 : IntKind.i64.wrap ((i : Int) + 1) = (i1 : Int) := by rw [IntKind.wrap_i64]; omega
 have hb7 : (0 : Int) ≤ (i1 : Int) ∧ (i1 : Int) ≤ (n1 : Int) ∧ (n1 : Int) ≤ (c : Int) ∧ (0 : Int) ≤ (n1 : Int) := by omega
 obtain ⟨hb7, hb8, hb9, hb10⟩ := hb7;have hb11 : ¬ (c = i1) := by omega
 have hb12 : ¬ (c = i) := by omega
 have hb13 : (i : Int) ≤ (n1 : Int) := by omega
 have hb14 : (n : Int) ≤ (c : Int) := by omega
 rw [← hn1, ← hn];rw [← hn1] at HRES;clear hRES hR2 hR1 hR1s hg1 hL hTl hT hA hD hsrcD hsz ht hs hg hvb hne hi hroom hc hi1 hn1 hn;have mixed : Tryz.prog.follows Departure.mixedOrders = true := by kernel_rfl
 go_enter Tryz.func57, Tryz.ntmps57
 go_wp2_with (simp only [hov])
 go_region_law_o (refine step_copy_runK rfl _ _ 43 43 rfl (.slice (some ⟨g, i1 * 8, none⟩) (n1 - i1) (c - i1)) (.slice (some ⟨g, i * 8, none⟩) (n1 - i) (c - i)) (by simp [Act.eval, Act.put]) (by simp [Act.eval, Act.put]) (hcp1 _ _ _) ?_)
 go_wp2_with (at_builtin; refine wpList_copy_runK _ rfl _ _ 43 43 rfl _ _ rfl rfl (hcp2 _ _) ?_)
 go_ret;obtain ⟨R, rfl, h1, h2⟩ := HRES.out
 exact ⟨rfl, R, rfl, h1, h2⟩
set_option maxHeartbeats 8000000 in
set_option maxRecDepth 100000 in
theorem insR_grow (g c i vb : Nat) (cur : Array Value) (l : List RecX) (x : RecX) (w : World) (hg : w.heap[g]? = some (.cells cur 63 (0, 0))) (ht : cur.toList.take (l.length * 8) = celC recE l) (hi : i < l.length) (hnc : l.length ≤ c) (hroom : c < l.length + 1) (hbig : (l.length + 1) * 88 ≤ 140737488355328)
  (hvb : w.heap[vb]? = some (.cells (recE x).toArray 63 (0, 0))) :
  Calls Tryz.prog 57 #[.slice (some ⟨g, 0, none⟩) l.length c, .int .i64 i, .slice (some ⟨vb, 0, none⟩) 1 1] w fun e w' => ∃ v', e = .returned v' ∧ w'.ownsRow w.heap.size 63 8 v' (l.length + 1) (celC recE (l.take i ++ x :: l.drop i)) ∧ Below w.heap.size w w' := by
 obtain ⟨i1, hi1⟩ : ∃ i1, i1 = i + 1 := ⟨_, rfl⟩;obtain ⟨n1, hn1⟩ : ∃ n1, n1 = l.length + 1 := ⟨_, rfl⟩;obtain ⟨n, hn⟩ : ∃ n, n = l.length := ⟨_, rfl⟩;have hsz : (Tryz.prog.info? 63).map (·.size) = some 8 := by kernel_rfl
 have hgl : g < w.heap.size := (Array.getElem?_eq_some_iff.1 hg).1;have hvl : vb < w.heap.size := (Array.getElem?_eq_some_iff.1 hvb).1;have hA : (celC recE (l.take i)).length = i * 8 := by rw [celC_len recK, List.length_take, Nat.min_eq_left (by omega)]
 have hD : (celC recE (l.drop i)).length = (l.length - i) * 8 := by rw [celC_len recK, List.length_drop]
 obtain ⟨T, hT⟩ : ∃ T, cur.toList = celC recE (l.take i) ++ celC recE (l.drop i) ++ T := ⟨cur.toList.drop (l.length * 8), by rw [← celC_app, List.take_append_drop, ← ht, List.take_append_drop]⟩;have hsrcA : ∀ j v, (celC recE (l.take i))[j]? = some v → w.drew.cell? ((⟨g, 0, none⟩ : Addr).add j) = some v := fun j v hj => by
  have hjl := (List.getElem?_eq_some_iff.1 hj).1;rw [addN, cell_at (w := w.drew) hg, ← Array.getElem?_toList, hT, Nat.zero_add, List.append_assoc, List.getElem?_append_left hjl, hj]
 obtain ⟨i0, hi0, hz0, hz1, hz2⟩ := info_parts infoRec;have hold : (Builtin.firstCells i0.size i (.slice (some ⟨g, 0, none⟩) i c)).run Tryz.prog w.drew = .ok (celC recE (l.take i)).toArray w.drew := by
  rw [hz1];exact run_firstCells_some w.drew 8 i ⟨g, 0, none⟩ i c (celC recE (l.take i)) hA hsrcA
 obtain ⟨G, hG⟩ : ∃ G, G = grownCap w n1 c 63 := ⟨_, rfl⟩;have hGn : n1 ≤ G := by rw [hG]; exact grownCap_ge w _ _ _
 have hG63 : G ≤ maxLen := by rw [hG]; exact grownCap_le_maxLen w n1 c 63 (by unfold maxLen; omega)
 obtain ⟨Z, hZ⟩ : ∃ Z : Array Value, Z = Builtin.zeroCells (Value.agg #[.int .i64 0, .int .i64 0, .int .i64 0, .int .i64 0, .slice none 0 0, .int .i64 0, .int .i64 0, .string ⟨#[]⟩]).cells (n1 - i) ++ Builtin.zeroCells (Value.agg #[.int .i64 0, .int .i64 0, .int .i64 0, .int .i64 0, .slice none 0 0, .int .i64 0, .int .i64 0, .string ⟨#[]⟩]).cells (G - n1) := ⟨_, rfl⟩;have hZl : Z.size = (G - i) * 8 := by
  rw [hZ, Array.size_append, size_zeroCells, size_zeroCells]
  show (n1 - i) * 8 + (G - n1) * 8 = _
  omega
 obtain ⟨ROW, hROW⟩ : ∃ ROW : Array Value, ROW = (celC recE (l.take i)).toArray ++ Z := ⟨_, rfl⟩;obtain ⟨W1, hW1⟩ : ∃ W1, W1 = w.drew.alloc (.cells ROW 63) := ⟨_, rfl⟩;have hrz : ∀ ty, (Builtin.append_ #[43, 3] ty #[.slice (some ⟨g, 0, none⟩) i c, .int .i64 ((n1 - i : Nat) : Int)]).run Tryz.prog w = .ok (.slice (some ⟨w.heap.size, 0, none⟩) n1 G) W1 := fun ty => by
  have h := Lib.run_append_grow_zeros w 43 3 ty 63 i0 _ .i64 .i64 Tryz.underlying43 Tryz.underlying3 hi0 hz0 (some ⟨g, 0, none⟩) i c (celC recE (l.take i)) hold (n1 - i) (by omega) (by omega) (by omega) (by omega) (by rw [hz2]; omega) (by rw [hz2, show i + (n1 - i) = n1 by omega]; exact growslice_fits (by omega) (by rw [hn1]; exact hbig))
  rw [show i + (n1 - i) = n1 by omega, ← hG] at h;rw [hW1, hROW, hZ, ← Array.append_assoc];exact h
 have hg0 : W1.heap[w.heap.size]? = some (.cells ROW 63 (0, 0)) := by rw [hW1]; exact heap_alloc_new w.drew _
 have hRs : ROW.size = G * 8 := by
  rw [hROW, Array.size_append, List.size_toArray, hA, hZl];omega
 obtain ⟨R1, hR1⟩ : ∃ R1 : Array Value, R1 = (ROW.toList.take (i * 8) ++ recE x ++ ROW.toList.drop (i * 8 + (recE x).length)).toArray := ⟨_, rfl⟩;have hv1 : W1.heap[vb]? = some (.cells (recE x).toArray 63 (0, 0)) := by rw [hW1]; exact (heap_alloc_old w.drew _ hvl).trans hvb
 have hgg : W1.heap[g]? = some (.cells cur 63 (0, 0)) := by rw [hW1]; exact (heap_alloc_old w.drew _ hgl).trans hg
 have hcp1 : ∀ ty dc, (Builtin.copy_ #[43, 43] ty #[.slice (some ⟨w.heap.size, i * 8, none⟩) (n1 - i) dc, .slice (some ⟨vb, 0, none⟩) 1 1]).run Tryz.prog W1 = .ok (goInt (Nat.min 1 (n1 - i))) (W1.setRow w.heap.size R1) := fun ty dc => by
  rw [hR1];exact run_copyK W1 43 43 ty 63 8 w.heap.size (i * 8) (n1 - i) dc ⟨vb, 0, none⟩ 1 1 ROW 63 (recE x) Tryz.underlying43 hsz hg0 (by rw [recK]; show _ = (min 1 (n1 - i)) * 8; omega) (fun j v hj => by
   rw [addN, cell_at hv1, Nat.zero_add]
   simpa using hj) (by rw [recK, hRs]; omega) (rec1 x)
 have hR1s : R1.size = G * 8 := by
  rw [hR1];simp only [List.size_toArray, List.length_append, List.length_take, List.length_drop, Array.length_toList, recK, hRs];omega
 obtain ⟨W2, hW2⟩ : ∃ W2, W2 = W1.setRow w.heap.size R1 := ⟨_, rfl⟩;have hg2 : W2.heap[w.heap.size]? = some (.cells R1 63 (0, 0)) := by rw [hW2]; exact setRow_heap _ _ ROW _ 63 _ hg0
 have hgg2 : W2.heap[g]? = some (.cells cur 63 (0, 0)) := by rw [hW2]; exact (setRow_other W1 _ g _ (by omega)).trans hgg
 obtain ⟨R2, hR2⟩ : ∃ R2 : Array Value, R2 = (R1.toList.take (i1 * 8) ++ celC recE (l.drop i) ++ R1.toList.drop (i1 * 8 + (celC recE (l.drop i)).length)).toArray := ⟨_, rfl⟩;have hcp2 : ∀ ty dc sc, (Builtin.copy_ #[43, 43] ty #[.slice (some ⟨w.heap.size, i1 * 8, none⟩) (n1 - i1) dc, .slice (some ⟨g, i * 8, none⟩) (n - i) sc]).run Tryz.prog W2.drew = .ok (goInt (Nat.min (n - i) (n1 - i1))) (W2.drew.setRow w.heap.size R2) := fun ty dc sc => by
  rw [hR2];exact run_copyK W2.drew 43 43 ty 63 8 w.heap.size (i1 * 8) (n1 - i1) dc ⟨g, i * 8, none⟩ (n - i) sc R1 63 (celC recE (l.drop i)) Tryz.underlying43 hsz hg2 (by rw [hD]; show _ = (min (n - i) (n1 - i1)) * 8; omega) (fun j v hj => by
   have hjl := (List.getElem?_eq_some_iff.1 hj).1;rw [addN, cell_at (w := W2.drew) hgg2, ← Array.getElem?_toList, hT, List.append_assoc, List.getElem?_append_right (by omega), hA, Nat.add_sub_cancel_left, List.getElem?_append_left hjl, hj]) (by rw [hD, hR1s]; omega) (celC_one rec1 _)
 have HRES : Hid ((W2.drew.setRow w.heap.size R2).ownsRow w.heap.size 63 8 (.slice (some ⟨w.heap.size, 0, none⟩) n1 G) n1 (celC recE (l.take i ++ x :: l.drop i)) ∧ Below w.heap.size w (W2.drew.setRow w.heap.size R2)) := by
  refine ⟨⟨?_, .inr ⟨w.heap.size, G, R2, rfl, Nat.le_refl _, setRow_heap _ _ R1 _ 63 _ hg2, hGn, hG63, ?_, ?_⟩⟩, ?_⟩
  ·rw [celC_len recK, List.length_append, List.length_cons, List.length_take, List.length_drop, hn1]
   congr 1
   omega
  ·rw [hR2];simp only [List.size_toArray, List.length_append, List.length_take, List.length_drop, Array.length_toList, hD, hR1s];omega
  ·have hz9 : Z.toList.length = (G - i) * 8 := by rw [Array.length_toList (xs := Z)]; exact hZl
   have hL := grow_list (celC recE (l.take i)) (celC recE (l.drop i)) Z.toList (recE x) 8 (recK x) (by rw [hD, hz9]; omega)
   rw [celC_app, celC_cons, ← List.append_assoc, ← hL, hR2, hR1, hROW, hA, hD];simp only [List.toList_toArray, Array.toList_append];rw [hi1, hn1, show i * 8 + 8 = (i + 1) * 8 by omega, show (i + 1) * 8 + (l.length - i) * 8 = (l.length + 1) * 8 by omega]
  ·rw [hW2, hW1];refine ⟨rfl, rfl, rfl, ?_, fun k hk => ?_⟩
   ·simp [World.setRow]
   ·rw [setRow_other _ _ k _ (by omega)];exact (setRow_other _ _ k _ (by omega)).trans (heap_alloc_old w.drew _ hk)
 have hb1 : (0 : Int) ≤ (i : Int) := by omega
 have hb2 : (i : Int) ≤ (n : Int) := by omega
 have hb3 : ¬ ((i : Int) = (n : Int)) := by omega
 have hb4 : IntKind.i64.wrap ((n : Int) + 1) = (n1 : Int) := by rw [IntKind.wrap_i64]; omega
 have hb5 : ((c : Int) < (n1 : Int)) := by omega
 have hb6 : IntKind.i64.wrap ((i : Int) + 1) = (i1 : Int) := by rw [IntKind.wrap_i64]; omega
 unfold maxLen at hG63;have hb7 : (0 : Int) ≤ (i1 : Int) ∧ (i1 : Int) ≤ (n1 : Int) ∧ (n1 : Int) ≤ (G : Int) ∧ (0 : Int) ≤ (n1 : Int) := by omega
 obtain ⟨hb7, hb8, hb9, hb10⟩ := hb7;have hb11 : ¬ (G = i1) := by omega
 have hb12 : ¬ (G = i) := by omega
 have hb13 : (i : Int) ≤ (n1 : Int) := by omega
 have hb14 : (n : Int) ≤ (c : Int) := by omega
 have hb15 : ¬ (c = i) := by omega
 have hb16 : IntKind.i64.wrap ((n1 : Int) - (i : Int)) = ((n1 - i : Nat) : Int) := by rw [IntKind.wrap_i64]; omega
 have hb17 : (i : Int) ≤ (c : Int) := by omega
 rw [← hW2] at hcp1;rw [← hn1, ← hn];obtain ⟨m1, hm1⟩ : ∃ m1 : Nat, m1 = n1 - i := ⟨_, rfl⟩;rw [← hm1] at hb16 hrz;clear hT hA hD hsrcA hsz ht hg hvb hi hroom hnc hi1 hn1 hn hold hz0 hz1 hz2 hi0 hGn hG63 hG hZ hZl hROW hg0 hRs hR1 hR1s hv1 hgg hW1 hW2 hg2 hgg2 hR2 hgl hvl hbig hm1;have mixed : Tryz.prog.follows Departure.mixedOrders = true := by kernel_rfl
 go_enter Tryz.func57, Tryz.ntmps57
 go_wp2_with (first
  | (at_builtin; refine Lib.wpList_append_run _ rfl _ _ _ _ rfl _ _ rfl rfl _ _ (hrz _) ?_)
  | (at_builtin; refine wpList_copy_runK _ rfl _ _ 43 43 rfl _ _ rfl rfl (hcp1 _ _) ?_))
 go_region_law_o (refine step_copy_runK rfl _ _ 43 43 rfl (.slice (some ⟨w.heap.size, i1 * 8, none⟩) (n1 - i1) (G - i1)) (.slice (some ⟨g, i * 8, none⟩) (n - i) (c - i)) (by simp [Act.eval, Act.put]) (by simp [Act.eval, Act.put]) (hcp2 _ _ _) ?_)
 go_wp2;go_ret
 exact ⟨_, rfl, HRES.out⟩
set_option maxHeartbeats 8000000 in
set_option maxRecDepth 100000 in
theorem insR_end (B c vb : Nat) (a : Option Addr) (l : List RecX) (x : RecX) (w : World) (ho : w.ownsRow B 63 8 (.slice a l.length c) l.length (celC recE l)) (hB : B ≤ w.heap.size) (hbig : (l.length + 1) * 88 ≤ 140737488355328)
  (hvb : w.heap[vb]? = some (.cells (recE x).toArray 63 (0, 0))) :
  Calls Tryz.prog 57 #[.slice a l.length c, .int .i64 l.length, .slice (some ⟨vb, 0, none⟩) 1 1] w fun e w' => ∃ v', e = .returned v' ∧ w'.ownsRow B 63 8 v' (l.length + 1) (celC recE (l ++ [x])) ∧ w.grownBy w' (Value.slice a l.length c).ownBlock := by
 obtain ⟨v', w', hrun, how, hgr⟩ := app1 (enc := recE) (t := 43) recK rec1 Tryz.underlying43 infoRec rfl (by omega) w B (.slice a l.length c) l x vb 1 hB ho hvb hbig (by unfold maxLen; omega)
 rw [List.length_append, List.length_singleton] at how;have HRUN := hideIt hrun;have HO := hideIt (And.intro how hgr);have hcc : l.length ≤ c ∧ c ≤ maxLen := by
  rcases ho.2 with ⟨h1, h2⟩ | ⟨g, cap, cur, h1, _, _, h2, h3, _⟩
  ·simp only [Value.slice.injEq] at h1;omega
  ·simp only [Value.slice.injEq] at h1;rw [h1.2.2]
   exact ⟨h2, h3⟩
 have hsome : a = none ∨ ∃ g, a = some ⟨g, 0, none⟩ := by
  rcases ho.2 with ⟨h1, h2⟩ | ⟨g, cap, cur, h1, _⟩
  ·simp only [Value.slice.injEq] at h1;exact .inl h1.1
  ·simp only [Value.slice.injEq] at h1;exact .inr ⟨g, h1.1⟩
 have hnone : a = none → c = 0 ∧ l.length = 0 := by
  intro ha
  rcases ho.2 with ⟨h1, h2⟩ | ⟨g, cap, cur, h1, _⟩
  ·simp only [Value.slice.injEq] at h1
   exact ⟨h1.2.2, h2⟩
  ·simp only [Value.slice.injEq] at h1;rw [ha] at h1;exact absurd h1.1 (by simp)
 unfold maxLen at hcc;obtain ⟨hc1, hc2⟩ := hcc;have hb0 : (0 : Int) ≤ (l.length : Int) := by omega
 have hb1 : (l.length : Int) ≤ (c : Int) := by omega
 clear hrun how hgr ho hvb hbig hB
 rcases hsome with rfl | ⟨g, rfl⟩
 ·obtain ⟨rfl, h0⟩ := hnone rfl;clear hnone;rw [h0] at HRUN ⊢
  go_enter Tryz.func57, Tryz.ntmps57
  go_wp2_with (at_builtin; refine Lib.wpList_append_run _ rfl _ _ _ _ rfl _ _ rfl rfl _ _ HRUN.out ?_)
  go_ret
  exact ⟨_, rfl, by rw [h0] at HO; exact HO.out⟩
 ·clear hnone;generalize l.length = n at *
  go_enter Tryz.func57, Tryz.ntmps57
  go_wp2_with (at_builtin; refine Lib.wpList_append_run _ rfl _ _ _ _ rfl _ _ rfl rfl _ _ HRUN.out ?_)
  all_goals (go_ret; exact ⟨_, rfl, HO.out⟩)
theorem insertR_is (B i vb : Nat) (v : Value) (l : List RecX) (x : RecX) (w : World) (ho : w.ownsRow B 63 8 v l.length (celC recE l)) (hB : B ≤ w.heap.size) (hi : i ≤ l.length) (hbig : (l.length + 1) * 88 ≤ 140737488355328)
  (hvb : w.heap[vb]? = some (.cells (recE x).toArray 63 (0, 0))) (hne : v.ownBlock ≠ some vb) :
  Calls Tryz.prog 57 #[v, .int .i64 i, .slice (some ⟨vb, 0, none⟩) 1 1] w fun e w' => ∃ v', e = .returned v' ∧ w'.ownsRow B 63 8 v' (l.take i ++ x :: l.drop i).length (celC recE (l.take i ++ x :: l.drop i)) ∧ w.grownBy w' v.ownBlock := by
 have hlen : (l.take i ++ x :: l.drop i).length = l.length + 1 := by
  rw [List.length_append, List.length_cons, List.length_take, List.length_drop];omega
 by_cases hin : i = l.length
 ·subst hin;rw [List.take_of_length_le (Nat.le_refl _), List.drop_of_length_le (Nat.le_refl _)];obtain ⟨a, c, rfl⟩ := own_len ho;rw [List.length_append, List.length_singleton];exact insR_end B c vb a l x w ho hB hbig hvb
 ·have hil : i < l.length := by omega
  rcases ho.2 with ⟨_, h2⟩ | ⟨g, cap, cur, rfl, hg0, hg, hn, hc, hs, ht⟩
  ·omega
  ·have hgne : vb ≠ g := fun e => hne (by rw [e]; rfl)
   by_cases hroom : l.length + 1 ≤ cap
   ·refine (insR_shift g cap i vb cur l x w hg hs ht hil hroom hc hvb hgne).mono ?_;rintro e w' ⟨rfl, R, rfl, hR1, hR2⟩;refine ⟨_, rfl, ?_, ?_⟩
    ·rw [hlen]
     exact ⟨by rw [celC_len recK, hlen], .inr ⟨g, cap, R, rfl, hg0, setRow_heap _ g cur _ 63 _ hg, hroom, hc, hR1, hR2⟩⟩
    ·exact ⟨rfl, rfl, rfl, by simp [World.setRow], fun k _ hk => setRow_other _ g k _ (fun e => hk (by rw [e]; rfl))⟩
   ·refine (insR_grow g cap i vb cur l x w hg ht hil hn (by omega) hbig hvb).mono ?_;rintro e w' ⟨v', rfl, h1, h2⟩;refine ⟨v', rfl, ?_, ⟨h2.os, h2.tape, h2.output, h2.size, fun k hk _ => h2.block k hk⟩⟩;rw [hlen];exact own_base h1 hB
set_option maxRecDepth 100000 in
set_option maxHeartbeats 4000000 in
theorem mul1_is (m : Nat) (h : 2 ≤ m ∧ m ≤ 8) (w : World) : Calls Tryz.prog 157 #[.int .u64 1, .int .u64 (m : Int)] w fun e w' => e = .returned (.tuple #[.int .u64 0, .int .u64 (m : Int)]) ∧ w' = w := by
 have hc : m = 2 ∨ m = 3 ∨ m = 4 ∨ m = 5 ∨ m = 6 ∨ m = 7 ∨ m = 8 := by omega
 rcases hc with rfl | rfl | rfl | rfl | rfl | rfl | rfl
 ·have H : Calls Tryz.prog 175 #[.int .u64 1, .int .u64 2] w fun e w' => e = .returned (.tuple #[.int .u64 0, .int .u64 2]) ∧ w' = w := by
   go_enter Tryz.func175, Tryz.ntmps175
   go_wp2
   go_ret2
   exact ⟨by first | rfl | decide, rfl⟩
  go_enter Tryz.func157, Tryz.ntmps157
  go_wp2_with fail
  refine H.mono ?_;rintro e w' ⟨rfl, rfl⟩;dsimp only;go_wp2
  go_ret2
  exact ⟨rfl, rfl⟩
 ·have H : Calls Tryz.prog 175 #[.int .u64 1, .int .u64 3] w fun e w' => e = .returned (.tuple #[.int .u64 0, .int .u64 3]) ∧ w' = w := by
   go_enter Tryz.func175, Tryz.ntmps175
   go_wp2
   go_ret2
   exact ⟨by first | rfl | decide, rfl⟩
  go_enter Tryz.func157, Tryz.ntmps157
  go_wp2_with fail
  refine H.mono ?_;rintro e w' ⟨rfl, rfl⟩;dsimp only;go_wp2
  go_ret2
  exact ⟨rfl, rfl⟩
 ·have H : Calls Tryz.prog 175 #[.int .u64 1, .int .u64 4] w fun e w' => e = .returned (.tuple #[.int .u64 0, .int .u64 4]) ∧ w' = w := by
   go_enter Tryz.func175, Tryz.ntmps175
   go_wp2
   go_ret2
   exact ⟨by first | rfl | decide, rfl⟩
  go_enter Tryz.func157, Tryz.ntmps157
  go_wp2_with fail
  refine H.mono ?_;rintro e w' ⟨rfl, rfl⟩;dsimp only;go_wp2
  go_ret2
  exact ⟨rfl, rfl⟩
 ·have H : Calls Tryz.prog 175 #[.int .u64 1, .int .u64 5] w fun e w' => e = .returned (.tuple #[.int .u64 0, .int .u64 5]) ∧ w' = w := by
   go_enter Tryz.func175, Tryz.ntmps175
   go_wp2
   go_ret2
   exact ⟨by first | rfl | decide, rfl⟩
  go_enter Tryz.func157, Tryz.ntmps157
  go_wp2_with fail
  refine H.mono ?_;rintro e w' ⟨rfl, rfl⟩;dsimp only;go_wp2
  go_ret2
  exact ⟨rfl, rfl⟩
 ·have H : Calls Tryz.prog 175 #[.int .u64 1, .int .u64 6] w fun e w' => e = .returned (.tuple #[.int .u64 0, .int .u64 6]) ∧ w' = w := by
   go_enter Tryz.func175, Tryz.ntmps175
   go_wp2
   go_ret2
   exact ⟨by first | rfl | decide, rfl⟩
  go_enter Tryz.func157, Tryz.ntmps157
  go_wp2_with fail
  refine H.mono ?_;rintro e w' ⟨rfl, rfl⟩;dsimp only;go_wp2
  go_ret2
  exact ⟨rfl, rfl⟩
 ·have H : Calls Tryz.prog 175 #[.int .u64 1, .int .u64 7] w fun e w' => e = .returned (.tuple #[.int .u64 0, .int .u64 7]) ∧ w' = w := by
   go_enter Tryz.func175, Tryz.ntmps175
   go_wp2
   go_ret2
   exact ⟨by first | rfl | decide, rfl⟩
  go_enter Tryz.func157, Tryz.ntmps157
  go_wp2_with fail
  refine H.mono ?_;rintro e w' ⟨rfl, rfl⟩;dsimp only;go_wp2
  go_ret2
  exact ⟨rfl, rfl⟩
 ·have H : Calls Tryz.prog 175 #[.int .u64 1, .int .u64 8] w fun e w' => e = .returned (.tuple #[.int .u64 0, .int .u64 8]) ∧ w' = w := by
   go_enter Tryz.func175, Tryz.ntmps175
   go_wp2
   go_ret2
   exact ⟨by first | rfl | decide, rfl⟩
  go_enter Tryz.func157, Tryz.ntmps157
  go_wp2_with fail
  refine H.mono ?_;rintro e w' ⟨rfl, rfl⟩;dsimp only;go_wp2
  go_ret2
  exact ⟨rfl, rfl⟩
theorem row_more (cur : Array Value) (x : Value) (t m k : Nat) (hk : k = min t (m - t)) (hs : cur.size = m) (htm : t ≤ m) (ht : cur.toList.take t = List.replicate t x) : (cur.toList.take t ++ List.replicate k x ++ cur.toList.drop (t + k)).toArray.size = m ∧ (cur.toList.take t ++ List.replicate k x ++ cur.toList.drop (t + k)).toArray.toList.take (t + k) = List.replicate (t + k) x := by
 constructor
 ·simp only [List.size_toArray, List.length_append, List.length_take, List.length_drop, List.length_replicate, Array.length_toList, hs];omega
 ·rw [List.toList_toArray, ht, List.replicate_append_replicate, List.take_left']
  simp
set_option maxHeartbeats 8000000 in
set_option maxRecDepth 100000 in
theorem rep_is (g m : Nat) (x : Int) (hm : 2 ≤ m ∧ m ≤ 8) (w : World) (hg : w.heap[g]? = some (.cells #[.int .i64 x] 3 (0, 0))) : Calls Tryz.prog 135 #[.slice (some ⟨g, 0, none⟩) 1 1, .int .i64 (m : Int)] w fun e w' => ∃ a c, e = .returned (.slice a m c) ∧ w'.ownsRow w.heap.size 3 1 (.slice a m c) m (List.replicate m (.int .i64 x)) ∧ Below w.heap.size w w' := by
 have hc7 : m = 2 ∨ m = 3 ∨ m = 4 ∨ m = 5 ∨ m = 6 ∨ m = 7 ∨ m = 8 := by omega
 have hw1 : IntKind.u64.wrap (m : Int) = (m : Int) := by rcases hc7 with rfl | rfl | rfl | rfl | rfl | rfl | rfl <;> rfl
 have hw2 : IntKind.i64.wrap (m : Int) = (m : Int) := by rw [IntKind.wrap_i64]; omega
 have HM := hideIt (mul1_is m hm w);have hmk := run_make_row' (P := Tryz.prog) 32 3 (.int .i64 0) 8 Tryz.underlying32 (by kernel_rfl) rfl .i64 .i64 m (by omega) (by omega);have hsz : (Tryz.prog.info? 3).map (·.size) = some 1 := by kernel_rfl
 have hgl : g < w.heap.size := (Array.getElem?_eq_some_iff.1 hg).1;obtain ⟨Z, hZ⟩ : ∃ Z, Z = madeCells #[Value.int .i64 0] m := ⟨_, rfl⟩;have hZs : Z.size = m := by rw [hZ]; exact size_madeCells _ _
 obtain ⟨W1, hW1⟩ : ∃ W1, W1 = w.alloc (.cells Z 3) := ⟨_, rfl⟩;have hg0 : W1.heap[w.heap.size]? = some (.cells Z 3 (0, 0)) := by rw [hW1]; exact heap_alloc_new w _
 have hgg : W1.heap[g]? = some (.cells #[.int .i64 x] 3 (0, 0)) := by rw [hW1]; exact (heap_alloc_old w _ hgl).trans hg
 obtain ⟨R0, hR0⟩ : ∃ R0 : Array Value, R0 = (Z.toList.take 0 ++ List.replicate 1 (Value.int .i64 x) ++ Z.toList.drop (0 + (List.replicate 1 (Value.int .i64 x)).length)).toArray := ⟨_, rfl⟩;obtain ⟨hR1, hR2⟩ : R0.size = m ∧ R0.toList.take 1 = List.replicate 1 (Value.int .i64 x) := by
  rw [hR0]
  constructor
  ·simp only [List.size_toArray, List.length_append, List.length_take, List.length_drop, List.length_replicate, Array.length_toList, hZs];omega
  ·simp
 have hcp0 : (∀ ty, (Builtin.copy_ #[32, 32] ty #[.slice (some ⟨w.heap.size, 0, none⟩) m m, .slice (some ⟨g, 0, none⟩) 1 1]).run Tryz.prog W1 = .ok (.int .i64 1) (W1.setRow w.heap.size R0)) := (fun ty => by
  have := run_copyK W1 32 32 ty 3 1 w.heap.size 0 m m ⟨g, 0, none⟩ 1 1 Z 3 (List.replicate 1 (Value.int .i64 x)) Tryz.underlying32 hsz hg0 (by simp only [List.length_replicate]; show 1 = (min 1 m) * 1; omega) (fun j v hj => by
   rw [addN, cell_at hgg, Nat.zero_add]
   simpa using hj) (by simp only [List.length_replicate]; omega) (by simp [Value.oneCell'])
  rw [this, hR0];have e : Nat.min 1 m = 1 := by show min 1 m = 1; omega
  rw [e]
  rfl)
 have hA : Below w.heap.size w (W1.setRow w.heap.size R0) := by
  rw [hW1];refine ⟨rfl, rfl, rfl, ?_, fun k hk => ?_⟩
  ·simp [World.setRow]
  ·rw [setRow_other _ _ k _ (by omega)];exact heap_alloc_old w _ hk
 have HS := hideIt (And.intro (setRow_heap W1 w.heap.size Z R0 3 _ hg0) (And.intro hR1 (And.intro hR2 hA)));have hb0 : ¬ ((9223372036854775807 : Int) < (m : Int)) := by omega
 have hm1 : 1 ≤ m := by omega
 have hm0 : ¬ (m = 0) := by omega
 rw [← hZ] at hmk;have hmk1 : (Instr.makeSlice 32 (.int .i64 (m : Int)) (.int .i64 (m : Int))).run Tryz.prog w = .ok (.slice (some ⟨w.heap.size, 0, none⟩) m m) W1 := by rw [hW1]; exact hmk w
 clear hmk hg hgl hZ hZs hW1 hg0 hgg hR0 hR1 hR2 hA hc7;have mixed : Tryz.prog.follows Departure.mixedOrders = true := by kernel_rfl
 go_enter Tryz.func135, Tryz.ntmps135
 go_wp2_with fail
 refine HM.out.mono ?_;rintro e w1 ⟨rfl, rfl⟩;dsimp only;clear HM
 go_wp2_with (at_builtin; refine wpList_copy_runK _ rfl _ _ 32 32 rfl _ _ rfl rfl (hcp0 _) ?_)
 go_loopw [8] (fun v wr => ∃ (t : Nat) (cur : Array Value), v = .int .i64 (t : Int) ∧ 1 ≤ t ∧ t ≤ m ∧ Hid (wr.heap[w1.heap.size]? = some (.cells cur 3 (0, 0)) ∧ cur.size = m ∧ cur.toList.take t = List.replicate t (Value.int .i64 x) ∧ Below w1.heap.size w1 wr)) (fun v _ => ((m : Int) - intOf v).toNat)
 case atStart => exact ⟨1, R0, rfl, Nat.le_refl _, hm1, HS.out⟩
 case round =>
  clear HS hcp0;obtain ⟨t, cur, rfl, ht1, htm, HC⟩ := hrel
  by_cases hlt : t < m
  ·obtain ⟨k, hk⟩ : ∃ k, k = min t (m - t) := ⟨_, rfl⟩;obtain ⟨R, hR⟩ : ∃ R : Array Value, R = (cur.toList.take t ++ List.replicate k (Value.int .i64 x) ++ cur.toList.drop (t + k)).toArray := ⟨_, rfl⟩;obtain ⟨hcur, hcs, hct, hbl⟩ := HC.out;obtain ⟨r1, r2⟩ := row_more cur (.int .i64 x) t m k hk hcs (by omega) hct;rw [← hR] at r1 r2;have HCP : Hid (∀ ty, (Builtin.copy_ #[32, 32] ty #[.slice (some ⟨w1.heap.size, t, none⟩) (m - t) (m - t), .slice (some ⟨w1.heap.size, 0, none⟩) t m]).run Tryz.prog wr.drew = .ok (.int .i64 (k : Int)) (wr.drew.setRow w1.heap.size R)) := hideIt (fun ty => by
    have := run_copyK wr.drew 32 32 ty 3 1 w1.heap.size t (m - t) (m - t) ⟨w1.heap.size, 0, none⟩ t m cur 3 (List.replicate k (Value.int .i64 x)) Tryz.underlying32 hsz hcur (by simp only [List.length_replicate]; show k = (min t (m - t)) * 1; omega) (fun j v hj => by
     have hjl : j < k := by simpa using (List.getElem?_eq_some_iff.1 hj).1
     have hv : v = .int .i64 x := by
      rw [List.getElem?_replicate, if_pos hjl] at hj;exact (Option.some.inj hj).symm
     rw [addN, cell_at (w := wr.drew) hcur, Nat.zero_add, ← Array.getElem?_toList, ← List.getElem?_take_of_lt (show j < t by omega), hct, List.getElem?_replicate, if_pos (by omega), hv]) (by simp only [List.length_replicate]; omega) (by
     intro v hv;rw [(List.mem_replicate.1 hv).2]
     rfl)
    simp only [List.length_replicate] at this;rw [this, ← hR];have e : Nat.min t (m - t) = k := hk.symm;rw [e]
    rfl)
   have HN : Hid ((wr.drew.setRow w1.heap.size R).heap[w1.heap.size]? = some (.cells R 3 (0, 0)) ∧ R.size = m ∧ R.toList.take (t + k) = List.replicate (t + k) (Value.int .i64 x) ∧ Below w1.heap.size w1 (wr.drew.setRow w1.heap.size R)) := hideIt ⟨setRow_heap _ _ cur _ 3 _ hcur, r1, r2, by
    have hbd := hbl.drew
    exact ⟨hbd.os, hbd.tape, hbd.output, by simpa [World.setRow] using hbd.size, fun k hk => (setRow_other _ _ k _ (by omega)).trans (hbd.block k hk)⟩⟩
   have hb1 : (0 : Int) ≤ (t : Int) := by omega
   have hb2 : (t : Int) ≤ (m : Int) := by omega
   have hb3 : ¬ (m = t) := by omega
   have hb4 : IntKind.i64.wrap ((t : Int) + (k : Int)) = ((t + k : Nat) : Int) := by rw [IntKind.wrap_i64]; omega
   have hlt' : (t : Int) < (m : Int) := by omega
   have hk1 : 1 ≤ k ∧ t + k ≤ m := by omega
   clear HC hcur hcs hct hbl r1 r2 hR hk
   go_wp2_with fail
   go_region_law_o (refine step_copy_runK rfl _ _ 32 32 rfl (.slice (some ⟨w1.heap.size, t, none⟩) (m - t) (m - t)) (.slice (some ⟨w1.heap.size, 0, none⟩) t m) (by simp [Act.eval, Act.put]) (by simp [Act.eval, Act.put]) (HCP.out _) ?_)
   all_goals go_wp2
   all_goals try simp only [aP, aQ, aA, aB, aC]
   all_goals try simp only [List.getElem_toArray, List.getElem_cons_succ, List.getElem_cons_zero, Act.put, List.setIfInBounds_toArray, List.set_cons_zero, List.set_cons_succ]
   all_goals go_roundw
   case rel => exact ⟨t + k, R, by go_num, by omega, by omega, HN⟩
   case measure => simp [intOf]; omega
  ·have e : t = m := by omega
   subst e;obtain ⟨hcur, hcs, hct, hbl⟩ := HC.out;have HN : Hid (wr.ownsRow w1.heap.size 3 1 (.slice (some ⟨w1.heap.size, 0, none⟩) t t) t (List.replicate t (Value.int .i64 x)) ∧ Below w1.heap.size w1 wr) := hideIt ⟨⟨by simp, .inr ⟨w1.heap.size, t, cur, rfl, Nat.le_refl _, hcur, Nat.le_refl _, by unfold maxLen; omega, by omega, by rw [Nat.mul_one]; exact hct⟩⟩, hbl⟩
   clear HC hcur hcs hct hbl;go_wp2;go_ret
   exact ⟨_, _, rfl, HN.out⟩
theorem mapRep (m : Nat) (x : Int) : (List.replicate m x).map Tm.iv = List.replicate m (.int .i64 x) := by
 rw [List.map_replicate]
 rfl
theorem made_rep (x : Value) (m : Nat) : (madeCells #[x] m).toList = List.replicate m x := by
 rw [List.eq_replicate_iff]
 constructor
 ·rw [Array.length_toList];exact size_madeCells _ _
 ·intro b hb;unfold madeCells at hb;simp only [Array.toList_map, List.mem_map] at hb;obtain ⟨a, ha, rfl⟩ := hb
  simp [Nat.mod_one]
set_option maxRecDepth 100000 in
set_option maxHeartbeats 16000000 in
theorem leadK_is {X : WkX} {K : Nat} {w wx : World} (h : WK w K X wx) (hb : NB X.d) (hr : X.d.b.r = 3) (hM : X.M.length + 10 ≤ 1000000) (hR : X.R.length + 10 ≤ 1000000) : Calls Tryz.prog 91 #[.pointer (some ⟨K, 0, none⟩)] wx fun r w' => ∃ Y' : WkX, r = .returned (.int .i64 (leadW X.v).2) ∧ Y'.v = (leadW X.v).1 ∧ Y'.M.length ≤ X.M.length + 7 ∧ Y'.R.length ≤ X.R.length + 1 ∧ WK w K Y' w' := by
 have hn := hb.n;obtain ⟨m, hm⟩ : ∃ m : Nat, m = (X.d.n + 1).toNat := ⟨_, rfl⟩;have hmi : (m : Int) = X.d.n + 1 := by omega
 have hc7 : m = 2 ∨ m = 3 ∨ m = 4 ∨ m = 5 ∨ m = 6 ∨ m = 7 ∨ m = 8 := by omega
 have hli := lastL_in X.d.L;have HMI := hideIt hmi;have HV : Hid (leadW X.v = addW {X.v with d := {X.d with ld := X.d.me, nx := (List.replicate m ((lastL X.d.L).1 + 1)).set 0 0, mt := List.replicate m 0}, wt := true} ⟨X.d.b.t, 1, noT⟩) := hideIt (by rw [hm]; rfl)
 have HNB : Hid (NB {X.d with ld := X.d.me, nx := (List.replicate m ((lastL X.d.L).1 + 1)).set 0 0, mt := List.replicate m 0} ∧ LD {X.d with ld := X.d.me, nx := (List.replicate m ((lastL X.d.L).1 + 1)).set 0 0, mt := List.replicate m 0}) := hideIt (by rw [hm]; exact new_nb hb)
 obtain ⟨Z, hZ⟩ : ∃ Z, Z = madeCells #[Value.int .i64 0] m := ⟨_, rfl⟩;have hZs : Z.size = m := by rw [hZ]; exact size_madeCells _ _
 have hZl : Z.toList = (List.replicate m 0).map Tm.iv := by
  rw [hZ, made_rep, mapRep]
 have hmk : ∀ W : World, (Instr.makeSlice 32 (.int .i64 (X.d.n + 1)) (.int .i64 (X.d.n + 1))).run Tryz.prog W = .ok (.slice (some ⟨W.heap.size, 0, none⟩) m m) (W.alloc (.cells Z 3)) := fun W => by
  rw [← hmi, hZ];exact run_make_row' (P := Tryz.prog) 32 3 (.int .i64 0) 8 Tryz.underlying32 (by kernel_rfl) rfl .i64 .i64 m (by omega) (by omega) W
 have H1 := hideIt (h.setLd X.d.me);obtain ⟨⟨k0, k1, k2, k3, k4, k5, k6, k7, k8, k9, k10, k11, k12, k13, k14, k15, k16, k17⟩, kf, kz⟩ := at18 h.box;have hm28 : 2 ≤ m ∧ m ≤ 8 := by omega
 clear h hb hc7 hZ hm hmi
 go_enter Tryz.func91, Tryz.ntmps91
 go_upto_region 2 with fail
 generalize (World.setCell _ ⟨K, 6, none⟩ _) = W1 at *;clear k0 k1 k2 k3 k4 k5 k6 k7 k8 k9 k10 k11 k12 k13 k14 k15 k16 k17 kf kz;have HL2 : Hid (∀ W, Below W1.heap.size W1 W → Calls Tryz.prog 95 #[.pointer (some ⟨K, 0, none⟩)] W fun r w' => r = .returned (.int .i64 (lastL X.d.L).1) ∧ Hid (Below W1.heap.size W1 w') ∧ w'.cell? ⟨K, 1, none⟩ = some (.int .i64 X.d.n) ∧ K < w'.heap.size) := by
  intro W hW;refine (lastW_is (H1.out.keep hW)).mono ?_;rintro r w' ⟨rfl, hbl⟩;have hb2 := below_via hW hbl;obtain ⟨⟨-, k1, -, -, -, -, -, -, -, -, -, -, -, -, -, -, -, -⟩, kf, kz⟩ := at18 (H1.out.keep hb2).box
  exact ⟨rfl, hideIt hb2, k1, kz⟩
 generalize hlst : (lastL X.d.L).1 = last at *;have HRP : Hid (∀ W, Below W1.heap.size W1 W → Calls Tryz.prog 135 #[.slice (some ⟨W.heap.size, 0, none⟩) 1 1, .int .i64 (X.d.n + 1)] (W.alloc (.cells #[.int .i64 (last + 1)] 3)) fun r w' => ∃ a c, r = .returned (.slice a m c) ∧ Hid (w'.ownsRow W1.heap.size 3 1 (.slice a m c) m ((List.replicate m (last + 1)).map Tm.iv) ∧ Below W1.heap.size W1 w') ∧ w'.cell? ⟨K, 1, none⟩ = some (.int .i64 X.d.n) ∧ w'.cell? ⟨K, 12, none⟩ = some (.slice X.na X.d.nx.length X.nc) ∧ (∀ j, w'.frozen? ⟨K, j, none⟩ = false) ∧ K < w'.heap.size) := by
  intro W hW;rw [← HMI.out];refine (rep_is W.heap.size m (last + 1) hm28 (W.alloc (.cells #[.int .i64 (last + 1)] 3)) (heap_alloc_new W _)).mono ?_;rintro r w' ⟨a, c, rfl, ho, hbl⟩;have hb2 := below_via (below_via hW (below1 W _)) hbl;obtain ⟨⟨-, k1, -, -, -, -, -, -, -, -, -, -, k12, -, -, -, -, -⟩, kf, kz⟩ := at18 (H1.out.keep hb2).box
  exact ⟨a, c, rfl, hideIt ⟨by rw [mapRep]; exact own_base ho (below_via hW (below1 W _)).size, hb2⟩, k1, k12, kf, kz⟩
 obtain ⟨⟨-, k1, -, -, -, -, -, -, -, -, -, -, -, -, -, -, -, -⟩, kf, kz⟩ := at18 H1.out.box;have hwl : IntKind.i64.wrap (last + 1) = last + 1 := by rw [IntKind.wrap_i64]; omega
 have hwn : IntKind.i64.wrap (X.d.n + 1) = X.d.n + 1 := by rw [IntKind.wrap_i64]; omega
 go_cut [] from 12 to 26 (fun wy => Hid (∃ a c, WK w K {X with d := {X.d with ld := X.d.me, nx := List.replicate m (last + 1)}, na := a, nc := c} wy))
 case first =>
  clear HV HNB hmk
  go_region_held3 (fun W => W.cell? ⟨K, 1, none⟩ = some (.int .i64 X.d.n)) (first | go_keep | simp [*, World.cell?_setCell_other]) (first | (go_at_call 95; refine (HL2.out _ (by first | exact (Below.refl _ _).drew | exact Below.refl _ _)).mono ?_; rintro r w5 ⟨rfl, HQ, i0, i1⟩) | (go_at_call 135; refine (HRP.out w5 HQ.out).mono ?_; rintro r w6 ⟨a, c, rfl, HS, i4, i5, i2, i3⟩))
  all_goals go_wp2_with fail
  all_goals go_meet
  all_goals exact hideIt ⟨a, c, (H1.out.keep HS.out.2).setNx (List.replicate m (last + 1)) (by simp) a c (own_base HS.out.1 H1.out.bel.size) (by omega) (flip_apart (apart_new H1.out.rows.nd.m HS.out.1)) (flip_apart (apart_new H1.out.rows.nd.b HS.out.1))⟩
 case rest =>
  obtain ⟨a, c, hw2⟩ := hcut.out;have HX2 := hideIt hw2;clear hcut hw2 HL2 HRP k1 kf kz;have hbl := below1 wc (.cells Z 3);have h3 := HX2.out.keep hbl;have hmo := made_own wc wc.heap.size m Z (Nat.le_refl _) hZs (by unfold maxLen; omega)
  rw [hZl] at hmo;have hkz := (Array.getElem?_eq_some_iff.1 HX2.out.box).1;have hx3 := (h3.setMt (List.replicate m 0) (by simp) (some ⟨wc.heap.size, 0, none⟩) m (own_base hmo HX2.out.bel.size) (by omega) (apart_new HX2.out.rows.nd.n hmo) (flip_apart (apart_new HX2.out.rows.nd.b hmo)));rw [World.setCell_alloc_past (hn := hkz)] at hx3;have HX3 := hideIt hx3;obtain ⟨⟨k0, k1, k2, k3, k4, k5, k6, k7, k8, k9, k10, k11, k12, k13, k14, k15, k16, k17⟩, kf, kz⟩ := at18 HX2.out.box;clear hbl h3 hmo hZl hZs hx3 hkz
  go_upto_region 4 with fail
  generalize (World.alloc (World.setCell _ ⟨K, 13, none⟩ _) _) = W3 at *;generalize (some (⟨wc.heap.size, 0, none⟩ : Addr)) = ma3 at *;clear k0 k1 k2 k3 k4 k5 k6 k7 k8 k9 k10 k11 k12 k13 k14 k15 k16 k17 kf kz hmk HX2;obtain ⟨g, hg, n0, nf, nz⟩ := HX3.out.rows.ncell 0 (by simp only [List.length_replicate]; omega)
  obtain ⟨hcap1, hcap2⟩ : m ≤ c ∧ c ≤ maxLen := by
   have ho := HX3.out.rows.nd.n;obtain ⟨_, ⟨hv, h0⟩ | ⟨g', cap, cur, hv, hB, hb, hn, hc, _, _⟩⟩ := ho
   ·simp only [List.length_replicate] at h0;omega
   ·unfold WkX.gn at hv;simp only [Value.slice.injEq, List.length_replicate] at hv hn;omega
  obtain ⟨⟨k0, k1, k2, k3, k4, k5, k6, k7, k8, k9, k10, k11, k12, k13, k14, k15, k16, k17⟩, kf, kz⟩ := at18 HX3.out.box;simp only [List.length_replicate] at hg k12;rw [hg] at k12;have HX4 := hideIt (HX3.out.putX hg 0 0);have hm0 : (0 : Int) < (m : Int) := by omega
  go_upto_region 5 with fail
  generalize (World.setCell _ ⟨g, 0, none⟩ _) = W4 at *;clear k0 k1 k2 k3 k4 k5 k6 k7 k8 k9 k10 k11 k12 k13 k14 k15 k16 k17 kf kz HX3 n0 nf nz;obtain ⟨⟨k0, k1, k2, k3, k4, k5, k6, k7, k8, k9, k10, k11, k12, k13, k14, k15, k16, k17⟩, kf, kz⟩ := at18 HX4.out.box;have HX5 := hideIt (HX4.out.setWt true)
  go_upto_region 6 with fail
  generalize (World.setCell _ ⟨K, 17, none⟩ _) = W5 at *;clear k0 k1 k2 k3 k4 k5 k6 k7 k8 k9 k10 k11 k12 k13 k14 k15 k16 k17 kf kz HX4;have HT := hideIt (termW_is HX5.out.box);have HA := hideIt (addK_is HX5.out ⟨X.d.b.t, 1, noT⟩ HNB.out.1 HNB.out.2 hr hM hR);unfold noT at HA
  go_wp2_with fail
  refine HT.out.mono ?_;rintro r w6 ⟨rfl, rfl⟩;dsimp only
  go_wp2_with fail
  refine HA.out.mono ?_;rintro r w7 ⟨Y', rfl, hv, hMl, hRl, hw⟩;dsimp only;have HW := hideIt hw;clear HA HT hw HX5;go_wp2;go_ret;refine ⟨Y', ?_, ?_, hMl, hRl, HW.out⟩
  ·rw [HV.out]
   rfl
  ·rw [HV.out, hv]
   rfl
def evC (e : EvV) (a : Option Addr) (c : Nat) : List Value := .int .i64 e.kind :: .int .i64 e.idx :: .string e.tx :: msgE ⟨e.m, a, c⟩
theorem at16 {w : World} {p : Nat} {ty : TypeId} {z0 z1 z2 z3 z4 z5 z6 z7 z8 z9 z10 z11 z12 z13 z14 z15 : Value} (h : w.heap[p]? = some (.cells #[z0, z1, z2, z3, z4, z5, z6, z7, z8, z9, z10, z11, z12, z13, z14, z15] ty (0, 0))) : (w.cell? ⟨p, 0, none⟩ = some z0 ∧ w.cell? ⟨p, 1, none⟩ = some z1 ∧ w.cell? ⟨p, 2, none⟩ = some z2 ∧ w.cell? ⟨p, 3, none⟩ = some z3 ∧ w.cell? ⟨p, 4, none⟩ = some z4 ∧ w.cell? ⟨p, 5, none⟩ = some z5 ∧ w.cell? ⟨p, 6, none⟩ = some z6 ∧ w.cell? ⟨p, 7, none⟩ = some z7 ∧ w.cell? ⟨p, 8, none⟩ = some z8 ∧ w.cell? ⟨p, 9, none⟩ = some z9 ∧ w.cell? ⟨p, 10, none⟩ = some z10 ∧ w.cell? ⟨p, 11, none⟩ = some z11 ∧ w.cell? ⟨p, 12, none⟩ = some z12 ∧ w.cell? ⟨p, 13, none⟩ = some z13 ∧ w.cell? ⟨p, 14, none⟩ = some z14 ∧ w.cell? ⟨p, 15, none⟩ = some z15) ∧ (∀ j, w.frozen? ⟨p, j, none⟩ = false) ∧ p < w.heap.size :=
 ⟨⟨by rw [Tm.cell_at h]; rfl, by rw [Tm.cell_at h]; rfl, by rw [Tm.cell_at h]; rfl, by rw [Tm.cell_at h]; rfl, by rw [Tm.cell_at h]; rfl, by rw [Tm.cell_at h]; rfl, by rw [Tm.cell_at h]; rfl, by rw [Tm.cell_at h]; rfl, by rw [Tm.cell_at h]; rfl, by rw [Tm.cell_at h]; rfl, by rw [Tm.cell_at h]; rfl, by rw [Tm.cell_at h]; rfl, by rw [Tm.cell_at h]; rfl, by rw [Tm.cell_at h]; rfl, by rw [Tm.cell_at h]; rfl, by rw [Tm.cell_at h]; rfl⟩, fun j => Tm.free_at h j, (Array.getElem?_eq_some_iff.1 h).1⟩
theorem sendAll_is {X : WkX} {K : Nat} {w wx : World} (h : WK w K X wx) (hb : NB X.d) (l : LD X.d) (hM : X.M.length + 10 ≤ 1000000) : Calls Tryz.prog 88 #[.pointer (some ⟨K, 0, none⟩), .func (.func 89) #[.pointer (some ⟨K, 0, none⟩)] #[]] wx fun e w' => ∃ X' : WkX, e = .returned (.tuple #[]) ∧ X'.v = allW sendW X.v ∧ X'.d = X.d ∧ X'.M.length ≤ X.M.length + 7 ∧ X'.R = X.R ∧ WK w K X' w' :=
 eachS_is (f := sendW) h hb.n hM (fun Y wy k hY hd hMl h1 h2 h3 => by
  have hh := l.nl;have hbk := l.nb k h1 (by omega);have hlas := las_in hb.L;rw [← hd] at hbk hh hlas h2;exact sendK_is hY k (by omega) (by omega) hMl)
set_option maxRecDepth 100000 in
set_option maxHeartbeats 16000000 in
theorem timeK_is {X : WkX} {K : Nat} {w wx : World} (h : WK w K X wx) (e : EvV) (ea : Option Addr) (ec : Nat) (hb : NB X.d) (hl : Led X.d) (hM : X.M.length + 10 ≤ 1000000) (hR : X.R.length + 10 ≤ 1000000) : Calls Tryz.prog 53 #[.pointer (some ⟨K, 0, none⟩), .agg (evC e ea ec).toArray] wx fun r w' => ∃ Y' : WkX, r = .returned (.int .i64 (timeW X.v).2) ∧ Y'.v = (timeW X.v).1 ∧ WK w K Y' w' := by
 have hn := hb.n;have HX0 := hideIt (h.keep (below1 wx (.cells (evC e ea ec).toArray 52)));have HV : Hid (timeW X.v = if X.d.b.r = 3 then (allW sendW {X.v with wt := true}, 0) else if (Tm.beginL X.d.b X.d.me X.d.n).2 ≠ 0 then ({X.v with wt := true}, 102) else if (Tm.beginL X.d.b X.d.me X.d.n).1.r = 3 then leadW {X.v with d := {X.d with b := (Tm.beginL X.d.b X.d.me X.d.n).1, ld := 0}, wt := true} else (allW pollW {X.v with d := {X.d with b := (Tm.beginL X.d.b X.d.me X.d.n).1, ld := 0}, wt := true}, 0)) := hideIt rfl;have HBB : Hid ((Tm.beginL X.d.b X.d.me X.d.n).2 = 0 → Tm.mayB (Tm.beginL X.d.b X.d.me X.d.n).1 = true ∧ (Tm.beginL X.d.b X.d.me X.d.n).1.l.length ≤ 1000000) := hideIt (fun h0 => by
  obtain ⟨b1, b2, b3, b4, b5⟩ := begin_bal h0;refine ⟨b4, ?_⟩;rw [b3]
  simp)
 clear h;unfold evC msgE at *
 go_enter Tryz.func53, Tryz.ntmps53
 go_upto_region 1 with fail
 generalize (World.alloc wx _) = W0 at *;have HX1 := hideIt (HX0.out.setWt true);obtain ⟨⟨k0, k1, k2, k3, k4, k5, k6, k7, k8, k9, k10, k11, k12, k13, k14, k15, k16, k17⟩, kf, kz⟩ := at18 HX0.out.box
 go_upto_region 2 with fail
 generalize (World.setCell _ ⟨K, 17, none⟩ _) = W1 at *;clear k0 k1 k2 k3 k4 k5 k6 k7 k8 k9 k10 k11 k12 k13 k14 k15 k16 k17 kf kz HX0
 by_cases hr : X.d.b.r = 3
 ·rw [if_pos hr] at HV;have HLe : Hid (Calls Tryz.prog 87 #[.pointer (some ⟨K, 0, none⟩)] W1 fun r w' => r = .returned (.bool true) ∧ w' = W1) := hideIt (by
   have := leadsW_is HX1.out.box;rw [show decide (({X with wt := true} : WkX).d.b.r = 3) = true from decide_eq_true hr] at this;exact this)
  have HE := hideIt (sendAll_is HX1.out hb (hl.1 hr) hM);clear HBB hr HX1
  go_wp2_with fail
  refine HLe.out.mono ?_;rintro r w2 ⟨rfl, rfl⟩;dsimp only
  go_wp2_with fail
  refine HE.out.mono ?_;rintro r w3 ⟨Y, rfl, hv, hd, hMl, hRe, hw⟩;dsimp only;have HW := hideIt hw;clear hw HE HLe;go_wp2;go_ret;refine ⟨Y, ?_, ?_, HW.out⟩
  ·rw [HV.out]
   rfl
  ·rw [HV.out, hv]
   rfl
 ·rw [if_neg hr] at HV;have HLe : Hid (Calls Tryz.prog 87 #[.pointer (some ⟨K, 0, none⟩)] W1 fun r w' => r = .returned (.bool false) ∧ w' = W1) := hideIt (by
   have := leadsW_is HX1.out.box;rw [show decide (({X with wt := true} : WkX).d.b.r = 3) = false from decide_eq_false hr] at this;exact this)
  have HCY : Hid (∀ W, Below W1.heap.size W1 W → Calls Tryz.prog 90 #[.agg #[.int .i64 X.d.b.t, .int .i64 X.d.b.v, .int .i64 X.d.b.r, .slice X.ba X.d.b.l.length X.bc], .int .i64 X.d.me, .int .i64 X.d.n] W fun r w' => ∃ a c, r = .returned (.tuple #[.agg #[.int .i64 (Tm.beginL X.d.b X.d.me X.d.n).1.t, .int .i64 (Tm.beginL X.d.b X.d.me X.d.n).1.v, .int .i64 (Tm.beginL X.d.b X.d.me X.d.n).1.r, .slice a (Tm.beginL X.d.b X.d.me X.d.n).1.l.length c], .int .i64 (Tm.beginL X.d.b X.d.me X.d.n).2]) ∧ Hid (w'.ownsRow W1.heap.size 3 1 (.slice a (Tm.beginL X.d.b X.d.me X.d.n).1.l.length c) (Tm.beginL X.d.b X.d.me X.d.n).1.l.length ((Tm.beginL X.d.b X.d.me X.d.n).1.l.map Tm.iv) ∧ Below W1.heap.size W1 w' ∧ Below W.heap.size W w') ∧ (w'.cell? ⟨K, 0, none⟩ = some (.int .i64 X.d.me) ∧ w'.cell? ⟨K, 1, none⟩ = some (.int .i64 X.d.n) ∧ w'.cell? ⟨K, 2, none⟩ = some (.int .i64 X.d.b.t) ∧ w'.cell? ⟨K, 3, none⟩ = some (.int .i64 X.d.b.v) ∧ w'.cell? ⟨K, 4, none⟩ = some (.int .i64 X.d.b.r) ∧ w'.cell? ⟨K, 5, none⟩ = some (.slice X.ba X.d.b.l.length X.bc))) := by
   intro W hW;refine (Tm.begin_is X.d.b X.gb X.d.me X.d.n W (HX1.out.keep hW).rows.at_.1).mono ?_;rintro r w' ⟨g, rfl, ho, hbl⟩;obtain ⟨a, c, rfl⟩ := Tm.own_len ho;have hb2 := below_via hW hbl;obtain ⟨⟨k0, k1, k2, k3, k4, k5, k6, k7, k8, k9, k10, k11, k12, k13, k14, k15, k16, k17⟩, kf, kz⟩ := at18 (HX1.out.keep hb2).box
   exact ⟨a, c, rfl, hideIt ⟨own_base ho hW.size, hb2, hbl⟩, k0, k1, k2, k3, k4, k5⟩
  have ZF : Hid (∀ w', Below (W1.alloc (.cells #[.int .i64 0, .int .i64 0, .int .i64 0, .slice none 0 0] 34)).heap.size (W1.alloc (.cells #[.int .i64 0, .int .i64 0, .int .i64 0, .slice none 0 0] 34)) w' → (w'.cell? ⟨W1.heap.size, 0, none⟩ = some (.int .i64 0) ∧ w'.cell? ⟨W1.heap.size, 1, none⟩ = some (.int .i64 0) ∧ w'.cell? ⟨W1.heap.size, 2, none⟩ = some (.int .i64 0) ∧ w'.cell? ⟨W1.heap.size, 3, none⟩ = some (.slice none 0 0)) ∧ (∀ j, w'.frozen? ⟨W1.heap.size, j, none⟩ = false) ∧ W1.heap.size < w'.heap.size) := by
   intro w' hb;exact at4 ((hb.block W1.heap.size (by simp)).trans (heap_alloc_new W1 _))
  obtain ⟨⟨k0, k1, k2, k3, k4, k5, k6, k7, k8, k9, k10, k11, k12, k13, k14, k15, k16, k17⟩, kf, kz⟩ := at18 HX1.out.box;have y1 : W1.heap.size ≠ K := by omega
  have y3 : K ≠ W1.heap.size := by omega
  clear k6 k7 k8 k9 k10 k11 k12 k13 k14 k15 k16 k17;generalize Tm.beginL X.d.b X.d.me X.d.n = Z at *
  go_wp2_with fail
  refine HLe.out.mono ?_;rintro r w2 ⟨rfl, rfl⟩;dsimp only
  go_upto_region 5 with fail
  go_cut [5, 6] from 18 to 35 (fun x y wy => ∃ P a c, x = .pointer (some ⟨P, 0, none⟩) ∧ y = .int .i64 Z.2 ∧ Hid (BBox w2 P Z.1 a c wy))
  case first =>
   go_region_held3 (fun W => W.cell? ⟨K, 0, none⟩ = some (.int .i64 X.d.me) ∧ W.cell? ⟨K, 1, none⟩ = some (.int .i64 X.d.n) ∧ W.cell? ⟨K, 2, none⟩ = some (.int .i64 X.d.b.t) ∧ W.cell? ⟨K, 3, none⟩ = some (.int .i64 X.d.b.v) ∧ W.cell? ⟨K, 4, none⟩ = some (.int .i64 X.d.b.r) ∧ W.cell? ⟨K, 5, none⟩ = some (.slice X.ba X.d.b.l.length X.bc)) (go_keep) (first | (go_at_call 90; refine (HCY.out (w2.alloc (.cells #[.int .i64 0, .int .i64 0, .int .i64 0, .slice none 0 0] 34)).drew (below1 _ _).drew).mono ?_; rintro r w5 ⟨a, c, rfl, HQ, ⟨i0, i1, i2, i3, i4, i5⟩⟩; obtain ⟨⟨m0, m1, m2, m3⟩, mf, mz⟩ := ZF.out w5 (below_via (Below.refl _ _).drew HQ.out.2.2)) | (go_at_call 90; refine (HCY.out w2.drew (Below.refl _ _).drew).mono ?_; rintro r w5 ⟨a, c, rfl, HQ, ⟨i0, i1, i2, i3, i4, i5⟩⟩))
   all_goals go_wp2_with fail
   all_goals go_meet
   ·exact ⟨w5.heap.size, a, c, rfl, rfl, hideIt (BBox.new HQ.out.1 HQ.out.2.1)⟩
   ·have hz := (HQ.out.2.2.block w2.heap.size (show w2.heap.size < (w2.alloc (.cells #[.int .i64 0, .int .i64 0, .int .i64 0, .slice none 0 0] 34)).heap.size by simp)).trans (heap_alloc_new w2 _)
    exact ⟨w2.heap.size, a, c, rfl, rfl, hideIt (BBox.put hz HQ.out.1 HQ.out.2.1 (Nat.le_refl _))⟩
  case rest =>
   obtain ⟨P, a, c, rfl, rfl, HB⟩ := hcut;clear HCY ZF y1 y3 k0 k1 k2 k3 k4 k5 kf kz HLe;obtain ⟨⟨m0, m1, m2, m3⟩, mf, mz⟩ := at4 HB.out.box;have HX3 := hideIt (HX1.out.keep HB.out.bel)
   by_cases hz0 : Z.2 = 0
   ·have hz1 : (Z.2 == 0) = true := beq_iff_eq.2 hz0;rw [if_neg (fun h => h hz0)] at HV;obtain ⟨hmay, hzl⟩ := HBB.out hz0;have HX4 := hideIt ((HX3.out.setBal Z.1 a c (own_base HB.out.own HX1.out.bel.size) hzl (apart_new HX1.out.rows.nd.n HB.out.own) (apart_new HX1.out.rows.nd.m HB.out.own)).setLd 0);obtain ⟨⟨k0, k1, k2, k3, k4, k5, k6, k7, k8, k9, k10, k11, k12, k13, k14, k15, k16, k17⟩, kf, kz⟩ := at18 HX3.out.box;have hPK : P ≠ K := by
     intro e1;have h1 := HX3.out.box;have h2 := HB.out.box;rw [e1, h1] at h2
     simp at h2
    clear HBB
    go_upto_region 9 with fail
    generalize (World.setCell _ ⟨K, 6, none⟩ _) = W4 at *;clear k0 k1 k2 k3 k4 k5 k6 k7 k8 k9 k10 k11 k12 k13 k14 k15 k16 k17 kf kz m0 m1 m2 m3 mf mz hPK HB HX3 HX1;have hnb : NB {X.d with b := Z.1, ld := 0} := ⟨hb.n, hb.me, ⟨Int.le_refl _, show (0 : Int) ≤ X.d.n by omega⟩, hmay, hb.L, hb.tx⟩
    by_cases hr3 : Z.1.r = 3
    ·rw [if_pos hr3] at HV;have HL2 : Hid (Calls Tryz.prog 87 #[.pointer (some ⟨K, 0, none⟩)] W4 fun r w' => r = .returned (.bool true) ∧ w' = W4) := hideIt (by
      have := leadsW_is HX4.out.box;rw [show decide (({X with d := {X.d with b := Z.1, ld := 0}, ba := a, bc := c, wt := true} : WkX).d.b.r = 3) = true from decide_eq_true hr3] at this;exact this)
     have HE := hideIt (leadK_is HX4.out hnb hr3 hM hR);clear hr3 HX4
     go_wp2_with fail
     refine HL2.out.mono ?_;rintro r w6 ⟨rfl, rfl⟩;dsimp only
     go_wp2_with fail
     refine HE.out.mono ?_;rintro r w7 ⟨Y, rfl, hv, hMl, hRl, hw⟩;dsimp only;have HW := hideIt hw;clear hw HE HL2;go_wp2;go_ret;refine ⟨Y, ?_, ?_, HW.out⟩
     ·rw [HV.out]
      rfl
     ·rw [HV.out, hv]
      rfl
    ·rw [if_neg hr3] at HV;have HL2 : Hid (Calls Tryz.prog 87 #[.pointer (some ⟨K, 0, none⟩)] W4 fun r w' => r = .returned (.bool false) ∧ w' = W4) := hideIt (by
      have := leadsW_is HX4.out.box;rw [show decide (({X with d := {X.d with b := Z.1, ld := 0}, ba := a, bc := c, wt := true} : WkX).d.b.r = 3) = false from decide_eq_false hr3] at this;exact this)
     have HE := hideIt (eachP_is (f := pollW) HX4.out hn hM (fun Y wy k hY hd hMl h1 h2 h3 => pollK_is hY k hMl));clear hr3 HX4
     go_wp2_with fail
     refine HL2.out.mono ?_;rintro r w6 ⟨rfl, rfl⟩;dsimp only
     go_wp2_with fail
     refine HE.out.mono ?_;rintro r w7 ⟨Y, rfl, hv, hd, hMl, hRl, hw⟩;dsimp only;have HW := hideIt hw;clear hw HE HL2;go_wp2;go_ret;refine ⟨Y, ?_, ?_, HW.out⟩
     ·rw [HV.out]
      rfl
     ·rw [HV.out, hv]
      rfl
   ·have hz1 : (Z.2 == 0) = false := beq_eq_false_iff_ne.2 hz0;rw [if_pos hz0] at HV;clear HBB hz0;go_wp2;go_ret;refine ⟨{X with wt := true}, ?_, ?_, HX3.out⟩
    ·rw [HV.out]
     rfl
    ·rw [HV.out]
     rfl
end Go.Proofs.YtcaehfkfohianaaGreat
