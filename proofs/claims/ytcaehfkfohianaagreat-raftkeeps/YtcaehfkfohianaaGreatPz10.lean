/- Texts of my own, laid together. -/
import Derived.Test.YtcaehfkfohianaaGreatZq
import Derived.Test.YtcaehfkfohianaaGreatPz09
import Derived.Test.YtcaehfkfohianaaGreatPz08
set_option linter.all false
namespace Go.Proofs.YtcaehfkfohianaaGreat
open Go.RowKit
def entA (e : EntV) : Array Value := #[.int .i64 e.term, .int .i64 e.kind, .string e.text]
theorem one_ent (w : World) (e : EntV) : EGot (w.alloc (.cells (entA e) 55)) (.slice (some ⟨w.heap.size, 0, none⟩) 1 1) [e] := by
 refine ⟨by simp, _, 1, rfl, ⟨by simp, by unfold maxLen; omega⟩, fun _ => ⟨w.heap.size, 0, rfl, by simp, fun j hj => ?_⟩⟩
 rw [cell_at (heap_alloc_new w _), Nat.zero_add];simp only [entC, entA];rw [← List.getElem?_toArray]
 rfl
def addL (L : LogV) (e : EntV) : LogV × Int :=
 if mayB L = false then (zL, 80) else if entB e = false then (zL, 80) else if e.term < (lasM L).2 then (zL, 80) else
 if L.l.length = 400 then (zL, 2) else if lasI L = 1000000 then (zL, 2) else (⟨L.bi, L.bt, L.l ++ [e], L.cm⟩, 0)
structure LER (w : World) (L : LogV) (g : Value) (e : EntV) (wx : World) : Prop where
 box : wx.heap[w.heap.size]? = some (.cells (logA L g) 36 (0, 0))
 ent : wx.heap[w.heap.size + 1]? = some (.cells (entA e) 55 (0, 0))
 res : wx.heap[w.heap.size + 2]? = some (.cells #[.int .i64 0, .int .i64 0, .slice none 0 0, .int .i64 0] 36 (0, 0))
 bel : Below w.heap.size w wx
theorem LER.first (w : World) (L : LogV) (g : Value) (e : EntV) : LER w L g e (((w.alloc (.cells (logA L g) 36)).alloc (.cells (entA e) 55)).alloc (.cells #[.int .i64 0, .int .i64 0, .slice none 0 0, .int .i64 0] 36)) := by
 have ht := three_heap w (.cells (logA L g) 36) (.cells (entA e) 55) (.cells #[.int .i64 0, .int .i64 0, .slice none 0 0, .int .i64 0] 36)
 exact ⟨ht.1, ht.2.1, ht.2.2.1, below3 w _ _ _⟩
theorem LER.size {w wx : World} {L : LogV} {g : Value} {e : EntV} (h : LER w L g e wx) : w.heap.size + 3 ≤ wx.heap.size := (Array.getElem?_eq_some_iff.1 h.res).1
theorem LER.keep {w wx wy : World} {L : LogV} {g : Value} {e : EntV} (h : LER w L g e wx) (hb : Below wx.heap.size wx wy) : LER w L g e wy := by
 have := h.size
 exact ⟨(hb.block _ (by omega)).trans h.box, (hb.block _ (by omega)).trans h.ent, (hb.block _ (by omega)).trans h.res, below_via h.bel hb⟩
theorem LER.drew {w wx : World} {L : LogV} {g : Value} {e : EntV} (h : LER w L g e wx) : LER w L g e wx.drew := h.keep (Below.refl _ wx).drew
def SevC (k : Nat) (L : LogV) (g : Value) (e : EntV) (wx : World) : Prop := wx.cell? ⟨k, 0, none⟩ = some (.int .i64 L.bi) ∧ wx.cell? ⟨k, 1, none⟩ = some (.int .i64 L.bt) ∧ wx.cell? ⟨k, 2, none⟩ = some g ∧ wx.cell? ⟨k, 3, none⟩ = some (.int .i64 L.cm) ∧ wx.cell? ⟨k + 1, 0, none⟩ = some (.int .i64 e.term) ∧ wx.cell? ⟨k + 1, 1, none⟩ = some (.int .i64 e.kind) ∧ wx.cell? ⟨k + 1, 2, none⟩ = some (.string e.text)
theorem LER.cells {w wx : World} {L : LogV} {g : Value} {e : EntV} (h : LER w L g e wx) : SevC w.heap.size L g e wx :=
 ⟨by rw [cell_at h.box]; rfl, by rw [cell_at h.box]; rfl, by rw [cell_at h.box]; rfl, by rw [cell_at h.box]; rfl, by rw [cell_at h.ent]; rfl, by rw [cell_at h.ent]; rfl, by rw [cell_at h.ent]; rfl⟩
theorem LER.free {w wx : World} {L : LogV} {g : Value} {e : EntV} (h : LER w L g e wx) : ∀ j, wx.frozen? ⟨w.heap.size, j, none⟩ = false := fun j => free_at h.box j
theorem LER.zero {w wx : World} {L : LogV} {g : Value} {e : EntV} (h : LER w L g e wx) : wx.cell? ⟨w.heap.size + 2, 0, none⟩ = some (.int .i64 0) ∧ wx.cell? ⟨w.heap.size + 2, 1, none⟩ = some (.int .i64 0) ∧ wx.cell? ⟨w.heap.size + 2, 2, none⟩ = some (.slice none 0 0) ∧ wx.cell? ⟨w.heap.size + 2, 3, none⟩ = some (.int .i64 0) ∧ ∀ j, wx.frozen? ⟨w.heap.size + 2, j, none⟩ = false :=
 ⟨by rw [cell_at h.res]; rfl, by rw [cell_at h.res]; rfl, by rw [cell_at h.res]; rfl, by rw [cell_at h.res]; rfl, fun j => free_at h.res j⟩
theorem LER.put {w wx : World} {L : LogV} {g : Value} {e : EntV} (h : LER w L g e wx) (v0 v1 v2 v3 : Value) : Hid (((((wx.setCell ⟨w.heap.size + 2, 0, none⟩ v0).setCell ⟨w.heap.size + 2, 1, none⟩ v1).setCell ⟨w.heap.size + 2, 2, none⟩ v2).setCell ⟨w.heap.size + 2, 3, none⟩ v3).heap[w.heap.size + 2]? = some (.cells #[v0, v1, v2, v3] 36 (0, 0)) ∧ Below w.heap.size w ((((wx.setCell ⟨w.heap.size + 2, 0, none⟩ v0).setCell ⟨w.heap.size + 2, 1, none⟩ v1).setCell ⟨w.heap.size + 2, 2, none⟩ v2).setCell ⟨w.heap.size + 2, 3, none⟩ v3)) :=
 fin4 v0 v1 v2 v3 h.res (by omega) h.bel
theorem LER.setL {w wx : World} {L : LogV} {g : Value} {e : EntV} (h : LER w L g e wx) (l' : List EntV) (g' : Value) : LER w ⟨L.bi, L.bt, l', L.cm⟩ g' e (wx.setCell ⟨w.heap.size, 2, none⟩ g') :=
 ⟨heap_set h.box 2 g', setOther _ h.ent (by omega), setOther _ h.res (by omega), belowSet _ h.bel (Nat.le_refl _)⟩
theorem LER.run {w : World} {L : LogV} {g : Value} {e : EntV} {f : Nat} {args : Array Value} {r : Value} (h : ∀ wx, LER w L g e wx → Calls Tryz.prog f args wx fun e w' => e = .returned r ∧ Below wx.heap.size wx w') :
  ∀ wx, LER w L g e wx → Calls Tryz.prog f args wx fun x w' => x = .returned r ∧ Hid (LER w L g e w') ∧ SevC w.heap.size L g e w' := fun wx hx => (h wx hx).mono fun _ _ ⟨he, hb⟩ => ⟨he, hx.keep hb, (hx.keep hb).cells⟩
set_option maxHeartbeats 16000000 in
set_option maxRecDepth 100000 in
theorem add_is (L : LogV) (g : Value) (e : EntV) (w : World) (h : EGot w g L.l) : Calls Tryz.prog 136 #[logV L g, .agg (entA e)] w (LogErr (addL L e) w) := by
 have HI := hideIt (LER.first w L g e).drew;have HC1 := hideIt (LER.run (w := w) (L := L) (g := g) (e := e) (fun wx hx => mayBe_is L g wx (h.keep hx.bel)));have HC2 := hideIt (LER.run (w := w) (L := L) (g := g) (e := e) (fun wx _ => isEntry_is e wx));have HC3' := hideIt (fun (hm : mayB L = true) => LER.run (w := w) (L := L) (g := g) (e := e) (fun wx hx => lastMark_is L g wx (h.keep hx.bel) (near_may hm)));have HEN := hideIt (fun (hm : mayB L = true) wx (hx : Below w.heap.size w wx) => lastIndex_is L g wx (h.keep hx) (near_may hm));have HOK : Hid (∀ (_ : mayB L = true) (_ : entB e = true) (wx : World) (_ : Below w.heap.size w wx), Calls Tryz.prog 85 #[.slice (some ⟨wx.heap.size + 1, 0, none⟩) 2 2] ((wx.alloc (.cells (entA e) 55)).alloc (.cells #[g, .slice (some ⟨wx.heap.size, 0, none⟩) 1 1] 28)) fun x w' => ∃ r, x = .returned r ∧ w'.ownsRow (wx.heap.size + 2) 55 3 r (L.l ++ [e]).length (entC (L.l ++ [e])) ∧ Below ((wx.alloc (.cells (entA e) 55)).alloc (.cells #[g, .slice (some ⟨wx.heap.size, 0, none⟩) 1 1] 28)).heap.size ((wx.alloc (.cells (entA e) 55)).alloc (.cells #[g, .slice (some ⟨wx.heap.size, 0, none⟩) 1 1] 28)) w') := by
  intro hm he wx hx;have hs : (wx.alloc (.cells (entA e) 55)).heap.size = wx.heap.size + 1 := by simp
  have hs2 : wx.heap.size + 2 = ((wx.alloc (.cells (entA e) 55)).alloc (.cells #[g, .slice (some ⟨wx.heap.size, 0, none⟩) 1 1] 28)).heap.size := by simp
  rw [← hs, hs2];exact anew_is _ _ [L.l, [e]] (L.l ++ [e]) (by simp) _ (LsGot.pair ((h.keep hx).keep (below1 wx (.cells (entA e) 55))) (one_ent wx e)) (by have := (mayB_in hm).2.2.1; rw [List.length_append]; simp; omega) (by simp) (fun x hx => by
  rcases List.mem_append.1 hx with hx | hx
  ·exact text_rows (mayB_in hm).2.2.2.1 x hx
  ·rw [List.mem_singleton.1 hx];exact entB_text he)
 unfold LogErr addL;unfold SevC at HC1 HC2 HC3';obtain ⟨a, c, rfl⟩ := h.slice;generalize hmk : lasM L = mk at *;obtain ⟨mi, mt⟩ := mk;simp only at HC3';have nf := fld23 mi mt;cases hm : mayB L
 ·rw [if_pos rfl];rw [hm] at HC1;unfold logV logA entA at *;obtain ⟨bi, bt, l, cm⟩ := L;obtain ⟨et, ek, ex⟩ := e;simp only at HI HC1 HC2 HC3' ⊢;clear h hm HC3' HEN hmk
  go_enter Tryz.func136, Tryz.ntmps136
  go_upto_region 1 with fail
  refine wp_region_held_drew (S := fun w' => w'.cell? ⟨w.heap.size, 0, none⟩ = some (.int .i64 bi) ∧ w'.cell? ⟨w.heap.size, 1, none⟩ = some (.int .i64 bt) ∧ w'.cell? ⟨w.heap.size, 2, none⟩ = some (.slice a l.length c) ∧ w'.cell? ⟨w.heap.size, 3, none⟩ = some (.int .i64 cm) ∧ w'.cell? ⟨w.heap.size + 1, 0, none⟩ = some (.int .i64 et) ∧ w'.cell? ⟨w.heap.size + 1, 1, none⟩ = some (.int .i64 ek) ∧ w'.cell? ⟨w.heap.size + 1, 2, none⟩ = some (.string ex)) (by kernel_rfl) HI.out.cells (fun hHeld => ?_);generalize (((w.alloc (.cells #[.int .i64 bi, .int .i64 bt, .slice a l.length c, .int .i64 cm] 36)).alloc (.cells #[.int .i64 et, .int .i64 ek, .string ex] 55)).alloc (.cells #[.int .i64 0, .int .i64 0, .slice none 0 0, .int .i64 0] 36)).drew = wa at *;refine wpAnyH_take (i := 0) (oi := ⟨some 6, _, _, _, _, _⟩) (v := ?_) rfl (by kernel_rfl) (by kernel_rfl) (by kernel_rfl) (fun _ _ _ h => h) (Or.inl ⟨by rfl, ?_⟩) (by assumption) ?_
  rotate_left
  ·intro w5 hSw
   (try dsimp only at hSw)
   go_simp
   (try with_reducible rfl)
  try simp only [aP, aQ, aA, aB, aC]
  refine wpAnyH_ready (rs := [1]) (by kernel_rfl) (by simp) ?_;refine AllReadyH.cons (o := ⟨some 7, _, _, _, _, _⟩) rfl (fun K hK => ?_) AllReadyH.nil;go_simp
  go_at_call 81
  refine (HC1.out _ HI.out).mono ?_;clear HI;rintro x w1 ⟨rfl, HI, j0, j1, j2, j3, j4, j5, j6⟩;refine hK.out _ _ ⟨j0, j1, j2, j3, j4, j5, j6⟩ (fun hHeld => ?_);clear hK K
  try simp only [aP, aQ, aA, aB, aC]
  refine wpAnyH_take (i := 2) (oi := ⟨some 8, _, _, _, _, _⟩) (v := ?_) rfl (by kernel_rfl) (by kernel_rfl) (by kernel_rfl) (fun _ _ _ h => h) (Or.inl ⟨by rfl, ?_⟩) (by assumption) ?_
  rotate_left
  ·intro w5 hSw
   (try dsimp only at hSw)
   go_simp
   (try with_reducible rfl)
  try simp only [aP, aQ, aA, aB, aC]
  refine wpAnyH_take (i := 3) (oi := ⟨some 9, _, _, _, _, _⟩) (v := ?_) rfl (by kernel_rfl) (by kernel_rfl) (by kernel_rfl) (fun _ _ _ h => h) (Or.inl ⟨by rfl, ?_⟩) (by assumption) ?_
  rotate_left
  ·intro w5 hSw
   (try dsimp only at hSw)
   go_simp
   (try with_reducible rfl)
  try simp only [aP, aQ, aA, aB, aC]
  refine wpAnyH_take (i := 4) (oi := ⟨some 10, _, _, _, _, _⟩) (v := undef) rfl (by kernel_rfl) (by kernel_rfl) (by kernel_rfl) (fun _ _ _ h => h) (Or.inr ⟨by rfl, rfl⟩) (by assumption) ?_
  try simp only [aP, aQ, aA, aB, aC]
  refine wpAnyH_take (i := 5) (oi := ⟨some 11, _, _, _, _, _⟩) (v := undef) rfl (by kernel_rfl) (by kernel_rfl) (by kernel_rfl) (fun _ _ _ h => h) (Or.inr ⟨by rfl, rfl⟩) (by assumption) ?_
  try simp only [aP, aQ, aA, aB, aC]
  refine wpAnyH_take (i := 6) (oi := ⟨some 12, _, _, _, _, _⟩) (v := undef) rfl (by kernel_rfl) (by kernel_rfl) (by kernel_rfl) (fun _ _ _ h => h) (Or.inr ⟨by rfl, rfl⟩) (by assumption) ?_
  try simp only [aP, aQ, aA, aB, aC]
  refine wpAnyH_take (i := 7) (oi := ⟨some 13, _, _, _, _, _⟩) (v := ?_) rfl (by kernel_rfl) (by kernel_rfl) (by kernel_rfl) (fun _ _ _ h => h) (Or.inl ⟨by rfl, ?_⟩) (by assumption) ?_
  rotate_left
  ·intro w5 hSw
   (try dsimp only at hSw)
   go_simp
   (try with_reducible rfl)
  try simp only [aP, aQ, aA, aB, aC]
  refine wpAnyH_take (i := 8) (oi := ⟨some 14, _, _, _, _, _⟩) (v := ?_) rfl (by kernel_rfl) (by kernel_rfl) (by kernel_rfl) (fun _ _ _ h => h) (Or.inl ⟨by rfl, ?_⟩) (by assumption) ?_
  rotate_left
  ·intro w5 hSw
   (try dsimp only at hSw)
   go_simp
   (try with_reducible rfl)
  try simp only [aP, aQ, aA, aB, aC]
  refine wpAnyH_take (i := 9) (oi := ⟨some 15, _, _, _, _, _⟩) (v := undef) rfl (by kernel_rfl) (by kernel_rfl) (by kernel_rfl) (fun _ _ _ h => h) (Or.inr ⟨by rfl, rfl⟩) (by assumption) ?_
  try simp only [aP, aQ, aA, aB, aC]
  refine wpAnyH_take (i := 10) (oi := ⟨some 16, _, _, _, _, _⟩) (v := undef) rfl (by kernel_rfl) (by kernel_rfl) (by kernel_rfl) (fun _ _ _ h => h) (Or.inr ⟨by rfl, rfl⟩) (by assumption) ?_
  try simp only [aP, aQ, aA, aB, aC]
  refine wpAnyH_take (i := 11) (oi := ⟨some 17, _, _, _, _, _⟩) (v := undef) rfl (by kernel_rfl) (by kernel_rfl) (by kernel_rfl) (fun _ _ _ h => h) (Or.inr ⟨by rfl, rfl⟩) (by assumption) ?_
  try simp only [aP, aQ, aA, aB, aC]
  refine wpAnyH_take (i := 12) (oi := ⟨some 18, _, _, _, _, _⟩) (v := undef) rfl (by kernel_rfl) (by kernel_rfl) (by kernel_rfl) (fun _ _ _ h => h) (Or.inr ⟨by rfl, rfl⟩) (by assumption) ?_
  try simp only [aP, aQ, aA, aB, aC]
  refine wpAnyH_take (i := 13) (oi := ⟨some 19, _, _, _, _, _⟩) (v := undef) rfl (by kernel_rfl) (by kernel_rfl) (by kernel_rfl) (fun _ _ _ h => h) (Or.inr ⟨by rfl, rfl⟩) (by assumption) ?_
  try simp only [aP, aQ, aA, aB, aC]
  refine wpAnyH_take (i := 14) (oi := ⟨some 20, _, _, _, _, _⟩) (v := undef) rfl (by kernel_rfl) (by kernel_rfl) (by kernel_rfl) (fun _ _ _ h => h) (Or.inr ⟨by rfl, rfl⟩) (by assumption) ?_
  try simp only [aP, aQ, aA, aB, aC]
  refine wpAnyH_take (i := 15) (oi := ⟨some 21, _, _, _, _, _⟩) (v := ?_) rfl (by kernel_rfl) (by kernel_rfl) (by kernel_rfl) (fun _ _ _ h => h) (Or.inl ⟨by rfl, ?_⟩) (by assumption) ?_
  rotate_left
  ·intro w5 hSw
   (try dsimp only at hSw)
   go_simp
   (try with_reducible rfl)
  try simp only [aP, aQ, aA, aB, aC]
  refine wpAnyH_done (by kernel_rfl) ?_ _;clear hHeld;obtain ⟨z0, z1, z2, z3, zf⟩ := HI.out.zero;have HP := HI.out.put (.int .i64 0) (.int .i64 0) (.slice none 0 0) (.int .i64 0);obtain ⟨e1, e2⟩ := HP.out;clear HP HI;go_wp2
  revert e1 e2
  generalize (World.setCell _ ⟨w.heap.size + 2, 3, none⟩ _) = W;intro e1 e2;exact bodyPost_ret (v := .tuple #[logV zL (.slice none 0 0), .int .i64 80]) (by simp [results, Tryz.results136, go_sem, cell_at e1, logV, logA, zL]) rfl ⟨_, rfl, own_nil _ _, e2⟩
 ·rw [if_neg (by simp)];rw [hm] at HC1;have HC3 := hideIt (HC3'.out hm);cases he : entB e
  ·rw [if_pos rfl];rw [he] at HC2;unfold logV logA entA at *;obtain ⟨bi, bt, l, cm⟩ := L;obtain ⟨et, ek, ex⟩ := e;simp only at HI HC1 HC2 HC3 ⊢;clear h hm HC3' HEN hmk he
   go_enter Tryz.func136, Tryz.ntmps136
   go_upto_region 1 with fail
   refine wp_region_held_drew (S := fun w' => w'.cell? ⟨w.heap.size, 0, none⟩ = some (.int .i64 bi) ∧ w'.cell? ⟨w.heap.size, 1, none⟩ = some (.int .i64 bt) ∧ w'.cell? ⟨w.heap.size, 2, none⟩ = some (.slice a l.length c) ∧ w'.cell? ⟨w.heap.size, 3, none⟩ = some (.int .i64 cm) ∧ w'.cell? ⟨w.heap.size + 1, 0, none⟩ = some (.int .i64 et) ∧ w'.cell? ⟨w.heap.size + 1, 1, none⟩ = some (.int .i64 ek) ∧ w'.cell? ⟨w.heap.size + 1, 2, none⟩ = some (.string ex)) (by kernel_rfl) HI.out.cells (fun hHeld => ?_);generalize (((w.alloc (.cells #[.int .i64 bi, .int .i64 bt, .slice a l.length c, .int .i64 cm] 36)).alloc (.cells #[.int .i64 et, .int .i64 ek, .string ex] 55)).alloc (.cells #[.int .i64 0, .int .i64 0, .slice none 0 0, .int .i64 0] 36)).drew = wa at *;refine wpAnyH_take (i := 0) (oi := ⟨some 6, _, _, _, _, _⟩) (v := ?_) rfl (by kernel_rfl) (by kernel_rfl) (by kernel_rfl) (fun _ _ _ h => h) (Or.inl ⟨by rfl, ?_⟩) (by assumption) ?_
   rotate_left
   ·intro w5 hSw
    (try dsimp only at hSw)
    go_simp
    (try with_reducible rfl)
   try simp only [aP, aQ, aA, aB, aC]
   refine wpAnyH_ready (rs := [1]) (by kernel_rfl) (by simp) ?_;refine AllReadyH.cons (o := ⟨some 7, _, _, _, _, _⟩) rfl (fun K hK => ?_) AllReadyH.nil;go_simp
   go_at_call 81
   refine (HC1.out _ HI.out).mono ?_;clear HI;rintro x w1 ⟨rfl, HI, j0, j1, j2, j3, j4, j5, j6⟩;refine hK.out _ _ ⟨j0, j1, j2, j3, j4, j5, j6⟩ (fun hHeld => ?_);clear hK K
   try simp only [aP, aQ, aA, aB, aC]
   refine wpAnyH_take (i := 2) (oi := ⟨some 8, _, _, _, _, _⟩) (v := ?_) rfl (by kernel_rfl) (by kernel_rfl) (by kernel_rfl) (fun _ _ _ h => h) (Or.inl ⟨by rfl, ?_⟩) (by assumption) ?_
   rotate_left
   ·intro w5 hSw
    (try dsimp only at hSw)
    go_simp
    (try with_reducible rfl)
   try simp only [aP, aQ, aA, aB, aC]
   refine wpAnyH_take (i := 3) (oi := ⟨some 9, _, _, _, _, _⟩) (v := ?_) rfl (by kernel_rfl) (by kernel_rfl) (by kernel_rfl) (fun _ _ _ h => h) (Or.inl ⟨by rfl, ?_⟩) (by assumption) ?_
   rotate_left
   ·intro w5 hSw
    (try dsimp only at hSw)
    go_simp
    (try with_reducible rfl)
   try simp only [aP, aQ, aA, aB, aC]
   refine wpAnyH_take (i := 4) (oi := ⟨some 10, _, _, _, _, _⟩) (v := ?_) rfl (by kernel_rfl) (by kernel_rfl) (by kernel_rfl) (fun _ _ _ h => h) (Or.inl ⟨by rfl, ?_⟩) (by assumption) ?_
   rotate_left
   ·intro w5 hSw
    (try dsimp only at hSw)
    go_simp
    (try with_reducible rfl)
   try simp only [aP, aQ, aA, aB, aC]
   refine wpAnyH_ready (rs := [5]) (by kernel_rfl) (by simp) ?_;refine AllReadyH.cons (o := ⟨some 11, _, _, _, _, _⟩) rfl (fun K hK => ?_) AllReadyH.nil;go_simp
   go_at_call 151
   refine (HC2.out _ HI.out).mono ?_;clear HI;rintro x w1 ⟨rfl, HI, j0, j1, j2, j3, j4, j5, j6⟩;refine hK.out _ _ ⟨j0, j1, j2, j3, j4, j5, j6⟩ (fun hHeld => ?_);clear hK K
   try simp only [aP, aQ, aA, aB, aC]
   refine wpAnyH_take (i := 6) (oi := ⟨some 12, _, _, _, _, _⟩) (v := ?_) rfl (by kernel_rfl) (by kernel_rfl) (by kernel_rfl) (fun _ _ _ h => h) (Or.inl ⟨by rfl, ?_⟩) (by assumption) ?_
   rotate_left
   ·intro w5 hSw
    (try dsimp only at hSw)
    go_simp
    (try with_reducible rfl)
   try simp only [aP, aQ, aA, aB, aC]
   refine wpAnyH_take (i := 7) (oi := ⟨some 13, _, _, _, _, _⟩) (v := ?_) rfl (by kernel_rfl) (by kernel_rfl) (by kernel_rfl) (fun _ _ _ h => h) (Or.inl ⟨by rfl, ?_⟩) (by assumption) ?_
   rotate_left
   ·intro w5 hSw
    (try dsimp only at hSw)
    go_simp
    (try with_reducible rfl)
   try simp only [aP, aQ, aA, aB, aC]
   refine wpAnyH_take (i := 8) (oi := ⟨some 14, _, _, _, _, _⟩) (v := ?_) rfl (by kernel_rfl) (by kernel_rfl) (by kernel_rfl) (fun _ _ _ h => h) (Or.inl ⟨by rfl, ?_⟩) (by assumption) ?_
   rotate_left
   ·intro w5 hSw
    (try dsimp only at hSw)
    go_simp
    (try with_reducible rfl)
   try simp only [aP, aQ, aA, aB, aC]
   refine wpAnyH_take (i := 9) (oi := ⟨some 15, _, _, _, _, _⟩) (v := undef) rfl (by kernel_rfl) (by kernel_rfl) (by kernel_rfl) (fun _ _ _ h => h) (Or.inr ⟨by rfl, rfl⟩) (by assumption) ?_
   try simp only [aP, aQ, aA, aB, aC]
   refine wpAnyH_take (i := 10) (oi := ⟨some 16, _, _, _, _, _⟩) (v := undef) rfl (by kernel_rfl) (by kernel_rfl) (by kernel_rfl) (fun _ _ _ h => h) (Or.inr ⟨by rfl, rfl⟩) (by assumption) ?_
   try simp only [aP, aQ, aA, aB, aC]
   refine wpAnyH_take (i := 11) (oi := ⟨some 17, _, _, _, _, _⟩) (v := undef) rfl (by kernel_rfl) (by kernel_rfl) (by kernel_rfl) (fun _ _ _ h => h) (Or.inr ⟨by rfl, rfl⟩) (by assumption) ?_
   try simp only [aP, aQ, aA, aB, aC]
   refine wpAnyH_take (i := 12) (oi := ⟨some 18, _, _, _, _, _⟩) (v := undef) rfl (by kernel_rfl) (by kernel_rfl) (by kernel_rfl) (fun _ _ _ h => h) (Or.inr ⟨by rfl, rfl⟩) (by assumption) ?_
   try simp only [aP, aQ, aA, aB, aC]
   refine wpAnyH_take (i := 13) (oi := ⟨some 19, _, _, _, _, _⟩) (v := undef) rfl (by kernel_rfl) (by kernel_rfl) (by kernel_rfl) (fun _ _ _ h => h) (Or.inr ⟨by rfl, rfl⟩) (by assumption) ?_
   try simp only [aP, aQ, aA, aB, aC]
   refine wpAnyH_take (i := 14) (oi := ⟨some 20, _, _, _, _, _⟩) (v := undef) rfl (by kernel_rfl) (by kernel_rfl) (by kernel_rfl) (fun _ _ _ h => h) (Or.inr ⟨by rfl, rfl⟩) (by assumption) ?_
   try simp only [aP, aQ, aA, aB, aC]
   refine wpAnyH_take (i := 15) (oi := ⟨some 21, _, _, _, _, _⟩) (v := ?_) rfl (by kernel_rfl) (by kernel_rfl) (by kernel_rfl) (fun _ _ _ h => h) (Or.inl ⟨by rfl, ?_⟩) (by assumption) ?_
   rotate_left
   ·intro w5 hSw
    (try dsimp only at hSw)
    go_simp
    (try with_reducible rfl)
   try simp only [aP, aQ, aA, aB, aC]
   refine wpAnyH_done (by kernel_rfl) ?_ _;clear hHeld;obtain ⟨z0, z1, z2, z3, zf⟩ := HI.out.zero;have HP := HI.out.put (.int .i64 0) (.int .i64 0) (.slice none 0 0) (.int .i64 0);obtain ⟨e1, e2⟩ := HP.out;clear HP HI;go_wp2
   revert e1 e2
   generalize (World.setCell _ ⟨w.heap.size + 2, 3, none⟩ _) = W;intro e1 e2;exact bodyPost_ret (v := .tuple #[logV zL (.slice none 0 0), .int .i64 80]) (by simp [results, Tryz.results136, go_sem, cell_at e1, logV, logA, zL]) rfl ⟨_, rfl, own_nil _ _, e2⟩
  ·rw [if_neg (by simp)];rw [he] at HC2;have hin := mayB_in hm;replace HOK := hideIt (HOK.out hm he);replace HEN := hideIt (HEN.out hm);have hlas : lasI L = L.bi + (L.l.length : Int) := rfl;have hb1 : 0 ≤ L.bi ∧ L.bi ≤ 1000000 := hin.1;have hll : L.l.length ≤ 400 := hin.2.2.1
   by_cases ht : e.term < mt
   ·rw [if_pos ht];unfold logV logA entA at *;obtain ⟨bi, bt, l, cm⟩ := L;obtain ⟨et, ek, ex⟩ := e;simp only at HI HC1 HC2 HC3 ht ⊢;clear h hm HC3' HEN hmk he hin hlas
    go_enter Tryz.func136, Tryz.ntmps136
    go_upto_region 1 with fail
    refine wp_region_held_drew (S := fun w' => w'.cell? ⟨w.heap.size, 0, none⟩ = some (.int .i64 bi) ∧ w'.cell? ⟨w.heap.size, 1, none⟩ = some (.int .i64 bt) ∧ w'.cell? ⟨w.heap.size, 2, none⟩ = some (.slice a l.length c) ∧ w'.cell? ⟨w.heap.size, 3, none⟩ = some (.int .i64 cm) ∧ w'.cell? ⟨w.heap.size + 1, 0, none⟩ = some (.int .i64 et) ∧ w'.cell? ⟨w.heap.size + 1, 1, none⟩ = some (.int .i64 ek) ∧ w'.cell? ⟨w.heap.size + 1, 2, none⟩ = some (.string ex)) (by kernel_rfl) HI.out.cells (fun hHeld => ?_);generalize (((w.alloc (.cells #[.int .i64 bi, .int .i64 bt, .slice a l.length c, .int .i64 cm] 36)).alloc (.cells #[.int .i64 et, .int .i64 ek, .string ex] 55)).alloc (.cells #[.int .i64 0, .int .i64 0, .slice none 0 0, .int .i64 0] 36)).drew = wa at *;refine wpAnyH_take (i := 0) (oi := ⟨some 6, _, _, _, _, _⟩) (v := ?_) rfl (by kernel_rfl) (by kernel_rfl) (by kernel_rfl) (fun _ _ _ h => h) (Or.inl ⟨by rfl, ?_⟩) (by assumption) ?_
    rotate_left
    ·intro w5 hSw
     (try dsimp only at hSw)
     go_simp
     (try with_reducible rfl)
    try simp only [aP, aQ, aA, aB, aC]
    refine wpAnyH_ready (rs := [1]) (by kernel_rfl) (by simp) ?_;refine AllReadyH.cons (o := ⟨some 7, _, _, _, _, _⟩) rfl (fun K hK => ?_) AllReadyH.nil;go_simp
    go_at_call 81
    refine (HC1.out _ HI.out).mono ?_;clear HI;rintro x w1 ⟨rfl, HI, j0, j1, j2, j3, j4, j5, j6⟩;refine hK.out _ _ ⟨j0, j1, j2, j3, j4, j5, j6⟩ (fun hHeld => ?_);clear hK K
    try simp only [aP, aQ, aA, aB, aC]
    refine wpAnyH_take (i := 2) (oi := ⟨some 8, _, _, _, _, _⟩) (v := ?_) rfl (by kernel_rfl) (by kernel_rfl) (by kernel_rfl) (fun _ _ _ h => h) (Or.inl ⟨by rfl, ?_⟩) (by assumption) ?_
    rotate_left
    ·intro w5 hSw
     (try dsimp only at hSw)
     go_simp
     (try with_reducible rfl)
    try simp only [aP, aQ, aA, aB, aC]
    refine wpAnyH_take (i := 3) (oi := ⟨some 9, _, _, _, _, _⟩) (v := ?_) rfl (by kernel_rfl) (by kernel_rfl) (by kernel_rfl) (fun _ _ _ h => h) (Or.inl ⟨by rfl, ?_⟩) (by assumption) ?_
    rotate_left
    ·intro w5 hSw
     (try dsimp only at hSw)
     go_simp
     (try with_reducible rfl)
    try simp only [aP, aQ, aA, aB, aC]
    refine wpAnyH_take (i := 4) (oi := ⟨some 10, _, _, _, _, _⟩) (v := ?_) rfl (by kernel_rfl) (by kernel_rfl) (by kernel_rfl) (fun _ _ _ h => h) (Or.inl ⟨by rfl, ?_⟩) (by assumption) ?_
    rotate_left
    ·intro w5 hSw
     (try dsimp only at hSw)
     go_simp
     (try with_reducible rfl)
    try simp only [aP, aQ, aA, aB, aC]
    refine wpAnyH_ready (rs := [5]) (by kernel_rfl) (by simp) ?_;refine AllReadyH.cons (o := ⟨some 11, _, _, _, _, _⟩) rfl (fun K hK => ?_) AllReadyH.nil;go_simp
    go_at_call 151
    refine (HC2.out _ HI.out).mono ?_;clear HI;rintro x w1 ⟨rfl, HI, j0, j1, j2, j3, j4, j5, j6⟩;refine hK.out _ _ ⟨j0, j1, j2, j3, j4, j5, j6⟩ (fun hHeld => ?_);clear hK K
    try simp only [aP, aQ, aA, aB, aC]
    refine wpAnyH_take (i := 6) (oi := ⟨some 12, _, _, _, _, _⟩) (v := ?_) rfl (by kernel_rfl) (by kernel_rfl) (by kernel_rfl) (fun _ _ _ h => h) (Or.inl ⟨by rfl, ?_⟩) (by assumption) ?_
    rotate_left
    ·intro w5 hSw
     (try dsimp only at hSw)
     go_simp
     (try with_reducible rfl)
    try simp only [aP, aQ, aA, aB, aC]
    refine wpAnyH_take (i := 7) (oi := ⟨some 13, _, _, _, _, _⟩) (v := ?_) rfl (by kernel_rfl) (by kernel_rfl) (by kernel_rfl) (fun _ _ _ h => h) (Or.inl ⟨by rfl, ?_⟩) (by assumption) ?_
    rotate_left
    ·intro w5 hSw
     (try dsimp only at hSw)
     go_simp
     (try with_reducible rfl)
    try simp only [aP, aQ, aA, aB, aC]
    refine wpAnyH_take (i := 8) (oi := ⟨some 14, _, _, _, _, _⟩) (v := ?_) rfl (by kernel_rfl) (by kernel_rfl) (by kernel_rfl) (fun _ _ _ h => h) (Or.inl ⟨by rfl, ?_⟩) (by assumption) ?_
    rotate_left
    ·intro w5 hSw
     (try dsimp only at hSw)
     go_simp
     (try with_reducible rfl)
    try simp only [aP, aQ, aA, aB, aC]
    refine wpAnyH_take (i := 9) (oi := ⟨some 15, _, _, _, _, _⟩) (v := ?_) rfl (by kernel_rfl) (by kernel_rfl) (by kernel_rfl) (fun _ _ _ h => h) (Or.inl ⟨by rfl, ?_⟩) (by assumption) ?_
    rotate_left
    ·intro w5 hSw
     (try dsimp only at hSw)
     go_simp
     (try with_reducible rfl)
    try simp only [aP, aQ, aA, aB, aC]
    refine wpAnyH_take (i := 10) (oi := ⟨some 16, _, _, _, _, _⟩) (v := ?_) rfl (by kernel_rfl) (by kernel_rfl) (by kernel_rfl) (fun _ _ _ h => h) (Or.inl ⟨by rfl, ?_⟩) (by assumption) ?_
    rotate_left
    ·intro w5 hSw
     (try dsimp only at hSw)
     go_simp
     (try with_reducible rfl)
    try simp only [aP, aQ, aA, aB, aC]
    refine wpAnyH_take (i := 11) (oi := ⟨some 17, _, _, _, _, _⟩) (v := ?_) rfl (by kernel_rfl) (by kernel_rfl) (by kernel_rfl) (fun _ _ _ h => h) (Or.inl ⟨by rfl, ?_⟩) (by assumption) ?_
    rotate_left
    ·intro w5 hSw
     (try dsimp only at hSw)
     go_simp
     (try with_reducible rfl)
    try simp only [aP, aQ, aA, aB, aC]
    refine wpAnyH_ready (rs := [12]) (by kernel_rfl) (by simp) ?_;refine AllReadyH.cons (o := ⟨some 18, _, _, _, _, _⟩) rfl (fun K hK => ?_) AllReadyH.nil;go_simp
    go_at_call 126
    refine (HC3.out _ HI.out).mono ?_;clear HI;rintro x w1 ⟨rfl, HI, j0, j1, j2, j3, j4, j5, j6⟩;refine hK.out _ _ ⟨j0, j1, j2, j3, j4, j5, j6⟩ (fun hHeld => ?_);clear hK K
    try simp only [aP, aQ, aA, aB, aC]
    refine wpAnyH_take (i := 13) (oi := ⟨some 19, _, _, _, _, _⟩) (v := ?_) rfl (by kernel_rfl) (by kernel_rfl) (by kernel_rfl) (fun _ _ _ h => h) (Or.inl ⟨by rfl, ?_⟩) (by assumption) ?_
    rotate_left
    ·intro w5 hSw
     (try dsimp only at hSw)
     go_simp
     (try with_reducible rfl)
    try simp only [aP, aQ, aA, aB, aC]
    refine wpAnyH_take (i := 14) (oi := ⟨some 20, _, _, _, _, _⟩) (v := ?_) rfl (by kernel_rfl) (by kernel_rfl) (by kernel_rfl) (fun _ _ _ h => h) (Or.inl ⟨by rfl, ?_⟩) (by assumption) ?_
    rotate_left
    ·intro w5 hSw
     (try dsimp only at hSw)
     go_simp
     (try with_reducible rfl)
    try simp only [aP, aQ, aA, aB, aC]
    refine wpAnyH_take (i := 15) (oi := ⟨some 21, _, _, _, _, _⟩) (v := ?_) rfl (by kernel_rfl) (by kernel_rfl) (by kernel_rfl) (fun _ _ _ h => h) (Or.inl ⟨by rfl, ?_⟩) (by assumption) ?_
    rotate_left
    ·intro w5 hSw
     (try dsimp only at hSw)
     go_simp
     (try with_reducible rfl)
    try simp only [aP, aQ, aA, aB, aC]
    refine wpAnyH_done (by kernel_rfl) ?_ _;clear hHeld;obtain ⟨z0, z1, z2, z3, zf⟩ := HI.out.zero;have HP := HI.out.put (.int .i64 0) (.int .i64 0) (.slice none 0 0) (.int .i64 0);obtain ⟨e1, e2⟩ := HP.out;clear HP HI;go_wp2
    revert e1 e2
    generalize (World.setCell _ ⟨w.heap.size + 2, 3, none⟩ _) = W;intro e1 e2;exact bodyPost_ret (v := .tuple #[logV zL (.slice none 0 0), .int .i64 80]) (by simp [results, Tryz.results136, go_sem, cell_at e1, logV, logA, zL]) rfl ⟨_, rfl, own_nil _ _, e2⟩
   ·rw [if_neg ht]
    by_cases h4 : L.l.length = 400
    ·rw [if_pos h4];unfold logV logA entA at *;obtain ⟨bi, bt, l, cm⟩ := L;obtain ⟨et, ek, ex⟩ := e;simp only at HI HC1 HC2 HC3 ht h4 ⊢;have h4b : ((l.length : Int) == 400) = true := by simp [h4]
     clear h hm HC3' HEN hmk he hin hlas hll;have H4 := hideIt h4;clear h4
     go_enter Tryz.func136, Tryz.ntmps136
     go_upto_region 1 with fail
     refine wp_region_held_drew (S := fun w' => w'.cell? ⟨w.heap.size, 0, none⟩ = some (.int .i64 bi) ∧ w'.cell? ⟨w.heap.size, 1, none⟩ = some (.int .i64 bt) ∧ w'.cell? ⟨w.heap.size, 2, none⟩ = some (.slice a l.length c) ∧ w'.cell? ⟨w.heap.size, 3, none⟩ = some (.int .i64 cm) ∧ w'.cell? ⟨w.heap.size + 1, 0, none⟩ = some (.int .i64 et) ∧ w'.cell? ⟨w.heap.size + 1, 1, none⟩ = some (.int .i64 ek) ∧ w'.cell? ⟨w.heap.size + 1, 2, none⟩ = some (.string ex)) (by kernel_rfl) HI.out.cells (fun hHeld => ?_);generalize (((w.alloc (.cells #[.int .i64 bi, .int .i64 bt, .slice a l.length c, .int .i64 cm] 36)).alloc (.cells #[.int .i64 et, .int .i64 ek, .string ex] 55)).alloc (.cells #[.int .i64 0, .int .i64 0, .slice none 0 0, .int .i64 0] 36)).drew = wa at *;refine wpAnyH_take (i := 0) (oi := ⟨some 6, _, _, _, _, _⟩) (v := ?_) rfl (by kernel_rfl) (by kernel_rfl) (by kernel_rfl) (fun _ _ _ h => h) (Or.inl ⟨by rfl, ?_⟩) (by assumption) ?_
     rotate_left
     ·intro w5 hSw
      (try dsimp only at hSw)
      go_simp
      (try with_reducible rfl)
     try simp only [aP, aQ, aA, aB, aC]
     refine wpAnyH_ready (rs := [1]) (by kernel_rfl) (by simp) ?_;refine AllReadyH.cons (o := ⟨some 7, _, _, _, _, _⟩) rfl (fun K hK => ?_) AllReadyH.nil;go_simp
     go_at_call 81
     refine (HC1.out _ HI.out).mono ?_;clear HI;rintro x w1 ⟨rfl, HI, j0, j1, j2, j3, j4, j5, j6⟩;refine hK.out _ _ ⟨j0, j1, j2, j3, j4, j5, j6⟩ (fun hHeld => ?_);clear hK K
     try simp only [aP, aQ, aA, aB, aC]
     refine wpAnyH_take (i := 2) (oi := ⟨some 8, _, _, _, _, _⟩) (v := ?_) rfl (by kernel_rfl) (by kernel_rfl) (by kernel_rfl) (fun _ _ _ h => h) (Or.inl ⟨by rfl, ?_⟩) (by assumption) ?_
     rotate_left
     ·intro w5 hSw
      (try dsimp only at hSw)
      go_simp
      (try with_reducible rfl)
     try simp only [aP, aQ, aA, aB, aC]
     refine wpAnyH_take (i := 3) (oi := ⟨some 9, _, _, _, _, _⟩) (v := ?_) rfl (by kernel_rfl) (by kernel_rfl) (by kernel_rfl) (fun _ _ _ h => h) (Or.inl ⟨by rfl, ?_⟩) (by assumption) ?_
     rotate_left
     ·intro w5 hSw
      (try dsimp only at hSw)
      go_simp
      (try with_reducible rfl)
     try simp only [aP, aQ, aA, aB, aC]
     refine wpAnyH_take (i := 4) (oi := ⟨some 10, _, _, _, _, _⟩) (v := ?_) rfl (by kernel_rfl) (by kernel_rfl) (by kernel_rfl) (fun _ _ _ h => h) (Or.inl ⟨by rfl, ?_⟩) (by assumption) ?_
     rotate_left
     ·intro w5 hSw
      (try dsimp only at hSw)
      go_simp
      (try with_reducible rfl)
     try simp only [aP, aQ, aA, aB, aC]
     refine wpAnyH_ready (rs := [5]) (by kernel_rfl) (by simp) ?_;refine AllReadyH.cons (o := ⟨some 11, _, _, _, _, _⟩) rfl (fun K hK => ?_) AllReadyH.nil;go_simp
     go_at_call 151
     refine (HC2.out _ HI.out).mono ?_;clear HI;rintro x w1 ⟨rfl, HI, j0, j1, j2, j3, j4, j5, j6⟩;refine hK.out _ _ ⟨j0, j1, j2, j3, j4, j5, j6⟩ (fun hHeld => ?_);clear hK K
     try simp only [aP, aQ, aA, aB, aC]
     refine wpAnyH_take (i := 6) (oi := ⟨some 12, _, _, _, _, _⟩) (v := ?_) rfl (by kernel_rfl) (by kernel_rfl) (by kernel_rfl) (fun _ _ _ h => h) (Or.inl ⟨by rfl, ?_⟩) (by assumption) ?_
     rotate_left
     ·intro w5 hSw
      (try dsimp only at hSw)
      go_simp
      (try with_reducible rfl)
     try simp only [aP, aQ, aA, aB, aC]
     refine wpAnyH_take (i := 7) (oi := ⟨some 13, _, _, _, _, _⟩) (v := ?_) rfl (by kernel_rfl) (by kernel_rfl) (by kernel_rfl) (fun _ _ _ h => h) (Or.inl ⟨by rfl, ?_⟩) (by assumption) ?_
     rotate_left
     ·intro w5 hSw
      (try dsimp only at hSw)
      go_simp
      (try with_reducible rfl)
     try simp only [aP, aQ, aA, aB, aC]
     refine wpAnyH_take (i := 8) (oi := ⟨some 14, _, _, _, _, _⟩) (v := ?_) rfl (by kernel_rfl) (by kernel_rfl) (by kernel_rfl) (fun _ _ _ h => h) (Or.inl ⟨by rfl, ?_⟩) (by assumption) ?_
     rotate_left
     ·intro w5 hSw
      (try dsimp only at hSw)
      go_simp
      (try with_reducible rfl)
     try simp only [aP, aQ, aA, aB, aC]
     refine wpAnyH_take (i := 9) (oi := ⟨some 15, _, _, _, _, _⟩) (v := ?_) rfl (by kernel_rfl) (by kernel_rfl) (by kernel_rfl) (fun _ _ _ h => h) (Or.inl ⟨by rfl, ?_⟩) (by assumption) ?_
     rotate_left
     ·intro w5 hSw
      (try dsimp only at hSw)
      go_simp
      (try with_reducible rfl)
     try simp only [aP, aQ, aA, aB, aC]
     refine wpAnyH_take (i := 10) (oi := ⟨some 16, _, _, _, _, _⟩) (v := ?_) rfl (by kernel_rfl) (by kernel_rfl) (by kernel_rfl) (fun _ _ _ h => h) (Or.inl ⟨by rfl, ?_⟩) (by assumption) ?_
     rotate_left
     ·intro w5 hSw
      (try dsimp only at hSw)
      go_simp
      (try with_reducible rfl)
     try simp only [aP, aQ, aA, aB, aC]
     refine wpAnyH_take (i := 11) (oi := ⟨some 17, _, _, _, _, _⟩) (v := ?_) rfl (by kernel_rfl) (by kernel_rfl) (by kernel_rfl) (fun _ _ _ h => h) (Or.inl ⟨by rfl, ?_⟩) (by assumption) ?_
     rotate_left
     ·intro w5 hSw
      (try dsimp only at hSw)
      go_simp
      (try with_reducible rfl)
     try simp only [aP, aQ, aA, aB, aC]
     refine wpAnyH_ready (rs := [12]) (by kernel_rfl) (by simp) ?_;refine AllReadyH.cons (o := ⟨some 18, _, _, _, _, _⟩) rfl (fun K hK => ?_) AllReadyH.nil;go_simp
     go_at_call 126
     refine (HC3.out _ HI.out).mono ?_;clear HI;rintro x w1 ⟨rfl, HI, j0, j1, j2, j3, j4, j5, j6⟩;refine hK.out _ _ ⟨j0, j1, j2, j3, j4, j5, j6⟩ (fun hHeld => ?_);clear hK K
     try simp only [aP, aQ, aA, aB, aC]
     refine wpAnyH_take (i := 13) (oi := ⟨some 19, _, _, _, _, _⟩) (v := ?_) rfl (by kernel_rfl) (by kernel_rfl) (by kernel_rfl) (fun _ _ _ h => h) (Or.inl ⟨by rfl, ?_⟩) (by assumption) ?_
     rotate_left
     ·intro w5 hSw
      (try dsimp only at hSw)
      go_simp
      (try with_reducible rfl)
     try simp only [aP, aQ, aA, aB, aC]
     refine wpAnyH_take (i := 14) (oi := ⟨some 20, _, _, _, _, _⟩) (v := ?_) rfl (by kernel_rfl) (by kernel_rfl) (by kernel_rfl) (fun _ _ _ h => h) (Or.inl ⟨by rfl, ?_⟩) (by assumption) ?_
     rotate_left
     ·intro w5 hSw
      (try dsimp only at hSw)
      go_simp
      (try with_reducible rfl)
     try simp only [aP, aQ, aA, aB, aC]
     refine wpAnyH_take (i := 15) (oi := ⟨some 21, _, _, _, _, _⟩) (v := ?_) rfl (by kernel_rfl) (by kernel_rfl) (by kernel_rfl) (fun _ _ _ h => h) (Or.inl ⟨by rfl, ?_⟩) (by assumption) ?_
     rotate_left
     ·intro w5 hSw
      (try dsimp only at hSw)
      go_simp
      (try with_reducible rfl)
     try simp only [aP, aQ, aA, aB, aC]
     refine wpAnyH_done (by kernel_rfl) ?_ _;clear hHeld;obtain ⟨j0, j1, j2, j3, j4, j5, j6⟩ := HI.out.cells;simp only at j0 j1 j2 j3 j4 j5 j6;obtain ⟨z0, z1, z2, z3, zf⟩ := HI.out.zero;have HP := HI.out.put (.int .i64 0) (.int .i64 0) (.slice none 0 0) (.int .i64 0);obtain ⟨e1, e2⟩ := HP.out;clear HP HI;go_wp2
     revert e1 e2
     generalize (World.setCell _ ⟨w.heap.size + 2, 3, none⟩ _) = W;intro e1 e2;exact bodyPost_ret (v := .tuple #[logV zL (.slice none 0 0), .int .i64 2]) (by simp [results, Tryz.results136, go_sem, cell_at e1, logV, logA, zL]) rfl ⟨_, rfl, own_nil _ _, e2⟩
    ·rw [if_neg h4];have h4b : ((L.l.length : Int) == 400) = false := beq_eq_false_iff_ne.2 (by omega)
     by_cases h5 : lasI L = 1000000
     ·rw [if_pos h5];rw [h5] at HEN;unfold logV logA entA at *;obtain ⟨bi, bt, l, cm⟩ := L;obtain ⟨et, ek, ex⟩ := e;simp only at HI HC1 HC2 HC3 HEN ht h4b ⊢;clear h hm HC3' hmk he hin hlas h4 h5
      go_enter Tryz.func136, Tryz.ntmps136
      go_upto_region 1 with fail
      refine wp_region_held_drew (S := fun w' => w'.cell? ⟨w.heap.size, 0, none⟩ = some (.int .i64 bi) ∧ w'.cell? ⟨w.heap.size, 1, none⟩ = some (.int .i64 bt) ∧ w'.cell? ⟨w.heap.size, 2, none⟩ = some (.slice a l.length c) ∧ w'.cell? ⟨w.heap.size, 3, none⟩ = some (.int .i64 cm) ∧ w'.cell? ⟨w.heap.size + 1, 0, none⟩ = some (.int .i64 et) ∧ w'.cell? ⟨w.heap.size + 1, 1, none⟩ = some (.int .i64 ek) ∧ w'.cell? ⟨w.heap.size + 1, 2, none⟩ = some (.string ex)) (by kernel_rfl) HI.out.cells (fun hHeld => ?_);generalize (((w.alloc (.cells #[.int .i64 bi, .int .i64 bt, .slice a l.length c, .int .i64 cm] 36)).alloc (.cells #[.int .i64 et, .int .i64 ek, .string ex] 55)).alloc (.cells #[.int .i64 0, .int .i64 0, .slice none 0 0, .int .i64 0] 36)).drew = wa at *;refine wpAnyH_take (i := 0) (oi := ⟨some 6, _, _, _, _, _⟩) (v := ?_) rfl (by kernel_rfl) (by kernel_rfl) (by kernel_rfl) (fun _ _ _ h => h) (Or.inl ⟨by rfl, ?_⟩) (by assumption) ?_
      rotate_left
      ·intro w5 hSw
       (try dsimp only at hSw)
       go_simp
       (try with_reducible rfl)
      try simp only [aP, aQ, aA, aB, aC]
      refine wpAnyH_ready (rs := [1]) (by kernel_rfl) (by simp) ?_;refine AllReadyH.cons (o := ⟨some 7, _, _, _, _, _⟩) rfl (fun K hK => ?_) AllReadyH.nil;go_simp
      go_at_call 81
      refine (HC1.out _ HI.out).mono ?_;clear HI;rintro x w1 ⟨rfl, HI, j0, j1, j2, j3, j4, j5, j6⟩;refine hK.out _ _ ⟨j0, j1, j2, j3, j4, j5, j6⟩ (fun hHeld => ?_);clear hK K
      try simp only [aP, aQ, aA, aB, aC]
      refine wpAnyH_take (i := 2) (oi := ⟨some 8, _, _, _, _, _⟩) (v := ?_) rfl (by kernel_rfl) (by kernel_rfl) (by kernel_rfl) (fun _ _ _ h => h) (Or.inl ⟨by rfl, ?_⟩) (by assumption) ?_
      rotate_left
      ·intro w5 hSw
       (try dsimp only at hSw)
       go_simp
       (try with_reducible rfl)
      try simp only [aP, aQ, aA, aB, aC]
      refine wpAnyH_take (i := 3) (oi := ⟨some 9, _, _, _, _, _⟩) (v := ?_) rfl (by kernel_rfl) (by kernel_rfl) (by kernel_rfl) (fun _ _ _ h => h) (Or.inl ⟨by rfl, ?_⟩) (by assumption) ?_
      rotate_left
      ·intro w5 hSw
       (try dsimp only at hSw)
       go_simp
       (try with_reducible rfl)
      try simp only [aP, aQ, aA, aB, aC]
      refine wpAnyH_take (i := 4) (oi := ⟨some 10, _, _, _, _, _⟩) (v := ?_) rfl (by kernel_rfl) (by kernel_rfl) (by kernel_rfl) (fun _ _ _ h => h) (Or.inl ⟨by rfl, ?_⟩) (by assumption) ?_
      rotate_left
      ·intro w5 hSw
       (try dsimp only at hSw)
       go_simp
       (try with_reducible rfl)
      try simp only [aP, aQ, aA, aB, aC]
      refine wpAnyH_ready (rs := [5]) (by kernel_rfl) (by simp) ?_;refine AllReadyH.cons (o := ⟨some 11, _, _, _, _, _⟩) rfl (fun K hK => ?_) AllReadyH.nil;go_simp
      go_at_call 151
      refine (HC2.out _ HI.out).mono ?_;clear HI;rintro x w1 ⟨rfl, HI, j0, j1, j2, j3, j4, j5, j6⟩;refine hK.out _ _ ⟨j0, j1, j2, j3, j4, j5, j6⟩ (fun hHeld => ?_);clear hK K
      try simp only [aP, aQ, aA, aB, aC]
      refine wpAnyH_take (i := 6) (oi := ⟨some 12, _, _, _, _, _⟩) (v := ?_) rfl (by kernel_rfl) (by kernel_rfl) (by kernel_rfl) (fun _ _ _ h => h) (Or.inl ⟨by rfl, ?_⟩) (by assumption) ?_
      rotate_left
      ·intro w5 hSw
       (try dsimp only at hSw)
       go_simp
       (try with_reducible rfl)
      try simp only [aP, aQ, aA, aB, aC]
      refine wpAnyH_take (i := 7) (oi := ⟨some 13, _, _, _, _, _⟩) (v := ?_) rfl (by kernel_rfl) (by kernel_rfl) (by kernel_rfl) (fun _ _ _ h => h) (Or.inl ⟨by rfl, ?_⟩) (by assumption) ?_
      rotate_left
      ·intro w5 hSw
       (try dsimp only at hSw)
       go_simp
       (try with_reducible rfl)
      try simp only [aP, aQ, aA, aB, aC]
      refine wpAnyH_take (i := 8) (oi := ⟨some 14, _, _, _, _, _⟩) (v := ?_) rfl (by kernel_rfl) (by kernel_rfl) (by kernel_rfl) (fun _ _ _ h => h) (Or.inl ⟨by rfl, ?_⟩) (by assumption) ?_
      rotate_left
      ·intro w5 hSw
       (try dsimp only at hSw)
       go_simp
       (try with_reducible rfl)
      try simp only [aP, aQ, aA, aB, aC]
      refine wpAnyH_take (i := 9) (oi := ⟨some 15, _, _, _, _, _⟩) (v := ?_) rfl (by kernel_rfl) (by kernel_rfl) (by kernel_rfl) (fun _ _ _ h => h) (Or.inl ⟨by rfl, ?_⟩) (by assumption) ?_
      rotate_left
      ·intro w5 hSw
       (try dsimp only at hSw)
       go_simp
       (try with_reducible rfl)
      try simp only [aP, aQ, aA, aB, aC]
      refine wpAnyH_take (i := 10) (oi := ⟨some 16, _, _, _, _, _⟩) (v := ?_) rfl (by kernel_rfl) (by kernel_rfl) (by kernel_rfl) (fun _ _ _ h => h) (Or.inl ⟨by rfl, ?_⟩) (by assumption) ?_
      rotate_left
      ·intro w5 hSw
       (try dsimp only at hSw)
       go_simp
       (try with_reducible rfl)
      try simp only [aP, aQ, aA, aB, aC]
      refine wpAnyH_take (i := 11) (oi := ⟨some 17, _, _, _, _, _⟩) (v := ?_) rfl (by kernel_rfl) (by kernel_rfl) (by kernel_rfl) (fun _ _ _ h => h) (Or.inl ⟨by rfl, ?_⟩) (by assumption) ?_
      rotate_left
      ·intro w5 hSw
       (try dsimp only at hSw)
       go_simp
       (try with_reducible rfl)
      try simp only [aP, aQ, aA, aB, aC]
      refine wpAnyH_ready (rs := [12]) (by kernel_rfl) (by simp) ?_;refine AllReadyH.cons (o := ⟨some 18, _, _, _, _, _⟩) rfl (fun K hK => ?_) AllReadyH.nil;go_simp
      go_at_call 126
      refine (HC3.out _ HI.out).mono ?_;clear HI;rintro x w1 ⟨rfl, HI, j0, j1, j2, j3, j4, j5, j6⟩;refine hK.out _ _ ⟨j0, j1, j2, j3, j4, j5, j6⟩ (fun hHeld => ?_);clear hK K
      try simp only [aP, aQ, aA, aB, aC]
      refine wpAnyH_take (i := 13) (oi := ⟨some 19, _, _, _, _, _⟩) (v := ?_) rfl (by kernel_rfl) (by kernel_rfl) (by kernel_rfl) (fun _ _ _ h => h) (Or.inl ⟨by rfl, ?_⟩) (by assumption) ?_
      rotate_left
      ·intro w5 hSw
       (try dsimp only at hSw)
       go_simp
       (try with_reducible rfl)
      try simp only [aP, aQ, aA, aB, aC]
      refine wpAnyH_take (i := 14) (oi := ⟨some 20, _, _, _, _, _⟩) (v := ?_) rfl (by kernel_rfl) (by kernel_rfl) (by kernel_rfl) (fun _ _ _ h => h) (Or.inl ⟨by rfl, ?_⟩) (by assumption) ?_
      rotate_left
      ·intro w5 hSw
       (try dsimp only at hSw)
       go_simp
       (try with_reducible rfl)
      try simp only [aP, aQ, aA, aB, aC]
      refine wpAnyH_take (i := 15) (oi := ⟨some 21, _, _, _, _, _⟩) (v := ?_) rfl (by kernel_rfl) (by kernel_rfl) (by kernel_rfl) (fun _ _ _ h => h) (Or.inl ⟨by rfl, ?_⟩) (by assumption) ?_
      rotate_left
      ·intro w5 hSw
       (try dsimp only at hSw)
       go_simp
       (try with_reducible rfl)
      try simp only [aP, aQ, aA, aB, aC]
      refine wpAnyH_done (by kernel_rfl) ?_ _;clear hHeld;obtain ⟨j0, j1, j2, j3, j4, j5, j6⟩ := HI.out.cells;simp only at j0 j1 j2 j3 j4 j5 j6
      go_wp2_with fail
      refine (HEN.out _ HI.out.bel).mono ?_;rintro e w2 ⟨rfl, rfl⟩;dsimp only;replace HI := hideIt (HI.out.keep (below1 w1 (.cells #[.int .i64 bi, .int .i64 bt, .slice a l.length c, .int .i64 cm] 36)));clear j0 j1 j2 j3 j4 j5 j6;generalize w1.alloc (.cells #[.int .i64 bi, .int .i64 bt, .slice a l.length c, .int .i64 cm] 36) = w2 at *;obtain ⟨z0, z1, z2, z3, zf⟩ := HI.out.zero;have HP := HI.out.put (.int .i64 0) (.int .i64 0) (.slice none 0 0) (.int .i64 0);obtain ⟨e1, e2⟩ := HP.out;clear HP HI;go_wp2
      revert e1 e2
      generalize (World.setCell _ ⟨w.heap.size + 2, 3, none⟩ _) = W;intro e1 e2;exact bodyPost_ret (v := .tuple #[logV zL (.slice none 0 0), .int .i64 2]) (by simp [results, Tryz.results136, go_sem, cell_at e1, logV, logA, zL]) rfl ⟨_, rfl, own_nil _ _, e2⟩
     ·rw [if_neg h5];have h5b : (lasI L == 1000000) = false := beq_eq_false_iff_ne.2 h5;generalize lasI L = li at *;unfold logV logA at *;obtain ⟨bi, bt, l, cm⟩ := L;have hen := hideIt he;obtain ⟨et, ek, ex⟩ := e;unfold entA at *;simp only at HI HC1 HC2 HC3 HEN HOK ht h4b ⊢;clear h hm HC3' hmk he hin hlas h4 h5 hen;obtain ⟨D, hD⟩ : ∃ D, D = l ++ [⟨et, ek, ex⟩] := ⟨_, rfl⟩;rw [← hD];have HDD := hideIt hD;clear hD
      go_enter Tryz.func136, Tryz.ntmps136
      go_upto_region 1 with fail
      refine wp_region_held_drew (S := fun w' => w'.cell? ⟨w.heap.size, 0, none⟩ = some (.int .i64 bi) ∧ w'.cell? ⟨w.heap.size, 1, none⟩ = some (.int .i64 bt) ∧ w'.cell? ⟨w.heap.size, 2, none⟩ = some (.slice a l.length c) ∧ w'.cell? ⟨w.heap.size, 3, none⟩ = some (.int .i64 cm) ∧ w'.cell? ⟨w.heap.size + 1, 0, none⟩ = some (.int .i64 et) ∧ w'.cell? ⟨w.heap.size + 1, 1, none⟩ = some (.int .i64 ek) ∧ w'.cell? ⟨w.heap.size + 1, 2, none⟩ = some (.string ex)) (by kernel_rfl) HI.out.cells (fun hHeld => ?_);generalize (((w.alloc (.cells #[.int .i64 bi, .int .i64 bt, .slice a l.length c, .int .i64 cm] 36)).alloc (.cells #[.int .i64 et, .int .i64 ek, .string ex] 55)).alloc (.cells #[.int .i64 0, .int .i64 0, .slice none 0 0, .int .i64 0] 36)).drew = wa at *;refine wpAnyH_take (i := 0) (oi := ⟨some 6, _, _, _, _, _⟩) (v := ?_) rfl (by kernel_rfl) (by kernel_rfl) (by kernel_rfl) (fun _ _ _ h => h) (Or.inl ⟨by rfl, ?_⟩) (by assumption) ?_
      rotate_left
      ·intro w5 hSw
       (try dsimp only at hSw)
       go_simp
       (try with_reducible rfl)
      try simp only [aP, aQ, aA, aB, aC]
      refine wpAnyH_ready (rs := [1]) (by kernel_rfl) (by simp) ?_;refine AllReadyH.cons (o := ⟨some 7, _, _, _, _, _⟩) rfl (fun K hK => ?_) AllReadyH.nil;go_simp
      go_at_call 81
      refine (HC1.out _ HI.out).mono ?_;clear HI;rintro x w1 ⟨rfl, HI, j0, j1, j2, j3, j4, j5, j6⟩;refine hK.out _ _ ⟨j0, j1, j2, j3, j4, j5, j6⟩ (fun hHeld => ?_);clear hK K
      try simp only [aP, aQ, aA, aB, aC]
      refine wpAnyH_take (i := 2) (oi := ⟨some 8, _, _, _, _, _⟩) (v := ?_) rfl (by kernel_rfl) (by kernel_rfl) (by kernel_rfl) (fun _ _ _ h => h) (Or.inl ⟨by rfl, ?_⟩) (by assumption) ?_
      rotate_left
      ·intro w5 hSw
       (try dsimp only at hSw)
       go_simp
       (try with_reducible rfl)
      try simp only [aP, aQ, aA, aB, aC]
      refine wpAnyH_take (i := 3) (oi := ⟨some 9, _, _, _, _, _⟩) (v := ?_) rfl (by kernel_rfl) (by kernel_rfl) (by kernel_rfl) (fun _ _ _ h => h) (Or.inl ⟨by rfl, ?_⟩) (by assumption) ?_
      rotate_left
      ·intro w5 hSw
       (try dsimp only at hSw)
       go_simp
       (try with_reducible rfl)
      try simp only [aP, aQ, aA, aB, aC]
      refine wpAnyH_take (i := 4) (oi := ⟨some 10, _, _, _, _, _⟩) (v := ?_) rfl (by kernel_rfl) (by kernel_rfl) (by kernel_rfl) (fun _ _ _ h => h) (Or.inl ⟨by rfl, ?_⟩) (by assumption) ?_
      rotate_left
      ·intro w5 hSw
       (try dsimp only at hSw)
       go_simp
       (try with_reducible rfl)
      try simp only [aP, aQ, aA, aB, aC]
      refine wpAnyH_ready (rs := [5]) (by kernel_rfl) (by simp) ?_;refine AllReadyH.cons (o := ⟨some 11, _, _, _, _, _⟩) rfl (fun K hK => ?_) AllReadyH.nil;go_simp
      go_at_call 151
      refine (HC2.out _ HI.out).mono ?_;clear HI;rintro x w1 ⟨rfl, HI, j0, j1, j2, j3, j4, j5, j6⟩;refine hK.out _ _ ⟨j0, j1, j2, j3, j4, j5, j6⟩ (fun hHeld => ?_);clear hK K
      try simp only [aP, aQ, aA, aB, aC]
      refine wpAnyH_take (i := 6) (oi := ⟨some 12, _, _, _, _, _⟩) (v := ?_) rfl (by kernel_rfl) (by kernel_rfl) (by kernel_rfl) (fun _ _ _ h => h) (Or.inl ⟨by rfl, ?_⟩) (by assumption) ?_
      rotate_left
      ·intro w5 hSw
       (try dsimp only at hSw)
       go_simp
       (try with_reducible rfl)
      try simp only [aP, aQ, aA, aB, aC]
      refine wpAnyH_take (i := 7) (oi := ⟨some 13, _, _, _, _, _⟩) (v := ?_) rfl (by kernel_rfl) (by kernel_rfl) (by kernel_rfl) (fun _ _ _ h => h) (Or.inl ⟨by rfl, ?_⟩) (by assumption) ?_
      rotate_left
      ·intro w5 hSw
       (try dsimp only at hSw)
       go_simp
       (try with_reducible rfl)
      try simp only [aP, aQ, aA, aB, aC]
      refine wpAnyH_take (i := 8) (oi := ⟨some 14, _, _, _, _, _⟩) (v := ?_) rfl (by kernel_rfl) (by kernel_rfl) (by kernel_rfl) (fun _ _ _ h => h) (Or.inl ⟨by rfl, ?_⟩) (by assumption) ?_
      rotate_left
      ·intro w5 hSw
       (try dsimp only at hSw)
       go_simp
       (try with_reducible rfl)
      try simp only [aP, aQ, aA, aB, aC]
      refine wpAnyH_take (i := 9) (oi := ⟨some 15, _, _, _, _, _⟩) (v := ?_) rfl (by kernel_rfl) (by kernel_rfl) (by kernel_rfl) (fun _ _ _ h => h) (Or.inl ⟨by rfl, ?_⟩) (by assumption) ?_
      rotate_left
      ·intro w5 hSw
       (try dsimp only at hSw)
       go_simp
       (try with_reducible rfl)
      try simp only [aP, aQ, aA, aB, aC]
      refine wpAnyH_take (i := 10) (oi := ⟨some 16, _, _, _, _, _⟩) (v := ?_) rfl (by kernel_rfl) (by kernel_rfl) (by kernel_rfl) (fun _ _ _ h => h) (Or.inl ⟨by rfl, ?_⟩) (by assumption) ?_
      rotate_left
      ·intro w5 hSw
       (try dsimp only at hSw)
       go_simp
       (try with_reducible rfl)
      try simp only [aP, aQ, aA, aB, aC]
      refine wpAnyH_take (i := 11) (oi := ⟨some 17, _, _, _, _, _⟩) (v := ?_) rfl (by kernel_rfl) (by kernel_rfl) (by kernel_rfl) (fun _ _ _ h => h) (Or.inl ⟨by rfl, ?_⟩) (by assumption) ?_
      rotate_left
      ·intro w5 hSw
       (try dsimp only at hSw)
       go_simp
       (try with_reducible rfl)
      try simp only [aP, aQ, aA, aB, aC]
      refine wpAnyH_ready (rs := [12]) (by kernel_rfl) (by simp) ?_;refine AllReadyH.cons (o := ⟨some 18, _, _, _, _, _⟩) rfl (fun K hK => ?_) AllReadyH.nil;go_simp
      go_at_call 126
      refine (HC3.out _ HI.out).mono ?_;clear HI;rintro x w1 ⟨rfl, HI, j0, j1, j2, j3, j4, j5, j6⟩;refine hK.out _ _ ⟨j0, j1, j2, j3, j4, j5, j6⟩ (fun hHeld => ?_);clear hK K
      try simp only [aP, aQ, aA, aB, aC]
      refine wpAnyH_take (i := 13) (oi := ⟨some 19, _, _, _, _, _⟩) (v := ?_) rfl (by kernel_rfl) (by kernel_rfl) (by kernel_rfl) (fun _ _ _ h => h) (Or.inl ⟨by rfl, ?_⟩) (by assumption) ?_
      rotate_left
      ·intro w5 hSw
       (try dsimp only at hSw)
       go_simp
       (try with_reducible rfl)
      try simp only [aP, aQ, aA, aB, aC]
      refine wpAnyH_take (i := 14) (oi := ⟨some 20, _, _, _, _, _⟩) (v := ?_) rfl (by kernel_rfl) (by kernel_rfl) (by kernel_rfl) (fun _ _ _ h => h) (Or.inl ⟨by rfl, ?_⟩) (by assumption) ?_
      rotate_left
      ·intro w5 hSw
       (try dsimp only at hSw)
       go_simp
       (try with_reducible rfl)
      try simp only [aP, aQ, aA, aB, aC]
      refine wpAnyH_take (i := 15) (oi := ⟨some 21, _, _, _, _, _⟩) (v := ?_) rfl (by kernel_rfl) (by kernel_rfl) (by kernel_rfl) (fun _ _ _ h => h) (Or.inl ⟨by rfl, ?_⟩) (by assumption) ?_
      rotate_left
      ·intro w5 hSw
       (try dsimp only at hSw)
       go_simp
       (try with_reducible rfl)
      try simp only [aP, aQ, aA, aB, aC]
      refine wpAnyH_done (by kernel_rfl) ?_ _;clear hHeld HC1 HC2 HC3 nf;obtain ⟨j0, j1, j2, j3, j4, j5, j6⟩ := HI.out.cells;simp only at j0 j1 j2 j3 j4 j5 j6
      go_wp2_with fail
      refine (HEN.out _ HI.out.bel).mono ?_;rintro e w2 ⟨rfl, rfl⟩;dsimp only;replace HI := hideIt (HI.out.keep (below1 w1 (.cells #[.int .i64 bi, .int .i64 bt, .slice a l.length c, .int .i64 cm] 36)));clear j0 j1 j2 j3 j4 j5 j6 HEN;generalize w1.alloc (.cells #[.int .i64 bi, .int .i64 bt, .slice a l.length c, .int .i64 cm] 36) = w2 at *;obtain ⟨j0, j1, j2, j3, j4, j5, j6⟩ := HI.out.cells;simp only at j0 j1 j2 j3 j4 j5 j6
      go_wp2_with fail
      refine (HOK.out _ HI.out.bel).mono ?_;rintro e w5 ⟨r, rfl, ho, hbl⟩;dsimp only;rw [← HDD.out] at ho;have T5 := hideIt (HI.out.keep (below_via (below2 w2 _ _) hbl));obtain ⟨ra, rc, rfl⟩ := own_len ho;have T6 := hideIt (T5.out.setL D (.slice ra D.length rc));have HO := hideIt (own_base ho (show w.heap.size + 3 ≤ _ from by have := HI.out.size; omega))
      clear ho hbl HI HOK j0 j1 j2 j3 j4 j5 j6;obtain ⟨j0, j1, j2, j3, j4, j5, j6⟩ := T5.out.cells;have ff := T5.out.free;simp only at j0 j1 j2 j3 j4 j5 j6;have HP := T6.out.put (.int .i64 bi) (.int .i64 bt) (.slice ra D.length rc) (.int .i64 cm);obtain ⟨z0, z1, z2, z3, zf⟩ := T6.out.zero;obtain ⟨e1, e2⟩ := HP.out;have e3 := (own4 (R := w.heap.size + 2) (.int .i64 bi) (.int .i64 bt) (.slice ra D.length rc) (.int .i64 cm) (ownSet (b := w.heap.size) (j := 2) (.slice ra D.length rc) HO.out (by omega)) (by omega) w.heap.size (by omega)).out;clear HP HO;go_wp2
      revert e1 e2 e3
      generalize (World.setCell _ ⟨w.heap.size + 2, 3, none⟩ _) = W;intro e1 e2 e3;exact bodyPost_ret (v := .tuple #[logV ⟨bi, bt, D, cm⟩ (.slice ra D.length rc), .int .i64 0]) (by simp [results, Tryz.results136, go_sem, cell_at e1, logV, logA]) rfl ⟨_, rfl, e3, e2⟩
end Go.Proofs.YtcaehfkfohianaaGreat
