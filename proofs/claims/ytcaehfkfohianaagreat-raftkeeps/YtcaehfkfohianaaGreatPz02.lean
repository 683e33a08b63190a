/- Texts of my own, laid together. -/
import Derived.Test.YtcaehfkfohianaaGreatPz01
set_option linter.all false
namespace Go.Proofs.YtcaehfkfohianaaGreat.Tm
open Go.RowKit
structure Four (w : World) (b : Bal) (g : Value) (qf qt qi qm li lm : Int) (wx : World) : Prop where
 box : wx.heap[w.heap.size]? = some (.cells #[.int .i64 b.t, .int .i64 b.v, .int .i64 b.r, g] 34 (0, 0))
 q : wx.heap[w.heap.size + 1]? = some (.cells #[.int .i64 qf, .int .i64 qt, .int .i64 qi, .int .i64 qm] 116 (0, 0))
 last : wx.heap[w.heap.size + 2]? = some (.cells #[.int .i64 li, .int .i64 lm] 25 (0, 0))
 res : wx.heap[w.heap.size + 3]? = some (.cells #[.int .i64 0, .int .i64 0, .int .i64 0, .slice none 0 0] 34 (0, 0))
 bel : Below w.heap.size w wx
theorem Four.size {w wx : World} {b : Bal} {g : Value} {qf qt qi qm li lm : Int} (h : Four w b g qf qt qi qm li lm wx) : w.heap.size + 4 ≤ wx.heap.size := (Array.getElem?_eq_some_iff.1 h.res).1
theorem Four.start (w : World) (b : Bal) (g : Value) (qf qt qi qm li lm : Int) : Four w b g qf qt qi qm li lm ((((w.alloc (.cells #[.int .i64 b.t, .int .i64 b.v, .int .i64 b.r, g] 34)).alloc (.cells #[.int .i64 qf, .int .i64 qt, .int .i64 qi, .int .i64 qm] 116)).alloc (.cells #[.int .i64 li, .int .i64 lm] 25)).alloc (.cells #[.int .i64 0, .int .i64 0, .int .i64 0, .slice none 0 0] 34)) := by
 have ht := two_heap w (.cells #[.int .i64 b.t, .int .i64 b.v, .int .i64 b.r, g] 34) (.cells #[.int .i64 qf, .int .i64 qt, .int .i64 qi, .int .i64 qm] 116);have hu := two_heap ((w.alloc (.cells #[.int .i64 b.t, .int .i64 b.v, .int .i64 b.r, g] 34)).alloc (.cells #[.int .i64 qf, .int .i64 qt, .int .i64 qi, .int .i64 qm] 116)) (.cells #[.int .i64 li, .int .i64 lm] 25) (.cells #[.int .i64 0, .int .i64 0, .int .i64 0, .slice none 0 0] 34);have hb := below2 ((w.alloc (.cells #[.int .i64 b.t, .int .i64 b.v, .int .i64 b.r, g] 34)).alloc (.cells #[.int .i64 qf, .int .i64 qt, .int .i64 qi, .int .i64 qm] 116)) (.cells #[.int .i64 li, .int .i64 lm] 25) (.cells #[.int .i64 0, .int .i64 0, .int .i64 0, .slice none 0 0] 34);rw [ht.2.2] at hu hb
 exact ⟨(hb.block _ (by omega)).trans ht.1, (hb.block _ (by omega)).trans ht.2.1, hu.1, hu.2.1, (below2 w _ _).trans ⟨hb.os, hb.tape, hb.output, hb.size, fun i hi => hb.block i (by omega)⟩⟩
theorem Four.keep {w wx wy : World} {b : Bal} {g : Value} {qf qt qi qm li lm : Int} (h : Four w b g qf qt qi qm li lm wx) (hb : Below wx.heap.size wx wy) : Four w b g qf qt qi qm li lm wy := by
 have hs := h.size
 exact ⟨(hb.block _ (by omega)).trans h.box, (hb.block _ (by omega)).trans h.q, (hb.block _ (by omega)).trans h.last, (hb.block _ (by omega)).trans h.res, below_via h.bel hb⟩
def askB (qf qt qi qm li lm : Int) : Bool := wiB qf 1 7 && wiB qt 1 1000000 && mkB qi qm && mkB li lm
def grantC (c : Bal) (qf qt qi qm li lm : Int) : Bool := freeB c.t c.v c.r qf qt && !lessB qi qm li lm
def grantL (b : Bal) (qf qt qi qm li lm : Int) : Bal × Bool × Int :=
 if mayB b = false then (zB, false, 70) else if askB qf qt qi qm li lm = false then (zB, false, 1)
 else if grantC (hearL b qt) qf qt qi qm li lm = true then (⟨(hearL b qt).t, qf, (hearL b qt).r, (hearL b qt).l⟩, true, 0) else (hearL b qt, false, 0)
def BalOk (B : Nat) (w : World) (x : Bal × Bool × Int) (e : Ending) (w' : World) : Prop := ∃ g, e = .returned (.tuple #[balV x.1 g, .bool x.2.1, .int .i64 x.2.2]) ∧ w'.ownsRow B 3 1 g x.1.l.length (x.1.l.map iv) ∧ Below B w w'
set_option maxHeartbeats 8000000 in
set_option maxRecDepth 100000 in
theorem grant_is (b : Bal) (g : Value) (qf qt qi qm li lm : Int) (w : World) (h : GotAt w g b.l) : Calls Tryz.prog 162 #[balV b g, .agg #[.int .i64 qf, .int .i64 qt, .int .i64 qi, .int .i64 qm], .agg #[.int .i64 li, .int .i64 lm]] w (BalOk w.heap.size w (grantL b qf qt qi qm li lm)) := by
 have F0 := hideIt (Four.start w b g qf qt qi qm li lm);have HM := hideIt (mayBe_is b g _ (h.keep F0.out.bel));have N1 := hideIt (fun W => isNode_is qf W);have N2 := hideIt (fun W => isTerm_is qt W);have N3 := hideIt (fun W => isMark_is qi qm W);have N4 := hideIt (fun W => isMark_is li lm W);have HH := hideIt (fun W hW => hearing_is b g qt W (h.keep hW));have HL := hideIt (fun W => less_is qi qm li lm W);clear h;obtain ⟨A, hA⟩ : ∃ A, grantL b qf qt qi qm li lm = A := ⟨_, rfl⟩;rw [hA];unfold grantL at hA;generalize hearL b qt = V at *;obtain ⟨t, v, r, l⟩ := b;unfold balV at HM HH ⊢;simp only at hA F0 HM HH ⊢;cases hm : mayB ⟨t, v, r, l⟩
 ·rw [hm] at HM hA;rw [if_pos rfl] at hA;subst hA
  go_enter Tryz.func162, Tryz.ntmps162
  go_wp2_with fail
  refine HM.out.mono ?_;rintro e w1 ⟨rfl, hb⟩;dsimp only;have F1 := hideIt (F0.out.keep hb);clear hb F0 HM;have bc0 : w1.cell? ⟨w.heap.size, 0, none⟩ = some (.int .i64 t) := by rw [cell_at F1.out.box]; rfl
  have bc1 : w1.cell? ⟨w.heap.size, 1, none⟩ = some (.int .i64 v) := by rw [cell_at F1.out.box]; rfl
  have bc2 : w1.cell? ⟨w.heap.size, 2, none⟩ = some (.int .i64 r) := by rw [cell_at F1.out.box]; rfl
  have bc3 : w1.cell? ⟨w.heap.size, 3, none⟩ = some (g) := by rw [cell_at F1.out.box]; rfl
  have bf : ∀ j, w1.frozen? ⟨w.heap.size, j, none⟩ = false := fun j => free_at F1.out.box j
  have kc0 : w1.cell? ⟨w.heap.size + 1, 0, none⟩ = some (.int .i64 qf) := by rw [cell_at F1.out.q]; rfl
  have kc1 : w1.cell? ⟨w.heap.size + 1, 1, none⟩ = some (.int .i64 qt) := by rw [cell_at F1.out.q]; rfl
  have kc2 : w1.cell? ⟨w.heap.size + 1, 2, none⟩ = some (.int .i64 qi) := by rw [cell_at F1.out.q]; rfl
  have kc3 : w1.cell? ⟨w.heap.size + 1, 3, none⟩ = some (.int .i64 qm) := by rw [cell_at F1.out.q]; rfl
  have kf : ∀ j, w1.frozen? ⟨w.heap.size + 1, j, none⟩ = false := fun j => free_at F1.out.q j
  have lc0 : w1.cell? ⟨w.heap.size + 2, 0, none⟩ = some (.int .i64 li) := by rw [cell_at F1.out.last]; rfl
  have lc1 : w1.cell? ⟨w.heap.size + 2, 1, none⟩ = some (.int .i64 lm) := by rw [cell_at F1.out.last]; rfl
  have zc0 : w1.cell? ⟨w.heap.size + 3, 0, none⟩ = some (.int .i64 0) := by rw [cell_at F1.out.res]; rfl
  have zc1 : w1.cell? ⟨w.heap.size + 3, 1, none⟩ = some (.int .i64 0) := by rw [cell_at F1.out.res]; rfl
  have zc2 : w1.cell? ⟨w.heap.size + 3, 2, none⟩ = some (.int .i64 0) := by rw [cell_at F1.out.res]; rfl
  have zc3 : w1.cell? ⟨w.heap.size + 3, 3, none⟩ = some (.slice none 0 0) := by rw [cell_at F1.out.res]; rfl
  have zf : ∀ j, w1.frozen? ⟨w.heap.size + 3, j, none⟩ = false := fun j => free_at F1.out.res j
  have HF := fin4 (w := w) (.int .i64 0) (.int .i64 0) (.int .i64 0) (.slice none 0 0) F1.out.res (by omega) F1.out.bel;clear F1;go_wp2;obtain ⟨e1, e2⟩ := HF.out
  revert e1 e2
  generalize (World.setCell _ ⟨w.heap.size + 3, 3, none⟩ _) = W;intro e1 e2;exact bodyPost_ret (v := .tuple #[balV zB (.slice none 0 0), .bool false, .int .i64 70]) (by simp [results, Tryz.results162, go_sem, cell_at e1, balV, zB]) rfl ⟨_, rfl, ⟨rfl, .inl ⟨rfl, rfl⟩⟩, e2⟩
 ·rw [hm] at HM hA;rw [if_neg (by simp)] at hA;clear hm;unfold askB at hA;cases h1 : wiB qf 1 7
  ·rw [h1] at N1 hA;rw [if_pos (by simp)] at hA;subst hA
   go_enter Tryz.func162, Tryz.ntmps162
   go_wp2_with fail
   refine HM.out.mono ?_;rintro e w1 ⟨rfl, hb⟩;dsimp only;have F1 := hideIt (F0.out.keep hb);clear hb F0 HM;have bc0 : w1.cell? ⟨w.heap.size, 0, none⟩ = some (.int .i64 t) := by rw [cell_at F1.out.box]; rfl
   have bc1 : w1.cell? ⟨w.heap.size, 1, none⟩ = some (.int .i64 v) := by rw [cell_at F1.out.box]; rfl
   have bc2 : w1.cell? ⟨w.heap.size, 2, none⟩ = some (.int .i64 r) := by rw [cell_at F1.out.box]; rfl
   have bc3 : w1.cell? ⟨w.heap.size, 3, none⟩ = some (g) := by rw [cell_at F1.out.box]; rfl
   have bf : ∀ j, w1.frozen? ⟨w.heap.size, j, none⟩ = false := fun j => free_at F1.out.box j
   have kc0 : w1.cell? ⟨w.heap.size + 1, 0, none⟩ = some (.int .i64 qf) := by rw [cell_at F1.out.q]; rfl
   have kc1 : w1.cell? ⟨w.heap.size + 1, 1, none⟩ = some (.int .i64 qt) := by rw [cell_at F1.out.q]; rfl
   have kc2 : w1.cell? ⟨w.heap.size + 1, 2, none⟩ = some (.int .i64 qi) := by rw [cell_at F1.out.q]; rfl
   have kc3 : w1.cell? ⟨w.heap.size + 1, 3, none⟩ = some (.int .i64 qm) := by rw [cell_at F1.out.q]; rfl
   have kf : ∀ j, w1.frozen? ⟨w.heap.size + 1, j, none⟩ = false := fun j => free_at F1.out.q j
   have lc0 : w1.cell? ⟨w.heap.size + 2, 0, none⟩ = some (.int .i64 li) := by rw [cell_at F1.out.last]; rfl
   have lc1 : w1.cell? ⟨w.heap.size + 2, 1, none⟩ = some (.int .i64 lm) := by rw [cell_at F1.out.last]; rfl
   have zc0 : w1.cell? ⟨w.heap.size + 3, 0, none⟩ = some (.int .i64 0) := by rw [cell_at F1.out.res]; rfl
   have zc1 : w1.cell? ⟨w.heap.size + 3, 1, none⟩ = some (.int .i64 0) := by rw [cell_at F1.out.res]; rfl
   have zc2 : w1.cell? ⟨w.heap.size + 3, 2, none⟩ = some (.int .i64 0) := by rw [cell_at F1.out.res]; rfl
   have zc3 : w1.cell? ⟨w.heap.size + 3, 3, none⟩ = some (.slice none 0 0) := by rw [cell_at F1.out.res]; rfl
   have zf : ∀ j, w1.frozen? ⟨w.heap.size + 3, j, none⟩ = false := fun j => free_at F1.out.res j
   go_wp2_with fail
   refine (N1.out _).mono ?_;rintro e w2 ⟨rfl, rfl⟩;dsimp only;have HF := fin4 (w := w) (.int .i64 0) (.int .i64 0) (.int .i64 0) (.slice none 0 0) F1.out.res (by omega) F1.out.bel;clear F1;go_wp2;obtain ⟨e1, e2⟩ := HF.out
   revert e1 e2
   generalize (World.setCell _ ⟨w.heap.size + 3, 3, none⟩ _) = W;intro e1 e2;exact bodyPost_ret (v := .tuple #[balV zB (.slice none 0 0), .bool false, .int .i64 1]) (by simp [results, Tryz.results162, go_sem, cell_at e1, balV, zB]) rfl ⟨_, rfl, ⟨rfl, .inl ⟨rfl, rfl⟩⟩, e2⟩
  ·cases h2 : wiB qt 1 1000000
   ·rw [h1] at N1;rw [h1, h2] at hA;rw [h2] at N2;rw [if_pos (by simp)] at hA;subst hA
    go_enter Tryz.func162, Tryz.ntmps162
    go_wp2_with fail
    refine HM.out.mono ?_;rintro e w1 ⟨rfl, hb⟩;dsimp only;have F1 := hideIt (F0.out.keep hb);clear hb F0 HM;have bc0 : w1.cell? ⟨w.heap.size, 0, none⟩ = some (.int .i64 t) := by rw [cell_at F1.out.box]; rfl
    have bc1 : w1.cell? ⟨w.heap.size, 1, none⟩ = some (.int .i64 v) := by rw [cell_at F1.out.box]; rfl
    have bc2 : w1.cell? ⟨w.heap.size, 2, none⟩ = some (.int .i64 r) := by rw [cell_at F1.out.box]; rfl
    have bc3 : w1.cell? ⟨w.heap.size, 3, none⟩ = some (g) := by rw [cell_at F1.out.box]; rfl
    have bf : ∀ j, w1.frozen? ⟨w.heap.size, j, none⟩ = false := fun j => free_at F1.out.box j
    have kc0 : w1.cell? ⟨w.heap.size + 1, 0, none⟩ = some (.int .i64 qf) := by rw [cell_at F1.out.q]; rfl
    have kc1 : w1.cell? ⟨w.heap.size + 1, 1, none⟩ = some (.int .i64 qt) := by rw [cell_at F1.out.q]; rfl
    have kc2 : w1.cell? ⟨w.heap.size + 1, 2, none⟩ = some (.int .i64 qi) := by rw [cell_at F1.out.q]; rfl
    have kc3 : w1.cell? ⟨w.heap.size + 1, 3, none⟩ = some (.int .i64 qm) := by rw [cell_at F1.out.q]; rfl
    have kf : ∀ j, w1.frozen? ⟨w.heap.size + 1, j, none⟩ = false := fun j => free_at F1.out.q j
    have lc0 : w1.cell? ⟨w.heap.size + 2, 0, none⟩ = some (.int .i64 li) := by rw [cell_at F1.out.last]; rfl
    have lc1 : w1.cell? ⟨w.heap.size + 2, 1, none⟩ = some (.int .i64 lm) := by rw [cell_at F1.out.last]; rfl
    have zc0 : w1.cell? ⟨w.heap.size + 3, 0, none⟩ = some (.int .i64 0) := by rw [cell_at F1.out.res]; rfl
    have zc1 : w1.cell? ⟨w.heap.size + 3, 1, none⟩ = some (.int .i64 0) := by rw [cell_at F1.out.res]; rfl
    have zc2 : w1.cell? ⟨w.heap.size + 3, 2, none⟩ = some (.int .i64 0) := by rw [cell_at F1.out.res]; rfl
    have zc3 : w1.cell? ⟨w.heap.size + 3, 3, none⟩ = some (.slice none 0 0) := by rw [cell_at F1.out.res]; rfl
    have zf : ∀ j, w1.frozen? ⟨w.heap.size + 3, j, none⟩ = false := fun j => free_at F1.out.res j
    go_wp2_with fail
    refine (N1.out _).mono ?_;rintro e w2 ⟨rfl, rfl⟩;dsimp only
    go_wp2_with fail
    refine (N2.out _).mono ?_;rintro e w3 ⟨rfl, rfl⟩;dsimp only;have HF := fin4 (w := w) (.int .i64 0) (.int .i64 0) (.int .i64 0) (.slice none 0 0) F1.out.res (by omega) F1.out.bel;clear F1;go_wp2;obtain ⟨e1, e2⟩ := HF.out
    revert e1 e2
    generalize (World.setCell _ ⟨w.heap.size + 3, 3, none⟩ _) = W;intro e1 e2;exact bodyPost_ret (v := .tuple #[balV zB (.slice none 0 0), .bool false, .int .i64 1]) (by simp [results, Tryz.results162, go_sem, cell_at e1, balV, zB]) rfl ⟨_, rfl, ⟨rfl, .inl ⟨rfl, rfl⟩⟩, e2⟩
   ·cases h3 : mkB qi qm
    ·rw [h1] at N1;rw [h2] at N2;rw [h3] at N3;rw [h1, h2, h3] at hA;rw [if_pos (by simp)] at hA;subst hA;clear h1 h2 h3
     go_enter Tryz.func162, Tryz.ntmps162
     go_wp2_with fail
     refine HM.out.mono ?_;rintro e w1 ⟨rfl, hb⟩;dsimp only;have F1 := hideIt (F0.out.keep hb);clear hb F0 HM;have bc0 : w1.cell? ⟨w.heap.size, 0, none⟩ = some (.int .i64 t) := by rw [cell_at F1.out.box]; rfl
     have bc1 : w1.cell? ⟨w.heap.size, 1, none⟩ = some (.int .i64 v) := by rw [cell_at F1.out.box]; rfl
     have bc2 : w1.cell? ⟨w.heap.size, 2, none⟩ = some (.int .i64 r) := by rw [cell_at F1.out.box]; rfl
     have bc3 : w1.cell? ⟨w.heap.size, 3, none⟩ = some (g) := by rw [cell_at F1.out.box]; rfl
     have bf : ∀ j, w1.frozen? ⟨w.heap.size, j, none⟩ = false := fun j => free_at F1.out.box j
     have kc0 : w1.cell? ⟨w.heap.size + 1, 0, none⟩ = some (.int .i64 qf) := by rw [cell_at F1.out.q]; rfl
     have kc1 : w1.cell? ⟨w.heap.size + 1, 1, none⟩ = some (.int .i64 qt) := by rw [cell_at F1.out.q]; rfl
     have kc2 : w1.cell? ⟨w.heap.size + 1, 2, none⟩ = some (.int .i64 qi) := by rw [cell_at F1.out.q]; rfl
     have kc3 : w1.cell? ⟨w.heap.size + 1, 3, none⟩ = some (.int .i64 qm) := by rw [cell_at F1.out.q]; rfl
     have kf : ∀ j, w1.frozen? ⟨w.heap.size + 1, j, none⟩ = false := fun j => free_at F1.out.q j
     have lc0 : w1.cell? ⟨w.heap.size + 2, 0, none⟩ = some (.int .i64 li) := by rw [cell_at F1.out.last]; rfl
     have lc1 : w1.cell? ⟨w.heap.size + 2, 1, none⟩ = some (.int .i64 lm) := by rw [cell_at F1.out.last]; rfl
     have zc0 : w1.cell? ⟨w.heap.size + 3, 0, none⟩ = some (.int .i64 0) := by rw [cell_at F1.out.res]; rfl
     have zc1 : w1.cell? ⟨w.heap.size + 3, 1, none⟩ = some (.int .i64 0) := by rw [cell_at F1.out.res]; rfl
     have zc2 : w1.cell? ⟨w.heap.size + 3, 2, none⟩ = some (.int .i64 0) := by rw [cell_at F1.out.res]; rfl
     have zc3 : w1.cell? ⟨w.heap.size + 3, 3, none⟩ = some (.slice none 0 0) := by rw [cell_at F1.out.res]; rfl
     have zf : ∀ j, w1.frozen? ⟨w.heap.size + 3, j, none⟩ = false := fun j => free_at F1.out.res j
     go_wp2_with fail
     refine (N1.out _).mono ?_;rintro e w2 ⟨rfl, rfl⟩;dsimp only
     go_wp2_with fail
     refine (N2.out _).mono ?_;rintro e w3 ⟨rfl, rfl⟩;dsimp only
     go_wp2_with fail
     refine (N3.out _).mono ?_;rintro e w4 ⟨rfl, hb⟩;dsimp only;have F2 := hideIt (F1.out.keep hb);clear hb F1 bc0 bc1 bc2 bc3 bf kc0 kc1 kc2 kc3 kf lc0 lc1 zc0 zc1 zc2 zc3 zf;have bc0 : w4.cell? ⟨w.heap.size, 0, none⟩ = some (.int .i64 t) := by rw [cell_at F2.out.box]; rfl
     have bc1 : w4.cell? ⟨w.heap.size, 1, none⟩ = some (.int .i64 v) := by rw [cell_at F2.out.box]; rfl
     have bc2 : w4.cell? ⟨w.heap.size, 2, none⟩ = some (.int .i64 r) := by rw [cell_at F2.out.box]; rfl
     have bc3 : w4.cell? ⟨w.heap.size, 3, none⟩ = some (g) := by rw [cell_at F2.out.box]; rfl
     have bf : ∀ j, w4.frozen? ⟨w.heap.size, j, none⟩ = false := fun j => free_at F2.out.box j
     have kc0 : w4.cell? ⟨w.heap.size + 1, 0, none⟩ = some (.int .i64 qf) := by rw [cell_at F2.out.q]; rfl
     have kc1 : w4.cell? ⟨w.heap.size + 1, 1, none⟩ = some (.int .i64 qt) := by rw [cell_at F2.out.q]; rfl
     have kc2 : w4.cell? ⟨w.heap.size + 1, 2, none⟩ = some (.int .i64 qi) := by rw [cell_at F2.out.q]; rfl
     have kc3 : w4.cell? ⟨w.heap.size + 1, 3, none⟩ = some (.int .i64 qm) := by rw [cell_at F2.out.q]; rfl
     have kf : ∀ j, w4.frozen? ⟨w.heap.size + 1, j, none⟩ = false := fun j => free_at F2.out.q j
     have lc0 : w4.cell? ⟨w.heap.size + 2, 0, none⟩ = some (.int .i64 li) := by rw [cell_at F2.out.last]; rfl
     have lc1 : w4.cell? ⟨w.heap.size + 2, 1, none⟩ = some (.int .i64 lm) := by rw [cell_at F2.out.last]; rfl
     have zc0 : w4.cell? ⟨w.heap.size + 3, 0, none⟩ = some (.int .i64 0) := by rw [cell_at F2.out.res]; rfl
     have zc1 : w4.cell? ⟨w.heap.size + 3, 1, none⟩ = some (.int .i64 0) := by rw [cell_at F2.out.res]; rfl
     have zc2 : w4.cell? ⟨w.heap.size + 3, 2, none⟩ = some (.int .i64 0) := by rw [cell_at F2.out.res]; rfl
     have zc3 : w4.cell? ⟨w.heap.size + 3, 3, none⟩ = some (.slice none 0 0) := by rw [cell_at F2.out.res]; rfl
     have zf : ∀ j, w4.frozen? ⟨w.heap.size + 3, j, none⟩ = false := fun j => free_at F2.out.res j
     have HF := fin4 (w := w) (.int .i64 0) (.int .i64 0) (.int .i64 0) (.slice none 0 0) F2.out.res (by omega) F2.out.bel;clear F2;go_wp2;obtain ⟨e1, e2⟩ := HF.out
     revert e1 e2
     generalize (World.setCell _ ⟨w.heap.size + 3, 3, none⟩ _) = W;intro e1 e2;exact bodyPost_ret (v := .tuple #[balV zB (.slice none 0 0), .bool false, .int .i64 1]) (by simp [results, Tryz.results162, go_sem, cell_at e1, balV, zB]) rfl ⟨_, rfl, ⟨rfl, .inl ⟨rfl, rfl⟩⟩, e2⟩
    ·cases h4 : mkB li lm
     ·rw [h1] at N1;rw [h2] at N2;rw [h3] at N3;rw [h4] at N4;rw [h1, h2, h3, h4] at hA;rw [if_pos (by simp)] at hA;subst hA;clear h1 h2 h3 h4
      go_enter Tryz.func162, Tryz.ntmps162
      go_wp2_with fail
      refine HM.out.mono ?_;rintro e w1 ⟨rfl, hb⟩;dsimp only;have F1 := hideIt (F0.out.keep hb);clear hb F0 HM;have bc0 : w1.cell? ⟨w.heap.size, 0, none⟩ = some (.int .i64 t) := by rw [cell_at F1.out.box]; rfl
      have bc1 : w1.cell? ⟨w.heap.size, 1, none⟩ = some (.int .i64 v) := by rw [cell_at F1.out.box]; rfl
      have bc2 : w1.cell? ⟨w.heap.size, 2, none⟩ = some (.int .i64 r) := by rw [cell_at F1.out.box]; rfl
      have bc3 : w1.cell? ⟨w.heap.size, 3, none⟩ = some (g) := by rw [cell_at F1.out.box]; rfl
      have bf : ∀ j, w1.frozen? ⟨w.heap.size, j, none⟩ = false := fun j => free_at F1.out.box j
      have kc0 : w1.cell? ⟨w.heap.size + 1, 0, none⟩ = some (.int .i64 qf) := by rw [cell_at F1.out.q]; rfl
      have kc1 : w1.cell? ⟨w.heap.size + 1, 1, none⟩ = some (.int .i64 qt) := by rw [cell_at F1.out.q]; rfl
      have kc2 : w1.cell? ⟨w.heap.size + 1, 2, none⟩ = some (.int .i64 qi) := by rw [cell_at F1.out.q]; rfl
      have kc3 : w1.cell? ⟨w.heap.size + 1, 3, none⟩ = some (.int .i64 qm) := by rw [cell_at F1.out.q]; rfl
      have kf : ∀ j, w1.frozen? ⟨w.heap.size + 1, j, none⟩ = false := fun j => free_at F1.out.q j
      have lc0 : w1.cell? ⟨w.heap.size + 2, 0, none⟩ = some (.int .i64 li) := by rw [cell_at F1.out.last]; rfl
      have lc1 : w1.cell? ⟨w.heap.size + 2, 1, none⟩ = some (.int .i64 lm) := by rw [cell_at F1.out.last]; rfl
      have zc0 : w1.cell? ⟨w.heap.size + 3, 0, none⟩ = some (.int .i64 0) := by rw [cell_at F1.out.res]; rfl
      have zc1 : w1.cell? ⟨w.heap.size + 3, 1, none⟩ = some (.int .i64 0) := by rw [cell_at F1.out.res]; rfl
      have zc2 : w1.cell? ⟨w.heap.size + 3, 2, none⟩ = some (.int .i64 0) := by rw [cell_at F1.out.res]; rfl
      have zc3 : w1.cell? ⟨w.heap.size + 3, 3, none⟩ = some (.slice none 0 0) := by rw [cell_at F1.out.res]; rfl
      have zf : ∀ j, w1.frozen? ⟨w.heap.size + 3, j, none⟩ = false := fun j => free_at F1.out.res j
      go_wp2_with fail
      refine (N1.out _).mono ?_;rintro e w2 ⟨rfl, rfl⟩;dsimp only
      go_wp2_with fail
      refine (N2.out _).mono ?_;rintro e w3 ⟨rfl, rfl⟩;dsimp only
      go_wp2_with fail
      refine (N3.out _).mono ?_;rintro e w4 ⟨rfl, hb⟩;dsimp only;have F2 := hideIt (F1.out.keep hb);clear hb F1 bc0 bc1 bc2 bc3 bf kc0 kc1 kc2 kc3 kf lc0 lc1 zc0 zc1 zc2 zc3 zf;have bc0 : w4.cell? ⟨w.heap.size, 0, none⟩ = some (.int .i64 t) := by rw [cell_at F2.out.box]; rfl
      have bc1 : w4.cell? ⟨w.heap.size, 1, none⟩ = some (.int .i64 v) := by rw [cell_at F2.out.box]; rfl
      have bc2 : w4.cell? ⟨w.heap.size, 2, none⟩ = some (.int .i64 r) := by rw [cell_at F2.out.box]; rfl
      have bc3 : w4.cell? ⟨w.heap.size, 3, none⟩ = some (g) := by rw [cell_at F2.out.box]; rfl
      have bf : ∀ j, w4.frozen? ⟨w.heap.size, j, none⟩ = false := fun j => free_at F2.out.box j
      have kc0 : w4.cell? ⟨w.heap.size + 1, 0, none⟩ = some (.int .i64 qf) := by rw [cell_at F2.out.q]; rfl
      have kc1 : w4.cell? ⟨w.heap.size + 1, 1, none⟩ = some (.int .i64 qt) := by rw [cell_at F2.out.q]; rfl
      have kc2 : w4.cell? ⟨w.heap.size + 1, 2, none⟩ = some (.int .i64 qi) := by rw [cell_at F2.out.q]; rfl
      have kc3 : w4.cell? ⟨w.heap.size + 1, 3, none⟩ = some (.int .i64 qm) := by rw [cell_at F2.out.q]; rfl
      have kf : ∀ j, w4.frozen? ⟨w.heap.size + 1, j, none⟩ = false := fun j => free_at F2.out.q j
      have lc0 : w4.cell? ⟨w.heap.size + 2, 0, none⟩ = some (.int .i64 li) := by rw [cell_at F2.out.last]; rfl
      have lc1 : w4.cell? ⟨w.heap.size + 2, 1, none⟩ = some (.int .i64 lm) := by rw [cell_at F2.out.last]; rfl
      have zc0 : w4.cell? ⟨w.heap.size + 3, 0, none⟩ = some (.int .i64 0) := by rw [cell_at F2.out.res]; rfl
      have zc1 : w4.cell? ⟨w.heap.size + 3, 1, none⟩ = some (.int .i64 0) := by rw [cell_at F2.out.res]; rfl
      have zc2 : w4.cell? ⟨w.heap.size + 3, 2, none⟩ = some (.int .i64 0) := by rw [cell_at F2.out.res]; rfl
      have zc3 : w4.cell? ⟨w.heap.size + 3, 3, none⟩ = some (.slice none 0 0) := by rw [cell_at F2.out.res]; rfl
      have zf : ∀ j, w4.frozen? ⟨w.heap.size + 3, j, none⟩ = false := fun j => free_at F2.out.res j
      go_wp2_with fail
      refine (N4.out _).mono ?_;rintro e w5 ⟨rfl, hb⟩;dsimp only;have F3 := hideIt (F2.out.keep hb);clear hb F2 bc0 bc1 bc2 bc3 bf kc0 kc1 kc2 kc3 kf lc0 lc1 zc0 zc1 zc2 zc3 zf;have bc0 : w5.cell? ⟨w.heap.size, 0, none⟩ = some (.int .i64 t) := by rw [cell_at F3.out.box]; rfl
      have bc1 : w5.cell? ⟨w.heap.size, 1, none⟩ = some (.int .i64 v) := by rw [cell_at F3.out.box]; rfl
      have bc2 : w5.cell? ⟨w.heap.size, 2, none⟩ = some (.int .i64 r) := by rw [cell_at F3.out.box]; rfl
      have bc3 : w5.cell? ⟨w.heap.size, 3, none⟩ = some (g) := by rw [cell_at F3.out.box]; rfl
      have bf : ∀ j, w5.frozen? ⟨w.heap.size, j, none⟩ = false := fun j => free_at F3.out.box j
      have kc0 : w5.cell? ⟨w.heap.size + 1, 0, none⟩ = some (.int .i64 qf) := by rw [cell_at F3.out.q]; rfl
      have kc1 : w5.cell? ⟨w.heap.size + 1, 1, none⟩ = some (.int .i64 qt) := by rw [cell_at F3.out.q]; rfl
      have kc2 : w5.cell? ⟨w.heap.size + 1, 2, none⟩ = some (.int .i64 qi) := by rw [cell_at F3.out.q]; rfl
      have kc3 : w5.cell? ⟨w.heap.size + 1, 3, none⟩ = some (.int .i64 qm) := by rw [cell_at F3.out.q]; rfl
      have kf : ∀ j, w5.frozen? ⟨w.heap.size + 1, j, none⟩ = false := fun j => free_at F3.out.q j
      have lc0 : w5.cell? ⟨w.heap.size + 2, 0, none⟩ = some (.int .i64 li) := by rw [cell_at F3.out.last]; rfl
      have lc1 : w5.cell? ⟨w.heap.size + 2, 1, none⟩ = some (.int .i64 lm) := by rw [cell_at F3.out.last]; rfl
      have zc0 : w5.cell? ⟨w.heap.size + 3, 0, none⟩ = some (.int .i64 0) := by rw [cell_at F3.out.res]; rfl
      have zc1 : w5.cell? ⟨w.heap.size + 3, 1, none⟩ = some (.int .i64 0) := by rw [cell_at F3.out.res]; rfl
      have zc2 : w5.cell? ⟨w.heap.size + 3, 2, none⟩ = some (.int .i64 0) := by rw [cell_at F3.out.res]; rfl
      have zc3 : w5.cell? ⟨w.heap.size + 3, 3, none⟩ = some (.slice none 0 0) := by rw [cell_at F3.out.res]; rfl
      have zf : ∀ j, w5.frozen? ⟨w.heap.size + 3, j, none⟩ = false := fun j => free_at F3.out.res j
      have HF := fin4 (w := w) (.int .i64 0) (.int .i64 0) (.int .i64 0) (.slice none 0 0) F3.out.res (by omega) F3.out.bel;clear F3;go_wp2;obtain ⟨e1, e2⟩ := HF.out
      revert e1 e2
      generalize (World.setCell _ ⟨w.heap.size + 3, 3, none⟩ _) = W;intro e1 e2;exact bodyPost_ret (v := .tuple #[balV zB (.slice none 0 0), .bool false, .int .i64 1]) (by simp [results, Tryz.results162, go_sem, cell_at e1, balV, zB]) rfl ⟨_, rfl, ⟨rfl, .inl ⟨rfl, rfl⟩⟩, e2⟩
     ·rw [h1] at N1;rw [h2] at N2;rw [h3] at N3;rw [h4] at N4;rw [h1, h2, h3, h4] at hA;rw [if_neg (by simp)] at hA;clear h1 h2 h3 h4;have NF := hideIt (fun W a2 cc => free_is V.t V.v V.r (.slice a2 V.l.length cc) qf qt qi qm W);unfold grantC at hA;cases hf : freeB V.t V.v V.r qf qt
      ·rw [hf] at NF hA;rw [if_neg (by simp)] at hA;subst hA;clear hf HL
       go_enter Tryz.func162, Tryz.ntmps162
       go_wp2_with fail
       refine HM.out.mono ?_;rintro e w1 ⟨rfl, hb⟩;dsimp only;have F1 := hideIt (F0.out.keep hb);clear hb F0 HM;have bc0 : w1.cell? ⟨w.heap.size, 0, none⟩ = some (.int .i64 t) := by rw [cell_at F1.out.box]; rfl
       have bc1 : w1.cell? ⟨w.heap.size, 1, none⟩ = some (.int .i64 v) := by rw [cell_at F1.out.box]; rfl
       have bc2 : w1.cell? ⟨w.heap.size, 2, none⟩ = some (.int .i64 r) := by rw [cell_at F1.out.box]; rfl
       have bc3 : w1.cell? ⟨w.heap.size, 3, none⟩ = some (g) := by rw [cell_at F1.out.box]; rfl
       have bf : ∀ j, w1.frozen? ⟨w.heap.size, j, none⟩ = false := fun j => free_at F1.out.box j
       have kc0 : w1.cell? ⟨w.heap.size + 1, 0, none⟩ = some (.int .i64 qf) := by rw [cell_at F1.out.q]; rfl
       have kc1 : w1.cell? ⟨w.heap.size + 1, 1, none⟩ = some (.int .i64 qt) := by rw [cell_at F1.out.q]; rfl
       have kc2 : w1.cell? ⟨w.heap.size + 1, 2, none⟩ = some (.int .i64 qi) := by rw [cell_at F1.out.q]; rfl
       have kc3 : w1.cell? ⟨w.heap.size + 1, 3, none⟩ = some (.int .i64 qm) := by rw [cell_at F1.out.q]; rfl
       have kf : ∀ j, w1.frozen? ⟨w.heap.size + 1, j, none⟩ = false := fun j => free_at F1.out.q j
       have lc0 : w1.cell? ⟨w.heap.size + 2, 0, none⟩ = some (.int .i64 li) := by rw [cell_at F1.out.last]; rfl
       have lc1 : w1.cell? ⟨w.heap.size + 2, 1, none⟩ = some (.int .i64 lm) := by rw [cell_at F1.out.last]; rfl
       have zc0 : w1.cell? ⟨w.heap.size + 3, 0, none⟩ = some (.int .i64 0) := by rw [cell_at F1.out.res]; rfl
       have zc1 : w1.cell? ⟨w.heap.size + 3, 1, none⟩ = some (.int .i64 0) := by rw [cell_at F1.out.res]; rfl
       have zc2 : w1.cell? ⟨w.heap.size + 3, 2, none⟩ = some (.int .i64 0) := by rw [cell_at F1.out.res]; rfl
       have zc3 : w1.cell? ⟨w.heap.size + 3, 3, none⟩ = some (.slice none 0 0) := by rw [cell_at F1.out.res]; rfl
       have zf : ∀ j, w1.frozen? ⟨w.heap.size + 3, j, none⟩ = false := fun j => free_at F1.out.res j
       go_wp2_with fail
       refine (N1.out _).mono ?_;rintro e w2 ⟨rfl, rfl⟩;dsimp only
       go_wp2_with fail
       refine (N2.out _).mono ?_;rintro e w3 ⟨rfl, rfl⟩;dsimp only
       go_wp2_with fail
       refine (N3.out _).mono ?_;rintro e w4 ⟨rfl, hb⟩;dsimp only;have F2 := hideIt (F1.out.keep hb);clear hb F1 bc0 bc1 bc2 bc3 bf kc0 kc1 kc2 kc3 kf lc0 lc1 zc0 zc1 zc2 zc3 zf;have bc0 : w4.cell? ⟨w.heap.size, 0, none⟩ = some (.int .i64 t) := by rw [cell_at F2.out.box]; rfl
       have bc1 : w4.cell? ⟨w.heap.size, 1, none⟩ = some (.int .i64 v) := by rw [cell_at F2.out.box]; rfl
       have bc2 : w4.cell? ⟨w.heap.size, 2, none⟩ = some (.int .i64 r) := by rw [cell_at F2.out.box]; rfl
       have bc3 : w4.cell? ⟨w.heap.size, 3, none⟩ = some (g) := by rw [cell_at F2.out.box]; rfl
       have bf : ∀ j, w4.frozen? ⟨w.heap.size, j, none⟩ = false := fun j => free_at F2.out.box j
       have kc0 : w4.cell? ⟨w.heap.size + 1, 0, none⟩ = some (.int .i64 qf) := by rw [cell_at F2.out.q]; rfl
       have kc1 : w4.cell? ⟨w.heap.size + 1, 1, none⟩ = some (.int .i64 qt) := by rw [cell_at F2.out.q]; rfl
       have kc2 : w4.cell? ⟨w.heap.size + 1, 2, none⟩ = some (.int .i64 qi) := by rw [cell_at F2.out.q]; rfl
       have kc3 : w4.cell? ⟨w.heap.size + 1, 3, none⟩ = some (.int .i64 qm) := by rw [cell_at F2.out.q]; rfl
       have kf : ∀ j, w4.frozen? ⟨w.heap.size + 1, j, none⟩ = false := fun j => free_at F2.out.q j
       have lc0 : w4.cell? ⟨w.heap.size + 2, 0, none⟩ = some (.int .i64 li) := by rw [cell_at F2.out.last]; rfl
       have lc1 : w4.cell? ⟨w.heap.size + 2, 1, none⟩ = some (.int .i64 lm) := by rw [cell_at F2.out.last]; rfl
       have zc0 : w4.cell? ⟨w.heap.size + 3, 0, none⟩ = some (.int .i64 0) := by rw [cell_at F2.out.res]; rfl
       have zc1 : w4.cell? ⟨w.heap.size + 3, 1, none⟩ = some (.int .i64 0) := by rw [cell_at F2.out.res]; rfl
       have zc2 : w4.cell? ⟨w.heap.size + 3, 2, none⟩ = some (.int .i64 0) := by rw [cell_at F2.out.res]; rfl
       have zc3 : w4.cell? ⟨w.heap.size + 3, 3, none⟩ = some (.slice none 0 0) := by rw [cell_at F2.out.res]; rfl
       have zf : ∀ j, w4.frozen? ⟨w.heap.size + 3, j, none⟩ = false := fun j => free_at F2.out.res j
       go_wp2_with fail
       refine (N4.out _).mono ?_;rintro e w5 ⟨rfl, hb⟩;dsimp only;have F3 := hideIt (F2.out.keep hb);clear hb F2 bc0 bc1 bc2 bc3 bf kc0 kc1 kc2 kc3 kf lc0 lc1 zc0 zc1 zc2 zc3 zf;have bc0 : w5.cell? ⟨w.heap.size, 0, none⟩ = some (.int .i64 t) := by rw [cell_at F3.out.box]; rfl
       have bc1 : w5.cell? ⟨w.heap.size, 1, none⟩ = some (.int .i64 v) := by rw [cell_at F3.out.box]; rfl
       have bc2 : w5.cell? ⟨w.heap.size, 2, none⟩ = some (.int .i64 r) := by rw [cell_at F3.out.box]; rfl
       have bc3 : w5.cell? ⟨w.heap.size, 3, none⟩ = some (g) := by rw [cell_at F3.out.box]; rfl
       have bf : ∀ j, w5.frozen? ⟨w.heap.size, j, none⟩ = false := fun j => free_at F3.out.box j
       have kc0 : w5.cell? ⟨w.heap.size + 1, 0, none⟩ = some (.int .i64 qf) := by rw [cell_at F3.out.q]; rfl
       have kc1 : w5.cell? ⟨w.heap.size + 1, 1, none⟩ = some (.int .i64 qt) := by rw [cell_at F3.out.q]; rfl
       have kc2 : w5.cell? ⟨w.heap.size + 1, 2, none⟩ = some (.int .i64 qi) := by rw [cell_at F3.out.q]; rfl
       have kc3 : w5.cell? ⟨w.heap.size + 1, 3, none⟩ = some (.int .i64 qm) := by rw [cell_at F3.out.q]; rfl
       have kf : ∀ j, w5.frozen? ⟨w.heap.size + 1, j, none⟩ = false := fun j => free_at F3.out.q j
       have lc0 : w5.cell? ⟨w.heap.size + 2, 0, none⟩ = some (.int .i64 li) := by rw [cell_at F3.out.last]; rfl
       have lc1 : w5.cell? ⟨w.heap.size + 2, 1, none⟩ = some (.int .i64 lm) := by rw [cell_at F3.out.last]; rfl
       have zc0 : w5.cell? ⟨w.heap.size + 3, 0, none⟩ = some (.int .i64 0) := by rw [cell_at F3.out.res]; rfl
       have zc1 : w5.cell? ⟨w.heap.size + 3, 1, none⟩ = some (.int .i64 0) := by rw [cell_at F3.out.res]; rfl
       have zc2 : w5.cell? ⟨w.heap.size + 3, 2, none⟩ = some (.int .i64 0) := by rw [cell_at F3.out.res]; rfl
       have zc3 : w5.cell? ⟨w.heap.size + 3, 3, none⟩ = some (.slice none 0 0) := by rw [cell_at F3.out.res]; rfl
       have zf : ∀ j, w5.frozen? ⟨w.heap.size + 3, j, none⟩ = false := fun j => free_at F3.out.res j
       clear N1 N2 N3 N4
       go_wp2_with fail
       refine (HH.out _ F3.out.bel).mono ?_;rintro e w6 ⟨g2, rfl, h1, h2⟩;dsimp only;obtain ⟨a2, cc, rfl⟩ := own_len h1;have hs := hideIt F3.out.size;have F4 := hideIt ((F3.out.keep h2).keep (below1 w6 (.cells #[.int .i64 V.t, .int .i64 V.v, .int .i64 V.r, .slice a2 V.l.length cc] 146)));have HW := hideIt (own_keep h1 (below1 w6 (.cells #[.int .i64 V.t, .int .i64 V.v, .int .i64 V.r, .slice a2 V.l.length cc] 146)));have hbk : Hid (∀ k, (Value.slice a2 V.l.length cc).ownBlock = some k → k ≠ w6.heap.size) := fun k hk => by have := (own_block h1 hk).1; omega
       have hs6 : Hid (w.heap.size + 4 ≤ w6.heap.size) := Nat.le_trans hs.out h2.size;clear h1 h2 F3 HH bc0 bc1 bc2 bc3 bf kc0 kc1 kc2 kc3 kf lc0 lc1 zc0 zc1 zc2 zc3 zf;unfold balV;have kc0 : (w6.alloc (.cells #[.int .i64 V.t, .int .i64 V.v, .int .i64 V.r, .slice a2 V.l.length cc] 146)).cell? ⟨w.heap.size + 1, 0, none⟩ = some (.int .i64 qf) := by rw [cell_at F4.out.q]; rfl
       have kc1 : (w6.alloc (.cells #[.int .i64 V.t, .int .i64 V.v, .int .i64 V.r, .slice a2 V.l.length cc] 146)).cell? ⟨w.heap.size + 1, 1, none⟩ = some (.int .i64 qt) := by rw [cell_at F4.out.q]; rfl
       have kc2 : (w6.alloc (.cells #[.int .i64 V.t, .int .i64 V.v, .int .i64 V.r, .slice a2 V.l.length cc] 146)).cell? ⟨w.heap.size + 1, 2, none⟩ = some (.int .i64 qi) := by rw [cell_at F4.out.q]; rfl
       have kc3 : (w6.alloc (.cells #[.int .i64 V.t, .int .i64 V.v, .int .i64 V.r, .slice a2 V.l.length cc] 146)).cell? ⟨w.heap.size + 1, 3, none⟩ = some (.int .i64 qm) := by rw [cell_at F4.out.q]; rfl
       have kf : ∀ j, (w6.alloc (.cells #[.int .i64 V.t, .int .i64 V.v, .int .i64 V.r, .slice a2 V.l.length cc] 146)).frozen? ⟨w.heap.size + 1, j, none⟩ = false := fun j => free_at F4.out.q j
       have lc0 : (w6.alloc (.cells #[.int .i64 V.t, .int .i64 V.v, .int .i64 V.r, .slice a2 V.l.length cc] 146)).cell? ⟨w.heap.size + 2, 0, none⟩ = some (.int .i64 li) := by rw [cell_at F4.out.last]; rfl
       have lc1 : (w6.alloc (.cells #[.int .i64 V.t, .int .i64 V.v, .int .i64 V.r, .slice a2 V.l.length cc] 146)).cell? ⟨w.heap.size + 2, 1, none⟩ = some (.int .i64 lm) := by rw [cell_at F4.out.last]; rfl
       go_wp2_with fail
       refine (NF.out _ a2 cc).mono ?_;rintro e w7 ⟨rfl, hb⟩;dsimp only;have F5 := hideIt (F4.out.keep hb);have HY := hideIt (own_keep HW.out hb);have HE := hideIt ((hb.block w6.heap.size (by simp)).trans (heap_alloc_new w6 _));have hs7 : Hid (w6.heap.size < w7.heap.size) := (Array.getElem?_eq_some_iff.1 HE.out).1;clear hb F4 HW NF kc0 kc1 kc2 kc3 kf lc0 lc1;have ec0 : w7.cell? ⟨w6.heap.size, 0, none⟩ = some (.int .i64 V.t) := by rw [cell_at HE.out]; rfl
       have ec1 : w7.cell? ⟨w6.heap.size, 1, none⟩ = some (.int .i64 V.v) := by rw [cell_at HE.out]; rfl
       have ec2 : w7.cell? ⟨w6.heap.size, 2, none⟩ = some (.int .i64 V.r) := by rw [cell_at HE.out]; rfl
       have ec3 : w7.cell? ⟨w6.heap.size, 3, none⟩ = some (.slice a2 V.l.length cc) := by rw [cell_at HE.out]; rfl
       have ef : ∀ j, w7.frozen? ⟨w6.heap.size, j, none⟩ = false := fun j => free_at HE.out j
       have kc0 : w7.cell? ⟨w.heap.size + 1, 0, none⟩ = some (.int .i64 qf) := by rw [cell_at F5.out.q]; rfl
       have kc1 : w7.cell? ⟨w.heap.size + 1, 1, none⟩ = some (.int .i64 qt) := by rw [cell_at F5.out.q]; rfl
       have kc2 : w7.cell? ⟨w.heap.size + 1, 2, none⟩ = some (.int .i64 qi) := by rw [cell_at F5.out.q]; rfl
       have kc3 : w7.cell? ⟨w.heap.size + 1, 3, none⟩ = some (.int .i64 qm) := by rw [cell_at F5.out.q]; rfl
       have kf : ∀ j, w7.frozen? ⟨w.heap.size + 1, j, none⟩ = false := fun j => free_at F5.out.q j
       have lc0 : w7.cell? ⟨w.heap.size + 2, 0, none⟩ = some (.int .i64 li) := by rw [cell_at F5.out.last]; rfl
       have lc1 : w7.cell? ⟨w.heap.size + 2, 1, none⟩ = some (.int .i64 lm) := by rw [cell_at F5.out.last]; rfl
       have zc0 : w7.cell? ⟨w.heap.size + 3, 0, none⟩ = some (.int .i64 0) := by rw [cell_at F5.out.res]; rfl
       have zc1 : w7.cell? ⟨w.heap.size + 3, 1, none⟩ = some (.int .i64 0) := by rw [cell_at F5.out.res]; rfl
       have zc2 : w7.cell? ⟨w.heap.size + 3, 2, none⟩ = some (.int .i64 0) := by rw [cell_at F5.out.res]; rfl
       have zc3 : w7.cell? ⟨w.heap.size + 3, 3, none⟩ = some (.slice none 0 0) := by rw [cell_at F5.out.res]; rfl
       have zf : ∀ j, w7.frozen? ⟨w.heap.size + 3, j, none⟩ = false := fun j => free_at F5.out.res j
       have HF := fin4 (w := w) (.int .i64 V.t) (.int .i64 V.v) (.int .i64 V.r) (.slice a2 V.l.length cc) F5.out.res (by omega) F5.out.bel;have HG := own4 (R := w.heap.size + 3) (.int .i64 V.t) (.int .i64 V.v) (.int .i64 V.r) (.slice a2 V.l.length cc) HY.out hs.out w.heap.size (by have := hs.out; omega)
       clear F5 HY HE hs hs6 hs7 hbk;go_wp2;obtain ⟨e1, e2⟩ := HF.out;have e3 := HG.out
       revert e1 e2 e3
       generalize (World.setCell _ ⟨w.heap.size + 3, 3, none⟩ _) = W;intro e1 e2 e3;exact bodyPost_ret (v := .tuple #[balV V (.slice a2 V.l.length cc), .bool false, .int .i64 0]) (by simp [results, Tryz.results162, go_sem, cell_at e1, balV]) rfl ⟨_, rfl, e3, e2⟩
      ·cases hl : lessB qi qm li lm
       ·rw [hf] at NF;rw [hl] at HL;rw [hf, hl] at hA;rw [if_pos (by simp)] at hA;subst hA;clear hf hl
        go_enter Tryz.func162, Tryz.ntmps162
        go_wp2_with fail
        refine HM.out.mono ?_;rintro e w1 ⟨rfl, hb⟩;dsimp only;have F1 := hideIt (F0.out.keep hb);clear hb F0 HM;have bc0 : w1.cell? ⟨w.heap.size, 0, none⟩ = some (.int .i64 t) := by rw [cell_at F1.out.box]; rfl
        have bc1 : w1.cell? ⟨w.heap.size, 1, none⟩ = some (.int .i64 v) := by rw [cell_at F1.out.box]; rfl
        have bc2 : w1.cell? ⟨w.heap.size, 2, none⟩ = some (.int .i64 r) := by rw [cell_at F1.out.box]; rfl
        have bc3 : w1.cell? ⟨w.heap.size, 3, none⟩ = some (g) := by rw [cell_at F1.out.box]; rfl
        have bf : ∀ j, w1.frozen? ⟨w.heap.size, j, none⟩ = false := fun j => free_at F1.out.box j
        have kc0 : w1.cell? ⟨w.heap.size + 1, 0, none⟩ = some (.int .i64 qf) := by rw [cell_at F1.out.q]; rfl
        have kc1 : w1.cell? ⟨w.heap.size + 1, 1, none⟩ = some (.int .i64 qt) := by rw [cell_at F1.out.q]; rfl
        have kc2 : w1.cell? ⟨w.heap.size + 1, 2, none⟩ = some (.int .i64 qi) := by rw [cell_at F1.out.q]; rfl
        have kc3 : w1.cell? ⟨w.heap.size + 1, 3, none⟩ = some (.int .i64 qm) := by rw [cell_at F1.out.q]; rfl
        have kf : ∀ j, w1.frozen? ⟨w.heap.size + 1, j, none⟩ = false := fun j => free_at F1.out.q j
        have lc0 : w1.cell? ⟨w.heap.size + 2, 0, none⟩ = some (.int .i64 li) := by rw [cell_at F1.out.last]; rfl
        have lc1 : w1.cell? ⟨w.heap.size + 2, 1, none⟩ = some (.int .i64 lm) := by rw [cell_at F1.out.last]; rfl
        have zc0 : w1.cell? ⟨w.heap.size + 3, 0, none⟩ = some (.int .i64 0) := by rw [cell_at F1.out.res]; rfl
        have zc1 : w1.cell? ⟨w.heap.size + 3, 1, none⟩ = some (.int .i64 0) := by rw [cell_at F1.out.res]; rfl
        have zc2 : w1.cell? ⟨w.heap.size + 3, 2, none⟩ = some (.int .i64 0) := by rw [cell_at F1.out.res]; rfl
        have zc3 : w1.cell? ⟨w.heap.size + 3, 3, none⟩ = some (.slice none 0 0) := by rw [cell_at F1.out.res]; rfl
        have zf : ∀ j, w1.frozen? ⟨w.heap.size + 3, j, none⟩ = false := fun j => free_at F1.out.res j
        go_wp2_with fail
        refine (N1.out _).mono ?_;rintro e w2 ⟨rfl, rfl⟩;dsimp only
        go_wp2_with fail
        refine (N2.out _).mono ?_;rintro e w3 ⟨rfl, rfl⟩;dsimp only
        go_wp2_with fail
        refine (N3.out _).mono ?_;rintro e w4 ⟨rfl, hb⟩;dsimp only;have F2 := hideIt (F1.out.keep hb);clear hb F1 bc0 bc1 bc2 bc3 bf kc0 kc1 kc2 kc3 kf lc0 lc1 zc0 zc1 zc2 zc3 zf;have bc0 : w4.cell? ⟨w.heap.size, 0, none⟩ = some (.int .i64 t) := by rw [cell_at F2.out.box]; rfl
        have bc1 : w4.cell? ⟨w.heap.size, 1, none⟩ = some (.int .i64 v) := by rw [cell_at F2.out.box]; rfl
        have bc2 : w4.cell? ⟨w.heap.size, 2, none⟩ = some (.int .i64 r) := by rw [cell_at F2.out.box]; rfl
        have bc3 : w4.cell? ⟨w.heap.size, 3, none⟩ = some (g) := by rw [cell_at F2.out.box]; rfl
        have bf : ∀ j, w4.frozen? ⟨w.heap.size, j, none⟩ = false := fun j => free_at F2.out.box j
        have kc0 : w4.cell? ⟨w.heap.size + 1, 0, none⟩ = some (.int .i64 qf) := by rw [cell_at F2.out.q]; rfl
        have kc1 : w4.cell? ⟨w.heap.size + 1, 1, none⟩ = some (.int .i64 qt) := by rw [cell_at F2.out.q]; rfl
        have kc2 : w4.cell? ⟨w.heap.size + 1, 2, none⟩ = some (.int .i64 qi) := by rw [cell_at F2.out.q]; rfl
        have kc3 : w4.cell? ⟨w.heap.size + 1, 3, none⟩ = some (.int .i64 qm) := by rw [cell_at F2.out.q]; rfl
        have kf : ∀ j, w4.frozen? ⟨w.heap.size + 1, j, none⟩ = false := fun j => free_at F2.out.q j
        have lc0 : w4.cell? ⟨w.heap.size + 2, 0, none⟩ = some (.int .i64 li) := by rw [cell_at F2.out.last]; rfl
        have lc1 : w4.cell? ⟨w.heap.size + 2, 1, none⟩ = some (.int .i64 lm) := by rw [cell_at F2.out.last]; rfl
        have zc0 : w4.cell? ⟨w.heap.size + 3, 0, none⟩ = some (.int .i64 0) := by rw [cell_at F2.out.res]; rfl
        have zc1 : w4.cell? ⟨w.heap.size + 3, 1, none⟩ = some (.int .i64 0) := by rw [cell_at F2.out.res]; rfl
        have zc2 : w4.cell? ⟨w.heap.size + 3, 2, none⟩ = some (.int .i64 0) := by rw [cell_at F2.out.res]; rfl
        have zc3 : w4.cell? ⟨w.heap.size + 3, 3, none⟩ = some (.slice none 0 0) := by rw [cell_at F2.out.res]; rfl
        have zf : ∀ j, w4.frozen? ⟨w.heap.size + 3, j, none⟩ = false := fun j => free_at F2.out.res j
        go_wp2_with fail
        refine (N4.out _).mono ?_;rintro e w5 ⟨rfl, hb⟩;dsimp only;have F3 := hideIt (F2.out.keep hb);clear hb F2 bc0 bc1 bc2 bc3 bf kc0 kc1 kc2 kc3 kf lc0 lc1 zc0 zc1 zc2 zc3 zf;have bc0 : w5.cell? ⟨w.heap.size, 0, none⟩ = some (.int .i64 t) := by rw [cell_at F3.out.box]; rfl
        have bc1 : w5.cell? ⟨w.heap.size, 1, none⟩ = some (.int .i64 v) := by rw [cell_at F3.out.box]; rfl
        have bc2 : w5.cell? ⟨w.heap.size, 2, none⟩ = some (.int .i64 r) := by rw [cell_at F3.out.box]; rfl
        have bc3 : w5.cell? ⟨w.heap.size, 3, none⟩ = some (g) := by rw [cell_at F3.out.box]; rfl
        have bf : ∀ j, w5.frozen? ⟨w.heap.size, j, none⟩ = false := fun j => free_at F3.out.box j
        have kc0 : w5.cell? ⟨w.heap.size + 1, 0, none⟩ = some (.int .i64 qf) := by rw [cell_at F3.out.q]; rfl
        have kc1 : w5.cell? ⟨w.heap.size + 1, 1, none⟩ = some (.int .i64 qt) := by rw [cell_at F3.out.q]; rfl
        have kc2 : w5.cell? ⟨w.heap.size + 1, 2, none⟩ = some (.int .i64 qi) := by rw [cell_at F3.out.q]; rfl
        have kc3 : w5.cell? ⟨w.heap.size + 1, 3, none⟩ = some (.int .i64 qm) := by rw [cell_at F3.out.q]; rfl
        have kf : ∀ j, w5.frozen? ⟨w.heap.size + 1, j, none⟩ = false := fun j => free_at F3.out.q j
        have lc0 : w5.cell? ⟨w.heap.size + 2, 0, none⟩ = some (.int .i64 li) := by rw [cell_at F3.out.last]; rfl
        have lc1 : w5.cell? ⟨w.heap.size + 2, 1, none⟩ = some (.int .i64 lm) := by rw [cell_at F3.out.last]; rfl
        have zc0 : w5.cell? ⟨w.heap.size + 3, 0, none⟩ = some (.int .i64 0) := by rw [cell_at F3.out.res]; rfl
        have zc1 : w5.cell? ⟨w.heap.size + 3, 1, none⟩ = some (.int .i64 0) := by rw [cell_at F3.out.res]; rfl
        have zc2 : w5.cell? ⟨w.heap.size + 3, 2, none⟩ = some (.int .i64 0) := by rw [cell_at F3.out.res]; rfl
        have zc3 : w5.cell? ⟨w.heap.size + 3, 3, none⟩ = some (.slice none 0 0) := by rw [cell_at F3.out.res]; rfl
        have zf : ∀ j, w5.frozen? ⟨w.heap.size + 3, j, none⟩ = false := fun j => free_at F3.out.res j
        clear N1 N2 N3 N4
        go_wp2_with fail
        refine (HH.out _ F3.out.bel).mono ?_;rintro e w6 ⟨g2, rfl, h1, h2⟩;dsimp only;obtain ⟨a2, cc, rfl⟩ := own_len h1;have hs := hideIt F3.out.size;have F4 := hideIt ((F3.out.keep h2).keep (below1 w6 (.cells #[.int .i64 V.t, .int .i64 V.v, .int .i64 V.r, .slice a2 V.l.length cc] 146)));have HW := hideIt (own_keep h1 (below1 w6 (.cells #[.int .i64 V.t, .int .i64 V.v, .int .i64 V.r, .slice a2 V.l.length cc] 146)));have hbk : Hid (∀ k, (Value.slice a2 V.l.length cc).ownBlock = some k → k ≠ w6.heap.size) := fun k hk => by have := (own_block h1 hk).1; omega
        have hs6 : Hid (w.heap.size + 4 ≤ w6.heap.size) := Nat.le_trans hs.out h2.size;clear h1 h2 F3 HH bc0 bc1 bc2 bc3 bf kc0 kc1 kc2 kc3 kf lc0 lc1 zc0 zc1 zc2 zc3 zf;unfold balV;have kc0 : (w6.alloc (.cells #[.int .i64 V.t, .int .i64 V.v, .int .i64 V.r, .slice a2 V.l.length cc] 146)).cell? ⟨w.heap.size + 1, 0, none⟩ = some (.int .i64 qf) := by rw [cell_at F4.out.q]; rfl
        have kc1 : (w6.alloc (.cells #[.int .i64 V.t, .int .i64 V.v, .int .i64 V.r, .slice a2 V.l.length cc] 146)).cell? ⟨w.heap.size + 1, 1, none⟩ = some (.int .i64 qt) := by rw [cell_at F4.out.q]; rfl
        have kc2 : (w6.alloc (.cells #[.int .i64 V.t, .int .i64 V.v, .int .i64 V.r, .slice a2 V.l.length cc] 146)).cell? ⟨w.heap.size + 1, 2, none⟩ = some (.int .i64 qi) := by rw [cell_at F4.out.q]; rfl
        have kc3 : (w6.alloc (.cells #[.int .i64 V.t, .int .i64 V.v, .int .i64 V.r, .slice a2 V.l.length cc] 146)).cell? ⟨w.heap.size + 1, 3, none⟩ = some (.int .i64 qm) := by rw [cell_at F4.out.q]; rfl
        have kf : ∀ j, (w6.alloc (.cells #[.int .i64 V.t, .int .i64 V.v, .int .i64 V.r, .slice a2 V.l.length cc] 146)).frozen? ⟨w.heap.size + 1, j, none⟩ = false := fun j => free_at F4.out.q j
        have lc0 : (w6.alloc (.cells #[.int .i64 V.t, .int .i64 V.v, .int .i64 V.r, .slice a2 V.l.length cc] 146)).cell? ⟨w.heap.size + 2, 0, none⟩ = some (.int .i64 li) := by rw [cell_at F4.out.last]; rfl
        have lc1 : (w6.alloc (.cells #[.int .i64 V.t, .int .i64 V.v, .int .i64 V.r, .slice a2 V.l.length cc] 146)).cell? ⟨w.heap.size + 2, 1, none⟩ = some (.int .i64 lm) := by rw [cell_at F4.out.last]; rfl
        go_wp2_with fail
        refine (NF.out _ a2 cc).mono ?_;rintro e w7 ⟨rfl, hb⟩;dsimp only;have F5 := hideIt (F4.out.keep hb);have HY := hideIt (own_keep HW.out hb);have HE := hideIt ((hb.block w6.heap.size (by simp)).trans (heap_alloc_new w6 _));have hs7 : Hid (w6.heap.size < w7.heap.size) := (Array.getElem?_eq_some_iff.1 HE.out).1;clear hb F4 HW NF kc0 kc1 kc2 kc3 kf lc0 lc1;have ec0 : w7.cell? ⟨w6.heap.size, 0, none⟩ = some (.int .i64 V.t) := by rw [cell_at HE.out]; rfl
        have ec1 : w7.cell? ⟨w6.heap.size, 1, none⟩ = some (.int .i64 V.v) := by rw [cell_at HE.out]; rfl
        have ec2 : w7.cell? ⟨w6.heap.size, 2, none⟩ = some (.int .i64 V.r) := by rw [cell_at HE.out]; rfl
        have ec3 : w7.cell? ⟨w6.heap.size, 3, none⟩ = some (.slice a2 V.l.length cc) := by rw [cell_at HE.out]; rfl
        have ef : ∀ j, w7.frozen? ⟨w6.heap.size, j, none⟩ = false := fun j => free_at HE.out j
        have kc0 : w7.cell? ⟨w.heap.size + 1, 0, none⟩ = some (.int .i64 qf) := by rw [cell_at F5.out.q]; rfl
        have kc1 : w7.cell? ⟨w.heap.size + 1, 1, none⟩ = some (.int .i64 qt) := by rw [cell_at F5.out.q]; rfl
        have kc2 : w7.cell? ⟨w.heap.size + 1, 2, none⟩ = some (.int .i64 qi) := by rw [cell_at F5.out.q]; rfl
        have kc3 : w7.cell? ⟨w.heap.size + 1, 3, none⟩ = some (.int .i64 qm) := by rw [cell_at F5.out.q]; rfl
        have kf : ∀ j, w7.frozen? ⟨w.heap.size + 1, j, none⟩ = false := fun j => free_at F5.out.q j
        have lc0 : w7.cell? ⟨w.heap.size + 2, 0, none⟩ = some (.int .i64 li) := by rw [cell_at F5.out.last]; rfl
        have lc1 : w7.cell? ⟨w.heap.size + 2, 1, none⟩ = some (.int .i64 lm) := by rw [cell_at F5.out.last]; rfl
        have zc0 : w7.cell? ⟨w.heap.size + 3, 0, none⟩ = some (.int .i64 0) := by rw [cell_at F5.out.res]; rfl
        have zc1 : w7.cell? ⟨w.heap.size + 3, 1, none⟩ = some (.int .i64 0) := by rw [cell_at F5.out.res]; rfl
        have zc2 : w7.cell? ⟨w.heap.size + 3, 2, none⟩ = some (.int .i64 0) := by rw [cell_at F5.out.res]; rfl
        have zc3 : w7.cell? ⟨w.heap.size + 3, 3, none⟩ = some (.slice none 0 0) := by rw [cell_at F5.out.res]; rfl
        have zf : ∀ j, w7.frozen? ⟨w.heap.size + 3, j, none⟩ = false := fun j => free_at F5.out.res j
        go_wp2_with fail
        refine (HL.out _).mono ?_;rintro e w8 ⟨rfl, hb⟩;dsimp only;have F6 := hideIt (F5.out.keep hb);have HY2 := hideIt (own_keep HY.out hb);have HE2 := hideIt ((hb.block w6.heap.size hs7.out).trans HE.out);clear hb F5 HY HE HL kc0 kc1 kc2 kc3 kf lc0 lc1 ec0 ec1 ec2 ec3 ef zc0 zc1 zc2 zc3 zf;have ec0 : w8.cell? ⟨w6.heap.size, 0, none⟩ = some (.int .i64 V.t) := by rw [cell_at HE2.out]; rfl
        have ec1 : w8.cell? ⟨w6.heap.size, 1, none⟩ = some (.int .i64 V.v) := by rw [cell_at HE2.out]; rfl
        have ec2 : w8.cell? ⟨w6.heap.size, 2, none⟩ = some (.int .i64 V.r) := by rw [cell_at HE2.out]; rfl
        have ec3 : w8.cell? ⟨w6.heap.size, 3, none⟩ = some (.slice a2 V.l.length cc) := by rw [cell_at HE2.out]; rfl
        have ef : ∀ j, w8.frozen? ⟨w6.heap.size, j, none⟩ = false := fun j => free_at HE2.out j
        have kc0 : w8.cell? ⟨w.heap.size + 1, 0, none⟩ = some (.int .i64 qf) := by rw [cell_at F6.out.q]; rfl
        have kc1 : w8.cell? ⟨w.heap.size + 1, 1, none⟩ = some (.int .i64 qt) := by rw [cell_at F6.out.q]; rfl
        have kc2 : w8.cell? ⟨w.heap.size + 1, 2, none⟩ = some (.int .i64 qi) := by rw [cell_at F6.out.q]; rfl
        have kc3 : w8.cell? ⟨w.heap.size + 1, 3, none⟩ = some (.int .i64 qm) := by rw [cell_at F6.out.q]; rfl
        have kf : ∀ j, w8.frozen? ⟨w.heap.size + 1, j, none⟩ = false := fun j => free_at F6.out.q j
        have lc0 : w8.cell? ⟨w.heap.size + 2, 0, none⟩ = some (.int .i64 li) := by rw [cell_at F6.out.last]; rfl
        have lc1 : w8.cell? ⟨w.heap.size + 2, 1, none⟩ = some (.int .i64 lm) := by rw [cell_at F6.out.last]; rfl
        have zc0 : w8.cell? ⟨w.heap.size + 3, 0, none⟩ = some (.int .i64 0) := by rw [cell_at F6.out.res]; rfl
        have zc1 : w8.cell? ⟨w.heap.size + 3, 1, none⟩ = some (.int .i64 0) := by rw [cell_at F6.out.res]; rfl
        have zc2 : w8.cell? ⟨w.heap.size + 3, 2, none⟩ = some (.int .i64 0) := by rw [cell_at F6.out.res]; rfl
        have zc3 : w8.cell? ⟨w.heap.size + 3, 3, none⟩ = some (.slice none 0 0) := by rw [cell_at F6.out.res]; rfl
        have zf : ∀ j, w8.frozen? ⟨w.heap.size + 3, j, none⟩ = false := fun j => free_at F6.out.res j
        have hne : ¬ (w6.heap.size = w.heap.size + 3) := by have := hs6.out; omega
        have hne2 : ¬ (w.heap.size + 3 = w6.heap.size) := by have := hs6.out; omega
        have HZ : Hid ((w8.setCell ⟨w6.heap.size, 1, none⟩ (.int .i64 qf)).heap[w.heap.size + 3]? = some (.cells #[.int .i64 0, .int .i64 0, .int .i64 0, .slice none 0 0] 34 (0, 0))) := setOther _ F6.out.res hne2;have HF := fin4 (w := w) (.int .i64 V.t) (.int .i64 qf) (.int .i64 V.r) (.slice a2 V.l.length cc) HZ.out (by omega) (belowSet _ F6.out.bel (by have := hs6.out; omega))
        have HG := own4 (R := w.heap.size + 3) (.int .i64 V.t) (.int .i64 qf) (.int .i64 V.r) (.slice a2 V.l.length cc) (ownOther (b := w6.heap.size) (j := 1) (.int .i64 qf) HY2.out hbk.out) hs.out w.heap.size (by have := hs.out; omega)
        clear F6 HY2 HE2 hs hs6 hs7 hbk HZ;go_wp2;obtain ⟨e1, e2⟩ := HF.out;have e3 := HG.out
        revert e1 e2 e3
        generalize (World.setCell _ ⟨w.heap.size + 3, 3, none⟩ _) = W;intro e1 e2 e3;exact bodyPost_ret (v := .tuple #[balV ⟨V.t, qf, V.r, V.l⟩ (.slice a2 V.l.length cc), .bool true, .int .i64 0]) (by simp [results, Tryz.results162, go_sem, cell_at e1, balV]) rfl ⟨_, rfl, e3, e2⟩
       ·rw [hf] at NF;rw [hl] at HL;rw [hf, hl] at hA;rw [if_neg (by simp)] at hA;subst hA;clear hf hl
        go_enter Tryz.func162, Tryz.ntmps162
        go_wp2_with fail
        refine HM.out.mono ?_;rintro e w1 ⟨rfl, hb⟩;dsimp only;have F1 := hideIt (F0.out.keep hb);clear hb F0 HM;have bc0 : w1.cell? ⟨w.heap.size, 0, none⟩ = some (.int .i64 t) := by rw [cell_at F1.out.box]; rfl
        have bc1 : w1.cell? ⟨w.heap.size, 1, none⟩ = some (.int .i64 v) := by rw [cell_at F1.out.box]; rfl
        have bc2 : w1.cell? ⟨w.heap.size, 2, none⟩ = some (.int .i64 r) := by rw [cell_at F1.out.box]; rfl
        have bc3 : w1.cell? ⟨w.heap.size, 3, none⟩ = some (g) := by rw [cell_at F1.out.box]; rfl
        have bf : ∀ j, w1.frozen? ⟨w.heap.size, j, none⟩ = false := fun j => free_at F1.out.box j
        have kc0 : w1.cell? ⟨w.heap.size + 1, 0, none⟩ = some (.int .i64 qf) := by rw [cell_at F1.out.q]; rfl
        have kc1 : w1.cell? ⟨w.heap.size + 1, 1, none⟩ = some (.int .i64 qt) := by rw [cell_at F1.out.q]; rfl
        have kc2 : w1.cell? ⟨w.heap.size + 1, 2, none⟩ = some (.int .i64 qi) := by rw [cell_at F1.out.q]; rfl
        have kc3 : w1.cell? ⟨w.heap.size + 1, 3, none⟩ = some (.int .i64 qm) := by rw [cell_at F1.out.q]; rfl
        have kf : ∀ j, w1.frozen? ⟨w.heap.size + 1, j, none⟩ = false := fun j => free_at F1.out.q j
        have lc0 : w1.cell? ⟨w.heap.size + 2, 0, none⟩ = some (.int .i64 li) := by rw [cell_at F1.out.last]; rfl
        have lc1 : w1.cell? ⟨w.heap.size + 2, 1, none⟩ = some (.int .i64 lm) := by rw [cell_at F1.out.last]; rfl
        have zc0 : w1.cell? ⟨w.heap.size + 3, 0, none⟩ = some (.int .i64 0) := by rw [cell_at F1.out.res]; rfl
        have zc1 : w1.cell? ⟨w.heap.size + 3, 1, none⟩ = some (.int .i64 0) := by rw [cell_at F1.out.res]; rfl
        have zc2 : w1.cell? ⟨w.heap.size + 3, 2, none⟩ = some (.int .i64 0) := by rw [cell_at F1.out.res]; rfl
        have zc3 : w1.cell? ⟨w.heap.size + 3, 3, none⟩ = some (.slice none 0 0) := by rw [cell_at F1.out.res]; rfl
        have zf : ∀ j, w1.frozen? ⟨w.heap.size + 3, j, none⟩ = false := fun j => free_at F1.out.res j
        go_wp2_with fail
        refine (N1.out _).mono ?_;rintro e w2 ⟨rfl, rfl⟩;dsimp only
        go_wp2_with fail
        refine (N2.out _).mono ?_;rintro e w3 ⟨rfl, rfl⟩;dsimp only
        go_wp2_with fail
        refine (N3.out _).mono ?_;rintro e w4 ⟨rfl, hb⟩;dsimp only;have F2 := hideIt (F1.out.keep hb);clear hb F1 bc0 bc1 bc2 bc3 bf kc0 kc1 kc2 kc3 kf lc0 lc1 zc0 zc1 zc2 zc3 zf;have bc0 : w4.cell? ⟨w.heap.size, 0, none⟩ = some (.int .i64 t) := by rw [cell_at F2.out.box]; rfl
        have bc1 : w4.cell? ⟨w.heap.size, 1, none⟩ = some (.int .i64 v) := by rw [cell_at F2.out.box]; rfl
        have bc2 : w4.cell? ⟨w.heap.size, 2, none⟩ = some (.int .i64 r) := by rw [cell_at F2.out.box]; rfl
        have bc3 : w4.cell? ⟨w.heap.size, 3, none⟩ = some (g) := by rw [cell_at F2.out.box]; rfl
        have bf : ∀ j, w4.frozen? ⟨w.heap.size, j, none⟩ = false := fun j => free_at F2.out.box j
        have kc0 : w4.cell? ⟨w.heap.size + 1, 0, none⟩ = some (.int .i64 qf) := by rw [cell_at F2.out.q]; rfl
        have kc1 : w4.cell? ⟨w.heap.size + 1, 1, none⟩ = some (.int .i64 qt) := by rw [cell_at F2.out.q]; rfl
        have kc2 : w4.cell? ⟨w.heap.size + 1, 2, none⟩ = some (.int .i64 qi) := by rw [cell_at F2.out.q]; rfl
        have kc3 : w4.cell? ⟨w.heap.size + 1, 3, none⟩ = some (.int .i64 qm) := by rw [cell_at F2.out.q]; rfl
        have kf : ∀ j, w4.frozen? ⟨w.heap.size + 1, j, none⟩ = false := fun j => free_at F2.out.q j
        have lc0 : w4.cell? ⟨w.heap.size + 2, 0, none⟩ = some (.int .i64 li) := by rw [cell_at F2.out.last]; rfl
        have lc1 : w4.cell? ⟨w.heap.size + 2, 1, none⟩ = some (.int .i64 lm) := by rw [cell_at F2.out.last]; rfl
        have zc0 : w4.cell? ⟨w.heap.size + 3, 0, none⟩ = some (.int .i64 0) := by rw [cell_at F2.out.res]; rfl
        have zc1 : w4.cell? ⟨w.heap.size + 3, 1, none⟩ = some (.int .i64 0) := by rw [cell_at F2.out.res]; rfl
        have zc2 : w4.cell? ⟨w.heap.size + 3, 2, none⟩ = some (.int .i64 0) := by rw [cell_at F2.out.res]; rfl
        have zc3 : w4.cell? ⟨w.heap.size + 3, 3, none⟩ = some (.slice none 0 0) := by rw [cell_at F2.out.res]; rfl
        have zf : ∀ j, w4.frozen? ⟨w.heap.size + 3, j, none⟩ = false := fun j => free_at F2.out.res j
        go_wp2_with fail
        refine (N4.out _).mono ?_;rintro e w5 ⟨rfl, hb⟩;dsimp only;have F3 := hideIt (F2.out.keep hb);clear hb F2 bc0 bc1 bc2 bc3 bf kc0 kc1 kc2 kc3 kf lc0 lc1 zc0 zc1 zc2 zc3 zf;have bc0 : w5.cell? ⟨w.heap.size, 0, none⟩ = some (.int .i64 t) := by rw [cell_at F3.out.box]; rfl
        have bc1 : w5.cell? ⟨w.heap.size, 1, none⟩ = some (.int .i64 v) := by rw [cell_at F3.out.box]; rfl
        have bc2 : w5.cell? ⟨w.heap.size, 2, none⟩ = some (.int .i64 r) := by rw [cell_at F3.out.box]; rfl
        have bc3 : w5.cell? ⟨w.heap.size, 3, none⟩ = some (g) := by rw [cell_at F3.out.box]; rfl
        have bf : ∀ j, w5.frozen? ⟨w.heap.size, j, none⟩ = false := fun j => free_at F3.out.box j
        have kc0 : w5.cell? ⟨w.heap.size + 1, 0, none⟩ = some (.int .i64 qf) := by rw [cell_at F3.out.q]; rfl
        have kc1 : w5.cell? ⟨w.heap.size + 1, 1, none⟩ = some (.int .i64 qt) := by rw [cell_at F3.out.q]; rfl
        have kc2 : w5.cell? ⟨w.heap.size + 1, 2, none⟩ = some (.int .i64 qi) := by rw [cell_at F3.out.q]; rfl
        have kc3 : w5.cell? ⟨w.heap.size + 1, 3, none⟩ = some (.int .i64 qm) := by rw [cell_at F3.out.q]; rfl
        have kf : ∀ j, w5.frozen? ⟨w.heap.size + 1, j, none⟩ = false := fun j => free_at F3.out.q j
        have lc0 : w5.cell? ⟨w.heap.size + 2, 0, none⟩ = some (.int .i64 li) := by rw [cell_at F3.out.last]; rfl
        have lc1 : w5.cell? ⟨w.heap.size + 2, 1, none⟩ = some (.int .i64 lm) := by rw [cell_at F3.out.last]; rfl
        have zc0 : w5.cell? ⟨w.heap.size + 3, 0, none⟩ = some (.int .i64 0) := by rw [cell_at F3.out.res]; rfl
        have zc1 : w5.cell? ⟨w.heap.size + 3, 1, none⟩ = some (.int .i64 0) := by rw [cell_at F3.out.res]; rfl
        have zc2 : w5.cell? ⟨w.heap.size + 3, 2, none⟩ = some (.int .i64 0) := by rw [cell_at F3.out.res]; rfl
        have zc3 : w5.cell? ⟨w.heap.size + 3, 3, none⟩ = some (.slice none 0 0) := by rw [cell_at F3.out.res]; rfl
        have zf : ∀ j, w5.frozen? ⟨w.heap.size + 3, j, none⟩ = false := fun j => free_at F3.out.res j
        clear N1 N2 N3 N4
        go_wp2_with fail
        refine (HH.out _ F3.out.bel).mono ?_;rintro e w6 ⟨g2, rfl, h1, h2⟩;dsimp only;obtain ⟨a2, cc, rfl⟩ := own_len h1;have hs := hideIt F3.out.size;have F4 := hideIt ((F3.out.keep h2).keep (below1 w6 (.cells #[.int .i64 V.t, .int .i64 V.v, .int .i64 V.r, .slice a2 V.l.length cc] 146)));have HW := hideIt (own_keep h1 (below1 w6 (.cells #[.int .i64 V.t, .int .i64 V.v, .int .i64 V.r, .slice a2 V.l.length cc] 146)));have hbk : Hid (∀ k, (Value.slice a2 V.l.length cc).ownBlock = some k → k ≠ w6.heap.size) := fun k hk => by have := (own_block h1 hk).1; omega
        have hs6 : Hid (w.heap.size + 4 ≤ w6.heap.size) := Nat.le_trans hs.out h2.size;clear h1 h2 F3 HH bc0 bc1 bc2 bc3 bf kc0 kc1 kc2 kc3 kf lc0 lc1 zc0 zc1 zc2 zc3 zf;unfold balV;have kc0 : (w6.alloc (.cells #[.int .i64 V.t, .int .i64 V.v, .int .i64 V.r, .slice a2 V.l.length cc] 146)).cell? ⟨w.heap.size + 1, 0, none⟩ = some (.int .i64 qf) := by rw [cell_at F4.out.q]; rfl
        have kc1 : (w6.alloc (.cells #[.int .i64 V.t, .int .i64 V.v, .int .i64 V.r, .slice a2 V.l.length cc] 146)).cell? ⟨w.heap.size + 1, 1, none⟩ = some (.int .i64 qt) := by rw [cell_at F4.out.q]; rfl
        have kc2 : (w6.alloc (.cells #[.int .i64 V.t, .int .i64 V.v, .int .i64 V.r, .slice a2 V.l.length cc] 146)).cell? ⟨w.heap.size + 1, 2, none⟩ = some (.int .i64 qi) := by rw [cell_at F4.out.q]; rfl
        have kc3 : (w6.alloc (.cells #[.int .i64 V.t, .int .i64 V.v, .int .i64 V.r, .slice a2 V.l.length cc] 146)).cell? ⟨w.heap.size + 1, 3, none⟩ = some (.int .i64 qm) := by rw [cell_at F4.out.q]; rfl
        have kf : ∀ j, (w6.alloc (.cells #[.int .i64 V.t, .int .i64 V.v, .int .i64 V.r, .slice a2 V.l.length cc] 146)).frozen? ⟨w.heap.size + 1, j, none⟩ = false := fun j => free_at F4.out.q j
        have lc0 : (w6.alloc (.cells #[.int .i64 V.t, .int .i64 V.v, .int .i64 V.r, .slice a2 V.l.length cc] 146)).cell? ⟨w.heap.size + 2, 0, none⟩ = some (.int .i64 li) := by rw [cell_at F4.out.last]; rfl
        have lc1 : (w6.alloc (.cells #[.int .i64 V.t, .int .i64 V.v, .int .i64 V.r, .slice a2 V.l.length cc] 146)).cell? ⟨w.heap.size + 2, 1, none⟩ = some (.int .i64 lm) := by rw [cell_at F4.out.last]; rfl
        go_wp2_with fail
        refine (NF.out _ a2 cc).mono ?_;rintro e w7 ⟨rfl, hb⟩;dsimp only;have F5 := hideIt (F4.out.keep hb);have HY := hideIt (own_keep HW.out hb);have HE := hideIt ((hb.block w6.heap.size (by simp)).trans (heap_alloc_new w6 _));have hs7 : Hid (w6.heap.size < w7.heap.size) := (Array.getElem?_eq_some_iff.1 HE.out).1;clear hb F4 HW NF kc0 kc1 kc2 kc3 kf lc0 lc1;have ec0 : w7.cell? ⟨w6.heap.size, 0, none⟩ = some (.int .i64 V.t) := by rw [cell_at HE.out]; rfl
        have ec1 : w7.cell? ⟨w6.heap.size, 1, none⟩ = some (.int .i64 V.v) := by rw [cell_at HE.out]; rfl
        have ec2 : w7.cell? ⟨w6.heap.size, 2, none⟩ = some (.int .i64 V.r) := by rw [cell_at HE.out]; rfl
        have ec3 : w7.cell? ⟨w6.heap.size, 3, none⟩ = some (.slice a2 V.l.length cc) := by rw [cell_at HE.out]; rfl
        have ef : ∀ j, w7.frozen? ⟨w6.heap.size, j, none⟩ = false := fun j => free_at HE.out j
        have kc0 : w7.cell? ⟨w.heap.size + 1, 0, none⟩ = some (.int .i64 qf) := by rw [cell_at F5.out.q]; rfl
        have kc1 : w7.cell? ⟨w.heap.size + 1, 1, none⟩ = some (.int .i64 qt) := by rw [cell_at F5.out.q]; rfl
        have kc2 : w7.cell? ⟨w.heap.size + 1, 2, none⟩ = some (.int .i64 qi) := by rw [cell_at F5.out.q]; rfl
        have kc3 : w7.cell? ⟨w.heap.size + 1, 3, none⟩ = some (.int .i64 qm) := by rw [cell_at F5.out.q]; rfl
        have kf : ∀ j, w7.frozen? ⟨w.heap.size + 1, j, none⟩ = false := fun j => free_at F5.out.q j
        have lc0 : w7.cell? ⟨w.heap.size + 2, 0, none⟩ = some (.int .i64 li) := by rw [cell_at F5.out.last]; rfl
        have lc1 : w7.cell? ⟨w.heap.size + 2, 1, none⟩ = some (.int .i64 lm) := by rw [cell_at F5.out.last]; rfl
        have zc0 : w7.cell? ⟨w.heap.size + 3, 0, none⟩ = some (.int .i64 0) := by rw [cell_at F5.out.res]; rfl
        have zc1 : w7.cell? ⟨w.heap.size + 3, 1, none⟩ = some (.int .i64 0) := by rw [cell_at F5.out.res]; rfl
        have zc2 : w7.cell? ⟨w.heap.size + 3, 2, none⟩ = some (.int .i64 0) := by rw [cell_at F5.out.res]; rfl
        have zc3 : w7.cell? ⟨w.heap.size + 3, 3, none⟩ = some (.slice none 0 0) := by rw [cell_at F5.out.res]; rfl
        have zf : ∀ j, w7.frozen? ⟨w.heap.size + 3, j, none⟩ = false := fun j => free_at F5.out.res j
        go_wp2_with fail
        refine (HL.out _).mono ?_;rintro e w8 ⟨rfl, hb⟩;dsimp only;have F6 := hideIt (F5.out.keep hb);have HY2 := hideIt (own_keep HY.out hb);have HE2 := hideIt ((hb.block w6.heap.size hs7.out).trans HE.out);clear hb F5 HY HE HL kc0 kc1 kc2 kc3 kf lc0 lc1 ec0 ec1 ec2 ec3 ef zc0 zc1 zc2 zc3 zf;have ec0 : w8.cell? ⟨w6.heap.size, 0, none⟩ = some (.int .i64 V.t) := by rw [cell_at HE2.out]; rfl
        have ec1 : w8.cell? ⟨w6.heap.size, 1, none⟩ = some (.int .i64 V.v) := by rw [cell_at HE2.out]; rfl
        have ec2 : w8.cell? ⟨w6.heap.size, 2, none⟩ = some (.int .i64 V.r) := by rw [cell_at HE2.out]; rfl
        have ec3 : w8.cell? ⟨w6.heap.size, 3, none⟩ = some (.slice a2 V.l.length cc) := by rw [cell_at HE2.out]; rfl
        have ef : ∀ j, w8.frozen? ⟨w6.heap.size, j, none⟩ = false := fun j => free_at HE2.out j
        have kc0 : w8.cell? ⟨w.heap.size + 1, 0, none⟩ = some (.int .i64 qf) := by rw [cell_at F6.out.q]; rfl
        have kc1 : w8.cell? ⟨w.heap.size + 1, 1, none⟩ = some (.int .i64 qt) := by rw [cell_at F6.out.q]; rfl
        have kc2 : w8.cell? ⟨w.heap.size + 1, 2, none⟩ = some (.int .i64 qi) := by rw [cell_at F6.out.q]; rfl
        have kc3 : w8.cell? ⟨w.heap.size + 1, 3, none⟩ = some (.int .i64 qm) := by rw [cell_at F6.out.q]; rfl
        have kf : ∀ j, w8.frozen? ⟨w.heap.size + 1, j, none⟩ = false := fun j => free_at F6.out.q j
        have lc0 : w8.cell? ⟨w.heap.size + 2, 0, none⟩ = some (.int .i64 li) := by rw [cell_at F6.out.last]; rfl
        have lc1 : w8.cell? ⟨w.heap.size + 2, 1, none⟩ = some (.int .i64 lm) := by rw [cell_at F6.out.last]; rfl
        have zc0 : w8.cell? ⟨w.heap.size + 3, 0, none⟩ = some (.int .i64 0) := by rw [cell_at F6.out.res]; rfl
        have zc1 : w8.cell? ⟨w.heap.size + 3, 1, none⟩ = some (.int .i64 0) := by rw [cell_at F6.out.res]; rfl
        have zc2 : w8.cell? ⟨w.heap.size + 3, 2, none⟩ = some (.int .i64 0) := by rw [cell_at F6.out.res]; rfl
        have zc3 : w8.cell? ⟨w.heap.size + 3, 3, none⟩ = some (.slice none 0 0) := by rw [cell_at F6.out.res]; rfl
        have zf : ∀ j, w8.frozen? ⟨w.heap.size + 3, j, none⟩ = false := fun j => free_at F6.out.res j
        have HF := fin4 (w := w) (.int .i64 V.t) (.int .i64 V.v) (.int .i64 V.r) (.slice a2 V.l.length cc) F6.out.res (by omega) F6.out.bel;have HG := own4 (R := w.heap.size + 3) (.int .i64 V.t) (.int .i64 V.v) (.int .i64 V.r) (.slice a2 V.l.length cc) HY2.out hs.out w.heap.size (by have := hs.out; omega)
        clear F6 HY2 HE2 hs hs6 hs7 hbk;go_wp2;obtain ⟨e1, e2⟩ := HF.out;have e3 := HG.out
        revert e1 e2 e3
        generalize (World.setCell _ ⟨w.heap.size + 3, 3, none⟩ _) = W;intro e1 e2 e3;exact bodyPost_ret (v := .tuple #[balV V (.slice a2 V.l.length cc), .bool false, .int .i64 0]) (by simp [results, Tryz.results162, go_sem, cell_at e1, balV]) rfl ⟨_, rfl, e3, e2⟩
end Go.Proofs.YtcaehfkfohianaaGreat.Tm
