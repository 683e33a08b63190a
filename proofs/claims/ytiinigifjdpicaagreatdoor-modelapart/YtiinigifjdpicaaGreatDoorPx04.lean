/- Texts of my own, laid together. -/
import Derived.Test.YtiinigifjdpicaaGreatDoorPx03
import Derived.Deep.LoopGhost
namespace Go.Proofs.YtiinigifjdpicaaGreatDoor
open Go.RowKit
set_option linter.all false
def setB (s : Int) (o r : OrdV) : OrdV := if s = 2 then r else o
def setS (s : Int) (o r : OrdV) : OrdV := if s = 2 then o else r
def setO (s : Int) (o r : OrdV) (n : Int) (l : List OweV) : List OweV :=
 let l2 := oweL (setS s o r).acc 0 (r.price * n) (oweL (setB s o r).acc 1 n l)
 if r.price < (setB s o r).price then oweL (setB s o r).acc 0 (((setB s o r).price - r.price) * n) l2 else l2
def setF (s : Int) (o r : OrdV) (n : Int) : FillV := ⟨(setB s o r).acc, (setS s o r).acc, r.price, n⟩
def dealL (L : LaneV) (l : List OweV) : LaneV := ⟨L.call, L.next, L.bids, L.asks, l⟩
theorem okO_set {c : Nat} {l : List OweV} {s : Int} {o r : OrdV} {n : Int} (h : OkO c l) (hn : 0 ≤ n ∧ n ≤ 1000000) (ho : 0 ≤ o.price ∧ o.price ≤ 1000000) (hr : 0 ≤ r.price ∧ r.price ≤ 1000000) : OkO (c + 3) (setO s o r n l) := by
 have h1 := okO_owe (acc := (setB s o r).acc) (asset := 1) h (show 0 ≤ n ∧ n ≤ 1000000000000 by omega);have hm : 0 ≤ r.price * n ∧ r.price * n ≤ 1000000000000 := ⟨Int.mul_nonneg hr.1 hn.1, by
  have := Int.mul_le_mul hr.2 hn.2 hn.1 (by omega : (0 : Int) ≤ 1000000)
  omega⟩
 have h2 := okO_owe (acc := (setS s o r).acc) (asset := 0) h1 hm;unfold setO
 simp only
 split
 ·rename_i hlt
  have hb : (setB s o r).price ≤ 1000000 := by unfold setB; split <;> omega
  refine okO_owe h2 ⟨Int.mul_nonneg (by omega) hn.1, ?_⟩;have := Int.mul_le_mul (show (setB s o r).price - r.price ≤ 1000000 by omega) hn.2 hn.1 (by omega : (0 : Int) ≤ 1000000);omega
 ·exact ⟨by have := h2.1; omega, fun y hy => by have := h2.2 y hy; omega⟩
structure B4 (w : World) (p q : Nat) (x y : OrdV) (r : OrdV) (wx : World) : Prop where
 ne : p ≠ q
 lp : w.heap.size + 2 ≤ p
 lq : w.heap.size + 2 ≤ q
 bp : wx.heap[p]? = some (.cells (ordE x).toArray 115 (0, 0))
 bq : wx.heap[q]? = some (.cells (ordE y).toArray 115 (0, 0))
 br : wx.heap[w.heap.size + 1]? = some (.cells (ordE r).toArray 115 (0, 0))
 bel : Below w.heap.size w wx
theorem B4.cells {w : World} {p q : Nat} {x y r : OrdV} {wx : World} (h : B4 w p q x y r wx) : wx.cell? ⟨p, 1, none⟩ = some (.int .i64 x.acc) ∧ wx.cell? ⟨p, 2, none⟩ = some (.int .i64 x.price) ∧ wx.cell? ⟨q, 1, none⟩ = some (.int .i64 y.acc) ∧ wx.cell? ⟨w.heap.size + 1, 2, none⟩ = some (.int .i64 r.price) :=
 ⟨by rw [cell_at h.bp]; rfl, by rw [cell_at h.bp]; rfl, by rw [cell_at h.bq]; rfl, by rw [cell_at h.br]; rfl⟩
theorem b4_one (w : World) (x r : OrdV) : B4 w (w.heap.size + 2) (w.heap.size + 2 + 1) x r r ((((w.alloc (.cells (ordE x).toArray 115)).alloc (.cells (ordE r).toArray 115)).alloc (.cells (ordE x).toArray 115)).alloc (.cells (ordE r).toArray 115)).drew ∧ Below ((w.alloc (.cells (ordE x).toArray 115)).alloc (.cells (ordE r).toArray 115)).heap.size ((w.alloc (.cells (ordE x).toArray 115)).alloc (.cells (ordE r).toArray 115)) ((((w.alloc (.cells (ordE x).toArray 115)).alloc (.cells (ordE r).toArray 115)).alloc (.cells (ordE x).toArray 115)).alloc (.cells (ordE r).toArray 115)).drew := by
 have h1 := two_heap w (.cells (ordE x).toArray 115) (.cells (ordE r).toArray 115);have hb1 := below2 w (.cells (ordE x).toArray 115) (.cells (ordE r).toArray 115);generalize (w.alloc (.cells (ordE x).toArray 115)).alloc (.cells (ordE r).toArray 115) = w0 at *;have h2 := two_heap w0 (.cells (ordE x).toArray 115) (.cells (ordE r).toArray 115);have hb2 := below2 w0 (.cells (ordE x).toArray 115) (.cells (ordE r).toArray 115);rw [h1.2.2] at h2
 exact ⟨⟨by omega, by omega, by omega, h2.1, h2.2.1, (hb2.block _ (by omega)).trans h1.2.1, (below_via hb1 hb2).drew⟩, hb2.drew⟩
theorem b4_two (w : World) (x r : OrdV) : B4 w (w.heap.size + 2 + 1) (w.heap.size + 2) x r r ((((w.alloc (.cells (ordE x).toArray 115)).alloc (.cells (ordE r).toArray 115)).alloc (.cells (ordE r).toArray 115)).alloc (.cells (ordE x).toArray 115)).drew ∧ Below ((w.alloc (.cells (ordE x).toArray 115)).alloc (.cells (ordE r).toArray 115)).heap.size ((w.alloc (.cells (ordE x).toArray 115)).alloc (.cells (ordE r).toArray 115)) ((((w.alloc (.cells (ordE x).toArray 115)).alloc (.cells (ordE r).toArray 115)).alloc (.cells (ordE r).toArray 115)).alloc (.cells (ordE x).toArray 115)).drew := by
 have h1 := two_heap w (.cells (ordE x).toArray 115) (.cells (ordE r).toArray 115);have hb1 := below2 w (.cells (ordE x).toArray 115) (.cells (ordE r).toArray 115);generalize (w.alloc (.cells (ordE x).toArray 115)).alloc (.cells (ordE r).toArray 115) = w0 at *;have h2 := two_heap w0 (.cells (ordE r).toArray 115) (.cells (ordE x).toArray 115);have hb2 := below2 w0 (.cells (ordE r).toArray 115) (.cells (ordE x).toArray 115);rw [h1.2.2] at h2
 exact ⟨⟨by omega, by omega, by omega, h2.2.1, h2.1, (hb2.block _ (by omega)).trans h1.2.1, (below_via hb1 hb2).drew⟩, hb2.drew⟩
theorem put4w_other {w : World} {p k : Nat} (x : OrdV) {o : Option Obj} (h : w.heap[k]? = o) (hk : k ≠ p) : (put4w w p x).heap[k]? = o := setOther _ (setOther _ (setOther _ (setOther _ h hk) hk) hk) hk
theorem put4w_below {w w0 : World} {B p : Nat} (x : OrdV) (h : Below B w0 w) (hp : B ≤ p) : Below B w0 (put4w w p x) := belowSet _ (belowSet _ (belowSet _ (belowSet _ h hp) hp) hp) hp
theorem cells8 {W : World} {A C : Nat} {x r : OrdV} (h1 : W.heap[A]? = some (.cells (ordE x).toArray 115 (0, 0))) (h2 : W.heap[C]? = some (.cells (ordE r).toArray 115 (0, 0))) : W.cell? ⟨A, 0, none⟩ = some (.int .i64 x.id) ∧ W.cell? ⟨A, 1, none⟩ = some (.int .i64 x.acc) ∧ W.cell? ⟨A, 2, none⟩ = some (.int .i64 x.price) ∧ W.cell? ⟨A, 3, none⟩ = some (.int .i64 x.left) ∧ W.cell? ⟨C, 0, none⟩ = some (.int .i64 r.id) ∧ W.cell? ⟨C, 1, none⟩ = some (.int .i64 r.acc) ∧ W.cell? ⟨C, 2, none⟩ = some (.int .i64 r.price) ∧ W.cell? ⟨C, 3, none⟩ = some (.int .i64 r.left) :=
 ⟨by rw [cell_at h1]; rfl, by rw [cell_at h1]; rfl, by rw [cell_at h1]; rfl, by rw [cell_at h1]; rfl, by rw [cell_at h2]; rfl, by rw [cell_at h2]; rfl, by rw [cell_at h2]; rfl, by rw [cell_at h2]; rfl⟩
theorem b4_swap1 {w wx w0 : World} {p q : Nat} {x r : OrdV} (h : B4 w p q x r r wx) (hb : Below w0.heap.size w0 wx) (hs : w0.heap.size = w.heap.size + 2) : B4 w p q r x r (put4w (put4w wx p r) q x) ∧ Below w0.heap.size w0 (put4w (put4w wx p r) q x) := by
 have hp := h.lp;have hq := h.lq
 exact ⟨⟨h.ne, hp, hq, put4w_other _ (put4w_at h.bp) h.ne, put4w_at (put4w_other _ h.bq h.ne.symm), put4w_other _ (put4w_other _ h.br (by omega)) (by omega), put4w_below _ (put4w_below _ h.bel (by omega)) (by omega)⟩, put4w_below _ (put4w_below _ hb (by omega)) (by omega)⟩
theorem b4_swap2 {w wx w0 : World} {p q : Nat} {x r : OrdV} (h : B4 w p q x r r wx) (hb : Below w0.heap.size w0 wx) (hs : w0.heap.size = w.heap.size + 2) : B4 w p q r x r (put4w (put4w wx q x) p r) ∧ Below w0.heap.size w0 (put4w (put4w wx q x) p r) := by
 have hp := h.lp;have hq := h.lq
 exact ⟨⟨h.ne, hp, hq, put4w_at (put4w_other _ h.bp h.ne), put4w_other _ (put4w_at h.bq) h.ne.symm, put4w_other _ (put4w_other _ h.br (by omega)) (by omega), put4w_below _ (put4w_below _ h.bel (by omega)) (by omega)⟩, put4w_below _ (put4w_below _ hb (by omega)) (by omega)⟩
theorem deal_fill {D B : Nat} {L : LaneV} {F F2 : List FillV} {b a o f f' : Value} {W w' : World} (hW : Deal D B L F b a o f W) (ho : w'.ownsRow B 106 4 f' F2.length (celC filE F2)) (hg : W.grownBy w' f.ownBlock) : Deal D B L F2 b a o f' (w'.setCell ⟨D, 5, none⟩ f') ∧ Tch D B W (w'.setCell ⟨D, 5, none⟩ f') ∧ w'.cell? ⟨D, 5, none⟩ = some f ∧ w'.frozen? ⟨D, 5, none⟩ = false ∧ D < w'.heap.size := by
 have hbx := box_type hg hW.fl hW.box (by decide)
 exact ⟨⟨heap_set hbx 5 f', own_cell (own_type hg hW.fl hW.ob (by decide)) hbx (by decide), own_cell (own_type hg hW.fl hW.oa (by decide)) hbx (by decide), own_cell (own_type hg hW.fl hW.oo (by decide)) hbx (by decide), own_cell ho hbx (by decide), hW.sep⟩, (Tch.ofGrownF hg hW.fl).trans (Tch.ofSet _ _), by rw [cell_at hbx]; rfl, free_at hbx 5, (Array.getElem?_eq_some_iff.1 hbx).1⟩
set_option maxHeartbeats 16000000 in
set_option maxRecDepth 100000 in
theorem settle_is (D B c : Nat) (L : LaneV) (F : List FillV) (b a o f : Value) (s : Int) (x r : OrdV) (n : Int) (w : World) (h : Deal D B L F b a o f w) (hB : B ≤ w.heap.size) (hO : OkO c L.owed) (hc : c ≤ 900) (hF : F.length ≤ 1000) (hs : s = 1 ∨ s = 2) (hn : 0 ≤ n ∧ n ≤ 1000000) (hx : 0 ≤ x.price ∧ x.price ≤ 1000000) (hr : 0 ≤ r.price ∧ r.price ≤ 1000000) :
  Calls Tryz.prog 140 #[.pointer (some ⟨D, 0, none⟩), .int .i64 s, .agg (ordE x).toArray, .agg (ordE r).toArray, .int .i64 n] w fun e w' => e = .returned (.tuple #[]) ∧ ∃ o' f', Deal D B (dealL L (setO s x r n L.owed)) (F ++ [setF s x r n]) b a o' f' w' ∧ Tch D B w w' := by
 have HT2 := two_heap w (.cells (ordE x).toArray 115) (.cells (ordE r).toArray 115);have HB2 := hideIt (below2 w (.cells (ordE x).toArray 115) (.cells (ordE r).toArray 115));have k0 : ((w.alloc (.cells (ordE x).toArray 115)).alloc (.cells (ordE r).toArray 115)).cell? ⟨w.heap.size, 0, none⟩ = some (.int .i64 x.id) := by rw [cell_at HT2.1]; rfl
 have k1 : ((w.alloc (.cells (ordE x).toArray 115)).alloc (.cells (ordE r).toArray 115)).cell? ⟨w.heap.size, 1, none⟩ = some (.int .i64 x.acc) := by rw [cell_at HT2.1]; rfl
 have k2 : ((w.alloc (.cells (ordE x).toArray 115)).alloc (.cells (ordE r).toArray 115)).cell? ⟨w.heap.size, 2, none⟩ = some (.int .i64 x.price) := by rw [cell_at HT2.1]; rfl
 have k3 : ((w.alloc (.cells (ordE x).toArray 115)).alloc (.cells (ordE r).toArray 115)).cell? ⟨w.heap.size, 3, none⟩ = some (.int .i64 x.left) := by rw [cell_at HT2.1]; rfl
 have r0 : ((w.alloc (.cells (ordE x).toArray 115)).alloc (.cells (ordE r).toArray 115)).cell? ⟨w.heap.size + 1, 0, none⟩ = some (.int .i64 r.id) := by rw [cell_at HT2.2.1]; rfl
 have r1 : ((w.alloc (.cells (ordE x).toArray 115)).alloc (.cells (ordE r).toArray 115)).cell? ⟨w.heap.size + 1, 1, none⟩ = some (.int .i64 r.acc) := by rw [cell_at HT2.2.1]; rfl
 have r2 : ((w.alloc (.cells (ordE x).toArray 115)).alloc (.cells (ordE r).toArray 115)).cell? ⟨w.heap.size + 1, 2, none⟩ = some (.int .i64 r.price) := by rw [cell_at HT2.2.1]; rfl
 have r3 : ((w.alloc (.cells (ordE x).toArray 115)).alloc (.cells (ordE r).toArray 115)).cell? ⟨w.heap.size + 1, 3, none⟩ = some (.int .i64 r.left) := by rw [cell_at HT2.2.1]; rfl
 have hsz := HT2.2.2;have E1 := hideIt HT2.1;have E2 := hideIt HT2.2.1;clear HT2;obtain ⟨fa, fc, rfl⟩ := own_len h.fl;have X0 := hideIt (h.keep HB2.out);have hDl := h.lt;have HOK := hideIt hO;obtain ⟨F2, hF2⟩ : ∃ F2, F2 = F ++ [setF s x r n] := ⟨_, rfl⟩;rw [← hF2];have HF2 := hideIt hF2;clear hF2;obtain ⟨O3, hO3⟩ : ∃ O3, O3 = setO s x r n L.owed := ⟨_, rfl⟩;rw [← hO3];have HO3 := hideIt hO3;clear hO3;have HOW : Hid (∀ L' F' o' f' acc asset m W c', Deal D B L' F' b a o' f' W → B ≤ W.heap.size → OkO c' L'.owed → c' ≤ 1000 → (0 ≤ m ∧ m ≤ 1000000000000) → Calls Tryz.prog 142 #[.pointer (some ⟨D, 0, none⟩), .int .i64 acc, .int .i64 asset, .int .i64 m] W fun e w' => e = .returned (.tuple #[]) ∧ ∃ o', Deal D B (dealO L' acc asset m) F' b a o' f' w' ∧ Tch D B W w') := fun L' F' o' f' acc asset m W c' hW hS hO hc hm => owe_is D B L' F' b a o' f' acc asset m W hW hS (okO_fits hO hc hm).1 (okO_fits hO hc hm).2
 have HSZ := hideIt hB;have HS2 := hideIt hsz;have HO1 := hideIt (b4_one w x r);have HO2 := hideIt (b4_two w x r);have HS1 := hideIt (fun p q wx h hb => b4_swap1 (w := w) (wx := wx) (w0 := (w.alloc (.cells (ordE x).toArray 115)).alloc (.cells (ordE r).toArray 115)) (p := p) (q := q) (x := x) (r := r) h hb hsz);have HS3 := hideIt (fun p q wx h hb => b4_swap2 (w := w) (wx := wx) (w0 := (w.alloc (.cells (ordE x).toArray 115)).alloc (.cells (ordE r).toArray 115)) (p := p) (q := q) (x := x) (r := r) h hb hsz);unfold ordE at *;obtain ⟨oi, oa, op, ol⟩ := x;obtain ⟨ri, ra, rp, rl⟩ := r;simp only at *
 show Calls Tryz.prog 140 #[.pointer (some ⟨D, 0, none⟩), .int .i64 s, .agg #[.int .i64 oi, .int .i64 oa, .int .i64 op, .int .i64 ol], .agg #[.int .i64 ri, .int .i64 ra, .int .i64 rp, .int .i64 rl], .int .i64 n] w _
 clear hsz h hB
 go_enter Tryz.func140, Tryz.ntmps140
 go_upto_region 1 with fail
 go_cut [10, 11] from 13 to 14 (fun u v wx => ∃ p q, u = .pointer (some ⟨p, 0, none⟩) ∧ v = .pointer (some ⟨q, 0, none⟩) ∧ Hid (B4 w p q ⟨oi, oa, op, ol⟩ ⟨ri, ra, rp, rl⟩ ⟨ri, ra, rp, rl⟩ wx ∧ Below ((w.alloc (.cells #[.int .i64 oi, .int .i64 oa, .int .i64 op, .int .i64 ol] 115)).alloc (.cells #[.int .i64 ri, .int .i64 ra, .int .i64 rp, .int .i64 rl] 115)).heap.size ((w.alloc (.cells #[.int .i64 oi, .int .i64 oa, .int .i64 op, .int .i64 ol] 115)).alloc (.cells #[.int .i64 ri, .int .i64 ra, .int .i64 rp, .int .i64 rl] 115)) wx))
 case first =>
  go_region
  all_goals go_wp2_with fail
  all_goals go_meet
  all_goals first | exact ⟨_, _, rfl, rfl, HO1⟩ | exact ⟨_, _, rfl, rfl, HO2⟩
 case rest =>
 obtain ⟨p, q, rfl, rfl, HBB⟩ := hcut;clear HO1 HO2 k0 k1 k2 k3 r0 r1 r2 r3;generalize hW0 : ((w.alloc (.cells #[.int .i64 oi, .int .i64 oa, .int .i64 op, .int .i64 ol] 115)).alloc (.cells #[.int .i64 ri, .int .i64 ra, .int .i64 rp, .int .i64 rl] 115)) = w0 at *;clear hW0
 rcases hs with rfl | rfl
 ·clear HS1 HS3
  go_upto_region 4 with fail
  have X1 := hideIt (X0.out.keep HBB.out.2);have T1 : Hid (Tch D B w wc) := Tch.ofBelow (below_via HB2.out HBB.out.2);have Z1 : Hid (B ≤ wc.heap.size) := Nat.le_trans HSZ.out T1.out.size;have P1 := hideIt HBB.out.1.bp;have Q1 := hideIt HBB.out.1.bq;have np : p ≠ D := by have := HBB.out.1.lp; omega
  have nq : q ≠ D := by have := HBB.out.1.lq; omega
  have NP := hideIt np;have NQ := hideIt nq;have c4 : wc.cell? ⟨w.heap.size + 1, 2, none⟩ = some (.int .i64 rp) := by rw [cell_at HBB.out.1.br]; rfl
  have c1 : wc.cell? ⟨p, 1, none⟩ = some (.int .i64 (⟨oi, oa, op, ol⟩ : OrdV).acc) := by rw [cell_at HBB.out.1.bp]; rfl
  have c3 : wc.cell? ⟨q, 1, none⟩ = some (.int .i64 (⟨ri, ra, rp, rl⟩ : OrdV).acc) := by rw [cell_at HBB.out.1.bq]; rfl
  simp only at c1 c3;obtain ⟨-, -, -, -, -, D5⟩ := X1.out.cells;have hDc : D < wc.heap.size := X1.out.lt;have hDn : D ≠ wc.heap.size := by omega
  have hpc : p < wc.heap.size := (Array.getElem?_eq_some_iff.1 P1.out).1;have hpn : p ≠ wc.heap.size := by omega
  have hqc : q < wc.heap.size := (Array.getElem?_eq_some_iff.1 Q1.out).1;have hqn : q ≠ wc.heap.size := by omega
  obtain ⟨f1, w5, hrun, how, hgr⟩ := app1 (enc := filE) (t := 34) filK fil1 Tryz.underlying34 info39 rfl (by omega) (wc.alloc (.cells (filE ⟨(⟨oi, oa, op, ol⟩ : OrdV).acc, (⟨ri, ra, rp, rl⟩ : OrdV).acc, rp, n⟩).toArray 106)).drew B (.slice fa F.length fc) F ⟨(⟨oi, oa, op, ol⟩ : OrdV).acc, (⟨ri, ra, rp, rl⟩ : OrdV).acc, rp, n⟩ wc.heap.size 1 (Nat.le_trans Z1.out (below1 wc _).size) (own_keep X1.out.fl (below1 wc _).drew) (heap_alloc_new wc _) (by omega) (by unfold maxLen; omega)
  have eF : F ++ [⟨(⟨oi, oa, op, ol⟩ : OrdV).acc, (⟨ri, ra, rp, rl⟩ : OrdV).acc, rp, n⟩] = F2 := HF2.out.symm;rw [eF] at how;clear eF;obtain ⟨f1a, f1c, rfl⟩ := own_len how;obtain ⟨x6, t6, d5, d6, d7⟩ := deal_fill (X1.out.keep (below1 wc _).drew) how hgr;have X6 := hideIt x6;have TT : Hid (Tch D B wc (w5.setCell ⟨D, 5, none⟩ (.slice f1a F2.length f1c))) := (Tch.ofBelow (below1 wc _).drew).trans t6;have HRUN := hideIt hrun;unfold filE at HRUN;clear x6 t6 hrun how hgr;simp only at HRUN
  go_upto_region 5 with fail
  go_cut [34] from 21 to 36 (fun _ wx => w5.setCell ⟨D, 5, none⟩ (.slice f1a F2.length f1c) = wx)
  case first =>
   clear HOW X0 X1 T1 Z1 P1 Q1 NP NQ HBB HB2 HSZ E1 E2 HS2 HO3 HF2 X6 TT HOK
   go_region_law (refine step_app_runK rfl _ _ 34 34 rfl _ _ rfl rfl HRUN.out ?_)
   all_goals go_wp2_with fail
   all_goals go_meet
   all_goals rfl
  case rest =>
  subst hcut;have P6 := hideIt (TT.out.block P1.out NP.out (by decide) (by decide));have Q6 := hideIt (TT.out.block Q1.out NQ.out (by decide) (by decide));have T6 := hideIt (T1.out.trans TT.out);have Z6 := hideIt (Nat.le_trans Z1.out TT.out.size);clear c1 c3 c4 D5 d5 d6 d7 hDc hDn hpc hpn hqc hqn HRUN P1 Q1 T1 Z1 TT X1 HBB X0 HB2 E1 E2 HS2;generalize w5.setCell ⟨D, 5, none⟩ (.slice f1a F2.length f1c) = w6 at *;have a1 : w6.cell? ⟨p, 1, none⟩ = some (.int .i64 (⟨oi, oa, op, ol⟩ : OrdV).acc) := by rw [cell_at P6.out]; rfl
  simp only at a1;have OK1 := hideIt (okO_owe (acc := (⟨oi, oa, op, ol⟩ : OrdV).acc) (asset := 1) HOK.out (show 0 ≤ n ∧ n ≤ 1000000000000 by omega));have hmm : 0 ≤ rp * n ∧ rp * n ≤ 1000000000000 := ⟨Int.mul_nonneg hr.1 hn.1, by have := Int.mul_le_mul hr.2 hn.2 hn.1 (by omega : (0 : Int) ≤ 1000000); omega⟩
  have OK2 := hideIt (okO_owe (acc := (⟨ri, ra, rp, rl⟩ : OrdV).acc) (asset := 0) OK1.out hmm);have hwm : IntKind.i64.wrap (rp * n) = rp * n := by rw [IntKind.wrap_i64]; omega
  go_wp2_with fail
  refine (HOW.out _ _ _ _ _ _ _ _ _ X6.out Z6.out HOK.out (by omega) (by omega)).mono ?_;rintro e w7 ⟨rfl, o7, hD, hT⟩;dsimp only;have X7 := hideIt hD;have T7 := hideIt (T6.out.trans hT);have P7 := hideIt (hT.block P6.out NP.out (by decide) (by decide));have Q7 := hideIt (hT.block Q6.out NQ.out (by decide) (by decide));have Z7 := hideIt (Nat.le_trans Z6.out hT.size);clear hD hT X6 T6 P6 Q6 Z6 a1;have b1 : w7.cell? ⟨q, 1, none⟩ = some (.int .i64 (⟨ri, ra, rp, rl⟩ : OrdV).acc) := by rw [cell_at Q7.out]; rfl
  simp only at b1
  go_wp2_with fail
  refine (HOW.out _ _ _ _ _ _ _ _ _ X7.out Z7.out OK1.out (by omega) hmm).mono ?_;rintro e w8 ⟨rfl, o8, hD, hT⟩;dsimp only;have X8 := hideIt hD;have T8 := hideIt (T7.out.trans hT);have P8 := hideIt (hT.block P7.out NP.out (by decide) (by decide));have Z8 := hideIt (Nat.le_trans Z7.out hT.size);clear hD hT X7 T7 P7 Q7 Z7 b1;have a2 : w8.cell? ⟨p, 2, none⟩ = some (.int .i64 (⟨oi, oa, op, ol⟩ : OrdV).price) := by rw [cell_at P8.out]; rfl
  have a1 : w8.cell? ⟨p, 1, none⟩ = some (.int .i64 (⟨oi, oa, op, ol⟩ : OrdV).acc) := by rw [cell_at P8.out]; rfl
  simp only at a1 a2
  by_cases hlt : rp < op
  ·have hltI := hlt
   try simp only at hltI
   have hdd : IntKind.i64.wrap ((⟨oi, oa, op, ol⟩ : OrdV).price - rp) = (⟨oi, oa, op, ol⟩ : OrdV).price - rp := by rw [IntKind.wrap_i64]; simp only; omega
   have hm3 : 0 ≤ ((⟨oi, oa, op, ol⟩ : OrdV).price - rp) * n ∧ ((⟨oi, oa, op, ol⟩ : OrdV).price - rp) * n ≤ 1000000000000 := ⟨Int.mul_nonneg (by simp only; omega) hn.1, by have := Int.mul_le_mul (show (⟨oi, oa, op, ol⟩ : OrdV).price - rp ≤ 1000000 by simp only; omega) hn.2 hn.1 (by omega : (0 : Int) ≤ 1000000); omega⟩
   simp only at hdd hm3;have hw3 : IntKind.i64.wrap (((⟨oi, oa, op, ol⟩ : OrdV).price - rp) * n) = ((⟨oi, oa, op, ol⟩ : OrdV).price - rp) * n := by rw [IntKind.wrap_i64]; simp only; omega
   simp only at hw3;have HE : Hid (dealO (dealO (dealO L (⟨oi, oa, op, ol⟩ : OrdV).acc 1 n) (⟨ri, ra, rp, rl⟩ : OrdV).acc 0 (rp * n)) (⟨oi, oa, op, ol⟩ : OrdV).acc 0 (((⟨oi, oa, op, ol⟩ : OrdV).price - rp) * n) = dealL L O3) := by
    show _ = _
    rw [HO3.out]
    simp [setO, dealL, dealO, setB, setS, hltI]
   go_wp2_with fail
   refine (HOW.out _ _ _ _ _ _ _ _ _ X8.out Z8.out OK2.out (by omega) hm3).mono ?_;rintro e w9 ⟨rfl, o9, hD, hT⟩;dsimp only;have X9 := hideIt hD;have T9 := hideIt (T8.out.trans hT);clear hD hT;rw [HE.out] at X9;go_wp2
   first | exact bodyPost_end (v := .tuple #[]) (by simp [results, Tryz.results140, go_sem]) rfl ⟨rfl, ⟨_, _, X9.out⟩, T9.out⟩ | exact bodyPost_end (v := .tuple #[]) (by simp [results, Tryz.results140, go_sem]) rfl ⟨rfl, _, _, X9.out, T9.out⟩
  ·have hltI := hlt
   try simp only at hltI
   have HE : Hid (dealO (dealO L (⟨oi, oa, op, ol⟩ : OrdV).acc 1 n) (⟨ri, ra, rp, rl⟩ : OrdV).acc 0 (rp * n) = dealL L O3) := by
    show _ = _
    rw [HO3.out]
    simp [setO, dealL, dealO, setB, setS, hltI]
   rw [HE.out] at X8;go_wp2
   first | exact bodyPost_end (v := .tuple #[]) (by simp [results, Tryz.results140, go_sem]) rfl ⟨rfl, ⟨_, _, X8.out⟩, T8.out⟩ | exact bodyPost_end (v := .tuple #[]) (by simp [results, Tryz.results140, go_sem]) rfl ⟨rfl, _, _, X8.out, T8.out⟩
 ·go_upto_region 3 with fail
  have hb1 := (HBB.out.2.block _ (Array.getElem?_eq_some_iff.1 E1.out).1).trans E1.out;have hb2 := HBB.out.1.br;have hb3 := HBB.out.1.bp;have hb4 := HBB.out.1.bq;have n1 := HBB.out.1.ne;have l1 := HBB.out.1.lp;have l2 := HBB.out.1.lq;have G1 := hideIt (HS1.out p q wc.drew ⟨HBB.out.1.ne, HBB.out.1.lp, HBB.out.1.lq, HBB.out.1.bp, HBB.out.1.bq, HBB.out.1.br, HBB.out.1.bel.drew⟩ HBB.out.2.drew);have G2 := hideIt (HS3.out p q wc.drew ⟨HBB.out.1.ne, HBB.out.1.lp, HBB.out.1.lq, HBB.out.1.bp, HBB.out.1.bq, HBB.out.1.br, HBB.out.1.bel.drew⟩ HBB.out.2.drew);have Z0 := hideIt (cells8 (W := wc.drew) (x := ⟨oi, oa, op, ol⟩) (r := ⟨ri, ra, rp, rl⟩) hb1 hb2);have Z1 := hideIt (cells8 (W := put4w wc.drew p ⟨ri, ra, rp, rl⟩) (x := ⟨oi, oa, op, ol⟩) (r := ⟨ri, ra, rp, rl⟩) (put4w_other _ hb1 (by omega)) (put4w_other _ hb2 (by omega)));have Z2 := hideIt (cells8 (W := put4w (put4w wc.drew p ⟨ri, ra, rp, rl⟩) q ⟨oi, oa, op, ol⟩) (x := ⟨oi, oa, op, ol⟩) (r := ⟨ri, ra, rp, rl⟩) (put4w_other _ (put4w_other _ hb1 (by omega)) (by omega)) (put4w_other _ (put4w_other _ hb2 (by omega)) (by omega)));have Z3 := hideIt (cells8 (W := put4w wc.drew q ⟨oi, oa, op, ol⟩) (x := ⟨oi, oa, op, ol⟩) (r := ⟨ri, ra, rp, rl⟩) (put4w_other _ hb1 (by omega)) (put4w_other _ hb2 (by omega)));have Z4 := hideIt (cells8 (W := put4w (put4w wc.drew q ⟨oi, oa, op, ol⟩) p ⟨ri, ra, rp, rl⟩) (x := ⟨oi, oa, op, ol⟩) (r := ⟨ri, ra, rp, rl⟩) (put4w_other _ (put4w_other _ hb1 (by omega)) (by omega)) (put4w_other _ (put4w_other _ hb2 (by omega)) (by omega)));have Hb3 := hideIt hb3;have Hb4 := hideIt hb4;have Hn1 := hideIt n1;clear HS1 HS3 hb1 hb2 hb3 hb4 n1 l1 l2
  go_cut [17] from 17 to 18 (fun _ wx => Hid (B4 w p q ⟨ri, ra, rp, rl⟩ ⟨oi, oa, op, ol⟩ ⟨ri, ra, rp, rl⟩ wx ∧ Below w0.heap.size w0 wx))
  case first =>
   refine wp_region_held_drew (S := fun W => W.cell? ⟨w.heap.size, 0, none⟩ = some (.int .i64 oi) ∧ W.cell? ⟨w.heap.size, 1, none⟩ = some (.int .i64 oa) ∧ W.cell? ⟨w.heap.size, 2, none⟩ = some (.int .i64 op) ∧ W.cell? ⟨w.heap.size, 3, none⟩ = some (.int .i64 ol) ∧ W.cell? ⟨w.heap.size + 1, 0, none⟩ = some (.int .i64 ri) ∧ W.cell? ⟨w.heap.size + 1, 1, none⟩ = some (.int .i64 ra) ∧ W.cell? ⟨w.heap.size + 1, 2, none⟩ = some (.int .i64 rp) ∧ W.cell? ⟨w.heap.size + 1, 3, none⟩ = some (.int .i64 rl)) (by kernel_rfl) Z0.out (fun hHeld => ?_);refine wpAnyH_take (i := 0) (oi := ⟨some 17, _, _, _, _, _⟩) (v := ?_) rfl (by kernel_rfl) (by kernel_rfl) (by kernel_rfl) (fun _ _ _ h => h) (Or.inl ⟨by rfl, ?_⟩) (by assumption) ?_
   rotate_left
   ·intro w5 hSw
    (try dsimp only at hSw)
    go_simp
    (try with_reducible rfl)
   try simp only [Act.put, List.setIfInBounds_toArray, List.set_cons_zero, List.set_cons_succ]
   refine wpAnyH_take (i := 1) (oi := ⟨some 18, _, _, _, _, _⟩) (v := ?_) rfl (by kernel_rfl) (by kernel_rfl) (by kernel_rfl) (fun _ _ _ h => h) (Or.inl ⟨by rfl, ?_⟩) (by assumption) ?_
   rotate_left
   ·intro w5 hSw
    (try dsimp only at hSw)
    go_simp
    (try with_reducible rfl)
   try simp only [Act.put, List.setIfInBounds_toArray, List.set_cons_zero, List.set_cons_succ]
   refine wpAnyH_ready (rs := [2]) (by kernel_rfl) (by simp) ?_;refine AllReadyH.cons (o := ⟨none, _, _, _, _, _⟩) rfl (fun K1 hK1 => ?_) AllReadyH.nil
   ·refine step_store4 rfl _ _ rfl p ⟨ri, ra, rp, rl⟩ ⟨oi, oa, op, ol⟩ rfl rfl Hb3.out ?_;refine hK1.out _ _ Z1.out (fun hHeld2 => ?_);refine wpAnyH_ready (rs := [3]) (by kernel_rfl) (by simp) ?_;refine AllReadyH.cons (o := ⟨none, _, _, _, _, _⟩) rfl (fun K2 hK2 => ?_) AllReadyH.nil;refine step_store4 rfl _ _ rfl q ⟨oi, oa, op, ol⟩ ⟨ri, ra, rp, rl⟩ rfl rfl (put4w_other _ Hb4.out Hn1.out.symm) ?_;refine hK2.out _ _ Z2.out (fun hHeld3 => ?_);refine wpAnyH_done (by kernel_rfl) ?_ _
    go_wp2_with fail
    go_meet
    exact G1
  case rest =>
  clear G1 G2 Z0 Z1 Z2 Z3 Z4 Hb3 Hb4 Hn1 HBB;have HBB := hcut;clear hcut
  go_upto_region 4 with fail
  have X1 := hideIt (X0.out.keep HBB.out.2);have T1 : Hid (Tch D B w wc) := Tch.ofBelow (below_via HB2.out HBB.out.2);have Z1 : Hid (B ≤ wc.heap.size) := Nat.le_trans HSZ.out T1.out.size;have P1 := hideIt HBB.out.1.bp;have Q1 := hideIt HBB.out.1.bq;have np : p ≠ D := by have := HBB.out.1.lp; omega
  have nq : q ≠ D := by have := HBB.out.1.lq; omega
  have NP := hideIt np;have NQ := hideIt nq;have c4 : wc.cell? ⟨w.heap.size + 1, 2, none⟩ = some (.int .i64 rp) := by rw [cell_at HBB.out.1.br]; rfl
  have c1 : wc.cell? ⟨p, 1, none⟩ = some (.int .i64 (⟨ri, ra, rp, rl⟩ : OrdV).acc) := by rw [cell_at HBB.out.1.bp]; rfl
  have c3 : wc.cell? ⟨q, 1, none⟩ = some (.int .i64 (⟨oi, oa, op, ol⟩ : OrdV).acc) := by rw [cell_at HBB.out.1.bq]; rfl
  simp only at c1 c3;obtain ⟨-, -, -, -, -, D5⟩ := X1.out.cells;have hDc : D < wc.heap.size := X1.out.lt;have hDn : D ≠ wc.heap.size := by omega
  have hpc : p < wc.heap.size := (Array.getElem?_eq_some_iff.1 P1.out).1;have hpn : p ≠ wc.heap.size := by omega
  have hqc : q < wc.heap.size := (Array.getElem?_eq_some_iff.1 Q1.out).1;have hqn : q ≠ wc.heap.size := by omega
  obtain ⟨f1, w5, hrun, how, hgr⟩ := app1 (enc := filE) (t := 34) filK fil1 Tryz.underlying34 info39 rfl (by omega) (wc.alloc (.cells (filE ⟨(⟨ri, ra, rp, rl⟩ : OrdV).acc, (⟨oi, oa, op, ol⟩ : OrdV).acc, rp, n⟩).toArray 106)).drew B (.slice fa F.length fc) F ⟨(⟨ri, ra, rp, rl⟩ : OrdV).acc, (⟨oi, oa, op, ol⟩ : OrdV).acc, rp, n⟩ wc.heap.size 1 (Nat.le_trans Z1.out (below1 wc _).size) (own_keep X1.out.fl (below1 wc _).drew) (heap_alloc_new wc _) (by omega) (by unfold maxLen; omega)
  have eF : F ++ [⟨(⟨ri, ra, rp, rl⟩ : OrdV).acc, (⟨oi, oa, op, ol⟩ : OrdV).acc, rp, n⟩] = F2 := HF2.out.symm;rw [eF] at how;clear eF;obtain ⟨f1a, f1c, rfl⟩ := own_len how;obtain ⟨x6, t6, d5, d6, d7⟩ := deal_fill (X1.out.keep (below1 wc _).drew) how hgr;have X6 := hideIt x6;have TT : Hid (Tch D B wc (w5.setCell ⟨D, 5, none⟩ (.slice f1a F2.length f1c))) := (Tch.ofBelow (below1 wc _).drew).trans t6;have HRUN := hideIt hrun;unfold filE at HRUN;clear x6 t6 hrun how hgr;simp only at HRUN
  go_upto_region 5 with fail
  go_cut [34] from 21 to 36 (fun _ wx => w5.setCell ⟨D, 5, none⟩ (.slice f1a F2.length f1c) = wx)
  case first =>
   clear HOW X0 X1 T1 Z1 P1 Q1 NP NQ HBB HB2 HSZ E1 E2 HS2 HO3 HF2 X6 TT HOK
   go_region_law (refine step_app_runK rfl _ _ 34 34 rfl _ _ rfl rfl HRUN.out ?_)
   all_goals go_wp2_with fail
   all_goals go_meet
   all_goals rfl
  case rest =>
  subst hcut;have P6 := hideIt (TT.out.block P1.out NP.out (by decide) (by decide));have Q6 := hideIt (TT.out.block Q1.out NQ.out (by decide) (by decide));have T6 := hideIt (T1.out.trans TT.out);have Z6 := hideIt (Nat.le_trans Z1.out TT.out.size);clear c1 c3 c4 D5 d5 d6 d7 hDc hDn hpc hpn hqc hqn HRUN P1 Q1 T1 Z1 TT X1 HBB X0 HB2 E1 E2 HS2;generalize w5.setCell ⟨D, 5, none⟩ (.slice f1a F2.length f1c) = w6 at *;have a1 : w6.cell? ⟨p, 1, none⟩ = some (.int .i64 (⟨ri, ra, rp, rl⟩ : OrdV).acc) := by rw [cell_at P6.out]; rfl
  simp only at a1;have OK1 := hideIt (okO_owe (acc := (⟨ri, ra, rp, rl⟩ : OrdV).acc) (asset := 1) HOK.out (show 0 ≤ n ∧ n ≤ 1000000000000 by omega));have hmm : 0 ≤ rp * n ∧ rp * n ≤ 1000000000000 := ⟨Int.mul_nonneg hr.1 hn.1, by have := Int.mul_le_mul hr.2 hn.2 hn.1 (by omega : (0 : Int) ≤ 1000000); omega⟩
  have OK2 := hideIt (okO_owe (acc := (⟨oi, oa, op, ol⟩ : OrdV).acc) (asset := 0) OK1.out hmm);have hwm : IntKind.i64.wrap (rp * n) = rp * n := by rw [IntKind.wrap_i64]; omega
  go_wp2_with fail
  refine (HOW.out _ _ _ _ _ _ _ _ _ X6.out Z6.out HOK.out (by omega) (by omega)).mono ?_;rintro e w7 ⟨rfl, o7, hD, hT⟩;dsimp only;have X7 := hideIt hD;have T7 := hideIt (T6.out.trans hT);have P7 := hideIt (hT.block P6.out NP.out (by decide) (by decide));have Q7 := hideIt (hT.block Q6.out NQ.out (by decide) (by decide));have Z7 := hideIt (Nat.le_trans Z6.out hT.size);clear hD hT X6 T6 P6 Q6 Z6 a1;have b1 : w7.cell? ⟨q, 1, none⟩ = some (.int .i64 (⟨oi, oa, op, ol⟩ : OrdV).acc) := by rw [cell_at Q7.out]; rfl
  simp only at b1
  go_wp2_with fail
  refine (HOW.out _ _ _ _ _ _ _ _ _ X7.out Z7.out OK1.out (by omega) hmm).mono ?_;rintro e w8 ⟨rfl, o8, hD, hT⟩;dsimp only;have X8 := hideIt hD;have T8 := hideIt (T7.out.trans hT);have P8 := hideIt (hT.block P7.out NP.out (by decide) (by decide));have Z8 := hideIt (Nat.le_trans Z7.out hT.size);clear hD hT X7 T7 P7 Q7 Z7 b1;have a2 : w8.cell? ⟨p, 2, none⟩ = some (.int .i64 (⟨ri, ra, rp, rl⟩ : OrdV).price) := by rw [cell_at P8.out]; rfl
  have a1 : w8.cell? ⟨p, 1, none⟩ = some (.int .i64 (⟨ri, ra, rp, rl⟩ : OrdV).acc) := by rw [cell_at P8.out]; rfl
  simp only at a1 a2;have hlt : ¬ rp < rp := by omega
  have hltI := hlt
  try simp only at hltI
  have HE : Hid (dealO (dealO L (⟨ri, ra, rp, rl⟩ : OrdV).acc 1 n) (⟨oi, oa, op, ol⟩ : OrdV).acc 0 (rp * n) = dealL L O3) := by
   show _ = _
   rw [HO3.out]
   simp [setO, dealL, dealO, setB, setS, hltI]
  rw [HE.out] at X8;go_wp2
  first | exact bodyPost_end (v := .tuple #[]) (by simp [results, Tryz.results140, go_sem]) rfl ⟨rfl, ⟨_, _, X8.out⟩, T8.out⟩ | exact bodyPost_end (v := .tuple #[]) (by simp [results, Tryz.results140, go_sem]) rfl ⟨rfl, _, _, X8.out, T8.out⟩
structure Tcr (D B : Nat) (q : Option Nat) (w w' : World) : Prop where
 os : w'.os = w.os
 tape : w'.tape = w.tape
 output : w'.output = w.output
 size : w.heap.size ≤ w'.heap.size
 keep : ∀ k, k < w.heap.size → k ≠ D → some k ≠ q → (B ≤ k → ∀ cs, w.heap[k]? ≠ some (.cells cs 61 (0, 0)) ∧ w.heap[k]? ≠ some (.cells cs 106 (0, 0))) → w'.heap[k]? = w.heap[k]?
theorem Tcr.trans {D B : Nat} {q : Option Nat} {a b c : World} (h : Tcr D B q a b) (k : Tcr D B q b c) : Tcr D B q a c :=
 ⟨k.os.trans h.os, k.tape.trans h.tape, k.output.trans h.output, Nat.le_trans h.size k.size, fun i hi hD hq hB => by
  have e := h.keep i hi hD hq hB;exact (k.keep i (Nat.lt_of_lt_of_le hi h.size) hD hq (fun hb cs => by rw [e]; exact hB hb cs)).trans e⟩
theorem Tcr.ofTch {D B : Nat} {q : Option Nat} {w w' : World} (h : Tch D B w w') : Tcr D B q w w' := ⟨h.os, h.tape, h.output, h.size, fun i hi hD _ hB => h.keep i hi hD hB⟩
theorem Tcr.ofGrown {D B : Nat} {q : Option Nat} {w w' : World} (h : w.grownBy w' q) : Tcr D B q w w' := ⟨h.os, h.tape, h.output, h.size, fun i hi _ hq _ => h.block i hi (fun e => hq (by rw [e]))⟩
theorem Tcr.block {D B k : Nat} {q : Option Nat} {w w' : World} {cs : Array Value} {t : TypeId} (h : Tcr D B q w w') (hk : w.heap[k]? = some (.cells cs t (0, 0))) (hD : k ≠ D) (hq : some k ≠ q) (h1 : t ≠ 61) (h2 : t ≠ 106) : w'.heap[k]? = some (.cells cs t (0, 0)) :=
 (h.keep k (Array.getElem?_eq_some_iff.1 hk).1 hD hq (fun _ cs' => ⟨fun e => by rw [hk] at e; simp at e; exact h1 e.2, fun e => by rw [hk] at e; simp at e; exact h2 e.2⟩)).trans hk
def trL (s : Int) (x : OrdV) : List OrdV → Int → List OweV → List FillV → List OrdV × Int × List OweV × List FillV
 | [], left, ow, F => ([], left, ow, F)
 | r :: rs, left, ow, F =>
  if 0 < left ∧ meetB s x.price r.price = true then
   if r.left - min left r.left = 0 then trL s x rs (left - min left r.left) (setO s x r (min left r.left) ow) (F ++ [setF s x r (min left r.left)])
   else (⟨r.id, r.acc, r.price, r.left - min left r.left⟩ :: rs, left - min left r.left, setO s x r (min left r.left) ow, F ++ [setF s x r (min left r.left)])
  else (r :: rs, left, ow, F)
theorem trL_stop {s : Int} {x : OrdV} {T : List OrdV} {left : Int} {ow : List OweV} {F : List FillV} (h : ¬ 0 < left) : trL s x T left ow F = (T, left, ow, F) := by
 cases T with
 | nil => rfl
 | cons r rs => unfold trL; rw [if_neg (fun hc => h hc.1)]
def OkT (T : List OrdV) : Prop := ∀ r ∈ T, (1 ≤ r.price ∧ r.price ≤ 1000000) ∧ (1 ≤ r.left ∧ r.left ≤ 1000000)
theorem eg63 : ∀ args w, (callFunc 170 args).run Tryz.prog w = .ok (.enter 170 args) w := enters_of Tryz.func170 (by kernel_rfl) rfl
theorem eg64 : ∀ args w, (callFunc 171 args).run Tryz.prog w = .ok (.enter 171 args) w := enters_of Tryz.func171 (by kernel_rfl) rfl
theorem setO_left {s : Int} {x r : OrdV} {left n : Int} {l : List OweV} : setO s ⟨x.id, x.acc, x.price, left⟩ r n l = setO s x r n l := by
 unfold setO setB setS
 by_cases h : s = 2
 ·simp [h]
 ·simp [h]
theorem setF_left {s : Int} {x r : OrdV} {left n : Int} : setF s ⟨x.id, x.acc, x.price, left⟩ r n = setF s x r n := by
 unfold setF setB setS
 by_cases h : s = 2
 ·simp [h]
 ·simp [h]
structure TS1 (w : World) (D B : Nat) (L : LaneV) (x : OrdV) (b a : Value) (RES : List OrdV × Int × List OweV × List FillV) (T : List OrdV) (left : Int) (ow : List OweV) (G : List FillV) (tv o f : Value) (c : Nat) (wr : World) : Prop where
 res : trL 1 x T left ow G = RES
 deal : Deal D B ⟨L.call, L.next, L.bids, T, ow⟩ G b tv o f wr
 blk : tv.ownBlock = a.ownBlock
 tcr : Tcr D B a.ownBlock w wr
 box : wr.heap[w.heap.size]? = some (.cells (ordE ⟨x.id, x.acc, x.price, left⟩).toArray 115 (0, 0))
 clo : wr.heap[w.heap.size + 1]? = some (.cells #[.int .i64 x.price] 3 (0, 0))
 oko : OkO c ow
 cb : c + 3 * T.length ≤ 800 + (if 0 < left then 0 else 3)
 gb : G.length + T.length ≤ 900 + (if 0 < left then 0 else 1)
 okt : OkT T
 lef : 0 ≤ left ∧ left ≤ 1000000
structure TS2 (w : World) (D B : Nat) (L : LaneV) (x : OrdV) (b a : Value) (RES : List OrdV × Int × List OweV × List FillV) (T : List OrdV) (left : Int) (ow : List OweV) (G : List FillV) (tv o f : Value) (c : Nat) (wr : World) : Prop where
 res : trL 2 x T left ow G = RES
 deal : Deal D B ⟨L.call, L.next, T, L.asks, ow⟩ G tv a o f wr
 blk : tv.ownBlock = b.ownBlock
 tcr : Tcr D B b.ownBlock w wr
 box : wr.heap[w.heap.size]? = some (.cells (ordE ⟨x.id, x.acc, x.price, left⟩).toArray 115 (0, 0))
 clo : wr.heap[w.heap.size + 1]? = some (.cells #[.int .i64 x.price] 3 (0, 0))
 oko : OkO c ow
 cb : c + 3 * T.length ≤ 800 + (if 0 < left then 0 else 3)
 gb : G.length + T.length ≤ 900 + (if 0 < left then 0 else 1)
 okt : OkT T
 lef : 0 ≤ left ∧ left ≤ 1000000
theorem TS1.drew {w : World} {D B : Nat} {L : LaneV} {x : OrdV} {b a : Value} {RES : List OrdV × Int × List OweV × List FillV} {T : List OrdV} {left : Int} {ow : List OweV} {G : List FillV} {tv o f : Value} {c : Nat} {wr : World} (h : TS1 w D B L x b a RES T left ow G tv o f c wr) : TS1 w D B L x b a RES T left ow G tv o f c wr.drew :=
 ⟨h.res, h.deal.keep (Below.refl _ _).drew, h.blk, h.tcr.trans (Tcr.ofTch (Tch.ofBelow (Below.refl _ _).drew)), h.box, h.clo, h.oko, h.cb, h.gb, h.okt, h.lef⟩
theorem TS2.drew {w : World} {D B : Nat} {L : LaneV} {x : OrdV} {b a : Value} {RES : List OrdV × Int × List OweV × List FillV} {T : List OrdV} {left : Int} {ow : List OweV} {G : List FillV} {tv o f : Value} {c : Nat} {wr : World} (h : TS2 w D B L x b a RES T left ow G tv o f c wr) : TS2 w D B L x b a RES T left ow G tv o f c wr.drew :=
 ⟨h.res, h.deal.keep (Below.refl _ _).drew, h.blk, h.tcr.trans (Tcr.ofTch (Tch.ofBelow (Below.refl _ _).drew)), h.box, h.clo, h.oko, h.cb, h.gb, h.okt, h.lef⟩
theorem own_ne {w : World} {B k j : Nat} {e : TypeId} {z n : Nat} {v u : Value} {xs : List Value} (ho : w.ownsRow B e z v n xs) (hk : v.ownBlock ≠ some k) : (w.setCell ⟨k, j, none⟩ u).ownsRow B e z v n xs := by
 obtain ⟨h1, hn | ⟨g, cap, cur, hv, hb, hg, rest⟩⟩ := ho
 ·exact ⟨h1, .inl hn⟩
 ·refine ⟨h1, .inr ⟨g, cap, cur, hv, hb, (heap_set_other _ _ _ _ _ (fun e => hk ?_)).trans hg, rest⟩⟩;rw [hv, ← e]
  rfl
theorem own_nb {w w' : World} {B : Nat} {q : Option Nat} {e : TypeId} {z n : Nat} {v : Value} {xs : List Value} (hg : w.grownBy w' q) (ho : w.ownsRow B e z v n xs) (hk : v.ownBlock = none ∨ v.ownBlock ≠ q) : w'.ownsRow B e z v n xs := ho.kept hg hk
theorem Tcr.set {D B k j : Nat} {q : Option Nat} {w w' : World} (h : Tcr D B q w w') (hk : w.heap.size ≤ k) (v : Value) : Tcr D B q w (w'.setCell ⟨k, j, none⟩ v) :=
 ⟨h.os, h.tape, h.output, by simpa using h.size, fun i hi hD hq hB => (heap_set_other _ _ _ _ _ (by omega)).trans (h.keep i hi hD hq hB)⟩
theorem Tcr.setD {D B j : Nat} {q : Option Nat} {w w' : World} (h : Tcr D B q w w') (v : Value) : Tcr D B q w (w'.setCell ⟨D, j, none⟩ v) :=
 ⟨h.os, h.tape, h.output, by simpa using h.size, fun i hi hD hq hB => (heap_set_other _ _ _ _ _ hD).trans (h.keep i hi hD hq hB)⟩
theorem celC_first (r : OrdV) (rs : List OrdV) (m : Int) : (celC ordE (r :: rs)).set 3 (.int .i64 m) = celC ordE (⟨r.id, r.acc, r.price, m⟩ :: rs) := by
 rw [celC_cons, celC_cons]
 rfl
theorem row_ne {D B g c n : Nat} {w : World} {cs : Array Value} {xs : List Value} (hd : w.heap[D]? = some (.cells cs 174 (0, 0))) (ho : w.ownsRow B 115 4 (.slice (some ⟨g, 0, none⟩) n c) n xs) : g ≠ D := by
 obtain ⟨_, ⟨hv, _⟩ | ⟨g', cap, cur, hv, _, hg, _⟩⟩ := ho
 ·simp at hv
 ·simp only [Value.slice.injEq, Option.some.injEq, Addr.mk.injEq, and_true] at hv;intro e;rw [← hv.1, e, hd] at hg
  simp at hg
theorem dealA_first {D B g c k : Nat} {cl : Bool} {nx : Int} {X : List OrdV} {ow : List OweV} {r : OrdV} {rs : List OrdV} {G : List FillV} {v o f u : Value} {W : World} (h : Deal D B ⟨cl, nx, X, r :: rs, ow⟩ G v (.slice (some ⟨g, 0, none⟩) (r :: rs).length c) o f W) (hD : k ≠ D) (hv : v.ownBlock ≠ some k) (hk : k ≠ g) {cs : Array Value} (hc : W.heap[k]? = some (.cells cs 115 (0, 0))) (m : Int) :
  Deal D B ⟨cl, nx, X, ⟨r.id, r.acc, r.price, m⟩ :: rs, ow⟩ G v (.slice (some ⟨g, 0, none⟩) (r :: rs).length c) o f ((W.setCell ⟨k, 3, none⟩ u).setCell ⟨g, 3, none⟩ (.int .i64 m)) := by
 have hgD := row_ne h.box h.oa;have hvg : v.ownBlock ≠ some g := by
  rcases h.sep with e | e
  ·first | (rw [e]; simp; done) | (simp [Value.ownBlock] at e)
  ·first | exact e | (intro x; exact e x.symm)
 have hrow := own_at (j := 3) (u := .int .i64 m) (own_ne (j := 3) (u := u) h.oa (fun e => hk (by simpa [Value.ownBlock] using e.symm))) (by simp; omega)
 rw [celC_first] at hrow;have hg0 : ∃ cur, W.heap[g]? = some (.cells cur 115 (0, 0)) := by
  obtain ⟨_, ⟨hv, _⟩ | ⟨g', cap, cur, hv, _, hg, _⟩⟩ := h.oa
  ·simp at hv
  ·simp only [Value.slice.injEq, Option.some.injEq, Addr.mk.injEq, and_true] at hv;rw [hv.1]
   exact ⟨cur, hg⟩
 obtain ⟨cur, hg⟩ := hg0;have hg2 : (W.setCell ⟨k, 3, none⟩ u).heap[g]? = some (.cells cur 115 (0, 0)) := (heap_set_other _ _ _ _ _ (fun e => hk e.symm)).trans hg
 exact ⟨setOther _ (setOther _ h.box hD.symm) hgD.symm, own_ne (own_ne h.ob hv) hvg, hrow, own_cell (own_cell h.oo hc (by decide)) hg2 (by decide), own_cell (own_cell h.fl hc (by decide)) hg2 (by decide), h.sep⟩
theorem dealB_first {D B g c k : Nat} {cl : Bool} {nx : Int} {X : List OrdV} {ow : List OweV} {r : OrdV} {rs : List OrdV} {G : List FillV} {v o f u : Value} {W : World} (h : Deal D B ⟨cl, nx, r :: rs, X, ow⟩ G (.slice (some ⟨g, 0, none⟩) (r :: rs).length c) v o f W) (hD : k ≠ D) (hv : v.ownBlock ≠ some k) (hk : k ≠ g) {cs : Array Value} (hc : W.heap[k]? = some (.cells cs 115 (0, 0))) (m : Int) :
  Deal D B ⟨cl, nx, ⟨r.id, r.acc, r.price, m⟩ :: rs, X, ow⟩ G (.slice (some ⟨g, 0, none⟩) (r :: rs).length c) v o f ((W.setCell ⟨k, 3, none⟩ u).setCell ⟨g, 3, none⟩ (.int .i64 m)) := by
 have hgD := row_ne h.box h.ob;have hvg : v.ownBlock ≠ some g := by
  rcases h.sep with e | e
  ·first | (rw [e]; simp; done) | (simp [Value.ownBlock] at e)
  ·first | exact e | (intro x; exact e x.symm)
 have hrow := own_at (j := 3) (u := .int .i64 m) (own_ne (j := 3) (u := u) h.ob (fun e => hk (by simpa [Value.ownBlock] using e.symm))) (by simp; omega)
 rw [celC_first] at hrow;have hg0 : ∃ cur, W.heap[g]? = some (.cells cur 115 (0, 0)) := by
  obtain ⟨_, ⟨hv, _⟩ | ⟨g', cap, cur, hv, _, hg, _⟩⟩ := h.ob
  ·simp at hv
  ·simp only [Value.slice.injEq, Option.some.injEq, Addr.mk.injEq, and_true] at hv;rw [hv.1]
   exact ⟨cur, hg⟩
 obtain ⟨cur, hg⟩ := hg0;have hg2 : (W.setCell ⟨k, 3, none⟩ u).heap[g]? = some (.cells cur 115 (0, 0)) := (heap_set_other _ _ _ _ _ (fun e => hk e.symm)).trans hg
 exact ⟨setOther _ (setOther _ h.box hD.symm) hgD.symm, hrow, own_ne (own_ne h.oa hv) hvg, own_cell (own_cell h.oo hc (by decide)) hg2 (by decide), own_cell (own_cell h.fl hc (by decide)) hg2 (by decide), h.sep⟩
theorem dealA_del {D B : Nat} {cl : Bool} {nx : Int} {X T T2 : List OrdV} {ow : List OweV} {G : List FillV} {v tv tv2 o f : Value} {W W2 : World} (h : Deal D B ⟨cl, nx, X, T, ow⟩ G v tv o f W) (ho : W2.ownsRow B 115 4 tv2 T2.length (celC ordE T2)) (hg : W.grownBy W2 tv.ownBlock) (hb : tv2.ownBlock = tv.ownBlock) :
  Deal D B ⟨cl, nx, X, T2, ow⟩ G v tv2 o f (W2.setCell ⟨D, 3, none⟩ tv2) ∧ W2.cell? ⟨D, 3, none⟩ = some tv ∧ W2.frozen? ⟨D, 3, none⟩ = false ∧ D < W2.heap.size := by
 have hbx := box_type hg h.oa h.box (by decide);refine ⟨⟨heap_set hbx 3 tv2, own_cell (own_nb hg h.ob h.sep) hbx (by decide), own_cell ho hbx (by decide), own_cell (own_type hg h.oa h.oo (by decide)) hbx (by decide), own_cell (own_type hg h.oa h.fl (by decide)) hbx (by decide), ?_⟩, by rw [cell_at hbx]; rfl, free_at hbx 3, (Array.getElem?_eq_some_iff.1 hbx).1⟩
 rw [hb];exact h.sep
theorem dealB_del {D B : Nat} {cl : Bool} {nx : Int} {X T T2 : List OrdV} {ow : List OweV} {G : List FillV} {v tv tv2 o f : Value} {W W2 : World} (h : Deal D B ⟨cl, nx, T, X, ow⟩ G tv v o f W) (ho : W2.ownsRow B 115 4 tv2 T2.length (celC ordE T2)) (hg : W.grownBy W2 tv.ownBlock) (hb : tv2.ownBlock = tv.ownBlock) :
  Deal D B ⟨cl, nx, T2, X, ow⟩ G tv2 v o f (W2.setCell ⟨D, 2, none⟩ tv2) ∧ W2.cell? ⟨D, 2, none⟩ = some tv ∧ W2.frozen? ⟨D, 2, none⟩ = false ∧ D < W2.heap.size := by
 have hbx := box_type hg h.ob h.box (by decide);refine ⟨⟨heap_set hbx 2 tv2, own_cell ho hbx (by decide), own_cell (own_nb hg h.oa (?_)) hbx (by decide), own_cell (own_type hg h.ob h.oo (by decide)) hbx (by decide), own_cell (own_type hg h.ob h.fl (by decide)) hbx (by decide), ?_⟩, by rw [cell_at hbx]; rfl, free_at hbx 2, (Array.getElem?_eq_some_iff.1 hbx).1⟩
 ·rcases h.sep with e | e
  ·cases hq : v.ownBlock with
   | none => exact .inl rfl
   | some q => exact .inr (by rw [e]; simp)
  ·exact .inr (fun x => e x.symm)
 ·rw [hb];exact h.sep
end Go.Proofs.YtiinigifjdpicaaGreatDoor
