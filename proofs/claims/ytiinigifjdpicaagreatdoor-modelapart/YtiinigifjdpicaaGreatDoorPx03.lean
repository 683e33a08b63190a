/- Texts of my own, laid together. -/
import Derived.Test.YtiinigifjdpicaaGreatDoorPx02
namespace Go.Proofs.YtiinigifjdpicaaGreatDoor
open Go.RowKit
set_option linter.all false
def laidL {α : Type} (r : α → α → Bool) (x : α) (l : List α) : List α := l.takeWhile (r · x) ++ x :: l.dropWhile (r · x)
theorem grown_via {w W w' : World} {q : Option Nat} (h : Below w.heap.size w W) (k : W.grownBy w' q) : w.grownBy w' q :=
 ⟨k.os.trans h.os, k.tape.trans h.tape, k.output.trans h.output, Nat.le_trans h.size k.size, fun i hi hne => (k.block i (Nat.lt_of_lt_of_le hi h.size) hne).trans (h.block i hi)⟩
theorem takeWhile_at {α : Type} (p : α → Bool) (l : List α) (t : Nat) (h : t < l.length) : ((l.drop t).takeWhile p).length = if p l[t] = true then 1 + ((l.drop (t + 1)).takeWhile p).length else 0 := by
 rw [List.drop_eq_getElem_cons h, List.takeWhile_cons]
 split
 ·simp; omega
 ·rfl
theorem laidL_at {α : Type} (r : α → α → Bool) (x : α) (l : List α) (t : Nat) (h : (l.takeWhile (r · x)).length = t) : l.take t ++ x :: l.drop t = laidL r x l := by
 unfold laidL;have e := List.takeWhile_append_dropWhile (p := (r · x)) (l := l);generalize l.takeWhile (r · x) = T at *;generalize l.dropWhile (r · x) = D at *;rw [← e, List.take_left' h, List.drop_left' h]
set_option maxHeartbeats 8000000 in
set_option maxRecDepth 100000 in
theorem laidW_is (g : Nat) (lb : Array Value) (eg : ∀ args w, (callFunc g args).run Tryz.prog w = .ok (.enter g args) w) (B : Nat) (v : Value) (l : List OweV) (x : OweV) (r : OweV → OweV → Bool) (w : World) (ho : w.ownsRow B 61 3 v l.length (celC oweE l)) (hB : B ≤ w.heap.size) (hbig : (l.length + 1) * 24 ≤ 140737488355328) (hp : ∀ W, Below w.heap.size w W → CmpB g lb oweU r W) :
  Calls Tryz.prog 173 #[v, .agg (oweE x).toArray, .func (.func g) #[] lb] w fun e w' => ∃ v', e = .returned v' ∧ w'.ownsRow B 61 3 v' (laidL r x l).length (celC oweE (laidL r x l)) ∧ w.grownBy w' v.ownBlock := by
 have HB0 := hideIt (below1 w (.cells (oweE x).toArray 61));have HN := hideIt (heap_alloc_new w (.cells (oweE x).toArray 61));have HO := hideIt ho;have HG := hideIt (own_sgot (bytes := 24) ho (by omega));have hne : ∀ vb, w.heap.size ≤ vb → v.ownBlock ≠ some vb := fun vb h e => by have := ho.lt vb e; omega
 have HINS := hideIt (fun i W (hW : Below w.heap.size w W) (hi : i ≤ l.length) => insertW_is B i W.heap.size v l x (W.alloc (.cells (oweE x).toArray 61)) (own_keep (own_keep ho hW) (below1 _ _)) (Nat.le_trans hB (Nat.le_trans hW.size (by simp))) hi hbig (heap_alloc_new W _) (hne _ hW.size));have HGV := hideIt (fun W w' (hW : Below w.heap.size w W) (hg : (W.alloc (.cells (oweE x).toArray 61)).grownBy w' v.ownBlock) => grown_via (below_via hW (below1 W _)) hg);obtain ⟨a, c, rfl, h8, hr⟩ := HG.out.owes;have HH := hideIt hr;have HP := hideIt (hp _ HB0.out);have hn1 : l.length ≤ 9223372036854775806 := by omega
 clear hr hp ho hne HG hB hbig h8 HO;unfold oweE at HB0 HN HINS HGV HP ⊢
 show Calls Tryz.prog 173 #[.slice a l.length c, .agg #[.int .i64 x.acc, .int .i64 x.asset, .int .i64 x.n], .func (.func g) #[] lb] w _
 go_enter Tryz.func173, Tryz.ntmps173
 go_wp2_with fail
 go_loopw [7] (fun v wr => ∃ t : Nat, v = .int .i64 t ∧ t ≤ l.length ∧ Hid (Below (w.alloc (.cells #[.int .i64 x.acc, .int .i64 x.asset, .int .i64 x.n] 61)).heap.size (w.alloc (.cells #[.int .i64 x.acc, .int .i64 x.asset, .int .i64 x.n] 61)) wr ∧ (l.takeWhile (r · x)).length = t + ((l.drop t).takeWhile (r · x)).length)) (fun v _ => l.length - (intOf v).toNat)
 case atStart => exact ⟨0, rfl, Nat.zero_le _, hideIt ⟨Below.refl _ _, by simp⟩⟩
 case round =>
  obtain ⟨t, rfl, ht, HR⟩ := hrel;have HW := hideIt (below_via HB0.out HR.out.1);have HK2 : Hid (∀ W, Below (w.alloc (.cells #[.int .i64 x.acc, .int .i64 x.asset, .int .i64 x.n] 61)).heap.size (w.alloc (.cells #[.int .i64 x.acc, .int .i64 x.asset, .int .i64 x.n] 61)) W → W.cell? ⟨w.heap.size, 0, none⟩ = some (.int .i64 x.acc) ∧ W.cell? ⟨w.heap.size, 1, none⟩ = some (.int .i64 x.asset) ∧ W.cell? ⟨w.heap.size, 2, none⟩ = some (.int .i64 x.n)) := fun W hW => ⟨(hW.cell (p := ⟨w.heap.size, 0, none⟩) (by simp)).trans (by rw [cell_at HN.out]; rfl), (hW.cell (p := ⟨w.heap.size, 1, none⟩) (by simp)).trans (by rw [cell_at HN.out]; rfl), (hW.cell (p := ⟨w.heap.size, 2, none⟩) (by simp)).trans (by rw [cell_at HN.out]; rfl)⟩
  by_cases hlt : t < l.length
  ·have hltI : (t : Int) < (l.length : Int) := by omega
   have ht0 : (0 : Int) ≤ (t : Int) := by omega
   have hw : IntKind.i64.wrap ((t : Int) + 1) = ((t + 1 : Nat) : Int) := by rw [IntKind.wrap_i64]; omega
   obtain ⟨b, off, rfl, hbl0, q0, q1, q2⟩ := HH.out t hlt;have HTW := hideIt (takeWhile_at (r · x) l t hlt);have hblr : b < wr.heap.size := Nat.lt_of_lt_of_le hbl0 HW.out.size;have hbl : b < (w.alloc (.cells #[.int .i64 x.acc, .int .i64 x.asset, .int .i64 x.n] 61)).heap.size := by simp; omega
   replace q0 := (HB0.out.cell (p := ⟨b, off + t * 3, none⟩) hbl0).trans q0;replace q1 := (HB0.out.cell (p := ⟨b, off + t * 3 + 1, none⟩) hbl0).trans q1;replace q2 := (HB0.out.cell (p := ⟨b, off + t * 3 + 2, none⟩) hbl0).trans q2;generalize l[t] = em at *;have HK : Hid (∀ W, Below (w.alloc (.cells #[.int .i64 x.acc, .int .i64 x.asset, .int .i64 x.n] 61)).heap.size (w.alloc (.cells #[.int .i64 x.acc, .int .i64 x.asset, .int .i64 x.n] 61)) W → W.cell? ⟨b, off + t * 3, none⟩ = some (.int .i64 em.acc) ∧ W.cell? ⟨b, off + t * 3 + 1, none⟩ = some (.int .i64 em.asset) ∧ W.cell? ⟨b, off + t * 3 + 2, none⟩ = some (.int .i64 em.n) ∧ W.cell? ⟨w.heap.size, 0, none⟩ = some (.int .i64 x.acc) ∧ W.cell? ⟨w.heap.size, 1, none⟩ = some (.int .i64 x.asset) ∧ W.cell? ⟨w.heap.size, 2, none⟩ = some (.int .i64 x.n)) := fun W hW => ⟨(hW.cell (p := ⟨b, off + t * 3, none⟩) hbl).trans q0, (hW.cell (p := ⟨b, off + t * 3 + 1, none⟩) hbl).trans q1, (hW.cell (p := ⟨b, off + t * 3 + 2, none⟩) hbl).trans q2, (hW.cell (p := ⟨w.heap.size, 0, none⟩) (by simp)).trans (by rw [cell_at HN.out]; rfl), (hW.cell (p := ⟨w.heap.size, 1, none⟩) (by simp)).trans (by rw [cell_at HN.out]; rfl), (hW.cell (p := ⟨w.heap.size, 2, none⟩) (by simp)).trans (by rw [cell_at HN.out]; rfl)⟩
   have HC : Hid (∀ W, Below (w.alloc (.cells #[.int .i64 x.acc, .int .i64 x.asset, .int .i64 x.n] 61)).heap.size (w.alloc (.cells #[.int .i64 x.acc, .int .i64 x.asset, .int .i64 x.n] 61)) W → Calls Tryz.prog g (#[oweU em, oweU x] ++ lb) W fun e w' => e = .returned (.bool (r em x)) ∧ Below (w.alloc (.cells #[.int .i64 x.acc, .int .i64 x.asset, .int .i64 x.n] 61)).heap.size (w.alloc (.cells #[.int .i64 x.acc, .int .i64 x.asset, .int .i64 x.n] 61)) w' ∧ ((fun W => W.cell? ⟨b, off + t * 3, none⟩ = some (.int .i64 em.acc) ∧ W.cell? ⟨b, off + t * 3 + 1, none⟩ = some (.int .i64 em.asset) ∧ W.cell? ⟨b, off + t * 3 + 2, none⟩ = some (.int .i64 em.n) ∧ W.cell? ⟨w.heap.size, 0, none⟩ = some (.int .i64 x.acc) ∧ W.cell? ⟨w.heap.size, 1, none⟩ = some (.int .i64 x.asset) ∧ W.cell? ⟨w.heap.size, 2, none⟩ = some (.int .i64 x.n)) w')) := fun W hW => (HP.out W em x hW).mono (fun e w' hx => ⟨hx.1, hx.2, HK.out w' hx.2⟩)
   have HBW := hideIt HR.out.1;have c9 := HK.out wr HBW.out;clear HH q0 q1 q2
   (try dsimp only at HC)
   unfold oweU oweE at HC
   (try dsimp only at HC)
   have HRT := hideIt HR.out.2;clear HR HW hbl0
   go_upto_region 2 with fail
   go_cut [20] from 8 to 20 (fun u wx => u = .bool (r em x) ∧ Below (w.alloc (.cells #[.int .i64 x.acc, .int .i64 x.asset, .int .i64 x.n] 61)).heap.size (w.alloc (.cells #[.int .i64 x.acc, .int .i64 x.asset, .int .i64 x.n] 61)) wx)
   case first =>
    obtain ⟨c0, c1, c2, c3, c4, c5⟩ := c9
    go_region_held3 (fun W => W.cell? ⟨b, off + t * 3, none⟩ = some (.int .i64 em.acc) ∧ W.cell? ⟨b, off + t * 3 + 1, none⟩ = some (.int .i64 em.asset) ∧ W.cell? ⟨b, off + t * 3 + 2, none⟩ = some (.int .i64 em.n) ∧ W.cell? ⟨w.heap.size, 0, none⟩ = some (.int .i64 x.acc) ∧ W.cell? ⟨w.heap.size, 1, none⟩ = some (.int .i64 x.asset) ∧ W.cell? ⟨w.heap.size, 2, none⟩ = some (.int .i64 x.n)) (go_keep) (first | (refine (HC.out _ (by first | exact HBW.out | exact HBW.out.drew)).mono ?_; rintro e w5 ⟨rfl, hst, j0, j1, j2, j3, j4, j5⟩))
    all_goals go_wp2_with fail
    all_goals go_meet
    all_goals exact ⟨rfl, hst⟩
   case rest =>
   obtain ⟨rfl, hb⟩ := hcut;have HB := hideIt hb;clear c9 hb HC HK HBW;cases hq : r em x
   ·have HFT : Hid (l.take t ++ x :: l.drop t = laidL r x l) := laidL_at r x l t (by rw [HRT.out, HTW.out, if_neg (by simp [hq])]; rfl)
    clear HRT HTW;have X1 := HK2.out _ HB.out;have HW := hideIt (below_via HB0.out HB.out);clear HB;replace HINS := hideIt (HINS.out t _ HW.out ht);rw [HFT.out] at HINS;obtain ⟨d0, d1, d2⟩ := X1
    go_wp2_with fail
    refine HINS.out.mono ?_;rintro e w9 ⟨v', rfl, hown, hgr⟩;dsimp only;have HGR := hideIt (HGV.out _ _ HW.out hgr);have HOW := hideIt hown;clear hgr hown;go_wp2;go_ret
    exact ⟨_, rfl, HOW.out, HGR.out⟩
   ·have HF : Hid ((l.takeWhile (r · x)).length = (t + 1) + ((l.drop (t + 1)).takeWhile (r · x)).length) := by
     show _ = _
     rw [HRT.out, HTW.out, if_pos hq];omega
    clear HRT HTW;go_wp2
    go_roundw
    case rel => exact ⟨t + 1, by go_num, by omega, hideIt ⟨HB.out, HF.out⟩⟩
    case measure => simp [intOf]; omega
  ·have hltI : ¬ (t : Int) < (l.length : Int) := by omega
   have hdf : decide ((t : Int) < (l.length : Int)) = false := decide_eq_false hltI;have hdf2 : decide (t < l.length) = false := decide_eq_false hlt;have HFT : Hid (l.take t ++ x :: l.drop t = laidL r x l) := laidL_at r x l t (by rw [HR.out.2, List.drop_of_length_le (by omega)]; rfl)
   have HB := hideIt HR.out.1;have X1 := HK2.out _ (below_drewN HB.out 0);clear HH HP HR HW
   go_upto_region 2 with fail
   go_quiet (fail)
   have HB1 := hideIt (below_drewN HB.out nq);replace X1 := HK2.out _ HB1.out;have HW := hideIt (below_via HB0.out HB1.out);clear HB HB1;generalize wr.drewN nq = wx at *;replace HINS := hideIt (HINS.out t _ HW.out ht);rw [HFT.out] at HINS;obtain ⟨d0, d1, d2⟩ := X1
   go_wp2_with fail
   refine HINS.out.mono ?_;rintro e w9 ⟨v', rfl, hown, hgr⟩;dsimp only;have HGR := hideIt (HGV.out _ _ HW.out hgr);have HOW := hideIt hown;clear hgr hown;go_wp2;go_ret
   exact ⟨_, rfl, HOW.out, HGR.out⟩
set_option maxHeartbeats 8000000 in
set_option maxRecDepth 100000 in
theorem laidO_is (g : Nat) (lb : Array Value) (eg : ∀ args w, (callFunc g args).run Tryz.prog w = .ok (.enter g args) w) (B : Nat) (v : Value) (l : List OrdV) (x : OrdV) (r : OrdV → OrdV → Bool) (w : World) (ho : w.ownsRow B 115 4 v l.length (celC ordE l)) (hB : B ≤ w.heap.size) (hbig : (l.length + 1) * 32 ≤ 140737488355328) (hp : ∀ W, Below w.heap.size w W → CmpB g lb ordU r W) :
  Calls Tryz.prog 115 #[v, .agg (ordE x).toArray, .func (.func g) #[] lb] w fun e w' => ∃ v', e = .returned v' ∧ w'.ownsRow B 115 4 v' (laidL r x l).length (celC ordE (laidL r x l)) ∧ w.grownBy w' v.ownBlock := by
 have HB0 := hideIt (below1 w (.cells (ordE x).toArray 115));have HN := hideIt (heap_alloc_new w (.cells (ordE x).toArray 115));have HO := hideIt ho;have HG := hideIt (own_sgot (bytes := 32) ho (by omega));have hne : ∀ vb, w.heap.size ≤ vb → v.ownBlock ≠ some vb := fun vb h e => by have := ho.lt vb e; omega
 have HINS := hideIt (fun i W (hW : Below w.heap.size w W) (hi : i ≤ l.length) => insertO_is B i W.heap.size v l x (W.alloc (.cells (ordE x).toArray 115)) (own_keep (own_keep ho hW) (below1 _ _)) (Nat.le_trans hB (Nat.le_trans hW.size (by simp))) hi hbig (heap_alloc_new W _) (hne _ hW.size));have HGV := hideIt (fun W w' (hW : Below w.heap.size w W) (hg : (W.alloc (.cells (ordE x).toArray 115)).grownBy w' v.ownBlock) => grown_via (below_via hW (below1 W _)) hg);obtain ⟨a, c, rfl, h8, hr⟩ := HG.out.ords;have HH := hideIt hr;have HP := hideIt (hp _ HB0.out);have hn1 : l.length ≤ 9223372036854775806 := by omega
 clear hr hp ho hne HG hB hbig h8 HO;unfold ordE at HB0 HN HINS HGV HP ⊢
 show Calls Tryz.prog 115 #[.slice a l.length c, .agg #[.int .i64 x.id, .int .i64 x.acc, .int .i64 x.price, .int .i64 x.left], .func (.func g) #[] lb] w _
 go_enter Tryz.func115, Tryz.ntmps115
 go_wp2_with fail
 go_loopw [7] (fun v wr => ∃ t : Nat, v = .int .i64 t ∧ t ≤ l.length ∧ Hid (Below (w.alloc (.cells #[.int .i64 x.id, .int .i64 x.acc, .int .i64 x.price, .int .i64 x.left] 115)).heap.size (w.alloc (.cells #[.int .i64 x.id, .int .i64 x.acc, .int .i64 x.price, .int .i64 x.left] 115)) wr ∧ (l.takeWhile (r · x)).length = t + ((l.drop t).takeWhile (r · x)).length)) (fun v _ => l.length - (intOf v).toNat)
 case atStart => exact ⟨0, rfl, Nat.zero_le _, hideIt ⟨Below.refl _ _, by simp⟩⟩
 case round =>
  obtain ⟨t, rfl, ht, HR⟩ := hrel;have HW := hideIt (below_via HB0.out HR.out.1);have HK2 : Hid (∀ W, Below (w.alloc (.cells #[.int .i64 x.id, .int .i64 x.acc, .int .i64 x.price, .int .i64 x.left] 115)).heap.size (w.alloc (.cells #[.int .i64 x.id, .int .i64 x.acc, .int .i64 x.price, .int .i64 x.left] 115)) W → W.cell? ⟨w.heap.size, 0, none⟩ = some (.int .i64 x.id) ∧ W.cell? ⟨w.heap.size, 1, none⟩ = some (.int .i64 x.acc) ∧ W.cell? ⟨w.heap.size, 2, none⟩ = some (.int .i64 x.price) ∧ W.cell? ⟨w.heap.size, 3, none⟩ = some (.int .i64 x.left)) := fun W hW => ⟨(hW.cell (p := ⟨w.heap.size, 0, none⟩) (by simp)).trans (by rw [cell_at HN.out]; rfl), (hW.cell (p := ⟨w.heap.size, 1, none⟩) (by simp)).trans (by rw [cell_at HN.out]; rfl), (hW.cell (p := ⟨w.heap.size, 2, none⟩) (by simp)).trans (by rw [cell_at HN.out]; rfl), (hW.cell (p := ⟨w.heap.size, 3, none⟩) (by simp)).trans (by rw [cell_at HN.out]; rfl)⟩
  by_cases hlt : t < l.length
  ·have hltI : (t : Int) < (l.length : Int) := by omega
   have ht0 : (0 : Int) ≤ (t : Int) := by omega
   have hw : IntKind.i64.wrap ((t : Int) + 1) = ((t + 1 : Nat) : Int) := by rw [IntKind.wrap_i64]; omega
   obtain ⟨b, off, rfl, hbl0, q0, q1, q2, q3⟩ := HH.out t hlt;have HTW := hideIt (takeWhile_at (r · x) l t hlt);have hblr : b < wr.heap.size := Nat.lt_of_lt_of_le hbl0 HW.out.size;have hbl : b < (w.alloc (.cells #[.int .i64 x.id, .int .i64 x.acc, .int .i64 x.price, .int .i64 x.left] 115)).heap.size := by simp; omega
   replace q0 := (HB0.out.cell (p := ⟨b, off + t * 4, none⟩) hbl0).trans q0;replace q1 := (HB0.out.cell (p := ⟨b, off + t * 4 + 1, none⟩) hbl0).trans q1;replace q2 := (HB0.out.cell (p := ⟨b, off + t * 4 + 2, none⟩) hbl0).trans q2;replace q3 := (HB0.out.cell (p := ⟨b, off + t * 4 + 3, none⟩) hbl0).trans q3;generalize l[t] = em at *;have HK : Hid (∀ W, Below (w.alloc (.cells #[.int .i64 x.id, .int .i64 x.acc, .int .i64 x.price, .int .i64 x.left] 115)).heap.size (w.alloc (.cells #[.int .i64 x.id, .int .i64 x.acc, .int .i64 x.price, .int .i64 x.left] 115)) W → W.cell? ⟨b, off + t * 4, none⟩ = some (.int .i64 em.id) ∧ W.cell? ⟨b, off + t * 4 + 1, none⟩ = some (.int .i64 em.acc) ∧ W.cell? ⟨b, off + t * 4 + 2, none⟩ = some (.int .i64 em.price) ∧ W.cell? ⟨b, off + t * 4 + 3, none⟩ = some (.int .i64 em.left) ∧ W.cell? ⟨w.heap.size, 0, none⟩ = some (.int .i64 x.id) ∧ W.cell? ⟨w.heap.size, 1, none⟩ = some (.int .i64 x.acc) ∧ W.cell? ⟨w.heap.size, 2, none⟩ = some (.int .i64 x.price) ∧ W.cell? ⟨w.heap.size, 3, none⟩ = some (.int .i64 x.left)) := fun W hW => ⟨(hW.cell (p := ⟨b, off + t * 4, none⟩) hbl).trans q0, (hW.cell (p := ⟨b, off + t * 4 + 1, none⟩) hbl).trans q1, (hW.cell (p := ⟨b, off + t * 4 + 2, none⟩) hbl).trans q2, (hW.cell (p := ⟨b, off + t * 4 + 3, none⟩) hbl).trans q3, (hW.cell (p := ⟨w.heap.size, 0, none⟩) (by simp)).trans (by rw [cell_at HN.out]; rfl), (hW.cell (p := ⟨w.heap.size, 1, none⟩) (by simp)).trans (by rw [cell_at HN.out]; rfl), (hW.cell (p := ⟨w.heap.size, 2, none⟩) (by simp)).trans (by rw [cell_at HN.out]; rfl), (hW.cell (p := ⟨w.heap.size, 3, none⟩) (by simp)).trans (by rw [cell_at HN.out]; rfl)⟩
   have HC : Hid (∀ W, Below (w.alloc (.cells #[.int .i64 x.id, .int .i64 x.acc, .int .i64 x.price, .int .i64 x.left] 115)).heap.size (w.alloc (.cells #[.int .i64 x.id, .int .i64 x.acc, .int .i64 x.price, .int .i64 x.left] 115)) W → Calls Tryz.prog g (#[ordU em, ordU x] ++ lb) W fun e w' => e = .returned (.bool (r em x)) ∧ Below (w.alloc (.cells #[.int .i64 x.id, .int .i64 x.acc, .int .i64 x.price, .int .i64 x.left] 115)).heap.size (w.alloc (.cells #[.int .i64 x.id, .int .i64 x.acc, .int .i64 x.price, .int .i64 x.left] 115)) w' ∧ ((fun W => W.cell? ⟨b, off + t * 4, none⟩ = some (.int .i64 em.id) ∧ W.cell? ⟨b, off + t * 4 + 1, none⟩ = some (.int .i64 em.acc) ∧ W.cell? ⟨b, off + t * 4 + 2, none⟩ = some (.int .i64 em.price) ∧ W.cell? ⟨b, off + t * 4 + 3, none⟩ = some (.int .i64 em.left) ∧ W.cell? ⟨w.heap.size, 0, none⟩ = some (.int .i64 x.id) ∧ W.cell? ⟨w.heap.size, 1, none⟩ = some (.int .i64 x.acc) ∧ W.cell? ⟨w.heap.size, 2, none⟩ = some (.int .i64 x.price) ∧ W.cell? ⟨w.heap.size, 3, none⟩ = some (.int .i64 x.left)) w')) := fun W hW => (HP.out W em x hW).mono (fun e w' hx => ⟨hx.1, hx.2, HK.out w' hx.2⟩)
   have HBW := hideIt HR.out.1;have c9 := HK.out wr HBW.out;clear HH q0 q1 q2 q3
   (try dsimp only at HC)
   unfold ordU ordE at HC
   (try dsimp only at HC)
   have HRT := hideIt HR.out.2;clear HR HW hbl0
   go_upto_region 2 with fail
   go_cut [20] from 8 to 20 (fun u wx => u = .bool (r em x) ∧ Below (w.alloc (.cells #[.int .i64 x.id, .int .i64 x.acc, .int .i64 x.price, .int .i64 x.left] 115)).heap.size (w.alloc (.cells #[.int .i64 x.id, .int .i64 x.acc, .int .i64 x.price, .int .i64 x.left] 115)) wx)
   case first =>
    obtain ⟨c0, c1, c2, c3, c4, c5, c6, c7⟩ := c9
    go_region_held3 (fun W => W.cell? ⟨b, off + t * 4, none⟩ = some (.int .i64 em.id) ∧ W.cell? ⟨b, off + t * 4 + 1, none⟩ = some (.int .i64 em.acc) ∧ W.cell? ⟨b, off + t * 4 + 2, none⟩ = some (.int .i64 em.price) ∧ W.cell? ⟨b, off + t * 4 + 3, none⟩ = some (.int .i64 em.left) ∧ W.cell? ⟨w.heap.size, 0, none⟩ = some (.int .i64 x.id) ∧ W.cell? ⟨w.heap.size, 1, none⟩ = some (.int .i64 x.acc) ∧ W.cell? ⟨w.heap.size, 2, none⟩ = some (.int .i64 x.price) ∧ W.cell? ⟨w.heap.size, 3, none⟩ = some (.int .i64 x.left)) (go_keep) (first | (refine (HC.out _ (by first | exact HBW.out | exact HBW.out.drew)).mono ?_; rintro e w5 ⟨rfl, hst, j0, j1, j2, j3, j4, j5, j6, j7⟩))
    all_goals go_wp2_with fail
    all_goals go_meet
    all_goals exact ⟨rfl, hst⟩
   case rest =>
   obtain ⟨rfl, hb⟩ := hcut;have HB := hideIt hb;clear c9 hb HC HK HBW;cases hq : r em x
   ·have HFT : Hid (l.take t ++ x :: l.drop t = laidL r x l) := laidL_at r x l t (by rw [HRT.out, HTW.out, if_neg (by simp [hq])]; rfl)
    clear HRT HTW;have X1 := HK2.out _ HB.out;have HW := hideIt (below_via HB0.out HB.out);clear HB;replace HINS := hideIt (HINS.out t _ HW.out ht);rw [HFT.out] at HINS;obtain ⟨d0, d1, d2, d3⟩ := X1
    go_wp2_with fail
    refine HINS.out.mono ?_;rintro e w9 ⟨v', rfl, hown, hgr⟩;dsimp only;have HGR := hideIt (HGV.out _ _ HW.out hgr);have HOW := hideIt hown;clear hgr hown;go_wp2;go_ret
    exact ⟨_, rfl, HOW.out, HGR.out⟩
   ·have HF : Hid ((l.takeWhile (r · x)).length = (t + 1) + ((l.drop (t + 1)).takeWhile (r · x)).length) := by
     show _ = _
     rw [HRT.out, HTW.out, if_pos hq];omega
    clear HRT HTW;go_wp2
    go_roundw
    case rel => exact ⟨t + 1, by go_num, by omega, hideIt ⟨HB.out, HF.out⟩⟩
    case measure => simp [intOf]; omega
  ·have hltI : ¬ (t : Int) < (l.length : Int) := by omega
   have hdf : decide ((t : Int) < (l.length : Int)) = false := decide_eq_false hltI;have hdf2 : decide (t < l.length) = false := decide_eq_false hlt;have HFT : Hid (l.take t ++ x :: l.drop t = laidL r x l) := laidL_at r x l t (by rw [HR.out.2, List.drop_of_length_le (by omega)]; rfl)
   have HB := hideIt HR.out.1;have X1 := HK2.out _ (below_drewN HB.out 0);clear HH HP HR HW
   go_upto_region 2 with fail
   go_quiet (fail)
   have HB1 := hideIt (below_drewN HB.out nq);replace X1 := HK2.out _ HB1.out;have HW := hideIt (below_via HB0.out HB1.out);clear HB HB1;generalize wr.drewN nq = wx at *;replace HINS := hideIt (HINS.out t _ HW.out ht);rw [HFT.out] at HINS;obtain ⟨d0, d1, d2, d3⟩ := X1
   go_wp2_with fail
   refine HINS.out.mono ?_;rintro e w9 ⟨v', rfl, hown, hgr⟩;dsimp only;have HGR := hideIt (HGV.out _ _ HW.out hgr);have HOW := hideIt hown;clear hgr hown;go_wp2;go_ret
   exact ⟨_, rfl, HOW.out, HGR.out⟩
structure Tch (D B : Nat) (w w' : World) : Prop where
 os : w'.os = w.os
 tape : w'.tape = w.tape
 output : w'.output = w.output
 size : w.heap.size ≤ w'.heap.size
 keep : ∀ k, k < w.heap.size → k ≠ D → (B ≤ k → ∀ cs, w.heap[k]? ≠ some (.cells cs 61 (0, 0)) ∧ w.heap[k]? ≠ some (.cells cs 106 (0, 0))) → w'.heap[k]? = w.heap[k]?
theorem Tch.refl (D B : Nat) (w : World) : Tch D B w w := ⟨rfl, rfl, rfl, Nat.le_refl _, fun _ _ _ _ => rfl⟩
theorem Tch.trans {D B : Nat} {a b c : World} (h : Tch D B a b) (k : Tch D B b c) : Tch D B a c :=
 ⟨k.os.trans h.os, k.tape.trans h.tape, k.output.trans h.output, Nat.le_trans h.size k.size, fun i hi hD hB => by
  have e := h.keep i hi hD hB;exact (k.keep i (Nat.lt_of_lt_of_le hi h.size) hD (fun hb cs => by rw [e]; exact hB hb cs)).trans e⟩
theorem Tch.ofBelow {D B : Nat} {w w' : World} (h : Below w.heap.size w w') : Tch D B w w' := ⟨h.os, h.tape, h.output, h.size, fun i hi _ _ => h.block i hi⟩
theorem Tch.ofGrownW {D B n k : Nat} {w w' : World} {v : Value} {xs : List Value} (h : w.grownBy w' v.ownBlock) (ho : w.ownsRow B 61 k v n xs) : Tch D B w w' :=
 ⟨h.os, h.tape, h.output, h.size, fun i hi _ hB => h.block i hi (fun e => by
  obtain ⟨_, ⟨rfl, _⟩ | ⟨g, cap, cur, rfl, hg, hc, _⟩⟩ := ho
  ·cases e
  ·simp only [Value.ownBlock, Option.some.injEq] at e;subst e;exact (hB hg cur).1 hc)⟩
theorem Tch.ofGrownF {D B n k : Nat} {w w' : World} {v : Value} {xs : List Value} (h : w.grownBy w' v.ownBlock) (ho : w.ownsRow B 106 k v n xs) : Tch D B w w' :=
 ⟨h.os, h.tape, h.output, h.size, fun i hi _ hB => h.block i hi (fun e => by
  obtain ⟨_, ⟨rfl, _⟩ | ⟨g, cap, cur, rfl, hg, hc, _⟩⟩ := ho
  ·cases e
  ·simp only [Value.ownBlock, Option.some.injEq] at e;subst e;exact (hB hg cur).2 hc)⟩
theorem Tch.ofSet {D B j : Nat} (w : World) (v : Value) : Tch D B w (w.setCell ⟨D, j, none⟩ v) :=
 ⟨rfl, rfl, rfl, by simp, fun i _ hD _ => heap_set_other _ _ _ _ _ hD⟩
theorem Tch.drew {D B : Nat} {w w' : World} (h : Tch D B w w') : Tch D B w w'.drew := ⟨h.os, h.tape, h.output, h.size, h.keep⟩
theorem Tch.block {D B k : Nat} {w w' : World} {cs : Array Value} {t : TypeId} (h : Tch D B w w') (hk : w.heap[k]? = some (.cells cs t (0, 0))) (hD : k ≠ D) (h1 : t ≠ 61) (h2 : t ≠ 106) : w'.heap[k]? = some (.cells cs t (0, 0)) :=
 (h.keep k (Array.getElem?_eq_some_iff.1 hk).1 hD (fun _ cs' => ⟨fun e => by rw [hk] at e; simp at e; exact h1 e.2, fun e => by rw [hk] at e; simp at e; exact h2 e.2⟩)).trans hk
theorem Tch.row {D B z n : Nat} {w w' : World} {v : Value} {xs : List Value} {B' : Nat} {dc : Array Value} (h : Tch D B w w') (hd : w.heap[D]? = some (.cells dc 174 (0, 0))) (ho : w.ownsRow B' 115 z v n xs) : w'.ownsRow B' 115 z v n xs := by
 obtain ⟨h1, hn | ⟨g, cap, cur, hv, hb, hg, rest⟩⟩ := ho
 ·exact ⟨h1, .inl hn⟩
 ·refine ⟨h1, .inr ⟨g, cap, cur, hv, hb, h.block hg (fun e => ?_) (by decide) (by decide), rest⟩⟩;rw [e, hd] at hg
  simp at hg
structure Deal (D B : Nat) (L : LaneV) (F : List FillV) (b a o f : Value) (w : World) : Prop where
 box : w.heap[D]? = some (.cells #[.bool L.call, .int .i64 L.next, b, a, o, f] 174 (0, 0))
 ob : w.ownsRow B 115 4 b L.bids.length (celC ordE L.bids)
 oa : w.ownsRow B 115 4 a L.asks.length (celC ordE L.asks)
 oo : w.ownsRow B 61 3 o L.owed.length (celC oweE L.owed)
 fl : w.ownsRow B 106 4 f F.length (celC filE F)
 sep : b.ownBlock = none ∨ b.ownBlock ≠ a.ownBlock
theorem Deal.cells {D B : Nat} {L : LaneV} {F : List FillV} {b a o f : Value} {w : World} (h : Deal D B L F b a o f w) : w.cell? ⟨D, 0, none⟩ = some (.bool L.call) ∧ w.cell? ⟨D, 1, none⟩ = some (.int .i64 L.next) ∧ w.cell? ⟨D, 2, none⟩ = some b ∧ w.cell? ⟨D, 3, none⟩ = some a ∧ w.cell? ⟨D, 4, none⟩ = some o ∧ w.cell? ⟨D, 5, none⟩ = some f :=
 ⟨by rw [cell_at h.box]; rfl, by rw [cell_at h.box]; rfl, by rw [cell_at h.box]; rfl, by rw [cell_at h.box]; rfl, by rw [cell_at h.box]; rfl, by rw [cell_at h.box]; rfl⟩
theorem Deal.keep {D B : Nat} {L : LaneV} {F : List FillV} {b a o f : Value} {w w' : World} (h : Deal D B L F b a o f w) (hb : Below w.heap.size w w') : Deal D B L F b a o f w' :=
 ⟨(hb.block _ (Array.getElem?_eq_some_iff.1 h.box).1).trans h.box, own_keep h.ob hb, own_keep h.oa hb, own_keep h.oo hb, own_keep h.fl hb, h.sep⟩
theorem Deal.lt {D B : Nat} {L : LaneV} {F : List FillV} {b a o f : Value} {w : World} (h : Deal D B L F b a o f w) : D < w.heap.size := (Array.getElem?_eq_some_iff.1 h.box).1
theorem own_type {w w' : World} {B B' : Nat} {e e' : TypeId} {z z' n n' : Nat} {v v' : Value} {xs xs' : List Value} (h : w.grownBy w' v.ownBlock) (ho : w.ownsRow B e z v n xs) (ho' : w.ownsRow B' e' z' v' n' xs') (hne : e ≠ e') : w'.ownsRow B' e' z' v' n' xs' := by
 refine ho'.kept h ?_;obtain ⟨_, ⟨rfl, _⟩ | ⟨g, cap, cur, rfl, hg, hc, _⟩⟩ := ho'
 ·exact .inl rfl
 ·refine .inr (fun e => ?_);obtain ⟨_, ⟨rfl, _⟩ | ⟨g2, cap2, cur2, rfl, hg2, hc2, _⟩⟩ := ho
  ·cases e
  ·simp only [Value.ownBlock, Option.some.injEq] at e;subst e;rw [hc] at hc2
   simp at hc2
   exact hne hc2.2.symm
theorem box_type {w w' : World} {B D : Nat} {e t : TypeId} {z n : Nat} {v : Value} {xs : List Value} {cs : Array Value} (h : w.grownBy w' v.ownBlock) (ho : w.ownsRow B e z v n xs) (hd : w.heap[D]? = some (.cells cs t (0, 0))) (hne : e ≠ t) : w'.heap[D]? = some (.cells cs t (0, 0)) := by
 refine (h.block D (Array.getElem?_eq_some_iff.1 hd).1 (fun e => ?_)).trans hd;obtain ⟨_, ⟨rfl, _⟩ | ⟨g2, cap2, cur2, rfl, hg2, hc2, _⟩⟩ := ho
 ·cases e
 ·simp only [Value.ownBlock, Option.some.injEq] at e;subst e;rw [hd] at hc2
  simp at hc2
  exact hne hc2.2.symm
theorem own_cell {w : World} {B D j : Nat} {e t : TypeId} {z n : Nat} {v u : Value} {xs : List Value} {cs : Array Value} (ho : w.ownsRow B e z v n xs) (hd : w.heap[D]? = some (.cells cs t (0, 0))) (hne : e ≠ t) : (w.setCell ⟨D, j, none⟩ u).ownsRow B e z v n xs := by
 obtain ⟨h1, hn | ⟨g, cap, cur, hv, hb, hg, rest⟩⟩ := ho
 ·exact ⟨h1, .inl hn⟩
 ·refine ⟨h1, .inr ⟨g, cap, cur, hv, hb, (heap_set_other _ _ _ _ _ (fun e => ?_)).trans hg, rest⟩⟩;rw [e, hd] at hg
  simp at hg
  exact hne hg.2.symm
theorem own_at {w : World} {B g c : Nat} {e : TypeId} {z n j : Nat} {u : Value} {xs : List Value} (ho : w.ownsRow B e z (.slice (some ⟨g, 0, none⟩) n c) n xs) (hj : j < n * z) : (w.setCell ⟨g, j, none⟩ u).ownsRow B e z (.slice (some ⟨g, 0, none⟩) n c) n (xs.set j u) := by
 obtain ⟨h1, ⟨hv, _⟩ | ⟨g', cap, cur, hv, hb, hg, hn, hc, hs, ht⟩⟩ := ho
 ·simp at hv
 ·simp only [Value.slice.injEq, Option.some.injEq, Addr.mk.injEq, and_true, true_and] at hv;obtain ⟨rfl, rfl⟩ := hv;refine ⟨by rw [List.length_set]; exact h1, .inr ⟨g, c, cur.setIfInBounds j u, rfl, hb, heap_set hg j u, hn, hc, by simp [hs], ?_⟩⟩
  rw [Array.toList_setIfInBounds, List.take_set, ht]
theorem grown_at {w : World} {g j n c : Nat} {u : Value} : w.grownBy (w.setCell ⟨g, j, none⟩ u) (Value.slice (some ⟨g, 0, none⟩) n c).ownBlock :=
 ⟨rfl, rfl, rfl, by simp, fun k _ hk => heap_set_other _ _ _ _ _ (fun e => hk (by rw [e]; rfl))⟩
def oweP (acc asset : Int) (y : OweV) : Bool := decide (y.acc = acc) && decide (y.asset = asset)
def oweL (acc asset n : Int) (l : List OweV) : List OweV := match l.findIdx? (oweP acc asset) with
 | some i => l.modify i (fun y => ⟨y.acc, y.asset, y.n + n⟩)
 | none => laidL owB ⟨acc, asset, n⟩ l
theorem oweP_is (acc asset : Int) (B1 B2 : Nat) (o : OweV) (w : World) (h1 : B1 < w.heap.size) (h2 : B2 < w.heap.size) (c1 : w.cell? ⟨B1, 0, none⟩ = some (.int .i64 acc)) (c2 : w.cell? ⟨B2, 0, none⟩ = some (.int .i64 asset)) :
  Calls Tryz.prog 172 #[.agg (oweE o).toArray, .pointer (some ⟨B1, 0, none⟩), .pointer (some ⟨B2, 0, none⟩)] w fun e w' => e = .returned (.bool (oweP acc asset o)) ∧ Below w.heap.size w w' := by
 have HB := hideIt (below1 w (.cells (oweE o).toArray 61));have hne : B1 ≠ w.heap.size := by omega
 have hne2 : B2 ≠ w.heap.size := by omega
 unfold oweP oweE at *;obtain ⟨ac, s, n⟩ := o;simp only at HB ⊢
 show Calls Tryz.prog 172 #[.agg #[.int .i64 ac, .int .i64 s, .int .i64 n], .pointer (some ⟨B1, 0, none⟩), .pointer (some ⟨B2, 0, none⟩)] w _
 by_cases h : ac = acc
 ·subst h
  go_enter Tryz.func172, Tryz.ntmps172
  go_wp2;go_ret
  exact ⟨by simp; rfl, HB.out⟩
 ·go_enter Tryz.func172, Tryz.ntmps172
  go_wp2;go_ret
  exact ⟨by simp [h], HB.out⟩
theorem eg66 : ∀ args w, (callFunc 172 args).run Tryz.prog w = .ok (.enter 172 args) w := enters_of Tryz.func172 (by kernel_rfl) rfl
theorem eg51 : ∀ args w, (callFunc 144 args).run Tryz.prog w = .ok (.enter 144 args) w := enters_of Tryz.func144 (by kernel_rfl) rfl
theorem pred66 {acc asset : Int} {B1 B2 : Nat} {w : World} (h1 : B1 < w.heap.size) (h2 : B2 < w.heap.size) (c1 : w.cell? ⟨B1, 0, none⟩ = some (.int .i64 acc)) (c2 : w.cell? ⟨B2, 0, none⟩ = some (.int .i64 asset)) : PredB 172 #[.pointer (some ⟨B1, 0, none⟩), .pointer (some ⟨B2, 0, none⟩)] oweE (oweP acc asset) w := fun W x hW =>
 (oweP_is acc asset B1 B2 x W (Nat.lt_of_lt_of_le h1 hW.size) (Nat.lt_of_lt_of_le h2 hW.size) ((hW.cell (p := ⟨B1, 0, none⟩) h1).trans c1) ((hW.cell (p := ⟨B2, 0, none⟩) h2).trans c2)).mono (fun _ _ h => ⟨h.1, below_via hW h.2⟩)
theorem celC_modify (l : List OweV) (i : Nat) (h : i < l.length) (n : Int) : (celC oweE l).set (i * 3 + 2) (.int .i64 (l[i].n + n)) = celC oweE (l.modify i (fun y => ⟨y.acc, y.asset, y.n + n⟩)) := by
 induction l generalizing i with
 | nil => simp at h
 | cons y l ih =>
  cases i with
  | zero =>
   rw [List.modify_zero_cons, celC_cons, celC_cons]
   rfl
  | succ i =>
   rw [List.modify_succ_cons, celC_cons, celC_cons, ← ih i (by simpa using h), List.set_append, if_neg (by rw [oweK]; omega), oweK, show (i + 1) * 3 + 2 - 3 = i * 3 + 2 by omega]
   rfl
def dealO (L : LaneV) (acc asset n : Int) : LaneV := ⟨L.call, L.next, L.bids, L.asks, oweL acc asset n L.owed⟩
set_option maxHeartbeats 16000000 in
set_option maxRecDepth 100000 in
theorem owe_is (D B : Nat) (L : LaneV) (F : List FillV) (b a o f : Value) (acc asset n : Int) (w : World) (h : Deal D B L F b a o f w) (hB : B ≤ w.heap.size) (hl : L.owed.length ≤ 100000) (hn : ∀ y ∈ L.owed, 0 ≤ y.n + n ∧ y.n + n ≤ 9000000000000000000) :
  Calls Tryz.prog 142 #[.pointer (some ⟨D, 0, none⟩), .int .i64 acc, .int .i64 asset, .int .i64 n] w fun e w' => e = .returned (.tuple #[]) ∧ ∃ o', Deal D B (dealO L acc asset n) F b a o' f w' ∧ Tch D B w w' := by
 have HB0 := hideIt (below2 w (.cells #[.int .i64 acc] 3) (.cells #[.int .i64 asset] 3));have HT := two_heap w (.cells #[.int .i64 acc] 3) (.cells #[.int .i64 asset] 3);have X0 := hideIt (h.keep HB0.out);have HIX := hideIt (indexW_is 172 #[.pointer (some ⟨w.heap.size, 0, none⟩), .pointer (some ⟨w.heap.size + 1, 0, none⟩)] eg66 o L.owed (oweP acc asset) _ (own_sgot (bytes := 24) X0.out.oo (by omega)) (pred66 (acc := acc) (asset := asset) (by rw [HT.2.2]; omega) (by rw [HT.2.2]; omega) (by rw [cell_at HT.1]; rfl) (by rw [cell_at HT.2.1]; rfl)))
 have HP := hideIt (And.intro HT.1 HT.2.1);have hDl := h.lt;unfold dealO oweL;unfold idxI at HIX;cases hfi : L.owed.findIdx? (oweP acc asset) with
 | none =>
  rw [hfi] at HIX;simp only at HIX ⊢;obtain ⟨ga, gc, rfl⟩ := own_len h.oo;have HTC := hideIt (Tch.ofBelow (D := D) (B := B) HB0.out);have HLA := hideIt (fun W (hW : Deal D B L F b a (.slice ga L.owed.length gc) f W) (hS : B ≤ W.heap.size) => laidW_is 99 #[] eg62 B (.slice ga L.owed.length gc) L.owed ⟨acc, asset, n⟩ owB W hW.oo hS (by omega) (fun W _ => cmp62));have HN2 : Hid (∀ W w' v', Deal D B L F b a (.slice ga L.owed.length gc) f W → w'.ownsRow B 61 3 v' (laidL owB ⟨acc, asset, n⟩ L.owed).length (celC oweE (laidL owB ⟨acc, asset, n⟩ L.owed)) → W.grownBy w' (Value.slice ga L.owed.length gc).ownBlock → Deal D B ⟨L.call, L.next, L.bids, L.asks, laidL owB ⟨acc, asset, n⟩ L.owed⟩ F b a v' f (w'.setCell ⟨D, 4, none⟩ v') ∧ Tch D B W (w'.setCell ⟨D, 4, none⟩ v')) := fun W w' v' hW ho hg => by
   have hbx := box_type hg hW.oo hW.box (by decide)
   exact ⟨⟨heap_set hbx 4 v', own_cell (own_type hg hW.oo hW.ob (by decide)) hbx (by decide), own_cell (own_type hg hW.oo hW.oa (by decide)) hbx (by decide), own_cell ho hbx (by decide), own_cell (own_type hg hW.oo hW.fl (by decide)) hbx (by decide), hW.sep⟩, (Tch.ofGrownW hg hW.oo).trans (Tch.ofSet _ _)⟩
  have HBX : Hid (∀ W w', Deal D B L F b a (.slice ga L.owed.length gc) f W → W.grownBy w' (Value.slice ga L.owed.length gc).ownBlock → w'.frozen? ⟨D, 4, none⟩ = false ∧ D < w'.heap.size ∧ w'.cell? ⟨D, 4, none⟩ = some (.slice ga L.owed.length gc)) := fun W w' hW hg => by
   have hbx := box_type hg hW.oo hW.box (by decide)
   exact ⟨free_at hbx 4, (Array.getElem?_eq_some_iff.1 hbx).1, by rw [cell_at hbx]; rfl⟩
  have HSZ := hideIt hB;clear h hn hfi HT hB hl;obtain ⟨cl, nx, bids, asks, owed⟩ := L;simp only at *;obtain ⟨c0, c1, c2, c3, c4, c5⟩ := X0.out.cells;simp only at c0 c1 c2 c3 c4 c5;clear c0 c1 c2 c3 c5
  go_enter Tryz.func142, Tryz.ntmps142
  go_upto_region 1 with fail
  go_wp2_with fail
  refine HIX.out.mono ?_;rintro e w1 ⟨rfl, hb⟩;dsimp only;have X1 := hideIt (X0.out.keep hb);have T1 := hideIt (HTC.out.trans (Tch.ofBelow hb));have Z1 : Hid (B ≤ w1.heap.size) := Nat.le_trans HSZ.out (Nat.le_trans HB0.out.size hb.size);have e1 := (hb.block _ (Array.getElem?_eq_some_iff.1 HP.out.1).1).trans HP.out.1;have e2 := (hb.block _ (Array.getElem?_eq_some_iff.1 HP.out.2).1).trans HP.out.2;have d1 : w1.cell? ⟨w.heap.size, 0, none⟩ = some (.int .i64 acc) := by rw [cell_at e1]; rfl
  have d2 : w1.cell? ⟨w.heap.size + 1, 0, none⟩ = some (.int .i64 asset) := by rw [cell_at e2]; rfl
  clear hb X0 HTC HIX c4 HP HB0 e1 e2 HSZ;obtain ⟨c0, c1, c2, c3, c4, c5⟩ := X1.out.cells
  try simp only at c4
  clear c0 c1 c2 c3 c5;replace HLA := hideIt (HLA.out w1.drew (X1.out.keep (Below.refl _ w1).drew) Z1.out);unfold oweE at HLA;replace HN2 := hideIt (HN2.out w1.drew · · (X1.out.keep (Below.refl _ w1).drew));replace HBX := hideIt (HBX.out w1.drew · (X1.out.keep (Below.refl _ w1).drew));have TD : Hid (Tch D B w w1.drew) := T1.out.drew;clear X1 Z1 T1
  go_upto_region 4 with fail
  go_region_with (first | (refine HLA.out.mono ?_; rintro e w2 ⟨v2, rfl, ho2, hg2⟩; obtain ⟨va, vc, rfl⟩ := own_len ho2; have HH := hideIt (HN2.out _ _ ho2 hg2); obtain ⟨f1, f2, f3⟩ := HBX.out _ hg2; clear ho2 hg2))
  all_goals go_wp2
  all_goals exact bodyPost_end (v := .tuple #[]) (by simp [results, Tryz.results142, go_sem]) rfl ⟨rfl, _, HH.out.1, TD.out.trans HH.out.2⟩
 | some i =>
  rw [hfi] at HIX;simp only at HIX ⊢;have hil : i < L.owed.length := (List.findIdx?_eq_some_iff_getElem.1 hfi).1;have hnn := hn _ (List.getElem_mem hil);have HCM := hideIt (celC_modify L.owed i hil n);obtain ⟨ga, gc, rfl⟩ := own_len h.oo;obtain ⟨g, rfl⟩ : ∃ g, ga = some ⟨g, 0, none⟩ := by
   rcases h.oo.2 with ⟨_, h2⟩ | ⟨g, cap, cur, h1, _⟩
   ·omega
   ·simp only [Value.slice.injEq] at h1
    exact ⟨g, h1.1⟩
  obtain ⟨en, hen⟩ : ∃ en, en = L.owed[i].n := ⟨_, rfl⟩;rw [← hen] at hnn HCM;have HEN := hideIt hen;have HIL := hideIt hil;have hw : IntKind.i64.wrap (en + n) = en + n := by rw [IntKind.wrap_i64]; omega
  have hiI : (0 : Int) ≤ (i : Int) ∧ (i : Int) < (L.owed.length : Int) := by omega
  obtain ⟨hi0, hi1⟩ := hiI;have HN2 : Hid (∀ W, Deal D B L F b a (.slice (some ⟨g, 0, none⟩) L.owed.length gc) f W → Deal D B ⟨L.call, L.next, L.bids, L.asks, L.owed.modify i (fun y => ⟨y.acc, y.asset, y.n + n⟩)⟩ F b a (.slice (some ⟨g, 0, none⟩) L.owed.length gc) f (W.setCell ⟨g, i * 3 + 2, none⟩ (.int .i64 (en + n))) ∧ Tch D B W (W.setCell ⟨g, i * 3 + 2, none⟩ (.int .i64 (en + n)))) := fun W hW => by
   obtain ⟨_, ⟨hv, _⟩ | ⟨g', cap, cur, hv, _, hg, _⟩⟩ := hW.oo
   ·simp at hv
   ·simp only [Value.slice.injEq, Option.some.injEq, Addr.mk.injEq, and_true, true_and] at hv;obtain ⟨rfl, rfl⟩ := hv;have hoo := own_at (j := i * 3 + 2) (u := .int .i64 (en + n)) hW.oo (by omega);rw [HCM.out] at hoo;refine ⟨⟨?_, own_cell hW.ob hg (by decide), own_cell hW.oa hg (by decide), ?_, own_cell hW.fl hg (by decide), hW.sep⟩, Tch.ofGrownW grown_at hW.oo⟩
    ·refine (heap_set_other _ _ _ _ _ (fun e => ?_)).trans hW.box;have := hW.box;rw [e, hg] at this
     simp at this
    ·show World.ownsRow _ _ _ _ _ (L.owed.modify i _).length _
     rw [List.length_modify];exact hoo
  have HQ : Hid (∀ W, Deal D B L F b a (.slice (some ⟨g, 0, none⟩) L.owed.length gc) f W → W.cell? ⟨g, i * 3 + 2, none⟩ = some (.int .i64 en) ∧ W.frozen? ⟨g, i * 3 + 2, none⟩ = false ∧ g < W.heap.size) := fun W hW => by
   obtain ⟨_, ⟨hv, _⟩ | ⟨g', cap, cur, hv, _, hg, _⟩⟩ := hW.oo
   ·simp at hv
   ·have hc := hW.oo.cells (g := g) rfl (i * 3 + 2) (.int .i64 en) (by rw [celC_get oweK _ i HIL.out 2 (by omega), HEN.out]; rfl)
    simp only [Value.slice.injEq, Option.some.injEq, Addr.mk.injEq, and_true, true_and] at hv;obtain ⟨rfl, rfl⟩ := hv;rw [addN, Nat.zero_add] at hc
    exact ⟨hc, free_at hg _, (Array.getElem?_eq_some_iff.1 hg).1⟩
  have HTC := hideIt (Tch.ofBelow (D := D) (B := B) HB0.out);clear h hn hnn hfi HT hen HCM hB hl HEN HIL;clear hil;obtain ⟨cl, nx, bids, asks, owed⟩ := L;simp only at *;obtain ⟨c0, c1, c2, c3, c4, c5⟩ := X0.out.cells;simp only at c0 c1 c2 c3 c4 c5;clear c0 c1 c2 c3 c5
  go_enter Tryz.func142, Tryz.ntmps142
  go_upto_region 1 with fail
  go_wp2_with fail
  refine HIX.out.mono ?_;rintro e w1 ⟨rfl, hb⟩;dsimp only;have X1 := hideIt (X0.out.keep hb);have T1 := hideIt (HTC.out.trans (Tch.ofBelow hb));clear hb X0 HTC HIX c4 HP HB0;obtain ⟨q2, qf, qg⟩ := HQ.out _ X1.out;have HR := hideIt (HN2.out _ X1.out);obtain ⟨c0, c1, c2, c3, c4, c5⟩ := X1.out.cells
  try simp only at c4
  clear c0 c1 c2 c3 c5 HQ HN2;have hi2 : (0 : Int) ≤ (i : Int) := hi0;go_wp2;exact bodyPost_ret (v := .tuple #[]) (by simp [results, Tryz.results142, go_sem]) rfl ⟨rfl, _, HR.out.1, T1.out.trans HR.out.2⟩
def OkO (c : Nat) (l : List OweV) : Prop := l.length ≤ 16 + c ∧ ∀ y ∈ l, 0 ≤ y.n ∧ y.n ≤ 9007199254740992 + (c : Int) * 1000000000000
theorem okO_owe {c : Nat} {l : List OweV} {acc asset n : Int} (h : OkO c l) (hn : 0 ≤ n ∧ n ≤ 1000000000000) : OkO (c + 1) (oweL acc asset n l) := by
 obtain ⟨h1, h2⟩ := h;unfold oweL
 split
 ·rename_i i hi
  refine ⟨by rw [List.length_modify]; omega, fun y hy => ?_⟩
  rw [List.mem_iff_getElem?] at hy;obtain ⟨j, hj⟩ := hy;rw [List.getElem?_modify] at hj;cases hjl : l[j]? with
  | none => rw [hjl] at hj; simp at hj
  | some z =>
   have hz := h2 z (List.mem_of_getElem? hjl);rw [hjl] at hj;simp only [Option.map_eq_map, Option.map_some, Option.some.injEq] at hj;rw [← hj]
   split
   ·simp only
    omega
   ·first | omega | (simp only [id]; omega)
 ·unfold laidL;refine ⟨?_, fun y hy => ?_⟩
  ·have := congrArg List.length (List.takeWhile_append_dropWhile (p := (owB · ⟨acc, asset, n⟩)) (l := l));rw [List.length_append] at this ⊢;rw [List.length_cons];omega
  ·rw [List.mem_append, List.mem_cons] at hy
   rcases hy with hy | rfl | hy
   ·have := h2 y (List.takeWhile_subset _ hy);omega
   ·simp only
    omega
   ·have := h2 y (List.dropWhile_subset _ hy);omega
theorem okO_fits {c : Nat} {l : List OweV} (h : OkO c l) (hc : c ≤ 1000) {n : Int} (hn : 0 ≤ n ∧ n ≤ 1000000000000) : l.length ≤ 100000 ∧ ∀ y ∈ l, 0 ≤ y.n + n ∧ y.n + n ≤ 9000000000000000000 :=
 ⟨by have := h.1; omega, fun y hy => by have := h.2 y hy; omega⟩
set_option maxHeartbeats 2000000 in
theorem orders_is (D : Nat) (s : Int) (w : World) : Calls Tryz.prog 114 #[.pointer (some ⟨D, 0, none⟩), .int .i64 s] w fun e w' => e = .returned (.pointer (some ⟨D, sideOff s, none⟩)) ∧ w' = w := by
 have H := hideIt (fun W => sideOf_is D s W);generalize sideOff s = o at *
 go_enter Tryz.func114, Tryz.ntmps114
 go_wp2_with fail
 refine (H.out _).mono ?_;rintro e w1 ⟨rfl, rfl⟩;dsimp only;go_wp2;go_ret
 exact ⟨rfl, rfl⟩
def overB (l : List OweV) : Bool := l.any (fun o => decide (9007199254740992 < o.n))
theorem over1_is (o : OweV) (w : World) : Calls Tryz.prog 144 #[.agg (oweE o).toArray] w fun e w' => e = .returned (.bool (decide (9007199254740992 < o.n))) ∧ Below w.heap.size w w' := by
 have HB := hideIt (below1 w (.cells (oweE o).toArray 61));unfold oweE at *;obtain ⟨ac, s, n⟩ := o;simp only at HB ⊢
 show Calls Tryz.prog 144 #[.agg #[.int .i64 ac, .int .i64 s, .int .i64 n]] w _
 go_enter Tryz.func144, Tryz.ntmps144
 go_wp2;go_ret
 exact ⟨rfl, HB.out⟩
theorem pred51 {w : World} : PredB 144 #[] oweE (fun o => decide (9007199254740992 < o.n)) w := fun W x hW => (over1_is x W).mono (fun _ _ h => ⟨h.1, below_via hW h.2⟩)
set_option maxHeartbeats 4000000 in
theorem giveBack_is (D B c : Nat) (L : LaneV) (F : List FillV) (b a o f : Value) (s : Int) (r : OrdV) (w : World) (h : Deal D B L F b a o f w) (hB : B ≤ w.heap.size) (ho : OkO c L.owed) (hc : c ≤ 1000) (hp : 0 ≤ r.price ∧ r.price ≤ 1000000) (hr : 0 ≤ r.left ∧ r.left ≤ 1000000) :
  Calls Tryz.prog 113 #[.pointer (some ⟨D, 0, none⟩), .int .i64 s, .agg (ordE r).toArray] w fun e w' => e = .returned (.tuple #[]) ∧ ∃ o', Deal D B (dealO L r.acc (brA s) (brN s r)) F b a o' f w' ∧ Tch D B w w' := by
 have hpl : 0 ≤ r.price * r.left ∧ r.price * r.left ≤ 1000000000000 := ⟨Int.mul_nonneg hp.1 hr.1, by
  have := Int.mul_le_mul hp.2 hr.2 hr.1 (by omega : (0 : Int) ≤ 1000000)
  omega⟩
 have hbn : 0 ≤ brN s r ∧ brN s r ≤ 1000000000000 := by unfold brN; split <;> omega
 have HB := hideIt (below1 w (.cells (ordE r).toArray 115));have HN := hideIt (heap_alloc_new w (.cells (ordE r).toArray 115));have H1 := hideIt (fun W => brings_is s r W (by omega));have X0 := hideIt (h.keep HB.out);have H2 := hideIt (fun W (hW : Deal D B L F b a o f W) (hS : B ≤ W.heap.size) => owe_is D B L F b a o f r.acc (brA s) (brN s r) W hW hS (okO_fits ho hc hbn).1 (okO_fits ho hc hbn).2);have HSZ : Hid (B ≤ (w.alloc (.cells (ordE r).toArray 115)).heap.size) := Nat.le_trans hB HB.out.size;clear h hp hr hpl hbn ho hB;generalize brA s = x at *;generalize brN s r = y at *;unfold ordE at *;obtain ⟨i, ac, p, l⟩ := r;simp only at *
 show Calls Tryz.prog 113 #[.pointer (some ⟨D, 0, none⟩), .int .i64 s, .agg #[.int .i64 i, .int .i64 ac, .int .i64 p, .int .i64 l]] w _
 go_enter Tryz.func113, Tryz.ntmps113
 go_wp2_with fail
 refine (H1.out _).mono ?_;rintro e w1 ⟨rfl, hb⟩;dsimp only;have X1 := hideIt (X0.out.keep hb);have T1 := hideIt ((Tch.ofBelow (D := D) (B := B) HB.out).trans (Tch.ofBelow hb));have Z1 : Hid (B ≤ w1.heap.size) := Nat.le_trans HSZ.out hb.size;have e1 := (hb.block _ (Array.getElem?_eq_some_iff.1 HN.out).1).trans HN.out;have d1 : w1.cell? ⟨w.heap.size, 1, none⟩ = some (.int .i64 ac) := by rw [cell_at e1]; rfl
 clear hb X0 HB HN e1 HSZ H1
 go_wp2_with fail
 refine (H2.out _ X1.out Z1.out).mono ?_;rintro e w2 ⟨rfl, o', hD, hT⟩;dsimp only;have HH := hideIt (And.intro hD (T1.out.trans hT));clear hD hT;go_wp2;exact bodyPost_end (v := .tuple #[]) (by simp [results, Tryz.results113, go_sem]) rfl ⟨rfl, _, HH.out⟩
def put4w (w : World) (p : Nat) (x : OrdV) : World := (((w.setCell ⟨p, 0, none⟩ (.int .i64 x.id)).setCell ⟨p, 1, none⟩ (.int .i64 x.acc)).setCell ⟨p, 2, none⟩ (.int .i64 x.price)).setCell ⟨p, 3, none⟩ (.int .i64 x.left)
theorem put4w_at {w : World} {p : Nat} {x y : OrdV} (h : w.heap[p]? = some (.cells (ordE y).toArray 115 (0, 0))) : (put4w w p x).heap[p]? = some (.cells (ordE x).toArray 115 (0, 0)) := put4 w p 115 _ _ _ _ h
theorem step_store4 {ops : Array Oper} {o : Oper} {a : Act} {w : World} {K : Act → World → Prop} {Q : Exit → Act → World → Prop} {E : Prop}
  (hg : o.guard = none) (p v : Operand) (hop : o.op = Op.store 115 p v) (b : Nat) (x y : OrdV) (hp : a.eval p = .pointer (some ⟨b, 0, none⟩)) (hv : a.eval v = .agg (ordE x).toArray)
  (hb : w.heap[b]? = some (.cells (ordE y).toArray 115 (0, 0))) (hK : K (a.put o.dst undef) (put4w w b x)) :
  if Region.wanted o (yielded ops a.tmps) = true then Oper.wp Tryz.prog o a w K Q else E := by
 have hw : Region.wanted o (yielded ops a.tmps) = true := by simp [Region.wanted, hg]
 rw [if_pos hw];have p0 : w.cell? ⟨b, 0, none⟩ = some (.int .i64 y.id) := by rw [cell_at hb]; rfl
 have p1 : w.cell? ⟨b, 1, none⟩ = some (.int .i64 y.acc) := by rw [cell_at hb]; rfl
 have p2 : w.cell? ⟨b, 2, none⟩ = some (.int .i64 y.price) := by rw [cell_at hb]; rfl
 have p3 : w.cell? ⟨b, 3, none⟩ = some (.int .i64 y.left) := by rw [cell_at hb]; rfl
 have pf : ∀ j, w.frozen? ⟨b, j, none⟩ = false := fun j => free_at hb j
 unfold put4w at hK;unfold ordE at hv;unfold Oper.wp;simp only [execOp, hop, hp, hv]
 simp [go_sem, p0, p1, p2, p3, pf]
 exact hK
end Go.Proofs.YtiinigifjdpicaaGreatDoor
