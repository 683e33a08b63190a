/- A list with one more, behind all that stand ahead of it. -/
import Derived.Test.YtiinigifjdpicaaGreatDoorDel
namespace Go.Proofs.YtiinigifjdpicaaGreatDoor
open Go.RowKit
set_option linter.all false
def laidL {α : Type} (r : α → α → Bool) (x : α) (l : List α) : List α := l.takeWhile (r · x) ++ x :: l.dropWhile (r · x)
theorem grown_via {w W w' : World} {q : Option Nat} (h : Below w.heap.size w W) (k : W.grownBy w' q) : w.grownBy w' q :=
  ⟨k.os.trans h.os, k.tape.trans h.tape, k.output.trans h.output, Nat.le_trans h.size k.size, fun i hi hne => (k.block i (Nat.lt_of_lt_of_le hi h.size) hne).trans (h.block i hi)⟩
theorem takeWhile_at {α : Type} (p : α → Bool) (l : List α) (t : Nat) (h : t < l.length) : ((l.drop t).takeWhile p).length = if p l[t] = true then 1 + ((l.drop (t + 1)).takeWhile p).length else 0 := by
  rw [List.drop_eq_getElem_cons h, List.takeWhile_cons]
  split
  · simp; omega
  · rfl
theorem laidL_at {α : Type} (r : α → α → Bool) (x : α) (l : List α) (t : Nat) (h : (l.takeWhile (r · x)).length = t) : l.take t ++ x :: l.drop t = laidL r x l := by
  unfold laidL
  have e := List.takeWhile_append_dropWhile (p := (r · x)) (l := l)
  generalize l.takeWhile (r · x) = T at *
  generalize l.dropWhile (r · x) = D at *
  rw [← e, List.take_left' h, List.drop_left' h]
set_option maxHeartbeats 8000000 in
set_option maxRecDepth 100000 in
theorem laidW_is (g : Nat) (lb : Array Value) (eg : ∀ args w, (callFunc g args).run Tryz.prog w = .ok (.enter g args) w) (B : Nat) (v : Value) (l : List OweV) (x : OweV) (r : OweV → OweV → Bool) (w : World) (ho : w.ownsRow B 61 3 v l.length (celC oweE l)) (hB : B ≤ w.heap.size) (hbig : (l.length + 1) * 24 ≤ 140737488355328) (hp : ∀ W, Below w.heap.size w W → CmpB g lb oweU r W) :
    Calls Tryz.prog 173 #[v, .agg (oweE x).toArray, .func (.func g) #[] lb] w fun e w' => ∃ v', e = .returned v' ∧ w'.ownsRow B 61 3 v' (laidL r x l).length (celC oweE (laidL r x l)) ∧ w.grownBy w' v.ownBlock := by
  have HB0 := hideIt (below1 w (.cells (oweE x).toArray 61))
  have HN := hideIt (heap_alloc_new w (.cells (oweE x).toArray 61))
  have HO := hideIt ho
  have HG := hideIt (own_sgot (bytes := 24) ho (by omega))
  have hne : ∀ vb, w.heap.size ≤ vb → v.ownBlock ≠ some vb := fun vb h e => by have := ho.lt vb e; omega
  have HINS := hideIt (fun i W (hW : Below w.heap.size w W) (hi : i ≤ l.length) => insertW_is B i W.heap.size v l x (W.alloc (.cells (oweE x).toArray 61)) (own_keep (own_keep ho hW) (below1 _ _)) (Nat.le_trans hB (Nat.le_trans hW.size (by simp))) hi hbig (heap_alloc_new W _) (hne _ hW.size))
  have HGV := hideIt (fun W w' (hW : Below w.heap.size w W) (hg : (W.alloc (.cells (oweE x).toArray 61)).grownBy w' v.ownBlock) => grown_via (below_via hW (below1 W _)) hg)
  obtain ⟨a, c, rfl, h8, hr⟩ := HG.out.owes
  have HH := hideIt hr
  have HP := hideIt (hp _ HB0.out)
  have hn1 : l.length ≤ 9223372036854775806 := by omega
  clear hr hp ho hne HG hB hbig h8 HO
  unfold oweE at HB0 HN HINS HGV HP ⊢
  show Calls Tryz.prog 173 #[.slice a l.length c, .agg #[.int .i64 x.acc, .int .i64 x.asset, .int .i64 x.n], .func (.func g) #[] lb] w _
  go_enter Tryz.func173, Tryz.ntmps173
  go_wp2_with fail
  go_loopw [7] (fun v wr => ∃ t : Nat, v = .int .i64 t ∧ t ≤ l.length ∧ Hid (Below (w.alloc (.cells #[.int .i64 x.acc, .int .i64 x.asset, .int .i64 x.n] 61)).heap.size (w.alloc (.cells #[.int .i64 x.acc, .int .i64 x.asset, .int .i64 x.n] 61)) wr ∧ (l.takeWhile (r · x)).length = t + ((l.drop t).takeWhile (r · x)).length)) (fun v _ => l.length - (intOf v).toNat)
  case atStart => exact ⟨0, rfl, Nat.zero_le _, hideIt ⟨Below.refl _ _, by simp⟩⟩
  case round =>
    obtain ⟨t, rfl, ht, HR⟩ := hrel
    have HW := hideIt (below_via HB0.out HR.out.1)
    have HK2 : Hid (∀ W, Below (w.alloc (.cells #[.int .i64 x.acc, .int .i64 x.asset, .int .i64 x.n] 61)).heap.size (w.alloc (.cells #[.int .i64 x.acc, .int .i64 x.asset, .int .i64 x.n] 61)) W → W.cell? ⟨w.heap.size, 0, none⟩ = some (.int .i64 x.acc) ∧ W.cell? ⟨w.heap.size, 1, none⟩ = some (.int .i64 x.asset) ∧ W.cell? ⟨w.heap.size, 2, none⟩ = some (.int .i64 x.n)) := fun W hW => ⟨(hW.cell (p := ⟨w.heap.size, 0, none⟩) (by simp)).trans (by rw [cell_at HN.out]; rfl), (hW.cell (p := ⟨w.heap.size, 1, none⟩) (by simp)).trans (by rw [cell_at HN.out]; rfl), (hW.cell (p := ⟨w.heap.size, 2, none⟩) (by simp)).trans (by rw [cell_at HN.out]; rfl)⟩
    by_cases hlt : t < l.length
    · have hltI : (t : Int) < (l.length : Int) := by omega
      have ht0 : (0 : Int) ≤ (t : Int) := by omega
      have hw : IntKind.i64.wrap ((t : Int) + 1) = ((t + 1 : Nat) : Int) := by rw [IntKind.wrap_i64]; omega
      obtain ⟨b, off, rfl, hbl0, q0, q1, q2⟩ := HH.out t hlt
      have HTW := hideIt (takeWhile_at (r · x) l t hlt)
      have hblr : b < wr.heap.size := Nat.lt_of_lt_of_le hbl0 HW.out.size
      have hbl : b < (w.alloc (.cells #[.int .i64 x.acc, .int .i64 x.asset, .int .i64 x.n] 61)).heap.size := by simp; omega
      replace q0 := (HB0.out.cell (p := ⟨b, off + t * 3, none⟩) hbl0).trans q0
      replace q1 := (HB0.out.cell (p := ⟨b, off + t * 3 + 1, none⟩) hbl0).trans q1
      replace q2 := (HB0.out.cell (p := ⟨b, off + t * 3 + 2, none⟩) hbl0).trans q2
      generalize l[t] = em at *
      have HK : Hid (∀ W, Below (w.alloc (.cells #[.int .i64 x.acc, .int .i64 x.asset, .int .i64 x.n] 61)).heap.size (w.alloc (.cells #[.int .i64 x.acc, .int .i64 x.asset, .int .i64 x.n] 61)) W → W.cell? ⟨b, off + t * 3, none⟩ = some (.int .i64 em.acc) ∧ W.cell? ⟨b, off + t * 3 + 1, none⟩ = some (.int .i64 em.asset) ∧ W.cell? ⟨b, off + t * 3 + 2, none⟩ = some (.int .i64 em.n) ∧ W.cell? ⟨w.heap.size, 0, none⟩ = some (.int .i64 x.acc) ∧ W.cell? ⟨w.heap.size, 1, none⟩ = some (.int .i64 x.asset) ∧ W.cell? ⟨w.heap.size, 2, none⟩ = some (.int .i64 x.n)) := fun W hW => ⟨(hW.cell (p := ⟨b, off + t * 3, none⟩) hbl).trans q0, (hW.cell (p := ⟨b, off + t * 3 + 1, none⟩) hbl).trans q1, (hW.cell (p := ⟨b, off + t * 3 + 2, none⟩) hbl).trans q2, (hW.cell (p := ⟨w.heap.size, 0, none⟩) (by simp)).trans (by rw [cell_at HN.out]; rfl), (hW.cell (p := ⟨w.heap.size, 1, none⟩) (by simp)).trans (by rw [cell_at HN.out]; rfl), (hW.cell (p := ⟨w.heap.size, 2, none⟩) (by simp)).trans (by rw [cell_at HN.out]; rfl)⟩
      have HC : Hid (∀ W, Below (w.alloc (.cells #[.int .i64 x.acc, .int .i64 x.asset, .int .i64 x.n] 61)).heap.size (w.alloc (.cells #[.int .i64 x.acc, .int .i64 x.asset, .int .i64 x.n] 61)) W → Calls Tryz.prog g (#[oweU em, oweU x] ++ lb) W fun e w' => e = .returned (.bool (r em x)) ∧ Below (w.alloc (.cells #[.int .i64 x.acc, .int .i64 x.asset, .int .i64 x.n] 61)).heap.size (w.alloc (.cells #[.int .i64 x.acc, .int .i64 x.asset, .int .i64 x.n] 61)) w' ∧ ((fun W => W.cell? ⟨b, off + t * 3, none⟩ = some (.int .i64 em.acc) ∧ W.cell? ⟨b, off + t * 3 + 1, none⟩ = some (.int .i64 em.asset) ∧ W.cell? ⟨b, off + t * 3 + 2, none⟩ = some (.int .i64 em.n) ∧ W.cell? ⟨w.heap.size, 0, none⟩ = some (.int .i64 x.acc) ∧ W.cell? ⟨w.heap.size, 1, none⟩ = some (.int .i64 x.asset) ∧ W.cell? ⟨w.heap.size, 2, none⟩ = some (.int .i64 x.n)) w')) := fun W hW => (HP.out W em x hW).mono (fun e w' hx => ⟨hx.1, hx.2, HK.out w' hx.2⟩)
      have HBW := hideIt HR.out.1
      have c9 := HK.out wr HBW.out
      clear HH q0 q1 q2
      (try dsimp only at HC)
      unfold oweU oweE at HC
      (try dsimp only at HC)
      have HRT := hideIt HR.out.2
      clear HR HW hbl0
      go_upto_region 2 with fail
      go_cut [20] from 8 to 20 (fun u wx => u = .bool (r em x) ∧ Below (w.alloc (.cells #[.int .i64 x.acc, .int .i64 x.asset, .int .i64 x.n] 61)).heap.size (w.alloc (.cells #[.int .i64 x.acc, .int .i64 x.asset, .int .i64 x.n] 61)) wx)
      case first =>
        obtain ⟨c0, c1, c2, c3, c4, c5⟩ := c9
        go_region_held3 (fun W => W.cell? ⟨b, off + t * 3, none⟩ = some (.int .i64 em.acc) ∧ W.cell? ⟨b, off + t * 3 + 1, none⟩ = some (.int .i64 em.asset) ∧ W.cell? ⟨b, off + t * 3 + 2, none⟩ = some (.int .i64 em.n) ∧ W.cell? ⟨w.heap.size, 0, none⟩ = some (.int .i64 x.acc) ∧ W.cell? ⟨w.heap.size, 1, none⟩ = some (.int .i64 x.asset) ∧ W.cell? ⟨w.heap.size, 2, none⟩ = some (.int .i64 x.n)) (go_keep) (first | (refine (HC.out _ (by first | exact HBW.out | exact HBW.out.drew)).mono ?_; rintro e w5 ⟨rfl, hst, j0, j1, j2, j3, j4, j5⟩))
        all_goals go_wp2_with fail
        all_goals go_meet
        all_goals exact ⟨rfl, hst⟩
      case rest =>
      obtain ⟨rfl, hb⟩ := hcut
      have HB := hideIt hb
      clear c9 hb HC HK HBW
      cases hq : r em x
      · have HFT : Hid (l.take t ++ x :: l.drop t = laidL r x l) := laidL_at r x l t (by rw [HRT.out, HTW.out, if_neg (by simp [hq])]; rfl)
        clear HRT HTW
        have X1 := HK2.out _ HB.out
        have HW := hideIt (below_via HB0.out HB.out)
        clear HB
        replace HINS := hideIt (HINS.out t _ HW.out ht)
        rw [HFT.out] at HINS
        obtain ⟨d0, d1, d2⟩ := X1
        go_wp2_with fail
        refine HINS.out.mono ?_
        rintro e w9 ⟨v', rfl, hown, hgr⟩
        dsimp only
        have HGR := hideIt (HGV.out _ _ HW.out hgr)
        have HOW := hideIt hown
        clear hgr hown
        go_wp2
        go_ret
        exact ⟨_, rfl, HOW.out, HGR.out⟩
      · have HF : Hid ((l.takeWhile (r · x)).length = (t + 1) + ((l.drop (t + 1)).takeWhile (r · x)).length) := by
          show _ = _
          rw [HRT.out, HTW.out, if_pos hq]
          omega
        clear HRT HTW
        go_wp2
        go_roundw
        case rel => exact ⟨t + 1, by go_num, by omega, hideIt ⟨HB.out, HF.out⟩⟩
        case measure => simp [intOf]; omega
    · have hltI : ¬ (t : Int) < (l.length : Int) := by omega
      have hdf : decide ((t : Int) < (l.length : Int)) = false := decide_eq_false hltI
      have hdf2 : decide (t < l.length) = false := decide_eq_false hlt
      have HFT : Hid (l.take t ++ x :: l.drop t = laidL r x l) := laidL_at r x l t (by rw [HR.out.2, List.drop_of_length_le (by omega)]; rfl)
      have HB := hideIt HR.out.1
      have X1 := HK2.out _ (below_drewN HB.out 0)
      clear HH HP HR HW
      go_upto_region 2 with fail
      go_quiet (fail)
      have HB1 := hideIt (below_drewN HB.out nq)
      replace X1 := HK2.out _ HB1.out
      have HW := hideIt (below_via HB0.out HB1.out)
      clear HB HB1
      generalize wr.drewN nq = wx at *
      replace HINS := hideIt (HINS.out t _ HW.out ht)
      rw [HFT.out] at HINS
      obtain ⟨d0, d1, d2⟩ := X1
      go_wp2_with fail
      refine HINS.out.mono ?_
      rintro e w9 ⟨v', rfl, hown, hgr⟩
      dsimp only
      have HGR := hideIt (HGV.out _ _ HW.out hgr)
      have HOW := hideIt hown
      clear hgr hown
      go_wp2
      go_ret
      exact ⟨_, rfl, HOW.out, HGR.out⟩
set_option maxHeartbeats 8000000 in
set_option maxRecDepth 100000 in
theorem laidO_is (g : Nat) (lb : Array Value) (eg : ∀ args w, (callFunc g args).run Tryz.prog w = .ok (.enter g args) w) (B : Nat) (v : Value) (l : List OrdV) (x : OrdV) (r : OrdV → OrdV → Bool) (w : World) (ho : w.ownsRow B 115 4 v l.length (celC ordE l)) (hB : B ≤ w.heap.size) (hbig : (l.length + 1) * 32 ≤ 140737488355328) (hp : ∀ W, Below w.heap.size w W → CmpB g lb ordU r W) :
    Calls Tryz.prog 115 #[v, .agg (ordE x).toArray, .func (.func g) #[] lb] w fun e w' => ∃ v', e = .returned v' ∧ w'.ownsRow B 115 4 v' (laidL r x l).length (celC ordE (laidL r x l)) ∧ w.grownBy w' v.ownBlock := by
  have HB0 := hideIt (below1 w (.cells (ordE x).toArray 115))
  have HN := hideIt (heap_alloc_new w (.cells (ordE x).toArray 115))
  have HO := hideIt ho
  have HG := hideIt (own_sgot (bytes := 32) ho (by omega))
  have hne : ∀ vb, w.heap.size ≤ vb → v.ownBlock ≠ some vb := fun vb h e => by have := ho.lt vb e; omega
  have HINS := hideIt (fun i W (hW : Below w.heap.size w W) (hi : i ≤ l.length) => insertO_is B i W.heap.size v l x (W.alloc (.cells (ordE x).toArray 115)) (own_keep (own_keep ho hW) (below1 _ _)) (Nat.le_trans hB (Nat.le_trans hW.size (by simp))) hi hbig (heap_alloc_new W _) (hne _ hW.size))
  have HGV := hideIt (fun W w' (hW : Below w.heap.size w W) (hg : (W.alloc (.cells (ordE x).toArray 115)).grownBy w' v.ownBlock) => grown_via (below_via hW (below1 W _)) hg)
  obtain ⟨a, c, rfl, h8, hr⟩ := HG.out.ords
  have HH := hideIt hr
  have HP := hideIt (hp _ HB0.out)
  have hn1 : l.length ≤ 9223372036854775806 := by omega
  clear hr hp ho hne HG hB hbig h8 HO
  unfold ordE at HB0 HN HINS HGV HP ⊢
  show Calls Tryz.prog 115 #[.slice a l.length c, .agg #[.int .i64 x.id, .int .i64 x.acc, .int .i64 x.price, .int .i64 x.left], .func (.func g) #[] lb] w _
  go_enter Tryz.func115, Tryz.ntmps115
  go_wp2_with fail
  go_loopw [7] (fun v wr => ∃ t : Nat, v = .int .i64 t ∧ t ≤ l.length ∧ Hid (Below (w.alloc (.cells #[.int .i64 x.id, .int .i64 x.acc, .int .i64 x.price, .int .i64 x.left] 115)).heap.size (w.alloc (.cells #[.int .i64 x.id, .int .i64 x.acc, .int .i64 x.price, .int .i64 x.left] 115)) wr ∧ (l.takeWhile (r · x)).length = t + ((l.drop t).takeWhile (r · x)).length)) (fun v _ => l.length - (intOf v).toNat)
  case atStart => exact ⟨0, rfl, Nat.zero_le _, hideIt ⟨Below.refl _ _, by simp⟩⟩
  case round =>
    obtain ⟨t, rfl, ht, HR⟩ := hrel
    have HW := hideIt (below_via HB0.out HR.out.1)
    have HK2 : Hid (∀ W, Below (w.alloc (.cells #[.int .i64 x.id, .int .i64 x.acc, .int .i64 x.price, .int .i64 x.left] 115)).heap.size (w.alloc (.cells #[.int .i64 x.id, .int .i64 x.acc, .int .i64 x.price, .int .i64 x.left] 115)) W → W.cell? ⟨w.heap.size, 0, none⟩ = some (.int .i64 x.id) ∧ W.cell? ⟨w.heap.size, 1, none⟩ = some (.int .i64 x.acc) ∧ W.cell? ⟨w.heap.size, 2, none⟩ = some (.int .i64 x.price) ∧ W.cell? ⟨w.heap.size, 3, none⟩ = some (.int .i64 x.left)) := fun W hW => ⟨(hW.cell (p := ⟨w.heap.size, 0, none⟩) (by simp)).trans (by rw [cell_at HN.out]; rfl), (hW.cell (p := ⟨w.heap.size, 1, none⟩) (by simp)).trans (by rw [cell_at HN.out]; rfl), (hW.cell (p := ⟨w.heap.size, 2, none⟩) (by simp)).trans (by rw [cell_at HN.out]; rfl), (hW.cell (p := ⟨w.heap.size, 3, none⟩) (by simp)).trans (by rw [cell_at HN.out]; rfl)⟩
    by_cases hlt : t < l.length
    · have hltI : (t : Int) < (l.length : Int) := by omega
      have ht0 : (0 : Int) ≤ (t : Int) := by omega
      have hw : IntKind.i64.wrap ((t : Int) + 1) = ((t + 1 : Nat) : Int) := by rw [IntKind.wrap_i64]; omega
      obtain ⟨b, off, rfl, hbl0, q0, q1, q2, q3⟩ := HH.out t hlt
      have HTW := hideIt (takeWhile_at (r · x) l t hlt)
      have hblr : b < wr.heap.size := Nat.lt_of_lt_of_le hbl0 HW.out.size
      have hbl : b < (w.alloc (.cells #[.int .i64 x.id, .int .i64 x.acc, .int .i64 x.price, .int .i64 x.left] 115)).heap.size := by simp; omega
      replace q0 := (HB0.out.cell (p := ⟨b, off + t * 4, none⟩) hbl0).trans q0
      replace q1 := (HB0.out.cell (p := ⟨b, off + t * 4 + 1, none⟩) hbl0).trans q1
      replace q2 := (HB0.out.cell (p := ⟨b, off + t * 4 + 2, none⟩) hbl0).trans q2
      replace q3 := (HB0.out.cell (p := ⟨b, off + t * 4 + 3, none⟩) hbl0).trans q3
      generalize l[t] = em at *
      have HK : Hid (∀ W, Below (w.alloc (.cells #[.int .i64 x.id, .int .i64 x.acc, .int .i64 x.price, .int .i64 x.left] 115)).heap.size (w.alloc (.cells #[.int .i64 x.id, .int .i64 x.acc, .int .i64 x.price, .int .i64 x.left] 115)) W → W.cell? ⟨b, off + t * 4, none⟩ = some (.int .i64 em.id) ∧ W.cell? ⟨b, off + t * 4 + 1, none⟩ = some (.int .i64 em.acc) ∧ W.cell? ⟨b, off + t * 4 + 2, none⟩ = some (.int .i64 em.price) ∧ W.cell? ⟨b, off + t * 4 + 3, none⟩ = some (.int .i64 em.left) ∧ W.cell? ⟨w.heap.size, 0, none⟩ = some (.int .i64 x.id) ∧ W.cell? ⟨w.heap.size, 1, none⟩ = some (.int .i64 x.acc) ∧ W.cell? ⟨w.heap.size, 2, none⟩ = some (.int .i64 x.price) ∧ W.cell? ⟨w.heap.size, 3, none⟩ = some (.int .i64 x.left)) := fun W hW => ⟨(hW.cell (p := ⟨b, off + t * 4, none⟩) hbl).trans q0, (hW.cell (p := ⟨b, off + t * 4 + 1, none⟩) hbl).trans q1, (hW.cell (p := ⟨b, off + t * 4 + 2, none⟩) hbl).trans q2, (hW.cell (p := ⟨b, off + t * 4 + 3, none⟩) hbl).trans q3, (hW.cell (p := ⟨w.heap.size, 0, none⟩) (by simp)).trans (by rw [cell_at HN.out]; rfl), (hW.cell (p := ⟨w.heap.size, 1, none⟩) (by simp)).trans (by rw [cell_at HN.out]; rfl), (hW.cell (p := ⟨w.heap.size, 2, none⟩) (by simp)).trans (by rw [cell_at HN.out]; rfl), (hW.cell (p := ⟨w.heap.size, 3, none⟩) (by simp)).trans (by rw [cell_at HN.out]; rfl)⟩
      have HC : Hid (∀ W, Below (w.alloc (.cells #[.int .i64 x.id, .int .i64 x.acc, .int .i64 x.price, .int .i64 x.left] 115)).heap.size (w.alloc (.cells #[.int .i64 x.id, .int .i64 x.acc, .int .i64 x.price, .int .i64 x.left] 115)) W → Calls Tryz.prog g (#[ordU em, ordU x] ++ lb) W fun e w' => e = .returned (.bool (r em x)) ∧ Below (w.alloc (.cells #[.int .i64 x.id, .int .i64 x.acc, .int .i64 x.price, .int .i64 x.left] 115)).heap.size (w.alloc (.cells #[.int .i64 x.id, .int .i64 x.acc, .int .i64 x.price, .int .i64 x.left] 115)) w' ∧ ((fun W => W.cell? ⟨b, off + t * 4, none⟩ = some (.int .i64 em.id) ∧ W.cell? ⟨b, off + t * 4 + 1, none⟩ = some (.int .i64 em.acc) ∧ W.cell? ⟨b, off + t * 4 + 2, none⟩ = some (.int .i64 em.price) ∧ W.cell? ⟨b, off + t * 4 + 3, none⟩ = some (.int .i64 em.left) ∧ W.cell? ⟨w.heap.size, 0, none⟩ = some (.int .i64 x.id) ∧ W.cell? ⟨w.heap.size, 1, none⟩ = some (.int .i64 x.acc) ∧ W.cell? ⟨w.heap.size, 2, none⟩ = some (.int .i64 x.price) ∧ W.cell? ⟨w.heap.size, 3, none⟩ = some (.int .i64 x.left)) w')) := fun W hW => (HP.out W em x hW).mono (fun e w' hx => ⟨hx.1, hx.2, HK.out w' hx.2⟩)
      have HBW := hideIt HR.out.1
      have c9 := HK.out wr HBW.out
      clear HH q0 q1 q2 q3
      (try dsimp only at HC)
      unfold ordU ordE at HC
      (try dsimp only at HC)
      have HRT := hideIt HR.out.2
      clear HR HW hbl0
      go_upto_region 2 with fail
      go_cut [20] from 8 to 20 (fun u wx => u = .bool (r em x) ∧ Below (w.alloc (.cells #[.int .i64 x.id, .int .i64 x.acc, .int .i64 x.price, .int .i64 x.left] 115)).heap.size (w.alloc (.cells #[.int .i64 x.id, .int .i64 x.acc, .int .i64 x.price, .int .i64 x.left] 115)) wx)
      case first =>
        obtain ⟨c0, c1, c2, c3, c4, c5, c6, c7⟩ := c9
        go_region_held3 (fun W => W.cell? ⟨b, off + t * 4, none⟩ = some (.int .i64 em.id) ∧ W.cell? ⟨b, off + t * 4 + 1, none⟩ = some (.int .i64 em.acc) ∧ W.cell? ⟨b, off + t * 4 + 2, none⟩ = some (.int .i64 em.price) ∧ W.cell? ⟨b, off + t * 4 + 3, none⟩ = some (.int .i64 em.left) ∧ W.cell? ⟨w.heap.size, 0, none⟩ = some (.int .i64 x.id) ∧ W.cell? ⟨w.heap.size, 1, none⟩ = some (.int .i64 x.acc) ∧ W.cell? ⟨w.heap.size, 2, none⟩ = some (.int .i64 x.price) ∧ W.cell? ⟨w.heap.size, 3, none⟩ = some (.int .i64 x.left)) (go_keep) (first | (refine (HC.out _ (by first | exact HBW.out | exact HBW.out.drew)).mono ?_; rintro e w5 ⟨rfl, hst, j0, j1, j2, j3, j4, j5, j6, j7⟩))
        all_goals go_wp2_with fail
        all_goals go_meet
        all_goals exact ⟨rfl, hst⟩
      case rest =>
      obtain ⟨rfl, hb⟩ := hcut
      have HB := hideIt hb
      clear c9 hb HC HK HBW
      cases hq : r em x
      · have HFT : Hid (l.take t ++ x :: l.drop t = laidL r x l) := laidL_at r x l t (by rw [HRT.out, HTW.out, if_neg (by simp [hq])]; rfl)
        clear HRT HTW
        have X1 := HK2.out _ HB.out
        have HW := hideIt (below_via HB0.out HB.out)
        clear HB
        replace HINS := hideIt (HINS.out t _ HW.out ht)
        rw [HFT.out] at HINS
        obtain ⟨d0, d1, d2, d3⟩ := X1
        go_wp2_with fail
        refine HINS.out.mono ?_
        rintro e w9 ⟨v', rfl, hown, hgr⟩
        dsimp only
        have HGR := hideIt (HGV.out _ _ HW.out hgr)
        have HOW := hideIt hown
        clear hgr hown
        go_wp2
        go_ret
        exact ⟨_, rfl, HOW.out, HGR.out⟩
      · have HF : Hid ((l.takeWhile (r · x)).length = (t + 1) + ((l.drop (t + 1)).takeWhile (r · x)).length) := by
          show _ = _
          rw [HRT.out, HTW.out, if_pos hq]
          omega
        clear HRT HTW
        go_wp2
        go_roundw
        case rel => exact ⟨t + 1, by go_num, by omega, hideIt ⟨HB.out, HF.out⟩⟩
        case measure => simp [intOf]; omega
    · have hltI : ¬ (t : Int) < (l.length : Int) := by omega
      have hdf : decide ((t : Int) < (l.length : Int)) = false := decide_eq_false hltI
      have hdf2 : decide (t < l.length) = false := decide_eq_false hlt
      have HFT : Hid (l.take t ++ x :: l.drop t = laidL r x l) := laidL_at r x l t (by rw [HR.out.2, List.drop_of_length_le (by omega)]; rfl)
      have HB := hideIt HR.out.1
      have X1 := HK2.out _ (below_drewN HB.out 0)
      clear HH HP HR HW
      go_upto_region 2 with fail
      go_quiet (fail)
      have HB1 := hideIt (below_drewN HB.out nq)
      replace X1 := HK2.out _ HB1.out
      have HW := hideIt (below_via HB0.out HB1.out)
      clear HB HB1
      generalize wr.drewN nq = wx at *
      replace HINS := hideIt (HINS.out t _ HW.out ht)
      rw [HFT.out] at HINS
      obtain ⟨d0, d1, d2, d3⟩ := X1
      go_wp2_with fail
      refine HINS.out.mono ?_
      rintro e w9 ⟨v', rfl, hown, hgr⟩
      dsimp only
      have HGR := hideIt (HGV.out _ _ HW.out hgr)
      have HOW := hideIt hown
      clear hgr hown
      go_wp2
      go_ret
      exact ⟨_, rfl, HOW.out, HGR.out⟩
end Go.Proofs.YtiinigifjdpicaaGreatDoor
