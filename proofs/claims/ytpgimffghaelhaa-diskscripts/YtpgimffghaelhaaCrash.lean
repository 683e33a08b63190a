/- What a disk's Crash answers and leaves (D7). -/
import Derived.Test.YtpgimffghaelhaaSync
import Derived.StillTailTactics
import Derived.Deep.CutRange
namespace Go.Proofs.Ytpgimffghaelhaa
open Go.RowKit Go.Maps

theorem mixed : Try.prog.follows .mixedOrders = true := by kernel_rfl
/-- Some of the segments have gone through the crash. -/
def crashL (f : Nat → Seg) (keep : List Int) (l : List Nat) (t : Nat) : Nat → Seg := fun k => if k ∈ l.take t then crashAt f keep k else f k
theorem crashL_zero (f : Nat → Seg) (keep : List Int) (l : List Nat) : crashL f keep l 0 = f := by funext i; simp [crashL]
theorem crashL_step (f : Nat → Seg) (keep : List Int) (l : List Nat) (t : Nat) (h : t < l.length) : put (crashL f keep l t) l[t] (crashAt f keep l[t]) = crashL f keep l (t + 1) := by
  funext i
  unfold put crashL
  rw [List.take_succ_eq_append_getElem h]
  simp only [List.mem_append, List.mem_singleton]
  by_cases e : i = l[t]
  · simp only [e, if_true, or_true]
  · simp only [e, if_false, or_false]
theorem crashL_skip (f : Nat → Seg) (keep : List Int) (l : List Nat) (t : Nat) (h : t < l.length) (hw : waits (f l[t]) = 0) : crashL f keep l (t + 1) = crashL f keep l t := by
  funext i
  unfold crashL
  rw [List.take_succ_eq_append_getElem h]
  simp only [List.mem_append, List.mem_singleton]
  by_cases e : i = l[t]
  · subst e
    simp [crashAt, hw]
  · simp only [e, or_false]
theorem crashL_now (f : Nat → Seg) (keep : List Int) (t : Nat) (h : t < (nums f 1000).length) : crashL f keep (nums f 1000) t (nums f 1000)[t] = f (nums f 1000)[t] := by
  unfold crashL
  rw [if_neg]
  intro hm
  rw [nums_take f 1000 t h] at hm
  have := ((mem_nums f _ _).1 hm).1
  omega
theorem crashAt_none (f : Nat → Seg) (keep : List Int) (k : Nat) (h : (f k).bytes = []) : crashAt f keep k = f k := by
  unfold crashAt; rw [if_pos (waits_none f k h)]
theorem crashL_end (f : Nat → Seg) (keep : List Int) : crashL f keep (nums f 1000) (nums f 1000).length = crashSeg f keep 1000 := by
  funext i
  unfold crashL crashSeg
  rw [List.take_of_length_le (Nat.le_refl _)]
  by_cases h1 : i < 1000
  · rw [if_pos h1]
    by_cases h2 : (f i).bytes = []
    · rw [if_neg (fun hm => ((mem_nums f 1000 i).1 hm).2 h2), crashAt_none f keep i h2]
    · rw [if_pos ((mem_nums f 1000 i).2 ⟨h1, h2⟩)]
  · rw [if_neg h1, if_neg (fun hm => h1 ((mem_nums f 1000 i).1 hm).1)]
theorem waiting_nums (f : Nat → Seg) : ∀ n, waiting f n = ((nums f n).filter (fun k => decide (waits (f k) ≠ 0))).length
  | 0 => rfl
  | n + 1 => by
    rw [waiting_succ, waiting_nums f n, nums_succ, List.filter_append, List.length_append]
    congr 1
    by_cases hw : waits (f n) = 0
    · rw [if_pos hw]
      split <;> simp [hw]
    · have ht : isThere f n = true := by
        rw [isThere_iff]
        exact fun e => hw (waits_none f n e)
      simp [ht, hw]
/-- How many of the first t of l have something that waits. -/
def wl (f : Nat → Seg) (l : List Nat) (t : Nat) : Nat := ((l.take t).filter (fun k => decide (waits (f k) ≠ 0))).length
theorem wl_now (f : Nat → Seg) (t : Nat) (h : t < (nums f 1000).length) : wl f (nums f 1000) t = waiting f (nums f 1000)[t] := by
  unfold wl; rw [nums_take f 1000 t h, waiting_nums]
theorem wl_end (f : Nat → Seg) : wl f (nums f 1000) (nums f 1000).length = waiting f 1000 := by
  unfold wl; rw [List.take_of_length_le (Nat.le_refl _), waiting_nums]
theorem wl_step (f : Nat → Seg) (l : List Nat) (t : Nat) (h : t < l.length) : wl f l (t + 1) = wl f l t + (if waits (f l[t]) = 0 then 0 else 1) := by
  unfold wl
  rw [List.take_succ_eq_append_getElem h, List.filter_append, List.length_append]
  congr 1
  by_cases hw : waits (f l[t]) = 0 <;> simp [hw]
theorem wl_le (f : Nat → Seg) (l : List Nat) (t : Nat) : wl f l t ≤ l.length := by
  unfold wl
  refine Nat.le_trans (List.length_filter_le _ _) ?_
  simp
  omega
theorem crashL_good (f : Nat → Seg) (keep : List Int) (l : List Nat) (t k : Nat) (h : ∀ k, (f k).safe ≤ (f k).bytes.length) : (crashL f keep l t k).bytes.length ≤ (f k).bytes.length ∧ (crashL f keep l t k).safe ≤ (crashL f keep l t k).bytes.length := by
  unfold crashL
  split
  · exact crashAt_len f keep k (h k)
  · exact ⟨Nat.le_refl _, h k⟩
/-- A row of numbers that is read, outside of F. -/
def Keep (w : World) (F : Nat → Prop) (a : Option Addr) (keep : List Int) : Prop :=
  ∃ b off, ∀ j (h : j < keep.length), a = some ⟨b, off, none⟩ ∧ b < w.heap.size ∧ ¬ F b ∧ w.cell? ⟨b, off + j, none⟩ = some (.int .i64 keep[j]) ∧ -9223372036854775808 ≤ keep[j] ∧ keep[j] ≤ 9223372036854775807
theorem Keep.out {w w' : World} {F G : Nat → Prop} {a : Option Addr} {keep : List Int} (h : Keep w F a keep) (ho : Out G w w') (hG : ∀ k, k < w.heap.size → G k → F k) : Keep w' F a keep := by
  obtain ⟨b, off, h⟩ := h
  refine ⟨b, off, fun j hj => ?_⟩
  obtain ⟨h1, h2, h3, h4, h5⟩ := h j hj
  exact ⟨h1, Nat.lt_of_lt_of_le h2 ho.size, h3, (World.cell?_of_block (ho.block b h2 (fun e => h3 (hG b h2 e)))).trans h4, h5⟩
theorem box_set (w : World) (z : Nat) (a b a' b' : Value) (h : w.heap[z]? = some (.cells #[a, b] 72 (0, 0))) : ((w.setCell ⟨z, 0, none⟩ a').setCell ⟨z, 1, none⟩ b').heap[z]? = some (.cells #[a', b'] 72 (0, 0)) ∧ Out (fun k => k = z) w ((w.setCell ⟨z, 0, none⟩ a').setCell ⟨z, 1, none⟩ b') := by
  have h1 : (w.setCell ⟨z, 0, none⟩ a').heap[z]? = some (.cells #[a', b] 72 (0, 0)) := by
    rw [setCell_eq_setRow _ z 0 _ 72 (0, 0) _ h]
    exact setRow_heap _ z _ _ 72 _ h
  refine ⟨?_, (Out.ofSet (F := fun k => k = z) w ⟨z, 0, none⟩ _ rfl).trans (Out.ofSet (F := fun k => k = z) _ ⟨z, 1, none⟩ _ rfl) (fun _ _ h => h)⟩
  rw [setCell_eq_setRow _ z 1 _ 72 (0, 0) _ h1]
  exact setRow_heap _ z _ _ 72 _ h1
set_option maxHeartbeats 1000000 in
set_option maxRecDepth 100000 in
theorem crash_is {w : World} {F : Nat → Prop} {p : Nat} {S : St} {N : Nat} (h : DiskAt w F p S N) (hN : N + 1 < 1099511627776) (hF : ∀ k, F k → k < w.heap.size) (a0 : Option Addr) (keep : List Int) (ck : Nat) (hK : Keep w F a0 keep) :
    Calls Try.prog 22 #[.pointer (some ⟨p, 0, none⟩), .slice a0 keep.length ck] w fun e w' => e = .returned (.int .i64 (crashN S : Int)) ∧ DiskAt w' F p (crashS S keep) (N + 1) ∧ Out F w w' := by
  obtain ⟨mb, ch, fs, ff, fm, rb0, cp0, D0, hc, hf, hg, ha⟩ := h
  have hg1 := hg.1
  have hg2 := hg.2.1
  have hg3 := hg.2.2.1
  have Hn := hideIt (numbers_any hc rfl)
  go_enter Try.func22, Try.ntmps22
  go_wp2_with fail
  refine Hn.out.mono ?_
  rintro e w2 ⟨a, c, g, rfl, hI, hgw, hb2⟩
  dsimp only
  have hc2 := hc.keep (fun k _ hk => hb2.block k hk)
  have hO2 : Out (fun b => b = p ∨ b = mb) w w2 := Out.ofBelow hb2
  have hnl := nums_len S.seg 1000
  have hnl2 := mem_nums S.seg 1000
  have hnow := hideIt (crashL_now S.seg keep)
  have hwnow := hideIt (wl_now S.seg)
  have hend := hideIt (crashL_end S.seg keep)
  have hwend := hideIt (wl_end S.seg)
  generalize hld : nums S.seg 1000 = l at *
  have HI := hideIt hI
  have HC2 := hideIt hc2
  have hpw := hF p hc.inp
  have hmw := hF mb hc.inm
  have HK := hideIt hK
  clear hI hc2 hc Hn hb2 hK
  go_wp2
  go_loopw [5, 13] (fun q v wr => ∃ (t : Nat) (rb cp : Nat → Nat) (D : DataW Value), t ≤ l.length ∧ v = .int .i64 (t : Int) ∧ q = .int .i64 (wl S.seg l t : Int) ∧ Hid (Core wr F p mb (fields S.room (tot (crashL S.seg keep l t) 1000) mb ch fs ff fm S.age) (crashL S.seg keep l t) rb cp D) ∧ Hid (Ints wr g a (asInts l)) ∧ Hid (Out (fun b => b = p ∨ b = mb) w wr)) (fun _ v _ => l.length - (intOf v).toNat)
  case atStart => exact ⟨0, rb0, cp0, D0, by omega, rfl, by simp [wl], by rw [crashL_zero]; exact HC2, HI, hO2⟩
  case round =>
    obtain ⟨t, rb, cp, D, htl, rfl, rfl, HC, HJ, HO⟩ := hrel
    have hwl := wl_le S.seg l t
    by_cases hlt : t < l.length
    · have hlt' : (t : Int) < l.length := by omega
      obtain ⟨rfl, ci⟩ := HJ.out.at t hlt
      have hmem := (hnl2 l[t]).1 (List.getElem_mem hlt)
      obtain ⟨hk, hne⟩ := hmem
      have hfk := hnow.out t hlt
      have hwk := hwnow.out t hlt
      have hst := wl_step S.seg l t hlt
      have hcst := crashL_step S.seg keep l t hlt
      have hcsk := crashL_skip S.seg keep l t hlt
      generalize hkd : l[t] = k at *
      have hne2 : (crashL S.seg keep l t k).bytes ≠ [] := by rw [hfk]; exact hne
      have hl := look_hit HC.out k hk hne2 wr rfl
      obtain ⟨q1, q2, q3, q4⟩ := HC.out.rows k hk hne2
      have c2 : wr.cell? ⟨p, 2, none⟩ = some (.map (some mb)) := by rw [cell_at HC.out.cells]; rfl
      simp only [segV, hfk] at hl
      rw [hfk] at q1
      have hone := tot_one S.seg k 1000 hk
      have hsk := hg2 k
      have HQ := hideIt q1
      clear q1 hne2
      by_cases hwt : waits (S.seg k) = 0
      · have hw0 : (((S.seg k).bytes.length : Int) - ((S.seg k).safe : Int) == 0) = true := beq_iff_eq.2 (by unfold waits at hwt; omega)
        have Hst := hideIt hst
        have Hcsk := hideIt (hcsk hwt)
        have Hw := hideIt hwt
        clear hst hcsk hwt hcst hwk hfk
        go_wp2
        go_roundw
        case rel =>
          refine ⟨t + 1, rb, cp, D, by omega, by go_num, ?_, ?_, ?_, ?_⟩
          · rw [Hst.out, if_pos Hw.out]; rfl
          · rw [Hcsk.out]
            exact HC.out.out (Out.ofAlloc (F := fun _ => False) _ _) (fun _ _ h => h)
          · exact HJ.out.keep (fun hgl => Lib.alloc_old _ _ _ hgl)
          · exact HO.out.trans (Out.ofAlloc (F := fun _ => False) _ _) (fun _ _ h => h.elim)
        case measure => simp [intOf]; omega
      · have hw0 : (((S.seg k).bytes.length : Int) - ((S.seg k).safe : Int) == 0) = false := beq_eq_false_iff_ne.2 (by unfold waits at hwt; omega)
        have hsu := surv_le keep (wl S.seg l t) (waits (S.seg k))
        have hcat : crashAt S.seg keep k = crashOne (S.seg k) ((S.seg k).safe + surv keep (wl S.seg l t) (waits (S.seg k))) := by unfold crashAt; rw [if_neg hwt, hwk]
        generalize hsv : surv keep (wl S.seg l t) (waits (S.seg k)) = sv at *
        have hnl3 : (S.seg k).safe + sv ≤ (S.seg k).bytes.length := by unfold waits at hsu; omega
        obtain ⟨n, hn⟩ : ∃ n, n = (S.seg k).safe + sv := ⟨_, rfl⟩
        have hnb : n ≤ (S.seg k).bytes.length := by omega
        have Hn2 := hideIt hn
        clear hn
        have hcpk : (S.seg k).bytes.length ≤ cp k := by obtain ⟨_, _, r, _⟩ := HQ.out; exact r
        have Hst := hideIt hst
        have Hcst := hideIt hcst
        have Hcat := hideIt hcat
        have Hw := hideIt hwt
        clear hst hcsk hcst hcat hwk
        go_upto_region 8 with fail
        generalize hW0 : wr.alloc _ = W
        have hz : W.heap[wr.heap.size]? = some (.cells #[.slice (some ⟨rb k, 0, none⟩) (S.seg k).bytes.length (cp k), .int .i64 ((S.seg k).safe : Int)] 72 (0, 0)) := by rw [← hW0]; exact heap_alloc_new wr _
        have hWo : Out (fun _ => False) wr W := by rw [← hW0]; exact Out.ofAlloc _ _
        have hzl : wr.heap.size < W.heap.size := by rw [← hW0]; simp
        generalize hzd : wr.heap.size = z at *
        have HS : Hid (Calls Try.prog 51 #[.slice a0 keep.length ck, .int .i64 (wl S.seg l t : Int), .int .i64 (((S.seg k).bytes.length : Int) - ((S.seg k).safe : Int))] W.drew fun e w' => e = .returned (.int .i64 (sv : Int)) ∧ w' = W.drew) := by
          have e1 : (((S.seg k).bytes.length : Int) - ((S.seg k).safe : Int)) = ((waits (S.seg k) : Nat) : Int) := by unfold waits; omega
          have hO5 : Out F w W := (HO.out.mono (by rintro i (rfl | rfl); exact HC.out.inp; exact HC.out.inm)).trans hWo (fun _ _ h => h.elim)
          obtain ⟨b, off, hK5⟩ := HK.out.out hO5 (fun _ _ h => h)
          rw [e1, ← hsv]
          exact hideIt (surv_any W.drew b off ck a0 keep (waits (S.seg k)) (wl S.seg l t) (by unfold waits; omega) (fun j hj => ⟨(hK5 j hj).1, (hK5 j hj).2.2.2.1, (hK5 j hj).2.2.2.2⟩))
        have HFst : Hid (Calls Try.prog 50 #[.agg #[.slice (some ⟨rb k, 0, none⟩) (S.seg k).bytes.length (cp k), .int .i64 ((S.seg k).safe : Int)], .int .i64 (((S.seg k).safe : Int) + (sv : Int))] W.drew fun e w' =>
            e = .returned (.agg #[.slice (some ⟨rb k, 0, none⟩) n (cp k), .int .i64 (min ((S.seg k).safe : Int) (n : Int))]) ∧ w'.cell? ⟨z, 0, none⟩ = some (.slice (some ⟨rb k, 0, none⟩) (S.seg k).bytes.length (cp k)) ∧ w'.cell? ⟨z, 1, none⟩ = some (.int .i64 ((S.seg k).safe : Int)) ∧ w'.frozen? ⟨z, 0, none⟩ = false ∧ w'.frozen? ⟨z, 1, none⟩ = false ∧ Hid (Out (fun _ => False) W w')) := by
          have e1 : (((S.seg k).safe : Int) + (sv : Int)) = (n : Int) := by have := Hn2.out; omega
          rw [e1]
          refine hideIt ((first_any W.drew (rb k) (S.seg k).bytes.length (cp k) n _ hnb hcpk).mono ?_)
          rintro e w' ⟨rfl, hb⟩
          have hz' : w'.heap[z]? = _ := (hb.block z hzl).trans hz
          refine ⟨rfl, ?_, ?_, free_at hz' 0, free_at hz' 1, (Out.ofDrew W).trans (Out.ofBelow (F := fun _ => False) hb) (fun _ _ h => h)⟩
          · rw [cell_at hz']; rfl
          · rw [cell_at hz']; rfl
        have z0 : W.cell? ⟨z, 0, none⟩ = some (.slice (some ⟨rb k, 0, none⟩) (S.seg k).bytes.length (cp k)) := by rw [cell_at hz]; rfl
        have z1 : W.cell? ⟨z, 1, none⟩ = some (.int .i64 ((S.seg k).safe : Int)) := by rw [cell_at hz]; rfl
        have HZ := hideIt hz
        clear hz hW0 hl
        refine wp_region_still_tail 8 mixed (by kernel_rfl) ?_
        simp only [List.take_succ_cons, List.take_zero, List.drop_succ_cons, List.drop_zero]
        iterate 6 still_step
        still_call (HS.out)
        still_step
        refine wpStill_nil ?_
        go_wp2_with fail
        refine HFst.out.mono ?_
        rintro e w6 ⟨rfl, y0, y1, y2, y3, y4⟩
        dsimp only
        go_upto_region 9 with fail
        have hz6 : w6.heap[z]? = some (.cells #[.slice (some ⟨rb k, 0, none⟩) (S.seg k).bytes.length (cp k), .int .i64 ((S.seg k).safe : Int)] 72 (0, 0)) := (y4.out.block z hzl (fun h => h)).trans HZ.out
        obtain ⟨hx1, hxo⟩ := box_set w6 z _ _ (.slice (some ⟨rb k, 0, none⟩) n (cp k)) (.int .i64 (min ((S.seg k).safe : Int) (n : Int))) hz6
        generalize (w6.setCell ⟨z, 0, none⟩ (.slice (some ⟨rb k, 0, none⟩) n (cp k))).setCell ⟨z, 1, none⟩ (.int .i64 (min ((S.seg k).safe : Int) (n : Int))) = X1 at *
        have x0 : X1.cell? ⟨z, 0, none⟩ = some (.slice (some ⟨rb k, 0, none⟩) n (cp k)) := by rw [cell_at hx1]; rfl
        have x1 : X1.cell? ⟨z, 1, none⟩ = some (.int .i64 (min ((S.seg k).safe : Int) (n : Int))) := by rw [cell_at hx1]; rfl
        have x2 := free_at hx1 1
        have HX := hideIt (((hWo.trans y4.out (fun _ _ h => h)).mono (G := fun b => b = z) (fun _ h => h.elim)).trans hxo (fun _ _ h => h))
        clear hz6 hx1 hxo y0 y1 y2 y3 y4 z0 z1 HFst HS
        go_wp2_with fail
        generalize hXd : X1.setCell ⟨z, 1, none⟩ (.int .i64 (n : Int)) = X
        have hXo : Out (fun b => b = z) wr X := by rw [← hXd]; exact HX.out.trans (Out.ofSet (F := fun b => b = z) X1 ⟨z, 1, none⟩ _ rfl) (fun _ _ h => h)
        have hXf : Out (fun _ => False) wr X := ⟨hXo.os, hXo.tape, hXo.output, hXo.size, fun i hi _ => hXo.block i hi (by omega)⟩
        have hCX := HC.out.out hXf (fun _ _ h => h)
        have hRX : Row X (rb k) (cp k) ((S.seg k).bytes.take n) := (HQ.out.cut n).keep (hXf.block _ HQ.out.lt (fun h => h))
        have hlen : ((S.seg k).bytes.take n).length = n := by simp; omega
        have hbt : tot (crashL S.seg keep l t) 1000 ≤ 1048576 := by
          have := tot_mono (crashL S.seg keep l t) S.seg (fun j => (crashL_good S.seg keep l t j hg2).1) 1000
          omega
        have hput := put_any hCX hk ((S.seg k).bytes.take n) n (rb k) (cp k) hRX q2 q3 q4 (fun j hj hjk hnj => HC.out.apart j k hj hk hjk hnj (by rw [hfk]; exact hne)) rfl (by omega)
        rw [hlen] at hput
        have HP := hideIt hput
        clear hput hXd hCX hRX x0 x1 x2
        refine HP.out.mono ?_
        rintro e w3 ⟨rfl, D', hC3, hO3⟩
        dsimp only
        have hstep : put (crashL S.seg keep l t) k ⟨(S.seg k).bytes.take n, n⟩ = crashL S.seg keep l (t + 1) := by
          rw [← Hcst.out, Hcat.out, ← Hn2.out]; rfl
        rw [hstep] at hC3
        have HC3 := hideIt hC3
        have HO3 := hideIt hO3
        clear hC3 hO3 HP
        go_wp2
        go_roundw
        case rel =>
          refine ⟨t + 1, _, _, D', by omega, by go_num, ?_, HC3, HJ.out.keep (fun hgw2 => ?_), (HO.out.trans hXf (fun _ _ h => h.elim)).trans HO3.out (fun _ _ h => h)⟩
          · rw [Hst.out, if_neg Hw.out]; rfl
          · rw [HO3.out.block g (Nat.lt_of_lt_of_le hgw2 hXf.size) (by omega), hXf.block g hgw2 (fun h => h)]
        case measure => simp [intOf]; omega
    · have hlt' : ¬ (t : Int) < l.length := by omega
      obtain rfl : t = l.length := by omega
      have c7 : wr.cell? ⟨p, 7, none⟩ = some (.int .i64 (S.age : Int)) := by rw [cell_at HC.out.cells]; rfl
      have c4 : wr.cell? ⟨p, 4, none⟩ = some (.bool fs) := by rw [cell_at HC.out.cells]; rfl
      have c5 : wr.cell? ⟨p, 5, none⟩ = some (.int .i64 ff) := by rw [cell_at HC.out.cells]; rfl
      have c6 : wr.cell? ⟨p, 6, none⟩ = some (.int .i64 fm) := by rw [cell_at HC.out.cells]; rfl
      have f4 := free_at HC.out.cells 4
      have f5 := free_at HC.out.cells 5
      have f6 := free_at HC.out.cells 6
      have f7 := free_at HC.out.cells 7
      have hNa := hf.2.2.1
      have HE := hideIt (HC.out.field 4 (.bool false))
      have HE2 := hideIt (HE.out.field 5 (.int .i64 0))
      have HE3 := hideIt (HE2.out.field 6 (.int .i64 0))
      have HE4 := hideIt (HE3.out.field 7 (.int .i64 ((S.age : Int) + 1)))
      clear HE HE2 HE3 HC
      go_wp2
      go_ret
      rw [hend.out] at HE4
      have hg' := fun k => crashL_good S.seg keep l l.length k hg2
      rw [hend.out] at hg'
      refine ⟨?_, ⟨mb, ch, false, 0, 0, rb, cp, D, HE4.out, ⟨hf.1, by have := hf.2.1; omega, hN, by omega, hf.1, .inl ⟨rfl, rfl⟩⟩, ⟨hg1, fun k => (hg' k).2, Nat.le_trans (tot_mono _ S.seg (fun k => (hg' k).1) 1000) hg3, by simp [crashS], by simp [crashS]⟩, ?_⟩, ?_⟩
      · show Ending.returned (Value.int .i64 ((wl S.seg l l.length : Nat) : Int)) = _
        rw [hwend.out]; rfl
      · show S.age + 1 ≤ N + 1
        omega
      · have o4 := Out.ofSet (F := fun b => b = p ∨ b = mb) wr ⟨p, 4, none⟩ (.bool false) (.inl rfl)
        have o5 := Out.ofSet (F := fun b => b = p ∨ b = mb) (wr.setCell ⟨p, 4, none⟩ (.bool false)) ⟨p, 5, none⟩ (.int .i64 0) (.inl rfl)
        have o6 := Out.ofSet (F := fun b => b = p ∨ b = mb) ((wr.setCell ⟨p, 4, none⟩ (.bool false)).setCell ⟨p, 5, none⟩ (.int .i64 0)) ⟨p, 6, none⟩ (.int .i64 0) (.inl rfl)
        have o7 := Out.ofSet (F := fun b => b = p ∨ b = mb) (((wr.setCell ⟨p, 4, none⟩ (.bool false)).setCell ⟨p, 5, none⟩ (.int .i64 0)).setCell ⟨p, 6, none⟩ (.int .i64 0)) ⟨p, 7, none⟩ (.int .i64 ((S.age : Int) + 1)) (.inl rfl)
        refine ((((HO.out.trans o4 (fun _ _ h => h)).trans o5 (fun _ _ h => h)).trans o6 (fun _ _ h => h)).trans o7 (fun _ _ h => h)).mono ?_
        rintro i (rfl | rfl)
        · exact HE4.out.inp
        · exact HE4.out.inm
end Go.Proofs.Ytpgimffghaelhaa
