/- What a disk's Read answers (D5), and what its Sync leaves (D3). -/
import Derived.Test.YtpgimffghaelhaaAppendOk
namespace Go.Proofs.Ytpgimffghaelhaa
open Go.RowKit Go.Maps

set_option maxHeartbeats 1000000 in
theorem read_is {w : World} {F : Nat → Prop} {p : Nat} {S : St} {N : Nat} (h : DiskAt w F p S N) (i : Int) (hi : (Lit.int .i64 i).wf = true) :
    Calls Try.prog 28 #[.pointer (some ⟨p, 0, none⟩), .int .i64 i] w fun e w' => e = .returned (.tuple #[.string ⟨(readV S i).toArray⟩, .int .i64 (readE S i : Int)]) ∧ Below w.heap.size w w' := by
  have Hm := hideIt (missing_is h i hi)
  by_cases he : readE S i = 0
  · have ht : thereI S i := by
      unfold readE at he
      split at he
      · cases he
      · split at he
        · cases he
        · rename_i a b
          exact Classical.not_not.1 b
    obtain ⟨k, rfl, hk, hne⟩ := thereI_nat ht
    obtain ⟨mb, ch, fs, ff, fm, rb, cp, D, hc, r⟩ := h
    have hp : p < w.heap.size := (Array.getElem?_eq_some_iff.1 hc.cells).1
    have hm := hc.map.lt
    have e1 : readV S (k : Int) = (S.seg k).bytes := by unfold readV; rw [if_pos he]; simp
    rw [e1]
    rw [he] at Hm ⊢
    clear r ht
    go_enter Try.func28, Try.ntmps28
    go_wp2_with fail
    refine Hm.out.mono ?_
    rintro e w1 ⟨rfl, hb⟩
    dsimp only
    have c2 : w1.cell? ⟨p, 2, none⟩ = some (.map (some mb)) := by rw [hb.cell hp, cell_at hc.cells]; rfl
    have hl := look_hit hc k hk hne w1 (hb.block mb hm)
    have hR := (hc.rows k hk hne).1
    have hcv := conv_R w1 (rb k) (cp k) _ (hR.keep (hb.block _ hR.lt))
    have hfd := field72 (some ⟨rb k, 0, none⟩) (S.seg k).bytes.length (cp k) ((S.seg k).safe : Int) w1
    simp only [segV] at hl
    clear hc hne hR Hm
    go_wp2
    go_ret2
    exact ⟨rfl, hb⟩
  · have e1 : readV S i = [] := by unfold readV; rw [if_neg he]
    rw [e1]
    have he' : ((readE S i : Int) == 0) = false := beq_eq_false_iff_ne.2 (by omega)
    generalize readE S i = x at *
    clear h
    go_enter Try.func28, Try.ntmps28
    go_wp2_with fail
    refine Hm.out.mono ?_
    rintro e w1 ⟨rfl, hb⟩
    dsimp only
    go_wp2
    go_ret2
    exact ⟨rfl, hb⟩
/-- Some of the segments have been synced. -/
def syncL (f : Nat → Seg) (l : List Nat) (t : Nat) : Nat → Seg := fun k => if k ∈ l.take t then ⟨(f k).bytes, (f k).bytes.length⟩ else f k
theorem syncL_bytes (f : Nat → Seg) (l : List Nat) (t k : Nat) : (syncL f l t k).bytes = (f k).bytes := by unfold syncL; split <;> rfl
theorem syncL_step (f : Nat → Seg) (l : List Nat) (t : Nat) (h : t < l.length) : put (syncL f l t) l[t] ⟨(f l[t]).bytes, (f l[t]).bytes.length⟩ = syncL f l (t + 1) := by
  funext i
  unfold put syncL
  rw [List.take_succ_eq_append_getElem h]
  simp only [List.mem_append, List.mem_singleton]
  by_cases e : i = l[t]
  · simp only [e, if_true, or_true]
  · simp only [e, if_false, or_false]
theorem syncL_zero (f : Nat → Seg) (l : List Nat) : syncL f l 0 = f := by funext i; simp [syncL]
theorem syncL_end (f : Nat → Seg) (h : ∀ k, (f k).safe ≤ (f k).bytes.length) : syncL f (nums f 1000) (nums f 1000).length = syncSeg f 1000 := by
  funext i
  unfold syncL syncSeg
  rw [List.take_of_length_le (Nat.le_refl _)]
  by_cases h1 : i < 1000
  · rw [if_pos h1]
    by_cases h2 : (f i).bytes = []
    · rw [if_neg (fun hm => ((mem_nums f 1000 i).1 hm).2 h2)]
      have := h i
      rw [h2] at this
      cases hf : f i with
      | mk b s =>
        rw [hf] at this h2
        simp only at *
        subst h2
        simp at this
        simp [this]
    · rw [if_pos ((mem_nums f 1000 i).2 ⟨h1, h2⟩)]
  · rw [if_neg h1, if_neg (fun hm => h1 ((mem_nums f 1000 i).1 hm).1)]
theorem syncL_tot (f : Nat → Seg) (l : List Nat) (t n : Nat) : tot (syncL f l t) n = tot f n := tot_congr _ _ (fun k => by rw [syncL_bytes]) n
theorem Ints.at {w : World} {g : Nat} {a : Option Addr} {l : List Nat} (h : Ints w g a (asInts l)) (t : Nat) (ht : t < l.length) : a = some ⟨g, 0, none⟩ ∧ w.cell? ⟨g, t, none⟩ = some (.int .i64 (l[t] : Int)) := by
  obtain ⟨rfl, cur, hc, htk⟩ := h (by intro e; have := congrArg List.length e; simp [asInts] at this; subst this; simp at ht)
  refine ⟨rfl, ?_⟩
  rw [cell_at hc]
  have e : (cur.toList.take (asInts l).length)[t]? = some (.int .i64 (l[t] : Int)) := by
    rw [htk]
    simp [asInts, ht]
  rw [List.getElem?_take] at e
  split at e
  · simpa using e
  · cases e
theorem Ints.keep {w w' : World} {g : Nat} {a : Option Addr} {l : List Int} (h : Ints w g a l) (hb : g < w.heap.size → w'.heap[g]? = w.heap[g]?) : Ints w' g a l := by
  intro hne
  obtain ⟨rfl, cur, hc, htk⟩ := h hne
  exact ⟨rfl, cur, (hb (Array.getElem?_eq_some_iff.1 hc).1).trans hc, htk⟩
set_option maxHeartbeats 4000000 in
set_option maxRecDepth 100000 in
theorem sync_ok {w : World} {F : Nat → Prop} {p : Nat} {S : St} {N : Nat} (h : DiskAt w F p S N) (h0 : S.fuse ≠ 0) (hN : N + 1 < 1099511627776) (hF : ∀ k, F k → k < w.heap.size) :
    Calls Try.prog 18 #[.pointer (some ⟨p, 0, none⟩)] w fun e w' => e = .returned (.int .i64 0) ∧ DiskAt w' F p (burn { S with seg := syncSeg S.seg 1000 }) (N + 1) ∧ Out F w w' := by
  have Hu := hideIt (up_is h)
  have hup : decide (S.fuse ≠ 0) = true := by simp [h0]
  rw [hup] at Hu
  obtain ⟨mb, ch, fs, ff, fm, rb0, cp0, D0, hc, hf, hg, ha⟩ := h
  have hg1 := hg.1
  have hg3 := hg.2.2.1
  go_enter Try.func18, Try.ntmps18
  go_wp2_with fail
  refine Hu.out.mono ?_
  rintro e w1 ⟨rfl, hb1⟩
  dsimp only
  have hc1 := hc.keep (fun k _ hk => hb1.block k hk)
  have Hn := hideIt (numbers_any hc1 rfl)
  go_wp2_with fail
  refine Hn.out.mono ?_
  rintro e w2 ⟨a, c, g, rfl, hI, hgl, hb2⟩
  dsimp only
  have hc2 := hc1.keep (fun k _ hk => hb2.block k hk)
  have hO2 : Out (fun b => b = p ∨ b = mb) w w2 := (Out.ofBelow hb1).trans (Out.ofBelow (F := fun _ => False) hb2) (fun _ _ h => h.elim)
  have hnl := nums_len S.seg 1000
  have hnl2 := mem_nums S.seg 1000
  generalize hld : nums S.seg 1000 = l at *
  have HI := hideIt hI
  have HC2 := hideIt hc2
  have hgw : w.heap.size ≤ g := Nat.le_trans hb1.size hgl
  have hpw := hF p hc.inp
  have hmw := hF mb hc.inm
  clear hI hc2 hc1 hc Hn Hu hb1 hb2 hgl
  go_wp2
  go_loopw [12] (fun v wr => ∃ (t : Nat) (rb cp : Nat → Nat) (D : DataW Value), t ≤ l.length ∧ v = .int .i64 (t : Int) ∧ Hid (Core wr F p mb (fields S.room (tot (syncL S.seg l t) 1000) mb ch fs ff fm S.age) (syncL S.seg l t) rb cp D) ∧ Hid (Ints wr g a (asInts l)) ∧ Hid (Out (fun b => b = p ∨ b = mb) w wr)) (fun v _ => l.length - (intOf v).toNat)
  case atStart => exact ⟨0, rb0, cp0, D0, by omega, rfl, by rw [syncL_zero]; exact HC2, HI, hO2⟩
  case round =>
    obtain ⟨t, rb, cp, D, htl, rfl, HC, HJ, HO⟩ := hrel
    by_cases hlt : t < l.length
    · have hlt' : (t : Int) < l.length := by omega
      obtain ⟨rfl, ci⟩ := HJ.out.at t hlt
      have hmem := (hnl2 l[t]).1 (List.getElem_mem hlt)
      obtain ⟨hk, hne⟩ := hmem
      have hne2 : (syncL S.seg l t l[t]).bytes ≠ [] := by rw [syncL_bytes]; exact hne
      have hl := look_hit HC.out l[t] hk hne2 wr rfl
      obtain ⟨q1, q2, q3, q4⟩ := HC.out.rows l[t] hk hne2
      have c2 : wr.cell? ⟨p, 2, none⟩ = some (.map (some mb)) := by rw [cell_at HC.out.cells]; rfl
      simp only [segV, syncL_bytes] at hl
      have HQ := hideIt q1
      clear q1 hne2
      generalize hkd : l[t] = k at *
      go_wp2_with fail
      have hbt : tot (syncL S.seg l t) 1000 ≤ 1048576 := by rw [syncL_tot]; omega
      have hbl : (S.seg k).bytes.length ≤ 1048576 := by have := tot_one S.seg k 1000 hk; omega
      generalize hXd : wr.alloc _ = X
      have hXo : Out (fun _ => False) wr X := by rw [← hXd]; exact Out.ofAlloc _ _
      have hCX := HC.out.out hXo (fun _ _ h => h)
      have hRX : Row X (rb k) (cp k) (S.seg k).bytes := by
        have := HQ.out.keep (hXo.block _ HQ.out.lt (fun h => h))
        rwa [syncL_bytes] at this
      have hput := put_any hCX hk (S.seg k).bytes (S.seg k).bytes.length (rb k) (cp k) hRX q2 q3 q4 (fun j hj hjk hnj => HC.out.apart j k hj hk hjk hnj (by rw [syncL_bytes]; exact hne)) rfl (by omega)
      have HP := hideIt hput
      clear hput hl hXd hCX hRX
      refine HP.out.mono ?_
      rintro e w3 ⟨rfl, D', hC3, hO3⟩
      dsimp only
      have hstep : put (syncL S.seg l t) k ⟨(S.seg k).bytes, (S.seg k).bytes.length⟩ = syncL S.seg l (t + 1) := by
        rw [← hkd]; exact syncL_step S.seg l t hlt
      rw [hstep] at hC3
      have HC3 := hideIt hC3
      have HO3 := hideIt hO3
      clear hC3 hO3 HP
      go_wp2
      go_roundw
      case rel =>
        refine ⟨t + 1, _, _, D', by omega, by go_num, HC3, HJ.out.keep (fun hgw2 => ?_), (HO.out.trans hXo (fun _ _ h => h.elim)).trans HO3.out (fun _ _ h => h)⟩
        rw [HO3.out.block g (Nat.lt_of_lt_of_le hgw2 hXo.size) (by omega), hXo.block g hgw2 (fun h => h)]
      case measure => simp [intOf]; omega
    · have hlt' : ¬ (t : Int) < l.length := by omega
      obtain rfl : t = l.length := by omega
      have c3 : wr.cell? ⟨p, 3, none⟩ = some (.int .i64 ch) := by rw [cell_at HC.out.cells]; rfl
      have f3 := free_at HC.out.cells 3
      have hch := hf.1
      have hch2 := hf.2.1
      have HF3 := hideIt (HC.out.field 3 (.int .i64 (ch + 1)))
      have hend : syncL S.seg l l.length = syncSeg S.seg 1000 := by rw [← hld]; exact syncL_end S.seg hg.2.1
      have htot := syncL_tot S.seg l l.length 1000
      rw [hend] at HF3 htot
      clear HC
      go_wp2_with fail
      refine (add_any p 3 ch _ c3 f3 hch (by omega)).mono ?_
      rintro e w4 ⟨⟨v, rfl⟩, rfl⟩
      dsimp only
      go_wp2
      go_ret
      refine ⟨rfl, went HF3.out hf h0 hg ha hN (fun k => ?_) (by rw [htot]; exact hg3), ?_⟩
      · unfold syncSeg
        split
        · exact Nat.le_refl _
        · exact hg.2.1 k
      · refine (HO.out.trans (Out.ofSet (F := fun b => b = p) wr ⟨p, 3, none⟩ _ rfl) (fun _ _ h => .inl h)).mono ?_
        rintro i (rfl | rfl)
        · exact HF3.out.inp
        · exact HF3.out.inm
set_option maxHeartbeats 1000000 in
theorem sync_is {w : World} {F : Nat → Prop} {p : Nat} {S : St} {N : Nat} (h : DiskAt w F p S N) (hN : N + 1 < 1099511627776) (hF : ∀ k, F k → k < w.heap.size) :
    Calls Try.prog 18 #[.pointer (some ⟨p, 0, none⟩)] w fun e w' => e = .returned (.int .i64 (syncE S : Int)) ∧ DiskAt w' F p (syncS S) (N + 1) ∧ Out F w w' := by
  by_cases h0 : S.fuse = 0
  · have Hu := hideIt (up_is h)
    have hup : decide (S.fuse ≠ 0) = false := by simp [h0]
    rw [hup] at Hu
    unfold syncE syncS
    rw [if_pos h0, if_pos h0]
    have H := hideIt h
    clear h
    go_enter Try.func18, Try.ntmps18
    go_wp2_with fail
    refine Hu.out.mono ?_
    rintro e w1 ⟨rfl, hb⟩
    dsimp only
    go_wp2
    go_ret
    exact ⟨rfl, (H.out.below hb).more (by omega) hN, Out.ofBelow hb⟩
  · unfold syncE syncS
    rw [if_neg h0, if_neg h0]
    exact sync_ok h h0 hN hF
end Go.Proofs.Ytpgimffghaelhaa
