/- What a disk's Append leaves where it goes (D2). -/
import Derived.Test.YtpgimffghaelhaaAppend
import Derived.OwnWalk
namespace Go.Proofs.Ytpgimffghaelhaa
open Go.RowKit Go.Maps

/-- The end of a change: one more has gone. -/
theorem went {w : World} {F : Nat → Prop} {p mb : Nat} {S : St} {N : Nat} {ch : Int} {fs : Bool} {ff fm : Int} {f : Nat → Seg} {rb cp : Nat → Nat} {D : DataW Value} (hc : Core w F p mb (fields S.room (tot f 1000) mb (ch + 1) fs ff fm S.age) f rb cp D)
    (hf : FuseIs S ch fs ff fm N) (h0 : S.fuse ≠ 0) (hg : good S) (ha : S.age ≤ N) (hN : N + 1 < 1099511627776) (h1 : ∀ k, (f k).safe ≤ (f k).bytes.length) (h2 : tot f 1000 ≤ S.room) : DiskAt w F p (burn { S with seg := f }) (N + 1) := by
  obtain ⟨f1, f2, f3, f4, f5, f6⟩ := hf
  obtain ⟨g1, g2, g3, g4, g5⟩ := hg
  refine ⟨mb, ch + 1, fs, ff, fm, rb, cp, D, hc, ⟨by omega, by omega, by omega, f4, by omega, ?_⟩, ⟨g1, h1, h2, ?_, ?_⟩, ?_⟩
  · rcases f6 with ⟨e1, e2⟩ | ⟨e1, e2, e3, e4⟩
    · left
      refine ⟨e1, ?_⟩
      simp [burn, e2]
    · right
      have : 0 < S.fuse := by omega
      refine ⟨e1, ?_, ?_, e4⟩ <;> simp only [burn, this, if_true] <;> omega
  · simp only [burn]; split <;> omega
  · simp only [burn]; split <;> omega
  · show S.age ≤ N + 1
    omega
/-- A disk behind a turn of other blocks, and of what lies behind the bytes of its rows. -/
theorem Core.moved {w X : World} {F G : Nat → Prop} {p mb : Nat} {cs : Array Value} {f : Nat → Seg} {rb cp : Nat → Nat} {D : DataW Value} (h : Core w F p mb cs f rb cp D) (hX : Out G w X) (h1 : ¬ G p) (h2 : ¬ G mb) (h3 : ∀ j, j < 1000 → (f j).bytes ≠ [] → G (rb j) → Row X (rb j) (cp j) (f j).bytes) : Core X (Grow F w X) p mb cs f rb cp D := by
  have hp : p < w.heap.size := (Array.getElem?_eq_some_iff.1 h.cells).1
  refine ⟨(hX.block p hp h1).trans h.cells, ownsMap_block h.map (hX.block mb h.map.lt h2), h.hit, h.miss, fun j hj hnj => ?_, h.apart, .inl h.inp, .inl h.inm, h.pm⟩
  obtain ⟨q1, q2, q3⟩ := h.rows j hj hnj
  refine ⟨?_, .inl q2, q3⟩
  by_cases e : G (rb j)
  · exact h3 j hj hnj e
  · exact q1.keep (hX.block _ q1.lt e)
theorem Out.grow {F : Nat → Prop} {w X w' : World} (h : Out F w X) (h2 : Out (Grow F w X) X w') : Out F w w' :=
  h.trans h2 (fun i hi hG => hG.elim id (fun e => by omega))
theorem grow_grow {F : Nat → Prop} {w X w' : World} (hs : X.heap.size ≤ w'.heap.size) (k : Nat) (h : Grow F w X k) : Grow F w w' k := h.imp id (fun e => ⟨e.1, by omega⟩)
set_option maxHeartbeats 2000000 in
set_option maxRecDepth 100000 in
theorem append_ok {w : World} {F : Nat → Prop} {p : Nat} {S : St} {N : Nat} (h : DiskAt w F p S N) (k : Nat) (s : ByteArray) (hk : k < 1000) (h0 : S.fuse ≠ 0) (hs0 : s.size ≠ 0) (hr : tot S.seg 1000 + s.size ≤ S.room) (hN : N + 1 < 1099511627776) (hne : (S.seg k).bytes ≠ []) :
    Calls Try.prog 17 #[.pointer (some ⟨p, 0, none⟩), .int .i64 (k : Int), .string s] w fun e w' => e = .returned (.int .i64 0) ∧ 
      DiskAt w' (Grow F w w') p (burn { S with seg := put S.seg k ⟨(S.seg k).bytes ++ s.data.toList, (S.seg k).safe⟩ }) (N + 1) ∧ Out F w w' := by
  have Hu := hideIt (up_is h)
  have hup : decide (S.fuse ≠ 0) = true := by simp [h0]
  rw [hup] at Hu
  obtain ⟨mb, ch, fs, ff, fm, rb, cp, D, hc, hf, hg, ha⟩ := h
  have hp : p < w.heap.size := (Array.getElem?_eq_some_iff.1 hc.cells).1
  have h2 : ¬ (k : Int) < 0 := by omega
  have h3 : ¬ 999 < (k : Int) := by omega
  have h4 : s.toList.isEmpty = false := notEmpty_of s hs0
  have hr' : ¬ ((S.room : Int) - (tot S.seg 1000 : Int) < (s.size : Int)) := by omega
  have hsl : s.data.toList.length = s.size := by simp
  have hone := tot_one S.seg k 1000 hk
  have htp := tot_put S.seg k ⟨(S.seg k).bytes ++ s.data.toList, (S.seg k).safe⟩ 1000 hk
  obtain ⟨r1, r2, r3, r4⟩ := hc.rows k hk hne
  have hg1 := hg.1
  have hg2 := hg.2.1
  generalize hu : tot S.seg 1000 = u at *
  go_enter Try.func17, Try.ntmps17
  go_wp2_with fail
  refine Hu.out.mono ?_
  rintro e w1 ⟨rfl, hb⟩
  have c0 : w1.cell? ⟨p, 0, none⟩ = some (.int .i64 (S.room : Int)) := by rw [hb.cell hp, cell_at hc.cells]; rfl
  have c1 : w1.cell? ⟨p, 1, none⟩ = some (.int .i64 (u : Int)) := by rw [hb.cell hp, cell_at hc.cells]; rfl
  have c2 : w1.cell? ⟨p, 2, none⟩ = some (.map (some mb)) := by rw [hb.cell hp, cell_at hc.cells]; rfl
  have HC := hideIt hc
  have HR := hideIt r1
  have HT := hideIt htp
  clear hc r1 htp Hu
  go_wp2
  go_quiet (fail)
  generalize hW : w1.drewN _ = W
  have hbW : Below w.heap.size w W := by rw [← hW]; exact below_drewN hb _
  have d2 : W.cell? ⟨p, 2, none⟩ = some (.map (some mb)) := by rw [← hW]; exact c2
  clear hW c0 c1 c2 hb
  have HL := hideIt hbW
  have hl := look_hit HC.out k hk hne W (hbW.block mb HC.out.map.lt)
  simp only [segV] at hl
  have hRW : ∀ o, Row (W.alloc o) (rb k) (cp k) (S.seg k).bytes := fun o => HR.out.keep ((Lib.alloc_old W o _ (Nat.lt_of_lt_of_le HR.out.lt hbW.size)).trans (hbW.block _ HR.out.lt))
  have hrlt : rb k < W.heap.size := Nat.lt_of_lt_of_le HR.out.lt hbW.size
  have HRW := hideIt hRW
  have hbytes : (S.seg k).bytes.length + s.size ≤ 140737488355328 := by omega
  clear hbW hRW
  go_wp2_with (at_builtin; refine wpList_append_R _ rfl _ _ rfl (rb k) (cp k) (S.seg k).bytes rfl (HRW.out _) s rfl hbytes ?_)
  intro g' cap' w2 hR2 hO2 hloc hold
  have hz : w2.heap[W.heap.size]? = some (.cells #[.slice (some ⟨rb k, 0, none⟩) (S.seg k).bytes.length (cp k), .int .i64 ((S.seg k).safe : Int)] 72 (0, 0)) := by
    rw [hO2.block _ (by simp) (by omega)]
    exact heap_alloc_new W _
  have z0 : w2.cell? ⟨W.heap.size, 0, none⟩ = some (.slice (some ⟨rb k, 0, none⟩) (S.seg k).bytes.length (cp k)) := by rw [cell_at hz]; rfl
  have z1 : w2.cell? ⟨W.heap.size, 1, none⟩ = some (.int .i64 ((S.seg k).safe : Int)) := by rw [cell_at hz]; rfl
  have z2 := free_at hz 0
  have HZ := hideIt hz
  have HO2 := hideIt hO2
  have HR2 := hideIt hR2
  have HOLD := hideIt hold
  clear hz hO2 hR2 hold
  generalize hbs : (S.seg k).bytes ++ s.data.toList = bs at *
  go_wp2_with fail
  have hbl : (S.seg k).bytes.length + s.size = bs.length := by rw [← hbs, List.length_append, hsl]
  rw [hbl]
  generalize hXd : w2.setCell ⟨W.heap.size, 0, none⟩ (.slice (some ⟨g', 0, none⟩) bs.length cap') = X
  have hzl : ∀ b, b < W.heap.size ∨ W.heap.size + 1 ≤ b → X.heap[b]? = w2.heap[b]? := fun b hb => by rw [← hXd]; exact RowKit.Below.heap_setCell _ _ _ _ (by simp; omega)
  have hX : Out (fun b => b = rb k) w X := by
    rw [← hXd]
    exact (((Out.ofBelow HL.out).trans (Out.ofAlloc (F := fun b => b = rb k) W _) (fun _ _ h => h)).trans HO2.out (fun _ _ h => h)).trans (Out.ofSet (F := fun b => b = W.heap.size) _ ⟨W.heap.size, 0, none⟩ _ rfl) (fun i hi e => by have := HL.out.size; omega)
  have hRX : Row X g' cap' bs := HR2.out.keep (hzl g' (by omega))
  have hCX := HC.out.moved hX (fun e => r3 e.symm) (fun e => r4 e.symm) (fun j hj hnj e => by
    have e2 : j = k := Classical.byContradiction fun hjk => HC.out.apart j k hj hk hjk hnj hne e
    subst e2
    exact HOLD.out.keep (hzl _ (by omega)))
  have hgs : Grow F w X g' := by
    rcases hloc with rfl | h
    · exact .inl r2
    · exact .inr ⟨by have := HL.out.size; omega, hRX.lt⟩
  have hHS := HL.out.size
  have hpl := HC.out.map.lt
  have hnp : g' ≠ p := by
    rcases hloc with rfl | h
    · exact r3
    · omega
  have hnm : g' ≠ mb := by
    rcases hloc with rfl | h
    · exact r4
    · omega
  have hap : ∀ j, j < 1000 → j ≠ k → (S.seg j).bytes ≠ [] → rb j ≠ g' := by
    intro j hj hjk hnj
    have := (HC.out.rows j hj hnj).1.lt
    rcases hloc with rfl | h
    · exact HC.out.apart j k hj hk hjk hnj hne
    · omega
  have hput := put_any hCX hk bs (S.seg k).safe g' cap' hRX hgs hnp hnm hap hu.symm (by rw [hu]; omega)
  have HP := hideIt hput
  clear hput z0 z1 z2 hzl HZ
  refine HP.out.mono ?_
  rintro e w3 ⟨rfl, D', hC3, hO3⟩
  have c3 : w3.cell? ⟨p, 3, none⟩ = some (.int .i64 ch) := by rw [cell_at hC3.cells]; rfl
  have f3 := free_at hC3.cells 3
  have hF3 := hC3.field 3 (.int .i64 (ch + 1))
  have HF3 := hideIt hF3
  have HO3 := hideIt hO3
  have hch := hf.1
  have hch2 := hf.2.1
  clear hC3 hF3 hO3 HP
  go_wp2_with fail
  refine (add_any p 3 ch _ c3 f3 hch (by omega)).mono ?_
  rintro e w4 ⟨⟨v, rfl⟩, rfl⟩
  go_wp2
  go_ret
  have hbs2 := hbs
  subst hbs2
  have hall : Out F w (w3.setCell ⟨p, 3, none⟩ (.int .i64 (ch + 1))) := by
    refine ((hX.mono (fun i e => by rw [e]; exact r2)).trans (HO3.out.mono (G := fun b => b = p ∨ b = mb) (fun _ h => h)) ?_).trans (Out.ofSet (F := fun b => b = p) w3 ⟨p, 3, none⟩ _ rfl) ?_
    · rintro i _ (rfl | rfl)
      · exact HC.out.inp
      · exact HC.out.inm
    · rintro i _ rfl
      exact HC.out.inp
  have hs3 : X.heap.size ≤ (w3.setCell ⟨p, 3, none⟩ (.int .i64 (ch + 1))).heap.size := by have := HO3.out.size; simpa using this
  refine ⟨rfl, ?_, hall⟩
  refine went (HF3.out.wide (fun k hk _ => grow_grow hs3 k hk)) hf h0 hg ha hN (fun j => ?_) ?_
  · by_cases e : j = k
    · subst e
      rw [put_same]
      have := hg2 j
      simp only [List.length_append]
      omega
    · rw [put_other _ _ _ _ e]
      exact hg2 j
  · have := HT.out
    simp only [List.length_append, hsl] at this
    omega
set_option maxHeartbeats 2000000 in
set_option maxRecDepth 100000 in
theorem append_nil {w : World} {F : Nat → Prop} {p : Nat} {S : St} {N : Nat} (h : DiskAt w F p S N) (k : Nat) (s : ByteArray) (hk : k < 1000) (h0 : S.fuse ≠ 0) (hs0 : s.size ≠ 0) (hr : tot S.seg 1000 + s.size ≤ S.room) (hN : N + 1 < 1099511627776) (hne : (S.seg k).bytes = []) :
    Calls Try.prog 17 #[.pointer (some ⟨p, 0, none⟩), .int .i64 (k : Int), .string s] w fun e w' => e = .returned (.int .i64 0) ∧ 
      DiskAt w' (Grow F w w') p (burn { S with seg := put S.seg k ⟨s.data.toList, 0⟩ }) (N + 1) ∧ Out F w w' := by
  have Hu := hideIt (up_is h)
  have hup : decide (S.fuse ≠ 0) = true := by simp [h0]
  rw [hup] at Hu
  obtain ⟨mb, ch, fs, ff, fm, rb, cp, D, hc, hf, hg, ha⟩ := h
  have hp : p < w.heap.size := (Array.getElem?_eq_some_iff.1 hc.cells).1
  have h2 : ¬ (k : Int) < 0 := by omega
  have h3 : ¬ 999 < (k : Int) := by omega
  have h4 : s.toList.isEmpty = false := notEmpty_of s hs0
  have hr' : ¬ ((S.room : Int) - (tot S.seg 1000 : Int) < (s.size : Int)) := by omega
  have hsl : s.data.toList.length = s.size := by simp
  have hone := tot_one S.seg k 1000 hk
  have htp := tot_put S.seg k ⟨s.data.toList, 0⟩ 1000 hk
  have hg1 := hg.1
  have hg2 := hg.2.1
  generalize hu : tot S.seg 1000 = u at *
  go_enter Try.func17, Try.ntmps17
  go_wp2_with fail
  refine Hu.out.mono ?_
  rintro e w1 ⟨rfl, hb⟩
  have c0 : w1.cell? ⟨p, 0, none⟩ = some (.int .i64 (S.room : Int)) := by rw [hb.cell hp, cell_at hc.cells]; rfl
  have c1 : w1.cell? ⟨p, 1, none⟩ = some (.int .i64 (u : Int)) := by rw [hb.cell hp, cell_at hc.cells]; rfl
  have c2 : w1.cell? ⟨p, 2, none⟩ = some (.map (some mb)) := by rw [hb.cell hp, cell_at hc.cells]; rfl
  have HC := hideIt hc
  have HT := hideIt htp
  clear hc htp Hu
  go_wp2
  go_quiet (fail)
  generalize hW : w1.drewN _ = W
  have hbW : Below w.heap.size w W := by rw [← hW]; exact below_drewN hb _
  have d2 : W.cell? ⟨p, 2, none⟩ = some (.map (some mb)) := by rw [← hW]; exact c2
  clear hW c0 c1 c2 hb
  have HL := hideIt hbW
  have hl := look_miss HC.out k (wf64 _ (by omega) (by omega)) (fun j _ e => (show k = j by omega) ▸ hne) W (hbW.block mb HC.out.map.lt)
  simp only [zeroSeg] at hl
  have hbytes : s.size ≤ 140737488355328 := by omega
  clear hbW
  go_wp2_with (at_builtin; refine wpList_append_0 _ rfl _ _ rfl rfl s rfl (by omega) hbytes ?_)
  intro g' cap' w2 hR2 hO2 hloc
  have hz : w2.heap[W.heap.size]? = some (.cells #[.slice none 0 0, .int .i64 0] 72 (0, 0)) := by
    rw [hO2.block _ (by simp) (fun h => h)]
    exact heap_alloc_new W _
  have z0 : w2.cell? ⟨W.heap.size, 0, none⟩ = some (.slice none 0 0) := by rw [cell_at hz]; rfl
  have z1 : w2.cell? ⟨W.heap.size, 1, none⟩ = some (.int .i64 0) := by rw [cell_at hz]; rfl
  have z2 := free_at hz 0
  have HZ := hideIt hz
  have HO2 := hideIt hO2
  have HR2 := hideIt hR2
  clear hz hO2 hR2
  generalize hbs : s.data.toList = bs at *
  go_wp2_with fail
  have hbl : s.size = bs.length := hsl.symm
  rw [hbl]
  generalize hXd : w2.setCell ⟨W.heap.size, 0, none⟩ (.slice (some ⟨g', 0, none⟩) bs.length cap') = X
  have hzl : ∀ b, b < W.heap.size ∨ W.heap.size + 1 ≤ b → X.heap[b]? = w2.heap[b]? := fun b hb => by rw [← hXd]; exact RowKit.Below.heap_setCell _ _ _ _ (by simp; omega)
  have hX : Out (fun b => False) w X := by
    rw [← hXd]
    exact (((Out.ofBelow HL.out).trans (Out.ofAlloc (F := fun b => False) W _) (fun _ _ h => h)).trans HO2.out (fun _ _ h => h)).trans (Out.ofSet (F := fun b => b = W.heap.size) _ ⟨W.heap.size, 0, none⟩ _ rfl) (fun i hi e => by have := HL.out.size; omega)
  have hRX : Row X g' cap' bs := HR2.out.keep (hzl g' (by omega))
  have hCX := HC.out.moved hX (fun e => e) (fun e => e) (fun _ _ _ e => e.elim)
  have hgs : Grow F w X g' := .inr ⟨by have := HL.out.size; omega, hRX.lt⟩
  have hHS := HL.out.size
  have hpl := HC.out.map.lt
  have hap : ∀ j, j < 1000 → j ≠ k → (S.seg j).bytes ≠ [] → rb j ≠ g' := by
    intro j hj hjk hnj
    have := (HC.out.rows j hj hnj).1.lt
    omega
  have hput := put_any hCX hk bs 0 g' cap' hRX hgs (by omega) (by omega) hap hu.symm (by rw [hu]; omega)
  have HP := hideIt hput
  clear hput z0 z1 z2 hzl HZ
  refine HP.out.mono ?_
  rintro e w3 ⟨rfl, D', hC3, hO3⟩
  dsimp only
  have c3 : w3.cell? ⟨p, 3, none⟩ = some (.int .i64 ch) := by rw [cell_at hC3.cells]; rfl
  have f3 := free_at hC3.cells 3
  have hF3 := hC3.field 3 (.int .i64 (ch + 1))
  have HF3 := hideIt hF3
  have HO3 := hideIt hO3
  have hch := hf.1
  have hch2 := hf.2.1
  clear hC3 hF3 hO3 HP
  go_wp2_with fail
  refine (add_any p 3 ch _ c3 f3 hch (by omega)).mono ?_
  rintro e w4 ⟨⟨v, rfl⟩, rfl⟩
  go_wp2
  go_ret
  (try rw [hbs])
  have hall : Out F w (w3.setCell ⟨p, 3, none⟩ (.int .i64 (ch + 1))) := by
    refine ((hX.mono (fun i e => e.elim)).trans (HO3.out.mono (G := fun b => b = p ∨ b = mb) (fun _ h => h)) ?_).trans (Out.ofSet (F := fun b => b = p) w3 ⟨p, 3, none⟩ _ rfl) ?_
    · rintro i _ (rfl | rfl)
      · exact HC.out.inp
      · exact HC.out.inm
    · rintro i _ rfl
      exact HC.out.inp
  have hs3 : X.heap.size ≤ (w3.setCell ⟨p, 3, none⟩ (.int .i64 (ch + 1))).heap.size := by have := HO3.out.size; simpa using this
  refine ⟨rfl, ?_, hall⟩
  refine went (HF3.out.wide (fun k hk _ => grow_grow hs3 k hk)) hf h0 hg ha hN (fun j => ?_) ?_
  · by_cases e : j = k
    · subst e
      rw [put_same]
      exact Nat.zero_le _
    · rw [put_other _ _ _ _ e]
      exact hg2 j
  · have := HT.out
    simp only [hsl] at this
    omega

theorem appendE_ok {S : St} {i : Int} {s : List UInt8} (h : appendE S i s = 0) : S.fuse ≠ 0 ∧ 0 ≤ i ∧ i ≤ 999 ∧ s ≠ [] ∧ tot S.seg 1000 + s.length ≤ S.room := by
  unfold appendE at h
  split at h
  · cases h
  · split at h
    · cases h
    · split at h
      · cases h
      · rename_i a b c
        refine ⟨a, ?_, ?_, fun e => b (.inr (.inr e)), by omega⟩
        · exact Int.not_lt.1 (fun e => b (.inl e))
        · exact Int.not_lt.1 (fun e => b (.inr (.inl e)))
theorem append_is {w : World} {F : Nat → Prop} {p : Nat} {S : St} {N : Nat} (h : DiskAt w F p S N) (i : Int) (s : ByteArray) (hN : N + 1 < 1099511627776) :
    Calls Try.prog 17 #[.pointer (some ⟨p, 0, none⟩), .int .i64 i, .string s] w fun e w' => e = .returned (.int .i64 (appendE S i s.data.toList : Int)) ∧ DiskAt w' (Grow F w w') p (appendS S i s.data.toList) (N + 1) ∧ Out F w w' := by
  by_cases he : appendE S i s.data.toList = 0
  · obtain ⟨h0, h1, h2, h3, h4⟩ := appendE_ok he
    obtain ⟨k, rfl⟩ := Int.eq_ofNat_of_zero_le h1
    have hs0 : s.size ≠ 0 := fun e => h3 ((size0 s).2 e)
    have hr : tot S.seg 1000 + s.size ≤ S.room := by simpa using h4
    unfold appendS
    rw [he, if_pos rfl]
    by_cases hne : (S.seg k).bytes = []
    · have hsafe : (S.seg k).safe = 0 := by
        obtain ⟨_, _, _, _, _, _, _, _, _, _, hg, _⟩ := h
        have := hg.2.1 k
        rw [hne] at this
        simpa using this
      have e : (⟨(S.seg (k : Int).toNat).bytes ++ s.data.toList, (S.seg (k : Int).toNat).safe⟩ : Seg) = ⟨s.data.toList, 0⟩ := by simp [hne, hsafe]
      rw [e]
      exact append_nil h k s (by omega) h0 hs0 hr hN hne
    · exact append_ok h k s (by omega) h0 hs0 hr hN hne
  · unfold appendS
    rw [if_neg he]
    refine (append_err h i s he).mono ?_
    rintro e w' ⟨rfl, hb⟩
    exact ⟨rfl, h.same (by omega) hN hb⟩
end Go.Proofs.Ytpgimffghaelhaa
