/- What a disk's Copy hands back: a disk of its own that is the same (D8). -/
import Derived.Test.YtpgimffghaelhaaCrash
import Derived.Deep.RegionHeld3
namespace Go.Proofs.Ytpgimffghaelhaa
open Go.RowKit Go.Maps Go.Shelf

theorem cloneM_any (w : World) (b : Nat) (es : Array MapEntry) (clock : Nat) (hb : w.heap[b]? = some (.map es clock)) : Calls Try.prog 43 #[.map (some b)] w fun e w' => e = .returned (.map (some w.heap.size)) ∧ w' = w.alloc (.map es clock) :=
  AnyW.maps_Clone layCloneM b es clock w hb
theorem cloneB_any (w : World) (g cap : Nat) (bs : List UInt8) (hR : Row w g cap bs) (hl : bs.length ≤ 140737488355328) : Calls Try.prog 45 #[.slice (some ⟨g, 0, none⟩) bs.length cap] w fun e w' => ∃ g' c', e = .returned (.slice (some ⟨g', 0, none⟩) bs.length c') ∧ Row w' g' c' bs ∧ w.heap.size ≤ g' ∧ Below w.heap.size w w' := by
  obtain ⟨i, hi, hz0, hz1, hz2⟩ := info_parts info5
  refine (AnyE.slices_Clone layCloneB i (.int .u8 0) 1 1 hi hz0 hz1 hz2 rfl (by decide) (fun w => by kernel_rfl) g 0 bs.length cap (bs.map u8v) w (by simp) (by unfold maxLen; omega) (by omega) (fun j u hu => ?_) (fun u hu => ?_)).mono ?_
  · have := hR.cells j u hu
    have hadd : (⟨g, 0, none⟩ : Addr).add j = ⟨g, j, none⟩ := by unfold Addr.add; split <;> simp_all
    rw [hadd] at this
    simpa using this
  · obtain ⟨x, _, rfl⟩ := List.mem_map.1 hu
    rfl
  · rintro e w' ⟨v', rfl, hown, hnil, hb⟩
    obtain ⟨_, ⟨rfl, _⟩ | ⟨g', cap', cur, rfl, hg, hcur, h1, h2, h3, h4⟩⟩ := hown
    · exact absurd rfl hnil
    · refine ⟨g', cap', rfl, ⟨cur, hcur, h1, h2, by simpa using h3, by simpa using h4⟩, hg, hb⟩
theorem store_any (p off : Nat) (c u : Int) (w : World) (hc : w.cell? ⟨p, off, none⟩ = some (.int .i64 u)) (hf : w.frozen? ⟨p, off, none⟩ = false) :
    Calls Try.prog 46 #[.pointer (some ⟨p, off, none⟩), .int .i64 c] w fun e w' => e = .returned (.tuple #[]) ∧ w' = w.setCell ⟨p, off, none⟩ (.int .i64 c) := by
  have hl := run_call_store (P := Try.prog) Try.func58 (by kernel_rfl) (by kernel_rfl) (by kernel_rfl) (by kernel_rfl) (y := c) (k := .i64) hc hf
  go_enter Try.func46, Try.ntmps46
  go_wp2
  go_end0
  exact ⟨rfl, rfl⟩
theorem Core.only {w : World} {F G : Nat → Prop} {p mb : Nat} {cs : Array Value} {f : Nat → Seg} {rb cp : Nat → Nat} {D : DataW Value} (h : Core w F p mb cs f rb cp D) (h1 : G p) (h2 : G mb) (h3 : ∀ k, k < 1000 → (f k).bytes ≠ [] → G (rb k)) : Core w G p mb cs f rb cp D :=
  ⟨h.cells, h.map, h.hit, h.miss, fun k hk hne => ⟨(h.rows k hk hne).1, h3 k hk hne, (h.rows k hk hne).2.2⟩, h.apart, h1, h2, h.pm⟩
def CopyIs (w : World) (S : St) (N : Nat) (e : Ending) (w' : World) : Prop := ∃ pc, e = .returned (.pointer (some ⟨pc, 0, none⟩)) ∧ DiskAt w' (fun k => w.heap.size ≤ k ∧ k < w'.heap.size) pc S N ∧ Below w.heap.size w w'
set_option maxHeartbeats 4000000 in
set_option maxRecDepth 100000 in
theorem copy_is {w : World} {F : Nat → Prop} {p : Nat} {S : St} {N : Nat} (h : DiskAt w F p S N) (hF : ∀ k, F k → k < w.heap.size) : Calls Try.prog 14 #[.pointer (some ⟨p, 0, none⟩)] w (CopyIs w S N) := by
  obtain ⟨mb, ch, fs, ff, fm, rb0, cp0, D0, hc, hf, hg, ha⟩ := h
  have c0 : w.cell? ⟨p, 0, none⟩ = some (.int .i64 (S.room : Int)) := by rw [cell_at hc.cells]; rfl
  have c1 : w.cell? ⟨p, 1, none⟩ = some (.int .i64 (tot S.seg 1000 : Int)) := by rw [cell_at hc.cells]; rfl
  have c2 : w.cell? ⟨p, 2, none⟩ = some (.map (some mb)) := by rw [cell_at hc.cells]; rfl
  have c3 : w.cell? ⟨p, 3, none⟩ = some (.int .i64 ch) := by rw [cell_at hc.cells]; rfl
  have c4 : w.cell? ⟨p, 4, none⟩ = some (.bool fs) := by rw [cell_at hc.cells]; rfl
  have c5 : w.cell? ⟨p, 5, none⟩ = some (.int .i64 ff) := by rw [cell_at hc.cells]; rfl
  have c6 : w.cell? ⟨p, 6, none⟩ = some (.int .i64 fm) := by rw [cell_at hc.cells]; rfl
  have c7 : w.cell? ⟨p, 7, none⟩ = some (.int .i64 (S.age : Int)) := by rw [cell_at hc.cells]; rfl
  obtain ⟨es, clock, hmb, hfit, hes, hDD⟩ := hc.map
  have HM := hideIt (cloneM_any w.drew mb es clock hmb)
  have hpl := hF p hc.inp
  have HC := hideIt hc
  have HB := hideIt hmb
  have HFit := hideIt hfit
  clear hc hmb hfit
  go_enter Try.func14, Try.ntmps14
  go_upto_region 1 with fail
  go_cut [3] from 3 to 29 (fun v wx => v = .pointer (some ⟨w.heap.size + 1, 0, none⟩) ∧ wx = ((w.alloc (.map es clock)).alloc (.cells (fields S.room (tot S.seg 1000) w.heap.size 0 fs ff fm S.age) 64)).drew)
  case first =>
    go_region_held3 (fun w' => w'.cell? ⟨p, 0, none⟩ = some (.int .i64 (S.room : Int)) ∧ w'.cell? ⟨p, 1, none⟩ = some (.int .i64 (tot S.seg 1000 : Int)) ∧ w'.cell? ⟨p, 2, none⟩ = some (.map (some mb)) ∧ w'.cell? ⟨p, 4, none⟩ = some (.bool fs) ∧ w'.cell? ⟨p, 5, none⟩ = some (.int .i64 ff) ∧ w'.cell? ⟨p, 6, none⟩ = some (.int .i64 fm) ∧ w'.cell? ⟨p, 7, none⟩ = some (.int .i64 (S.age : Int))) (go_keep) (first | (go_at_call 43; refine HM.out.mono ?_; rintro e w5 ⟨rfl, rfl⟩))
    go_wp2_with fail
    go_meet
    exact ⟨rfl, rfl⟩
  case rest =>
  obtain ⟨rfl, rfl⟩ := hcut
  have hpn : ((w.alloc (.map es clock)).alloc (.cells (fields S.room (tot S.seg 1000) w.heap.size 0 fs ff fm S.age) 64)).drew.heap[w.heap.size + 1]? = some (.cells (fields S.room (tot S.seg 1000) w.heap.size 0 fs ff fm S.age) 64 (0, 0)) := heap_alloc2_new w _ _
  have hmn : ((w.alloc (.map es clock)).alloc (.cells (fields S.room (tot S.seg 1000) w.heap.size 0 fs ff fm S.age) 64)).drew.heap[w.heap.size]? = some (.map es clock) := (Lib.alloc_old (w.alloc (.map es clock)) _ _ (by simp)).trans (heap_alloc_new w _)
  have hbx : Below w.heap.size w ((w.alloc (.map es clock)).alloc (.cells (fields S.room (tot S.seg 1000) w.heap.size 0 fs ff fm S.age) 64)).drew := (((Below.refl _ w).alloc (Nat.le_refl _) _).alloc (by simp) _).drew
  have hsx : ((w.alloc (.map es clock)).alloc (.cells (fields S.room (tot S.seg 1000) w.heap.size 0 fs ff fm S.age) 64)).drew.heap.size = w.heap.size + 2 := by
    show ((w.alloc (.map es clock)).alloc (.cells (fields S.room (tot S.seg 1000) w.heap.size 0 fs ff fm S.age) 64)).heap.size = _
    simp
  generalize ((w.alloc (.map es clock)).alloc (.cells (fields S.room (tot S.seg 1000) w.heap.size 0 fs ff fm S.age) 64)).drew = X0 at *
  have hC0 : Core X0 (Grow F w X0) (w.heap.size + 1) w.heap.size (fields S.room (tot S.seg 1000) w.heap.size 0 fs ff fm S.age) S.seg rb0 cp0 D0 := by
    refine ⟨hpn, ⟨es, clock, hmn, HFit.out, hes, hDD⟩, HC.out.hit, HC.out.miss, fun k hk hne => ?_, HC.out.apart, .inr ⟨by omega, by omega⟩, .inr ⟨by omega, by omega⟩, by omega⟩
    obtain ⟨r1, r2, r3, r4⟩ := HC.out.rows k hk hne
    have := r1.lt
    exact ⟨r1.keep (hbx.block _ r1.lt), .inl r2, by omega, by omega⟩
  have Hn := hideIt (numbers_any hC0 rfl)
  have HBX := hideIt hbx
  have HC0 := hideIt hC0
  have hg1 := hg.1
  have hg3 := hg.2.2.1
  clear hpn hmn hbx hC0 HM HB c0 c1 c2 c4 c5 c6 c7
  go_wp2_with fail
  refine Hn.out.mono ?_
  rintro e w2 ⟨a, c, g, rfl, hI, hgl, hb2⟩
  dsimp only
  have hC2 := (HC0.out.keep (w' := w2) (fun k _ hk => hb2.block k hk)).wide (G := Grow F w w2) (fun k hk _ => grow_grow hb2.size k hk)
  have HB2 := hideIt (HBX.out.trans (hb2.mono (by omega)))
  have hnl := nums_len S.seg 1000
  have hnl2 := mem_nums S.seg 1000
  generalize hld : nums S.seg 1000 = l at *
  have HI := hideIt hI
  have HC2 := hideIt hC2
  have hs2 := hb2.size
  clear hI hC2 HC0 Hn hb2 HBX
  go_wp2
  go_loopw [33] (fun v wr => ∃ (t : Nat) (rb cp : Nat → Nat) (D : DataW Value), t ≤ l.length ∧ v = .int .i64 (t : Int) ∧ w2.heap.size ≤ wr.heap.size ∧ Hid (Core wr (Grow F w wr) (w.heap.size + 1) w.heap.size (fields S.room (tot S.seg 1000) w.heap.size 0 fs ff fm S.age) S.seg rb cp D) ∧ Hid (∀ k ∈ l.take t, w.heap.size ≤ rb k) ∧ Hid (Ints wr g a (asInts l)) ∧ Hid (Below w.heap.size w wr)) (fun v _ => l.length - (intOf v).toNat)
  case atStart => exact ⟨0, rb0, cp0, D0, by omega, rfl, Nat.le_refl _, HC2, (fun k hk => by simp at hk), HI, HB2⟩
  case round =>
    obtain ⟨t, rb, cp, D, htl, rfl, hw2, HCr, HT, HJ, HBr⟩ := hrel
    by_cases hlt : t < l.length
    · have hlt' : (t : Int) < l.length := by omega
      obtain ⟨rfl, ci⟩ := HJ.out.at t hlt
      have hmem := (hnl2 l[t]).1 (List.getElem_mem hlt)
      obtain ⟨hk, hne⟩ := hmem
      have htk : l.take (t + 1) = l.take t ++ [l[t]] := List.take_succ_eq_append_getElem hlt
      generalize hkd : l[t] = k at *
      have hl := look_hit HCr.out k hk hne wr rfl
      obtain ⟨q1, q2, q3, q4⟩ := HCr.out.rows k hk hne
      have e2 : wr.cell? ⟨w.heap.size + 1, 2, none⟩ = some (.map (some w.heap.size)) := by rw [cell_at HCr.out.cells]; rfl
      simp only [segV] at hl
      have hone := tot_one S.seg k 1000 hk
      have HQ := hideIt q1
      have HTk := hideIt htk
      have hpr : w.heap.size + 1 < wr.heap.size := (Array.getElem?_eq_some_iff.1 HCr.out.cells).1
      clear q1 htk
      have HRX : Hid (∀ o, Row (wr.alloc o) (rb k) (cp k) (S.seg k).bytes) := fun o => HQ.out.keep (Lib.alloc_old wr o _ HQ.out.lt)
      go_wp2_with fail
      refine (cloneB_any _ (rb k) (cp k) (S.seg k).bytes (HRX.out _) (by omega)).mono ?_
      rintro e w3 ⟨g', c', rfl, hR3, hg3', hb3⟩
      dsimp only
      have hsz3 : wr.heap.size + 1 ≤ w3.heap.size := by have := hb3.size; simpa using this
      have hz3 : w3.heap[wr.heap.size]? = some (.cells #[.slice (some ⟨rb k, 0, none⟩) (S.seg k).bytes.length (cp k), .int .i64 ((S.seg k).safe : Int)] 72 (0, 0)) := (hb3.block _ (by simp)).trans (heap_alloc_new wr _)
      have hg3'' : wr.heap.size + 1 ≤ g' := by simpa using hg3'
      have y0 : w3.cell? ⟨wr.heap.size, 0, none⟩ = some (.slice (some ⟨rb k, 0, none⟩) (S.seg k).bytes.length (cp k)) := by rw [cell_at hz3]; rfl
      have y1 : w3.cell? ⟨wr.heap.size, 1, none⟩ = some (.int .i64 ((S.seg k).safe : Int)) := by rw [cell_at hz3]; rfl
      have y2 := free_at hz3 0
      have hOw : Out (fun _ => False) wr w3 := (Out.ofAlloc (F := fun _ => False) wr _).trans (Out.ofBelow (F := fun _ => False) hb3) (fun _ _ h => h)
      have HO3 := hideIt hOw
      have HR3 := hideIt hR3
      clear hl hb3 hOw hR3 hg3' HRX
      go_upto_region 7 with fail
      generalize hXd : w3.setCell ⟨wr.heap.size, 0, none⟩ (.slice (some ⟨g', 0, none⟩) (S.seg k).bytes.length c') = X
      have hXo : Out (fun _ => False) wr X := by
        rw [← hXd]
        have o2 := Out.ofSet (F := fun b => b = wr.heap.size) w3 ⟨wr.heap.size, 0, none⟩ (.slice (some ⟨g', 0, none⟩) (S.seg k).bytes.length c') rfl
        exact HO3.out.trans o2 (fun i hi e => by omega)
      have hxs : w3.heap.size ≤ X.heap.size := by rw [← hXd]; simp
      have hzX : X.heap[wr.heap.size]? = some (.cells #[.slice (some ⟨g', 0, none⟩) (S.seg k).bytes.length c', .int .i64 ((S.seg k).safe : Int)] 72 (0, 0)) := by
        rw [← hXd, setCell_eq_setRow _ _ 0 _ 72 (0, 0) _ hz3]
        exact setRow_heap _ _ _ _ 72 _ hz3
      have hRX : Row X g' c' (S.seg k).bytes := by
        rw [← hXd]
        exact HR3.out.keep (RowKit.Below.heap_setCell _ _ _ _ (by simp; omega))
      have hCX := (HCr.out.out hXo (fun _ _ h => h)).wide (G := Grow F w X) (fun j hj _ => grow_grow hXo.size j hj)
      have x0 : X.cell? ⟨wr.heap.size, 0, none⟩ = some (.slice (some ⟨g', 0, none⟩) (S.seg k).bytes.length c') := by rw [cell_at hzX]; rfl
      have x1 : X.cell? ⟨wr.heap.size, 1, none⟩ = some (.int .i64 ((S.seg k).safe : Int)) := by rw [cell_at hzX]; rfl
      have x2 : X.cell? ⟨w.heap.size + 1, 2, none⟩ = some (.map (some w.heap.size)) := by rw [cell_at hCX.cells]; rfl
      have hkey : keyOf Try.prog 3 (.int .i64 (k : Int)) = some (keyL k) := keyOf_int_mk Try.underlying3 (wf64 _ (by omega) (by omega))
      obtain ⟨w4, hrun, hown4, hturn⟩ := hCX.map.drew.store (int_keyed Try.underlying3) Try.underlying55 (by have := hCX.size; unfold maxLen; omega) (val := .agg #[Value.slice (some ⟨g', 0, none⟩) (S.seg k).bytes.length c', .int .i64 ((S.seg k).safe : Int)]) hkey (d := .held (.agg #[Value.slice (some ⟨g', 0, none⟩) (S.seg k).bytes.length c', .int .i64 ((S.seg k).safe : Int)])) (ps := []) rfl
      have HCX := hideIt hCX
      have HRX := hideIt hRX
      have HO4 := hideIt hown4
      have HT4 := hideIt hturn
      have HXo := hideIt hXo
      have hXl := hRX.lt
      clear hXd hzX hRX hCX hown4 hturn hXo y0 y1 y2 hz3 e2 ci
      generalize hzd : wr.heap.size = z at *
      go_region
      go_wp2
      go_roundw
      case rel =>
        have hgr := HT4.out.grown
        have hout4 : Out (fun b => b = w.heap.size + 1 ∨ b = w.heap.size) X w4 := (Out.ofDrew X).trans (Out.ofGrown (F := fun b => b = w.heap.size) hgr (fun j e => by simpa using e.symm)) (fun i _ e => .inr e)
        have hne' : ∀ x : Int, x ≠ k → keyL x ≠ keyL k := fun x hx e => hx (by simpa [keyL] using e)
        have hcs4 : w4.heap[w.heap.size + 1]? = some (.cells (fields S.room (tot S.seg 1000) w.heap.size 0 fs ff fm S.age) 64 (0, 0)) := by
          rw [hgr.block _ (show w.heap.size + 1 < X.drew.heap.size from Nat.lt_of_lt_of_le hpr (by show _ ≤ X.heap.size; have := HXo.out.size; omega)) (by simp)]
          exact HCX.out.cells
        have hcore := core_put HCX.out hk (S.seg k).bytes (S.seg k).safe g' c' hcs4 hout4 (ownsMap_tight HO4.out) HRX.out (.inr ⟨by omega, hXl⟩) (by omega) (by omega) (fun j hj hjk hnj => by have := (HCr.out.rows j hj hnj).1.lt; omega) (fun _ z => atKey_put_same HCX.out.map.isMap (show WideAt.IsKeyLit (keyL (k : Int)) from trivial) _ z) (fun hn => absurd hn hne) (fun x hx z => atKey_put_other (hne' x hx) _ z)
        have eself : put S.seg k ⟨(S.seg k).bytes, (S.seg k).safe⟩ = S.seg := put_self S.seg k
        rw [eself] at hcore
        refine ⟨t + 1, _, _, _, by omega, by go_num, ?_, hcore.wide (fun j hj _ => grow_grow hout4.size j hj), ?_, ?_, ?_⟩
        · have := hout4.size; omega
        · rw [HTk.out]
          intro j hj
          rcases List.mem_append.1 hj with hj | hj
          · simp only [upd]
            split
            · omega
            · exact HT.out j hj
          · obtain rfl : j = k := by simpa using hj
            simp only [upd, if_true]
            omega
        · refine HJ.out.keep (fun hgw2 => ?_)
          rw [hout4.block g (by have := HXo.out.size; omega) (by omega), HXo.out.block g hgw2 (fun h => h)]
        · exact (HBr.out.trans (HXo.out.below HBr.out.size (fun _ h => h.elim))).trans (hout4.below (by have := HXo.out.size; omega) (fun j hj => by omega))
      case measure => simp [intOf]; omega
    · have hlt' : ¬ (t : Int) < l.length := by omega
      obtain rfl : t = l.length := by omega
      have d3 : wr.cell? ⟨p, 3, none⟩ = some (.int .i64 ch) := by rw [HBr.out.cell (p := ⟨p, 3, none⟩) hpl]; exact c3
      have n3 : wr.cell? ⟨w.heap.size + 1, 3, none⟩ = some (.int .i64 0) := by rw [cell_at HCr.out.cells]; rfl
      have m3 := free_at HCr.out.cells 3
      have hpr : w.heap.size + 1 < wr.heap.size := (Array.getElem?_eq_some_iff.1 HCr.out.cells).1
      have HE := hideIt (HCr.out.field 3 (.int .i64 ch))
      go_upto_region 9 with fail
      refine wp_region_still_tail 7 mixed (by kernel_rfl) ?_
      simp only [List.take_succ_cons, List.take_zero, List.drop_succ_cons, List.drop_zero]
      iterate 6 still_step
      still_call (load_any ⟨p, 3, none⟩ ch wr.drew d3)
      refine wpStill_nil ?_
      go_wp2_with fail
      refine (store_any (w.heap.size + 1) 3 ch 0 wr.drew n3 m3).mono ?_
      rintro e w5 ⟨rfl, rfl⟩
      dsimp only
      go_wp2
      go_ret
      have hdr : Core wr.drew (Grow F w wr) (w.heap.size + 1) w.heap.size (fields S.room (tot S.seg 1000) w.heap.size 0 fs ff fm S.age) S.seg rb cp D := HCr.out.keep (fun _ _ _ => rfl)
      have hE := hdr.field 3 (.int .i64 ch)
      have hall : ∀ k, k < 1000 → (S.seg k).bytes ≠ [] → w.heap.size ≤ rb k := by
        intro k hk hne
        have hm := (hnl2 k).2 ⟨hk, hne⟩
        have := HT.out k
        rw [List.take_of_length_le (Nat.le_refl _)] at this
        exact this hm
      have hsE : wr.heap.size = (wr.drew.setCell ⟨w.heap.size + 1, 3, none⟩ (.int .i64 ch)).heap.size := by
        show wr.heap.size = _
        simp
      refine ⟨w.heap.size + 1, rfl, ⟨w.heap.size, ch, fs, ff, fm, rb, cp, D, hE.only ⟨by omega, by omega⟩ ⟨by omega, by omega⟩ (fun k hk hne => ⟨hall k hk hne, ?_⟩), hf, hg, ha⟩, ?_⟩
      · exact (hE.rows k hk hne).1.lt
      · exact (HBr.out.drew).trans ((Out.ofSet (F := fun b => b = w.heap.size + 1) wr.drew ⟨w.heap.size + 1, 3, none⟩ _ rfl).below (show w.heap.size ≤ wr.heap.size by omega) (fun j hj => by omega))
end Go.Proofs.Ytpgimffghaelhaa
