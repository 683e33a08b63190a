/- Where a key stands: sort.Search and seek. -/
import Derived.Test.YtfcbjdfelahfkaaMay
import Derived.Shelf.Abstract
namespace Go.Proofs.Ytfcbjdfelahfkaa
open Go.RowKit
set_option linter.all false
set_option maxHeartbeats 4000000 in
set_option maxRecDepth 100000 in
theorem search_is (n N : Nat) (cb : Array Value) (w : World) (eg : ∀ args w, (callFunc 28 args).run Try.prog w = .ok (.enter 28 args) w) (hn : n < 4611686018427387904) (hN : N ≤ n)
    (hf : ∀ (W : World) (i : Nat), Below w.heap.size w W → i < n → Calls Try.prog 28 (#[.int .i64 i] ++ cb) W fun e w' => e = .returned (.bool (decide (N ≤ i))) ∧ Below W.heap.size W w') :
    Calls Try.prog 27 #[.int .i64 n, .func (.func 28) #[] cb] w fun e w' => e = .returned (.int .i64 N) ∧ Below w.heap.size w w' := by
  have HF := hideIt hf
  clear hf
  go_enter Try.func27, Try.ntmps27
  go_wp2
  go_loopw [5, 6] (fun a b wr => ∃ lo hi : Nat, a = .int .i64 lo ∧ b = .int .i64 hi ∧ lo ≤ N ∧ N ≤ hi ∧ hi ≤ n ∧ Hid (Below w.heap.size w wr)) (fun a b _ => (intOf b - intOf a).toNat)
  case atStart => exact ⟨0, n, rfl, rfl, Nat.zero_le _, hN, Nat.le_refl _, hideIt (Below.refl _ _)⟩
  case round =>
    obtain ⟨lo, hi, rfl, rfl, h1, h2, h3, HB⟩ := hrel
    by_cases hlt : lo < hi
    · have hc := HF.out wr ((lo + hi) / 2) HB.out (by omega)
      rw [show (((lo + hi) / 2 : Nat) : Int) = ((lo : Int) + (hi : Int)) / 2 by omega] at hc
      by_cases hp : N ≤ (lo + hi) / 2
      · rw [decide_eq_true hp] at hc
        have HC := hideIt hc
        clear hc
        go_wp2_with fail
        refine HC.out.mono ?_
        rintro e w1 ⟨rfl, hb⟩
        dsimp only
        clear HC HF
        go_wp2
        go_roundw
        case rel => exact ⟨lo, (lo + hi) / 2, rfl, by rw [show (((lo + hi) / 2 : Nat) : Int) = ((lo : Int) + (hi : Int)) / 2 by omega], h1, hp, by omega, hideIt (below_via HB.out hb)⟩
        case measure => simp [intOf]; omega
      · rw [decide_eq_false hp] at hc
        have HC := hideIt hc
        clear hc
        go_wp2_with fail
        refine HC.out.mono ?_
        rintro e w1 ⟨rfl, hb⟩
        dsimp only
        clear HC HF
        go_wp2
        go_roundw
        case rel => exact ⟨(lo + hi) / 2 + 1, hi, by rw [show (((lo + hi) / 2 + 1 : Nat) : Int) = ((lo : Int) + (hi : Int)) / 2 + 1 by omega], rfl, by omega, h2, h3, hideIt (below_via HB.out hb)⟩
        case measure => simp [intOf]; omega
    · obtain rfl : N = lo := by omega
      go_wp2
      go_ret
      exact ⟨rfl, HB.out⟩
/-- Where a key stands, or would come in. -/
def sekN (l : List PlaV) (k : KeyV) : Nat := (l.takeWhile (fun p => ahdB p.1 k)).length
def knoB (l : List PlaV) (k : KeyV) : Bool := match l[sekN l k]? with
  | some p => p.1 == k
  | none => false
theorem ahd_trans {a b c : KeyV} (h : ahdB a b = true) (k : ahdB b c = true) : ahdB a c = true := by
  simp only [ahdB, Bool.or_eq_true, Bool.and_eq_true, decide_eq_true_eq] at *
  omega
theorem ahd_irr (a : KeyV) : ahdB a a = false := by simp [ahdB]
theorem ahd_tri (a b : KeyV) (h1 : ahdB a b = false) (h2 : ahdB b a = false) : a = b := by
  obtain ⟨x, y⟩ := a
  obtain ⟨z, u⟩ := b
  simp only [ahdB, Bool.or_eq_false_iff, Bool.and_eq_false_iff, decide_eq_false_iff_not] at *
  rw [Prod.mk.injEq]
  omega
/-- A map that may be rises. -/
theorem may_rise : ∀ {o : Option KeyV} {l : List PlaV}, mayP o l = true → (∀ p ∈ l, okB p = true) ∧ (∀ k, o = some k → ∀ p ∈ l, ahdB k p.1 = true) ∧ l.Pairwise (fun a b => ahdB a.1 b.1 = true)
  | o, [], _ => ⟨fun p h => absurd h (by simp), fun k _ p h => absurd h (by simp), List.Pairwise.nil⟩
  | o, p :: r, h => by
    simp only [mayP, Bool.and_eq_true] at h
    obtain ⟨⟨h1, h2⟩, h3⟩ := h
    obtain ⟨r1, r2, r3⟩ := may_rise h3
    refine ⟨fun q hq => ?_, fun k hk q hq => ?_, ?_⟩
    · rcases List.mem_cons.1 hq with rfl | hq
      · exact h1
      · exact r1 q hq
    · subst hk
      rcases List.mem_cons.1 hq with rfl | hq
      · exact h2
      · exact ahd_trans h2 (r2 _ rfl q hq)
    · exact List.pairwise_cons.2 ⟨fun q hq => r2 _ rfl q hq, r3⟩
theorem may_of : ∀ {o : Option KeyV} {l : List PlaV}, (∀ p ∈ l, okB p = true) → (∀ k, o = some k → ∀ p ∈ l, ahdB k p.1 = true) → l.Pairwise (fun a b => ahdB a.1 b.1 = true) → mayP o l = true
  | o, [], _, _, _ => rfl
  | o, p :: r, h1, h2, h3 => by
    rw [List.pairwise_cons] at h3
    simp only [mayP, Bool.and_eq_true]
    refine ⟨⟨h1 p (by simp), ?_⟩, may_of (fun q hq => h1 q (by simp [hq])) (fun k hk q hq => ?_) h3.2⟩
    · cases o with
      | none => rfl
      | some k => exact h2 k rfl p (by simp)
    · rw [Option.some.injEq] at hk
      subst hk
      exact h3.1 q hq
theorem mayB_iff (l : List PlaV) : mayB l = true ↔ (∀ p ∈ l, okB p = true) ∧ l.Pairwise (fun a b => ahdB a.1 b.1 = true) :=
  ⟨fun h => ⟨(may_rise h).1, (may_rise h).2.2⟩, fun h => may_of h.1 (fun k hk => by cases hk) h.2⟩
theorem sek_le (l : List PlaV) (k : KeyV) : sekN l k ≤ l.length := List.Sublist.length_le (List.takeWhile_sublist _)
/-- Behind where it stands none is ahead of it. -/
theorem sek_at : ∀ {l : List PlaV}, l.Pairwise (fun a b => ahdB a.1 b.1 = true) → ∀ (k : KeyV) (i : Nat) (h : i < l.length), (!ahdB l[i].1 k) = decide (sekN l k ≤ i)
  | [], _, _, i, h => absurd h (by simp)
  | p :: r, hp, k, i, h => by
    rw [List.pairwise_cons] at hp
    unfold sekN
    rw [List.takeWhile_cons]
    cases hq : ahdB p.1 k
    · simp only [Bool.false_eq_true, if_false, List.length_nil, Nat.zero_le, decide_true]
      cases i with
      | zero => simp [hq]
      | succ j =>
        simp only [List.getElem_cons_succ]
        cases hx : ahdB (r[j]'(by simpa using h)).1 k
        · rfl
        · have := ahd_trans (hp.1 _ (List.getElem_mem _)) hx
          rw [hq] at this
          cases this
    · simp only [if_true, List.length_cons]
      cases i with
      | zero => simp [hq]
      | succ j =>
        have := sek_at hp.2 k j (by simpa using h)
        simp only [List.getElem_cons_succ, this]
        rw [decide_eq_decide]
        simp [sekN]
set_option maxHeartbeats 4000000 in
set_option maxRecDepth 100000 in
theorem seek1_is (v : Value) (l : List PlaV) (k n : Int) (i P Q : Nat) (w : World) (h : Plas w v l) (hi : i < l.length) (hp : w.cell? ⟨P, 0, none⟩ = some v) (hk0 : w.cell? ⟨Q, 0, none⟩ = some (.int .i64 k)) (hk1 : w.cell? ⟨Q, 1, none⟩ = some (.int .i64 n)) :
    Calls Try.prog 28 #[.int .i64 i, .pointer (some ⟨P, 0, none⟩), .pointer (some ⟨Q, 0, none⟩)] w fun e w' => e = .returned (.bool (!ahdB l[i].1 (k, n))) ∧ Below w.heap.size w w' := by
  obtain ⟨a, c, rfl, h8, hr⟩ := h.plas
  obtain ⟨b, off, rfl, hbl, c0, c1, -⟩ := hr i hi
  have hltI : (i : Int) < (l.length : Int) := by omega
  have ht0 : (0 : Int) ≤ (i : Int) := by omega
  clear hr h
  generalize l[i] = en at *
  obtain ⟨⟨x, y⟩, eg⟩ := en
  dsimp only at c0 c1
  have HC := hideIt (fun W => isAhead_is x y k n W)
  have hPb : P < w.heap.size := World.block_lt_of_cell? _ _ hp
  have hQb : Q < w.heap.size := World.block_lt_of_cell? _ _ hk0
  have HS : Hid (∀ w2, Below w.heap.size w w2 → w2.cell? ⟨b, off + i * 4, none⟩ = some (.int .i64 x) ∧ w2.cell? ⟨b, off + i * 4 + 1, none⟩ = some (.int .i64 y) ∧ w2.cell? ⟨Q, 0, none⟩ = some (.int .i64 k) ∧ w2.cell? ⟨Q, 1, none⟩ = some (.int .i64 n) ∧ w2.cell? ⟨P, 0, none⟩ = some (.slice (some ⟨b, off, none⟩) l.length c)) := fun w2 hb =>
    ⟨(hb.cell (p := ⟨b, off + i * 4, none⟩) hbl).trans c0, (hb.cell (p := ⟨b, off + i * 4 + 1, none⟩) hbl).trans c1, (hb.cell (p := ⟨Q, 0, none⟩) hQb).trans hk0, (hb.cell (p := ⟨Q, 1, none⟩) hQb).trans hk1, (hb.cell (p := ⟨P, 0, none⟩) hPb).trans hp⟩
  go_enter Try.func28, Try.ntmps28
  go_upto_region 1 with fail
  go_region_held3 (fun W => W.cell? ⟨b, off + i * 4, none⟩ = some (.int .i64 x) ∧ W.cell? ⟨b, off + i * 4 + 1, none⟩ = some (.int .i64 y) ∧ W.cell? ⟨Q, 0, none⟩ = some (.int .i64 k) ∧ W.cell? ⟨Q, 1, none⟩ = some (.int .i64 n) ∧ W.cell? ⟨P, 0, none⟩ = some (.slice (some ⟨b, off, none⟩) l.length c)) (go_keep) (first | (go_at_call 26; refine (HC.out _).mono ?_; clear HC; rintro e w2 ⟨rfl, hb⟩; have HB4 : Hid (Below w.heap.size w w2) := (by first | exact hb | exact below_via (Below.refl _ w).drew hb); obtain ⟨j0, j1, j2, j3, j4⟩ := HS.out w2 HB4.out; clear hb))
  go_wp2
  go_ret
  exact ⟨rfl, HB4.out⟩
set_option maxHeartbeats 4000000 in
set_option maxRecDepth 100000 in
theorem seek_is (v : Value) (l : List PlaV) (k n : Int) (w : World) (h : Plas w v l) (hm : mayB l = true) : Calls Try.prog 19 #[v, .agg #[.int .i64 k, .int .i64 n]] w fun e w' => e = .returned (.tuple #[.int .i64 (sekN l (k, n)), .bool (knoB l (k, n))]) ∧ Below w.heap.size w w' := by
  have eg : ∀ args w, (callFunc 28 args).run Try.prog w = .ok (.enter 28 args) w := enters_of Try.func28 (by kernel_rfl) rfl
  have hh := two_heap w (.cells #[v] 22) (.cells #[.int .i64 k, .int .i64 n] 24)
  have hb0 := below2 w (.cells #[v] 22) (.cells #[.int .i64 k, .int .i64 n] 24)
  have hle := sek_le l (k, n)
  have hs := h.1
  have HS := hideIt (search_is l.length (sekN l (k, n)) #[.pointer (some ⟨w.heap.size, 0, none⟩), .pointer (some ⟨w.heap.size + 1, 0, none⟩)] ((w.alloc (.cells #[v] 22)).alloc (.cells #[.int .i64 k, .int .i64 n] 24)) eg (by omega) hle (fun W i hW hi => by
    have g0 := (hW.block w.heap.size (by rw [hh.2.2]; omega)).trans hh.1
    have g1 := (hW.block (w.heap.size + 1) (by rw [hh.2.2]; omega)).trans hh.2.1
    have := seek1_is v l k n i w.heap.size (w.heap.size + 1) W (h.keep (below_via hb0 hW)) hi (by rw [cell_at g0]; rfl) (by rw [cell_at g1]; rfl) (by rw [cell_at g1]; rfl)
    rw [sek_at ((mayB_iff l).1 hm).2 (k, n) i hi] at this
    exact this))
  have HB0 := hideIt hb0
  have HH := hideIt hh
  have HP := hideIt h
  have HKN : Hid (knoB l (k, n) = match l[sekN l (k, n)]? with | some p => p.1 == (k, n) | none => false) := rfl
  obtain ⟨a, c, rfl, h8, hr⟩ := h.plas
  have HL := hideIt hr
  clear hr h hb0 hh hm
  generalize sekN l (k, n) = N at *
  have hN0 : (0 : Int) ≤ (N : Int) := by omega
  go_enter Try.func19, Try.ntmps19
  go_wp2_with (go_at_call 27; refine HS.out.mono ?_; rintro e w1 ⟨rfl, hb⟩)
  have HB1 := hideIt (below_via HB0.out hb)
  have g0 := (hb.block w.heap.size (by rw [HH.out.2.2]; omega)).trans HH.out.1
  have g1 := (hb.block (w.heap.size + 1) (by rw [HH.out.2.2]; omega)).trans HH.out.2.1
  have d0 : w1.cell? ⟨w.heap.size, 0, none⟩ = some (.slice a l.length c) := by rw [cell_at g0]; rfl
  have e0 : w1.cell? ⟨w.heap.size + 1, 0, none⟩ = some (.int .i64 k) := by rw [cell_at g1]; rfl
  have e1 : w1.cell? ⟨w.heap.size + 1, 1, none⟩ = some (.int .i64 n) := by rw [cell_at g1]; rfl
  clear hb g0 g1 HH HB0 HS HP
  by_cases hlt : N < l.length
  · have hltI : (N : Int) < (l.length : Int) := by omega
    have hd : decide ((N : Int) < (l.length : Int)) = true := decide_eq_true hltI
    have hd2 : decide (N < l.length) = true := decide_eq_true hlt
    obtain ⟨b, off, rfl, hbl, q0, q1, -⟩ := HL.out N hlt
    have c0 := (HB1.out.cell (p := ⟨b, off + N * 4, none⟩) hbl).trans q0
    have c1 := (HB1.out.cell (p := ⟨b, off + N * 4 + 1, none⟩) hbl).trans q1
    have HK2 := hideIt HKN.out
    rw [List.getElem?_eq_getElem hlt] at HK2
    dsimp only at HK2
    clear q0 q1 HL HKN
    generalize l[N] = en at *
    obtain ⟨⟨x, y⟩, eg⟩ := en
    dsimp only at c0 c1 HK2
    have q1 : ∀ W, (binOp .eql 24 (.agg #[.int .i64 x, .int .i64 y]) (.agg #[.int .i64 k, .int .i64 n])).run Try.prog W = .ok (.bool ((x, y) == (k, n))) W := fun W => eq24 x y k n W
    go_quiet (fail)
    go_wp2
    go_ret2
    exact ⟨by rw [HK2.out]; rfl, below_drewN HB1.out _⟩
  · have hd : decide ((N : Int) < (l.length : Int)) = false := decide_eq_false (by omega)
    have hd2 : decide (N < l.length) = false := decide_eq_false hlt
    have HK2 := hideIt HKN.out
    rw [List.getElem?_eq_none (by omega)] at HK2
    clear HL HKN
    go_quiet (fail)
    go_wp2
    go_ret2
    exact ⟨by rw [HK2.out]; rfl, below_drewN HB1.out _⟩
end Go.Proofs.Ytfcbjdfelahfkaa
