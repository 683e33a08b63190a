/- SessionKeys, walked. -/
import Derived.Test.YtgdgpcheammbpaaDoorKey
import Derived.Test.YtgdgpcheammbpaaDoorLiv
namespace Go.Proofs.YtgdgpcheammbpaaDoor
open Go.RowKit
set_option linter.all false
theorem keysB_len (r : ReqV) : (keysB r).length ≤ 4 ∧ fitsB r = decide (0 < (keysB r).length) := by
  unfold keysB
  cases hf : fitsB r
  · rw [if_neg (by simp)]
    exact ⟨by simp, by simp⟩
  · rw [if_pos rfl]
    unfold keyT
    split
    · exact ⟨by simp, by simp⟩
    · split
      · exact ⟨by simp, by simp⟩
      · split
        · exact ⟨by simp, by simp⟩
        · split
          · exact ⟨by simp, by simp⟩
          · exact ⟨by simp, by simp⟩
theorem keyT_apart (tk : Int) (r : ReqV) : (keyT tk r).Pairwise (fun a b => a ≠ b) := by
  unfold keyT
  split
  · simp
  · split
    · simp
    · split
      · simp
      · split
        · simp
        · simp
theorem keys_apart (r : ReqV) (i k : Nat) (hi : i < (keysB r).length) (hk : k < i) : ((keysB r)[k] == (keysB r)[i]) = false := by
  have hp : (keysB r).Pairwise (fun a b => a ≠ b) := by
    unfold keysB
    split
    · exact keyT_apart _ _
    · simp
  have := (List.pairwise_iff_getElem.1 hp) k i (by omega) hi hk
  simpa using this
theorem SGot.keys {w : World} {v : Value} {l : List KeyV} (h : SGot 2 16 keyE w v l) : ∃ a c, v = .slice a l.length c ∧ l.length * 16 ≤ 140737488355328 ∧ ∀ i (h : i < l.length), ∃ b off, a = some ⟨b, off, none⟩ ∧ b < w.heap.size ∧ w.cell? ⟨b, off + i * 2, none⟩ = some (.int .i64 (l[i]).1) ∧ w.cell? ⟨b, off + i * 2 + 1, none⟩ = some (.int .i64 (l[i]).2) := by
  obtain ⟨h8, a, c, rfl, _, hr⟩ := h
  refine ⟨a, c, rfl, h8, fun i hi => ?_⟩
  obtain ⟨b, off, rfl, hlt, hc⟩ := hr (by omega)
  have g := celC_get keyK l i hi
  exact ⟨b, off, rfl, hlt, (hc (i * 2) (by omega)).trans (g 0 (by omega)), (hc (i * 2 + 1) (by omega)).trans (g 1 (by omega))⟩
theorem req_all {w : World} {p : Nat} {k a l s d pr n kk kn t : Int} {o : Bool} (h : w.heap[p]? = some (.cells #[.int .i64 k, .int .i64 a, .int .i64 l, .int .i64 s, .int .i64 d, .int .i64 pr, .int .i64 n, .bool o, .int .i64 kk, .int .i64 kn, .int .i64 t] 25 (0, 0))) : w.cell? ⟨p, 0, none⟩ = some (.int .i64 k) ∧ w.cell? ⟨p, 1, none⟩ = some (.int .i64 a) ∧ w.cell? ⟨p, 2, none⟩ = some (.int .i64 l) ∧ w.cell? ⟨p, 3, none⟩ = some (.int .i64 s) ∧ w.cell? ⟨p, 4, none⟩ = some (.int .i64 d) ∧ w.cell? ⟨p, 5, none⟩ = some (.int .i64 pr) ∧ w.cell? ⟨p, 6, none⟩ = some (.int .i64 n) ∧ w.cell? ⟨p, 7, none⟩ = some (.bool o) ∧ w.cell? ⟨p, 8, none⟩ = some (.int .i64 kk) ∧ w.cell? ⟨p, 9, none⟩ = some (.int .i64 kn) ∧ w.cell? ⟨p, 10, none⟩ = some (.int .i64 t) :=
  ⟨by rw [cell_at h]; rfl, by rw [cell_at h]; rfl, by rw [cell_at h]; rfl, by rw [cell_at h]; rfl, by rw [cell_at h]; rfl, by rw [cell_at h]; rfl, by rw [cell_at h]; rfl, by rw [cell_at h]; rfl, by rw [cell_at h]; rfl, by rw [cell_at h]; rfl, by rw [cell_at h]; rfl⟩
theorem eqFalse {a b : KeyV} (h : (a == b) = false) (W : World) : (binOp .eql 23 (.agg #[.int .i64 a.1, .int .i64 a.2]) (.agg #[.int .i64 b.1, .int .i64 b.2])).run Tryd.prog W = .ok (.bool false) W := by
  rw [eq26]
  have : ((a.1, a.2) == (b.1, b.2)) = false := h
  rw [this]
set_option maxHeartbeats 8000000 in
set_option maxRecDepth 100000 in
theorem keys_walk (r : ReqV) (w : World) (hF : Forms w) : Calls Tryd.prog 3 #[.agg (reqC r)] w fun e w' => e = .returned (.bool true) ∧ Below w.heap.size w w' := by
  have H1 := hideIt (fun W (hW : Below w.heap.size w W) => keys_is r W (hF.keep hW))
  have H2 := hideIt (fun W (hW : Below w.heap.size w W) => fits_is r W (hF.keep hW))
  have H3 := hideIt (fun W (hW : Below w.heap.size w W) => live_is W (hF.keep hW))
  have X0 := hideIt (And.intro (heap_alloc_new w (.cells (reqC r) 25)) (below1 w (.cells (reqC r) 25)))
  obtain ⟨ks, hks⟩ : ∃ ks, ks = keysB r := ⟨_, rfl⟩
  have HAP : Hid (∀ i k (hi : i < ks.length) (hk : k < i), (ks[k] == ks[i]) = false) := by
    subst hks
    exact keys_apart r
  obtain ⟨hl4, hfit⟩ := keysB_len r
  rw [hfit] at H2
  rw [← hks] at H1 H2 hl4
  clear hF hfit hks
  obtain ⟨k, a, l, s, d, p, n, o, ⟨kk, kn⟩, t⟩ := r
  simp only [reqC] at *
  go_enter Tryd.func3, Tryd.ntmps3
  go_wp2_with fail
  refine (H1.out _ X0.out.2).mono ?_
  rintro e w1 ⟨ka, kc, rfl, hk, hb⟩
  dsimp only
  have HX := hideIt ((hb.block _ (Array.getElem?_eq_some_iff.1 X0.out.1).1).trans X0.out.1)
  have HB := hideIt (below_via X0.out.2 hb)
  have hg := own_sgot (bytes := 16) hk (by omega)
  obtain ⟨a0, c0, e0, h8, hr⟩ := hg.keys
  simp only [Value.slice.injEq] at e0
  obtain ⟨rfl, -, rfl⟩ := e0
  have HH := hideIt hr
  clear hr hg hk hb X0 H1
  go_wp2
  go_loopw [4] (fun x wr => ∃ i : Nat, x = .int .i64 i ∧ i ≤ ks.length ∧ Hid (Below w1.heap.size w1 wr)) (fun x _ => ks.length - (intOf x).toNat)
  case atStart => exact ⟨0, rfl, Nat.zero_le _, Below.refl _ _⟩
  case round =>
    obtain ⟨i, rfl, hi, HW⟩ := hrel
    by_cases hlt : i < ks.length
    · have hltI : (i : Int) < (ks.length : Int) := by omega
      have hi0 : (0 : Int) ≤ (i : Int) := by omega
      obtain ⟨b, off, rfl, hbl, q0, q1⟩ := HH.out i hlt
      have HH2 := hideIt (fun k (hk : k < ks.length) => HH.out k hk)
      clear HH
      go_wp2
      go_loopw [5] (fun x wr => ∃ k : Nat, x = .int .i64 k ∧ k ≤ i ∧ Hid (Below w1.heap.size w1 wr)) (fun x _ => i - (intOf x).toNat)
      case atStart => exact ⟨0, rfl, Nat.zero_le _, HW⟩
      case round =>
        clear HW
        obtain ⟨k', rfl, hk', HW⟩ := hrel
        by_cases hkt : k' < i
        · have hktI : (k' : Int) < (i : Int) := by omega
          have hk0 : (0 : Int) ≤ (k' : Int) := by omega
          have hkl : (k' : Int) < (ks.length : Int) := by omega
          obtain ⟨b2, off2, e2, hbl2, p0, p1⟩ := HH2.out k' (by omega)
          simp only [Option.some.injEq, Addr.mk.injEq] at e2
          obtain ⟨rfl, rfl, -⟩ := e2
          have hq := HAP.out i k' hlt hkt
          have hqf := eqFalse hq
          have i0 := (HW.out.cell (p := ⟨b, off + i * 2, none⟩) hbl).trans q0
          have i1 := (HW.out.cell (p := ⟨b, off + i * 2 + 1, none⟩) hbl).trans q1
          have j0 := (HW.out.cell (p := ⟨b, off + k' * 2, none⟩) hbl).trans p0
          have j1 := (HW.out.cell (p := ⟨b, off + k' * 2 + 1, none⟩) hbl).trans p1
          have hblr : b < wr.heap.size := Nat.lt_of_lt_of_le hbl HW.out.size
          have HQ0 := hideIt (And.intro q0 q1)
          clear hq p0 p1 q0 q1
          generalize ks[k'] = x1 at *
          generalize ks[i] = x2 at *
          go_upto_region 8 with fail
          go_quiet (fail)
          have HW2 := hideIt (below_drewN HW.out nq)
          clear i0 i1 j0 j1 hblr HW
          generalize wr.drewN nq = wx at *
          go_wp2
          go_roundw
          case rel => exact ⟨k' + 1, by go_num, by omega, HW2⟩
          case measure => simp [intOf]; omega
        · have hktI : ¬ (k' : Int) < (i : Int) := by omega
          go_wp2
          go_roundw
          case rel => exact ⟨i + 1, by go_num, by omega, HW⟩
          case measure => simp [intOf]; omega
    · have hltI : ¬ (i : Int) < (ks.length : Int) := by omega
      have HX2 := hideIt ((HW.out.block _ (Array.getElem?_eq_some_iff.1 HX.out).1).trans HX.out)
      have HB2 := hideIt (below_via HB.out HW.out)
      obtain ⟨r0, r1, r2, r3, r4, r5, r6, r7, r8, r9, r10⟩ := req_all HX2.out
      clear HX HB HW HH HAP
      generalize ks.length = N at *
      have hl4I : (N : Int) ≤ 4 := by omega
      by_cases hz : 0 < N
      · have hzI : (0 : Int) < (N : Int) := by omega
        rw [decide_eq_true hz] at H2
        go_wp2_with fail
        refine (H2.out _ HB2.out).mono ?_
        rintro e w3 ⟨rfl, hb⟩
        dsimp only
        have HB3 := hideIt (below_via HB2.out hb)
        clear hb H2 HB2 hz
        go_wp2_with fail
        refine (H3.out _ HB3.out).mono ?_
        rintro e w4 ⟨rfl, hb⟩
        dsimp only
        have HB4 := hideIt (below_via HB3.out hb)
        clear hb H3 HB3
        go_wp2
        go_ret
        exact ⟨rfl, HB4.out⟩
      · have hz0 : N = 0 := by omega
        rw [decide_eq_false hz] at H2
        subst hz0
        go_wp2_with fail
        refine (H2.out _ HB2.out).mono ?_
        rintro e w3 ⟨rfl, hb⟩
        dsimp only
        have HB3 := hideIt (below_via HB2.out hb)
        clear hb H2 HB2 hz
        go_wp2_with fail
        refine (H3.out _ HB3.out).mono ?_
        rintro e w4 ⟨rfl, hb⟩
        dsimp only
        have HB4 := hideIt (below_via HB3.out hb)
        clear hb H3 HB3
        go_wp2
        go_ret
        exact ⟨rfl, HB4.out⟩
end Go.Proofs.YtgdgpcheammbpaaDoor
