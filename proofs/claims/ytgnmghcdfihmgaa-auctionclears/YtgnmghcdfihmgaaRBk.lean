/- The document's back and Deal, walked. -/
import Derived.Test.YtgnmghcdfihmgaaDcP
import Derived.Test.YtgnmghcdfihmgaaROe
namespace Go.Proofs.Ytgnmghcdfihmgaa
open Go.RowKit
set_option linter.all false
theorem four5_at {w : World} {p : Nat} {t : TypeId} {a b c d : Value} (h : w.heap[p]? = some (.cells #[a, b, c, d] t (0, 0))) : (w.cell? ⟨p, 0, none⟩ = some a ∧ w.cell? ⟨p, 1, none⟩ = some b ∧ w.cell? ⟨p, 2, none⟩ = some c ∧ w.cell? ⟨p, 3, none⟩ = some d) ∧ (∀ j, w.frozen? ⟨p, j, none⟩ = false) ∧ p < w.heap.size :=
  ⟨⟨by rw [cell_at h]; rfl, by rw [cell_at h]; rfl, by rw [cell_at h]; rfl, by rw [cell_at h]; rfl⟩, fun j => free_at h j, (Array.getElem?_eq_some_iff.1 h).1⟩
/-- What is owed is in order, and not too much by far. -/
structure GO (c : Nat) (l : List OweV) : Prop where
  ok : OwOk l
  few : OkO c l
theorem GO.up {c d : Nat} {l : List OweV} (h : GO c l) (hd : c ≤ d) : GO d l := ⟨h.ok, ⟨by have := h.few.1; omega, fun y hy => by have := h.few.2 y hy; omega⟩⟩
theorem GO.owe {c : Nat} {l : List OweV} {acc asset n : Int} (h : GO c l) (ha : 1 ≤ acc ∧ acc ≤ 8) (hs : 0 ≤ asset ∧ asset ≤ 1) (hn : 0 ≤ n ∧ n ≤ 1000000000000) : GO (c + 1) (oweD acc asset n l).1 := by
  unfold oweD
  split
  · exact h.up (by omega)
  · exact ⟨owok_owe h.ok ha hs (by omega), okO_owe h.few hn⟩
theorem GO.len {c : Nat} {l : List OweV} (h : GO c l) (hc : c ≤ 900) : l.length ≤ 1000 ∧ ∀ y ∈ l, 0 ≤ y.n ∧ y.n ≤ 1152921504606846976 := ⟨by have := h.few.1; omega, fun y hy => by have := h.few.2 y hy; omega⟩
theorem gOwe_is {c : Nat} (v : Value) (l : List OweV) (acc asset n : Int) (w : World) (h : Owes w v l) (hg : GO c l) (hc : c ≤ 900) (hn : 1 ≤ n ∧ n ≤ 1000000000000) : Calls Try.prog 69 #[v, .int .i64 acc, .int .i64 asset, .int .i64 n] w (OweBack (oweD acc asset n l) w) :=
  rOwe_is v l acc asset n w h hg.ok.1 (hg.len hc).1 (hg.len hc).2 hn
theorem gOwr_is {c : Nat} (v : Value) (l : List OweV) (acc asset n : Int) (w : World) (h : Owes w v l) (hg : GO c l) (hc : c ≤ 900) (hn : 0 ≤ n ∧ n ≤ 1000000000000) : Calls Try.prog 69 #[v, .int .i64 acc, .int .i64 asset, .int .i64 n] w (OwrBack (oweD acc asset n l) w) :=
  rOwr_is v l acc asset n w h hg.ok.1 (hg.len hc).1 (hg.len hc).2 hn
structure FillOk (f : FillV) : Prop where
  b : 1 ≤ f.buyer ∧ f.buyer ≤ 8
  s : 1 ≤ f.seller ∧ f.seller ≤ 8
  p : 1 ≤ f.price ∧ f.price ≤ 1000000
  n : 1 ≤ f.n ∧ f.n ≤ 1000000
theorem GO.deal {c : Nat} {l : List OweV} {f : FillV} {better : Int} (h : GO c l) (hf : FillOk f) (hb : 0 ≤ better * f.n ∧ better * f.n ≤ 1000000000000) (hp : 1 ≤ f.price * f.n ∧ f.price * f.n ≤ 1000000000000) : GO (c + 3) (dealD f better l).1 := by
  have h1 := h.owe (asset := 1) (n := f.n) hf.b (by omega) (by have := hf.n; omega)
  have h2 := h1.owe (asset := 0) hf.b (by omega) hb
  exact h2.owe (asset := 0) hf.s (by omega) (by omega)
set_option maxHeartbeats 8000000 in
set_option maxRecDepth 100000 in
theorem rDeal_is {c : Nat} (v : Value) (l : List OweV) (f : FillV) (better : Int) (w : World) (h : Owes w v l) (hg : GO c l) (hc : c ≤ 800) (hf : FillOk f) (hbt : 0 ≤ better ∧ better ≤ 1000000) : Calls Try.prog 43 #[v, .agg (filE f).toArray, .int .i64 better] w (OweBack (dealD f better l) w) := by
  have m1 : 0 ≤ better * f.n ∧ better * f.n ≤ 1000000000000 := ⟨Int.mul_nonneg hbt.1 (by have := hf.n; omega), by
    have := Int.mul_le_mul hbt.2 hf.n.2 (by have := hf.n; omega) (by omega : (0 : Int) ≤ 1000000)
    omega⟩
  have m2 : 1 ≤ f.price * f.n ∧ f.price * f.n ≤ 1000000000000 := ⟨mul_pos1 hf.p.1 hf.n.1, by
    have := Int.mul_le_mul hf.p.2 hf.n.2 (by have := hf.n; omega) (by omega : (0 : Int) ≤ 1000000)
    omega⟩
  have g1 := hg.owe (asset := 1) (n := f.n) hf.b (by omega) (by have := hf.n; omega)
  have g2 := g1.owe (asset := 0) hf.b (by omega) m1
  have HB := hideIt (below1 w (.cells (filE f).toArray 41))
  have HK := hideIt (heap_alloc_new w (.cells (filE f).toArray 41))
  have H1 := hideIt (gOwr_is v l f.buyer 1 f.n _ (h.keep HB.out) hg (by omega) (by have := hf.n; omega))
  have H2 := hideIt (fun u W (hu : Owes W u (oweD f.buyer 1 f.n l).1) => gOwr_is u _ f.buyer 0 (better * f.n) W hu g1 (by omega) m1)
  have H3 := hideIt (fun u W (hu : Owes W u (oweD f.buyer 0 (better * f.n) (oweD f.buyer 1 f.n l).1).1) => gOwe_is u _ f.seller 0 (f.price * f.n) W hu g2 (by omega) m2)
  have HR : Hid (dealD f better l = ((oweD f.seller 0 (f.price * f.n) (oweD f.buyer 0 (better * f.n) (oweD f.buyer 1 f.n l).1).1).1, (oweD f.buyer 1 f.n l).2 && (oweD f.buyer 0 (better * f.n) (oweD f.buyer 1 f.n l).1).2 && (oweD f.seller 0 (f.price * f.n) (oweD f.buyer 0 (better * f.n) (oweD f.buyer 1 f.n l).1).1).2)) := by
    show _ = _
    rfl
  unfold OweBack at *
  unfold OwrBack at *
  obtain ⟨va, vc, rfl⟩ := h.slice
  generalize dealD f better l = RR at *
  generalize oweD f.seller 0 (f.price * f.n) (oweD f.buyer 0 (better * f.n) (oweD f.buyer 1 f.n l).1).1 = R3 at *
  generalize oweD f.buyer 0 (better * f.n) (oweD f.buyer 1 f.n l).1 = R2 at *
  generalize oweD f.buyer 1 f.n l = R1 at *
  clear h hg g1 g2 hf
  obtain ⟨fb, fs, fp, fn⟩ := f
  simp only [filE] at *
  (try dsimp only at m1)
  (try dsimp only at m2)
  have hw1 : IntKind.i64.wrap (better * fn) = better * fn := by rw [IntKind.wrap_i64]; omega
  have hw2 : IntKind.i64.wrap (fp * fn) = fp * fn := by rw [IntKind.wrap_i64]; omega
  obtain ⟨⟨k0, k1, k2, k3⟩, -, kz⟩ := four5_at HK.out
  obtain ⟨l1, b1⟩ := R1
  obtain ⟨l2, b2⟩ := R2
  obtain ⟨l3, b3⟩ := R3
  dsimp only at H1 H2 H3 HR
  go_enter Try.func43, Try.ntmps43
  go_wp2_with fail
  refine H1.out.mono ?_
  rintro e w1 ⟨a1, c1, rfl, ho1, hb1⟩
  dsimp only
  have HB1 := hideIt (below_via HB.out hb1)
  have HK1 := hideIt (blkK HK.out hb1)
  have HO1 := hideIt ho1
  clear ho1 hb1 H1 HK HB k0 k1 k2 k3 kz
  obtain ⟨⟨k0, k1, k2, k3⟩, -, kz⟩ := four5_at HK1.out
  go_wp2_with fail
  refine (H2.out _ _ HO1.out).mono ?_
  rintro e w2 ⟨a2, c2, rfl, ho2, hb2⟩
  dsimp only
  have HB2 := hideIt (below_via HB1.out hb2)
  have HK2 := hideIt (blkK HK1.out hb2)
  have HO2 := hideIt ho2
  clear ho2 hb2 H2 HK1 HB1 HO1 k0 k1 k2 k3 kz
  obtain ⟨⟨k0, k1, k2, k3⟩, -, kz⟩ := four5_at HK2.out
  go_wp2_with fail
  refine (H3.out _ _ HO2.out).mono ?_
  rintro e w3 ⟨a3, c3, rfl, ho3, hb3⟩
  dsimp only
  have HB3 := hideIt (below_via HB2.out hb3)
  have HO3 := hideIt (own_base ho3 HB2.out.size)
  clear ho3 hb3 H3 HK2 HB2 HO2 k0 k1 k2 k3 kz
  cases b1 <;> cases b2 <;> cases b3
  all_goals
    go_wp2
    go_ret2
    rw [HR.out]
    exact ⟨_, _, rfl, HO3.out, HB3.out⟩
end Go.Proofs.Ytgnmghcdfihmgaa
