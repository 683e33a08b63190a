/- Copies of sessions. -/
import Derived.Test.YtilinemcmgjiiaaDoorCpy
namespace Go.Proofs.YtilinemcmgjiiaaDoor
open Go.RowKit
set_option linter.all false
theorem set1 {w : World} {p j : Nat} {cs cs' : Array Value} {t : TypeId} {v : Value} (h : w.heap[p]? = some (.cells cs t (0, 0))) (hc : cs.setIfInBounds j v = cs') : (w.setCell ⟨p, j, none⟩ v).heap[p]? = some (.cells cs' t (0, 0)) := by
  rw [← hc]
  exact heap_set h j v
theorem put7 (wc : World) (b : Nat) (ty : TypeId) (v0 v1 v2 v3 v4 v5 v6 : Value) {z0 z1 z2 z3 z4 z5 z6 : Value} (h : wc.heap[b]? = some (.cells #[z0, z1, z2, z3, z4, z5, z6] ty (0, 0))) :
    (((((((wc.setCell ⟨b, 0, none⟩ v0).setCell ⟨b, 1, none⟩ v1).setCell ⟨b, 2, none⟩ v2).setCell ⟨b, 3, none⟩ v3).setCell ⟨b, 4, none⟩ v4).setCell ⟨b, 5, none⟩ v5).setCell ⟨b, 6, none⟩ v6).heap[b]? = some (.cells #[v0, v1, v2, v3, v4, v5, v6] ty (0, 0)) := by
  refine set1 (cs := #[v0, v1, v2, v3, v4, v5, z6]) (set1 (cs := #[v0, v1, v2, v3, v4, z5, z6]) (set1 (cs := #[v0, v1, v2, v3, z4, z5, z6]) (set1 (cs := #[v0, v1, v2, z3, z4, z5, z6]) (set1 (cs := #[v0, v1, z2, z3, z4, z5, z6]) (set1 (cs := #[v0, z1, z2, z3, z4, z5, z6]) (set1 h rfl) rfl) rfl) rfl) rfl) rfl) rfl
theorem own_put7 {w : World} {B D : Nat} {e t : TypeId} {z n : Nat} {v z0 z1 z2 z3 z4 z5 z6 : Value} {xs : List Value} (u0 u1 u2 u3 u4 u5 u6 : Value) (ho : w.ownsRow B e z v n xs) (hd : w.heap[D]? = some (.cells #[z0, z1, z2, z3, z4, z5, z6] t (0, 0))) (hne : e ≠ t) :
    (((((((w.setCell ⟨D, 0, none⟩ u0).setCell ⟨D, 1, none⟩ u1).setCell ⟨D, 2, none⟩ u2).setCell ⟨D, 3, none⟩ u3).setCell ⟨D, 4, none⟩ u4).setCell ⟨D, 5, none⟩ u5).setCell ⟨D, 6, none⟩ u6).ownsRow B e z v n xs := by
  have h0 := heap_set hd 0 u0
  have h1 := heap_set h0 1 u1
  have h2 := heap_set h1 2 u2
  have h3 := heap_set h2 3 u3
  have h4 := heap_set h3 4 u4
  have h5 := heap_set h4 5 u5
  exact own_cell (own_cell (own_cell (own_cell (own_cell (own_cell (own_cell ho hd hne) h0 hne) h1 hne) h2 hne) h3 hne) h4 hne) h5 hne
theorem seven_at {w : World} {p : Nat} {z0 z1 z2 z3 z4 z5 z6 : Value} {t : TypeId} (h : w.heap[p]? = some (.cells #[z0, z1, z2, z3, z4, z5, z6] t (0, 0))) : (w.cell? ⟨p, 0, none⟩ = some z0 ∧ w.cell? ⟨p, 1, none⟩ = some z1 ∧ w.cell? ⟨p, 2, none⟩ = some z2 ∧ w.cell? ⟨p, 3, none⟩ = some z3 ∧ w.cell? ⟨p, 4, none⟩ = some z4 ∧ w.cell? ⟨p, 5, none⟩ = some z5 ∧ w.cell? ⟨p, 6, none⟩ = some z6) ∧ (w.frozen? ⟨p, 0, none⟩ = false ∧ w.frozen? ⟨p, 1, none⟩ = false ∧ w.frozen? ⟨p, 2, none⟩ = false ∧ w.frozen? ⟨p, 3, none⟩ = false ∧ w.frozen? ⟨p, 4, none⟩ = false ∧ w.frozen? ⟨p, 5, none⟩ = false ∧ w.frozen? ⟨p, 6, none⟩ = false) ∧ p < w.heap.size :=
  ⟨⟨by rw [cell_at h]; rfl, by rw [cell_at h]; rfl, by rw [cell_at h]; rfl, by rw [cell_at h]; rfl, by rw [cell_at h]; rfl, by rw [cell_at h]; rfl, by rw [cell_at h]; rfl⟩, ⟨free_at h 0, free_at h 1, free_at h 2, free_at h 3, free_at h 4, free_at h 5, free_at h 6⟩, (Array.getElem?_eq_some_iff.1 h).1⟩
/-- A session of the call's own comes back. -/
def SesBack (v : SesV) (w : World) (e : Ending) (w' : World) : Prop := ∃ y : SesX, e = .returned (.agg (sesE y).toArray) ∧ y.v = v ∧ AnsOwn w.heap.size w' y.x ∧ Below w.heap.size w w'
def sesZ : Array Value := #[.int .i64 0, .int .i64 0, .bool false, .int .i64 0, .int .i64 0, .slice none 0 0, .slice none 0 0]
set_option maxHeartbeats 4000000 in
set_option maxRecDepth 100000 in
theorem anew_is (s : SesX) (w : World) (h : AnsAt w s.x) : Calls Tryd.prog 67 #[.agg (sesE s).toArray] w (SesBack s.v w) := by
  have HA := hideIt (fun W (hW : Below w.heap.size w W) => answer_is _ W (h.keep hW))
  clear h
  obtain ⟨c, q, d, ⟨⟨code, num, am, fl⟩, aa, ac, fa, fc⟩⟩ := s
  simp only [sesE, AnsX.cs, AnsX.am, AnsX.fl, SesX.v] at *
  have X0 := hideIt (two_heap w (.cells #[.int .i64 c, .int .i64 q, .bool d, .int .i64 code, .int .i64 num, .slice aa am.length ac, .slice fa fl.length fc] 133) (.cells #[.int .i64 0, .int .i64 0, .bool false, .int .i64 0, .int .i64 0, .slice none 0 0, .slice none 0 0] 133))
  have B0 := hideIt (below2 w (.cells #[.int .i64 c, .int .i64 q, .bool d, .int .i64 code, .int .i64 num, .slice aa am.length ac, .slice fa fl.length fc] 133) (.cells #[.int .i64 0, .int .i64 0, .bool false, .int .i64 0, .int .i64 0, .slice none 0 0, .slice none 0 0] 133))
  have HA2 : Hid (∀ W, Below w.heap.size w W → Calls Tryd.prog 57 #[.agg #[.int .i64 code, .int .i64 num, .slice aa am.length ac, .slice fa fl.length fc]] W fun e w' => ∃ a1 c1 a2 c2, e = .returned (.agg #[.int .i64 code, .int .i64 num, .slice a1 am.length c1, .slice a2 fl.length c2]) ∧ Hid (AnsOwn W.heap.size w' ⟨⟨code, num, am, fl⟩, a1, c1, a2, c2⟩ ∧ Below W.heap.size W w')) := by
    intro W hW
    refine (HA.out W hW).mono ?_
    rintro e w' ⟨⟨v, a1, c1, a2, c2⟩, rfl, rfl, ho, hb⟩
    exact ⟨a1, c1, a2, c2, rfl, ho, hb⟩
  clear HA
  obtain ⟨n, hn⟩ : ∃ n, n = am.length := ⟨_, rfl⟩
  obtain ⟨m, hm⟩ : ∃ m, m = fl.length := ⟨_, rfl⟩
  rw [← hn] at HA2 X0 B0 ⊢
  rw [← hm] at HA2 X0 B0 ⊢
  have HN := hideIt (And.intro hn hm)
  clear hn hm
  go_enter Tryd.func67, Tryd.ntmps67
  go_wp2_with fail
  refine (HA2.out _ B0.out).mono ?_
  rintro e w1 ⟨a1, c1, a2, c2, rfl, ho⟩
  dsimp only
  have hz := X0.out.2.2
  have p0 := (ho.out.2.block w.heap.size (by omega)).trans X0.out.1
  have p1 := (ho.out.2.block (w.heap.size + 1) (by omega)).trans X0.out.2.1
  have s3 := set1 (j := 3) (v := .int .i64 code) (cs' := #[.int .i64 c, .int .i64 q, .bool d, .int .i64 code, .int .i64 num, .slice aa n ac, .slice fa m fc]) p0 rfl
  have s4 := set1 (j := 4) (v := .int .i64 num) (cs' := #[.int .i64 c, .int .i64 q, .bool d, .int .i64 code, .int .i64 num, .slice aa n ac, .slice fa m fc]) s3 rfl
  have s5 := set1 (j := 5) (v := .slice a1 n c1) (cs' := #[.int .i64 c, .int .i64 q, .bool d, .int .i64 code, .int .i64 num, .slice a1 n c1, .slice fa m fc]) s4 rfl
  have q1 := setOther (b := w.heap.size) (j := 6) (.slice a2 m c2) (setOther (b := w.heap.size) (j := 5) (.slice a1 n c1) (setOther (b := w.heap.size) (j := 4) (.int .i64 num) (setOther (b := w.heap.size) (j := 3) (.int .i64 code) p1 (by omega)) (by omega)) (by omega)) (by omega)
  have KB := hideIt (belowSet (j := 6) (.slice a2 m c2) (belowSet (j := 5) (.slice a1 n c1) (belowSet (j := 4) (.int .i64 num) (belowSet (j := 3) (.int .i64 code) (below_via B0.out ho.out.2) (Nat.le_refl _)) (Nat.le_refl _)) (Nat.le_refl _)) (Nat.le_refl _))
  have KO := hideIt (((((ho.out.1.base (B' := w.heap.size) (by omega)).set (j := 3) (u := .int .i64 code) p0 (by decide) (by decide)).set (j := 4) (u := .int .i64 num) s3 (by decide) (by decide)).set (j := 5) (u := .slice a1 n c1) s4 (by decide) (by decide)).set (j := 6) (u := .slice a2 m c2) s5 (by decide) (by decide))
  have K2 := hideIt (put7 _ (w.heap.size + 1) 133 (.int .i64 c) (.int .i64 q) (.bool d) (.int .i64 code) (.int .i64 num) (.slice a1 n c1) (.slice a2 m c2) q1)
  have KQ := hideIt q1
  obtain ⟨⟨g0, g1, g2, g3, g4, g5, g6⟩, ⟨-, -, -, f3, f4, f5, f6⟩, kz⟩ := seven_at p0
  obtain ⟨⟨z0, z1, z2, z3, z4, z5, z6⟩, ⟨y0, y1, y2, y3, y4, y5, y6⟩, yz⟩ := seven_at p1
  have nP : w.heap.size + 1 ≠ w.heap.size := by omega
  clear hz p0 p1 s3 s4 s5 q1 ho X0 B0 HA2
  go_wp2
  have k7 := seven_at K2.out
  obtain ⟨hn, hm⟩ := HN.out
  refine bodyPost_ret (v := .agg #[.int .i64 c, .int .i64 q, .bool d, .int .i64 code, .int .i64 num, .slice a1 n c1, .slice a2 m c2]) (by simp [results, Tryd.results67, go_sem, k7.1.1, k7.1.2.1, k7.1.2.2.1, k7.1.2.2.2.1, k7.1.2.2.2.2.1, k7.1.2.2.2.2.2.1, k7.1.2.2.2.2.2.2]) rfl
    ⟨⟨c, q, d, ⟨⟨code, num, am, fl⟩, a1, c1, a2, c2⟩⟩, by simp only [sesE, AnsX.am, AnsX.fl, hn, hm], rfl, ⟨own_put7 _ _ _ _ _ _ _ KO.out.a KQ.out (by decide), own_put7 _ _ _ _ _ _ _ KO.out.f KQ.out (by decide), KO.out.sa, KO.out.sf⟩, belowSet _ (belowSet _ (belowSet _ (belowSet _ (belowSet _ (belowSet _ (belowSet _ KB.out (by omega)) (by omega)) (by omega)) (by omega)) (by omega)) (by omega)) (by omega)⟩
end Go.Proofs.YtilinemcmgjiiaaDoor
