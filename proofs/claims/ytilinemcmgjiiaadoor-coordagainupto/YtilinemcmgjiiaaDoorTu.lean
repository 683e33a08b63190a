/- Transactions turned in place. -/
import Derived.Test.YtilinemcmgjiiaaDoorBp
namespace Go.Proofs.YtilinemcmgjiiaaDoor
open Go.RowKit
set_option linter.all false
theorem own_apart {w w' : World} {B n z : Nat} {e : TypeId} {v : Value} {xs : List Value} {row : Option Nat} (h : w.grownBy w' row) (h2 : w.ownsRow B e z v n xs) (hne : ∀ k, v.ownBlock = some k → row ≠ some k) : w'.ownsRow B e z v n xs := by
  obtain ⟨h1, hn | ⟨g, cap, cur, rfl, hb, hg, rest⟩⟩ := h2
  · exact ⟨h1, .inl hn⟩
  · exact ⟨h1, .inr ⟨g, cap, cur, rfl, hb, (h.block g (Array.getElem?_eq_some_iff.1 hg).1 (fun e => hne g rfl e.symm)).trans hg, rest⟩⟩
theorem own_setOther {w : World} {B n z b j : Nat} {e : TypeId} {v u : Value} {xs : List Value} (h : w.ownsRow B e z v n xs) (hne : v.ownBlock ≠ some b) : (w.setCell ⟨b, j, none⟩ u).ownsRow B e z v n xs := by
  obtain ⟨h1, hn | ⟨g, cap, cur, rfl, hb, hg, rest⟩⟩ := h
  · exact ⟨h1, .inl hn⟩
  · exact ⟨h1, .inr ⟨g, cap, cur, rfl, hb, setOther _ hg (fun e => hne (by rw [← e]; rfl)), rest⟩⟩
theorem own_put {w : World} {B n z b c j m : Nat} {e : TypeId} {u : Value} {xs : List Value} (h : w.ownsRow B e z (.slice (some ⟨b, 0, none⟩) m c) n xs) : (w.setCell ⟨b, j, none⟩ u).ownsRow B e z (.slice (some ⟨b, 0, none⟩) m c) n (xs.set j u) := by
  obtain ⟨h1, ⟨h0, _⟩ | ⟨g, cap, cur, hv, hb, hg, h3, h4, h5, h6⟩⟩ := h
  · cases h0
  · have e0 := hv
    simp only [Value.slice.injEq, Option.some.injEq, Addr.mk.injEq] at hv
    obtain ⟨⟨rfl, -⟩, rfl, rfl⟩ := hv
    refine ⟨by rw [List.length_set]; exact h1, .inr ⟨b, c, cur.setIfInBounds j u, rfl, hb, heap_set hg j u, h3, h4, by rw [Array.size_setIfInBounds]; exact h5, ?_⟩⟩
    rw [Array.toList_setIfInBounds, List.take_set, h6]
theorem celC_set {α : Type} {enc : α → List Value} {k : Nat} (hk : ∀ x, (enc x).length = k) : ∀ (l : List α) (i j : Nat) (u : Value) (y : α) (hi : i < l.length), j < k → enc y = (enc l[i]).set j u → (celC enc l).set (i * k + j) u = celC enc (l.set i y)
  | [], i, j, u, y, hi, _, _ => by simp at hi
  | x :: l, 0, j, u, y, hi, hj, he => by
    have e1 : ∀ (z : α) (r : List α), celC enc (z :: r) = enc z ++ celC enc r := fun z r => by simp [celC]
    rw [List.set_cons_zero, e1, e1, he, Nat.zero_mul, Nat.zero_add, List.set_append_left _ _ (by rw [hk]; exact hj)]
    rfl
  | x :: l, i + 1, j, u, y, hi, hj, he => by
    have e1 : ∀ (z : α) (r : List α), celC enc (z :: r) = enc z ++ celC enc r := fun z r => by simp [celC]
    rw [List.set_cons_succ, e1, e1, List.set_append_right _ _ (by rw [hk, Nat.add_mul]; omega), hk, show (i + 1) * k + j - k = i * k + j by rw [Nat.add_mul]; omega]
    rw [celC_set hk l i j u y (by simpa using hi) hj he]
theorem djT.symm {s t : TraX} (h : djT s t) : djT t s := ⟨fun k e e2 => h.1 k e2 e, fun k e e2 => h.2.1 k e2 e, fun k e e2 => h.2.2 k e2 e⟩
/-- The lists that are turned in place lie where they lay. -/
theorem dj_same {s t t' : TraX} (h : djT s t) (h1 : t'.pa = t.pa) (h2 : t'.ca = t.ca) (h3 : t'.x.fa = t.x.fa) : djT s t' := by
  have ob : ∀ (a : Option Addr) (m n c d : Nat), (Value.slice a m c).ownBlock = (Value.slice a n d).ownBlock := fun a m n c d => by cases a <;> rfl
  refine ⟨fun k e e2 => h.1 k e ?_, fun k e e2 => h.2.1 k e ?_, fun k e e2 => h.2.2 k e ?_⟩
  · rw [h1] at e2; exact (ob _ _ _ _ _).trans e2
  · rw [h2] at e2; exact (ob _ _ _ _ _).trans e2
  · unfold AnsX.fl at e2 ⊢; rw [h3] at e2; exact (ob _ _ _ _ _).trans e2
theorem TrsOwn.djAt {B : Nat} {w : World} {v : Value} {ys : List TraX} (h : TrsOwn B w v ys) {i k : Nat} (hi : i < ys.length) (hk : k < ys.length) (hne : k ≠ i) : djT ys[k] ys[i] := by
  have hp := List.pairwise_iff_getElem.1 h.dj
  rcases Nat.lt_or_gt_of_ne hne with h1 | h1
  · exact hp k i hk hi h1
  · exact (hp i k hi hk h1).symm
theorem TrsOwn.turn {B : Nat} {w w' : World} {v : Value} {ys : List TraX} (h : TrsOwn B w v ys) {i : Nat} (hi : i < ys.length) (y : TraX) (hrow : w'.ownsRow B 52 21 v ys.length (celC traE (ys.set i y))) (hoth : ∀ k (hk : k < ys.length), k ≠ i → TraOwn B w' ys[k]) (hy : TraOwn B w' y) (hd : ∀ k (hk : k < ys.length), k ≠ i → djT ys[k] y) : TrsOwn B w' v (ys.set i y) := by
  refine ⟨by rw [List.length_set]; exact hrow, fun t ht => ?_, ?_, by rw [List.length_set]; exact h.siz⟩
  · obtain ⟨k, hk, rfl⟩ := List.getElem_of_mem ht
    rw [List.length_set] at hk
    rw [List.getElem_set]
    by_cases e : i = k
    · rw [if_pos e]; exact hy
    · rw [if_neg e]; exact hoth k hk (fun e2 => e e2.symm)
  · refine List.pairwise_iff_getElem.2 fun a b ha hb hab => ?_
    rw [List.length_set] at ha hb
    rw [List.getElem_set, List.getElem_set]
    by_cases e1 : i = a
    · rw [if_pos e1, if_neg (by omega)]
      exact (hd b hb (by omega)).symm
    · rw [if_neg e1]
      by_cases e2 : i = b
      · rw [if_pos e2]; exact hd a ha (by omega)
      · rw [if_neg e2]; exact List.pairwise_iff_getElem.1 h.dj a b ha hb hab
theorem TrsOwn.blk {B b n c : Nat} {w : World} {ys : List TraX} (h : TrsOwn B w (.slice (some ⟨b, 0, none⟩) n c) ys) : ∃ cur, w.heap[b]? = some (.cells cur 52 (0, 0)) ∧ B ≤ b ∧ n = ys.length := by
  obtain ⟨_, ⟨h0, _⟩ | ⟨g, cap, cur, hv, hb, hg, _⟩⟩ := h.row
  · cases h0
  · simp only [Value.slice.injEq, Option.some.injEq, Addr.mk.injEq] at hv
    obtain ⟨⟨rfl, -⟩, rfl, rfl⟩ := hv
    exact ⟨cur, hg, hb, rfl⟩
theorem TrsOwn.cellAt {B b n c : Nat} {w : World} {ys : List TraX} (h : TrsOwn B w (.slice (some ⟨b, 0, none⟩) n c) ys) {i : Nat} (hi : i < ys.length) : (∀ j u, (traE ys[i])[j]? = some u → w.cell? ⟨b, i * 21 + j, none⟩ = some u) ∧ (∀ j, w.frozen? ⟨b, j, none⟩ = false) ∧ b < w.heap.size := by
  obtain ⟨cur, hg, hb, hn⟩ := h.blk
  refine ⟨fun j u hu => ?_, fun j => free_at hg j, (Array.getElem?_eq_some_iff.1 hg).1⟩
  have hj : j < 21 := (List.getElem?_eq_some_iff.1 hu).1
  have hc := h.row.cells (g := b) rfl (i * 21 + j) u (by rw [celC_get traK ys i hi j hj]; exact hu)
  rwa [addN, Nat.zero_add] at hc
/-- One cell of a transaction is turned. -/
theorem TrsOwn.put {B b n c : Nat} {w : World} {ys : List TraX} (h : TrsOwn B w (.slice (some ⟨b, 0, none⟩) n c) ys) {i j : Nat} (hi : i < ys.length) (hj : j < 21) (u : Value) (y : TraX) (he : traE y = (traE ys[i]).set j u) (hy : TraOwn B w y) (hd : ∀ k (hk : k < ys.length), k ≠ i → djT ys[k] y) : TrsOwn B (w.setCell ⟨b, i * 21 + j, none⟩ u) (.slice (some ⟨b, 0, none⟩) n c) (ys.set i y) := by
  obtain ⟨cur, hg, hb, hn⟩ := h.blk
  refine h.turn hi y ?_ (fun k hk _ => (h.own _ (List.getElem_mem hk)).ty hg (by unfold noT; decide)) (hy.ty hg (by unfold noT; decide)) hd
  rw [← celC_set traK ys i j u y hi hj he]
  exact own_put h.row
theorem TrsOwn.put' {B b n c : Nat} {w : World} {ys : List TraX} (h : TrsOwn B w (.slice (some ⟨b, 0, none⟩) n c) ys) {i j : Nat} (hi : i < ys.length) (hj : j < 21) (u : Value) (y : TraX) (he : traE y = (traE ys[i]).set j u) (hy : TraOwn B w y) (h1 : y.pa = ys[i].pa) (h2 : y.ca = ys[i].ca) (h3 : y.x.fa = ys[i].x.fa) : TrsOwn B (w.setCell ⟨b, i * 21 + j, none⟩ u) (.slice (some ⟨b, 0, none⟩) n c) (ys.set i y) :=
  h.put hi hj u y he hy (fun k hk hne => dj_same (h.djAt hi hk hne) h1 h2 h3)
/-- A transaction that is aborted. -/
def abtV (t : TraV) (code : Int) : TraV := if t.st = 1 then { t with st := 3, an := { t.an with code := code } } else t
/-- Blocks of other types than a transaction's lists' are kept. -/
def KP (w w' : World) : Prop := ∀ (k : Nat) (cs : Array Value) (t : TypeId), w.heap[k]? = some (.cells cs t (0, 0)) → noT t → t ≠ 52 → w'.heap[k]? = some (.cells cs t (0, 0))
theorem KP.refl (w : World) : KP w w := fun _ _ _ h _ _ => h
theorem KP.trans {a b c : World} (h : KP a b) (k : KP b c) : KP a c := fun i cs t h1 h2 h3 => k i cs t (h i cs t h1 h2 h3) h2 h3
theorem KP.of {w w' : World} (h : Below w.heap.size w w') : KP w w' := fun _ _ _ h1 _ _ => blkK h1 h
theorem KP.set {w : World} {b j : Nat} {cs : Array Value} {t : TypeId} (u : Value) (h : w.heap[b]? = some (.cells cs t (0, 0))) (ht : ¬ (noT t ∧ t ≠ 52)) : KP w (w.setCell ⟨b, j, none⟩ u) := fun k cs' t' h1 h2 h3 => by
  refine setOther u h1 (fun e => ht ?_)
  rw [e, h] at h1
  simp only [Option.some.injEq, Obj.cells.injEq] at h1
  obtain ⟨_, rfl, _⟩ := h1
  exact ⟨h2, h3⟩
theorem KP.app {w w' : World} {B z n : Nat} {e : TypeId} {v : Value} {xs : List Value} (hg : w.grownBy w' v.ownBlock) (h : w.ownsRow B e z v n xs) (ht : ¬ (noT e ∧ e ≠ 52)) : KP w w' := fun k cs' t' h1 h2 h3 => box_type hg h h1 (fun e2 => ht (by rw [e2]; exact ⟨h2, h3⟩))
/-- The i-th of a coordinator's transactions is turned; nothing below B is. -/
structure Turned (B : Nat) (w : World) (v : Value) (ys : List TraX) (i : Nat) (t : TraV) (w' : World) : Prop where
  own : ∃ y : TraX, y.v = t ∧ TrsOwn B w' v (ys.set i y)
  bel : Below B w w'
  kp : KP w w'
theorem notT1 : ¬ (noT 52 ∧ (52 : TypeId) ≠ 52) := fun h => h.2 rfl
theorem notT2 : ¬ (noT 67 ∧ (67 : TypeId) ≠ 52) := fun h => h.1.2.2.2.2.1 rfl
theorem notT3 : ¬ (noT 81 ∧ (81 : TypeId) ≠ 52) := fun h => h.1.2.2.2.1 rfl
theorem notT4 : ¬ (noT 146 ∧ (146 : TypeId) ≠ 52) := fun h => h.1.2.2.2.2.2 rfl
set_option maxHeartbeats 4000000 in
set_option maxRecDepth 100000 in
theorem abort_is {B b n c i k : Nat} {w : World} {ys : List TraX} (code : Int) (h : TrsOwn B w (.slice (some ⟨b, 0, none⟩) n c) ys) (hi : i < ys.length) (hk : k = i * 21) : Calls Tryd.prog 27 #[.pointer (some ⟨b, k, none⟩), .int .i64 code] w fun e w' => e = .returned (.tuple #[]) ∧ Turned B w (.slice (some ⟨b, 0, none⟩) n c) ys i (abtV ys[i].v code) w' := by
  obtain ⟨hc, hf, hz⟩ := h.cellAt hi
  obtain ⟨cur, hg, hB, hn⟩ := h.blk
  have c14 : w.cell? ⟨b, k + 14, none⟩ = some (.int .i64 ys[i].st) := by rw [hk]; exact hc 14 _ rfl
  have c17 : w.cell? ⟨b, k + 17, none⟩ = some (.int .i64 ys[i].x.v.code) := by rw [hk]; exact hc 17 _ rfl
  by_cases hs : ys[i].st = 1
  · have h1 := h.put' hi (j := 14) (by omega) (.int .i64 3) { ys[i] with st := 3 } rfl ⟨(h.own _ (List.getElem_mem hi)).p, (h.own _ (List.getElem_mem hi)).m, (h.own _ (List.getElem_mem hi)).c, (h.own _ (List.getElem_mem hi)).x, (h.own _ (List.getElem_mem hi)).sp, (h.own _ (List.getElem_mem hi)).sm⟩ rfl rfl rfl
    have hi1 : i < (ys.set i { ys[i] with st := 3 }).length := by rw [List.length_set]; exact hi
    have e1 : (ys.set i { ys[i] with st := 3 })[i]'hi1 = { ys[i] with st := 3 } := List.getElem_set_self hi1
    have hx := (h1.own _ (List.getElem_mem hi1))
    rw [e1] at hx
    have h2 := h1.put' hi1 (j := 17) (by omega) (.int .i64 code) { ys[i] with st := 3, x := { ys[i].x with v := { ys[i].x.v with code := code } } } (by rw [e1]; rfl) ⟨hx.p, hx.m, hx.c, ⟨hx.x.a, hx.x.f, hx.x.sa, hx.x.sf⟩, hx.sp, hx.sm⟩ (by rw [e1]) (by rw [e1]) (by rw [e1])
    rw [List.set_set] at h2
    have HX : Hid (Turned B w (.slice (some ⟨b, 0, none⟩) n c) ys i (abtV ys[i].v code) ((w.setCell ⟨b, k + 14, none⟩ (.int .i64 3)).setCell ⟨b, k + 17, none⟩ (.int .i64 code))) := ⟨⟨{ ys[i] with st := 3, x := { ys[i].x with v := { ys[i].x.v with code := code } } }, by unfold abtV; rw [if_pos (show ys[i].v.st = 1 from hs)]; rfl, by rw [hk]; exact h2⟩, belowSet _ (belowSet _ (Below.refl _ _) hB) hB, (KP.set _ hg notT1).trans (KP.set _ (heap_set hg _ _) notT1)⟩
    clear h h1 h2 hx hc hi1 e1
    rw [hs] at c14
    generalize abtV ys[i].v code = T at *
    generalize ys[i].x.v.code = oc at *
    clear hg hs hk hn
    go_enter Tryd.func27, Tryd.ntmps27
    go_wp2
    exact bodyPost_end (results_none rfl _ _ _) rfl ⟨rfl, HX.out⟩
  · have HX : Hid (Turned B w (.slice (some ⟨b, 0, none⟩) n c) ys i (abtV ys[i].v code) w) := ⟨⟨ys[i], by unfold abtV; rw [if_neg (show ¬ ys[i].v.st = 1 from hs)], by rw [List.set_getElem_self]; exact h⟩, Below.refl _ _, KP.refl _⟩
    have hs2 : (ys[i].st == 1) = false := by simpa using hs
    clear h hc hg
    generalize abtV ys[i].v code = T at *
    generalize ys[i].st = os at *
    clear hk hn hs
    go_enter Tryd.func27, Tryd.ntmps27
    go_wp2
    exact bodyPost_end (results_none rfl _ _ _) rfl ⟨rfl, HX.out⟩
end Go.Proofs.YtilinemcmgjiiaaDoor
