/- A deal in memory: a book that is being changed, and the trades so far. -/
import Derived.Test.YtiinigifjdpicaaGreatDoorLaid
namespace Go.Proofs.YtiinigifjdpicaaGreatDoor
open Go.RowKit
set_option linter.all false
/-- What a call of the deal leaves as it was: all blocks but the deal's own and, of those from B on, the rows of what is owed and of trades. -/
structure Tch (D B : Nat) (w w' : World) : Prop where
  os : w'.os = w.os
  tape : w'.tape = w.tape
  output : w'.output = w.output
  size : w.heap.size ≤ w'.heap.size
  keep : ∀ k, k < w.heap.size → k ≠ D → (B ≤ k → ∀ cs, w.heap[k]? ≠ some (.cells cs 61 (0, 0)) ∧ w.heap[k]? ≠ some (.cells cs 106 (0, 0))) → w'.heap[k]? = w.heap[k]?
theorem Tch.refl (D B : Nat) (w : World) : Tch D B w w := ⟨rfl, rfl, rfl, Nat.le_refl _, fun _ _ _ _ => rfl⟩
theorem Tch.trans {D B : Nat} {a b c : World} (h : Tch D B a b) (k : Tch D B b c) : Tch D B a c :=
  ⟨k.os.trans h.os, k.tape.trans h.tape, k.output.trans h.output, Nat.le_trans h.size k.size, fun i hi hD hB => by
    have e := h.keep i hi hD hB
    exact (k.keep i (Nat.lt_of_lt_of_le hi h.size) hD (fun hb cs => by rw [e]; exact hB hb cs)).trans e⟩
theorem Tch.ofBelow {D B : Nat} {w w' : World} (h : Below w.heap.size w w') : Tch D B w w' := ⟨h.os, h.tape, h.output, h.size, fun i hi _ _ => h.block i hi⟩
theorem Tch.ofGrownW {D B n k : Nat} {w w' : World} {v : Value} {xs : List Value} (h : w.grownBy w' v.ownBlock) (ho : w.ownsRow B 61 k v n xs) : Tch D B w w' :=
  ⟨h.os, h.tape, h.output, h.size, fun i hi _ hB => h.block i hi (fun e => by
    obtain ⟨_, ⟨rfl, _⟩ | ⟨g, cap, cur, rfl, hg, hc, _⟩⟩ := ho
    · cases e
    · simp only [Value.ownBlock, Option.some.injEq] at e
      subst e
      exact (hB hg cur).1 hc)⟩
theorem Tch.ofGrownF {D B n k : Nat} {w w' : World} {v : Value} {xs : List Value} (h : w.grownBy w' v.ownBlock) (ho : w.ownsRow B 106 k v n xs) : Tch D B w w' :=
  ⟨h.os, h.tape, h.output, h.size, fun i hi _ hB => h.block i hi (fun e => by
    obtain ⟨_, ⟨rfl, _⟩ | ⟨g, cap, cur, rfl, hg, hc, _⟩⟩ := ho
    · cases e
    · simp only [Value.ownBlock, Option.some.injEq] at e
      subst e
      exact (hB hg cur).2 hc)⟩
theorem Tch.ofSet {D B j : Nat} (w : World) (v : Value) : Tch D B w (w.setCell ⟨D, j, none⟩ v) :=
  ⟨rfl, rfl, rfl, by simp, fun i _ hD _ => heap_set_other _ _ _ _ _ hD⟩
theorem Tch.drew {D B : Nat} {w w' : World} (h : Tch D B w w') : Tch D B w w'.drew := ⟨h.os, h.tape, h.output, h.size, h.keep⟩
theorem Tch.block {D B k : Nat} {w w' : World} {cs : Array Value} {t : TypeId} (h : Tch D B w w') (hk : w.heap[k]? = some (.cells cs t (0, 0))) (hD : k ≠ D) (h1 : t ≠ 61) (h2 : t ≠ 106) : w'.heap[k]? = some (.cells cs t (0, 0)) :=
  (h.keep k (Array.getElem?_eq_some_iff.1 hk).1 hD (fun _ cs' => ⟨fun e => by rw [hk] at e; simp at e; exact h1 e.2, fun e => by rw [hk] at e; simp at e; exact h2 e.2⟩)).trans hk
theorem Tch.row {D B z n : Nat} {w w' : World} {v : Value} {xs : List Value} {B' : Nat} {dc : Array Value} (h : Tch D B w w') (hd : w.heap[D]? = some (.cells dc 174 (0, 0))) (ho : w.ownsRow B' 115 z v n xs) : w'.ownsRow B' 115 z v n xs := by
  obtain ⟨h1, hn | ⟨g, cap, cur, hv, hb, hg, rest⟩⟩ := ho
  · exact ⟨h1, .inl hn⟩
  · refine ⟨h1, .inr ⟨g, cap, cur, hv, hb, h.block hg (fun e => ?_) (by decide) (by decide), rest⟩⟩
    rw [e, hd] at hg
    simp at hg
/-- A deal in memory. -/
structure Deal (D B : Nat) (L : LaneV) (F : List FillV) (b a o f : Value) (w : World) : Prop where
  box : w.heap[D]? = some (.cells #[.bool L.call, .int .i64 L.next, b, a, o, f] 174 (0, 0))
  ob : w.ownsRow B 115 4 b L.bids.length (celC ordE L.bids)
  oa : w.ownsRow B 115 4 a L.asks.length (celC ordE L.asks)
  oo : w.ownsRow B 61 3 o L.owed.length (celC oweE L.owed)
  fl : w.ownsRow B 106 4 f F.length (celC filE F)
  sep : b.ownBlock = none ∨ b.ownBlock ≠ a.ownBlock
theorem Deal.cells {D B : Nat} {L : LaneV} {F : List FillV} {b a o f : Value} {w : World} (h : Deal D B L F b a o f w) : w.cell? ⟨D, 0, none⟩ = some (.bool L.call) ∧ w.cell? ⟨D, 1, none⟩ = some (.int .i64 L.next) ∧ w.cell? ⟨D, 2, none⟩ = some b ∧ w.cell? ⟨D, 3, none⟩ = some a ∧ w.cell? ⟨D, 4, none⟩ = some o ∧ w.cell? ⟨D, 5, none⟩ = some f :=
  ⟨by rw [cell_at h.box]; rfl, by rw [cell_at h.box]; rfl, by rw [cell_at h.box]; rfl, by rw [cell_at h.box]; rfl, by rw [cell_at h.box]; rfl, by rw [cell_at h.box]; rfl⟩
theorem Deal.keep {D B : Nat} {L : LaneV} {F : List FillV} {b a o f : Value} {w w' : World} (h : Deal D B L F b a o f w) (hb : Below w.heap.size w w') : Deal D B L F b a o f w' :=
  ⟨(hb.block _ (Array.getElem?_eq_some_iff.1 h.box).1).trans h.box, own_keep h.ob hb, own_keep h.oa hb, own_keep h.oo hb, own_keep h.fl hb, h.sep⟩
theorem Deal.lt {D B : Nat} {L : LaneV} {F : List FillV} {b a o f : Value} {w : World} (h : Deal D B L F b a o f w) : D < w.heap.size := (Array.getElem?_eq_some_iff.1 h.box).1
/-- A row of another type stays when one of a type turns. -/
theorem own_type {w w' : World} {B B' : Nat} {e e' : TypeId} {z z' n n' : Nat} {v v' : Value} {xs xs' : List Value} (h : w.grownBy w' v.ownBlock) (ho : w.ownsRow B e z v n xs) (ho' : w.ownsRow B' e' z' v' n' xs') (hne : e ≠ e') : w'.ownsRow B' e' z' v' n' xs' := by
  refine ho'.kept h ?_
  obtain ⟨_, ⟨rfl, _⟩ | ⟨g, cap, cur, rfl, hg, hc, _⟩⟩ := ho'
  · exact .inl rfl
  · refine .inr (fun e => ?_)
    obtain ⟨_, ⟨rfl, _⟩ | ⟨g2, cap2, cur2, rfl, hg2, hc2, _⟩⟩ := ho
    · cases e
    · simp only [Value.ownBlock, Option.some.injEq] at e
      subst e
      rw [hc] at hc2
      simp at hc2
      exact hne hc2.2.symm
theorem box_type {w w' : World} {B D : Nat} {e t : TypeId} {z n : Nat} {v : Value} {xs : List Value} {cs : Array Value} (h : w.grownBy w' v.ownBlock) (ho : w.ownsRow B e z v n xs) (hd : w.heap[D]? = some (.cells cs t (0, 0))) (hne : e ≠ t) : w'.heap[D]? = some (.cells cs t (0, 0)) := by
  refine (h.block D (Array.getElem?_eq_some_iff.1 hd).1 (fun e => ?_)).trans hd
  obtain ⟨_, ⟨rfl, _⟩ | ⟨g2, cap2, cur2, rfl, hg2, hc2, _⟩⟩ := ho
  · cases e
  · simp only [Value.ownBlock, Option.some.injEq] at e
    subst e
    rw [hd] at hc2
    simp at hc2
    exact hne hc2.2.symm
/-- A cell of a block of another type is written. -/
theorem own_cell {w : World} {B D j : Nat} {e t : TypeId} {z n : Nat} {v u : Value} {xs : List Value} {cs : Array Value} (ho : w.ownsRow B e z v n xs) (hd : w.heap[D]? = some (.cells cs t (0, 0))) (hne : e ≠ t) : (w.setCell ⟨D, j, none⟩ u).ownsRow B e z v n xs := by
  obtain ⟨h1, hn | ⟨g, cap, cur, hv, hb, hg, rest⟩⟩ := ho
  · exact ⟨h1, .inl hn⟩
  · refine ⟨h1, .inr ⟨g, cap, cur, hv, hb, (heap_set_other _ _ _ _ _ (fun e => ?_)).trans hg, rest⟩⟩
    rw [e, hd] at hg
    simp at hg
    exact hne hg.2.symm
/-- A cell of the row itself is written. -/
theorem own_at {w : World} {B g c : Nat} {e : TypeId} {z n j : Nat} {u : Value} {xs : List Value} (ho : w.ownsRow B e z (.slice (some ⟨g, 0, none⟩) n c) n xs) (hj : j < n * z) : (w.setCell ⟨g, j, none⟩ u).ownsRow B e z (.slice (some ⟨g, 0, none⟩) n c) n (xs.set j u) := by
  obtain ⟨h1, ⟨hv, _⟩ | ⟨g', cap, cur, hv, hb, hg, hn, hc, hs, ht⟩⟩ := ho
  · simp at hv
  · simp only [Value.slice.injEq, Option.some.injEq, Addr.mk.injEq, and_true, true_and] at hv
    obtain ⟨rfl, rfl⟩ := hv
    refine ⟨by rw [List.length_set]; exact h1, .inr ⟨g, c, cur.setIfInBounds j u, rfl, hb, heap_set hg j u, hn, hc, by simp [hs], ?_⟩⟩
    rw [Array.toList_setIfInBounds, List.take_set, ht]
theorem grown_at {w : World} {g j n c : Nat} {u : Value} : w.grownBy (w.setCell ⟨g, j, none⟩ u) (Value.slice (some ⟨g, 0, none⟩) n c).ownBlock :=
  ⟨rfl, rfl, rfl, by simp, fun k _ hk => heap_set_other _ _ _ _ _ (fun e => hk (by rw [e]; rfl))⟩
/-- What is owed of an asset to an account? -/
def oweP (acc asset : Int) (y : OweV) : Bool := decide (y.acc = acc) && decide (y.asset = asset)
/-- So much more is owed. -/
def oweL (acc asset n : Int) (l : List OweV) : List OweV := match l.findIdx? (oweP acc asset) with
  | some i => l.modify i (fun y => ⟨y.acc, y.asset, y.n + n⟩)
  | none => laidL owB ⟨acc, asset, n⟩ l
theorem oweP_is (acc asset : Int) (B1 B2 : Nat) (o : OweV) (w : World) (h1 : B1 < w.heap.size) (h2 : B2 < w.heap.size) (c1 : w.cell? ⟨B1, 0, none⟩ = some (.int .i64 acc)) (c2 : w.cell? ⟨B2, 0, none⟩ = some (.int .i64 asset)) :
    Calls Tryz.prog 172 #[.agg (oweE o).toArray, .pointer (some ⟨B1, 0, none⟩), .pointer (some ⟨B2, 0, none⟩)] w fun e w' => e = .returned (.bool (oweP acc asset o)) ∧ Below w.heap.size w w' := by
  have HB := hideIt (below1 w (.cells (oweE o).toArray 61))
  have hne : B1 ≠ w.heap.size := by omega
  have hne2 : B2 ≠ w.heap.size := by omega
  unfold oweP oweE at *
  obtain ⟨ac, s, n⟩ := o
  simp only at HB ⊢
  show Calls Tryz.prog 172 #[.agg #[.int .i64 ac, .int .i64 s, .int .i64 n], .pointer (some ⟨B1, 0, none⟩), .pointer (some ⟨B2, 0, none⟩)] w _
  by_cases h : ac = acc
  · subst h
    go_enter Tryz.func172, Tryz.ntmps172
    go_wp2
    go_ret
    exact ⟨by simp; rfl, HB.out⟩
  · go_enter Tryz.func172, Tryz.ntmps172
    go_wp2
    go_ret
    exact ⟨by simp [h], HB.out⟩
theorem eg66 : ∀ args w, (callFunc 172 args).run Tryz.prog w = .ok (.enter 172 args) w := enters_of Tryz.func172 (by kernel_rfl) rfl
theorem eg51 : ∀ args w, (callFunc 144 args).run Tryz.prog w = .ok (.enter 144 args) w := enters_of Tryz.func144 (by kernel_rfl) rfl
theorem pred66 {acc asset : Int} {B1 B2 : Nat} {w : World} (h1 : B1 < w.heap.size) (h2 : B2 < w.heap.size) (c1 : w.cell? ⟨B1, 0, none⟩ = some (.int .i64 acc)) (c2 : w.cell? ⟨B2, 0, none⟩ = some (.int .i64 asset)) : PredB 172 #[.pointer (some ⟨B1, 0, none⟩), .pointer (some ⟨B2, 0, none⟩)] oweE (oweP acc asset) w := fun W x hW =>
  (oweP_is acc asset B1 B2 x W (Nat.lt_of_lt_of_le h1 hW.size) (Nat.lt_of_lt_of_le h2 hW.size) ((hW.cell (p := ⟨B1, 0, none⟩) h1).trans c1) ((hW.cell (p := ⟨B2, 0, none⟩) h2).trans c2)).mono (fun _ _ h => ⟨h.1, below_via hW h.2⟩)
end Go.Proofs.YtiinigifjdpicaaGreatDoor
