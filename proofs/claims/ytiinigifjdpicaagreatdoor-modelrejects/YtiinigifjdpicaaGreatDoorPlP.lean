/- An order is taken in: plain data, and what lies in memory on the way. -/
import Derived.Test.YtiinigifjdpicaaGreatDoorTradeW
import Derived.Test.YtiinigifjdpicaaGreatDoorRefu
namespace Go.Proofs.YtiinigifjdpicaaGreatDoor
open Go.RowKit
set_option linter.all false
def zLane : LaneV := ⟨false, 0, [], [], []⟩
/-- The trades of an order that is placed. -/
def plT (L : LaneV) (s : Int) (x : OrdV) : List OrdV × Int × List OweV × List FillV :=
  if L.call then (sideL L (if s = 1 then 2 else 1), x.left, L.owed, []) else trL s x (sideL L (if s = 1 then 2 else 1)) x.left L.owed []
/-- The book behind the trades. -/
def plL (L : LaneV) (s : Int) (T : List OrdV) (ow : List OweV) : LaneV :=
  if s = 1 then ⟨L.call, L.next + 1, L.bids, T, ow⟩ else ⟨L.call, L.next + 1, T, L.asks, ow⟩
/-- What is left of the order. -/
def plR (M : LaneV) (s : Int) (x : OrdV) (now : Bool) : LaneV :=
  if 0 < x.left then
    if now then ⟨M.call, M.next, M.bids, M.asks, oweL x.acc (brA s) (brN s x) M.owed⟩
    else if s = 1 then ⟨M.call, M.next, laidL (ahB s) x M.bids, M.asks, M.owed⟩ else ⟨M.call, M.next, M.bids, laidL (ahB s) x M.asks, M.owed⟩
  else M
def plX (L : LaneV) (acc s price n : Int) (now : Bool) : LaneV × List FillV × Int × Int :=
  if overB (plR (plL L s (plT L s ⟨L.next, acc, price, n⟩).1 (plT L s ⟨L.next, acc, price, n⟩).2.2.1) s ⟨L.next, acc, price, (plT L s ⟨L.next, acc, price, n⟩).2.1⟩ now).owed then (zLane, [], 0, 131)
  else (plR (plL L s (plT L s ⟨L.next, acc, price, n⟩).1 (plT L s ⟨L.next, acc, price, n⟩).2.2.1) s ⟨L.next, acc, price, (plT L s ⟨L.next, acc, price, n⟩).2.1⟩ now, (plT L s ⟨L.next, acc, price, n⟩).2.2.2, L.next, 0)
def placeL (L : LaneV) (acc s price n : Int) (now : Bool) : LaneV × List FillV × Int × Int :=
  if refE L acc s price n now ≠ 0 then (zLane, [], 0, refE L acc s price n now) else plX L acc s price n now
/-- What comes back. -/
def PlBack (X : LaneV × List FillV × Int × Int) (w : World) (e : Ending) (w' : World) : Prop := ∃ b a o f, e = .returned (.tuple #[laneV X.1 b a o, f, .int .i64 X.2.2.1, .int .i64 X.2.2.2]) ∧ w'.ownsRow w.heap.size 115 4 b X.1.bids.length (celC ordE X.1.bids) ∧ w'.ownsRow w.heap.size 115 4 a X.1.asks.length (celC ordE X.1.asks) ∧ w'.ownsRow w.heap.size 61 3 o X.1.owed.length (celC oweE X.1.owed) ∧ w'.ownsRow w.heap.size 106 4 f X.2.1.length (celC filE X.2.1) ∧ Below w.heap.size w w'
/-- A deal on the way. -/
structure PS (w : World) (D K : Nat) (L : LaneV) (bv av ov : Value) (x : OrdV) (M : LaneV) (F : List FillV) (b a o f : Value) (wr : World) : Prop where
  deal : Deal D (w.heap.size + 2) M F b a o f wr
  ord : wr.heap[K]? = some (.cells (ordE x).toArray 115 (0, 0))
  cb : CB w L bv av ov wr
  ne : K ≠ D
  lD : w.heap.size + 2 ≤ D
  lK : w.heap.size + 2 ≤ K
  kb : some K ≠ b.ownBlock
  ka : some K ≠ a.ownBlock
theorem Below.ofTcr {w wr wy : World} {D B : Nat} {q : Option Nat} (h : Below w.heap.size w wr) (t : Tcr D B q wr wy) (hD : w.heap.size ≤ D) (hB : w.heap.size ≤ B) (hq : ∀ k, q = some k → w.heap.size ≤ k) : Below w.heap.size w wy :=
  ⟨t.os.trans h.os, t.tape.trans h.tape, t.output.trans h.output, Nat.le_trans h.size t.size, fun k hk => (t.keep k (Nat.lt_of_lt_of_le hk h.size) (by omega) (fun e => by have := hq k e.symm; omega) (fun hb => by omega)).trans (h.block k hk)⟩
theorem CB.tcr {w wr wy : World} {D : Nat} {q : Option Nat} {L : LaneV} {b a o : Value} (h : CB w L b a o wr) (t : Tcr D (w.heap.size + 2) q wr wy) (hD : w.heap.size + 2 ≤ D) (hq : ∀ k, q = some k → w.heap.size + 2 ≤ k) : CB w L b a o wy :=
  ⟨t.block h.box (by omega) (fun e => by have := hq _ e.symm; omega) (by decide) (by decide), t.block h.res (by omega) (fun e => by have := hq _ e.symm; omega) (by decide) (by decide), Below.ofTcr h.bel t (by omega) (by omega) (fun k e => by have := hq k e; omega), Nat.le_trans h.size t.size⟩
theorem PS.step {w wr wy : World} {D K : Nat} {q : Option Nat} {L : LaneV} {bv av ov : Value} {x : OrdV} {M M2 : LaneV} {F F2 : List FillV} {b a o f b2 a2 o2 f2 : Value} (h : PS w D K L bv av ov x M F b a o f wr) (d : Deal D (w.heap.size + 2) M2 F2 b2 a2 o2 f2 wy) (t : Tcr D (w.heap.size + 2) q wr wy) (hb : b2.ownBlock = b.ownBlock) (ha : a2.ownBlock = a.ownBlock) (hq : q = b.ownBlock ∨ q = a.ownBlock ∨ q = none) : PS w D K L bv av ov x M2 F2 b2 a2 o2 f2 wy := by
  have hqk : ∀ k, q = some k → w.heap.size + 2 ≤ k := fun k e => by
    rcases hq with rfl | rfl | rfl
    · exact (h.deal.ob.lt k e).1
    · exact (h.deal.oa.lt k e).1
    · cases e
  have hKq : some K ≠ q := by
    rcases hq with rfl | rfl | rfl
    · exact h.kb
    · exact h.ka
    · simp
  exact ⟨d, t.block h.ord h.ne hKq (by decide) (by decide), h.cb.tcr t h.lD hqk, h.ne, h.lD, h.lK, by rw [hb]; exact h.kb, by rw [ha]; exact h.ka⟩
theorem PS.keep {w wr wy : World} {D K : Nat} {L : LaneV} {bv av ov : Value} {x : OrdV} {M : LaneV} {F : List FillV} {b a o f : Value} (h : PS w D K L bv av ov x M F b a o f wr) (hb : Below wr.heap.size wr wy) : PS w D K L bv av ov x M F b a o f wy :=
  h.step (h.deal.keep hb) (Tcr.ofTch (q := none) (Tch.ofBelow hb)) rfl rfl (.inr (.inr rfl))
/-- The order's own cell is written. -/
theorem PS.left {w wr : World} {D K : Nat} {L : LaneV} {bv av ov : Value} {x : OrdV} {M : LaneV} {F : List FillV} {b a o f : Value} (h : PS w D K L bv av ov x M F b a o f wr) (m : Int) : PS w D K L bv av ov ⟨x.id, x.acc, x.price, m⟩ M F b a o f (wr.setCell ⟨K, 3, none⟩ (.int .i64 m)) := by
  have hl := h.lK
  exact ⟨⟨setOther _ h.deal.box h.ne.symm, own_ne h.deal.ob (fun e => h.kb e.symm), own_ne h.deal.oa (fun e => h.ka e.symm), own_cell h.deal.oo h.ord (by decide), own_cell h.deal.fl h.ord (by decide), h.deal.sep⟩, heap_set h.ord 3 _, ⟨setOther _ h.cb.box (by omega), setOther _ h.cb.res (by omega), belowSet _ h.cb.bel (by omega), by simpa using h.cb.size⟩, h.ne, h.lD, h.lK, h.kb, h.ka⟩
end Go.Proofs.YtiinigifjdpicaaGreatDoor
