/- A new order meets those of the other side. -/
import Derived.Test.YtiinigifjdpicaaGreatDoorTr
import Derived.Deep.LoopGhost
namespace Go.Proofs.YtiinigifjdpicaaGreatDoor
open Go.RowKit
set_option linter.all false
theorem eg63 : ∀ args w, (callFunc 170 args).run Tryz.prog w = .ok (.enter 170 args) w := enters_of Tryz.func170 (by kernel_rfl) rfl
theorem eg64 : ∀ args w, (callFunc 171 args).run Tryz.prog w = .ok (.enter 171 args) w := enters_of Tryz.func171 (by kernel_rfl) rfl
theorem setO_left {s : Int} {x r : OrdV} {left n : Int} {l : List OweV} : setO s ⟨x.id, x.acc, x.price, left⟩ r n l = setO s x r n l := by
  unfold setO setB setS
  by_cases h : s = 2
  · simp [h]
  · simp [h]
theorem setF_left {s : Int} {x r : OrdV} {left n : Int} : setF s ⟨x.id, x.acc, x.price, left⟩ r n = setF s x r n := by
  unfold setF setB setS
  by_cases h : s = 2
  · simp [h]
  · simp [h]
/-- The state of the loop. -/
structure TS1 (w : World) (D B : Nat) (L : LaneV) (x : OrdV) (b a : Value) (RES : List OrdV × Int × List OweV × List FillV) (T : List OrdV) (left : Int) (ow : List OweV) (G : List FillV) (tv o f : Value) (c : Nat) (wr : World) : Prop where
  res : trL 1 x T left ow G = RES
  deal : Deal D B ⟨L.call, L.next, L.bids, T, ow⟩ G b tv o f wr
  blk : tv.ownBlock = a.ownBlock
  tcr : Tcr D B a.ownBlock w wr
  box : wr.heap[w.heap.size]? = some (.cells (ordE ⟨x.id, x.acc, x.price, left⟩).toArray 115 (0, 0))
  clo : wr.heap[w.heap.size + 1]? = some (.cells #[.int .i64 x.price] 3 (0, 0))
  oko : OkO c ow
  cb : c + 3 * T.length ≤ 800 + (if 0 < left then 0 else 3)
  gb : G.length + T.length ≤ 900 + (if 0 < left then 0 else 1)
  okt : OkT T
  lef : 0 ≤ left ∧ left ≤ 1000000
/-- The state of the loop. -/
structure TS2 (w : World) (D B : Nat) (L : LaneV) (x : OrdV) (b a : Value) (RES : List OrdV × Int × List OweV × List FillV) (T : List OrdV) (left : Int) (ow : List OweV) (G : List FillV) (tv o f : Value) (c : Nat) (wr : World) : Prop where
  res : trL 2 x T left ow G = RES
  deal : Deal D B ⟨L.call, L.next, T, L.asks, ow⟩ G tv a o f wr
  blk : tv.ownBlock = b.ownBlock
  tcr : Tcr D B b.ownBlock w wr
  box : wr.heap[w.heap.size]? = some (.cells (ordE ⟨x.id, x.acc, x.price, left⟩).toArray 115 (0, 0))
  clo : wr.heap[w.heap.size + 1]? = some (.cells #[.int .i64 x.price] 3 (0, 0))
  oko : OkO c ow
  cb : c + 3 * T.length ≤ 800 + (if 0 < left then 0 else 3)
  gb : G.length + T.length ≤ 900 + (if 0 < left then 0 else 1)
  okt : OkT T
  lef : 0 ≤ left ∧ left ≤ 1000000
theorem TS1.drew {w : World} {D B : Nat} {L : LaneV} {x : OrdV} {b a : Value} {RES : List OrdV × Int × List OweV × List FillV} {T : List OrdV} {left : Int} {ow : List OweV} {G : List FillV} {tv o f : Value} {c : Nat} {wr : World} (h : TS1 w D B L x b a RES T left ow G tv o f c wr) : TS1 w D B L x b a RES T left ow G tv o f c wr.drew :=
  ⟨h.res, h.deal.keep (Below.refl _ _).drew, h.blk, h.tcr.trans (Tcr.ofTch (Tch.ofBelow (Below.refl _ _).drew)), h.box, h.clo, h.oko, h.cb, h.gb, h.okt, h.lef⟩
theorem TS2.drew {w : World} {D B : Nat} {L : LaneV} {x : OrdV} {b a : Value} {RES : List OrdV × Int × List OweV × List FillV} {T : List OrdV} {left : Int} {ow : List OweV} {G : List FillV} {tv o f : Value} {c : Nat} {wr : World} (h : TS2 w D B L x b a RES T left ow G tv o f c wr) : TS2 w D B L x b a RES T left ow G tv o f c wr.drew :=
  ⟨h.res, h.deal.keep (Below.refl _ _).drew, h.blk, h.tcr.trans (Tcr.ofTch (Tch.ofBelow (Below.refl _ _).drew)), h.box, h.clo, h.oko, h.cb, h.gb, h.okt, h.lef⟩
end Go.Proofs.YtiinigifjdpicaaGreatDoor
