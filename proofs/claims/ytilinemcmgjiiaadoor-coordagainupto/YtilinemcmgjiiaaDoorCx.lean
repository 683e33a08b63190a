/- A group's cells, peers and transactions in memory. -/
import Derived.Test.YtilinemcmgjiiaaDoorAnw
namespace Go.Proofs.YtilinemcmgjiiaaDoor
open Go.RowKit
set_option linter.all false
theorem blkK {w w' : World} {k : Nat} {x : Obj} (h : w.heap[k]? = some x) (hb : Below w.heap.size w w') : w'.heap[k]? = some x := (hb.block _ (Array.getElem?_eq_some_iff.1 h).1).trans h
abbrev OrdV := Int × Int × Int × Int
abbrev OwdV := Int × Int × Int
def ordE (o : OrdV) : List Value := [.int .i64 o.1, .int .i64 o.2.1, .int .i64 o.2.2.1, .int .i64 o.2.2.2]
theorem ordK (o : OrdV) : (ordE o).length = 4 := rfl
theorem ord1 (o : OrdV) : ∀ u ∈ ordE o, u.oneCell' = true := by
  intro u hu
  simp only [ordE, List.mem_cons, List.not_mem_nil, or_false] at hu
  rcases hu with rfl | rfl | rfl | rfl <;> rfl
def owdE (o : OwdV) : List Value := [.int .i64 o.1, .int .i64 o.2.1, .int .i64 o.2.2]
theorem owdK (o : OwdV) : (owdE o).length = 3 := rfl
theorem owd1 (o : OwdV) : ∀ u ∈ owdE o, u.oneCell' = true := by
  intro u hu
  simp only [owdE, List.mem_cons, List.not_mem_nil, or_false] at hu
  rcases hu with rfl | rfl | rfl <;> rfl
abbrev Ords (w : World) (v : Value) (l : List OrdV) : Prop := SGot 4 32 ordE w v l
abbrev Owds (w : World) (v : Value) (l : List OwdV) : Prop := SGot 3 24 owdE w v l
theorem infoOrd : (Tryd.prog.info? 121).map (fun i => (i.zero, i.size, i.bytes)) = some (some (.agg #[.int .i64 0, .int .i64 0, .int .i64 0, .int .i64 0]), 4, 32) := by kernel_rfl
theorem infoOwd : (Tryd.prog.info? 124).map (fun i => (i.zero, i.size, i.bytes)) = some (some (.agg #[.int .i64 0, .int .i64 0, .int .i64 0]), 3, 24) := by kernel_rfl
theorem infoPee : (Tryd.prog.info? 67).map (fun i => (i.zero, i.size, i.bytes)) = some (some (.agg #[.int .i64 0, .int .i64 0, .int .i64 0, .bool false, .bool false]), 5, 32) := by kernel_rfl
/-- A cell: a key, a version, an account, a lane. -/
structure CelV where
  k : Int
  n : Int
  ver : Int
  fr : List AmV
  cnt : Int
  call : Bool
  next : Int
  bids : List OrdV
  asks : List OrdV
  owed : List OwdV
/-- Where its lists lie. -/
structure CelX where
  v : CelV
  fa : Option Addr
  fc : Nat
  ba : Option Addr
  bc : Nat
  aa : Option Addr
  ac : Nat
  oa : Option Addr
  oc : Nat
def celE (c : CelX) : List Value := [.int .i64 c.v.k, .int .i64 c.v.n, .int .i64 c.v.ver, .slice c.fa c.v.fr.length c.fc, .int .i64 c.v.cnt, .bool c.v.call, .int .i64 c.v.next, .slice c.ba c.v.bids.length c.bc, .slice c.aa c.v.asks.length c.ac, .slice c.oa c.v.owed.length c.oc]
theorem celK (c : CelX) : (celE c).length = 10 := rfl
theorem cel1 (c : CelX) : ∀ u ∈ celE c, u.oneCell' = true := by
  intro u hu
  simp only [celE, List.mem_cons, List.not_mem_nil, or_false] at hu
  rcases hu with rfl | rfl | rfl | rfl | rfl | rfl | rfl | rfl | rfl | rfl <;> rfl
theorem infoCel : (Tryd.prog.info? 81).map (fun i => (i.zero, i.size, i.bytes)) = some (some (.agg #[.int .i64 0, .int .i64 0, .int .i64 0, .slice none 0 0, .int .i64 0, .bool false, .int .i64 0, .slice none 0 0, .slice none 0 0, .slice none 0 0]), 10, 144) := by kernel_rfl
structure CelAt (w : World) (c : CelX) : Prop where
  f : Ams w (.slice c.fa c.v.fr.length c.fc) c.v.fr
  b : Ords w (.slice c.ba c.v.bids.length c.bc) c.v.bids
  a : Ords w (.slice c.aa c.v.asks.length c.ac) c.v.asks
  o : Owds w (.slice c.oa c.v.owed.length c.oc) c.v.owed
theorem CelAt.keep {w w' : World} {c : CelX} (h : CelAt w c) (hb : Below w.heap.size w w') : CelAt w' c := ⟨h.f.keep hb, h.b.keep hb, h.a.keep hb, h.o.keep hb⟩
/-- Its lists lie in memory of their own. -/
structure CelOwn (B : Nat) (w : World) (c : CelX) : Prop where
  f : w.ownsRow B 72 2 (.slice c.fa c.v.fr.length c.fc) c.v.fr.length (celC amE c.v.fr)
  b : w.ownsRow B 121 4 (.slice c.ba c.v.bids.length c.bc) c.v.bids.length (celC ordE c.v.bids)
  a : w.ownsRow B 121 4 (.slice c.aa c.v.asks.length c.ac) c.v.asks.length (celC ordE c.v.asks)
  o : w.ownsRow B 124 3 (.slice c.oa c.v.owed.length c.oc) c.v.owed.length (celC owdE c.v.owed)
  sf : c.v.fr.length * 16 ≤ 140737488355328
  sb : c.v.bids.length * 32 ≤ 140737488355328
  sa : c.v.asks.length * 32 ≤ 140737488355328
  so : c.v.owed.length * 24 ≤ 140737488355328
theorem CelOwn.at_ {B : Nat} {w : World} {c : CelX} (h : CelOwn B w c) : CelAt w c := ⟨own_sgot h.f h.sf, own_sgot h.b h.sb, own_sgot h.a h.sa, own_sgot h.o h.so⟩
theorem CelOwn.keep {B : Nat} {w w' : World} {c : CelX} (h : CelOwn B w c) (hb : Below w.heap.size w w') : CelOwn B w' c := ⟨own_keep h.f hb, own_keep h.b hb, own_keep h.a hb, own_keep h.o hb, h.sf, h.sb, h.sa, h.so⟩
theorem CelOwn.base {B B' : Nat} {w : World} {c : CelX} (h : CelOwn B w c) (hb : B' ≤ B) : CelOwn B' w c := ⟨own_base h.f hb, own_base h.b hb, own_base h.a hb, own_base h.o hb, h.sf, h.sb, h.sa, h.so⟩
/-- Cells in memory. -/
structure Cels (w : World) (v : Value) (l : List CelX) : Prop where
  row : SGot 10 144 celE w v l
  at_ : ∀ c ∈ l, CelAt w c
theorem Cels.keep {w w' : World} {v : Value} {l : List CelX} (h : Cels w v l) (hb : Below w.heap.size w w') : Cels w' v l := ⟨h.row.keep hb, fun c hc => (h.at_ c hc).keep hb⟩
theorem Cels.nil (w : World) : Cels w (.slice none 0 0) [] := ⟨SGot.nil _ _ _ _ _ _ (Nat.zero_le _), fun _ h => by cases h⟩
structure CelsOwn (B : Nat) (w : World) (v : Value) (l : List CelX) : Prop where
  row : w.ownsRow B 81 10 v l.length (celC celE l)
  own : ∀ c ∈ l, CelOwn B w c
  siz : l.length * 144 ≤ 140737488355328
theorem CelsOwn.at_ {B : Nat} {w : World} {v : Value} {l : List CelX} (h : CelsOwn B w v l) : Cels w v l := ⟨own_sgot h.row h.siz, fun c hc => (h.own c hc).at_⟩
theorem CelsOwn.keep {B : Nat} {w w' : World} {v : Value} {l : List CelX} (h : CelsOwn B w v l) (hb : Below w.heap.size w w') : CelsOwn B w' v l := ⟨own_keep h.row hb, fun c hc => (h.own c hc).keep hb, h.siz⟩
theorem CelsOwn.base {B B' : Nat} {w : World} {v : Value} {l : List CelX} (h : CelsOwn B w v l) (hb : B' ≤ B) : CelsOwn B' w v l := ⟨own_base h.row hb, fun c hc => (h.own c hc).base hb, h.siz⟩
theorem CelsOwn.nil (B : Nat) (w : World) : CelsOwn B w (.slice none 0 0) [] := ⟨own_nil _ _, (fun _ h => by cases h), by simp⟩
end Go.Proofs.YtilinemcmgjiiaaDoor
