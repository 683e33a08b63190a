/- Where a message's transaction stands, and the peer that told it: walked. -/
import Derived.Test.YtilinemcmgjiiaaDoorFd
namespace Go.Proofs.YtilinemcmgjiiaaDoor
open Go.RowKit
set_option linter.all false
/-- A message, and where its lists lie. -/
structure MesX where
  kind : Int
  frm : Int
  dst : Int
  c : Int
  q : Int
  k : Int
  n : Int
  r : ReqV
  yes : Bool
  x : AnsX
  cx : List CelX
  ca : Option Addr
  cc : Nat
def mesE (m : MesX) : List Value := [.int .i64 m.kind, .int .i64 m.frm, .int .i64 m.dst, .int .i64 m.c, .int .i64 m.q, .int .i64 m.k, .int .i64 m.n] ++ (reqC m.r).toList ++ [.bool m.yes, .int .i64 m.x.v.code, .int .i64 m.x.v.num, m.x.am, m.x.fl, .slice m.ca m.cx.length m.cc]
theorem mesK (m : MesX) : (mesE m).length = 24 := rfl
structure MesAt (w : World) (m : MesX) : Prop where
  x : AnsAt w m.x
  c : Cels w (.slice m.ca m.cx.length m.cc) m.cx
theorem MesAt.keep {w w' : World} {m : MesX} (h : MesAt w m) (hb : Below w.heap.size w w') : MesAt w' m := ⟨h.x.keep hb, h.c.keep hb⟩
/-- Which peer it is. -/
def isP (k n g : Int) (p : PeeV) : Bool := (p.k == k && p.n == n) && (p.g == g)
def pidL (k n g : Int) : List PeeV → Nat → Option Nat
  | [], _ => none
  | p :: l, j => if isP k n g p = true then some j else pidL k n g l (j + 1)
def fndL (c q k n g : Int) : List TraX → Nat → Int → Int × Int
  | [], _, at0 => (at0, -1)
  | t :: l, i, at0 => if (t.c == c && t.q == q) = true then (match pidL k n g t.ps 0 with | some j => ((i : Int), (j : Int)) | none => fndL c q k n g l (i + 1) i) else fndL c q k n g l (i + 1) at0
theorem pidL_at {l : List PeeV} {t : Nat} (h : t < l.length) (k n g : Int) (j : Nat) : pidL k n g (l.drop t) j = if isP k n g l[t] = true then some j else pidL k n g (l.drop (t + 1)) (j + 1) := by
  rw [List.drop_eq_getElem_cons h]
  rfl
theorem fndL_at {l : List TraX} {t : Nat} (h : t < l.length) (c q k n g at0 : Int) : fndL c q k n g (l.drop t) t at0 = if (l[t].c == c && l[t].q == q) = true then (match pidL k n g l[t].ps 0 with | some j => ((t : Int), (j : Int)) | none => fndL c q k n g (l.drop (t + 1)) (t + 1) t) else fndL c q k n g (l.drop (t + 1)) (t + 1) at0 := by
  rw [List.drop_eq_getElem_cons h]
  rfl
end Go.Proofs.YtilinemcmgjiiaaDoor
