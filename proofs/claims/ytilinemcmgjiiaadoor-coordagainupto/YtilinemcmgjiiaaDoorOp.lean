/- Out, in plain data; a message of one's own. -/
import Derived.Test.YtilinemcmgjiiaaDoorHp
namespace Go.Proofs.YtilinemcmgjiiaaDoor
open Go.RowKit
set_option linter.all false
theorem mes1 (m : MesX) : ∀ u ∈ mesE m, u.oneCell' = true := by
  intro u hu
  simp only [mesE, reqC, AnsX.am, AnsX.fl, List.cons_append, List.nil_append, List.mem_cons, List.not_mem_nil, or_false] at hu
  rcases hu with rfl | rfl | rfl | rfl | rfl | rfl | rfl | rfl | rfl | rfl | rfl | rfl | rfl | rfl | rfl | rfl | rfl | rfl | rfl | rfl | rfl | rfl | rfl | rfl <;> rfl
theorem infoMes : (Tryd.prog.info? 47).map (fun i => (i.zero, i.size, i.bytes)) = some (some (.agg #[.int .i64 0, .int .i64 0, .int .i64 0, .int .i64 0, .int .i64 0, .int .i64 0, .int .i64 0, .int .i64 0, .int .i64 0, .int .i64 0, .int .i64 0, .int .i64 0, .int .i64 0, .int .i64 0, .bool false, .int .i64 0, .int .i64 0, .int .i64 0, .bool false, .int .i64 0, .int .i64 0, .slice none 0 0, .slice none 0 0, .slice none 0 0]), 24, 240) := by kernel_rfl
/-- What of a message a statement looks at. -/
def mkey (m : MesX) : Int × Int × Int × Bool := (m.kind, m.c, m.q, m.yes)
def outP (t : TraV) (p : PeeV) : List (Int × Int × Int × Bool) :=
  if t.st = 1 then (if p.vo = true then [] else [(2, t.c, t.q, false)]) else (if p.ac = true then [] else [(4, t.c, t.q, t.st == 2)])
def outQ (t : TraV) (ps : List PeeV) : List (Int × Int × Int × Bool) := ps.flatMap (outP t)
def outL (l : List TraV) : List (Int × Int × Int × Bool) := l.flatMap (fun t => outQ t t.ps)
def cntL (l : List TraV) : Nat := l.foldr (fun t n => t.ps.length + n) 0
theorem outP_len (t : TraV) (p : PeeV) : (outP t p).length ≤ 1 := by unfold outP; split <;> split <;> simp
theorem outQ_len (t : TraV) : ∀ ps : List PeeV, (outQ t ps).length ≤ ps.length
  | [] => by simp [outQ]
  | p :: ps => by
    have h1 := outP_len t p
    have h2 := outQ_len t ps
    have e : outQ t (p :: ps) = outP t p ++ outQ t ps := rfl
    rw [e, List.length_append, List.length_cons]
    omega
theorem outL_len : ∀ l : List TraV, (outL l).length ≤ cntL l
  | [] => by simp [outL]
  | t :: l => by
    have h1 := outQ_len t t.ps
    have h2 := outL_len l
    have e : outL (t :: l) = outQ t t.ps ++ outL l := rfl
    have e2 : cntL (t :: l) = t.ps.length + cntL l := rfl
    rw [e, e2, List.length_append]
    omega
theorem cnt_take : ∀ (l : List TraV) (t : Nat) (h : t < l.length), cntL (l.take t) + l[t].ps.length ≤ cntL l
  | [], t, h => by simp at h
  | x :: l, 0, h => by
    have e : cntL (x :: l) = x.ps.length + cntL l := rfl
    rw [e]
    show cntL [] + x.ps.length ≤ _
    simp [cntL]
  | x :: l, t + 1, h => by
    have e : cntL (x :: l) = x.ps.length + cntL l := rfl
    have e2 : cntL ((x :: l).take (t + 1)) = x.ps.length + cntL (l.take t) := rfl
    have hl : t < l.length := by simpa using h
    have := cnt_take l t hl
    rw [e, e2]
    show x.ps.length + cntL (l.take t) + (l[t]'hl).ps.length ≤ _
    omega
/-- Messages of the call's own. -/
def OutBack (l : List TraV) (w : World) (e : Ending) (w' : World) : Prop := ∃ a c zs, e = .returned (.slice a zs.length c) ∧ zs.map mkey = outL l ∧ w'.ownsRow w.heap.size 47 24 (.slice a zs.length c) zs.length (celC mesE zs) ∧ zs.length * 240 ≤ 140737488355328 ∧ Below w.heap.size w w'
/-- On its way. -/
structure OS (w : World) (g : Int) (a : Option Addr) (n cp : Nat) (wx : World) (v : Value) (zs : List MesX) : Prop where
  row : wx.ownsRow w.heap.size 47 24 v zs.length (celC mesE zs)
  bel : Below w.heap.size w wx
  box : wx.heap[w.heap.size]? = some (.cells #[.int .i64 g, .slice a n cp] 25 (0, 0))
theorem OS.keep {w wx w' : World} {g : Int} {a : Option Addr} {n cp : Nat} {v : Value} {zs : List MesX} (h : OS w g a n cp wx v zs) (hb : Below wx.heap.size wx w') : OS w g a n cp w' v zs := ⟨own_keep h.row hb, below_via h.bel hb, blkK h.box hb⟩
/-- A message is appended. -/
theorem OS.app {w wx : World} {g : Int} {a : Option Addr} {n cp : Nat} {v : Value} {zs : List MesX} (h : OS w g a n cp wx v zs) (m : MesX) (hl : (zs.length + 1) * 240 ≤ 140737488355328) : ∃ a' c' w', (Builtin.append_ #[53, 53] 53 #[v, .slice (some ⟨wx.heap.size, 0, none⟩) 1 1]).run Tryd.prog (wx.alloc (.cells (mesE m).toArray 47)) = .ok (.slice a' (zs.length + 1) c') w' ∧ OS w g a n cp w' (.slice a' (zs.length + 1) c') (zs ++ [m]) ∧ ∀ (k : Nat) (cs : Array Value) (t : TypeId), wx.heap[k]? = some (.cells cs t (0, 0)) → t ≠ 47 → w'.heap[k]? = some (.cells cs t (0, 0)) := by
  have hb := below1 wx (.cells (mesE m).toArray 47)
  have h1 := h.keep hb
  obtain ⟨v', w', hrun, how, hgr⟩ := app1 (enc := mesE) (t := 53) mesK mes1 Tryd.underlying53 infoMes rfl (by omega) (wx.alloc (.cells (mesE m).toArray 47)) w.heap.size v zs m wx.heap.size 1 h1.bel.size h1.row (heap_alloc_new wx _) hl (by unfold maxLen; omega)
  obtain ⟨a', c', rfl⟩ := own_len how
  have e : (zs ++ [m]).length = zs.length + 1 := by simp
  rw [e] at hrun
  refine ⟨a', c', w', hrun, ⟨by rw [e] at how ⊢; exact how, grown_own hgr h1.row (Nat.le_refl _) h1.bel, box_type hgr h1.row h1.box (by decide)⟩, fun k cs t hk ht => box_type hgr h1.row (blkK hk hb) (fun e => ht e.symm)⟩
end Go.Proofs.YtilinemcmgjiiaaDoor
